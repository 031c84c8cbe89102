import PyProof.Rows.All
import KE.KFromBytes
import KE.KTab
import KE.KIsAll
import KE.KDictOf
import KE.KEqDeep
import KE.KItem
import KE.KUnpackStar
import Wide.FinOn
import Wide.Line
import KE.KSortTup
import PyProof.AttrMissSeq
import OpenK.KOwn
import Open.TreeImp
import KE.KIntText
import PyProof.Rows.StrNews
import PyProof.Rows.SetFrom
import PyProof.StrWalks
import PySem.Challenge.RW_lanepacks_k39_texts_refused
set_option Elab.async false
set_option linter.all false
set_option maxRecDepth 100000
set_option maxHeartbeats 4000000
set_option bootstrap.genMatcherCode false
set_option compiler.extract_closed false
open PySem renaming wpAny_bind→Aa,Shared→Ab,wpAny_pure→Af,wpAny_mono→Ao,Program→Ar,mem_of_lookup→Ax,sizeLine_eq→Bg,bootBuiltins→Bj,wpAny_holding→Bk,Around→Bo,compareOp→Bv,wpAny_callSpecial?_slot→Ce,wpAny_newObj_type→Cf,FuncData→Ch,wpAny_field→Co,backTo→Cu,wpAny_call_entry→Dd,wpAny_truthy_bool→Dg,letOwnedTupleGo→Dh,call_meets→Dn,binaryOp→Dq,wpAny_Call_Name_kw→Dr,wpAny_standAt→Ds,wpAny_setField_rec→Dt,wpAny_seqItems→Dw,Builtin→Dy,wpAny_pyIter_list→Dz,codeAny→Ef,keywordEach→Eg,codeAny_mono→Em,Spec→Es,wpAny_assign_Name→Ew,attributeBase→Ex,assign→Fe,wpAny_passesOwn→Fo,behindInMarks→Fp,sliceBounds→Ga,Keyword→Gb,intText?→Gd,wpAny_updateSeq_pair→Gh,backToKw→Gj,sysModules→Gm,importedModules→Gp,unpackItems→Gw,pushCells_keeps→Ha,wpAny_newFunctionEnv_cells→Hf,recursionLimit→Ho,newFunctionEnv→Ht,wpAny_binaryOp_repeat_ref→Hu,wpAny_sequenceKey→Ib,typeIs_str→Ic,wpAny_rule→Ig,pushCells→Ih,wpAny_comprehension_free→Ii,swapsWithSole→Im,swappedStores→Io,getItem→Ip,wpAny_onRaise→Iv,noFill_tuple_add→Iy,notIterableAtAll→Iz,wpAny_pyNext_list_item→Je,codeAny_compStart_list→Jh,DictEntry→Jj,wpAny_execs_nil→Jk,wpAny_pyNext_list_end→Jl,codeAny_call_function→Jm,wpAny_loadPart'→Jn,concat_meets→Jp,theTreesLotGoes→Jq,wpAny_specialOf→Jr,typeIs_int→Jy,ZipApart→Jz,codeAny_call_builtin→Kc,PyData→Kf,callerA→Kk,length_partsBetween→Ko,bltViewBooted→Kq,wpAny_pyIter_tuple→Ks,seq_tuple_add→Kv,tupleKind_room_in1→Kx,wpAny_attempt→Kz,name_of_addr→La,standAt→Lg,BindsTo→Lh,wpAny_call→Li,valueAt→Lk,wpAny_typeOf→Lv,typeOf→Lx,codeAny_loop→Ly,seqSlot_of→Mk,bindArgs→Mo,compTurn→Mq,compEnvC→Ms,Params→Mv,swapsWith→Na,pyIter→Nb,lastMarks→Nc,Result→Nd,noteFrame→Nf,wpAny_noted→Ng,wpAny_letGo→Nj,strValues→Nl,wpAny_Name→Nw,call→Ny,isInstance→Oa,Within→Op,again→Oz
open Bool renaming and_eq_true→Ac,false_ne_true→Ca,false_eq_true→Fv,or_eq_true→Gx,and_eq_true_iff→Ke,or_false→Oi
open PySem.Heap renaming get?_push_of_some→Ad,lt_size→Ag,get?_push_size→Ap,size_push→Bx,SameBut→Ed,ExtBut→Gv,FlyingW→Jv
open PySem.W renaming Frag→Ae,mg_of→Cc,mg_none_of→Ct,kia_one→Dj,nsIn→Ep,keepIn→Fq,kitOne→Gi,callWith_K→Hl,cellsFrom_some→Iw,fnOf→Ix,SharedT→Ki,kitx_list→Kj,hideAll_get→Kr,codeIn→Kt,looks_findIn→Ma,findIn→Mn,opening→Mu,methodObj→My,looseW→Nr,absHeap→Ob,openEnds→Od,instObj→Oo,OpenLaw→Ot,clsIn→Pa
open List renaming getElem?_eq_some_iff→Ah,getElem?_append_left→Ai,size_toArray→Aj,mem_append_right→Am,replicate→Aq,mem_append_left→Av,range→Aw,mem_cons_of_mem→Ay,getElem?_set_ne→Az,mem_cons→Ba,getElem?_take_of_lt→Bl,getElem?_append_right→Bm,lookup_cons→Bp,getElem?_replicate→Br,getElem?_eq_none→Bt,length_take→Bw,getElem?_set_self→By,mem_cons_self→Bz,mem_singleton→Cb,append_nil→Cg,getElem?_map→Cj,lookup_cons_self→Ck,length_append→Cn,length_cons→Cr,all_eq_true→Cs,mem_range→Cy,drop_eq_getElem_cons→Cz,length_set→Db,length_map→Dk,take_of_length_le→Dl,mem_of_getElem?→Dx,nodup_cons→Ea,replicate_succ→Eh,drop_length→Ei,not_mem_nil→Ej,mem_append→El,find?_cons→En,flatten_cons→Ey,forall_mem_cons→Fa,getElem?_eq_getElem→Fi,map_cons→Ft,append_assoc→Gc,length_replicate→Ge,mem_iff_getElem?→Gf,take_append_of_le_length→Gg,filterMap_cons→Gr,of_mem_zip→Gs,forIn_cons→Gu,mem_filterMap→Hj,getElem?_eq_none_iff→Hs,zip_nil_left→Ia,length_eq_zero_iff→Iu,cons_append→Ja,range_succ_eq_map→Jg,length_nil→Jo,getElem?_mapIdx→Kb,drop_zero→Kg,forIn_nil→Kh,lookup→Kl,zip_cons_cons→Ku,getElem?_take→Lb,ext_getElem?→Lm,map_nil→Lw,mem_map→Mb,getElem_inj→Mc,length_drop→Md,zipIdx_cons→Mg,mem_filter→Mz,zip_append→Nh,zipIdx_nil→Ni,mapM_cons→Nq,all_cons→Oj,any_cons→Ol
open Option renaming bind_some→Ak,getD_none→Me
open Nat renaming lt_of_lt_of_le→Al,le_refl→An,ne_of_lt→Au,lt_irrefl→Bq,le_trans→Cq,le_of_succ_le→Cw,zero_le→Fd,ne_of_gt→Ff,le_succ→Hb,not_lt_zero→Jt,zero_add→Ls,le_of_lt→Lu,lt_of_not_le→Mf,succ_le_succ→Mi,not_le_of_lt→Mj,min_le_left→Nk
open Or renaming inr→As,inl→Bi
open PySem.NameKind renaming free→At,cell→Bb
open PySem.Builtin.SmallTypes renaming nextOf→Be,ownedTupleIsFree→Ci,ownedTupleHandOut→Fc
open PySem.Value renaming ref→Bf,bool→Et,type→Jx,notImplemented→Ka,int→Mw,str→Mx,isStrOf→Of,isInt→Ov,float→Ow
open Option.some renaming inj→Bu
open ForInStep renaming yield→Cd
open PySem.Builtin.Str renaming occurrences→Cm,partsBetween→Ij,strKind→Kp
open PyProof.Rows renaming slot_tuple_getitem→Cv,callWith_type1→Di,assignInOrder_cons→Ek,IntsAre→Fz,assignInOrder_nil→Hx,AllBare→Il,subscriptTail_builtinR→Jf,firstMet→Lc,assign_Tuple→Lz,expectedOf→Nt,plainGoodE→Nu,plainGoodD→Nv,drecsOf→Oe,tail_any→Oh
open PySem.AutoSeq1 renaming wpAny_loadPart'→Dc,sub_tuple_tuple→Hz,idx_int→Jd
open PySem.PyData renaming keyHash→De,depthAll→Er,eqv→Go,canLay0→Hr,depth→Js,int→Ll,canLayAll0→Lp
open PySem.SeqAt renaming shaped→Df
open PySem.F renaming slot_tuple_iterator_next→Dm,slot_dict_get→Eo,args_tuple_add_2→Fg,slot_list_append→Fj,type_list_append→Fk,slot_list_extend→Fl,type_list_extend→Fm,entry_tuple_add→Fs,args_dict_get_2→Fu,slot_tuple_add→Fw,entry_dict_get→Fy,args_tuple_iterator_next_1→Gk,entry_tuple_iterator_next→Gy,slot_zip_next→Gz,slot_int_rmul→Hc,args_str_split_2→Hm,slot_dict_getitem→Hq,entry_str_split→Ik,plainAttrs_list→Ir,slot_str_split→Jb,plainAttrs_str→Ji,args_tuple_mul_2→Ld,args_zip_next_1→Lo,args_int_rmul_2→Lq,entry_tuple_mul→Lr,entry_zip_next→Mh,entry_int_rmul→Ml,slot_tuple_mul→Mm,fills_int_mul→Nm
open PySem.Builtin.Slice renaming slicePlaces→Du,sliceAdjust→Fb,sliceApplied→Hg,slicePartIndex→Mp,sliceFields→Np
open PyProof.Rows.KTD renaming datumAt→Dv
open PySem.Builtin.Tuple renaming tupleExact→Eb,tupleItemsOf→Hh,tupleTooMany→Hi,tupleCompareSizes→Lj,tupleIsExact→No
open PySem.Builtin.List renaming listTooLong→Ec
open Array renaming length_toList→Ee,toList→Oq
open False renaming elim→Eu
open PySem.Calls renaming evalArgs_plain→Ez,callWith_builtin→Fx,Name_function_global→He,spliced_cons→Hk,spliced_nil→Hy
open PySem.Str renaming ofString→Fh
open Ne renaming symm→Fn
open Prod.mk renaming inj→Gq
open PySem.PassesOwn renaming never→Hd
open Int renaming emod_lt_of_pos→Hn,emod_nonneg→Jw,toNat_natCast→Ln
open PySem.Challenge renaming pw_lanepacks_k39_texts_refused→Hv,rw_lanepacks_k39_texts_refused→Hw
open List.Pairwise renaming nil→Ie
open Prod renaming snd→Iq,fst→Mr
open PySem.StrLaws renaming occ_length_le→Ju
open PySem.SeqAt.EqAt renaming bool_bool→Kd
open PySem.Heap.SameBut renaming update→Km
open PySem.Builtin.Dict renaming missed→Kn
open PyProof.Rows.IsTup renaming new→Kw
open PySem.Obj renaming data_mapFields→Ky,mapSeq→Nx
open Sum renaming inl→Le,inr→Lf
open PySem.W.Looks renaming ld→Mt
open PySem.Walks renaming list→Nz
open PySem.Builtin.Range renaming rangeSize→Og
open PySem.Heap.UpToSlots renaming of_keeps→Om
open PySem.Shared renaming heap→Ox
open PySem.Heap.Ns renaming new→Oy
open PySem.Heap.IsSliceOf renaming new→Pb
open PySem.W.WShape renaming has→Pc
noncomputable section
namespace KK
open PySem PySem.W
noncomputable def O8:List Obj->Nat->BT->Option BT
 |[],_,t=>some t
 |o::l,n,t=>match((t.ins n o).get n).isSome with
  |true=>O8 l (n+1) (t.ins n o)
  |false=>none
theorem SQ{life:Life}: ∀{l:List Obj} {n:Nat} {t t':BT},O8 l n t=some t'->Ob t' (n+l.length) life=⟨(Ob t n life).objs++l.toArray,life⟩
 | [],n,t,t',h => by cases h;simp [Ob]
 | o :: l,n,t,t',h => by
  unfold O8 at h
  split at h
  ·rename_i g
   have ih:=SQ (life:=life) h
   rw[show n+(o::l).length=n+1+l.length by simp;omega,ih,absHeap_ins g]
   simp[Heap.push]
  ·cases h
noncomputable def toT(s:Ab):Option Ki:=(O8 s.heap.objs.toList 0 .nil).map fun t=>⟨t,s.heap.objs.size,s.heap.life,s.gens,s.drawn,s.toks,s.os⟩
theorem NK{s:Ab}{u:Ki}(h:toT s=some u):u.abs=s:=by
 unfold toT at h
 cases e:O8 s.heap.objs.toList 0 .nil with
 |none=>rw[e] at h;cases h
 |some t=>
  rw[e] at h
  cases h
  have:=SQ (life:=s.heap.life) e
  simp only[Ls,Ee] at this
  obtain⟨⟨objs,life⟩,gens,drawn,toks,os⟩:=s
  show(⟨Ob t objs.size life,gens,drawn,toks,os⟩:Ab)=_
  rw[this]
  simp[Ob,BT.list]
noncomputable def XN(tb:String->Option Dy)(p:Ar)(w:World)(n₀:Nat)(ann:Option Value):Nat->Ki->Thread->Option Ki
 | 0,_,_ => none
 | n + 1,s,t => match through t with
  | true => some s
  | false => match stepOk n₀ ann t with
   |false=>none
   |true=>match stepT (denote tb) p w s t with
    |some (s',t')=>XN tb p w n₀ ann n s' t'
    |none=>none
theorem VE{tb:String->Option Dy}{p:Ar}{w:World}{n₀:Nat}{ann:Option Value}: ∀{n:Nat} {s s':Ki} {t:Thread},XN tb p w n₀ ann n s t=some s'->topRun tb p w n₀ ann n s.abs t=some s'.abs
 | 0,_,_,_,h => by cases h
 | n + 1,s,s',t,h => by
  unfold XN at h
  unfold topRun
  cases ht:through t with
  | true => rw [ht] at h;cases h;rfl
  |false=>
   rw[ht] at h
   cases hk:stepOk n₀ ann t with
   |false=>rw[hk] at h;cases h
   |true=>
    rw[hk] at h
    cases hs:stepT (denote tb) p w s t with
    |none=>rw[hs] at h;cases h
    |some r=>obtain⟨s₂,t₂⟩:=r;rw[hs] at h;rw[stepT_spec hs];exact VE h
noncomputable def HK(tb:String->Option Dy)(p:Ar)(w:World):Nat->Ki->Thread->Option Ki
 | 0,_,_ => none
 | n + 1,s,t => match t.atExitBegin with
  |some []=>some s
  |some (_::_)=>none
  |none=>match stepT (denote tb) p w s t with
   |some (s',t')=>HK tb p w n s' t'
   |none=>none
theorem M2{tb:String->Option Dy}{p:Ar}{w:World}: ∀{n:Nat} {s s':Ki} {t:Thread},HK tb p w n s t=some s'->importEnds tb p w n s.abs t=some s'.abs
 | 0,_,_,_,h => by cases h
 | n + 1,s,s',t,h => by
  unfold HK at h
  unfold importEnds
  cases he:t.atExitBegin with
  |some x=>
   rw[he] at h
   cases x with
   |nil=>cases h;rfl
   |cons=>cases h
  |none=>
   rw[he] at h
   cases hs:stepT (denote tb) p w s t with
   |none=>rw[hs] at h;cases h
   |some r=>obtain⟨s₂,t₂⟩:=r;rw[hs] at h;dsimp only;rw[stepT_spec hs];exact M2 h
noncomputable def PJ(tb:String->Option Dy)(p:Ar)(w:World)(N:Nat):Option Ab:=
 (toT (start (Mu p)).1).bind fun u => (HK tb (Mu p) w N u (start (Mu p)).2).bind fun u1 => (fenceModules? p u1.abs).bind fun s₀ =>
 match s₀.heap.isNs mainGlobals && s₀.gens.size==0 with
 | true => (toT s₀).bind fun v => (XN tb p w s₀.heap.objs.size (s₀.heap.nsMap mainGlobals "__annotations__") N v (topStub p)).bind fun v1 =>
  match staticsOk (Gp p.main.body) s₀.heap v1.abs.heap && namesBound p v1.abs.heap && gensDone v1.abs && laidKept s₀.heap v1.abs.heap with
   |true=>some v1.abs
   |false=>none
 |false=>none
theorem HB{tb:String->Option Dy}{p:Ar}{w:World}{N:Nat}{s:Ab}(h:PJ tb p w N=some s):Od tb p w N=some s:=by
 unfold PJ at h
 unfold Od fencedOpening
 cases e1:toT (start (Mu p)).1 with
 | none => rw [e1] at h;cases h
 |some u=>
  rw[e1,Ak] at h
  cases e2:HK tb (Mu p) w N u (start (Mu p)).2 with
  | none => rw [e2] at h;cases h
  |some u1=>
   rw[e2,Ak] at h
   have e3:=M2 e2
   rw[NK e1] at e3
   rw[e3,Ak]
   cases e4:fenceModules? p u1.abs with
   | none => rw [e4] at h;cases h
   |some s₀=>
    rw[e4,Ak] at h
    rw[Ak]
    unfold topFrom
    cases e5:(s₀.heap.isNs mainGlobals && s₀.gens.size==0) with
    | false => rw [e5] at h;cases h
    |true=>
     rw[e5] at h
     dsimp only at h⊢
     cases e6:toT s₀ with
     | none => rw [e6] at h;cases h
     |some v=>
      rw[e6,Ak] at h
      cases e7:XN tb p w s₀.heap.objs.size (s₀.heap.nsMap mainGlobals "__annotations__") N v (topStub p) with
      |none=>rw[e7] at h;cases h
      |some v1=>
       rw[e7,Ak] at h
       have e8:=VE e7
       rw[NK e6] at e8
       rw[e8,Ak]
       exact h
theorem PX{α:Type}{tb:String->Option Dy}{p:Ar}{w:World}{N:Nat}{f:Ab->α}{v:α}(h:(PJ tb p w N).map f=some v):(Od tb p w N).map f=some v:=by
 cases e:PJ tb p w N with
 |none=>rw[e] at h;cases h
 |some s=>
  rw[e] at h
  rw[HB e]
  exact h
end KK
namespace RR
open PySem
def top(i:Nat):Stmt:=PySem.Challenge.pw_lanepacks_k39_texts_refused.main.body.getD i (.Pass ⟨0,0,0,0⟩)
end RR
namespace KK
open PySem PySem.W PySem.Calls PyProof.Rows
def dA(s:Stmt):Arguments:=match s with
 | .FunctionDef _ a _ _ _ _ _ _ _ _=>a
 |_=>⟨[],[],none,[],[],none,[]⟩
def dB(s:Stmt):List Stmt:=match s with
 | .FunctionDef _ _ b _ _ _ _ _ _ _=>b
 |_=>[]
def dS(s:Stmt):Scope:=match s with
 | .FunctionDef _ _ _ _ _ _ c _ _ _=>c
 |_=>{kind:= .function,names:=[],isGenerator:=false,isCoroutine:=false}
abbrev s(x:Str)(t:Nat):Value:= .str x t
abbrev e(P:Mv)(x:Str)(t:Nat)(v:Value):Jj:=⟨PyData.keyHash P x,s x t,v⟩
abbrev f(a i:Nat)(n:Str)(d m:Value):Nat×Obj:=(a,⟨.type "function",none,.func (fnOf n n (dA (RR.top i)) (dB (RR.top i)) (dS (RR.top i)) d .none .none m none (.ref (a - 1)) .none),#[]⟩)
abbrev fk(a i:Nat)(n:Str)(d k m:Value):Nat×Obj:=(a,⟨.type "function",none,.func (fnOf n n (dA (RR.top i)) (dB (RR.top i)) (dS (RR.top i)) d k .none m none (.ref (a - 1)) .none),#[]⟩)
abbrev co(a:Nat)(n:Str)(t:Nat)(l k:Int)(u:Nat)(x y z v:Value):Nat×Obj:=(a,⟨.type "code",none,.fields #[s n t,s n (t+1),s "/claim/cut.py" (t+2),.int l 0,.int k 0,.int 0 0,.int 0 0,.int 3 0,x,.bool true,.int 181 0,y,.none,z,v,.ref (a - 1),.int u 0,.int l 0,s "/claim/cut.py" (u+1)],#[]⟩)
abbrev c(a:Nat)(n:Str)(t:Nat)(l k:Int)(u:Nat):Nat×Obj:=co a n t l k u (.ref (a - 5)) (.ref (a - 4)) (.ref (a - 3)) (.ref (a - 2))
abbrev b(a:Nat)(n:Str)(t:Nat)(l k:Int)(u:Nat):Nat×Obj:=co a n t l k u (.ref (a - 3)) (.ref (a - 2)) .none .none
abbrev m:Value:=s "lanepacks.blocktexts" 586
noncomputable def K(P:Mv):Frag:=[(3,⟨.type "dict",none,.dict #[e P "__name__" 165 (s "law_lanepacks_k39_texts_refused" 647),e P "__doc__" 166 (.none),e P "__package__" 167 (.none),e P "__loader__" 168 (.builtin "__main__.__loader__#opaque"),e P "__spec__" 169 (.none),e P "__annotations__" 170 (.ref 6),e P "__builtins__" 171 (.ref 4),e P "__file__" 173 (s "/claim/cut.py" 172),e P "__cached__" 174 (.none),e P "PackError" 206 (.ref 24),e P "NoBlock" 222 (.ref 37),e P "NoCells" 238 (.ref 49),e P "NoRow" 263 (.ref 68),e P "NoLanes" 279 (.ref 80),e P "NoPlan" 295 (.ref 92),e P "NoProgram" 311 (.ref 104),e P "NoTree" 327 (.ref 116),e P "NoLoop" 343 (.ref 128),e P "NoText" 359 (.ref 140),e P "NoName" 384 (.ref 159),e P "TooMany" 400 (.ref 171),e P "TooLong" 416 (.ref 183),e P "NotValid" 441 (.ref 202),e P "Nothing" 457 (.ref 214),e P "MOST_WORD" 461 (.int 999 460),e P "DEEDS" 469 (.ref 217),e P "is_whole" 478 (.ref 224),e P "MOST_SURE" 482 (.int 64 481),e P "MOST_ROWS" 484 (.int 40 483),e P "MOST_PLACE" 486 (.int 63 485),e P "DEED_PARTS" 489 (.ref 225),e P "OTHER_PARTS" 515 (.ref 226),e P "WRITERS" 518 (.ref 233),e P "parts_of" 525 (.ref 240),e P "makes_word" 532 (.ref 247),e P "may_name" 540 (.ref 254),e P "fits" 549 (.ref 261),e P "is_row" 555 (.ref 266),e P "is_block" 566 (.ref 273),e P "LEAST_LANES" 570 (.int 2 569),e P "MOST_LANES" 572 (.int 4 571),e P "is_lanes" 579 (.ref 280),e P "rows_within" 585 (.ref 285),e P "DIGITS" 589 (s "0123456789" 588),e P "number_in" 595 (.ref 290),e P "shown" 601 (.ref 295),e P "parts_in" 607 (.ref 300),e P "read" 616 (.ref 307),e P "is_rising" 622 (.ref 312),e P "is_written_pack" 628 (.ref 317),e P "is_written_plan" 634 (.ref 322),e P "shown_plan" 640 (.ref 327),e P "read_plan" 646 (.ref 332),e P "_law_cell_at" 658 (.ref 339),e P "_law_mixed" 668 (.ref 346),e P "_law_draw" 677 (.ref 353),e P "_law_pick" 686 (.ref 360),e P "_law_which" 694 (.ref 367),e P "_law_none" 703 (.ref 374),e P "_law_ask" 713 (.ref 381),e P "law" 723 (.ref 388)] 61,#[]⟩),
 (23,⟨.type "dict",none,.dict #[e P "__module__" 196 (s "lanepacks.errors" 187),e P "__firstlineno__" 200 (.int 2 199),e P "__static_attributes__" 201 (.ref 22),e P "__weakref__" 203 (.ref 25),e P "__doc__" 204 (.none)] 3,#[]⟩),
 (24,⟨.type "type",none,.cls {name:= "PackError",bases:=[.type "ValueError"],mro:=[.ref 24,.type "ValueError",.type "Exception",.type "BaseException",.type "object"],ns:=23,qualname:= "PackError",subclasses:=[.ref 37,.ref 49,.ref 68,.ref 80,.ref 92,.ref 104,.ref 116,.ref 128,.ref 140,.ref 159,.ref 171,.ref 183,.ref 202,.ref 214]},#[some (.ref 15),none,some (s "PackError" 189),some (s "PackError" 197),some (.builtin "ValueError.__new__"),some (.bool true)]⟩),
 (36,⟨.type "dict",none,.dict #[e P "__module__" 214 (s "lanepacks.errors" 187),e P "__firstlineno__" 218 (.int 4 217),e P "__static_attributes__" 219 (.ref 35),e P "__doc__" 220 (.none)] 2,#[]⟩),
 (37,⟨.type "type",none,.cls {name:= "NoBlock",bases:=[.ref 24],mro:=[.ref 37,.ref 24,.type "ValueError",.type "Exception",.type "BaseException",.type "object"],ns:=36,qualname:= "NoBlock"},#[some (.ref 28),none,some (s "NoBlock" 207),some (s "NoBlock" 215),some (.builtin "ValueError.__new__"),some (.bool true)]⟩),
 (48,⟨.type "dict",none,.dict #[e P "__module__" 230 (s "lanepacks.errors" 187),e P "__firstlineno__" 234 (.int 6 233),e P "__static_attributes__" 235 (.ref 47),e P "__doc__" 236 (.none)] 2,#[]⟩),
 (49,⟨.type "type",none,.cls {name:= "NoCells",bases:=[.ref 24],mro:=[.ref 49,.ref 24,.type "ValueError",.type "Exception",.type "BaseException",.type "object"],ns:=48,qualname:= "NoCells"},#[some (.ref 40),none,some (s "NoCells" 223),some (s "NoCells" 231),some (.builtin "ValueError.__new__"),some (.bool true)]⟩),
 (67,⟨.type "dict",none,.dict #[e P "__module__" 246 (s "lanepacks.errors" 187),e P "__firstlineno__" 250 (.int 8 249),e P "__init__" 258 (.ref 65),e P "__static_attributes__" 260 (.ref 66),e P "__doc__" 261 (.none)] 2,#[]⟩),
 (68,⟨.type "type",none,.cls {name:= "NoRow",bases:=[.ref 24],mro:=[.ref 68,.ref 24,.type "ValueError",.type "Exception",.type "BaseException",.type "object"],ns:=67,qualname:= "NoRow"},#[some (.ref 52),none,some (s "NoRow" 239),some (s "NoRow" 247),some (.builtin "ValueError.__new__"),some (.bool true)]⟩),
 (79,⟨.type "dict",none,.dict #[e P "__module__" 271 (s "lanepacks.errors" 187),e P "__firstlineno__" 275 (.int 13 274),e P "__static_attributes__" 276 (.ref 78),e P "__doc__" 277 (.none)] 2,#[]⟩),
 (80,⟨.type "type",none,.cls {name:= "NoLanes",bases:=[.ref 24],mro:=[.ref 80,.ref 24,.type "ValueError",.type "Exception",.type "BaseException",.type "object"],ns:=79,qualname:= "NoLanes"},#[some (.ref 71),none,some (s "NoLanes" 264),some (s "NoLanes" 272),some (.builtin "ValueError.__new__"),some (.bool true)]⟩),
 (91,⟨.type "dict",none,.dict #[e P "__module__" 287 (s "lanepacks.errors" 187),e P "__firstlineno__" 291 (.int 15 290),e P "__static_attributes__" 292 (.ref 90),e P "__doc__" 293 (.none)] 2,#[]⟩),
 (92,⟨.type "type",none,.cls {name:= "NoPlan",bases:=[.ref 24],mro:=[.ref 92,.ref 24,.type "ValueError",.type "Exception",.type "BaseException",.type "object"],ns:=91,qualname:= "NoPlan"},#[some (.ref 83),none,some (s "NoPlan" 280),some (s "NoPlan" 288),some (.builtin "ValueError.__new__"),some (.bool true)]⟩),
 (103,⟨.type "dict",none,.dict #[e P "__module__" 303 (s "lanepacks.errors" 187),e P "__firstlineno__" 307 (.int 17 306),e P "__static_attributes__" 308 (.ref 102),e P "__doc__" 309 (.none)] 2,#[]⟩),
 (104,⟨.type "type",none,.cls {name:= "NoProgram",bases:=[.ref 24],mro:=[.ref 104,.ref 24,.type "ValueError",.type "Exception",.type "BaseException",.type "object"],ns:=103,qualname:= "NoProgram"},#[some (.ref 95),none,some (s "NoProgram" 296),some (s "NoProgram" 304),some (.builtin "ValueError.__new__"),some (.bool true)]⟩),
 (115,⟨.type "dict",none,.dict #[e P "__module__" 319 (s "lanepacks.errors" 187),e P "__firstlineno__" 323 (.int 19 322),e P "__static_attributes__" 324 (.ref 114),e P "__doc__" 325 (.none)] 2,#[]⟩),
 (116,⟨.type "type",none,.cls {name:= "NoTree",bases:=[.ref 24],mro:=[.ref 116,.ref 24,.type "ValueError",.type "Exception",.type "BaseException",.type "object"],ns:=115,qualname:= "NoTree"},#[some (.ref 107),none,some (s "NoTree" 312),some (s "NoTree" 320),some (.builtin "ValueError.__new__"),some (.bool true)]⟩),
 (127,⟨.type "dict",none,.dict #[e P "__module__" 335 (s "lanepacks.errors" 187),e P "__firstlineno__" 339 (.int 21 338),e P "__static_attributes__" 340 (.ref 126),e P "__doc__" 341 (.none)] 2,#[]⟩),
 (128,⟨.type "type",none,.cls {name:= "NoLoop",bases:=[.ref 24],mro:=[.ref 128,.ref 24,.type "ValueError",.type "Exception",.type "BaseException",.type "object"],ns:=127,qualname:= "NoLoop"},#[some (.ref 119),none,some (s "NoLoop" 328),some (s "NoLoop" 336),some (.builtin "ValueError.__new__"),some (.bool true)]⟩),
 (139,⟨.type "dict",none,.dict #[e P "__module__" 351 (s "lanepacks.errors" 187),e P "__firstlineno__" 355 (.int 23 354),e P "__static_attributes__" 356 (.ref 138),e P "__doc__" 357 (.none)] 2,#[]⟩),
 (140,⟨.type "type",none,.cls {name:= "NoText",bases:=[.ref 24],mro:=[.ref 140,.ref 24,.type "ValueError",.type "Exception",.type "BaseException",.type "object"],ns:=139,qualname:= "NoText"},#[some (.ref 131),none,some (s "NoText" 344),some (s "NoText" 352),some (.builtin "ValueError.__new__"),some (.bool true)]⟩),
 (158,⟨.type "dict",none,.dict #[e P "__module__" 367 (s "lanepacks.errors" 187),e P "__firstlineno__" 371 (.int 25 370),e P "__init__" 379 (.ref 156),e P "__static_attributes__" 381 (.ref 157),e P "__doc__" 382 (.none)] 2,#[]⟩),
 (159,⟨.type "type",none,.cls {name:= "NoName",bases:=[.ref 24],mro:=[.ref 159,.ref 24,.type "ValueError",.type "Exception",.type "BaseException",.type "object"],ns:=158,qualname:= "NoName"},#[some (.ref 143),none,some (s "NoName" 360),some (s "NoName" 368),some (.builtin "ValueError.__new__"),some (.bool true)]⟩),
 (170,⟨.type "dict",none,.dict #[e P "__module__" 392 (s "lanepacks.errors" 187),e P "__firstlineno__" 396 (.int 30 395),e P "__static_attributes__" 397 (.ref 169),e P "__doc__" 398 (.none)] 2,#[]⟩),
 (171,⟨.type "type",none,.cls {name:= "TooMany",bases:=[.ref 24],mro:=[.ref 171,.ref 24,.type "ValueError",.type "Exception",.type "BaseException",.type "object"],ns:=170,qualname:= "TooMany"},#[some (.ref 162),none,some (s "TooMany" 385),some (s "TooMany" 393),some (.builtin "ValueError.__new__"),some (.bool true)]⟩),
 (182,⟨.type "dict",none,.dict #[e P "__module__" 408 (s "lanepacks.errors" 187),e P "__firstlineno__" 412 (.int 32 411),e P "__static_attributes__" 413 (.ref 181),e P "__doc__" 414 (.none)] 2,#[]⟩),
 (183,⟨.type "type",none,.cls {name:= "TooLong",bases:=[.ref 24],mro:=[.ref 183,.ref 24,.type "ValueError",.type "Exception",.type "BaseException",.type "object"],ns:=182,qualname:= "TooLong"},#[some (.ref 174),none,some (s "TooLong" 401),some (s "TooLong" 409),some (.builtin "ValueError.__new__"),some (.bool true)]⟩),
 (201,⟨.type "dict",none,.dict #[e P "__module__" 424 (s "lanepacks.errors" 187),e P "__firstlineno__" 428 (.int 34 427),e P "__init__" 436 (.ref 199),e P "__static_attributes__" 438 (.ref 200),e P "__doc__" 439 (.none)] 2,#[]⟩),
 (202,⟨.type "type",none,.cls {name:= "NotValid",bases:=[.ref 24],mro:=[.ref 202,.ref 24,.type "ValueError",.type "Exception",.type "BaseException",.type "object"],ns:=201,qualname:= "NotValid"},#[some (.ref 186),none,some (s "NotValid" 417),some (s "NotValid" 425),some (.builtin "ValueError.__new__"),some (.bool true)]⟩),
 (213,⟨.type "dict",none,.dict #[e P "__module__" 449 (s "lanepacks.errors" 187),e P "__firstlineno__" 453 (.int 39 452),e P "__static_attributes__" 454 (.ref 212),e P "__doc__" 455 (.none)] 2,#[]⟩),
 (214,⟨.type "type",none,.cls {name:= "Nothing",bases:=[.ref 24],mro:=[.ref 214,.ref 24,.type "ValueError",.type "Exception",.type "BaseException",.type "object"],ns:=213,qualname:= "Nothing"},#[some (.ref 205),none,some (s "Nothing" 442),some (s "Nothing" 450),some (.builtin "ValueError.__new__"),some (.bool true)]⟩),
 (217,⟨.type "tuple",none,.seq #[s "plus" 462,s "minus" 463,s "times" 464,s "least" 465,s "most" 466,s "less" 467,s "over" 468] 0,#[]⟩),
 f 224 19 "is_whole" (.none) (s "lanepacks.words" 458),
 c 223 "is_whole" 470 44 3 476,
 (225,⟨.type "tuple",none,.seq #[s "row" 487,s "row" 488] 0,#[]⟩),
 (226,⟨.type "dict",none,.dict #[e P "number" 490 (.ref 227),e P "pick" 492 (.ref 228),e P "load" 496 (.ref 229),e P "take" 498 (.ref 230),e P "store" 502 (.ref 231),e P "put" 505 (.ref 232)] 6,#[]⟩),
 (227,⟨.type "tuple",none,.seq #[s "word" 491] 0,#[]⟩),
 (228,⟨.type "tuple",none,.seq #[s "row" 493,s "row" 494,s "row" 495] 0,#[]⟩),
 (229,⟨.type "tuple",none,.seq #[s "place" 497] 0,#[]⟩),
 (230,⟨.type "tuple",none,.seq #[s "place" 499,s "row" 500,s "row" 501] 0,#[]⟩),
 (231,⟨.type "tuple",none,.seq #[s "place" 503,s "row" 504] 0,#[]⟩),
 (232,⟨.type "tuple",none,.seq #[s "place" 506,s "row" 507,s "row" 508] 0,#[]⟩),
 (233,⟨.type "tuple",none,.seq #[s "store" 516,s "put" 517] 0,#[]⟩),
 f 240 27 "parts_of" (.none) (s "lanepacks.blocks" 479),
 c 239 "parts_of" 519 55 1 523,
 f 247 28 "makes_word" (.none) (s "lanepacks.blocks" 479),
 c 246 "makes_word" 526 59 1 530,
 f 254 29 "may_name" (.none) (s "lanepacks.blocks" 479),
 c 253 "may_name" 533 61 2 538,
 f 261 30 "fits" (.none) (s "lanepacks.blocks" 479),
 c 260 "fits" 541 63 3 547,
 f 266 31 "is_row" (.none) (s "lanepacks.blocks" 479),
 b 265 "is_row" 550 69 2 553,
 f 273 32 "is_block" (.none) (s "lanepacks.blocks" 479),
 c 272 "is_block" 556 77 1 564,
 f 280 36 "is_lanes" (.none) (s "lanepacks.plans" 567),
 c 279 "is_lanes" 573 94 1 577,
 f 285 37 "rows_within" (.none) (s "lanepacks.plans" 567),
 b 284 "rows_within" 580 96 1 583,
 f 290 40 "number_in" (.none) m,
 b 289 "number_in" 590 100 1 593,
 f 295 41 "shown" (.none) m,
 b 294 "shown" 596 104 1 599,
 f 300 42 "parts_in" (.none) m,
 b 299 "parts_in" 602 110 1 605,
 f 307 43 "read" (.none) m,
 c 306 "read" 608 116 1 614,
 f 312 44 "is_rising" (.none) m,
 b 311 "is_rising" 617 123 1 620,
 f 317 45 "is_written_pack" (.none) m,
 b 316 "is_written_pack" 623 125 2 626,
 f 322 46 "is_written_plan" (.none) m,
 b 321 "is_written_plan" 629 129 2 632,
 f 327 47 "shown_plan" (.none) m,
 b 326 "shown_plan" 635 134 1 638,
 f 332 48 "read_plan" (.none) m,
 b 331 "read_plan" 641 138 2 644,
 f 339 50 "_law_cell_at" (.none) (s "law_lanepacks_k39_texts_refused" 647),
 c 338 "_law_cell_at" 649 149 2 656,
 f 346 51 "_law_mixed" (.none) (s "law_lanepacks_k39_texts_refused" 647),
 c 345 "_law_mixed" 659 158 3 666,
 f 353 52 "_law_draw" (.none) (s "law_lanepacks_k39_texts_refused" 647),
 c 352 "_law_draw" 669 161 3 675,
 f 360 53 "_law_pick" (.none) (s "law_lanepacks_k39_texts_refused" 647),
 c 359 "_law_pick" 678 164 3 684,
 f 367 54 "_law_which" (.none) (s "law_lanepacks_k39_texts_refused" 647),
 c 366 "_law_which" 687 166 1 692,
 f 374 55 "_law_none" (.none) (s "law_lanepacks_k39_texts_refused" 647),
 c 373 "_law_none" 695 174 2 701,
 f 381 56 "_law_ask" (.none) (s "law_lanepacks_k39_texts_refused" 647),
 c 380 "_law_ask" 704 181 3 711,
 f 388 57 "law" (.none) (s "law_lanepacks_k39_texts_refused" 647),
 c 387 "law" 714 186 1 721]
noncomputable def A:List Nat:=[3,23,24,36,37,48,49,67,68,79,80,91,92,103,104,115,116,127,128,139,140,158,159,170,171,182,183,201,202,213,214,217,224,223,225,226,227,228,229,230,231,232,233,240,239,247,246,254,253,261,260,266,265,273,272,280,279,285,284,290,289,295,294,300,299,307,306,312,311,317,316,322,321,327,326,332,331,339,338,346,345,353,352,360,359,367,366,374,373,381,380,388,387]
noncomputable def view:Ar:={Hv with main:={PySem.Challenge.pw_lanepacks_k39_texts_refused.main with body:=[1,2,3,4,5,6,7,8,9,10,11,12,13,14,15,17,18,19,21,22,23,24,25,26,27,28,29,30,31,32,34,35,36,37,39,40,41,42,43,44,45,46,47,48,50,51,52,53,54,55,56,57].map RR.top}}
abbrev lo:List Str:=["OTHER_PARTS"]
theorem kA(P:Mv):A=(K P).map (·.1):=by kernel_rfl
noncomputable def X(s:Ab):Bool:=xlAt view [] s && recOk (RowW.records (OpenRow.toRowW PySem.Challenge.rw_lanepacks_k39_texts_refused.row)) s
noncomputable abbrev H:Hook:=kHook K A kA
abbrev pr:Ar:=PySem.Challenge.rw_lanepacks_k39_texts_refused.row.prog
abbrev go(w:World)(b:Bool):Option Ab:=PJ treeTable pr (w.withFollow "special-get-raises" b) 8716
noncomputable abbrev fA(s:Ab):=seen ((recsOf view).map (·.name)) (ownsOf view) [] {s with gens:= #[]}
noncomputable abbrev fB(s:Ab):=(s.heap.bltView,tabsOk view s)
noncomputable abbrev fC(s:Ab):Bool:=s.heap.keysOk (Nr view lo) ((recsOf view).map (·.name)) ((litsOf view).map (·.1)) ((clssOf view (Nr view lo)).map (·.name)) && s.heap.accountedOkI (Gp pr.main.body) && s.heap.isNs mainGlobals && s.heap.isNs builtinsNs && tablesOk view s.heap && X s && (if true then s.gens.size==0 else !leftWithCleanup s.gens)
noncomputable abbrev fD(s:Ab):=(pinSeenD view (Oe view) s,plainSeenE view (Nr view lo) s,plainSeenD view lo s,wideSeen view s,clsSeenW view lo s,H.obs s)
set_option maxRecDepth 100000 in
set_option maxHeartbeats 0 in
theorem rAf(w:World):(go w false).map fA=some (Nt view):=by kernel_rfl
set_option maxRecDepth 100000 in
set_option maxHeartbeats 0 in
theorem rBf(w:World):(go w false).map fB=some ((Kq,true)):=by kernel_rfl
set_option maxRecDepth 100000 in
set_option maxHeartbeats 0 in
theorem rCf(w:World):(go w false).map fC=some (true):=by kernel_rfl
set_option maxRecDepth 100000 in
set_option maxHeartbeats 0 in
theorem rDf(w:World):(go w false).map fD=some ((pinGoodD (Oe view),Nu view (Nr view lo),Nv view lo,wideGood view,clsGoodW view lo,H.val (w.withFollow "special-get-raises" false))):=by kernel_rfl
set_option maxRecDepth 100000 in
set_option maxHeartbeats 0 in
theorem rAt(w:World):(go w true).map fA=some (Nt view):=by kernel_rfl
set_option maxRecDepth 100000 in
set_option maxHeartbeats 0 in
theorem rBt(w:World):(go w true).map fB=some ((Kq,true)):=by kernel_rfl
set_option maxRecDepth 100000 in
set_option maxHeartbeats 0 in
theorem rCt(w:World):(go w true).map fC=some (true):=by kernel_rfl
set_option maxRecDepth 100000 in
set_option maxHeartbeats 0 in
theorem rDt(w:World):(go w true).map fD=some ((pinGoodD (Oe view),Nu view (Nr view lo),Nv view lo,wideGood view,clsGoodW view lo,H.val (w.withFollow "special-get-raises" true))):=by kernel_rfl
theorem jn{o:Option Ab}{v:H.α}(ha:o.map fA=some (Nt view))(hb:o.map fB=some (Kq,true))(hc:o.map fC=some true)(hd:o.map fD=some (pinGoodD (Oe view),Nu view (Nr view lo),Nv view lo,wideGood view,clsGoodW view lo,v)):
  o.map (fun s=>(openSeen view lo (Gp pr.main.body) X true s,H.obs s))=some (openGood view lo,v):=by
 cases o with
 |none=>cases ha
 |some s=>
  have ea:fA s=_:=Bu ha
  have eb:fB s=_:=Bu hb
  have ec:fC s=_:=Bu hc
  have ed:fD s=_:=Bu hd
  obtain⟨b1,b2⟩:=Gq eb
  obtain⟨d1,ed⟩:=Gq ed
  obtain⟨d2,ed⟩:=Gq ed
  obtain⟨d3,ed⟩:=Gq ed
  obtain⟨d4,ed⟩:=Gq ed
  obtain⟨d5,d6⟩:=Gq ed
  show some ((fA s,s.heap.bltView,fC s,tabsOk view s,pinSeenD view (Oe view) s,plainSeenE view (Nr view lo) s,plainSeenD view lo s,wideSeen view s,clsSeenW view lo s),H.obs s)=_
  rw[ea,b1,ec,b2,d1,d2,d3,d4,d5,d6]
  rfl
theorem hl:LeftO pr view lo X H.obs H.val 8716:=fun w=>byRow2 "special-get-raises" (P:=fun w=>(Od treeTable pr w 8716).map (fun s=>(openSeen view lo (Gp pr.main.body) X true s,H.obs s))=some (openGood view lo,H.val w)) (fun w=>jn (PX (rAf w)) (PX (rBf w)) (PX (rCf w)) (PX (rDf w))) (fun w=>jn (PX (rAt w)) (PX (rBt w)) (PX (rCt w)) (PX (rDt w))) w
set_option maxRecDepth 100000 in
set_option maxHeartbeats 0 in
theorem said:PySem.Challenge.rw_lanepacks_k39_texts_refused.wellSaid=true:=by kernel_rfl
end KK
namespace L2
open PySem PySem.Spec PyProof.Rows
abbrev Z0:=Sum Int Str
noncomputable def S9:Z0->Value->Bool
 | .inl k,v=>Ov k v
 | .inr x,v=>Of x v
noncomputable def keyH(w:World):Z0->Int
 | .inl k=>hashInt k
 | .inr x=>hashStr w x
theorem cJ: ∀{k:Z0} {v:Value},S9 k v=true->(∃i t,k=Le i/\v=Mw i t)∨(∃x t,k=Lf x/\v=Mx x t)
 | .inl i,v,h=>by
  obtain⟨t,e⟩:=Value.isInt_shape (k:=i) (v:=v) h
  exact .inl ⟨i,t,rfl,e⟩
 | .inr x,v,h=>by
  obtain⟨t,e⟩:=Value.isStrOf_shape (x:=x) (v:=v) h
  exact .inr ⟨x,t,rfl,e⟩
theorem LJ(i:Int)(t:Tok):S9 (.inl i) (.int i t)=true:=by simp[S9,Ov]
theorem LK(x:Str)(t:Tok):S9 (.inr x) (.str x t)=true:=by simp[S9,Of]
theorem A9(a b:Int):decide ((Le a:Z0)=Le b)=(a==b):=by
 by_cases e:a=b
 ·subst e;simp
 ·have h : ¬ (Le a : Z0) = Le b := fun q => e (Sum.inl.inj q)
  rw[decide_eq_false h]
  exact(beq_eq_false_iff_ne.mpr e).symm
theorem BC(a b:Str):decide ((Lf a:Z0)=Lf b)=decide (a=b):=by
 by_cases e:a=b
 ·subst e;simp
 ·have h : ¬ (Lf a : Z0) = Lf b := fun q => e (Sum.inr.inj q)
  rw[decide_eq_false h,decide_eq_false e]
theorem BA(a:Int)(b:Str):decide ((Le a:Z0)=Lf b)=false:=decide_eq_false (fun q=>nomatch q)
theorem BB(a:Str)(b:Int):decide ((Lf a:Z0)=Le b)=false:=decide_eq_false (fun q=>nomatch q)
noncomputable def bV(prog:Ar)(w:World):PySem.KeyKind prog w Z0 where
 is:=S9
 hash:=keyH w
 inj:=fun v a b ha hb=>by
  rcases cJ ha with⟨i,t,rfl,rfl⟩|⟨x,t,rfl,rfl⟩
  ·rcases cJ hb with⟨j,u,rfl,e⟩|⟨y,u,rfl,e⟩
   ·injection e with e1 _;rw[e1]
   ·exact nomatch e
  ·rcases cJ hb with⟨j,u,rfl,e⟩|⟨y,u,rfl,e⟩
   ·exact nomatch e
   ·injection e with e1 _;rw[e1]
 byValue:=fun k v h=>by
  rcases cJ h with⟨i,t,rfl,rfl⟩|⟨x,t,rfl,rfl⟩<;>rfl
 pyHash:=fun hv h=>by
  rcases cJ hv with⟨i,t,rfl,rfl⟩|⟨x,t,rfl,rfl⟩
  ·exact wpAny_pyHash_int h
  ·exact wpAny_pyHash_str h
 eqBool:=fun hu hv h=>by
  rcases cJ hu with⟨i,t,rfl,rfl⟩|⟨x,t,rfl,rfl⟩
  ·rcases cJ hv with⟨j,u,rfl,rfl⟩|⟨y,u,rfl,rfl⟩
   ·rw[A9] at h;exact wpAny_eqBool_int h
   ·rw[BA] at h;exact SeqAt.EqAt.int_str i t y u _ _ _ _ h
  ·rcases cJ hv with⟨j,u,rfl,rfl⟩|⟨y,u,rfl,rfl⟩
   ·rw[BB] at h;exact SeqAt.EqAt.str_int x t j u _ _ _ _ h
   ·rw[BC] at h;exact wpAny_eqBool_str h
 «strs» :=fun k x t v h=>by
  rcases cJ h with⟨i,u,rfl,e⟩|⟨y,u,rfl,e⟩
  ·exact nomatch e
  ·injection e with e1 _
   subst e1
   cases v<;>rfl
theorem PY(prog:Ar)(w:World)(i:Int)(t:Tok):(bV prog w).is (.inl i) (.int i t)=true:=LJ i t
theorem PZ(prog:Ar)(w:World)(x:Str)(t:Tok):(bV prog w).is (.inr x) (.str x t)=true:=LK x t
inductive V where
 |non|bl (b:Bool)|int (i:Int)|str (x:Str)|byt (b:Array UInt8)|flt (b:UInt64)|ref (a:Addr)|ty (n:String)
 deriving DecidableEq
def dP:V->Value->Prop
 | .non,u=>u=Value.none
 | .bl b,u=>u=Et b
 | .int i,u=> ∃t,u=Mw i t
 | .str x,u=> ∃t,u=Mx x t
 | .byt b,u=> ∃t,u=Value.bytes b t
 | .flt b,u=> ∃t,u=Ow b t
 | .ref a,u=>u=Bf a
 | .ty n,u=>u=Jx n
abbrev dG:List V->List Value->Prop:=Paired dP
theorem dG.length{xs:List V}{us:List Value}(r:dG xs us):xs.length=us.length:=Paired.length r
theorem dG.get: ∀{xs:List V} {us:List Value} {i:Nat} {x:V},dG xs us->xs[i]? =some x-> ∃u,us[i]? =some u/\dP x u
 |_,_,_,_,.nil,e=>by simp at e
 |_,_,0,_,.cons r _,e=>by simp at e;subst e;exact⟨_,rfl,r⟩
 |_,_,i+1,x,.cons _ t,e=>by
  obtain⟨u,h1,h2⟩:=dG.get (i:=i) (x:=x) t (by simpa using e)
  exact⟨u,by simpa using h1,h2⟩
theorem dG.append: ∀{xs ys:List V} {us ws:List Value},dG xs us->dG ys ws->dG (xs++ys) (us++ws)
 |_,_,_,_,.nil,s=>s
 |_,_,_,_,.cons r t,s=> .cons r (dG.append t s)
theorem dG.take: ∀{xs:List V} {us:List Value} (n:Nat),dG xs us->dG (xs.take n) (us.take n)
 |_,_,0,_=> .nil
 |_,_,_+1,.nil=> .nil
 |_,_,n+1,.cons r t=> .cons r (dG.take n t)
theorem dG.drop: ∀{xs:List V} {us:List Value} (n:Nat),dG xs us->dG (xs.drop n) (us.drop n)
 |_,_,0,r=>r
 |_,_,_+1,.nil=> .nil
 |_,_,n+1,.cons _ t=>dG.drop n t
def UM:Option V->Option Value->Prop
 |some v,some u=>dP v u
 |none,none=>True
 |_,_=>False
def KV{κ:Type}:List (κ×V)->List (κ×Value)->Prop:=Paired fun(p:κ×V) (q:κ×Value)=>p.1=q.1/\dP p.2 q.2
noncomputable def kV:Z0->V
 | .inl i=> .int i
 | .inr x=> .str x
inductive HO where
 |lst (xs:List V)
 |tup (xs:List V)
 |dK (kvs:List (Z0×V))|dT (kvs:List (List Z0×V))
 |set (S:Int->Bool) (n:Nat)
 |ins (C dx:Addr) (fs:List (Str×V))
 |own (x:Addr)
 |xd (fs:List (Str×V))
 |met (f x:Addr)
 |rng (lo hi:Int)
 |frz (o:Obj) (u:HO)
 |tbl (ps:Array Value)
 |ext (φ:Heap->Prop)
abbrev Hp:=Addr->Option HO
noncomputable def cL(H:Hp)(a:Addr)(o:HO):Hp:=fun b=>if b=a then some o else H b
theorem dZ{H:Hp}{a:Addr}{o:HO}:cL H a o a=some o:=by unfold cL;rw[if_pos rfl]
theorem dQ{H:Hp}{a b:Addr}{o:HO}(h:b≠a):cL H a o b=H b:=by unfold cL;rw[if_neg h]
theorem bD{H:Hp}{a b:Addr}{o:HO}(h:H a=some o)(h':H b=none):a≠b:=by intro e;subst e;rw[h] at h';cases h'
section
variable(P:Ar)(w:World)
def cE(H:Hp)(h:Heap)(a:Addr):HO->Prop
 | .lst xs => xs.length <= sizeLine /\ ∃ (its : List Value) (n : Nat),dG xs its /\ h.get? a = some { cls := .type "list",data := .seq its.toArray n }
 | .tup xs => xs.length <= sizeLine /\ ∃ its : List Value,dG xs its /\ IsTup h a its.toArray
 | .dK kvs => kvs.length <= sizeLine /\ (a == Gm) = false /\ ∃ vs,KV kvs vs /\ h.DictOf (bV P w) a vs
 | .dT kvs => kvs.length <= sizeLine /\ (a == Gm) = false /\ ∃ xs : List (List Z0 × Addr × Value),
   Paired (fun(p:List Z0×V) (q:List Z0×Addr×Value)=>p.1=q.1/\H q.2.1=some (.tup (p.1.map kV))/\dP p.2 q.2.2) kvs xs∧
   ∃o es ep,h.get? a=some o/\o.ExactDict/\o.data= .dict es ep/\es.toList=xs.map (entryOfKey (tupleKind (bV P w)))/\(xs.map (·.1)).Nodup
 | .set S n => h.SetOf (intKind P w) a S n
 | .ins C dx fs => H dx = some (.own a) /\ fs.length <= 1000 /\ dx ≠ a /\ h.get? a = some (Oo C dx) ∧
   ∃mA,h.Ns1 dx mA/\(∀f,UM (fs.lookup f) (mA f))/\Op mA (fs.map (·.1))
 | .own _=> ∃o,h.get? a=some o
 | .xd fs=> ∃mA,h.Ns1 a mA/\ ∀f,UM (fs.lookup f) (mA f)
 | .rng lo hi=> ∃t u v,h.get? a=some {cls:= .type "range",data:= .fields #[.int lo t,.int hi u,.int 1 v]}
 | .frz o u=>h.get? a=some o/\cE H h a u
 | .tbl ps=>h.get? a=some {cls:= .none,data:= .fields ps}
 | .met f x=>h.get? a=some (My (.ref f) (.ref x))
 | .ext φ=>φ h/\(∃o,h.get? a=some o)/\ ∀h1 h2:Heap,φ h1->(∀o,h1.get? a=some o->h2.get? a=some o)->φ h2
def XU(H:Hp)(h:Heap):Prop:= ∀a o,H a=some o->cE P w H h a o
end
section
variable{P:Ar}{w:World}{H H':Hp}{h h':Heap}{a:Addr}{o:HO}
theorem cE.lt(x:cE P w H h a o):a<h.objs.size:=by
 cases o with
 |lst xs=>obtain⟨_,_,_,_,e⟩:=x;exact Ag e
 |tup xs=>obtain⟨_,_,_,p⟩:=x;exact p.lt
 |dK kvs=>obtain⟨_,_,_,_,o,_,_,e,_⟩:=x;exact Ag e
 |dT kvs=>obtain⟨_,_,_,_,o,_,_,e,_⟩:=x;exact Ag e
 |set S n=>obtain⟨o,_,_,_,e,_⟩:=x;exact Ag e
 |ins C dx fs=>obtain⟨_,_,_,e,_⟩:=x;exact Ag e
 |own y=>obtain⟨_,e⟩:=x;exact Ag e
 |xd fs=>obtain⟨_,⟨_,_,_,e,_⟩,_⟩:=x;exact Ag e
 |rng lo hi=>obtain⟨_,_,_,e⟩:=x;exact Ag e
 |frz ob u=>obtain⟨e,_⟩:=x;exact Ag e
 |tbl ps=>exact Ag (show h.get? a=some _ from x)
 |met f y=>exact Ag (show h.get? a=some _ from x)
 |ext φ=>obtain⟨_,⟨_,e⟩,_⟩:=x;exact Ag e
theorem Paired.mapP{α β:Type}{F G:α->β->Prop}: ∀{l₁:List α} {l₂:List β},Paired F l₁ l₂->(∀a b,F a b->G a b)->Paired G l₁ l₂
 |_,_,.nil,_=> .nil
 |_,_,.cons r t,f=> .cons (f _ _ r) (Paired.mapP t f)
theorem cE.stay(x:cE P w H h a o)(k: ∀b u,(b=a∨H b=some (.own a))->h.get? b=some u->h'.get? b=some u)
  (ho: ∀b,H b=some (.own a)->H' b=some (.own a)) (ht: ∀b xs,H b=some (.tup xs)->H' b=some (.tup xs)):cE P w H' h' a o:=by
 induction o with
 |lst xs=>obtain⟨z,its,n,r,e⟩:=x;exact⟨z,its,n,r,k _ _ (.inl rfl) e⟩
 |tup xs=>obtain⟨z,its,r,ob,e,c⟩:=x;exact⟨z,its,r,ob,k _ _ (.inl rfl) e,c⟩
 |dK kvs=>obtain⟨z,y,vs,r,ob,es,ep,e,c⟩:=x;exact⟨z,y,vs,r,ob,es,ep,k _ _ (.inl rfl) e,c⟩
 |dT kvs=>
  obtain⟨z,y,xs,r,ob,es,ep,e,c⟩:=x
  exact⟨z,y,xs,Paired.mapP r fun p q z=>⟨z.1,ht _ _ z.2.1,z.2.2⟩,ob,es,ep,k _ _ (.inl rfl) e,c⟩
 |set S n=>obtain⟨ob,es,ep,t,e,c⟩:=x;exact⟨ob,es,ep,t,k _ _ (.inl rfl) e,c⟩
 |ins C dx fs=>
  obtain⟨d,z,ne,e,mA,⟨od,es,ep,e2,c⟩,r⟩:=x
  exact⟨ho _ d,z,ne,k _ _ (.inl rfl) e,mA,⟨od,es,ep,k _ _ (.inr d) e2,c⟩,r⟩
 |own y=>obtain⟨ob,e⟩:=x;exact⟨ob,k _ _ (.inl rfl) e⟩
 |xd fs=>obtain⟨mA,⟨od,es,ep,e,c⟩,r⟩:=x;exact⟨mA,⟨od,es,ep,k _ _ (.inl rfl) e,c⟩,r⟩
 |rng lo hi=>obtain⟨t,u,v,e⟩:=x;exact⟨t,u,v,k _ _ (.inl rfl) e⟩
 |frz ob u ih=>obtain⟨e,q⟩:=x;exact⟨k _ _ (.inl rfl) e,ih q⟩
 |tbl ps=>
  have e:h.get? a=some {cls:= .none,data:= .fields ps}:=x
  show h'.get? a=some {cls:= .none,data:= .fields ps}
  exact k a _ (.inl rfl) e
 |met f y=>
  have e:h.get? a=some (My (.ref f) (.ref y)):=x
  show h'.get? a=some (My (.ref f) (.ref y))
  exact k a _ (.inl rfl) e
 |ext φ=>obtain⟨p,⟨o,e⟩,st⟩:=x;exact⟨st _ _ p fun o q=>k _ _ (.inl rfl) q,⟨o,k _ _ (.inl rfl) e⟩,st⟩
theorem XU.lt(x:XU P w H h)(e:H a=some o):a<h.objs.size:=(x a o e).lt
theorem XU.fresh(x:XU P w H h)(e:h.objs.size<=a):H a=none:=by
 cases q:H a with
 |none=>rfl
 |some u=>exact absurd (Al (x.lt q) e) (Bq _)
theorem XU.kept(x:XU P w H h)(k: ∀b u,h.get? b=some u->h'.get? b=some u):XU P w H h':=fun a o e=>
 (x a o e).stay (fun b u _ q=>k b u q) (fun _ q=>q) fun _ _ q=>q
theorem XU.laid(x:XU P w H h)(k: ∀b u,h.get? b=some u->h'.get? b=some u)(hp:h.objs.size<=a)(new:cE P w (cL H a o) h' a o):XU P w (cL H a o) h':=fun b u e=>by
 have hn:=x.fresh hp
 by_cases hb:b=a
 ·subst hb;rw[dZ] at e;cases e;exact new
 ·rw[dQ hb] at e
  exact(x b u e).stay (fun c v _ q=>k c v q) (fun c q=>by rw[dQ (bD q hn)];exact q) fun c xs q=>by rw[dQ (bD q hn)];exact q
end
def Rd(H:Hp)(a:Addr)(u:HO):Prop:=H a=some u∨ ∃o,H a=some (.frz o u)
theorem Rd.ok{P:Ar}{w:World}{H:Hp}{h:Heap}{a:Addr}{u:HO}(r:Rd H a u)(x:XU P w H h):cE P w H h a u:=by
 rcases r with r|⟨o,r⟩
 ·exact x a u r
 ·obtain⟨_,q⟩:=x a _ r
  exact q
def Mut:Option HO->Prop
 |some (.lst _)=>True
 |some (.dK _)=>True
 |some (.dT _)=>True
 |some (.set _ _)=>True
 |some (.ins _ _ _)=>True
 |some (.ext _)=>True
 |_=>False
section
variable{P:Ar}{w:World}{H:Hp}{h h':Heap}{x e:Addr}{o':HO}
theorem XU.write(ok:XU P w H h)(mu:Mut (H x))(he:e=x∨H e=some (.own x))(k: ∀b u,b≠e->h.get? b=some u->h'.get? b=some u)(heo: ∃u,h'.get? e=some u)
  (new : cE P w (cL H x o') h' x o') : XU P w (cL H x o') h' := fun b u q => by
 have jz: ∀c y,H c=some (.own y)->c≠x:=fun c y r z=>by subst z;rw[r] at mu;exact mu
 have kz: ∀c xs,H c=some (.tup xs)->c≠x:=fun c xs r z=>by subst z;rw[r] at mu;exact mu
 by_cases hb:b=x
 ·subst hb;rw[dZ] at q;cases q;exact new
 ·rw[dQ hb] at q
  by_cases hbe:b=e
  ·have q':H b=some (.own x):=by
    rcases he with z|z
    ·exact absurd (hbe.trans z) hb
    ·rw[hbe];exact z
   rw[q] at q';cases q'
   obtain⟨v,hv⟩:=heo
   exact⟨v,by rw[hbe];exact hv⟩
  ·refine (ok b u q).stay (fun c v hc r => k c v ?_ r) (fun c r => by rw [dQ (jz c b r)];exact r) fun c xs r => by rw [dQ (kz c xs r)];exact r
   rcases hc with rfl|hc
   ·exact hbe
   ·rintro rfl
    rcases he with z|z
    ·exact jz c b hc z
    ·rw[hc] at z;cases z;exact hb rfl
end
structure Un(fs ex:List Addr)(H H':Hp)(h h':Heap):Prop where
 keep: ∀b o,h.get? b=some o->H b=none->b∉fs->b∉ex->h'.get? b=some o
 slot: ∀b o,h.get? b=some o->H b=none->b∈fs->b∉ex-> ∃sl,h'.get? b=some {o with slots:=sl}
 free: ∀b o,h.get? b=some o->H b=none->b∉ex->H' b=none
 there: ∀b o,h.get? b=some o->b∉ex-> ∃o',h'.get? b=some o'
 tups: ∀b xs,H b=some (.tup xs)->H' b=some (.tup xs)
 frzs: ∀b o u,H b=some (.frz o u)->H' b=some (.frz o u)
 tbls: ∀b ps,H b=some (.tbl ps)-> ∃fv,H' b=some (.tbl (ps++fv))
section
variable{fs fs' ex ex':List Addr}{H H1 H2:Hp}{h h1 h2 h':Heap}{a x e:Addr}{o:HO}
theorem Un.any(u:Un fs ex H H1 h h1){b:Addr}{ob:Obj}(q:h.get? b=some ob)(n:H b=none)(hx:b∉ex): ∃sl,h1.get? b=some {ob with slots:=sl}:=by
 by_cases hb:b∈fs
 ·exact u.slot b ob q n hb hx
 ·exact⟨ob.slots,u.keep b ob q n hb hx⟩
theorem Un.kept(k: ∀b u,h.get? b=some u->h'.get? b=some u):Un fs ex H H h h':=
 ⟨fun b ob q _ _ _=>k b ob q,fun b ob q _ _ _=>⟨ob.slots,k b ob q⟩,fun _ _ _ n _=>n,fun b ob q _=>⟨ob,k b ob q⟩,fun _ _ q=>q,fun _ _ _ q=>q,fun _ ps q=>⟨#[],by rw[q];simp⟩⟩
theorem Un.refl:Un fs ex H H h h:=Un.kept fun _ _ q=>q
theorem Un.laid(k: ∀b u,h.get? b=some u->h'.get? b=some u)(hp:h.objs.size<=a)(hn:H a=none):Un fs ex H (cL H a o) h h' where
 keep:=fun b u q _ _ _=>k b u q
 slot:=fun b u q _ _ _=>⟨u.slots,k b u q⟩
 free:=fun b u q n _=>by rw[dQ (Au (Al (Ag q) hp))];exact n
 there:=fun b u q _=>⟨u,k b u q⟩
 tups:=fun b xs q=>by rw[dQ (bD q hn)];exact q
 frzs:=fun b u xs q=>by rw[dQ (bD q hn)];exact q
 tbls:=fun b ps q=>⟨#[],by rw[dQ (bD q hn),q];simp⟩
theorem Un.write(mu:Mut (H x))(he:e=x∨H e=some (.own x))(k: ∀b u,b≠e->h.get? b=some u->h'.get? b=some u)(heo: ∃u,h'.get? e=some u):Un fs ex H (cL H x o) h h':=by
 have hx: ∀b,H b=none->b≠x:=fun b n z=>by subst z;rw[n] at mu;exact mu
 have hb: ∀b,H b=none->b≠e:=fun b n z=>by
  subst z
  rcases he with r|r
  ·exact hx b n r
  ·rw[n] at r;cases r
 have hm: ∀b u,H b=some u-> ¬Mut (some u)->b≠x:=fun b u q nm z=>by subst z;rw[q] at mu;exact nm mu
 refine⟨fun b u q n _ _=>k b u (hb b n) q,fun b u q n _ _=>⟨u.slots,k b u (hb b n) q⟩,fun b u q n _=>by rw[dQ (hx b n)];exact n,fun b u q _=> ?_,
  fun b xs q=>by rw[dQ (hm b _ q fun z=>z)];exact q,fun b u xs q=>by rw[dQ (hm b _ q fun z=>z)];exact q,fun b ps q=>⟨#[],by rw[dQ (hm b _ q fun z=>z),q];simp⟩⟩
 by_cases hbe:b=e
 ·subst hbe;exact heo
 ·exact⟨u,k b u hbe q⟩
end
noncomputable def trk(h:Heap)(H:Hp):List Addr:=(Aw h.objs.size).filter fun a=>(H a).isSome
noncomputable def RE(h:Heap)(H:Hp):Heap:=W.hideAll h (trk h H)
theorem LH(h:Heap)(H:Hp):(RE h H).objs.size=h.objs.size:=W.hideAll_size _ _
theorem HI{h:Heap}{H:Hp}{b:Addr}{o:Obj}(e:h.get? b=some o)(n:H b=none):(RE h H).get? b=some o:=
 Kr _ e fun hm=>by
  have q:(H b).isSome=true:=(Mz.mp hm).2
  rw[n] at q;simp at q
theorem FI{h:Heap}{H:Hp}{b:Addr}{o:Obj}(e:(RE h H).get? b=some o):h.get? b=some o/\H b=none:=by
 have e':h.get? b=some o:=W.of_hideAll (trk h H) e
 refine⟨e',?_⟩
 cases q:H b with
 |none=>rfl
 |some x=>
  have hm:b∈trk h H:=Mz.mpr ⟨Cy.mpr (Ag e'),by simp[q]⟩
  have z:(RE h H).get? b=none:=W.hideAll_none (trk h H) hm
  rw[z] at e;cases e
structure Mod(K:Ae)(mg:Str->Option Value)(base:Heap):Prop where
 kin:K.In base
 glob:base.Ns mainGlobals mg
 blt: ∃mb,base.Ns builtinsNs mb/\ ∀x:Str,x≠ "__name__" ->mb x=Bj x
 nolimit:base.NoLimit
structure Cx where
 prog:Ar
 w:World
 K:Ae
 mg:Str->Option Value
 base:Heap
 A:Bo
 N:List Str
 s₀:Ab
 H₀:Hp
 env:Env
 outer:List Env
 stack:List Env
 ex:List Addr
 fn:Str->Bool
 calm:Bool
 pn:List (Addr×Obj)
 xe:Value->Ab->Prop
noncomputable def X8(l:List Env):List Addr:=l.filterMap (·.frame)
abbrev Cx.fs(X:Cx):List Addr:=X8 X.outer
def AE(sc:Scope)(x:Str):Prop:=sc.names.lookup x=some .local∨sc.names.lookup x=some .cell∨sc.names.lookup x=some .free
def MM(sc:Scope)(x:Str):Prop:=sc.names.lookup x=some .local∨sc.names.lookup x=some .cell
def Look(env:Env)(h:Heap)(m:Str->Option Value)(x:Str)(u:Value):Prop:=
 (env.kindOf x=some .local/\m x=some u)∨((env.kindOf x=some .cell∨env.kindOf x=some .free)/\ ∃c,env.cells.lookup x=some c/\h.IsCell c (some u))
structure Cx.Ok(X:Cx):Prop where
 mod:Mod X.K X.mg X.base
 kind:X.env.scope.kind= .function
 glob:X.env.globals=mainGlobals
 blt:X.env.builtins=builtinsNs
 above:X.s₀.heap.objs.size<=X.env.locals
 inj: ∀x y c,X.env.cells.lookup x=some c->X.env.cells.lookup y=some c->x=y
 has: ∀x,(X.env.kindOf x=some .cell∨X.env.kindOf x=some .free)-> ∃c,X.env.cells.lookup x=some c
 cab: ∀x c,X.fn x=true->X.env.cells.lookup x=some c->X.s₀.heap.objs.size<=c
 hd:X.calm=true->X.A.handled=none
 frames:X.A.frames=some X.stack
 stk:X.stack=X.outer∨(X.stack=X.env::X.outer/\X.env.frame=some X.env.locals)
 exf: ∀b∈X.ex,b≠X.env.locals/\ ∀x c,X.env.cells.lookup x=some c->c≠b
 bs: ∀b o,X.base.get? b=some o->X.s₀.heap.get? b=some o/\X.H₀ b=none
 bsz:X.base.objs.size<=X.s₀.heap.objs.size
 noex: ∀b o,X.base.get? b=some o->b∉X.ex
 exfs: ∀b∈X.ex,b∉X.fs
 funs:X.s₀.heap.FunFrames X.base X.outer
 frf: ∀b∈X.fs,X.H₀ b=none
structure eF(X:Cx)(aa:List (Addr×Obj))(σ:List (Option V))(H:Hp)(s:Ab):Prop where
 ok:X.Ok
 os:s.os=X.s₀.os
 bare:Il s.gens
 base:Un X.fs X.ex X.H₀ H X.s₀.heap s.heap
 loc: ∃m,s.heap.Ns X.env.locals m/\ ∀(i:Nat) (x:Str) (v:V),X.N[i]? =some x->σ[i]? =some (some v)->AE X.env.scope x-> ∃u,dP v u/\Look X.env s.heap m x u
 cell: ∀x c,X.env.cells.lookup x=some c-> ∃v,s.heap.IsCell c v
 free:H X.env.locals=none
 freeC: ∀x c,X.env.cells.lookup x=some c->H c=none
 pin: ∀p∈X.pn++aa,s.heap.get? p.1=some p.2/\H p.1=none/\p.1≠X.env.locals/\p.1∉X.fs/\ ∀v,p.2.data≠ .cell v
 hok:XU X.prog X.w H s.heap
 len:σ.length=X.N.length
section
variable{X:Cx}{aa:List (Addr×Obj)}{σ:List (Option V)}{H H':Hp}{s:Ab}{h':Heap}
theorem Cx.Ok.nofr(ok:X.Ok){b:Addr}{o:Obj}(e:X.base.get? b=some o):b∉X.fs:=fun hb=>by
 have:=(ok.funs.mem hb).1
 rw[e] at this;cases this
theorem eF.bs(I:eF X aa σ H s): ∀b o,X.base.get? b=some o->s.heap.get? b=some o/\H b=none:=fun b o e=>
 ⟨I.base.keep b o (I.ok.bs b o e).1 (I.ok.bs b o e).2 (I.ok.nofr e) (I.ok.noex b o e),I.base.free b o (I.ok.bs b o e).1 (I.ok.bs b o e).2 (I.ok.noex b o e)⟩
theorem eF.bk(I:eF X aa σ H s): ∀b o,X.base.get? b=some o->s.heap.get? b=some o:=fun b o e=>(I.bs b o e).1
theorem eF.mod(I:eF X aa σ H s):Mod X.K X.mg X.base:=I.ok.mod
theorem eF.kIn(I:eF X aa σ H s):X.K.In s.heap:=I.ok.mod.kin.keeps I.bk
theorem eF.lt(I:eF X aa σ H s):X.env.locals<s.heap.objs.size:=let ⟨_,hn,_⟩:=I.loc;hn.lt
theorem eF.sz(I:eF X aa σ H s):X.s₀.heap.objs.size<=s.heap.objs.size:=Cq I.ok.above (Lu I.lt)
theorem eF.nofs(I:eF X aa σ H s){a:Addr}(h:s.heap.objs.size<=a):a∉X.fs:=fun hb=>by
 obtain⟨_,o,ho,_⟩:=I.ok.funs.mem hb
 exact absurd (Al (Ag ho) (Cq I.sz h)) (Bq _)
theorem eF.cne(I:eF X aa σ H s): ∀x c,X.env.cells.lookup x=some c->c≠X.env.locals:=fun x c e z=>by
 obtain⟨v,o,ho,hd⟩:=I.cell x c e
 obtain⟨m,⟨o',es,ep,ho',hd',_⟩,_⟩:=I.loc
 rw[z,ho'] at ho;cases ho;rw[hd'] at hd;cases hd
theorem eF.funs(I:eF X aa σ H s):s.heap.FunFrames X.base X.outer:=by
 have all: ∀(l:List Env),(∀b∈X8 l,b∈X.fs)->X.s₀.heap.FunFrames X.base l->s.heap.FunFrames X.base l:=by
  intro l
  induction l with
  |nil=>intro _ _;trivial
  |cons env r ih=>
   intro hs hl
   obtain⟨hk,⟨L,o,hf,hn,ho,hd⟩,hr⟩:=hl
   have hL:L∈X.fs:=hs L (by unfold X8;rw[Gr,hf];exact Bz)
   obtain⟨sl,e⟩:=I.base.slot L o ho (I.ok.frf L hL) hL fun z=>I.ok.exfs L z hL
   exact⟨hk,⟨L,_,hf,hn,e,hd⟩,ih (fun b hb=>hs b (by unfold X8;rw[Gr,hf];exact Ay _ hb)) hr⟩
 exact all X.outer (fun _ hb=>hb) I.ok.funs
theorem eF.stack(I:eF X aa σ H s):s.heap.FunFrames X.base X.stack:=by
 rcases I.ok.stk with e|⟨e,hf⟩
 ·rw[e];exact I.funs
 ·rw[e]
  obtain⟨m,hn,_⟩:=I.loc
  refine .cons (by rw[I.ok.kind];decide) hf hn ?_ I.funs
  exact Heap.get?_none_of_le (Cq I.ok.bsz I.ok.above)
theorem eF.stkSub(I:eF X aa σ H s): ∀b∈X8 X.stack,b∈X.env.locals::X.fs:=fun b hb=>by
 rcases I.ok.stk with e|⟨e,hf⟩
 ·rw[e] at hb;exact Ay _ hb
 ·rw[e] at hb
  unfold X8 at hb
  rw[Gr,hf] at hb
  exact hb
theorem eF.stkFree(I:eF X aa σ H s): ∀b∈X8 X.stack,H b=none:=fun b hb=>by
 rcases Ba.mp (I.stkSub b hb) with e|hb
 ·rw[e];exact I.free
 ·obtain⟨_,o,ho,_⟩:=I.ok.funs.mem hb
  exact I.base.free b o ho (I.ok.frf b hb) fun z=>I.ok.exfs b z hb
theorem eF.step{g':Array GenState}{t':Nat}{d':Drawn}{ch:List Addr}(I:eF X aa σ H s)
  (hch: ∀b∈ch,(b∈X.ex∨X.s₀.heap.objs.size<=b)/\b≠X.env.locals/\(∀x c,X.env.cells.lookup x=some c->c≠b)/\ ∀p∈X.pn++aa,p.1≠b)
  (keep: ∀b o,b≠X.env.locals->b∉X.fs->b∉ch->s.heap.get? b=some o->H b=none->h'.get? b=some o)
  (slot: ∀b o,b≠X.env.locals->b∈X.fs->b∉ch->s.heap.get? b=some o->H b=none-> ∃sl,h'.get? b=some {o with slots:=sl}) (free: ∀b o,b∉ch->s.heap.get? b=some o->H b=none->H' b=none)
  (there: ∀b o,b∉ch->s.heap.get? b=some o-> ∃o',h'.get? b=some o')
  (tups: ∀b xs,H b=some (.tup xs)->H' b=some (.tup xs)) (frzs: ∀b o u,H b=some (.frz o u)->H' b=some (.frz o u)) (tbls: ∀b ps,H b=some (.tbl ps)-> ∃fv,H' b=some (.tbl (ps++fv)))
  (ns: ∀m,s.heap.Ns X.env.locals m->h'.Ns X.env.locals m) (hok:XU X.prog X.w H' h') (hg:Il g'):
  eF X aa σ H' {s with heap:=h',gens:=g',drawn:=d',toks:=t'}:=by
 have neL: ∀b o,X.s₀.heap.get? b=some o->b≠X.env.locals:=fun b o e=>Au (Al (Ag e) I.ok.above)
 have neC: ∀b o,X.s₀.heap.get? b=some o->b∉X.ex->b∉ch:=fun b o e hx hb=>by
  rcases(hch b hb).1 with z|z
  ·exact hx z
  ·exact absurd (Al (Ag e) z) (Bq _)
 have ef: ∀x c,X.env.cells.lookup x=some c-> ∀v,s.heap.IsCell c v->h'.IsCell c v:=fun x c e v q0=>by
  obtain⟨o,ho,hd⟩:=q0
  have nch:c∉ch:=fun z=>(hch c z).2.2.1 x c e rfl
  by_cases hc:c∈X.fs
  ·obtain⟨sl,q⟩:=slot c o (I.cne x c e) hc nch ho (I.freeC x c e)
   exact⟨_,q,hd⟩
  ·exact⟨o,keep c o (I.cne x c e) hc nch ho (I.freeC x c e),hd⟩
 refine⟨I.ok,I.os,hg,⟨fun b o e n hb hx=> ?_,fun b o e n hb hx=> ?_,fun b o e n hx=> ?_,fun b o e hx=> ?_,fun b xs e=>tups b xs (I.base.tups b xs e),fun b o xs e=>frzs b o xs (I.base.frzs b o xs e),fun b ps e=> ?_⟩,?_,fun x c e=> ?_,?_,fun x c e=> ?_,fun p hp=> ?_,hok,I.len⟩
 ·exact keep b o (neL b o e) hb (neC b o e hx) (I.base.keep b o e n hb hx) (I.base.free b o e n hx)
 ·obtain⟨sl,e1⟩:=I.base.slot b o e n hb hx
  obtain⟨sl',e2⟩:=slot b _ (neL b o e) hb (neC b o e hx) e1 (I.base.free b o e n hx)
  exact⟨sl',e2⟩
 ·obtain⟨o',e1⟩:=I.base.there b o e hx
  exact free b o' (neC b o e hx) e1 (I.base.free b o e n hx)
 ·obtain⟨o',e1⟩:=I.base.there b o e hx
  exact there b o' (neC b o e hx) e1
 ·obtain⟨m1,e1⟩:=I.base.tbls b ps e
  obtain⟨m2,e2⟩:=tbls b _ e1
  exact⟨m1++m2,by rw[e2,Array.append_assoc]⟩
 ·obtain⟨m,hn,hl⟩:=I.loc
  refine⟨m,ns m hn,fun i x v e1 e2 e3=> ?_⟩
  obtain⟨u,r,l⟩:=hl i x v e1 e2 e3
  refine⟨u,r,?_⟩
  rcases l with l|⟨k,c,e,z⟩
  ·exact .inl l
  ·exact .inr ⟨k,c,e,ef x c e _ z⟩
 ·obtain⟨v,z⟩:=I.cell x c e
  exact⟨v,ef x c e v z⟩
 ·obtain⟨m,⟨o,_,_,ho,_⟩,_⟩:=I.loc
  exact free _ o (fun z=>(hch _ z).2.1 rfl) ho I.free
 ·obtain⟨v,o,ho,hd⟩:=I.cell x c e
  exact free c o (fun z=>(hch c z).2.2.1 x c e rfl) ho (I.freeC x c e)
 ·obtain⟨e,n,ne,nf,d⟩:=I.pin p hp
  have nch:p.1∉ch:=fun z=>(hch p.1 z).2.2.2 p hp rfl
  exact⟨keep p.1 p.2 ne nf nch e n,free p.1 p.2 nch e n,ne,nf,d⟩
theorem eF.un{t':Nat}(I:eF X aa σ H s)(u:Un X.fs [] H H' s.heap h')(hok:XU X.prog X.w H' h'):eF X aa σ H' {s with heap:=h',toks:=t'}:=by
 obtain⟨m,⟨o,es,ep,ho,r⟩,_⟩:=id I.loc
 obtain⟨sl,hL⟩:=u.any ho I.free (by simp)
 exact I.step (g':=s.gens) (d':=s.drawn) (ch:=[]) (fun _ z=>nomatch z) (fun b o _ hb _ e n=>u.keep b o e n hb (by simp)) (fun b o _ hb _ e n=>u.slot b o e n hb (by simp)) (fun b o _ e n=>u.free b o e n (by simp)) (fun b o _ e=>u.there b o e (by simp)) u.tups u.frzs u.tbls (fun m' hm=>by
  obtain⟨o',es',ep',ho',r'⟩:=hm
  rw[ho] at ho';cases ho'
  exact⟨_,es',ep',hL,r'⟩) hok I.bare
theorem eF.call{g':Array GenState}{t':Nat}{d':Drawn}{ch:List Addr}(I:eF X aa σ H s)(u:Un (X8 X.stack) ch H H' s.heap h')(hok:XU X.prog X.w H' h')(hg:Il g')
  (hch: ∀b∈ch,(b∈X.ex∨X.s₀.heap.objs.size<=b)/\b≠X.env.locals/\(∀x c,X.env.cells.lookup x=some c->c≠b)/\ ∀p∈X.pn++aa,p.1≠b):
  eF X aa σ H' {s with heap:=h',gens:=g',drawn:=d',toks:=t'}:=by
 obtain⟨m,⟨o,es,ep,ho,r⟩,_⟩:=id I.loc
 obtain⟨sl,hL⟩:=u.any ho I.free fun z=>(hch _ z).2.1 rfl
 exact I.step (ch:=ch) hch (fun b o hL hb hc e n=>u.keep b o e n (fun z=>(Ba.mp (I.stkSub b z)).elim hL hb) hc) (fun b o _ _ hc e n=>u.any e n hc) (fun b o hc e n=>u.free b o e n hc) (fun b o hc e=>u.there b o e hc) u.tups u.frzs u.tbls (fun m' hm=>by
  obtain⟨o',es',ep',ho',r'⟩:=hm
  rw[ho] at ho';cases ho'
  exact⟨_,es',ep',hL,r'⟩) hok hg
theorem eF.turned{t':Nat}{it:Addr}(I:eF X aa σ H s)(k: ∀b o,b≠it->s.heap.get? b=some o->h'.get? b=some o)(hn:H it=none)(hL:it≠X.env.locals)
  (h1:it∈X.ex∨X.s₀.heap.objs.size<=it) (h2: ∀x c,X.env.cells.lookup x=some c->c≠it) (h3: ∀p∈X.pn++aa,p.1≠it):eF X aa σ H {s with heap:=h',toks:=t'}:=by
 have nit: ∀b u,H b=some u->b≠it:=fun b u e z=>by rw[z,hn] at e;cases e
 refine I.step (g':=s.gens) (d':=s.drawn) (ch:=[it]) (fun b hb=> ?_) (fun b o _ _ hc e _=>k b o (fun z=>hc (by simp[z])) e) (fun b o _ _ hc e _=>⟨o.slots,k b o (fun z=>hc (by simp[z])) e⟩) (fun _ _ _ _ n=>n)
  (fun b o hc e=>⟨o,k b o (fun z=>hc (by simp[z])) e⟩) (fun _ _ e=>e) (fun _ _ _ e=>e) (fun b ps e=>⟨#[],by rw[e];simp⟩) (fun m hm=> ?_) (fun b u e=> ?_) I.bare
 ·have e : b = it := by simpa using hb
  subst e
  exact⟨h1,hL,h2,h3⟩
 ·obtain⟨o,es,ep,ho,r⟩:=hm
  exact⟨o,es,ep,k _ o (Fn hL) ho,r⟩
 ·refine (I.hok b u e).stay (fun c v hc q => k c v ?_ q) (fun _ q => q) fun _ _ q => q
  rcases hc with z|z
  ·rw[z];exact nit b u e
  ·exact nit c _ z
theorem eF.tok(I:eF X aa σ H s)(t:Nat):eF X aa σ H {s with toks:=t}:=I.un (h':=s.heap) (t':=t) Un.refl I.hok
theorem eF.kept{t':Nat}(I:eF X aa σ H s)(k: ∀b u,s.heap.get? b=some u->h'.get? b=some u):eF X aa σ H {s with heap:=h',toks:=t'}:=I.un (Un.kept k) (I.hok.kept k)
theorem eF.laid{a:Addr}{o:HO}{t':Nat}(I:eF X aa σ H s)(k: ∀b u,s.heap.get? b=some u->h'.get? b=some u)(hp:s.heap.objs.size<=a)(new:cE X.prog X.w (cL H a o) h' a o):
  eF X aa σ (cL H a o) {s with heap:=h',toks:=t'}:=I.un (Un.laid k hp (I.hok.fresh hp)) (I.hok.laid k hp new)
theorem eF.write{x e:Addr}{o:HO}{t':Nat}(I:eF X aa σ H s)(mu:Mut (H x))(he:e=x∨H e=some (.own x))(k: ∀b u,b≠e->s.heap.get? b=some u->h'.get? b=some u)(heo: ∃u,h'.get? e=some u)
  (new:cE X.prog X.w (cL H x o) h' x o):eF X aa σ (cL H x o) {s with heap:=h',toks:=t'}:=I.un (Un.write mu he k heo) (I.hok.write mu he k heo new)
theorem eF.weak{σ':List (Option V)}(I:eF X aa σ H s)(hl:σ'.length=σ.length)(w: ∀(i:Nat) v,σ'[i]? =some (some v)->σ[i]? =some (some v)):eF X aa σ' H s:=
 ⟨I.ok,I.os,I.bare,I.base,let ⟨m,hn,hl'⟩:=I.loc;⟨m,hn,fun i x v e1 e2 e3=>hl' i x v e1 (w i v e2) e3⟩,I.cell,I.free,I.freeC,I.pin,I.hok,hl.trans I.len⟩
theorem eF.pins_of{i3:List (Addr×Obj)}(I:eF X aa σ H s)(h: ∀p∈i3,s.heap.get? p.1=some p.2/\H p.1=none/\p.1≠X.env.locals/\p.1∉X.fs/\ ∀v,p.2.data≠ .cell v):eF X i3 σ H s:=
 ⟨I.ok,I.os,I.bare,I.base,I.loc,I.cell,I.free,I.freeC,fun p hp=>(El.mp hp).elim (fun z=>I.pin p (Av _ z)) (h p),I.hok,I.len⟩
theorem P0{N:List Str}(hN:N.Nodup){i j:Nat}{x:Str}(a:N[i]? =some x)(b:N[j]? =some x):i=j:=by
 obtain⟨h1,e1⟩:=Ah.mp a
 obtain⟨h2,e2⟩:=Ah.mp b
 exact(Mc hN).mp (e1.trans e2.symm)
theorem MA{M:Model}{A:Bo}{E:Value->Ab->Prop}{i:Nat}{x:Str}{v:V}{u:Value}{Q:Unit->Ab->Prop}(I:eF X aa σ H s)(hN:X.N.Nodup)(hi:X.N[i]? =some x)(hx:MM X.env.scope x)(r:dP v u)
  (h : ∀ s',eF X aa (σ.set i (some v)) H s' -> (∃ a,Ed a s.heap s'.heap /\ (a = X.env.locals ∨ X.env.cells.lookup x = some a)) -> Q () s') (hf : X.fn x = true ∨ X.env.scope.names.lookup x = some .local := by first | exact .inl rfl | exact .inr rfl | assumption) : wpAny M A (storeName X.env x u) Q E s := by
 obtain⟨m,hn,hl⟩:=id I.loc
 have lh:(X.env.scope.kind== .class || (X.env.scope.kind== .module && X.env.locals !=X.env.globals))=false:=by rw[I.ok.kind];rfl
 have hiσ:i<σ.length:=by rw[I.len];exact(Ah.mp hi).1
 have cne:=I.cne
 have eu: ∀{a:Addr} {h':Heap},(∃o,s.heap.get? a=some o/\H a=none)->Ed a s.heap h'->XU X.prog X.w H h':=fun{a h'} ha hs b ob e=>by
  obtain⟨_,_,az⟩:=ha
  refine(I.hok b ob e).stay (fun c w' hc q=>(hs.2 c ?_).trans q) (fun _ q=>q) fun _ _ q=>q
  rintro rfl
  rcases hc with rfl|hc
  ·rw[az] at e;cases e
  ·rw[az] at hc;cases hc
 rcases hx with hk|hk
 ·refine wpAny_storeName_local hk hn (fun h' hn' hs => ?_) lh
  obtain⟨oL,_,_,hoL,_⟩:=id hn
  refine h _ ⟨I.ok,I.os,I.bare,⟨fun b o e n hb hx=> ?_,fun b o e n hb hx=> ?_,I.base.free,fun b o e hx=> ?_,I.base.tups,I.base.frzs,I.base.tbls⟩,⟨_,hn',fun j y v' e1 e2 e3=> ?_⟩,fun y c e=> ?_,I.free,I.freeC,fun p hp=> ?_,eu ⟨oL,hoL,I.free⟩ hs,by simpa using I.len⟩ ⟨_,hs,.inl rfl⟩
  ·exact(hs.2 b (Au (Al (Ag e) I.ok.above))).trans (I.base.keep b o e n hb hx)
  ·obtain⟨sl,e1⟩:=I.base.slot b o e n hb hx
   exact⟨sl,(hs.2 b (Au (Al (Ag e) I.ok.above))).trans e1⟩
  ·obtain⟨o',e1⟩:=I.base.there b o e hx
   exact⟨o',(hs.2 b (Au (Al (Ag e) I.ok.above))).trans e1⟩
  ·by_cases hj:j=i
   ·subst hj
    rw[hi] at e1;cases e1
    rw[By hiσ] at e2
    cases e2
    exact⟨u,r,.inl ⟨hk,by simp⟩⟩
   ·rw[Az (Fn hj)] at e2
    obtain⟨u',r',q⟩:=hl j y v' e1 e2 e3
    refine⟨u',r',?_⟩
    rcases q with⟨k,e⟩|⟨k,c,e,z⟩
    ·refine .inl ⟨k,?_⟩
     have:y≠x:=fun e=>hj (P0 hN e1 (e▸hi))
     simp[this,e]
    ·exact .inr ⟨k,c,e,z.sameBut hs (cne y c e)⟩
  ·obtain⟨w',z⟩:=I.cell y c e
   exact⟨w',z.sameBut hs (cne y c e)⟩
  ·obtain⟨e,n,ne,nf,d⟩:=I.pin p hp
   exact⟨(hs.2 p.1 ne).trans e,n,ne,nf,d⟩
 ·have hfn:X.fn x=true:=by
   rcases hf with z|z
   ·exact z
   ·rw[z] at hk;cases hk
  obtain⟨c,hc⟩:=I.ok.has x (.inl hk)
  obtain⟨w',z⟩:=I.cell x c hc
  refine wpAny_storeName_cell I.ok.kind hk hc z (fun h' hc' hs=> ?_)
  obtain⟨oc,hoc,l8⟩:=id z
  refine h {s with heap:=h'} ⟨I.ok,I.os,I.bare,⟨fun b o e n hb hx=> ?_,fun b o e n hb hx=> ?_,I.base.free,fun b o e hx=> ?_,I.base.tups,I.base.frzs,I.base.tbls⟩,⟨m,hn.sameBut hs (Fn (cne x c hc)),fun j y v' e1 e2 e3=> ?_⟩,fun y c' e=> ?_,I.free,I.freeC,fun p hp=> ?_,eu ⟨oc,hoc,I.freeC x c hc⟩ hs,by simpa using I.len⟩ ⟨c,hs,.inr hc⟩
  ·exact(hs.2 b (Au (Al (Ag e) (I.ok.cab x c hfn hc)))).trans (I.base.keep b o e n hb hx)
  ·obtain⟨sl,e1⟩:=I.base.slot b o e n hb hx
   exact⟨sl,(hs.2 b (Au (Al (Ag e) (I.ok.cab x c hfn hc)))).trans e1⟩
  ·obtain⟨o',e1⟩:=I.base.there b o e hx
   exact⟨o',(hs.2 b (Au (Al (Ag e) (I.ok.cab x c hfn hc)))).trans e1⟩
  ·by_cases hj:j=i
   ·subst hj
    rw[hi] at e1;cases e1
    rw[By hiσ] at e2
    cases e2
    exact⟨u,r,.inr ⟨.inl hk,c,hc,hc'⟩⟩
   ·rw[Az (Fn hj)] at e2
    obtain⟨u',r',q⟩:=hl j y v' e1 e2 e3
    refine⟨u',r',?_⟩
    rcases q with q|⟨k,c',e,z'⟩
    ·exact .inl q
    ·refine .inr ⟨k,c',e,z'.sameBut hs ?_⟩
     rintro rfl
     exact hj (P0 hN e1 (I.ok.inj _ _ _ e hc▸hi))
  ·by_cases hcc:c'=c
   ·subst hcc;exact⟨_,hc'⟩
   ·obtain⟨w2,z2⟩:=I.cell y c' e
    exact⟨w2,z2.sameBut hs hcc⟩
  ·obtain⟨e,n,ne,nf,d⟩:=I.pin p hp
   refine⟨(hs.2 p.1 ?_).trans e,n,ne,nf,d⟩
   intro q
   rw[q,hoc] at e
   have q':oc=p.2:=Bu e
   exact d w' (by rw[<- q'];exact l8)
theorem aJ{M:Model}{A:Bo}{E:Value->Ab->Prop}{i:Nat}{x:Str}{v:V}{u:Value}{Q:Unit->Ab->Prop}(I:eF X aa σ H s)(hN:X.N.Nodup)(hi:X.N[i]? =some x)(hx:MM X.env.scope x)(r:dP v u)
  (h: ∀s',eF X aa (σ.set i (some v)) H s'->Q () s') (hf:X.fn x=true∨X.env.scope.names.lookup x=some .local:=by first|exact .inl rfl|exact .inr rfl|assumption):wpAny M A (storeName X.env x u) Q E s:=
 MA I hN hi hx r (fun s' I' _=>h s' I') hf
theorem eF.call'{s':Ab}{ch:List Addr}(I:eF X aa σ H s)(ho:s'.os=s.os)(u:Un (X8 X.stack) ch H H' s.heap s'.heap)(hok:XU X.prog X.w H' s'.heap)(hg:Il s'.gens)
  (hch: ∀b∈ch,(b∈X.ex∨X.s₀.heap.objs.size<=b)/\b≠X.env.locals/\(∀x c,X.env.cells.lookup x=some c->c≠b)/\ ∀p∈X.pn++aa,p.1≠b):eF X aa σ H' s':=by
 obtain⟨h',g',d',t',o'⟩:=s'
 have e:o'=s.os:=ho
 subst e
 exact I.call (g':=g') (t':=t') (d':=d') u hok hg hch
end
abbrev XK:=Value->Option Addr->Hp->Prop
abbrev St:=List (Option V)
abbrev VK:=V->Hp->Prop
abbrev TE:=St->Hp->VK->Prop
abbrev TT:=St->Hp->(Bool->Hp->Prop)->Prop
abbrev TA:=St->Hp->(List V->Hp->Prop)->Prop
structure KP where
 nx:St->Hp->Prop
 rt:VK
 bk:St->Hp->Prop:=fun _ _=>False
 ct:St->Hp->Prop:=fun _ _=>False
abbrev TS:=KP->St->Hp->Prop
def EP(X:Cx)(aa:List (Addr×Obj))(σ:St)(Q:VK)(u:Value)(s':Ab):Prop:= ∃v H',eF X aa σ H' s'/\dP v u/\Q v H'
def TP(X:Cx)(aa:List (Addr×Obj))(σ:St)(Q:Bool->Hp->Prop)(b:Bool)(s':Ab):Prop:= ∃H',eF X aa σ H' s'/\Q b H'
def AP(X:Cx)(aa:List (Addr×Obj))(σ:St)(Q:List V->Hp->Prop)(us:List Value)(s':Ab):Prop:= ∃vs H',eF X aa σ H' s'/\dG vs us/\Q vs H'
def SP(X:Cx)(aa:List (Addr×Obj))(D:KP)(f:Flow)(s':Ab):Prop:=
 match f with
 | .next=> ∃σ' H',eF X aa σ' H' s'/\D.nx σ' H'
 | .brk=> ∃σ' H',eF X aa σ' H' s'/\D.bk σ' H'
 | .cont=> ∃σ' H',eF X aa σ' H' s'/\D.ct σ' H'
 | .ret u=> ∃v σ' H',eF X aa σ' H' s'/\dP v u/\D.rt v H'
def PE(X:Cx)(e:Expr)(t:TE):Prop:=
 ∀(aa:List (Addr×Obj)) (s:Ab) (σ:St) (H:Hp) (Q:VK),eF X aa σ H s->t σ H Q->wpAny (model X.prog X.w) X.A (eval e X.env) (EP X aa σ Q) X.xe s
def PT(X:Cx)(e:Expr)(t:TT):Prop:=
 ∀(aa:List (Addr×Obj)) (s:Ab) (σ:St) (H:Hp) (Q:Bool->Hp->Prop),eF X aa σ H s->t σ H Q->wpAny (model X.prog X.w) X.A (isTrue e X.env (eval e X.env)) (TP X aa σ Q) X.xe s
def PW(X:Cx)(e:Expr)(t:TT):Prop:=
 ∀(bo:Sem Value) (aa:List (Addr×Obj)) (s:Ab) (σ:St) (H:Hp) (Q:Bool->Hp->Prop),eF X aa σ H s->t σ H Q->wpAny (model X.prog X.w) X.A (isTrue e X.env bo) (TP X aa σ Q) X.xe s
theorem PW.pt{X:Cx}{e:Expr}{t:TT}(h:PW X e t):PT X e t:=h _
def PA(X:Cx)(es:List Expr)(t:TA):Prop:=
 ∀(pos:Pos) (aa:List (Addr×Obj)) (s:Ab) (σ:St) (H:Hp) (Q:List V->Hp->Prop),eF X aa σ H s->t σ H Q->wpAny (model X.prog X.w) X.A (spliced (Cu pos (starEach es X.env))) (AP X aa σ Q) X.xe s
def PS(X:Cx)(st:Stmt)(t:TS):Prop:=
 ∀(aa:List (Addr×Obj)) (s:Ab) (σ:St) (H:Hp) (D:KP),eF X aa σ H s->t D σ H->wpAny (model X.prog X.w) X.A (exec st X.env) (SP X aa D) X.xe s
def ZQ(X:Cx)(st:List Stmt)(t:TS):Prop:=
 ∀(aa:List (Addr×Obj)) (s:Ab) (σ:St) (H:Hp) (D:KP),eF X aa σ H s->t D σ H->wpAny (model X.prog X.w) X.A (execs st X.env) (SP X aa D) X.xe s
theorem bS{α:Type}{t:Sem α}{Q Q':α->Ab->Prop}{M:Model}{A:Bo}{E:Value->Ab->Prop}{s:Ab}(h:wpAny M A t Q E s)(hQ: ∀a s,Q a s->Q' a s):wpAny M A t Q' E s:=Ao h hQ fun _ _ x=>x
section
variable{X:Cx}
def OS(i:Nat):TE:=fun σ H Q=> ∃v,σ[i]? =some (some v)/\Q v H
def tC(v:V):TE:=fun _ H Q=>Q v H
theorem OI{i:Nat}{x:Str}{pos:Pos}(hN:X.N[i]? =some x)(hv:AE X.env.scope x)(hd:(x==("__debug__":Str))=false:=by decide) (hcd:(x==("__classdict__":Str))=false:=by decide):PE X (.Name x pos) (OS i):=by
 intro aa s σ H Q I h
 obtain⟨v,e,h⟩:=h
 obtain⟨m,hn,hl⟩:=I.loc
 obtain⟨u,r,l⟩:=hl i x v hN e hv
 have fin:EP X aa σ Q u s:=⟨v,H,I,r,h⟩
 rcases l with⟨hk,hm⟩|⟨hk,c,hc,i6⟩
 ·exact Nw (wpAny_loadName_local I.ok.kind hk hn hm fin) hd
 ·rcases hk with hk|hk
  ·exact Nw (wpAny_loadName_cell I.ok.kind hk hc i6 fin) hd
  ·exact Nw (wpAny_loadName_free I.ok.kind hk hc i6 fin hcd) hd
theorem B7{i j pos}:PE X (.Constant (.int i) j pos) (tC (.int i)):=fun _ _ _ H _ I h=>wpAny_Constant_int ⟨.int i,H,I.tok _,⟨_,rfl⟩,h⟩
theorem zB4{b j pos}:PE X (.Constant (.bool b) j pos) (tC (.bl b)):=fun _ _ _ H _ I h=>Constant_bool ⟨.bl b,H,I,rfl,h⟩
theorem B8{j pos}:PE X (.Constant .none j pos) (tC .non):=fun _ _ _ H _ I h=>Constant_none ⟨.non,H,I,rfl,h⟩
theorem IQ{x j pos}:PE X (.Constant (.str x) j pos) (tC (.str x)):=fun _ _ _ H _ I h=>Calls.Constant_str ⟨.str x,H,I.tok _,⟨_,rfl⟩,h⟩
def Gl(X:Cx)(x:Str):Prop:=X.env.kindOf x=some .globalImplicit
theorem YE{E:Value->Ab->Prop}{aa:List (Addr×Obj)}{s:Ab}{σ:St}{H:Hp}{x:Str}{u:Value}{pos:Pos}{Q:Value->Ab->Prop}(I:eF X aa σ H s)(hg:Gl X x)(hm:X.mg x=some u)(h:Q u s)
  (hd:(x==("__debug__":Str))=false:=by decide):wpAny (model X.prog X.w) X.A (eval (.Name x pos) X.env) Q E s:=
 He I.ok.kind hg (Calls.loadGlobal_global (by rw[I.ok.glob];exact I.mod.glob.keeps I.bk) hm h) hd
theorem WM{E:Value->Ab->Prop}{aa:List (Addr×Obj)}{s:Ab}{σ:St}{H:Hp}{x:Str}{u:Value}{pos:Pos}{Q:Value->Ab->Prop}(I:eF X aa σ H s)(hg:Gl X x)(hm:X.mg x=none)(hv:Bj x=some u)(h:Q u s)
  (hn:x≠ "__name__":=by decide) (hd:(x==("__debug__":Str))=false:=by decide):wpAny (model X.prog X.w) X.A (eval (.Name x pos) X.env) Q E s:=by
 obtain⟨mb,h1,h2⟩:=I.mod.blt
 exact He I.ok.kind hg (Calls.loadGlobal_builtin (by rw[I.ok.glob];exact I.mod.glob.keeps I.bk) hm (by rw[I.ok.blt];exact h1.keeps I.bk) ((h2 x hn).trans hv) h) hd
theorem FV{x:Str}{v:V}{u:Value}{pos:Pos}(hg:Gl X x)(hm:X.mg x=some u)(r:dP v u)(hd:(x==("__debug__":Str))=false:=by decide):PE X (.Name x pos) (tC v):=
 fun _ _ _ H _ I h=>YE I hg hm ⟨v,H,I,r,h⟩ hd
theorem FS{x:Str}{v:V}{u:Value}{pos:Pos}(hg:Gl X x)(hm:X.mg x=none)(hv:Bj x=some u)(r:dP v u)(hn:x≠ "__name__":=by decide) (hd:(x==("__debug__":Str))=false:=by decide):PE X (.Name x pos) (tC v):=
 fun _ _ _ H _ I h=>WM I hg hm hv ⟨v,H,I,r,h⟩ hn hd
variable{a b:Expr}{ta tb:TE}{pos:Pos}
def tB(t:TE):TT:=fun σ H Q=>t σ H fun x H1=> ∃c,x= .bl c/\Q c H1
theorem CK{e:Expr}{t:TE}(h:PE X e t)(he: ∀bo,isTrue e X.env bo=(do let v<- bo;Lg e.pos;holding [v] (truthy v)):=by intro _;rfl):PT X e (tB t):=by
 intro aa s σ H Q I hw
 refine isTrue_plain (bS (h aa s σ H _ I hw) fun v s1 ⟨x,H1,I1,r1,q1⟩=> ?_) (he _)
 obtain⟨d,rfl,q⟩:=q1
 cases r1
 exact Dg ⟨H1,I1,q⟩
variable{tA tB':TT}{rest:List Expr}
def tOr(t u:TT):TT:=fun σ H Q=>t σ H fun c H1=>if c=true then Q true H1 else u σ H1 Q
def tNot(t:TT):TT:=fun σ H Q=>t σ H fun c H1=>Q (!c) H1
theorem CL(ha:PT X a tA):PW X (.BoolOp .Or [a] pos) tA:=by
 intro wh aa s σ H Q I h
 refine isTrue_or (bS (ha aa s σ H Q I h) fun c s1 e=> ?_)
 cases c with
 |false=>exact isTrue_or_nil e
 |true=>exact e
theorem zB0(ha:PT X a tA)(hb:PW X (.BoolOp .Or (b::rest) pos) tB'):PW X (.BoolOp .Or (a::b::rest) pos) (tOr tA tB'):=by
 intro wh aa s σ H Q I h
 refine isTrue_or (bS (ha aa s σ H _ I h) fun c s1 ⟨H1,I1,q1⟩=> ?_)
 cases c with
 |true=>exact⟨H1,I1,q1⟩
 |false=>exact hb wh aa s1 σ H1 Q I1 q1
theorem CJ(ha:PT X a tA):PT X (.UnaryOp .Not a pos) (tNot tA):=by
 intro aa s σ H Q I h
 exact isTrue_not (ha aa s σ H (fun c H1=>Q (!c) H1) I h)
def zAA(ta tb:TE):TE:=fun σ H Q=>ta σ H fun x H1=> ∃c,x= .bl c/\if c=true then tb σ H1 Q else Q (.bl false) H1
theorem B9{op}{t:TE}(h:PE X a t):PE X (.BoolOp op [a] pos) t:=fun aa s σ H Q I hw=>BoolOp_one (h aa s σ H Q I hw)
theorem B6(ha:PE X a ta)(hb:PE X (.BoolOp .And (b::rest) pos) tb):PE X (.BoolOp .And (a::b::rest) pos) (zAA ta tb):=by
 intro aa s σ H Q I h
 refine BoolOp_and (bS (ha aa s σ H _ I h) fun v s1 ⟨x,H1,I1,r1,q1⟩=> ?_)
 obtain⟨c,rfl,q1⟩:=q1
 cases r1
 refine Dg ?_
 cases c with
 |true=>exact hb aa s1 σ H1 Q I1 q1
 |false=>exact⟨.bl false,H1,I1,rfl,q1⟩
def tIf(t:TT)(ta tb:TE):TE:=fun σ H Q=>t σ H fun c H1=>if c=true then ta σ H1 Q else tb σ H1 Q
theorem P6{c:Expr}(hc:PT X c tA)(ha:PE X a ta)(hb:PE X b tb):PE X (.IfExp c a b pos) (tIf tA ta tb):=by
 intro aa s σ H Q I h
 refine wpAny_IfExp (bS (hc aa s σ H _ I h) fun d s1 ⟨H1,I1,q1⟩=> ?_)
 cases d with
 |true=>exact ha aa s1 σ H1 Q I1 q1
 |false=>exact hb aa s1 σ H1 Q I1 q1
end
def aT(K:Ae)(H:Hp)(a:Addr)(xs:List V):Prop:=
 Rd H a (.lst xs)∨
  ∃(o:Obj) (its:Array Value) (n:Nat),K.lookup a=some o/\o.cls= .type "list" /\o.dict=none/\o.data= .seq its n/\its.size<=sizeLine/\dG xs its.toList
def YW(K:Ae)(H:Hp)(a:Addr)(xs:List V):Prop:=
 Rd H a (.tup xs)∨
  ∃(o:Obj) (its:Array Value) (n:Nat),K.lookup a=some o/\o.cls= .type "tuple" /\o.data= .seq its n/\its.size<=sizeLine/\dG xs its.toList
noncomputable def absV:Value->Option V
 | .none=>some .non
 | .bool b=>some (.bl b)
 | .int i _=>some (.int i)
 | .str x _=>some (.str x)
 | .bytes b _=>some (.byt b)
 | .float b _=>some (.flt b)
 | .ref a=>some (.ref a)
 | .type n=>some (.ty n)
 |_=>none
theorem dP.abs{x:V}{u:Value}(r:dP x u):absV u=some x:=by
 cases x with
 |non=>cases r;rfl
 |bl _=>cases r;rfl
 |int _=>obtain⟨t,rfl⟩:=r;rfl
 |str _=>obtain⟨t,rfl⟩:=r;rfl
 |byt _=>obtain⟨t,rfl⟩:=r;rfl
 |flt _=>obtain⟨t,rfl⟩:=r;rfl
 |ref _=>cases r;rfl
 |ty _=>cases r;rfl
theorem dP.inj{x y:V}{u:Value}(r:dP x u)(q:dP y u):x=y:=Bu (r.abs.symm.trans q.abs)
theorem dG.inj: ∀{xs ys:List V} {us:List Value},dG xs us->dG ys us->xs=ys
 |_,_,_,.nil,.nil=>rfl
 |_,_,_,.cons r t,.cons r' t'=>by rw[r.inj r',dG.inj t t']
section
variable{X:Cx}{aa:List (Addr×Obj)}{σ:St}{H:Hp}{s:Ab}{a:Addr}{xs ys:List V}
theorem aT.of{K:Ae}(h:H a=some (.lst xs)):aT K H a xs:= .inl (.inl h)
theorem YW.of{K:Ae}(h:H a=some (.tup xs)):YW K H a xs:= .inl (.inl h)
theorem eF.list(I:eF X aa σ H s)(h:aT X.K H a xs): ∃its:List Value,dG xs its/\PlainL s.heap a its.toArray/\xs.length<=sizeLine:=by
 rcases h with h|⟨o,its,n,hk,hc,hd,hs,hz,r⟩
 ·obtain⟨z,its,n,r,e⟩:=h.ok I.hok
  exact⟨its,r,⟨_,n,e,rfl,rfl,rfl⟩,z⟩
 ·refine ⟨its.toList,r,⟨o,n,I.kIn a o hk,hc,hd,by simpa using hs⟩,?_⟩
  have e:=r.length
  simp only[Ee] at e
  omega
theorem eF.tuple(I:eF X aa σ H s)(h:YW X.K H a xs): ∃its:List Value,dG xs its/\IsTup s.heap a its.toArray/\xs.length<=sizeLine:=by
 rcases h with h|⟨o,its,n,hk,hc,hs,hz,r⟩
 ·obtain⟨z,its,r,p⟩:=h.ok I.hok
  exact⟨its,r,p,z⟩
 ·refine ⟨its.toList,r,⟨o,I.kIn a o hk,hc,n,by simpa using hs⟩,?_⟩
  have e:=r.length
  simp only[Ee] at e
  omega
theorem eF.list_inj(I:eF X aa σ H s)(h:aT X.K H a xs)(h':aT X.K H a ys):xs=ys:=by
 obtain⟨its,r,⟨o,n,e,_,_,d⟩,_⟩:=I.list h
 obtain⟨its',r',⟨o',n',e',_,_,d'⟩,_⟩:=I.list h'
 rw[e] at e';cases e'
 rw[d] at d'
 injection d' with d1 _
 have:its=its':=by simpa using congrArg Oq d1
 subst this
 exact r.inj r'
theorem eF.tuple_inj(I:eF X aa σ H s)(h:YW X.K H a xs)(h':YW X.K H a ys):xs=ys:=by
 obtain⟨its,r,⟨o,e,_,n,d⟩,_⟩:=I.tuple h
 obtain⟨its',r',⟨o',e',_,n',d'⟩,_⟩:=I.tuple h'
 rw[e] at e';cases e'
 rw[d] at d'
 injection d' with d1 _
 have:its=its':=by simpa using congrArg Oq d1
 subst this
 exact r.inj r'
end
abbrev Cx.wish(X:Cx)(E:Value->Ab->Prop):Cx:={X with xe:=E}
abbrev Cx.nox(X:Cx):Cx:=X.wish fun _ _=>False
theorem Cx.Ok.wish{X:Cx}(ok:X.Ok)(E:Value->Ab->Prop):(X.wish E).Ok:=
 ⟨ok.mod,ok.kind,ok.glob,ok.blt,ok.above,ok.inj,ok.has,ok.cab,ok.hd,ok.frames,ok.stk,ok.exf,ok.bs,ok.bsz,ok.noex,ok.exfs,ok.funs,ok.frf⟩
theorem Cx.Ok.unwish{X:Cx}{E:Value->Ab->Prop}(ok:(X.wish E).Ok):X.Ok:=
 ⟨ok.mod,ok.kind,ok.glob,ok.blt,ok.above,ok.inj,ok.has,ok.cab,ok.hd,ok.frames,ok.stk,ok.exf,ok.bs,ok.bsz,ok.noex,ok.exfs,ok.funs,ok.frf⟩
section
variable{X:Cx}{aa:List (Addr×Obj)}{σ:St}{H:Hp}{s:Ab}{E:Value->Ab->Prop}
theorem eF.wish(I:eF X aa σ H s)(E:Value->Ab->Prop):eF (X.wish E) aa σ H s:=⟨I.ok.wish E,I.os,I.bare,I.base,I.loc,I.cell,I.free,I.freeC,I.pin,I.hok,I.len⟩
theorem eF.unwish(I:eF (X.wish E) aa σ H s):eF X aa σ H s:=⟨I.ok.unwish,I.os,I.bare,I.base,I.loc,I.cell,I.free,I.freeC,I.pin,I.hok,I.len⟩
theorem SP.unwish{D:KP}{f:Flow}{s':Ab}(h:SP (X.wish E) aa D f s'):SP X aa D f s':=by
 cases f with
 |next=>obtain⟨σ',H',I,q⟩:=h;exact⟨σ',H',I.unwish,q⟩
 |brk=>obtain⟨σ',H',I,q⟩:=h;exact⟨σ',H',I.unwish,q⟩
 |cont=>obtain⟨σ',H',I,q⟩:=h;exact⟨σ',H',I.unwish,q⟩
 |ret u=>obtain⟨v,σ',H',I,r,q⟩:=h;exact⟨v,σ',H',I.unwish,r,q⟩
theorem ZQ.nox{st:List Stmt}{t:TS}(h:ZQ X.nox st t):ZQ X st t:=fun aa s σ H D I hw=>
 Ao (h aa s σ H D (I.wish _) hw) (fun _ _ q=>q.unwish) fun _ _ z=>Eu z
end
section
variable{X:Cx}{st:Stmt}{rest:List Stmt}{t u:TS}{e:Expr}{te:TE}{pos:Pos}
def zA7:TS:=fun D σ H=>D.nx σ H
def tSeq(t u:TS):TS:=fun D σ H=>t {D with nx:=u D} σ H
theorem NF:ZQ X [] zA7:=fun _ _ σ H _ I h=>Jk ⟨σ,H,I,h⟩
theorem XG(h1:PS X st t)(h2:ZQ X rest u):ZQ X (st::rest) (tSeq t u):=by
 intro aa s σ H D I h
 refine wpAny_execs_cons (bS (h1 aa s σ H {D with nx:=u D} I h) fun f s1 q=> ?_)
 cases f with
 |next=>
  obtain⟨σ',H',I',q⟩:=q
  exact h2 aa s1 σ' H' D I' q
 |ret v=>exact q
 |brk=>exact q
 |cont=>exact q
theorem eF.quiet{aa:List (Addr×Obj)}{σ:St}{H:Hp}{s:Ab}(I:eF X aa σ H s):interactive X.env=false:=by simp[interactive,I.ok.kind]
def zA9(te:TE):TS:=fun D σ H=>te σ H fun _ H1=>D.nx σ H1
theorem F2(he:PE X e te)(hs:Na e none pos.line X.env=pure false:=by rfl):PS X (.Expr e pos) (zA9 te):=by
 intro aa s σ H D I h
 exact wpAny_Expr_any (bS (he aa s σ H _ I h) fun v s1 ⟨x,H1,I1,r1,q1⟩=>⟨σ,H1,I1,q1⟩) I.quiet hs
def tRet(te:TE):TS:=fun D σ H=>te σ H D.rt
theorem OM(he:PE X e te):PS X (.Return (some e) pos) (tRet te):=by
 intro aa s σ H D I h
 exact wpAny_Return_some (bS (he aa s σ H _ I h) fun v s1 ⟨x,H1,I1,r1,q1⟩=>⟨x,σ,H1,I1,r1,q1⟩)
def tIfS(c:TT)(t u:TS):TS:=fun D σ H=>c σ H fun b H1=>if b=true then t D σ H1 else u D σ H1
theorem D3{c:Expr}{a b:List Stmt}{tc:TT}(hc:PT X c tc)(ha:ZQ X a t)(hb:ZQ X b u):PS X (.If c a b pos) (tIfS tc t u):=by
 intro aa s σ H D I h
 refine wpAny_If (bS (hc aa s σ H _ I h) fun d s1 ⟨H1,I1,q1⟩=> ?_)
 cases d with
 |true=>exact ha aa s1 σ H1 D I1 q1
 |false=>exact hb aa s1 σ H1 D I1 q1
def C5:TS:=fun _ _ _=>False
theorem LZ{sts:List Stmt}:ZQ X sts C5:=fun _ _ _ _ _ _ h=>h.elim
end
abbrev TG:=V->St->Hp->(St->Hp->Prop)->Prop
abbrev K0:=List V->St->Hp->(St->Hp->Prop)->Prop
def PG(X:Cx)(br:Expr)(t:TG):Prop:=
 ∀(aa:List (Addr×Obj)) (s:Ab) (σ:St) (H:Hp) (v:V) (u:Value) (Q:St->Hp->Prop),eF X aa σ H s->dP v u->t v σ H Q→
  wpAny (model X.prog X.w) X.A (Fe br X.env u) (fun _ s'=> ∃σ' H',eF X aa σ' H' s'/\Q σ' H') X.xe s
def MN(X:Cx)(ts:List Expr)(t:K0):Prop:=
 ∀(aa:List (Addr×Obj)) (s:Ab) (σ:St) (H:Hp) (vs:List V) (us:List Value) (Q:St->Hp->Prop),eF X aa σ H s->dG vs us->t vs σ H Q→
  wpAny (model X.prog X.w) X.A (assignInOrder ((assignEach ts X.env).map (·.2)) us) (fun _ s'=> ∃σ' H',eF X aa σ' H' s'/\Q σ' H') X.xe s
section
variable{X:Cx}{pos:Pos}
def DU(i:Nat):TG:=fun v σ H Q=>Q (σ.set i (some v)) H
theorem FW{i:Nat}{x:Str}(hN:X.N.Nodup)(hi:X.N[i]? =some x)(hx:MM X.env.scope x)(hf:X.fn x=true∨X.env.scope.names.lookup x=some .local:=by first|exact .inl rfl|exact .inr rfl|assumption):PG X (.Name x pos) (DU i):=by
 intro aa s σ H v u Q I r h
 exact Ew (aJ I hN hi hx r (fun s' I'=>⟨_,H,I',h⟩) hf)
def gNil:K0:=fun vs σ H Q=>vs=[]/\Q σ H
def zC4(t:TG)(u:K0):K0:=fun vs σ H Q=> ∃v r,vs=v::r/\t v σ H fun σ' H'=>u r σ' H' Q
theorem FY:MN X [] gNil:=by
 intro aa s σ H vs us Q I r h
 obtain⟨e,h⟩:=h
 subst e
 cases r
 exact Hx ⟨σ,H,I,h⟩
theorem IT{e:Expr}{es:List Expr}{t:TG}{u:K0}(h1:PG X e t)(h2:MN X es u)
  (hs:(assignEach (e::es) X.env).map (·.2)=Fe e X.env::(assignEach es X.env).map (·.2):=by rfl):MN X (e::es) (zC4 t u):=by
 intro aa s σ H vs us Q I r h
 obtain⟨v,vr,e1,h⟩:=h
 subst e1
 cases r with
 |cons r rr=>
  rw[hs]
  refine Ek (bS (h1 aa s σ H _ _ _ I r h) fun _ s1 ⟨σ1,H1,I1,q1⟩=> ?_)
  exact h2 aa s1 σ1 H1 _ _ Q I1 rr q1
def gTup(K:Ae)(n:Nat)(t:K0):TG:=fun v σ H Q=> ∃a xs,v= .ref a/\YW K H a xs/\xs.length=n/\t xs σ H Q
theorem CC{es:List Expr}{k:Nat}{t:K0}{n:Nat}(hc:X.calm=true)(h:MN X es t)
  (hn:(assignEach es X.env).length=n:=by rfl) (hst:(assignEach es X.env).findIdx? (·.1)=none:=by rfl):PG X (.Tuple es k pos) (gTup X.K n t):=by
 intro aa s σ H v u Q I r hw
 obtain⟨a,xs,e1,hq,hl,hw⟩:=hw
 subst e1
 cases r
 obtain⟨its,rv,ht,hz⟩:=I.tuple hq
 refine assign_Tuple_tuple (I.ok.hd hc) ht (by simp[hn,<- hl,rv.length]) hst fun h' hx=> ?_
 have I1:eF X aa σ H {s with heap:=h'}:=I.kept (t':=s.toks) fun b o e=>hx b o (Au (Ag e)) e
 exact h aa _ σ H xs _ Q I1 (by simpa using rv) hw
def tAsg(te:TE)(g:TG):TS:=fun D σ H=>te σ H fun x H1=>g x σ H1 D.nx
theorem OL{tg e:Expr}{te:TE}{g:TG}(he:PE X e te)(hg:PG X tg g)(hs:Im [tg] e pos.line X.env=pure false:=by rfl)(hw:Io [tg] e X.env=pure none:=by rfl)
  (h1:(assignEach [tg] X.env).map (·.2)=[Fe tg X.env]:=by rfl):PS X (.Assign [tg] e pos) (tAsg te g):=by
 intro aa s σ H D I h
 refine wpAny_Assign_stores (bS (he aa s σ H _ I h) fun v s1 ⟨x,H1,I1,r1,q1⟩=> ?_) hs hw
 rw[h1]
 exact bS (hg aa s1 σ H1 x v _ I1 r1 q1) fun _ s2 q=>q
theorem CI{i:Nat}{x:Str}{e:Expr}{te:TE}{db:Pos}(hN:X.N.Nodup)(hi:X.N[i]? =some x)(hx:MM X.env.scope x)(he:PE X e te)(hs:Na e (some (.Name x db)) pos.line X.env=pure false:=by rfl)(hf:X.fn x=true∨X.env.scope.names.lookup x=some .local:=by first|exact .inl rfl|exact .inr rfl|assumption):
  PS X (.Assign [.Name x db] e pos) (tAsg te (DU i)):=by
 intro aa s σ H D I h
 refine wpAny_Assign_Name (bS (he aa s σ H _ I h) fun v s1 ⟨y,H1,I1,r1,q1⟩=> ?_) hs
 exact aJ I1 hN hi hx r1 (fun s2 I2=>⟨_,H1,I2,q1⟩) hf
end
structure It where
 go:Nat->Hp->Prop
 yld:Nat->Hp->V->Hp->Prop
 stop:Nat->Hp->Prop
def WH(X:Cx)(aa:List (Addr×Obj))(H:Hp)(b:Addr):Prop:=
 H b=none/\b≠X.env.locals/\b∉X.fs/\(b∈X.ex∨X.s₀.heap.objs.size<=b)/\(∀x c,X.env.cells.lookup x=some c->c≠b)/\ ∀p∈X.pn++aa,p.1≠b
theorem eF.fpOk{X:Cx}{aa:List (Addr×Obj)}{σ:St}{H H':Hp}{s:Ab}{b:Addr}(I:eF X aa σ H s)(hb:s.heap.objs.size<=b)(hn:H' b=none):WH X aa H' b:=by
 refine⟨hn,Ff (Al I.lt hb),I.nofs hb,.inr (Cq I.sz hb),fun x c e z=> ?_,fun p hp z=> ?_⟩
 ·obtain⟨v,q⟩:=I.cell x c e
  exact absurd (Al q.lt (by rw[z];exact hb)) (Bq _)
 ·exact absurd (Al (Ag (I.pin p hp).1) (by rw[z];exact hb)) (Bq _)
structure O5(P:Ar)(w:World)(K:Ae)(tg:Expr)(J:It)(fp:List Addr)(it:Addr)(tn:Nat->Heap->Prop):Prop where
 mem:it∈fp
 obj: ∀i h,tn i h-> ∀b∈fp,∃o,h.get? b=some o/\ ∀v,o.data≠ .cell v
 keep: ∀i h h',tn i h->(∀b∈fp,∀o,h.get? b=some o->h'.get? b=some o)->tn i h'
 item: ∀(X:Cx),X.prog=P->X.w=w->X.K=K->X.calm=true-> ∀(i:Nat) (aa:List (Addr×Obj)) (s:Ab) (σ:St) (H:Hp) (E:Value->Ab->Prop),eF X aa σ H s->(∀b∈fp,WH X aa H b)->tn i s.heap->J.go i H→
  wpAny (model P w) X.A (pyNext (.ref it)) (fun r s1=> ∃u,r=some u∧
   wpAny (model P w) X.A (Dh tg (.ref it) u) (fun _ s2=> ∃x H',eF X aa σ H' s2/\dP x u/\J.yld i H x H'/\tn (i+1) s2.heap/\ ∀b∈fp,H' b=none) E s1) E s
 done: ∀(X:Cx),X.prog=P->X.w=w->X.K=K->X.calm=true-> ∀(i:Nat) (aa:List (Addr×Obj)) (s:Ab) (σ:St) (H:Hp) (E:Value->Ab->Prop),eF X aa σ H s->(∀b∈fp,WH X aa H b)->tn i s.heap->J.stop i H→
  wpAny (model P w) X.A (pyNext (.ref it)) (fun r s1=>r=none/\eF X aa σ H s1) E s
 self: ∀(A:Bo) (i:Nat) (s:Ab) (Q:Value->Ab->Prop) (E:Value->Ab->Prop),tn i s.heap->Q (.ref it) s->wpAny (model P w) A (Nb (.ref it)) Q E s
abbrev TI:=St->Hp->(It->Hp->Prop)->Prop
def PIE(X:Cx)(aa:List (Addr×Obj))(σ:St)(tg:Expr)(R:It->Hp->Prop)(itv:Value)(s2:Ab):Prop:=
 ∃(it:Addr) (fp:List Addr) (tn:Nat->Heap->Prop) (J:It) (H':Hp),itv= .ref it/\eF X aa σ H' s2/\O5 X.prog X.w X.K tg J fp it tn/\tn 0 s2.heap/\(∀b∈fp,WH X aa H' b)/\R J H'
def PI(X:Cx)(tg iter:Expr)(wi:TI):Prop:=
 ∀(aa:List (Addr×Obj)) (s:Ab) (σ:St) (H:Hp) (R:It->Hp->Prop),eF X aa σ H s->wi σ H R→
  wpAny (model X.prog X.w) X.A (eval iter X.env) (fun v s1=>wpAny (model X.prog X.w) X.A (Nb v) (PIE X aa σ tg R) X.xe s1) X.xe s
theorem MZ{M:Model}{A:Bo}{E:Value->Ab->Prop}{s:Ab}{tg:Expr}{it:Addr}{u:Value}{o:Obj}{n:String}{vs:Array Value}{Q:Unit->Ab->Prop}(ho:s.heap.get? it=some o)(hc:o.cls= .type n)(hd:o.data= .fields vs)
    (hn:["enumerate","zip","dict_itemiterator","dict_reverseitemiterator","odict_iterator","itertools.zip_longest","itertools.pairwise"].contains n=false) (hQ:Q () s):wpAny M A (Dh tg (.ref it) u) Q E s:=by
  unfold Dh
  cases tg<;>first
    |exact Af hQ
    |(cases u<;>first
        |exact Af hQ
        | (refine Aa (wpAny_load ho ?_)
           rw[hc,hd]
           show wpAny M A (if(["enumerate","zip","dict_itemiterator","dict_reverseitemiterator","odict_iterator","itertools.zip_longest","itertools.pairwise"].contains n && vs[0]? ==some (rawInt _))=true then _ else _) Q E s
           rw[if_neg (by intro h;rw[hn,Bool.false_and] at h;cases h)]
           exact Af hQ))
noncomputable def Itl(K:Ae)(a:Addr):It:=
 ⟨fun i H=> ∃xs x,aT K H a xs/\xs[i]? =some x,fun i H x H'=>H'=H/\ ∀xs,aT K H a xs->xs[i]? =some x,fun i H=> ∃xs,aT K H a xs/\xs.length<=i⟩
noncomputable def Itt(K:Ae)(a:Addr):It:=
 ⟨fun i H=> ∃xs x,YW K H a xs/\xs[i]? =some x,fun i H x H'=>H'=H/\ ∀xs,YW K H a xs->xs[i]? =some x,fun i H=> ∃xs,YW K H a xs/\xs.length<=i⟩
noncomputable def Itr(lo:Int)(n:Nat):It:=⟨fun i _=>i<n,fun i H x H'=>H'=H/\x= .int (lo+i),fun i _=>n<=i⟩
theorem MC{P:Ar}{w:World}{K:Ae}{tg:Expr}(a it:Addr):O5 P w K tg (Itl K a) [it] it (fun i h=>h.IsListIter it a i) where
 mem:=by simp
 obj:=fun i h st b hb=>by
  have e:b=it:=by simpa using hb
  subst e
  obtain⟨o,e,c,d⟩:=st
  exact⟨o,e,fun v z=>by rw[d] at z;cases z⟩
 keep:=fun i h h' st k=>st.at fun o e=>k it (by simp) o e
 item:=by
  intro X hP hw hK hc i aa s σ H E I hf st hg
  subst hP hw hK
  obtain⟨xs,x,hq,hx⟩:=hg
  obtain⟨its,rv,p,hz⟩:=I.list hq
  obtain⟨u,hu,ru⟩:=rv.get hx
  obtain⟨f0,f1,f2,f3,f4,f5⟩:=hf it (by simp)
  refine Je st p.isList (x:=u) (by simpa using hu) fun h' st' sb=> ?_
  have I1:eF X aa σ H {s with heap:=h'}:=I.turned (t':=s.toks) (fun b o hb e=>(sb.2 b hb).trans e) f0 f1 f3 f4 f5
  obtain⟨o,e,c,d⟩:=id st'
  exact⟨u,rfl,MZ (s:={s with heap:=h'}) e c d (by decide) ⟨x,H,I1,ru,⟨rfl,fun ys hy=>by rw[I.list_inj hy hq];exact hx⟩,st',fun b hb=>(hf b hb).1⟩⟩
 done:=by
  intro X hP hw hK hc i aa s σ H E I hf st hg
  subst hP hw hK
  obtain⟨xs,hq,hx⟩:=hg
  obtain⟨its,rv,p,hz⟩:=I.list hq
  obtain⟨f0,f1,f2,f3,f4,f5⟩:=hf it (by simp)
  have hl:=rv.length
  exact Jl (I.ok.hd hc) st p.isList (by simp;omega) fun h' eb=>⟨rfl,I.turned (t':=s.toks) (fun b o hb e=>eb b o hb e) f0 f1 f3 f4 f5⟩
 self:=fun _ _ _ _ _ st h=>wpAny_pyIter_listiter st h
theorem OU{P:Ar}{w:World}{K:Ae}{tg:Expr}(a it:Addr):O5 P w K tg (Itt K a) [it] it (fun i h=>h.IsTupleIter it a i) where
 mem:=by simp
 obj:=fun i h st b hb=>by
  have e:b=it:=by simpa using hb
  subst e
  obtain⟨o,e,c,d⟩:=st
  exact⟨o,e,fun v z=>by rw[d] at z;cases z⟩
 keep:=fun i h h' st k=>st.at fun o e=>k it (by simp) o e
 item:=by
  intro X hP hw hK hc i aa s σ H E I hf st hg
  subst hP hw hK
  obtain⟨xs,x,hq,hx⟩:=hg
  obtain⟨its,rv,p,hz⟩:=I.tuple hq
  obtain⟨u,hu,ru⟩:=rv.get hx
  obtain⟨f0,f1,f2,f3,f4,f5⟩:=hf it (by simp)
  refine wpAny_pyNext_tuple_item st (show s.heap.IsTuple a its.toArray from p) (x:=u) (by simpa using hu) fun h' st' sb=> ?_
  have I1:eF X aa σ H {s with heap:=h'}:=I.turned (t':=s.toks) (fun b o hb e=>(sb.2 b hb).trans e) f0 f1 f3 f4 f5
  obtain⟨o,e,c,d⟩:=id st'
  exact⟨u,rfl,MZ (s:={s with heap:=h'}) e c d (by decide) ⟨x,H,I1,ru,⟨rfl,fun ys hy=>by rw[I.tuple_inj hy hq];exact hx⟩,st',fun b hb=>(hf b hb).1⟩⟩
 done:=by
  intro X hP hw hK hc i aa s σ H E I hf st hg
  subst hP hw hK
  obtain⟨xs,hq,hx⟩:=hg
  obtain⟨its,rv,p,hz⟩:=I.tuple hq
  obtain⟨f0,f1,f2,f3,f4,f5⟩:=hf it (by simp)
  have hl:=rv.length
  exact wpAny_pyNext_tuple_end (I.ok.hd hc) st (show s.heap.IsTuple a its.toArray from p) (by simp;omega) fun h' eb=>⟨rfl,I.turned (t':=s.toks) (fun b o hb e=>eb b o hb e) f0 f1 f3 f4 f5⟩
 self:=fun _ _ _ _ _ st h=>wpAny_pyIter_tupleiter st h
theorem OT{P:Ar}{w:World}{K:PySem.W.Frag}{tg:Expr}(it:Addr)(lo:Int)(n:Nat):O5 P w K tg (Itr lo n) [it] it (fun i h=>IsRangeIter h it (lo+(i:Nat)*1) ((n:Int) - (i:Nat)) 1) where
 mem:=by simp
 obj:=fun i h st b hb=>by
  have e:b=it:=by simpa using hb
  subst e
  exact⟨_,st,fun v z=>by
   have z':Data.fields _=Data.cell v:=z
   cases z'⟩
 keep:=fun i h h' st k=>k it (by simp) _ st
 item:=by
  intro X hP hw hK hc i aa s σ H E I hf st hg
  subst hP hw hK
  obtain⟨f0,f1,f2,f3,f4,f5⟩:=hf it (by simp)
  have W:=Walks.range (prog:=X.prog) (w:=X.w) (I.ok.hd hc) it lo 1 n
  refine W.item i s _ _ hg st fun v h' tk hv st' kk=> ?_
  obtain⟨t,rfl⟩:=hv
  have I1:eF X aa σ H {s with heap:=h',toks:=tk}:=I.turned (fun b o hb e=>kk b o (by simpa using hb) e) f0 f1 f3 f4 f5
  refine⟨_,rfl,MZ (s:={s with heap:=h',toks:=tk}) (n:= "range_iterator") st' rfl rfl (by decide) ⟨.int (lo+i),H,I1,⟨t,?_⟩,⟨rfl,rfl⟩,st',fun b hb=>(hf b hb).1⟩⟩
  rw[Int.mul_one]
 done:=by
  intro X hP hw hK hc i aa s σ H E I hf st hg
  subst hP hw hK
  obtain⟨f0,f1,f2,f3,f4,f5⟩:=hf it (by simp)
  exact wpAny_pyNext_range_end (I.ok.hd hc) st (by have:n<=i:=hg;omega) fun h' eb=>⟨rfl,I.turned (t':=s.toks) (fun b o hb e=>eb b o hb e) f0 f1 f3 f4 f5⟩
 self:=fun _ _ _ _ _ st h=>wpAny_pyIter_rangeiter st h
section
variable{X:Cx}{tg:Expr}
def DW(K:Ae)(tl:TE):TI:=fun σ H R=>tl σ H fun x H1=> ∃a,x= .ref a/\(∃xs,aT K H1 a xs)/\R (Itl K a) H1
def iTup(K:Ae)(tl:TE):TI:=fun σ H R=>tl σ H fun x H1=> ∃a,x= .ref a/\(∃xs,YW K H1 a xs)/\R (Itt K a) H1
theorem FZ{l:Expr}{tl:TE}(hl:PE X l tl):PI X tg l (DW X.K tl):=by
 intro aa s σ H R I h
 refine bS (hl aa s σ H _ I h) fun v s1 ⟨x,H1,I1,r1,q1⟩=> ?_
 obtain⟨a,e,⟨xs,hq⟩,q⟩:=q1
 subst e
 cases r1
 obtain⟨its,rv,p,hz⟩:=I1.list hq
 refine Dz p.isList ?_
 refine⟨s1.heap.objs.size,[s1.heap.objs.size],_,_,H1,rfl,I1.kept (t':=s1.toks) fun b o e=>Ad _ e,MC a _,⟨_,Ap _ rfl,rfl,rfl⟩,fun b hb=> ?_,q⟩
 have e:b=s1.heap.objs.size:=by simpa using hb
 subst e
 exact I1.fpOk (An _) (I1.hok.fresh (An _))
theorem CF{l:Expr}{tl:TE}(hl:PE X l tl):PI X tg l (iTup X.K tl):=by
 intro aa s σ H R I h
 refine bS (hl aa s σ H _ I h) fun v s1 ⟨x,H1,I1,r1,q1⟩=> ?_
 obtain⟨a,e,⟨xs,hq⟩,q⟩:=q1
 subst e
 cases r1
 obtain⟨its,rv,p,hz⟩:=I1.tuple hq
 refine Ks (show s1.heap.IsTuple a its.toArray from p) ?_
 refine⟨s1.heap.objs.size,[s1.heap.objs.size],_,_,H1,rfl,I1.kept (t':=s1.toks) fun b o e=>Ad _ e,OU a _,⟨_,Ap _ rfl,rfl,rfl⟩,fun b hb=> ?_,q⟩
 have e:b=s1.heap.objs.size:=by simpa using hb
 subst e
 exact I1.fpOk (An _) (I1.hok.fresh (An _))
theorem P7{aa:List (Addr×Obj)}{σ:St}{H:Hp}{s:Ab}{R:It->Hp->Prop}{E:Value->Ab->Prop}{lo hi:Int}{t u v:Tok}{tk:Nat}(I:eF X aa σ H s)(h1: -(2 ^ 62)<=lo)(h2:lo<2 ^ 62)(h3: -(2 ^ 62)<=hi)(h4:hi<2 ^ 62)
  (q:R (Itr lo (hi - lo).toNat) H):wpAny (model X.prog X.w) X.A (Nb (.ref s.heap.objs.size)) (PIE X aa σ tg R) E {s with heap:=s.heap.push {cls:= .type "range",data:= .fields #[.int lo t,.int hi u,.int 1 v]},toks:=tk}:=by
 refine wpAny_pyIter_range (IsRange.new ..) (small_one h1 h2 h3 h4) ?_
 have I1:eF X aa σ H {s with heap:=s.heap.push {cls:= .type "range",data:= .fields #[.int lo t,.int hi u,.int 1 v]},toks:=tk}:=I.kept fun b o e=>Ad _ e
 refine⟨(s.heap.push {cls:= .type "range",data:= .fields #[.int lo t,.int hi u,.int 1 v]}).objs.size,[(s.heap.push {cls:= .type "range",data:= .fields #[.int lo t,.int hi u,.int 1 v]}).objs.size],_,_,H,rfl,
  I1.kept (t':=tk) fun b o e=>Ad _ e,OT _ lo (hi - lo).toNat,?_,fun b hb=> ?_,q⟩
 ·have e1 : lo + ((0 : Nat) : Int) * 1 = lo := by simp
  have e2:(((hi - lo).toNat:Nat):Int) - ((0:Nat):Int)=Og lo hi 1:=by rw[rangeSize_one];split<;>omega
  show IsRangeIter _ _ (lo+((0:Nat):Int)*1) ((((hi - lo).toNat:Nat):Int) - ((0:Nat):Int)) 1
  rw[e1,e2]
  exact Ap _ rfl
 ·have e : b = (s.heap.push { cls := .type "range",data := .fields #[.int lo t,.int hi u,.int 1 v] }).objs.size := by simpa using hb
  subst e
  exact I1.fpOk (An _) (I1.hok.fresh (An _))
def zBT(ta:TA):TI:=fun σ H R=>ta σ H fun vs H1=> ∃j:Int,vs=[.int j]/\ -(2 ^ 62)<=j/\j<2 ^ 62/\R (Itr 0 j.toNat) H1
def zBS(ta:TA):TI:=fun σ H R=>ta σ H fun vs H1=> ∃i j:Int,vs=[.int i,.int j]/\(-(2 ^ 62)<=i/\i<2 ^ 62/\ -(2 ^ 62)<=j/\j<2 ^ 62)/\R (Itr i (j - i).toNat) H1
theorem LW{a:Expr}{ta:TA}{p pos:Pos}(hg:Gl X "range") (hm:X.mg "range"=none) (ha:PA X [a] ta) (hs:starEach [a] X.env=[(false,eval a X.env)]:=by rfl):PI X tg (.Call (.Name "range" p) [a] [] pos) (zBT ta):=by
 intro aa s σ H R I h
 refine Call_ (WM I hg hm boot_range (Di (bS (ha pos aa s σ H _ I h) fun us s1 ⟨vs,H1,I1,r1,q1⟩=> ?_) hs rfl))
 obtain⟨j,e,q1,q2,q⟩:=q1
 subst e
 cases r1 with
 |cons r rr=>
  cases rr
  obtain⟨t,rfl⟩:=r
  exact call_range_1 (P7 I1 (by omega) (by omega) q1 q2 (by simpa using q))
theorem LX{a b:Expr}{ta:TA}{p pos:Pos}(hg:Gl X "range") (hm:X.mg "range"=none) (ha:PA X [a,b] ta) (hs:starEach [a,b] X.env=[(false,eval a X.env),(false,eval b X.env)]:=by rfl) (hs2:starEach [b] X.env=[(false,eval b X.env)]:=by rfl):
  PI X tg (.Call (.Name "range" p) [a,b] [] pos) (zBS ta):=by
 intro aa s σ H R I h
 refine Call_ (WM I hg hm boot_range (Di (bS (ha pos aa s σ H _ I h) fun us s1 ⟨vs,H1,I1,r1,q1⟩=> ?_) (by rw[hs,hs2]) (by rw[hs2];rfl)))
 obtain⟨i,j,e,⟨q1,q2,q3,q4⟩,q⟩:=q1
 subst e
 cases r1 with
 |cons r rr=>
  cases rr with
  |cons r' rr=>
   cases rr
   obtain⟨t,rfl⟩:=r
   obtain⟨t',rfl⟩:=r'
   exact call_range_2 (P7 I1 q1 q2 q3 q4 q)
def tFor(wi:TI)(g:TG)(tb:TS):TS:=fun D σ H=>wi σ H fun J H1=> ∃W:Nat->Nat->St->Hp->Prop,(∃m,W 0 m σ H1)/\ ∀i m σ H,W i m σ H→
 (J.stop i H/\D.nx σ H)∨(J.go i H/\ ∃N:St->Hp->Prop,(∀σ' H',N σ' H'-> ∃m',m'<m/\W (i+1) m' σ' H')/\ ∀x H',J.yld i H x H'->g x σ H' fun σ2 H2=>tb {D with nx:=N,ct:=N,bk:=D.nx} σ2 H2)
noncomputable def X5(fp:List Addr)(h:Heap):List (Addr×Obj):=fp.filterMap fun b=>(h.get? b).map fun o=>(b,o)
theorem b8{fp:List Addr}{h:Heap}{b:Addr}{o:Obj}(hb:b∈fp)(e:h.get? b=some o):(b,o)∈X5 fp h:=Hj.mpr ⟨b,hb,by rw[e];rfl⟩
theorem LU{fp:List Addr}{h:Heap}{p:Addr×Obj}(hp:p∈X5 fp h):p.1∈fp/\h.get? p.1=some p.2:=by
 obtain⟨b,hb,e⟩:=Hj.mp hp
 cases q:h.get? b with
 |none=>rw[q] at e;cases e
 |some o=>
  rw[q] at e
  have e':(b,o)=p:=Bu e
  subst e'
  exact⟨hb,q⟩
theorem eF.pinned{aa:List (Addr×Obj)}{σ:St}{H:Hp}{s:Ab}{fp:List Addr}(I:eF X aa σ H s)(hf: ∀b∈fp,WH X aa H b)(ho: ∀b∈fp,∃o,s.heap.get? b=some o/\ ∀v,o.data≠ .cell v):eF X (aa++X5 fp s.heap) σ H s:=
 I.pins_of fun p hp=>(El.mp hp).elim (fun z=>I.pin p (Am _ z)) fun z=>by
  obtain⟨hb,e⟩:=LU z
  obtain⟨f0,f1,f2,_⟩:=hf p.1 hb
  obtain⟨o,e',d⟩:=ho p.1 hb
  rw[e] at e';cases e'
  exact⟨e,f0,f1,f2,d⟩
theorem eF.unpinned{aa pl:List (Addr×Obj)}{σ:St}{H:Hp}{s:Ab}(I:eF X (aa++pl) σ H s):eF X aa σ H s:=I.pins_of fun p hp=>I.pin p (Am _ (Av _ hp))
theorem CH{iter:Expr}{body:List Stmt}{wi:TI}{g:TG}{tb:TS}{pos:Pos}(hp:PassesOwn (model X.prog X.w) X.A X.env X.xe)(hc:X.calm=true)(hi:PI X tg iter wi)(hg:PG X tg g)(hb:ZQ X body tb)
  (hs : ∀ x,foldedSetIterable iter X.env x = pure x := by intro _;rfl) : PS X (.For tg iter body [] pos) (tFor wi g tb) := by
 intro aa s σ H D I h
 refine wpAny_For (bS (hi aa s σ H _ I h) fun v s1 h1=>bS h1 fun itv s2 h2=> ?_) hs
 obtain⟨it,fp,tn,J,H2,e,I2,T,st2,f2,W,⟨m0,w0⟩,turn⟩:=h2
 subst e
 have stat: ∀{H':Hp},(∀b∈fp,H' b=none)-> ∀b∈fp,WH X aa H' b:=fun hn b hb=>⟨hn b hb,(f2 b hb).2⟩
 refine codeAny_forLoop_any (fun n s'=> ∃i σ' H',eF X aa σ' H' s'/\tn i s'.heap/\(∀b∈fp,H' b=none)/\W i n σ' H') ?_ m0 ⟨0,σ,H2,I2,st2,fun b hb=>(f2 b hb).1,w0⟩
 rintro n s3 ⟨i,σ3,H3,I3,st3,fr3,w3⟩
 rcases turn i n σ3 H3 w3 with⟨stop,qn⟩|⟨go,N,hN,step⟩
 ·refine Fo hp (bS (T.done X rfl rfl rfl hc i aa s3 σ3 H3 X.xe I3 (stat fr3) st3 stop) fun r s4 ⟨hr,I4⟩ => ?_)
  subst hr
  exact Jk ⟨σ3,H3,I4,qn⟩
 ·refine Fo hp (bS (T.item X rfl rfl rfl hc i aa s3 σ3 H3 X.xe I3 (stat fr3) st3 go) fun r s4 ⟨u,hr,h4⟩ => ?_)
  subst hr
  refine Fo hp (bS h4 fun _ s5 ⟨x,H5,I5,r5,y5,st5,fr5⟩=> ?_)
  have I5':=I5.pinned (stat fr5) (T.obj _ _ st5)
  refine Fo hp (bS (hg _ s5 σ3 H5 x u _ I5' r5 (step x H5 y5)) fun _ s6 ⟨σ6,H6,I6,q6⟩=> ?_)
  refine Fo hp (bS (hb _ s6 σ6 H6 _ I6 q6) fun f s7 q7=> ?_)
  have again: ∀{σ7:St} {H7:Hp},eF X (aa++X5 fp s5.heap) σ7 H7 s7->N σ7 H7-> ∃m,m<n/\ ∃i σ' H',eF X aa σ' H' s7/\tn i s7.heap/\(∀b∈fp,H' b=none)/\W i m σ' H':=fun{σ7 H7} I7 n7=>by
   obtain⟨m',hm,w7⟩:=hN σ7 H7 n7
   refine⟨m',hm,i+1,σ7,H7,I7.unpinned,T.keep _ _ _ st5 fun b hb o e=>(I7.pin (b,o) (Am _ (Am _ (b8 hb e)))).1,fun b hb=> ?_,w7⟩
   obtain⟨o,e,d⟩:=T.obj _ _ st5 b hb
   exact(I7.pin (b,o) (Am _ (Am _ (b8 hb e)))).2.1
  cases f with
  |next=>obtain⟨σ7,H7,I7,n7⟩:=q7;exact again I7 n7
  |cont=>obtain⟨σ7,H7,I7,n7⟩:=q7;exact again I7 n7
  |brk=>obtain⟨σ7,H7,I7,q7⟩:=q7;exact⟨σ7,H7,I7.unpinned,q7⟩
  |ret v=>obtain⟨x7,σ7,H7,I7,r7,q7⟩:=q7;exact⟨x7,σ7,H7,I7.unpinned,r7,q7⟩
end
abbrev R2:=V->V->Hp->VK->Prop
def aS(X:Cx)(f:Value->Value->Sem Value)(r:R2):Prop:=
 ∀(aa:List (Addr×Obj)) (s:Ab) (σ:St) (H:Hp) (x y:V) (v u:Value) (Q:VK),eF X aa σ H s->dP x v->dP y u->r x y H Q→
  wpAny (model X.prog X.w) X.A (f v u) (EP X aa σ Q) X.xe s
def UnR(X:Cx)(f:Value->Sem Value)(r:V->Hp->VK->Prop):Prop:=
 ∀(aa:List (Addr×Obj)) (s:Ab) (σ:St) (H:Hp) (x:V) (v:Value) (Q:VK),eF X aa σ H s->dP x v->r x H Q→
  wpAny (model X.prog X.w) X.A (f v) (EP X aa σ Q) X.xe s
def cI(X:Cx)(f:Value)(r:List V->Hp->VK->Prop):Prop:=
 ∀(aa:List (Addr×Obj)) (s:Ab) (σ:St) (H:Hp) (xs:List V) (us:List Value) (Q:VK),eF X aa σ H s->dG xs us->r xs H Q→
  wpAny (model X.prog X.w) X.A (call f us) (EP X aa σ Q) X.xe s
def C6(r:R2)(ta tb:TE):TE:=fun σ H Q=>ta σ H fun x H1=>tb σ H1 fun y H2=>r x y H2 Q
def tUn(r:V->Hp->VK->Prop)(ta:TE):TE:=fun σ H Q=>ta σ H fun x H1=>r x H1 Q
def rI(C:Int->Int->Prop)(g:Int->Int->V):R2:=fun x y H Q=> ∃i j,x= .int i/\y= .int j/\C i j/\Q (g i j) H
def NH(g:Int->Int->V):R2:=fun x y H Q=> ∃i j,x= .int i/\y= .int j/\Q (g i j) H
def rU(g:Int->V):V->Hp->VK->Prop:=fun x H Q=> ∃i,x= .int i/\Q (g i) H
section
variable{X:Cx}{a b c:Expr}{ta tb tc:TE}{pos:Pos}
theorem AJ(ha:PE X a ta)(hb:PE X b tb){aa:List (Addr×Obj)}{s:Ab}{σ:St}{H:Hp}{R:V->V->Hp->Prop}(I:eF X aa σ H s)
  (h:ta σ H fun x H1=>tb σ H1 fun y H2=>R x y H2) {Q:Value->Ab->Prop} {f:Value->Value->Sem Value}
  (hf: ∀v u s2 x y H2,eF X aa σ H2 s2->dP x v->dP y u->R x y H2->wpAny (model X.prog X.w) X.A (f v u) Q X.xe s2):
  wpAny (model X.prog X.w) X.A (eval a X.env) (fun v s₁=>wpAny (model X.prog X.w) X.A (eval b X.env) (fun u s₂=>wpAny (model X.prog X.w) X.A (f v u) Q X.xe s₂) X.xe s₁) X.xe s:=by
 refine bS (ha aa s σ H _ I h) fun v s1 ⟨x,H1,I1,r1,q1⟩=> ?_
 refine bS (hb aa s1 σ H1 _ I1 q1) fun u s2 ⟨y,H2,I2,r2,q2⟩=> ?_
 exact hf v u s2 x y H2 I2 r1 r2 q2
theorem D2{op:Operator}{r:R2}(ho:aS X (Dq op) r)(ha:PE X a ta)(hb:PE X b tb):PE X (.BinOp a op b pos) (C6 r ta tb):=by
 intro aa s σ H Q I h
 exact wpAny_BinOp (AJ ha hb I h fun v u s2 x y H2 I2 rx ry q=>ho aa s2 σ H2 x y v u Q I2 rx ry q)
theorem zB1{op:UnaryOp}{r:V->Hp->VK->Prop}(ho:UnR X (unaryOp op) r)(ha:PE X a ta):PE X (.UnaryOp op a pos) (tUn r ta):=by
 intro aa s σ H Q I h
 exact UnaryOp_ (bS (ha aa s σ H _ I h) fun v s1 ⟨x,H1,I1,r1,q1⟩=>ho aa s1 σ H1 x v Q I1 r1 q1)
theorem opI{f:Value->Value->Sem Value}{C:Int->Int->Prop}{g:Int->Int->Int}
  (rule: ∀(i j:Int) (t u:Tok) (s:Ab) (Q:Value->Ab->Prop) (E:Value->Ab->Prop),C i j->Q (.int (g i j) s.toks) {s with toks:=s.toks+1}->wpAny (model X.prog X.w) X.A (f (.int i t) (.int j u)) Q E s):
  aS X f (rI C fun i j=> .int (g i j)):=by
 intro aa s σ H x y v u Q I rx ry h
 obtain⟨i,j,rfl,rfl,hc,q⟩:=h
 obtain⟨t,rfl⟩:=rx
 obtain⟨t',rfl⟩:=ry
 exact rule i j t t' s _ _ hc ⟨.int (g i j),H,I.tok _,⟨_,rfl⟩,q⟩
theorem opI0{f:Value->Value->Sem Value}{g:Int->Int->Int}
  (rule: ∀(i j:Int) (t u:Tok) (s:Ab) (Q:Value->Ab->Prop) (E:Value->Ab->Prop),Q (.int (g i j) s.toks) {s with toks:=s.toks+1}->wpAny (model X.prog X.w) X.A (f (.int i t) (.int j u)) Q E s):
  aS X f (NH fun i j=> .int (g i j)):=by
 intro aa s σ H x y v u Q I rx ry h
 obtain⟨i,j,rfl,rfl,q⟩:=h
 obtain⟨t,rfl⟩:=rx
 obtain⟨t',rfl⟩:=ry
 exact rule i j t t' s _ _ ⟨.int (g i j),H,I.tok _,⟨_,rfl⟩,q⟩
theorem BY{f:Value->Value->Sem Value}{g:Int->Int->Bool}
  (rule: ∀(i j:Int) (t u:Tok) (s:Ab) (Q:Value->Ab->Prop) (E:Value->Ab->Prop),Q (.bool (g i j)) s->wpAny (model X.prog X.w) X.A (f (.int i t) (.int j u)) Q E s):
  aS X f (NH fun i j=> .bl (g i j)):=by
 intro aa s σ H x y v u Q I rx ry h
 obtain⟨i,j,rfl,rfl,q⟩:=h
 obtain⟨t,rfl⟩:=rx
 obtain⟨t',rfl⟩:=ry
 exact rule i j t t' s _ _ ⟨.bl (g i j),H,I,rfl,q⟩
def CDiv(i j:Int):Prop:=0<j/\j<1073741824
def CPow(i j:Int):Prop:=0<=j/\j<=1000000/\i.natAbs<2 ^ 64
def KN(i j:Int):Prop:=(-(2 ^ 64)<i/\i<2 ^ 64)∨(-(2 ^ 64)<j/\j<2 ^ 64)
theorem KN.ok{i j:Int}(h:KN i j):IntMulOk i j:=by
 rcases h with⟨h1,h2⟩|⟨h1,h2⟩
 ·exact .of_left (intBits_le_64 h1 h2)
 ·exact .of_right (intBits_le_64 h1 h2)
theorem BZ:aS X (Dq .Add) (NH fun i j=> .int (i+j)):=opI0 fun _ _ _ _ _ _ _ q=>add_int q
theorem IF:aS X (Dq .Sub) (NH fun i j=> .int (i - j)):=opI0 fun _ _ _ _ _ _ _ q=>sub_int q
theorem B3:aS X (Dq .Mult) (rI KN fun i j=> .int (i*j)):=opI fun _ _ _ _ _ _ _ hc q=>mul_int q hc.ok
theorem NC:aS X (Dq .FloorDiv) (rI CDiv fun i j=> .int (i/j)):=opI fun i j _ _ _ _ _ hc q=>by
 have h1:(0:Int)<j:=hc.1
 have h2:j<1073741824:=hc.2
 exact floordiv_int (by omega) (by rw[Int.fdiv_eq_ediv_of_nonneg i (by omega)];exact q) (.inl (PyProof.noPylong_small (by omega)))
theorem WR:aS X (Dq .Mod) (rI (fun _ j=>0<j) fun i j=> .int (i % j)):=opI fun i j _ _ _ _ _ hc q=>by
 have h1:(0:Int)<j:=hc
 exact mod_int' (by omega) (by rw[Int.fmod_eq_emod_of_nonneg i (by omega)];exact q)
theorem B5:aS X (Dq .Pow) (rI CPow fun i j=> .int (i ^ j.toNat)):=opI fun _ _ _ _ _ _ _ hc q=>pow_int_small hc.1 hc.2.1 hc.2.2 q
theorem unI{f:Value->Sem Value}{g:Int->Int}
  (rule: ∀(i:Int) (t:Tok) (s:Ab) (Q:Value->Ab->Prop) (E:Value->Ab->Prop),Q (.int (g i) s.toks) {s with toks:=s.toks+1}->wpAny (model X.prog X.w) X.A (f (.int i t)) Q E s):
  UnR X f (rU fun i=> .int (g i)):=by
 intro aa s σ H x v Q I rx h
 obtain⟨i,rfl,q⟩:=h
 obtain⟨t,rfl⟩:=rx
 exact rule i t s _ _ ⟨.int (g i),H,I.tok _,⟨_,rfl⟩,q⟩
theorem DC:UnR X (unaryOp .USub) (rU fun i=> .int (-i)):=unI fun _ _ _ _ _ q=>neg_int q
end
section
variable{X:Cx}{a b c:Expr}{ta tb tc:TE}{pos:Pos}
theorem RB{aa:List (Addr×Obj)}{σ:St}{H:Hp}{s:Ab}{Q:VK}{k k':Bool}(I:eF X aa σ H s)(q:Q (.bl k) H)(e:k=k'):EP X aa σ Q (.bool k') s:=by
 subst e
 exact⟨.bl k,H,I,rfl,q⟩
theorem DZ:aS X (Bv .Lt) (NH fun i j=> .bl (decide (i<j))):=BY fun _ _ _ _ _ _ _ q=>lt_int q
theorem ND:aS X (Bv .LtE) (NH fun i j=> .bl (decide (i<=j))):=BY fun _ _ _ _ _ _ _ q=>le_int q
theorem zB5:aS X (Bv .Gt) (NH fun i j=> .bl (decide (j<i))):=BY fun _ _ _ _ _ _ _ q=>gt_int q
theorem LV:aS X (Bv .In) (fun x y H Q=> ∃i j,x= .str i/\y= .str j/\Q (.bl (!(Cm j i 0 j.length 1).isEmpty)) H):=by
 intro aa s σ H x y v u Q I rx ry h
 obtain⟨i,j,rfl,rfl,q⟩:=h
 obtain⟨t,rfl⟩:=rx
 obtain⟨t',rfl⟩:=ry
 exact in_str (RB I q rfl)
theorem B1:aS X (Bv .Is) (fun x y H Q=>y= .non/\Q (.bl (decide (x= .non))) H):=by
 intro aa s σ H x y v u Q I rx ry h
 obtain⟨rfl,q⟩:=h
 cases ry
 refine is_none_gen (RB I q ?_)
 cases x<;>first
  |(cases rx;rfl)
  |(obtain⟨t,rfl⟩:=rx;rfl)
theorem aS.or{f:Value->Value->Sem Value}{r r':R2}(h:aS X f r)(h':aS X f r'):aS X f (fun x y H Q=>r x y H Q∨r' x y H Q):=by
 intro aa s σ H x y v u Q I rx ry q
 rcases q with q|q
 ·exact h aa s σ H x y v u Q I rx ry q
 ·exact h' aa s σ H x y v u Q I rx ry q
theorem cS(b:Expr){op:CmpOp}(h:op≠ .In:=by decide)(h2:op≠ .NotIn:=by decide):Fp op b=false:=by
 have e1:(op==CmpOp.In)=false:=by cases op<;>first|rfl|exact absurd rfl h
 have e2:(op==CmpOp.NotIn)=false:=by cases op<;>first|rfl|exact absurd rfl h2
 cases b<;>simp[Fp,e1,e2]
theorem FU{op:CmpOp}{r:R2}(ho:aS X (Bv op) r)(ha:PE X a ta)(hb:PE X b tb)(hm:Fp op b=false):PE X (.Compare a [op] [b] pos) (C6 r ta tb):=by
 intro aa s σ H Q I h
 exact wpAny_Compare1 (AJ ha hb I h fun v u s2 x y H2 I2 rx ry q=>ho aa s2 σ H2 x y v u Q I2 rx ry q) hm
def EG(t:TE):TT:=fun σ H Q=>t σ H fun x H'=> ∃k,x= .bl k/\Q k H'
theorem F3{op:CmpOp}{r:R2}(ho:aS X (Bv op) r)(ha:PE X a ta)(hb:PE X b tb)(hm:Fp op b=false):PT X (.Compare a [op] [b] pos) (EG (C6 r ta tb)):=by
 intro aa s σ H Q I h
 refine wpAny_isTrue_Compare1 (bS (ha aa s σ H _ I h) fun v s1 ⟨x,H1,I1,r1,q1⟩=>bS (hb aa s1 σ H1 _ I1 q1) fun u s2 ⟨y,H2,I2,r2,q2⟩=>
  bS (ho aa s2 σ H2 x y v u _ I2 r1 r2 q2) fun c s3 ⟨z,H3,I3,r3,k,e,q3⟩=> ?_) hm
 subst e
 cases r3
 exact Dg ⟨H3,I3,q3⟩
def OR(r r':R2)(ta tb tc:TE):TE:=fun σ H Q=>ta σ H fun x H1=>tb σ H1 fun y H2=>r x y H2 fun z H3=> ∃k,z= .bl k∧
 (if k=true then tc σ H3 fun w' H4=>r' y w' H4 Q else Q (.bl false) H3)
theorem IJ{op op':CmpOp}{r r':R2}(ho:aS X (Bv op) r)(ho':aS X (Bv op') r')(ha:PE X a ta)(hb:PE X b tb)(hc:PE X c tc)
  (hm:Nc [op,op'] [b,c]=false:=by with_unfolding_all rfl):PE X (.Compare a [op,op'] [b,c] pos) (OR r r' ta tb tc):=by
 intro aa s σ H Q I h
 refine Compare_chain (bS (ha aa s σ H _ I h) fun v s1 ⟨x,H1,I1,r1,q1⟩=>chain_link (bS (hb aa s1 σ H1 _ I1 q1) fun u s2 ⟨y,H2,I2,r2,q2⟩=>
  bS (ho aa s2 σ H2 x y v u _ I2 r1 r2 q2) fun d s3 ⟨z,H3,I3,r3,k,e,q3⟩=> ?_)) hm
 subst e
 cases r3
 refine Dg ?_
 cases k with
 |false=>exact ite_ff ⟨.bl false,H3,I3,rfl,q3⟩
 |true=>exact ite_tt (chain_last (bS (hc aa s3 σ H3 _ I3 q3) fun w' s4 ⟨z',H4,I4,r4,q4⟩=>ho' aa s4 σ H4 y z' u w' Q I4 r2 r4 q4))
theorem IW{op op':CmpOp}{r r':R2}(ho:aS X (Bv op) r)(ho':aS X (Bv op') r')(ha:PE X a ta)(hb:PE X b tb)(hc:PE X c tc)
  (hm:Nc [op,op'] [b,c]=false:=by with_unfolding_all rfl):PT X (.Compare a [op,op'] [b,c] pos) (EG (OR r r' ta tb tc)):=by
 intro aa s σ H Q I h
 refine isTrue_chain (bS (ha aa s σ H _ I h) fun v s1 ⟨x,H1,I1,r1,q1⟩=>test_link (bS (hb aa s1 σ H1 _ I1 q1) fun u s2 ⟨y,H2,I2,r2,q2⟩=>
  bS (ho aa s2 σ H2 x y v u _ I2 r1 r2 q2) fun d s3 ⟨z,H3,I3,r3,k,e,q3⟩=> ?_)) hm
 subst e
 cases r3
 refine Dg ?_
 cases k with
 |false=>
  obtain⟨k',e',q'⟩:=q3
  cases e'
  exact ite_ff ⟨H3,I3,q'⟩
 |true=>
  refine ite_tt (test_last (bS (hc aa s3 σ H3 _ I3 q3) fun w' s4 ⟨z',H4,I4,r4,q4⟩=>bS (ho' aa s4 σ H4 y z' u w' _ I4 r2 r4 q4) fun d' s5 ⟨z2,H5,I5,r5,k2,e2,q5⟩=> ?_))
  subst e2
  cases r5
  exact Dg ⟨H5,I5,q5⟩
theorem U1:(sizeLine:Nat)<2 ^ 63:=by rw[Bg];decide
theorem OH:aS X (Dq .Add) (fun x y H Q=> ∃i j,x= .str i/\y= .str j/\i.length+j.length<=sizeLine/\Q (.str (i++j)) H):=by
 intro aa s σ H x y v u Q I rx ry h
 obtain⟨i,j,rfl,rfl,hz,q⟩:=h
 obtain⟨t,rfl⟩:=rx
 obtain⟨t',rfl⟩:=ry
 exact add_str (fun t' tk=>⟨.str (i++j),H,I.tok _,⟨_,rfl⟩,q⟩) hz
theorem XQ{x:V}{us:List Value}(r:dG [x] us): ∃u,us=[u]/\dP x u:=by
 cases r with
 |cons r1 r2=>cases r2;exact⟨_,rfl,r1⟩
theorem NM{x y:V}{us:List Value}(r:dG [x,y] us): ∃u w',us=[u,w']/\dP x u/\dP y w':=by
 cases r with
 |cons r1 r2=>
  cases r2 with
  |cons r3 r4=>cases r4;exact⟨_,_,rfl,r1,r3⟩
theorem K5(hc:X.calm=true):cI X (.builtin "min") (fun xs H Q=> ∃i j,xs=[.int i,.int j]/\Q (.int (if j<i then j else i)) H):=by
 intro aa s σ H xs us Q I r h
 obtain⟨i,j,rfl,q⟩:=h
 obtain⟨u,w',rfl,⟨t,rfl⟩,⟨t',rfl⟩⟩:=NM r
 refine min_two_ints (I.ok.hd hc) fun h' tk k=>⟨_,H,I.kept k,?_,q⟩
 by_cases hj:j<i
 ·rw[if_pos hj,if_pos hj];exact⟨_,rfl⟩
 ·rw[if_neg hj,if_neg hj];exact⟨_,rfl⟩
theorem Y8:cI X (.type "str") (fun xs H Q=> ∃i,xs=[.int i]/\i.natAbs.log2<1920/\Q (.str (toString i)) H):=by
 intro aa s σ H xs us Q I r h
 obtain⟨i,rfl,hz,q⟩:=h
 obtain⟨u,rfl,t,rfl⟩:=XQ r
 exact PySem.P.str_of_int hz ⟨.str _,H,I.tok _,⟨_,rfl⟩,q⟩
end
structure AA(h:Heap)(x dx C:Addr)(mA:Str->Option Value):Prop where
 obj:h.get? x=some (Oo C dx)
 ns:h.Ns1 dx mA
 ne:dx≠x
theorem LM{h:Heap}{dx:Addr}{mA:Str->Option Value}(n:h.Ns1 dx mA): ∃od,h.get? dx=some od/\ ∀name,W.lookIn name od=some (mA name):=by
 obtain⟨o,es,ep,ho,hd,hk,_,hm⟩:=n
 refine⟨o,ho,fun name=> ?_⟩
 have e:=hm name
 unfold nsFind findBy at e
 rw[<- Array.find?_toList] at e
 unfold W.lookIn
 rw[hd]
 dsimp only
 split
 ·rename_i y q
  rw[q] at e
  exact congrArg some e
 ·rename_i q
  rw[q] at e
  have a:es.toList.any (·.refKey)=false:=by
   rw[List.any_eq_false]
   intro y hy
   obtain⟨z,t,lf⟩:=hk y (Array.mem_toList_iff.mp hy)
   simp[DictEntry.refKey,lf]
  have a': ¬es.toList.any (·.refKey)=true:=by rw[a];exact Ca
  rw[if_neg a']
  exact congrArg some e
theorem AA.look{h:Heap}{x dx C:Addr}{mA:Str->Option Value}(I:AA h x dx C mA): ∃od,W.InstAt h x (Oo C dx) C (some od)/\ ∀name,W.lookIn name od=some (mA name):=
 let ⟨od,ho,hl⟩:=LM I.ns
 ⟨od,⟨I.obj,rfl,rfl,ho⟩,hl⟩
theorem UM.some_of{v:V}{o:Option Value}(r:UM (some v) o): ∃u,o=some u/\dP v u:=by
 cases o with
 |none=>exact(show False from r).elim
 |some u=>exact⟨u,rfl,r⟩
section
variable{P:Ar}{w:World}{H H':Hp}{h h':Heap}{a C dx:Addr}{fs fs':List (Str×V)}
theorem E3(hok:XU P w H h)(e:H a=some (.ins C dx fs)): ∃mA,AA h a dx C mA/\(∀f,UM (fs.lookup f) (mA f))/\Op mA (fs.map (·.1))/\fs.length<=1000/\H dx=some (.own a):=by
 obtain⟨d,z,ne,ob,mA,n,r,q⟩:=(show cE P w H h a (.ins C dx fs) from hok a _ e)
 exact⟨mA,⟨ob,n,ne⟩,r,q,z,d⟩
end
structure Cls(K:Ae)(C:Addr):Prop where
 pg:W.plainGet K C Str.empty=true
 hd:W.hasDictIn K C=true
 po:W.plainOver K C=true
 sa:Mn K (.ref C) "__setattr__"=some (some (.builtin "object.__setattr__"))
theorem Cls.get{K:Ae}{C:Addr}(c:Cls K C)(f:Str):W.plainGet K C f=true:=c.pg
section
variable{X:Cx}{aa:List (Addr×Obj)}{σ:St}{H:Hp}{s:Ab}{A:Bo}{E:Value->Ab->Prop}{Q:Value->Ab->Prop}{c:Value}{b:Bool}
inductive V1(K:Ae)(H:Hp):V->Value->Prop where
 |non:V1 K H .non (.type "NoneType")
 |bl (x:Bool):V1 K H (.bl x) (.type "bool")
 |int (i:Int):V1 K H (.int i) (.type "int")
 |str (x:Str):V1 K H (.str x) (.type "str")
 |flt (x:UInt64):V1 K H (.flt x) (.type "float")
 |lst {a:Addr} {xs:List V} (e:H a=some (.lst xs)):V1 K H (.ref a) (.type "list")
 |frz {a:Addr} {o:Obj} {xs:List V} (e:H a=some (.frz o (.lst xs))):V1 K H (.ref a) (.type "list")
 |tup {a:Addr} {xs:List V} (e:H a=some (.tup xs)):V1 K H (.ref a) (.type "tuple")
 |dK {a:Addr} {kvs:List (Z0×V)} (e:H a=some (.dK kvs)):V1 K H (.ref a) (.type "dict")
 |dT {a:Addr} {kvs:List (List Z0×V)} (e:H a=some (.dT kvs)):V1 K H (.ref a) (.type "dict")
 |ins {a C dx:Addr} {fs:List (Str×V)} (e:H a=some (.ins C dx fs)) (cl:Cls K C) (ha:Mn K (.ref C) "__class__"=some (some (.builtin "object.__class__")))
   (hn:W.specialIn K (.builtin "object.__class__") "__get__"=some (some (.builtin "getset_descriptor.__get__"))) (htk:W.takesIn K (.builtin "object.__class__")=some true)
   (hm:W.mroIn K C (.type "object")=some true):V1 K H (.ref a) (.ref C)
theorem YD{x:V}{u t:Value}(I:eF X aa σ H s)(rx:dP x u)(ty:V1 X.K H x t)(e:Gi X.K t c=some b)(h: ∀tk,Q (.bool b) {s with toks:=tk}):
  wpAny (model X.prog X.w) A (call (.builtin "isinstance") [u,c]) Q E s:=by
 cases ty with
 |non=>cases (show u=Value.none from rx);exact Dj W.kitx_none I.kIn True.intro e (fun z=>nomatch z) h
 |bl y=>cases (show u=Et y from rx);exact Dj W.kitx_bool I.kIn True.intro e (fun z=>nomatch z) h
 |int i=>obtain⟨t,q⟩:=(show∃t,u=Mw i t from rx);cases q;exact Dj W.kitx_int I.kIn True.intro e (fun z=>nomatch z) h
 |str y=>obtain⟨t,q⟩:=(show∃t,u=Mx y t from rx);cases q;exact Dj W.kitx_str I.kIn True.intro e (fun z=>nomatch z) h
 |flt y=>obtain⟨t,q⟩:=(show∃t,u=Ow y t from rx);cases q;exact Dj W.kitx_float I.kIn True.intro e (fun z=>nomatch z) h
 | @lst a xs ea=>
  cases (show u=Bf a from rx)
  obtain⟨_,_,n,_,h1⟩:=(show cE X.prog X.w H s.heap a (.lst xs) from I.hok a _ ea)
  exact Dj Kj I.kIn ⟨_,h1,rfl⟩ e (fun z=>nomatch z) h
 | @frz a ob xs ea=>
  cases (show u=Bf a from rx)
  obtain⟨_,_,_,n,_,h1⟩:=(show cE X.prog X.w H s.heap a (.frz ob (.lst xs)) from I.hok a _ ea)
  exact Dj Kj I.kIn ⟨_,h1,rfl⟩ e (fun z=>nomatch z) h
 | @tup a xs ea=>
  cases (show u=Bf a from rx)
  obtain⟨_,_,_,p⟩:=(show cE X.prog X.w H s.heap a (.tup xs) from I.hok a _ ea)
  obtain⟨o,h1,h2,_⟩:=p
  exact Dj W.kitx_tuple I.kIn ⟨o,h1,h2⟩ e (fun z=>nomatch z) h
 | @dK a kvs ea=>
  cases (show u=Bf a from rx)
  obtain⟨_,_,vs,_,p⟩:=(show cE X.prog X.w H s.heap a (.dK kvs) from I.hok a _ ea)
  obtain⟨o,es,ep,h1,h2,_⟩:=p
  exact Dj W.kitx_dict I.kIn ⟨o,h1,h2.1⟩ e (fun z=>nomatch z) h
 | @dT a kvs ea=>
  cases (show u=Bf a from rx)
  obtain⟨_,_,xs,_,o,es,ep,h1,h2,_⟩:=(show cE X.prog X.w H s.heap a (.dT kvs) from I.hok a _ ea)
  exact Dj W.kitx_dict I.kIn ⟨o,h1,h2.1⟩ e (fun z=>nomatch z) h
 | @ins a C dx fs ea cl ha hn htk hm=>
  cases (show u=Bf a from rx)
  obtain⟨mA,O,_⟩:=E3 I.hok ea
  obtain⟨od,J,_⟩:=O.look
  exact Dj (W.kitx_own (cl.get _) cl.hd ha hn htk hm) I.kIn J e (fun z=>nomatch z) h
end
structure b7(k:Nat)(A:Bo):Prop where
 hd:A.handled=none
 dp:A.depth+3*k+5<Ho
 un:A.units+16*k+200<cLine
theorem b7.mono{j k:Nat}{A:Bo}(r:b7 k A)(h:j<=k):b7 j A:=⟨r.hd,by have:=r.dp;omega,by have:=r.un;omega⟩
theorem b7.deeper{k:Nat}{A:Bo}(r:b7 (k+1) A)(env:Env):b7 k (A.deeper env):=
 ⟨r.hd,by have:=r.dp;show A.depth+1+3*k+5<_;omega,by have:=r.un;show A.units+3+16*k+200<_;omega⟩
theorem b7.depth{k:Nat}{A:Bo}(r:b7 k A):A.depth<Ho:=by have:=r.dp;omega
theorem b7.units{k:Nat}{A:Bo}(r:b7 k A):A.units+64<cLine:=by have:=r.un;omega
def GD:TA:=fun _ H Q=>Q [] H
def QF(ta:TE)(tr:TA):TA:=fun σ H Q=>ta σ H fun x H1=>tr σ H1 fun xs H2=>Q (x::xs) H2
section
variable{X:Cx}{e:Expr}{es:List Expr}{te:TE}{t:TA}{pos:Pos}
theorem bR:PA X [] GD:=fun _ _ _ _ H Q I h=>Hy ⟨[],H,I,.nil,h⟩
theorem cT(ha:PE X e te)(hr:PA X es t)(hs:starEach (e::es) X.env=(false,eval e X.env)::starEach es X.env:=by rfl):PA X (e::es) (QF te t):=by
 intro pos aa s σ H Q I h
 rw[hs]
 show wpAny _ _ (spliced ((false,eval e X.env)::Cu pos (starEach es X.env))) _ _ s
 refine Hk (bS (ha aa s σ H _ I h) fun u s1 ⟨x,H1,I1,r1,q1⟩=> ?_)
 exact bS (hr pos aa s1 σ H1 _ I1 q1) fun us s2 ⟨xs,H2,I2,r2,q2⟩=>⟨x::xs,H2,I2,.cons r1 r2,q2⟩
def tTup(t:TA):TE:=fun σ H Q=>t σ H fun xs H1=>xs.length<=sizeLine/\ ∀p,H1 p=none->Q (.ref p) (cL H1 p (.tup xs))
def tLst(t:TA):TE:=fun σ H Q=>t σ H fun xs H1=>xs.length<=sizeLine/\ ∀p,H1 p=none->Q (.ref p) (cL H1 p (.lst xs))
theorem CA{x1}(h:PA X es t):PE X (.Tuple es x1 pos) (tTup t):=by
 intro aa s σ H Q I hq
 refine wpAny_Tuple_spliced (bS (h pos aa s σ H _ I hq) fun us s1 ⟨xs,H1,I1,r,z,q⟩=>⟨by rw[<- r.length];exact z,?_⟩)
 have hf:H1 s1.heap.objs.size=none:=I1.hok.fresh (An _)
 refine⟨.ref s1.heap.objs.size,cL H1 s1.heap.objs.size (.tup xs),I1.laid (t':=s1.toks) (fun b u e=>Ad _ e) (An _) ?_,rfl,q _ hf⟩
 exact⟨z,us,r,⟨_,Ap _ rfl,rfl,_,rfl⟩⟩
theorem IN(h:PA X es t):PE X (.List es pos) (tLst t):=by
 intro aa s σ H Q I hq
 refine wpAny_List_spliced (bS (h pos aa s σ H _ I hq) fun us s1 ⟨xs,H1,I1,r,z,q⟩=>⟨by rw[<- r.length];exact z,?_⟩)
 have hf:H1 s1.heap.objs.size=none:=I1.hok.fresh (An _)
 refine⟨.ref s1.heap.objs.size,cL H1 s1.heap.objs.size (.lst xs),I1.laid (t':=s1.toks) (fun b u e=>Ad _ e) (An _) ?_,rfl,q _ hf⟩
 exact⟨z,us,0,r,Ap _ rfl⟩
end
abbrev Sp:=List V->Hp->VK->XK->Prop
abbrev KO:=List Env->Hp->Ab->XK->Value->Ab->Prop
structure KQ(P:Ar)(w:World)(K:Ae)(mg:Str->Option Value)(base:Heap)(A:Bo)(outer:List Env)(s:Ab)(H:Hp):Prop where
 frames:A.frames=some outer
 mod:Mod K mg base
 bs: ∀b o,base.get? b=some o->s.heap.get? b=some o/\H b=none
 bsz:base.objs.size<=s.heap.objs.size
 funs:s.heap.FunFrames base outer
 frf: ∀b∈X8 outer,H b=none
 hok:XU P w H s.heap
 bare:Il s.gens
def CE(outer:List Env)(P:Ar)(w:World)(H:Hp)(s:Ab)(Q:VK)(u:Value)(s':Ab):Prop:=
 ∃v H',s'.os=s.os/\Il s'.gens/\Un (X8 outer) [] H H' s.heap s'.heap/\XU P w H' s'.heap/\dP v u/\Q v H'
def CR(CX:KO)(outer:List Env)(P:Ar)(w:World)(H:Hp)(s:Ab)(Q:VK)(E:XK)(r:Nd)(s':Ab):Prop:=
 match r with
 | .ok (.ret u)=>CE outer P w H s Q u s'
 | .ok _=>False
 | .error e=>CX outer H s E e s'
structure cQ(P:Ar)(w:World)(K:Ae)(mg:Str->Option Value)(base:Heap)(CX:KO)(k:Nat)(f:Addr)(fd:Ch)(ps:List Str)(sp:Sp):Prop where
 len: ∀vs H Q E,sp vs H Q E->vs.length=ps.length
 run: ∀(A:Bo) (outer:List Env) (s:Ab) (H:Hp) (args:Args) (us:List Value) (vs:List V) (Q:VK) (E:XK),b7 k A->KQ P w K mg base A outer s H->Lh s fd args (ps.zip us)->dG vs us->sp vs H Q E→
  Ef (model P w) A (.call (.ref f) args) (CR CX outer P w H s Q E) s
section
variable{X:Cx}{aa:List (Addr×Obj)}{σ:St}{H:Hp}{s s':Ab}
theorem eF.env0(I:eF X aa σ H s):KQ X.prog X.w X.K X.mg X.base X.A X.stack s H:=
 ⟨I.ok.frames,I.ok.mod,I.bs,Cq I.ok.bsz I.sz,I.stack,I.stkFree,I.hok,I.bare⟩
theorem eF.after{Q:VK}{u:Value}(I:eF X aa σ H s)(h:CE X.stack X.prog X.w H s Q u s'):EP X aa σ Q u s':=by
 obtain⟨v,H',os,bare,un,hok,r,q⟩:=h
 obtain⟨hh,g,d,t,os'⟩:=s'
 obtain rfl:os'=s.os:=os
 exact⟨v,H',I.call (h':=hh) (g':=g) (d':=d) (t':=t) (ch:=[]) un hok bare (fun b z=>absurd z (by simp)),r,q⟩
end
def NJ(sp:Sp)(dvs:List V)(E:XK)(t:TA):TE:=fun σ H Q=>t σ H fun vs H1=>sp (vs++dvs) H1 Q E
def YJ(K:Ae)(fd:Ch)(ps:List Str)(ds:List Value):Prop:=
 ∀(s:Ab) (us:List Value),K.In s.heap->(us++ds).length=ps.length->Lh s fd ⟨us,[]⟩ (ps.zip (us++ds))
theorem YJ.all{K:Ae}{fd:Ch}{ps:List Str}(h: ∀us:List Value,us.length=ps.length->Mo fd ⟨us,[]⟩=pure (ps.zip us)):YJ K fd ps []:=fun s us _ hl=>by
 rw[Cg] at hl⊢
 exact .of_eq (h us hl)
def NR(CX:KO)(X:Cx)(E:XK):Prop:= ∀(aa:List (Addr×Obj)) (σ:St) (H:Hp) (s:Ab) (e:Value) (s':Ab),eF X aa σ H s->CX X.stack H s E e s'->X.xe e s'
section
variable{X:Cx}{CX:KO}{k:Nat}{f C:Addr}{fd:Ch}{ps:List Str}{sp:Sp}{dvs:List V}{ds:List Value}{E:XK}{x m:Str}{p pos ak:Pos}{e o:Expr}{es:List Expr}{ta:TE}{t:TA}
theorem JH{aa:List (Addr×Obj)}{σ:St}{H:Hp}{s:Ab}{Q:VK}{us:List Value}{vs:List V}(F:cQ X.prog X.w X.K X.mg X.base CX k f fd ps sp)(hr:b7 k X.A)(hb:YJ X.K fd ps ds)(hd:dG dvs ds)(hx:NR CX X E)
  (I:eF X aa σ H s) (r:dG vs us) (h:sp (vs++dvs) H Q E):wpAny (model X.prog X.w) X.A (call (.ref f) us) (EP X aa σ Q) X.xe s:=by
 have r2:dG (vs++dvs) (us++ds):=r.append hd
 have hl:(us++ds).length=ps.length:=by rw[<- r2.length];exact F.len _ _ _ _ h
 refine Li (Em (F.run X.A X.stack s H ⟨us,[]⟩ (us++ds) (vs++dvs) Q E hr I.env0 (hb s us I.kIn hl) r2 h) fun r s' hq=> ?_)
 cases r with
 |error e=>exact hx aa σ H s e s' I hq
 |ok fl=>
  cases fl with
  |ret u=>exact I.after hq
  |next=>exact Eu hq
  |brk=>exact Eu hq
  |cont=>exact Eu hq
theorem FT(F:cQ X.prog X.w X.K X.mg X.base CX k f fd ps sp)(hr:b7 k X.A)(hg:Gl X x)(hm:X.mg x=some (.ref f))(hk:Fq X.K (.ref f)=true)(hb:YJ X.K fd ps ds)(hd:dG dvs ds)(hx:NR CX X E)
  (ha:PA X (e::es) t) (hdb:(x==("__debug__":Str))=false:=by decide) (he:starEach (e::es) X.env=(false,eval e X.env)::starEach es X.env:=by rfl) (hpl:(Cu pos (starEach es X.env)).any (·.1)=false:=by rfl):
  PE X (.Call (.Name x p) (e::es) [] pos) (NJ sp dvs E t):=by
 intro aa s σ H Q I h
 refine Dr (YE I hg hm ?_ hdb)
 refine Hl (h₀:=X.base) I.ok.mod.kin hk (bS (ha pos aa s σ H _ I h) fun us s1 ⟨vs,H1,I1,r,q⟩=>⟨I1.kIn,?_⟩) he hpl
 exact JH F hr hb hd hx I1 r q
end
structure dY(N P:List Str)(sc:Scope):Prop where
 kind:sc.kind= .function
 co:sc.isCoroutine=false
 gen:sc.isGenerator=false
 nd:N.Nodup
 pre:N.take P.length=P
 par: ∀x∈P,sc.names.lookup x=some .local∨sc.names.lookup x=some .cell
 nofree: ∀y∈sc.names,y.2≠ .free
theorem SN{kindOf:Str->Option NameKind}{x:Str}: ∀{binds:List (Str×Value)} {m:Str->Option Value},(∀v,(x,v)∉binds)->bindL kindOf binds m x=m x
 | [],_,_ => rfl
 | (n,v) :: r,m,h => by
  unfold bindL
  rw[SN fun w hw=>h w (Ay _ hw)]
  split
  ·have : x ≠ n := by rintro rfl;exact h v Bz
   simp[this]
  ·rfl
theorem SK{kindOf:Str->Option NameKind}{x:Str}: ∀{binds:List (Str×Value)} {m:Str->Option Value},(∀v,(x,v)∉binds)->bindC kindOf binds m x=m x
 | [],_,_ => rfl
 | (n,v) :: r,m,h => by
  unfold bindC
  rw[SK fun w hw=>h w (Ay _ hw)]
  split
  ·rfl
  ·have : x ≠ n := by rintro rfl;exact h v Bz
   simp[this]
theorem SM{kindOf:Str->Option NameKind}{x:Str}{v:Value}: ∀{P:List Str} {vs:List Value} {i:Nat} {m:Str->Option Value},P.Nodup->P[i]? =some x->vs[i]? =some v->kindOf x=some .local→
  bindL kindOf (P.zip vs) m x=some v
 |[],_,_,_,_,h,_,_=>by simp at h
 |_::_,[],_,_,_,_,h,_=>by simp at h
 |p::P,w::vs,0,m,nd,h1,h2,hk=>by
  simp at h1 h2;subst h1;subst h2
  show bindL kindOf ((p,w)::P.zip vs) m p=_
  unfold bindL
  rw[SN fun v hv=>(Ea.mp nd).1 (Gs hv).1,if_pos hk]
  simp
 |p::P,w::vs,i+1,m,nd,h1,h2,hk=>by
  show bindL kindOf ((p,w)::P.zip vs) m x=_
  unfold bindL
  exact SM (i:=i) (Ea.mp nd).2 (by simpa using h1) (by simpa using h2) hk
theorem SJ{kindOf:Str->Option NameKind}{x:Str}{v:Value}: ∀{P:List Str} {vs:List Value} {i:Nat} {m:Str->Option Value},P.Nodup->P[i]? =some x->vs[i]? =some v->kindOf x≠some .local→
  bindC kindOf (P.zip vs) m x=some v
 |[],_,_,_,_,h,_,_=>by simp at h
 |_::_,[],_,_,_,_,h,_=>by simp at h
 |p::P,w::vs,0,m,nd,h1,h2,hk=>by
  simp at h1 h2;subst h1;subst h2
  show bindC kindOf ((p,w)::P.zip vs) m p=_
  unfold bindC
  rw[SK fun v hv=>(Ea.mp nd).1 (Gs hv).1,if_neg hk]
  simp
 |p::P,w::vs,i+1,m,nd,h1,h2,hk=>by
  show bindC kindOf ((p,w)::P.zip vs) m x=_
  unfold bindC
  exact SJ (i:=i) (Ea.mp nd).2 (by simpa using h1) (by simpa using h2) hk
noncomputable def start(N:List Str)(vs:List V):St:=vs.map some++Aq (N.length - vs.length) none
noncomputable def W6(CX:KO)(P:Ar)(w:World)(K:Ae)(mg:Str->Option Value)(base:Heap)(N:List Str)(qual:Str)(scope:Scope)(f:Addr)(cd:Value)(A:Bo)(outer:List Env)(s:Ab)(H:Hp)(E:XK):Cx where
 prog:=P
 w:=w
 K:=K
 mg:=mg
 base:=base
 A:=A.deeper (envOfC qual scope s.heap.objs.size f cd)
 N:=N
 s₀:=s
 H₀:=H
 env:=envOfC qual scope s.heap.objs.size f cd
 outer:=outer
 stack:=envOfC qual scope s.heap.objs.size f cd::outer
 ex:=[]
 calm:=true
 fn:=fun _=>true
 pn:=[]
 xe:=fun e s'=>wpAny (model P w) (A.deeper (envOfC qual scope s.heap.objs.size f cd)) (leaving (envOfC qual scope s.heap.objs.size f cd) e) (fun _ s''=>CX outer H s E e s'') (fun e' s''=>CX outer H s E e' s'') s'
theorem PC{sc:Scope}{n:Nat}{x:Str}(h:sc.names.lookup x=some .cell): ∃c,(cellsFrom n sc.names []).lookup x=some c:=by
 have q:=Iw sc.names n [] (.inl h)
 exact Option.isSome_iff_exists.mp q
theorem SY{CX:KO}{P:Ar}{w:World}{K:Ae}{mg:Str->Option Value}{base:Heap}{N ps:List Str}{qual:Str}{scope:Scope}{f:Addr}{cd:Value}{A:Bo}{outer:List Env}{s s1:Ab}{H:Hp}{E:XK}{us:List Value}{vs:List V}
  (S:dY N ps scope) (hd:A.handled=none) (e0:KQ P w K mg base A outer s H) (hl:vs.length=ps.length) (r:dG vs us)
  (x : InCallC s s.heap.objs.size (bindL (envOfC qual scope s.heap.objs.size f cd).kindOf (ps.zip us) fun _ => none) (cellsFrom (s.heap.objs.size + 1) scope.names []) (bindC (envOfC qual scope s.heap.objs.size f cd).kindOf (ps.zip us) fun _ => none) s1) :
  eF (W6 CX P w K mg base N qual scope f cd A outer s H E) [] (start N vs) H s1:=by
 have hpl:ps.length<=N.length:=by have:=congrArg List.length S.pre;rw[Bw] at this;omega
 obtain⟨h1,tk,rfl,hk⟩:=x.done
 have noA: ∀b:Addr,b∉(W6 CX P w K mg base N qual scope f cd A outer s H E).ex:=fun b z=>absurd (show b∈([]:List Addr) from z) (by simp)
 refine⟨⟨e0.mod,S.kind,rfl,rfl,An _,fun y z c h1 h2=> ?_,fun y hy=> ?_,fun y c _ h=> ?_,fun _=>hd,Around.frames_deeper e0.frames,.inr ⟨rfl,rfl⟩,fun b z=>absurd z (noA b),e0.bs,e0.bsz,fun b _ _=>noA b,fun b z=>absurd z (noA b),e0.funs,e0.frf⟩,
  rfl,e0.bare,Un.kept hk,⟨_,x.toInCall.ns,fun i y v h1 h2 h3=> ?_⟩,fun y c h=>⟨_,x.cell y c h⟩,e0.hok.fresh (An _),fun y c h=> ?_,fun p hp=>absurd (show p∈([]:List (Addr×Obj)) from hp) (by simp),e0.hok.kept hk,?_⟩
 ·exact name_of_addr x.apart (Ax h1) (Ax h2)
 ·have hy:scope.names.lookup y=some .cell∨scope.names.lookup y=some .free:=hy
  rcases hy with hy|hy
  ·exact PC hy
  ·exact absurd rfl (S.nofree _ (Ax hy))
 ·exact Lu (x.above y c (Ax h))
 ·have hi:i<vs.length:=by
   unfold start at h2
   by_cases hi:i<vs.length
   ·exact hi
   ·rw [Bm (by simpa using hi)] at h2
    rw[Br] at h2
    split at h2<;>cases h2
  have ha:vs[i]? =some v:=by
   unfold start at h2
   rw[Ai (by simpa using hi),Cj] at h2
   cases e:vs[i]? with
   |none=>rw[e] at h2;cases h2
   |some a=>rw[e] at h2;cases h2;rfl
  obtain⟨u,hu,rv⟩:=r.get ha
  have hp:ps[i]? =some y:=by rw[<- S.pre,Bl (by omega)];exact h1
  have ndP:ps.Nodup:=by rw[<- S.pre];exact S.nd.sublist (List.take_sublist _ _)
  refine⟨u,rv,?_⟩
  rcases S.par y (Dx hp) with k|k
  ·exact .inl ⟨k,SM ndP hp hu k⟩
  ·obtain⟨c,e⟩:=PC (n:=s.heap.objs.size+1) k
   refine .inr ⟨.inl k,c,e,?_⟩
   have q:=x.cell y c e
   rw[SJ ndP hp hu (by show scope.names.lookup y≠_;rw[k];decide)] at q
   exact q
 ·exact e0.hok.fresh (Lu (x.above y c (Ax h)))
 ·unfold start
  show _=N.length
  rw[Cn,Dk,Ge]
  omega
theorem DT{CX:KO}{P:Ar}{w:World}{K:Ae}{mg:Str->Option Value}{base:Heap}{k:Nat}{f:Addr}{name qual:Str}{params:Arguments}{body:List Stmt}{scope:Scope}{dV kV doc pm cdv ct oc:Value}{an od:Option Addr}
  {osl:Array (Option Value)} {N ps:List Str} {sp:Sp} (lk:K.lookup f=some ⟨oc,od,.func (Ix name qual params body scope dV kV doc pm an cdv ct),osl⟩) (hcd:Kt K cdv qual=true) (S:dY N ps scope)
  (len: ∀vs H Q E,sp vs H Q E->vs.length=ps.length)
  (al: ∀(A:Bo) (outer:List Env) (s:Ab) (H:Hp) (vs:List V) (Q:VK) (E:XK),b7 k (A.deeper (envOfC qual scope s.heap.objs.size f cdv))->sp vs H Q E→
   ∃t,ZQ (W6 CX P w K mg base N qual scope f cdv A outer s H E) body t/\t {nx:=fun _ H'=>Q .non H',rt:=Q} (start N vs) H):
  cQ P w K mg base CX (k+1) f (Ix name qual params body scope dV kV doc pm an cdv ct) ps sp:=by
 refine⟨len,fun A outer s H args us vs Q E hr e0 hb r hsp=> ?_⟩
 have hl:=len _ _ _ _ hsp
 have KX:K.In s.heap:=e0.mod.kin.keeps fun b o e=>(e0.bs b o e).1
 have lim:s.heap.NoLimit:=e0.mod.nolimit.keeps fun b o e=>(e0.bs b o e).1
 have g6: ∀y∈ps.zip us,scope.names.lookup y.1=some .local∨(scope.names.lookup y.1=some .cell/\((cellsFrom (s.heap.objs.size+1) scope.names []).lookup y.1).isSome=true):=fun⟨n,v⟩ hy=>by
  rcases S.par n (Gs hy).1 with q|q
  ·exact .inl q
  ·exact .inr ⟨q,Iw _ _ _ (.inl q)⟩
 refine Jm hr.depth (KX _ _ lk) rfl S.co S.gen rfl (W.codeRec_of KX hcd) (hb _ _ _ _ ?_)
 refine Hf S.kind g6 fun env he s1 x=> ?_
 subst he
 refine⟨lim.keeps x.toInCall.keep,codeAny_func ?_⟩
 obtain⟨t,ht,hq⟩:=al A outer s H vs Q E (hr.deeper _) hsp
 have I:eF (W6 CX P w K mg base N qual scope f cdv A outer s H E) [] (start N vs) H s1:=SY S hr.hd e0 hl r x
 refine Ao (ht [] s1 (start N vs) H _ I hq) (fun fl s' hs=> ?_) fun e s' hs=>hs
 have fin: ∀{σ':St} {H':Hp} {v:V} {u:Value},eF (W6 CX P w K mg base N qual scope f cdv A outer s H E) [] σ' H' s'->dP v u->Q v H'->CE outer P w H s Q u s':=
  fun{σ' H' v u} J rv q=>⟨v,H',J.os,J.bare,J.base,J.hok,rv,q⟩
 cases fl with
 |ret u=>
  obtain⟨v,σ',H',J,rv,q⟩:=hs
  exact fin J rv q
 |next=>
  obtain⟨σ',H',J,q⟩:=hs
  exact fin (v:=V.non) (u:=Value.none) J rfl q
 |brk=>
  obtain⟨_,_,_,q⟩:=hs
  exact Eu q
 |cont=>
  obtain⟨_,_,_,q⟩:=hs
  exact Eu q
section
variable{X:Cx}{x:Str}{p pos:Pos}{e:Expr}{es:List Expr}{t:TA}{id T:String}{r:List V->Hp->VK->Prop}
def tCB(r:List V->Hp->VK->Prop)(t:TA):TE:=fun σ H Q=>t σ H fun vs H1=>r vs H1 Q
theorem U4(hc:cI X (.builtin id) r)(hg:Gl X x)(hm:X.mg x=none)(hv:Bj x=some (.builtin id))(ha:PA X (e::es) t)(hn:x≠ "__name__":=by decide) (hdb:(x==("__debug__":Str))=false:=by decide)
  (he:starEach (e::es) X.env=(false,eval e X.env)::starEach es X.env:=by rfl) (hpl:(Cu pos (starEach es X.env)).any (·.1)=false:=by rfl):PE X (.Call (.Name x p) (e::es) [] pos) (tCB r t):=by
 intro aa s σ H Q I h
 refine Dr (WM I hg hm hv ?_ hn hdb)
 exact PyProof.Rows.callWith_builtin1 (bS (ha pos aa s σ H _ I h) fun us s1 ⟨vs,H1,I1,r1,q1⟩=>hc aa s1 σ H1 vs us Q I1 r1 q1) he hpl
theorem WS(hc:cI X (.type T) r)(hg:Gl X x)(hm:X.mg x=none)(hv:Bj x=some (.type T))(ha:PA X (e::es) t)(hn:x≠ "__name__":=by decide) (hdb:(x==("__debug__":Str))=false:=by decide)
  (he:starEach (e::es) X.env=(false,eval e X.env)::starEach es X.env:=by rfl) (hpl:(Cu pos (starEach es X.env)).any (·.1)=false:=by rfl):PE X (.Call (.Name x p) (e::es) [] pos) (tCB r t):=by
 intro aa s σ H Q I h
 refine Dr (WM I hg hm hv ?_ hn hdb)
 exact Di (bS (ha pos aa s σ H _ I h) fun us s1 ⟨vs,H1,I1,r1,q1⟩=>hc aa s1 σ H1 vs us Q I1 r1 q1) he hpl
end
end L2
namespace HT
open PySem PyProof.Rows
noncomputable def aU:List Int->List Int->Bool
 |[],[]=>false
 |[],_::_=>true
 |_::_,[]=>false
 |x::xs,y::ys=>if x=y then aU xs ys else decide (x<y)
theorem N6(x y:Int)(xs ys:List Int):aU (x::xs) (y::ys)=if x=y then aU xs ys else decide (x<y):=rfl
theorem UD:aU [] []=false:=rfl
theorem U0(y:Int)(ys:List Int):aU [] (y::ys)=true:=rfl
theorem UZ(x:Int)(xs:List Int):aU (x::xs) []=false:=rfl
theorem HC(A:Bo)(s:Ab)(a:Int)(t:Tok)(c:Int)(u:Tok): ∃e,SeqAt.EqAt A s (.int a t) (.int c u) e/\(e=true↔a=c):=
 ⟨(a==c),SeqAt.EqAt.int_int a t c u,by simp⟩
theorem JE(A:Bo)(s:Ab)(a:Int)(t:Tok)(c:Int)(u:Tok)(prog:Ar)(w:World)(E:Value->Ab->Prop)(Q:Value->Ab->Prop)(h:Q (.bool (decide (a<c))) s):
  wpAny (model prog w) A (richCompare .Lt (.int a t) (.int c u)) Q E s:=
 (PyProof.Rows.lt_int h:wpAny (model prog w) A (Bv .Lt (.int a t) (.int c u)) Q E s)
section
open PySem.SeqAt
open PySem.AutoSeq1 (wpAny_loadPart')
open PySem.MeetsSeq PySem.MeetsSeq2 PySem.MeetsSeq3
theorem UH(l b:Addr)(ae aq:Array Value)(n n2:Nat)(dd dd2:Option Addr)(sl sl2:Array (Option Value))(ns ms:List Int)(hi:Fz ae.toList ns)(hj:Fz aq.toList ms):
  Meets (Dy.«tuple.__lt__» ⟨[.ref l,.ref b],[]⟩)
   (fun _ R s => s.heap.get? l = some { cls := .type "tuple",dict := dd,data := .seq ae n,slots := sl } /\ s.heap.get? b = some { cls := .type "tuple",dict := dd2,data := .seq aq n2,slots := sl2 } ∧
    R (.ok (.ret (.bool (aU ns ms)))) s):=
 .of_wp fun prog w A R s h=>by
  obtain⟨hp,g,d,tk,os⟩:=s;obtain⟨hl,hb,h⟩:=h
  have f2:=Hz
  have z1:ae.size=ns.length:=by rw[<- hi.length];simp
  have z2:aq.size=ms.length:=by rw[<- hj.length];simp
  wp_walk using Jn hl,Jn hb,wpAny_forIn_list _ (fun rest b s'=>b.1=none/\s'=⟨hp,g,d,tk,os⟩/\ ∃(vs ws:List Value) (ns' ms':List Int),rest=vs.zip ws∧
   Fz vs ns'/\Fz ws ms'/\ns'.length+aq.size=ms'.length+ae.size/\R (.ok (.ret (.bool (aU ns' ms')))) ⟨hp,g,d,tk,os⟩) _
  case turn=>
   rintro ⟨y,x⟩ rest b s' ⟨hb',rfl,vs,ws,ns',ms',hz,hvi,hwi,ag,hR⟩
   cases hvi with
   | nil => rw [Ia] at hz;cases hz
   |cons a t hvi'=>
    cases hwi with
    | nil => rw [List.zip_nil_right] at hz;cases hz
    |cons c u hwi'=>
     rw[Ku] at hz
     injection hz with hyx k9
     injection hyx with hy hx
     subst hy hx
     rw[N6] at hR
     simp only[Cr] at ag
     obtain⟨e,he,ka⟩:=HC A.in1 ⟨hp,g,d,tk,os⟩ a t c u
     refine Aa (he prog w _ _ ?_)
     cases e with
     |true=>
      rw[if_pos (ka.mp rfl)] at hR
      wp_walk
      exact⟨rfl,rfl,_,_,_,_,k9,hvi',hwi',by omega,hR⟩
     |false=>
      rw[if_neg (fun q=>absurd (ka.mpr q) Ca)] at hR
      have hri:=JE A.in1 ⟨hp,g,d,tk,os⟩ a t c u prog w
      wp_walk using hri
      exact⟨_,rfl,by simpa using hR⟩
  case fin=>
   rintro ⟨b1,b2⟩ s' ⟨hb',rfl,vs,ws,ns',ms',hz,hvi,hwi,ag,hR⟩
   simp only at hb'
   subst hb'
   have hv:aU ns' ms'=decide (ae.size<aq.size):=by
    cases hvi with
    |nil=>
     cases hwi with
     |nil=>
      simp only[Jo] at ag
      rw[UD]
      exact(decide_eq_false (by omega)).symm
     |cons c u hw=>
      simp only[Jo,Cr] at ag
      rw[U0]
      exact(decide_eq_true (by omega)).symm
    |cons a t hv=>
     cases hwi with
     |nil=>
      simp only[Jo,Cr] at ag
      rw[UZ]
      exact(decide_eq_false (by omega)).symm
     |cons c u hw=>
      rw[Ku] at hz
      cases hz
   rw[hv] at hR
   wp_walk
   exact⟨_,rfl,by simpa[Lj] using hR⟩
  case h=>
   exact⟨rfl,rfl,ae.toList,aq.toList,ns,ms,rfl,hi,hj,by omega,h⟩
end
section
variable{prog:Ar}{w:World}{A:Bo}{E:Value->Ab->Prop}{s:Ab}
theorem N7{l b:Addr}{ae aq:Array Value}{ns ms:List Int}{Q:Value->Ab->Prop}(hl:IsTup s.heap l ae)(hb:IsTup s.heap b aq)(hi:Fz ae.toList ns)(hj:Fz aq.toList ms)
  (hu:A.units<cLine) (h:Q (.bool (aU ns ms)) s):wpAny (model prog w) A (Bv .Lt (.ref l) (.ref b)) Q E s:=by
 obtain⟨⟨cls,dd,data,sl⟩,ho,hc,n,hd⟩:=id hl
 obtain⟨⟨iq,dd2,data2,sl2⟩,ho2,hc2,n2,hd2⟩:=id hb
 simp only at hc hd hc2 hd2
 subst hc hd hc2 hd2
 exact richCompare_meets_room (op:= .Lt) ⟨_,ho,rfl⟩ ⟨_,ho2,rfl⟩ PySem.F.slot_tuple_lt PySem.F.entry_tuple_lt (PySem.F.args_tuple_lt_2 _ _) (UH l b ae aq n n2 dd dd2 sl sl2 ns ms hi hj)
  ⟨ho,ho2,show Et (aU ns ms)≠Ka/\Q (.bool (aU ns ms)) s from⟨(fun x=>nomatch x),h⟩⟩ hu
theorem EX{t b:Addr}{vs ws:List Value}{Q:Value->Ab->Prop}(ht:IsTup s.heap t vs.toArray)(hb:IsTup s.heap b ws.toArray)(hv:vs≠[])
  (h1:ws=[]->Q (.ref t) s) (h2:ws≠[]->Q (.ref s.heap.objs.size) {s with heap:=s.heap.push {cls:= .type "tuple",data:= .seq (vs++ws).toArray}})
  (hsz:vs.length+ws.length<=sizeLine):wpAny (model prog w) A (Dq .Add (.ref t) (.ref b)) Q E s:=by
 obtain⟨⟨cls,dd,data,sl⟩,ho,hc,n,hd⟩:=id ht
 obtain⟨⟨iq,dd2,data2,sl2⟩,ho2,hc2,n2,hd2⟩:=id hb
 simp only at hc hd hc2 hd2
 subst hc hd hc2 hd2
 have e:vs.toArray++ws.toArray=(vs++ws).toArray:=by simp
 by_cases hw:ws=[]
 ·exact Jp ⟨_,ho,rfl⟩ ⟨_,ho2,rfl⟩ Iy Kv Fw Fs (Fg _ _)
   (tuple_addW1 t b vs.toArray ws.toArray n n2 dd dd2 sl sl2 (by simpa using hv) (by simp[hw])) ⟨ho,ho2,h1 hw⟩
 ·refine Jp ⟨_,ho,rfl⟩ ⟨_,ho2,rfl⟩ Iy Kv Fw Fs (Fg _ _)
   (tuple_addW2 t b vs.toArray ws.toArray n n2 dd dd2 sl sl2 (by simpa using hv) (by simpa using hw) (by rw[Aj,Aj];exact hsz)) ⟨ho,ho2,?_⟩
  rw[e]
  exact h2 hw
noncomputable def sIx(n d:Nat):Option Int->Nat
 |none=>d
 |some v=>if v<0 then(v+(n:Int)).toNat else min v.toNat n
theorem CV(n d:Nat)(hd:d<=n)(o:Option Int):sIx n d o<=n:=by
 cases o with
 |none=>exact hd
 |some v=>
  show(if v<0 then(v+(n:Int)).toNat else min v.toNat n)<=n
  by_cases hv:v<0
  ·rw[if_pos hv];omega
  ·rw[if_neg hv];exact Nat.min_le_right _ _
theorem MU(v:Int)(n d:Nat):(if v<0 then max (v+(n:Int)) 0 else min v (n:Int))=((sIx n d (some v):Nat):Int):=by
 show(if v<0 then max (v+(n:Int)) 0 else min v (n:Int))=(((if v<0 then(v+(n:Int)).toNat else min v.toNat n):Nat):Int)
 by_cases hv:v<0
 ·simp only[if_pos hv];omega
 ·simp only[if_neg hv];omega
theorem NU(lo hi:Option Int)(n:Nat):Fb lo hi 1 (n:Int)=(((sIx n 0 lo:Nat):Int),((sIx n n hi:Nat):Int)):=by
 have h1: ¬((1:Int)<0):=by omega
 unfold Fb
 simp only[h1,if_false]
 refine Prod.ext ?_ ?_
 ·cases lo with
  |none=>rfl
  |some v=>exact MU v n 0
 ·cases hi with
  |none=>rfl
  |some v=>exact MU v n n
theorem OJ(i j:Nat):Du (i:Int) (j:Int) 1=j - i:=by
 unfold Du
 have h1:(1:Int)>0:=by omega
 simp only[h1,if_true,Int.ediv_one]
 split<;>omega
theorem U9{v:Value}{o:Option Int}{Q:Option Int->Ab->Prop}(p:IsPart v o)(h:Q o s):wpAny (model prog w) A (Mp v) Q E s:=by
 cases p with
 |none=>exact slicePart_none h
 |int i t=>exact slicePart_int h
theorem ZN{sl:Addr}{vl vu:Value}{lo hi:Option Int}{n:Nat}{Q:Int×Int×Nat->Ab->Prop}(hs:s.heap.IsSliceOf sl vl vu .none)(pl:IsPart vl lo)(pu:IsPart vu hi)
  (h:Q (((sIx n 0 lo:Nat):Int),1,sIx n n hi - sIx n 0 lo) s):wpAny (model prog w) A (Hg (.ref sl) (pure (n:Int))) Q E s:=by
 obtain⟨os,hos,hcs,hds⟩:=id hs
 unfold Hg Np
 refine Aa (Aa (Co hos hds (x:=vl) rfl (Aa (Co hos hds (x:=vu) rfl (Aa (Co hos hds (x:= .none) rfl (Af ?_)))))))
 refine Aa (slicePart_none ?_)
 show wpAny _ _ (if((1:Int)==0)=true then _ else _) _ _ s
 rw[if_neg (by decide)]
 refine Aa (U9 pl (Aa (U9 pu (Aa (Af ?_)))))
 show wpAny _ _ (match Fb lo hi 1 (n:Int) with|(lo,hi)=>pure (lo,(1:Int),Du lo hi 1)) _ _ s
 rw[NU lo hi n]
 show wpAny _ _ (pure (((sIx n 0 lo:Nat):Int),(1:Int),Du ((sIx n 0 lo:Nat):Int) ((sIx n n hi:Nat):Int) 1)) _ _ s
 rw[OJ]
 exact Af h
theorem IU(xs:Array Value)(i k:Nat):((Aw k).filterMap fun(m:Nat)=>xs[((i:Int)+(m:Int)*1).toNat]?).toArray=((xs.toList.drop i).take k).toArray:=by
 have e:(fun(m:Nat)=>xs[((i:Int)+(m:Int)*1).toNat]?)=fun m=>xs[i+m]? :=by
  funext m
  have:((i:Int)+(m:Int)*1).toNat=i+m:=by omega
  rw[this]
 rw[e]
 have:=pick_run xs i k
 rw[List.filterMap_map] at this
 have e2:((fun x=>xs[x]?)∘fun x=>i+x)=fun m=>xs[i+m]? :=rfl
 rw[e2] at this
 rw[this]
theorem W9{t sl:Addr}{ae:Array Value}{vl vu:Value}{lo hi:Option Int}{Q:Value->Ab->Prop}(ht:IsTup s.heap t ae)(hs:s.heap.IsSliceOf sl vl vu .none)(pl:IsPart vl lo)(pu:IsPart vu hi)
  (hw: ¬(sIx ae.size 0 lo=0/\sIx ae.size ae.size hi=ae.size))
  (h:Q (.ref s.heap.objs.size) {s with heap:=s.heap.push {cls:= .type "tuple",data:= .seq ((ae.toList.drop (sIx ae.size 0 lo)).take (sIx ae.size ae.size hi - sIx ae.size 0 lo)).toArray}})
  (hsz:ae.size<=sizeLine):wpAny (model prog w) A (Ip (.ref t) (.ref sl)) Q E s:=by
 have f7:sizeOk (.seq ((ae.toList.drop (sIx ae.size 0 lo)).take (sIx ae.size ae.size hi - sIx ae.size 0 lo)).toArray):=by
  show((ae.toList.drop (sIx ae.size 0 lo)).take (sIx ae.size ae.size hi - sIx ae.size 0 lo)).toArray.size<=sizeLine
  rw[Aj,Bw,Md,Ee]
  omega
 have hj:sIx ae.size ae.size hi<=ae.size:=CV _ _ (An _) hi
 obtain⟨os,hos,hcs,hds⟩:=id hs
 have hTs:s.TypeIs (.ref sl) "slice":=⟨os,hos,hcs⟩
 unfold Ip
 try with_reducible refine Bk ?_
 first|refine Aa (Af ?_)|skip
 refine Aa (Ib ht.typeIs (by decide) ?_)
 refine Aa (Ce (name:=Fh "__getitem__") ht.typeIs Cv
  (Dd Cv ht.typeIs entry_tuple_getitem ?_ (args_tuple_getitem _ _)))
 show wpAny _ _ (Hh (.ref t)>>=_) _ _ s
 refine Aa (tupleItemsOf_ ht ?_)
 refine Aa (Lv hTs ?_)
 rw[if_pos (by decide)]
 refine Aa (ZN hs pl pu ?_)
 have hno: ¬((((sIx ae.size 0 lo:Nat):Int)==0 && (1:Int)==1 && (sIx ae.size ae.size hi - sIx ae.size 0 lo)==ae.size)=true):=by
  intro q
  rw[Ac,Ac] at q
  have q1:((sIx ae.size 0 lo:Nat):Int)=0:=eq_of_beq q.1.1
  have q2:sIx ae.size ae.size hi - sIx ae.size 0 lo=ae.size:=eq_of_beq q.2
  exact hw ⟨by omega,by omega⟩
 show wpAny _ _ (if(((sIx ae.size 0 lo:Nat):Int)==0 && (1:Int)==1 && (sIx ae.size ae.size hi - sIx ae.size 0 lo)==ae.size)=true then _ else _) _ _ s
 rw[if_neg hno,IU]
 first
  |exact Aa (m:=Eb _) (Cf (Af ⟨_,rfl,Af h⟩) f7)
  |exact Aa (m:=Eb _) (Cf (Aa (Af (Af ⟨_,rfl,Af h⟩))) f7)
  |exact Aa (Aa (m:=Eb _) (Cf (Af (Af ⟨_,rfl,Af h⟩)) f7))
  |exact Aa (Aa (m:=Eb _) (Cf (Af ⟨_,rfl,Af h⟩) f7))
end
end HT
namespace L2
open PySem PySem.Spec PyProof.Rows
abbrev TO:=St->Hp->(Option Int->Hp->Prop)->Prop
def PO(X:Cx)(e:Option Expr)(t:TO):Prop:=
 ∀(aa:List (Addr×Obj)) (s:Ab) (σ:St) (H:Hp) (Q:Option Int->Hp->Prop),eF X aa σ H s->t σ H Q→
  wpAny (model X.prog X.w) X.A (evalPart e X.env) (fun u s'=> ∃o H',eF X aa σ H' s'/\IsPart u o/\Q o H') X.xe s
def GF:TO:=fun _ H Q=>Q none H
def zA6(t:TE):TO:=fun σ H Q=>t σ H fun x H1=> ∃i,x= .int i/\Q (some i) H1
theorem X0{ns:List Int}: ∀{us:List Value},dG (ns.map V.int) us->Fz us ns:=by
 induction ns with
 | nil => intro us r;rw [Lw] at r;cases r;exact .nil
 |cons n ns ih=>
  intro us r
  rw[Ft] at r
  cases r with
  |cons r1 r2=>
   obtain⟨t,e⟩:=r1
   subst e
   exact .cons n t (ih r2)
section
variable{X:Cx}{e:Expr}{te:TE}{lo hi:Option Expr}{tl th:TO}{pos p2:Pos}
theorem F0:PO X none GF:=by
 intro aa s σ H Q I h
 rw[evalPart_none]
 exact Af ⟨none,H,I,.none,h⟩
theorem F1(h:PE X e te):PO X (some e) (zA6 te):=by
 intro aa s σ H Q I hw
 rw[evalPart_some]
 refine bS (h aa s σ H _ I hw) fun u s1 ⟨x,H1,I1,r1,q1⟩=> ?_
 obtain⟨i,rfl,q⟩:=q1
 obtain⟨t,rfl⟩:=r1
 exact⟨some i,H1,I1,.int i t,q⟩
def EN(X:Cx)(r:V->Option Int->Option Int->Hp->VK->Prop):Prop:=
 ∀(aa:List (Addr×Obj)) (s:Ab) (σ:St) (H:Hp) (x:V) (v vl vu:Value) (lo hi:Option Int) (sl:Addr) (Q:VK),eF X aa σ H s->dP x v->s.heap.IsSliceOf sl vl vu .none->IsPart vl lo->IsPart vu hi->r x lo hi H Q→
  ∃T id,typeLookup (.type T) "__getitem__"=pure (some (.builtin id))/\s.TypeIs v T/\wpAny (model X.prog X.w) X.A (Ip v (.ref sl)) (EP X aa σ Q) X.xe s
theorem EN.or{r r':V->Option Int->Option Int->Hp->VK->Prop}(h:EN X r)(h':EN X r'):EN X (fun x lo hi H Q=>r x lo hi H Q∨r' x lo hi H Q):=by
 intro aa s σ H x v vl vu lo hi sl Q I rx hs pl pu q
 rcases q with q|q
 ·exact h aa s σ H x v vl vu lo hi sl Q I rx hs pl pu q
 ·exact h' aa s σ H x v vl vu lo hi sl Q I rx hs pl pu q
def tSl(r:V->Option Int->Option Int->Hp->VK->Prop)(te:TE)(tl th:TO):TE:=fun σ H Q=>te σ H fun x H1=>tl σ H1 fun l H2=>th σ H2 fun u H3=>r x l u H3 Q
theorem IP{r:V->Option Int->Option Int->Hp->VK->Prop}(hr:EN X r)(he:PE X e te)(hl:PO X lo tl)(hu:PO X hi th):PE X (.Subscript e (.Slice lo hi none p2) pos) (tSl r te tl th):=by
 intro aa s σ H Q I h
 refine Subscript_ (bS (he aa s σ H _ I h) fun v s1 ⟨x,H1,I1,r1,q1⟩=> ?_)
 refine wpAny_Slice (bS (hl aa s1 σ H1 _ I1 q1) fun vl s2 ⟨l,H2,I2,pl,q2⟩=>bS (hu aa s2 σ H2 _ I2 q2) fun vu s3 ⟨u,H3,I3,pu,q3⟩=> ?_)
 rw[evalPart_none]
 refine Af ?_
 have I4:eF X aa σ H3 {s3 with heap:=s3.heap.push {cls:= .type "slice",data:= .fields #[vl,vu,.none]}}:=I3.kept (t':=s3.toks) fun b ob q=>Ad _ q
 obtain⟨T,id,hT,ht,hg⟩:=hr aa {s3 with heap:=s3.heap.push {cls:= .type "slice",data:= .fields #[vl,vu,.none]}} σ H3 x v vl vu l u s3.heap.objs.size Q I4 r1 (Pb ..) pl pu q3
 show wpAny (model X.prog X.w) X.A (subscriptTail e (.Slice lo hi none p2) v (.ref s3.heap.objs.size)) (EP X aa σ Q) X.xe {s3 with heap:=s3.heap.push {cls:= .type "slice",data:= .fields #[vl,vu,.none]}}
 exact Oh (ops:=[.ref s3.heap.objs.size,v]) ht hT hg (by with_unfolding_all rfl)
noncomputable def PF(xs:List V)(lo hi:Option Int):List V:=(xs.drop (HT.sIx xs.length 0 lo)).take (HT.sIx xs.length xs.length hi - HT.sIx xs.length 0 lo)
theorem V8(xs:List V)(lo hi:Option Int):(PF xs lo hi).length<=xs.length:=by
 unfold PF
 rw[Bw,Md]
 omega
def rSlT(K:Ae):V->Option Int->Option Int->Hp->VK->Prop:=fun x lo hi H Q=> ∃a xs,x= .ref a/\YW K H a xs∧
 ¬(HT.sIx xs.length 0 lo=0/\HT.sIx xs.length xs.length hi=xs.length)/\ ∀p,H p=none->Q (.ref p) (cL H p (.tup (PF xs lo hi)))
theorem C3:EN X (rSlT X.K):=by
 intro aa s σ H x v vl vu lo hi sl Q I rx hs pl pu h
 obtain⟨a,xs,rfl,hx,hw,q⟩:=h
 cases rx
 obtain⟨its,r,ht,hz⟩:=I.tuple hx
 have ag:its.toArray.size=xs.length:=by rw[Aj];exact r.length.symm
 refine⟨"tuple",_,PyProof.Rows.slot_tuple_getitem.lookup,ht.typeIs,?_⟩
 refine HT.W9 ht hs pl pu (by rw[ag];exact hw) ?_ (by rw[ag];exact hz)
 rw[ag]
 refine⟨.ref s.heap.objs.size,_,I.laid (t':=s.toks) (o:= .tup (PF xs lo hi)) (fun b ob q=>Ad _ q) (An _) ?_,rfl,q _ (I.hok.fresh (An _))⟩
 exact⟨Cq (V8 xs lo hi) hz,_,(r.drop (HT.sIx xs.length 0 lo)).take (HT.sIx xs.length xs.length hi - HT.sIx xs.length 0 lo),Kw _ _⟩
def rLtT(K:Ae):R2:=fun x y H Q=> ∃a b ns ms,x= .ref a/\y= .ref b/\YW K H a (ns.map V.int)/\YW K H b (ms.map V.int)/\Q (.bl (HT.aU ns ms)) H
theorem B2(hu:X.A.units<cLine):aS X (Bv .Lt) (rLtT X.K):=by
 intro aa s σ H x y v u Q I rx ry h
 obtain⟨a,b,ns,ms,rfl,rfl,ha,hb,q⟩:=h
 cases rx
 cases ry
 obtain⟨its,r1,p1,_⟩:=I.tuple ha
 obtain⟨cb,r2,p2,_⟩:=I.tuple hb
 have i1:Fz its.toArray.toList ns:=X0 r1
 have i2:Fz cb.toArray.toList ms:=X0 r2
 exact HT.N7 p1 p2 i1 i2 hu ⟨.bl (HT.aU ns ms),H,I,rfl,q⟩
theorem dG.nil_iff{xs:List V}{us:List Value}(r:dG xs us):us=[]↔xs=[]:=by
 cases r with
 |nil=>simp
 |cons _ _=>simp
end
noncomputable def ixN(n:Nat)(i:Int):Option Nat:=if 0<=i then(if i<n then some i.toNat else none) else if -(n:Int)<=i then some (i+n).toNat else none
noncomputable def QX{α:Type}(xs:List α)(i:Int):Option α:=(ixN xs.length i).bind fun j=>xs[j]?
theorem E5{n:Nat}{i:Int}{j:Nat}(h:ixN n i=some j):seqIndex? i n=some j/\j<n/\ -(n:Int)<=i/\i<n:=by
 unfold ixN at h
 by_cases h0:0<=i
 ·rw[if_pos h0] at h
  by_cases h1:i<n
  ·rw[if_pos h1] at h
   have e:i.toNat=j:=Bu h
   exact⟨by rw[seqIndex_of h0 h1,e],by omega,by omega,h1⟩
  ·rw[if_neg h1] at h;cases h
 ·rw[if_neg h0] at h
  by_cases h1: -(n:Int)<=i
  ·rw[if_pos h1] at h
   have e:(i+n).toNat=j:=Bu h
   exact⟨by rw[seqIndex_neg (by omega) h1,e],by omega,h1,by omega⟩
  ·rw[if_neg h1] at h;cases h
theorem QY{α:Type}{xs:List α}{i:Int}{v:α}(h:QX xs i=some v): ∃j,seqIndex? i xs.length=some j/\xs[j]? =some v/\j<xs.length/\ -(xs.length:Int)<=i/\i<xs.length:=by
 unfold QX at h
 cases e:ixN xs.length i with
 |none=>rw[e] at h;cases h
 |some j=>
  rw[e] at h
  obtain⟨h1,h2,h3,h4⟩:=E5 e
  exact⟨j,h1,h,h2,h3,h4⟩
def QU(b:Expr):Prop:= ∀o i,subscripted b false o i=operate [o,i] (Ip o i)
def KR(X:Cx)(r:R2):Prop:=
 ∀(value slice:Expr) (aa:List (Addr×Obj)) (s:Ab) (σ:St) (H:Hp) (x y:V) (v u:Value) (Q:VK),eF X aa σ H s->dP x v->dP y u->r x y H Q→
  subscripted slice false v u=operate [v,u] (Ip v u)->wpAny (model X.prog X.w) X.A (subscriptTail value slice v u) (EP X aa σ Q) X.xe s
def MtR(X:Cx)(id:String)(r:V->List V->Hp->VK->Prop):Prop:=
 ∀(aa:List (Addr×Obj)) (s:Ab) (σ:St) (H:Hp) (x:V) (xs:List V) (v:Value) (us:List Value) (Q:VK),eF X aa σ H s->dP x v->dG xs us->r x xs H Q→
  wpAny (model X.prog X.w) X.A (call (.builtin id) (v::us)) (EP X aa σ Q) X.xe s
section
variable{X:Cx}{a b:Expr}{ta tb:TE}{pos:Pos}
theorem KR.or{r r':R2}(h:KR X r)(h':KR X r'):KR X (fun x y H Q=>r x y H Q∨r' x y H Q):=by
 intro value slice aa s σ H x y v u Q I rx ry q hs
 rcases q with q|q
 ·exact h value slice aa s σ H x y v u Q I rx ry q hs
 ·exact h' value slice aa s σ H x y v u Q I rx ry q hs
theorem zB2{r:R2}(hr:KR X r)(ha:PE X a ta)(hb:PE X b tb)(hs:QU b):PE X (.Subscript a b pos) (C6 r ta tb):=by
 intro aa s σ H Q I h
 exact Subscript_ (AJ ha hb I h fun v u s2 x y H2 I2 rx ry q=>hr a b aa s2 σ H2 x y v u Q I2 rx ry q (hs _ _))
def rIxL(K:Ae):R2:=fun x y H Q=> ∃p xs i v,x= .ref p/\y= .int i/\aT K H p xs/\QX xs i=some v/\Q v H
def rIxT(K:Ae):R2:=fun x y H Q=> ∃p xs i v,x= .ref p/\y= .int i/\YW K H p xs/\QX xs i=some v/\Q v H
def rIxS:R2:=fun x y H Q=> ∃z i c,x= .str z/\y= .int i/\z.length<=sizeLine/\QX z.cps.toList i=some c/\Q (.str ⟨#[c]⟩) H
theorem E7:KR X (rIxL X.K):=by
 intro value slice aa s σ H x y v u Q I rx ry h hs
 obtain⟨p,xs,i,z,rfl,rfl,hq,he,q⟩:=h
 cases rx
 obtain⟨t,rfl⟩:=ry
 obtain⟨its,r,pl,hz⟩:=I.list hq
 obtain⟨j,h1,h2,h3,h4,h5⟩:=QY he
 obtain⟨w,ew,rw'⟩:=r.get h2
 have hl:=r.length
 have hn:=U1
 have fin:EP X aa σ Q w s:=⟨z,H,I,rw',q⟩
 by_cases h0:0<=i
 ·have hj:i.toNat=j:=by
   rw[seqIndex_of h0 h5] at h1
   exact Bu h1
  exact item_listR pl.isList h0 (by omega) (by rw[hj];simpa using ew) fin hs
 ·have hj:(i+(its.toArray.size:Int)).toNat=j:=by
   rw[seqIndex_neg (by omega) h4] at h1
   rw[Aj,<- hl]
   exact Bu h1
  exact Jf (x:=w) pl.isList.typeIs slot_list_getitem.lookup
   (wpAny_getItem_list_neg (Q:=fun r s'=>r=w/\EP X aa σ Q r s') pl.isList (by omega) (by rw[Aj]<;>omega) (by omega) (by rw[hj];simpa using ew) ⟨rfl,fin⟩) hs
theorem A7:KR X (rIxT X.K):=by
 intro value slice aa s σ H x y v u Q I rx ry h hs
 obtain⟨p,xs,i,z,rfl,rfl,hq,he,q⟩:=h
 cases rx
 obtain⟨t,rfl⟩:=ry
 obtain⟨its,r,pl,hz⟩:=I.tuple hq
 obtain⟨j,h1,h2,h3,h4,h5⟩:=QY he
 obtain⟨w,ew,rw'⟩:=r.get h2
 have hl:=r.length
 have hn:=U1
 have fin:EP X aa σ Q w s:=⟨z,H,I,rw',q⟩
 exact Jf (x:=w) pl.typeIs slot_tuple_getitem.lookup
  (getItem_tuple (j:=j) (Q:=fun r s'=>r=w/\EP X aa σ Q r s') pl (by omega) (by omega) (by rw[Aj,<- hl];exact h1) (by simpa using ew) ⟨rfl,fin⟩) hs
theorem A6:KR X rIxS:=by
 intro value slice aa s σ H x y v u Q I rx ry h hs
 obtain⟨z,i,c,rfl,rfl,hz,he,q⟩:=h
 obtain⟨t,rfl⟩:=rx
 obtain⟨t',rfl⟩:=ry
 obtain⟨j,h1,h2,h3,h4,h5⟩:=QY he
 have hl:z.cps.toList.length=z.length:=by simp[Str.length]
 rw[hl] at h1 h4 h5
 have hn:=U1
 exact Oh (Ic s z t) slot_str_getitem.lookup (getItem_str (c:=c) (by
  have e1:decide (i< -(2 ^ 63:Int))=false:=decide_eq_false (by omega)
  have e2:decide (i≥2 ^ 63)=false:=decide_eq_false (by omega)
  rw[e1,e2,Oi]) (by rw[h1];simpa using h2) ⟨.str ⟨#[c]⟩,H,I.tok _,⟨_,rfl⟩,q⟩) hs
def rIx(K:Ae):R2:=fun x y H Q=>rIxL K x y H Q∨rIxT K x y H Q∨rIxS x y H Q
theorem A5:KR X (rIx X.K):=E7.or (A7.or A6)
theorem RX(lo hi:Option Int)(n:Nat):(Ga lo hi none n).1=((HT.sIx n 0 lo:Nat):Int)/\(Ga lo hi none n).2.1=((HT.sIx n n hi:Nat):Int)/\(Ga lo hi none n).2.2=1:=by
 refine⟨?_,?_,rfl⟩
 ·cases lo with
  |none=>simp[Ga,HT.sIx]
  |some i=>
   simp only[Ga,HT.sIx,Me,show(1:Int)>0 by decide,if_true]
   by_cases h:i<0
   ·simp only[h,if_true]<;>omega
   ·simp only[h,if_false]<;>omega
 ·cases hi with
  |none=>simp[Ga,HT.sIx]
  |some i=>
   simp only[Ga,HT.sIx,Me,show(1:Int)>0 by decide,if_true]
   by_cases h:i<0
   ·simp only[h,if_true]<;>omega
   ·simp only[h,if_false]<;>omega
theorem UG(its:List Value)(lo hi:Option Int):slicePick its.toArray lo hi none=((its.drop (HT.sIx its.length 0 lo)).take (HT.sIx its.length its.length hi - HT.sIx its.length 0 lo)).toArray:=by
 obtain⟨h1,h2,h3⟩:=RX lo hi its.toArray.size
 unfold slicePick
 rw[h1,h2,h3]
 simp only[sliceRange_one,pick_run,Aj]<;>rfl
def rSlL(K:Ae):V->Option Int->Option Int->Hp->VK->Prop:=fun x lo hi H Q=> ∃a xs,x= .ref a/\aT K H a xs/\ ∀p,H p=none->Q (.ref p) (cL H p (.lst (PF xs lo hi)))
theorem GB:EN X (rSlL X.K):=by
 intro aa s σ H x v vl vu lo hi sl Q I rx hs pl pu h
 obtain⟨a,xs,rfl,hx,q⟩:=h
 cases rx
 obtain⟨its,r,ht,hz⟩:=I.list hx
 have ag:=r.length
 refine⟨"list",_,slot_list_getitem.lookup,ht.isList.typeIs,?_⟩
 refine wpAny_getItem_list_slice ht.isList hs pl pu .none (by simp) ?_ (by rw[Aj]<;>omega)
 rw[UG,<- ag]
 refine⟨.ref s.heap.objs.size,_,I.laid (t':=s.toks) (o:= .lst (PF xs lo hi)) (fun b ob q=>Ad _ q) (An _) ?_,rfl,q _ (I.hok.fresh (An _))⟩
 exact⟨Cq (V8 xs lo hi) hz,_,0,(r.drop (HT.sIx xs.length 0 lo)).take (HT.sIx xs.length xs.length hi - HT.sIx xs.length 0 lo),Ap _ rfl⟩
theorem Q2:cI X (.builtin "len") (fun xs H Q=> ∃p ys,xs=[.ref p]/\(aT X.K H p ys∨YW X.K H p ys)/\Q (.int ys.length) H):=by
 intro aa s σ H xs us Q I r h
 obtain⟨p,ys,rfl,hq,q⟩:=h
 obtain⟨u,rfl,rx⟩:=XQ r
 cases rx
 have hn:=U1
 rcases hq with hq|hq
 ·obtain⟨its,r',pl,hz⟩:=I.list hq
  have ag:=r'.length
  exact Calls.call_len_list pl.isList (by simp only[Aj]<;>omega) ⟨.int ys.length,H,I.tok _,⟨s.toks+1,by rw[Aj,ag]⟩,q⟩
 ·obtain⟨its,r',pl,hz⟩:=I.tuple hq
  have ag:=r'.length
  exact len_tuple pl (by simp only[Aj]<;>omega) ⟨.int ys.length,H,I.tok _,⟨s.toks+1,by rw[Aj,ag]⟩,q⟩
theorem Q3:cI X (.builtin "len") (fun xs H Q=> ∃z,xs=[.str z]/\z.length<=sizeLine/\Q (.int z.length) H):=by
 intro aa s σ H xs us Q I r h
 obtain⟨z,rfl,hz,q⟩:=h
 obtain⟨u,rfl,t,rfl⟩:=XQ r
 have hn:=U1
 exact len_str (by omega) ⟨.int z.length,H,I.tok _,⟨_,rfl⟩,q⟩
theorem cI.or{f:Value}{r r':List V->Hp->VK->Prop}(h:cI X f r)(h':cI X f r'):cI X f (fun xs H Q=>r xs H Q∨r' xs H Q):=by
 intro aa s σ H xs us Q I rs q
 rcases q with q|q
 ·exact h aa s σ H xs us Q I rs q
 ·exact h' aa s σ H xs us Q I rs q
theorem T8:cI X (.type "tuple") (fun xs H Q=> ∃p ys,xs=[.ref p]/\((aT X.K H p ys/\ ∀l,H l=none->Q (.ref l) (cL H l (.tup ys)))∨(YW X.K H p ys/\Q (.ref p) H))):=by
 intro aa s σ H xs us Q I r h
 obtain⟨p,ys,rfl,h⟩:=h
 obtain⟨u,rfl,rx⟩:=XQ r
 cases rx
 rcases h with⟨hq,q⟩|⟨hq,q⟩
 ·obtain⟨its,r',pl,hz⟩:=I.list hq
  have ag:=r'.length
  refine call_tuple_list pl.isList (fun h' kp=> ?_) (by simp only[Aj]<;>omega)
  have I1:eF X aa σ H {s with heap:=h'}:=I.kept (t':=s.toks) kp
  have I2:eF X aa σ (cL H h'.objs.size (.tup ys)) {s with heap:=h'.push {cls:= .type "tuple",data:= .seq its.toArray}}:=
   I1.laid (t':=s.toks) (fun b o e=>Ad _ e) (An _) (show cE X.prog X.w _ _ _ (.tup ys) from⟨hz,its,r',Kw _ _⟩)
  exact⟨.ref h'.objs.size,_,I2,rfl,q _ (I1.hok.fresh (An _))⟩
 ·obtain⟨its,r',pl,hz⟩:=I.tuple hq
  exact call_tuple_same pl ⟨.ref p,H,I,rfl,q⟩
def tyV(K:Ae)(T:String)(x:V)(H:Hp):Prop:=match x with
 | .str _ => T = "str"
 | .int _ => T = "int"
 | .ref p => (T = "list" /\ ∃ xs,aT K H p xs) ∨ (T = "tuple" /\ ∃ o,K.lookup p = some o /\ o.cls = .type "tuple" /\ o.dict = none) ∨
   (T= "dict" /\((∃kvs,H p=some (.dK kvs))∨ ∃kvs,H p=some (.dT kvs)))∨(T= "set" /\ ∃S n,H p=some (.set S n))
 |_=>False
theorem DA{aa:List (Addr×Obj)}{σ:St}{H:Hp}{s:Ab}{T:String}{x:V}{v:Value}(I:eF X aa σ H s)(r:dP x v)(ty:tyV X.K T x H):
  s.TypeIs v T/\ ∀a,v= .ref a-> ∃ob,s.heap.get? a=some ob/\ob.dict=none:=by
 cases x with
 |str z=>
  obtain⟨t,rfl⟩:=r
  cases (show T= "str" from ty)
  exact⟨Ic s z t,fun _ e=>nomatch e⟩
 |int i=>
  obtain⟨t,rfl⟩:=r
  cases (show T= "int" from ty)
  exact⟨Jy s i t,fun _ e=>nomatch e⟩
 |ref p=>
  cases r
  rcases ty with⟨rfl,xs,hq⟩|⟨rfl,o,hk,hc,hd⟩|⟨rfl,hk⟩|⟨rfl,S,n,hk⟩
  ·obtain⟨its,_,pl,_⟩:=I.list hq
   refine⟨pl.isList.typeIs,fun a e=> ?_⟩
   cases e
   obtain⟨o,n,e,c,hd,_⟩:=pl
   exact⟨o,e,hd⟩
  ·refine ⟨⟨o,I.kIn p o hk,hc⟩,fun a e => ?_⟩
   cases e
   exact⟨o,I.kIn _ o hk,hd⟩
  ·have z: ∃o,s.heap.get? p=some o/\o.ExactDict:=by
    rcases hk with⟨kvs,hk⟩|⟨kvs,hk⟩
    ·obtain⟨_,_,_,_,o,_,_,e,ex,_⟩:=I.hok p _ hk
     exact⟨o,e,ex⟩
    ·obtain⟨_,_,_,_,o,_,_,e,ex,_⟩:=I.hok p _ hk
     exact⟨o,e,ex⟩
   obtain⟨o,e,ex⟩:=z
   refine⟨⟨o,e,ex.1⟩,fun a e2=> ?_⟩
   cases e2
   exact⟨o,e,ex.2.1⟩
  ·obtain⟨o,_,_,_,e,ex,_⟩:=I.hok p _ hk
   refine⟨⟨o,e,ex.1⟩,fun a e2=> ?_⟩
   cases e2
   exact⟨o,e,ex.2.1⟩
 |_=>exact Eu ty
def tBM(K:Ae)(T:String)(r:V->List V->Hp->VK->Prop)(to:TE)(t:TA):TE:=fun σ H Q=>to σ H fun x H1=>tyV K T x H1/\t σ H1 fun xs H2=>r x xs H2 Q
variable{o e:Expr}{es:List Expr}{to:TE}{t:TA}{name:Str}{ak af:Pos}{T id:String}{r:V->List V->Hp->VK->Prop}
theorem zB3(pa:PlainAttrs T)(slot:Slot T name id)(hty:Lx (.builtin id)=pure (.type "method_descriptor")) (hm:MtR X id r) (ho:PE X o to) (ha:PA X (e::es) t)
  (ax : Ex o name X.env (eval o X.env) = eval o X.env := by rfl)
  (cf : ((Cu af (starEach (e :: es) X.env)).all (fun x => !x.1) && (Gj af (Eg [] X.env)).all (fun x => x.1.isSome)
   && decide ((e::es).length+([]:List Gb).length+(if([]:List Gb).isEmpty then 0 else 1)<30))=true:=by rfl)
  (aw:(ak.endLine==af.line)=true:=by rfl) (hs:starEach (e::es) X.env=(false,eval e X.env)::starEach es X.env:=by rfl) (ao:(Cu af (starEach es X.env)).any (·.1)=false:=by rfl):
  PE X (.Call (.Attribute o name ak) (e::es) [] af) (tBM X.K T r to t):=by
 intro aa s σ H Q I h
 refine wpAny_Call_method_late ax cf aw rfl (bS (ho aa s σ H _ I h) fun v s1 ⟨x,H1,I1,r1,ty,q1⟩=> ?_)
 obtain⟨h1,h2⟩:=DA I1 r1 ty
 refine⟨T,id,pa,slot,hty,h1,h2,?_⟩
 have hA:=ha af aa s1 σ H1 _ I1 q1
 rw[hs] at hA⊢
 refine Fx (by show(false || (Cu af (starEach es X.env)).any (·.1))=false;rw[ao]<;>rfl) (Ez ?_)
 exact bS hA fun us s2 ⟨vs,H2,I2,r2,q2⟩=>hm aa s2 σ H2 x vs v us Q I2 r1 r2 q2
end
def DO(X:Cx)(id:String)(r:V->List V->Hp->VK->Prop):Prop:=
 ∀(aa:List (Addr×Obj)) (s:Ab) (σ:St) (H:Hp) (x:V) (xs:List V) (v:Value) (us:List Value) (Q:VK),eF X aa σ H s->dP x v->dG xs us->r x xs H Q→
  wpAny (model X.prog X.w) X.A (call (.builtin id) (v::us)) (EP X aa σ Q) X.xe s
theorem dG.one: ∀{x:V} {us:List Value},dG [x] us-> ∃u,us=[u]/\dP x u
 |_,_,.cons r .nil=>⟨_,rfl,r⟩
section
variable{X:Cx}{aa:List (Addr×Obj)}{σ:St}{H:Hp}{s:Ab}{l b:Addr}{xs ys zs:List V}
theorem eF.lset{its its':List Value}{n:Nat}{f:Array Value->Array Value}{t':Nat}(I:eF X aa σ H s)(hH:H l=some (.lst xs))
  (e:s.heap.get? l=some {cls:= .type "list",data:= .seq its.toArray n}) (hf:f its.toArray=its'.toArray) (hv:dG ys its') (hz:ys.length<=sizeLine):
  eF X aa σ (cL H l (.lst ys)) {s with heap:=s.heap.update l (Nx f),toks:=t'}:=by
 have q:=PySem.IsL.update e f
 rw[hf] at q
 refine I.write (x:=l) (e:=l) (by rw[hH];exact trivial) (.inl rfl) (fun b' u hb hu=>(Heap.get?_update_other s.heap (Nx f) (Fn hb)).trans hu) ⟨_,q⟩ ?_
 exact⟨hz,its',_,hv,q⟩
theorem eF.lnew{its:List Value}{t':Nat}(I:eF X aa σ H s)(hv:dG ys its)(hz:ys.length<=sizeLine):
  eF X aa σ (cL H s.heap.objs.size (.lst ys)) {s with heap:=s.heap.push {cls:= .type "list",data:= .seq its.toArray},toks:=t'}:=
 I.laid (fun _ _ q=>Ad _ q) (An _) ⟨hz,its,0,hv,Ap _ rfl⟩
theorem eF.fresh(I:eF X aa σ H s):H s.heap.objs.size=none:=I.hok.fresh (An _)
theorem eF.lstM(I:eF X aa σ H s)(hH:H l=some (.lst xs)):xs.length<=sizeLine/\ ∃(its:List Value) (n:Nat),dG xs its/\xs.length=its.length/\s.heap.get? l=some {cls:= .type "list",data:= .seq its.toArray n}:=by
 obtain⟨z,its,n,r,e⟩:=I.hok l _ hH
 exact⟨z,its,n,r,r.length,e⟩
theorem HV{n:Nat}(h:n<=sizeLine):Ec n=false:=by
 unfold Ec
 exact decide_eq_false (by omega)
end
section
variable{X:Cx}
def NG:V->List V->Hp->VK->Prop:=fun x vs H Q=> ∃l xs y,x= .ref l/\vs=[y]/\H l=some (.lst xs)/\xs.length<sizeLine/\Q .non (cL H l (.lst (xs++[y])))
theorem ZL:DO X "list.append" NG:=by
 intro aa s σ H x vs v us Q I rx rv h
 obtain⟨l,xs,y,rfl,rfl,hH,hz,q⟩:=h
 cases rx
 obtain⟨u,rfl,ru⟩:=rv.one
 obtain⟨z,its,n,r,hl,e⟩:=I.lstM hH
 refine Dn F.slot_list_append ⟨_,e,rfl⟩ F.entry_list_append (F.args_list_append_2 _ _) (PySem.list_append l its.toArray n u (by rw[Aj];omega)) ⟨e,?_⟩
 refine⟨.non,_,I.lset (its':=its++[u]) hH e (by simp) (r.append (.cons ru .nil)) ?_,rfl,q⟩
 rw[Cn,List.length_singleton]
 omega
end
section
variable{prog:Ar}{w:World}{A:Bo}{E:Value->Ab->Prop}{s:Ab}
set_option maxRecDepth 100000 in
end
section
variable{κ:Type}[DecidableEq κ]
noncomputable def V4(kvs:List (κ×V))(k:κ):Option V:=(kvs.find? fun kv=>decide (kv.1=k)).map (·.2)
theorem VH{p:κ×V}{r:List (κ×V)}{k:κ}(e:p.1=k):V4 (p::r) k=some p.2:=by simp[V4,En,e]
theorem XO{p:κ×V}{r:List (κ×V)}{k:κ}(e: ¬p.1=k):V4 (p::r) k=V4 r k:=by simp[V4,En,e]
theorem UM.getD{o:Option V}{u:Option Value}{d:V}{d':Value}(r:UM o u)(rd:dP d d'):dP (o.getD d) (u.getD d'):=by
 cases o with
 |none=>cases u with
  |none=>exact rd
  |some _=>exact(show False from r).elim
 |some _=>cases u with
  |none=>exact(show False from r).elim
  |some _=>exact r
theorem KV.val{kvs:List (κ×V)}{vs:List (κ×Value)}(r:KV kvs vs)(k:κ):UM (V4 kvs k) (Lk vs k):=by
 unfold KV at r
 induction r with
 | nil => exact True.intro
 | @cons p q ps qs h t ih=>
  obtain⟨h1,h2⟩:=h
  by_cases e:p.1=k
  ·have e':q.1=k:=h1.symm.trans e
   have b:Lk (q::qs) k=some q.2:=by simp[Lk,En,e']
   rw[VH e,b];exact h2
  ·have e' : ¬ q.1 = k := fun z => e (h1.trans z)
   have b:Lk (q::qs) k=Lk qs k:=by simp[Lk,En,e']
   rw[XO e,b];exact ih
end
theorem HN{P:Ar}{w:World}{k:Z0}{u:Value}(r:dP (kV k) u):(bV P w).is k u=true:=by
 cases k with
 |inl i=>obtain⟨t,e⟩:=(show∃t,u=Mw i t from r);subst e;exact PY P w i t
 |inr x=>obtain⟨t,e⟩:=(show∃t,u=Mx x t from r);subst e;exact PZ P w x t
theorem S4{P:Ar}{w:World}: ∀{ks:List Z0} {us:List Value},dG (ks.map kV) us->ItemsAre (bV P w) ks us
 |[],_,r=>by rw[Lw] at r;cases r;exact .nil
 |k::ks,_,r=>by
  rw[Ft] at r
  cases r with
  |cons h t=>exact .cons (HN h) (S4 t)
abbrev KT(H:Hp):List (List Z0×V)->List (List Z0×Addr×Value)->Prop:=Paired fun p q=>p.1=q.1/\H q.2.1=some (.tup (p.1.map kV))/\dP p.2 q.2.2
theorem KT.val{H:Hp}{kvs:List (List Z0×V)}{xs:List (List Z0×Addr×Value)}(r:KT H kvs xs)(k:List Z0):UM (V4 kvs k) ((atKey xs k).map (·.2)):=by
 induction r with
 | nil => exact True.intro
 | @cons p q ps qs h t ih=>
  obtain⟨h1,_,h2⟩:=h
  by_cases e:p.1=k
  ·have e':q.1=k:=h1.symm.trans e
   have b:atKey (q::qs) k=some q.2:=by simp[atKey,En,e']
   rw[VH e,b];exact h2
  ·have e' : ¬ q.1 = k := fun z => e (h1.trans z)
   have b:atKey (q::qs) k=atKey qs k:=by simp[atKey,En,e']
   rw[XO e,b];exact ih
section
variable{P:Ar}{w:World}{H:Hp}{h:Heap}{a:Addr}
theorem EB{u:HO}(ok:XU P w H h)(e:Rd H a u):cE P w H h a u:=e.ok ok
theorem MW{kvs:List (Z0×V)}(ok:XU P w H h)(e:Rd H a (.dK kvs)):kvs.length<=sizeLine/\(a==Gm)=false/\ ∃vs,KV kvs vs/\h.DictOf (bV P w) a vs:=
 show cE P w H h a (.dK kvs) from EB ok e
theorem N5{ks:List Z0}(ok:XU P w H h)(e:H a=some (.tup (ks.map kV))):(tupleKind (bV P w)).is h ks a:=by
 obtain⟨_,its,r,o,h1,h2,n,h3⟩:=(show cE P w H h a (.tup (ks.map kV)) from ok a _ e)
 exact⟨o,its.toArray,n,h1,h2,h3,by simpa using S4 r⟩
theorem MX{kvs:List (List Z0×V)}(ok:XU P w H h)(e:Rd H a (.dT kvs)):kvs.length<=sizeLine/\(a==Gm)=false∧
  ∃xs,KT H kvs xs/\h.DictOfH (tupleKind (bV P w)) a xs:=by
 obtain⟨z,y,xs,r,o,es,ep,h1,h2,h3,h4,h5⟩:=(show cE P w H h a (.dT kvs) from EB ok e)
 refine⟨z,y,xs,r,o,es,ep,h1,h2,h3,h4,fun x hx=> ?_,h5⟩
 have all: ∀{l:List (List Z0×V)} {m:List (List Z0×Addr×Value)},KT H l m-> ∀x∈m,(tupleKind (bV P w)).is h x.1 x.2.1:=by
  intro l m q
  induction q with
  | nil => intro x hx;exact nomatch hx
  | @cons p q ps qs hq t ih=>
   intro x hx
   rcases Ba.mp hx with e|hx
   ·subst e
    exact N5 ok (by rw[<- hq.1];exact hq.2.1)
   ·exact ih x hx
 exact all r x hx
end
def T2(H:Hp)(a:Addr)(y:V)(r:Option V):Prop:=
 (∃kvs k,Rd H a (.dK kvs)/\y=kV k/\r=V4 kvs k)∨ ∃kvs k b,Rd H a (.dT kvs)/\y= .ref b/\H b=some (.tup (k.map kV))/\r=V4 kvs k
theorem T2.k{H:Hp}{a:Addr}{kvs:List (Z0×V)}{k:Z0}(e:H a=some (.dK kvs)):T2 H a (kV k) (V4 kvs k):= .inl ⟨kvs,k,.inl e,rfl,rfl⟩
section
variable{X:Cx}{aa:List (Addr×Obj)}{σ:St}{H:Hp}{s:Ab}{a:Addr}{y v:V}{u r:Value}{o:Option V}{A:Bo}{E:Value->Ab->Prop}
theorem K9{Q:Value->Ab->Prop}(hu:A.units+1<cLine)(I:eF X aa σ H s)(g:T2 H a y (some v))(ry:dP y u)(h: ∀w' s',eF X aa σ H s'->dP v w'->Q w' s'):
  wpAny (model X.prog X.w) A (Ip (.ref a) u) Q E s:=by
 rcases g with⟨kvs,k,e,ey,l⟩|⟨kvs,k,b,e,ey,eb,l⟩
 ·subst ey
  obtain⟨z,hd,vs,rel,dd⟩:=MW I.hok e
  obtain⟨w',hw,rw'⟩:=UM.some_of (v:=v) (o:=Lk vs k) (by rw[l];exact rel.val k)
  exact wpAny_getItem_of (HN ry) dd.mapOf hw (h w' _ (I.tok _) rw')
 ·subst ey
  cases (show u=Bf b from ry)
  obtain⟨z,hd,xs,rel,dd⟩:=MX I.hok e
  obtain⟨w',hw,rw'⟩:=UM.some_of (v:=v) (o:=(atKey xs k).map (·.2)) (by rw[l];exact rel.val k)
  obtain⟨p,hp,hp2⟩:=Option.map_eq_some_iff.mp hw
  refine wpAny_getItem_heap (Kx hu) (N5 I.hok eb) dd hp ?_
  rw[hp2]
  exact h w' _ (I.tok _) rw'
end
theorem PH{X:Cx}{aa:List (Addr×Obj)}{σ:St}{H:Hp}{s:Ab}{a:Addr}{y:V}{o:Option V}(I:eF X aa σ H s)(g:T2 H a y o):s.TypeIs (.ref a) "dict":=by
 rcases g with⟨kvs,k,e,_,_⟩|⟨kvs,k,b,e,_,_,_⟩
 ·obtain⟨_,_,vs,_,dd⟩:=MW I.hok e
  exact dd.typeIs
 ·obtain⟨_,_,xs,_,dd⟩:=MX I.hok e
  exact dd.typeIs
structure M1(X:Cx)(o:Expr)(m:Str)(ak:Pos)(e:Expr)(af:Pos):Prop where
 base:Ex o m X.env (eval o X.env)=eval o X.env
 few:((Cu af (starEach [e] X.env)).all (fun x=> !x.1) && (Gj af (Eg [] X.env)).all (fun x=>x.1.isSome)
  && decide (([e]:List Expr).length+([]:List Gb).length+(if([]:List Gb).isEmpty then 0 else 1)<30))=true
 line:(ak.endLine==af.line)=true
 trees:Cu af (starEach [e] X.env)=[(false,eval e X.env)]
def IsD(H:Hp)(a:Addr):Prop:=(∃kvs,Rd H a (.dK kvs))∨ ∃kvs,Rd H a (.dT kvs)
theorem A3{X:Cx}{aa:List (Addr×Obj)}{σ:St}{H:Hp}{s:Ab}{a:Addr}(I:eF X aa σ H s)(d:IsD H a):
  s.TypeIs (.ref a) "dict" /\(∀b,Bf a= .ref b-> ∃ob,s.heap.get? b=some ob/\ob.dict=none)/\(a==Gm)=false:=by
 rcases d with⟨kvs,e⟩|⟨kvs,e⟩
 ·obtain⟨_,hd,vs,_,dd⟩:=MW I.hok e
  refine⟨dd.typeIs,fun b q=> ?_,hd⟩
  cases q
  obtain⟨ob,_,_,h1,h2,_⟩:=dd
  exact⟨ob,h1,h2.2.1⟩
 ·obtain⟨_,hd,xs,_,dd⟩:=MX I.hok e
  refine⟨dd.typeIs,fun b q=> ?_,hd⟩
  cases q
  obtain⟨ob,_,_,h1,h2,_⟩:=dd
  exact⟨ob,h1,h2.2.1⟩
section
variable{X:Cx}{aa:List (Addr×Obj)}{σ:St}{H:Hp}{s:Ab}{a:Addr}{y d:V}{u r:Value}{o:Option V}{A:Bo}{E:Value->Ab->Prop}
theorem AO{Q:Value->Ab->Prop}(hu:A.units+1<cLine)(I:eF X aa σ H s)(g:T2 H a y o)(ry:dP y u)(h: ∀w' s',eF X aa σ H s'->dP (o.getD .non) w'->Q w' s'):
  wpAny (model X.prog X.w) A (call (.builtin "dict.get") [.ref a,u]) Q E s:=by
 rcases g with⟨kvs,k,e,ey,l⟩|⟨kvs,k,b,e,ey,eb,l⟩
 ·subst ey
  obtain⟨z,hd,vs,rel,dd⟩:=MW I.hok e
  refine call_meetsIn Eo dd.typeIs Fy (Fu _ _) (meets_dict_get (bV X.prog X.w) a (HN ry) hd) ⟨_,dd.mapOf,h _ _ (I.tok _) ?_⟩
  rw[l]
  exact(rel.val k).getD rfl
 ·subst ey
  cases (show u=Bf b from ry)
  obtain⟨z,hd,xs,rel,dd⟩:=MX I.hok e
  refine call_meetsIn Eo dd.typeIs Fy (Fu _ _) (meetsH_dict_get (tupleKind (bV X.prog X.w)) a b hd) ⟨Kx hu,k,xs,N5 I.hok eb,dd,h _ _ (I.tok _) ?_⟩
  rw[l]
  exact(rel.val k).getD rfl
end
end L2
namespace Att
open PySem PySem.W PySem.Calls PyProof.Rows
theorem V2{P:Mv}{h:Heap}: ∀(ns:List Int) (vs:List Value),WellAll P h vs (ns.map WData.int)->Fz vs ns:=by
 intro ns
 induction ns with
 |nil=>
  intro vs w
  rw[Lw] at w
  cases w
  exact .nil
 |cons n ns ih=>
  intro vs w
  rw[Ft] at w
  cases w with
  |cons a b=>
   cases a
   exact .cons _ _ (ih _ b)
theorem L7{l:OpenLaw}{n:Nat}(hn:l.most=some n){P:Mv}{h:Heap}{args:List WData}{vals:List Value}
  (hpre:l.row.toRowW.claim.pre args=true) (hwl:WellAll P h vals args):
  ∃a vs ns,vals=[Bf a]/\args=[WData.list (ns.map WData.int)]/\h.get? a=some {cls:= .type "list",data:= .seq vs.toArray}/\Fz vs ns/\ns.length<=n:=by
 have hsh:WShape.hasAll [] args [.list .int]=true:=(pre_splitW hpre).1
 have hc:l.pre.holds [] {args:=args}=true:=(pre_splitW hpre).2
 obtain⟨d,r,rfl,h1,h2⟩:=hasAllW_cons hsh
 obtain rfl:=hasAllW_nil h2
 obtain⟨xs,rfl,h3⟩:=hasW_list h1
 obtain⟨ns,rfl⟩:=items_int h3
 have ag:ns.length<=n:=by
  unfold OpenLaw.pre at hc
  have h4:(WTm.not (.lt (.lit (.int (n:Int))) (.len (.arg 0)))).holds [] {args:=[.list (ns.map .int)]}=true:=by
   have h4:=(holds_andW hc).1
   rw[hn] at h4
   exact h4
  have h5:=condW_of h4 (w_not (w_lt w_lit (w_len_list (w_arg rfl))))
  rw[Dk] at h5
  refine Nat.le_of_not_lt fun q=> ?_
  have q':(n:Int)<((ns.length:Nat):Int):=by omega
  first
   |(rw[decide_eq_true q'] at h5;exact absurd h5 (by decide))
   |(simp at h5;omega)
 cases hwl with
 |cons w1 w2=>
  cases w2
  cases w1 with
  |list ho ip=>exact⟨_,_,ns,rfl,rfl,ho,V2 ns _ ip,ag⟩
theorem LY(l:OpenLaw)(args:List WData):l.row.toRowW.claim.post args (.bool true) args=true:=
 postW_of (r:=l.row.toRowW) (X:=(true==true))
  (show Pc [] (.bool true) .bool=true by first|rfl|decide|simp[Pc,WShape.arms,WShape.armsAll])
  (show(WTm.eq .res (.lit (.bool true))).value [] {args:=args,res:=some (.bool true),after:=args}=some (.bool (true==true)) from w_eq_bool (w_res rfl) w_lit) rfl
theorem O6{l:OpenLaw}{n:Nat}{q:Ar}{loose:List Str}{XP:(Str->Option Value)->Heap->Prop}{YP:World->Heap->Prop}{d:DefRec}
  (hn:l.most=some n) (hdf:d.params.defaults=[])
  (call: ∀(w:World) (s₀ s₁:Ab) (mg mb:Str->Option Value) (fa:Addr) (o:Obj) (pm cd doc:Value) (a:Addr) (vs:List Value) (ns:List Int),
   Ground q loose [] XP w s₀ mg mb s₁.heap->YP w s₁.heap→
   s₁.heap.get? fa=some o->o.data= .func (docDef d.name d.params d.body d.scope pm cd doc)->s₁.heap.CodeRec cd d.name->mg d.name=some (.ref fa)→
   s₁.heap.get? a=some {cls:= .type "list",data:= .seq vs.toArray}->Fz vs ns->ns.length<=n->s₁.gens= #[]→
   Ef (model l.prog w) Kk (.call (.ref fa) ⟨[.ref a],[]⟩) (fun r s'=>r= .ok (.ret (.bool true))/\OldK s₁.heap s'.heap/\s'.os=s₁.os/\Il s'.gens) s₁):
  WalkO q loose XP YP l.row.toRowW d [] (fun f vs=>Ny f vs):=by
 intro w s₀ s₁ mg mb G Y fa o pm cd doc dV kV ho hd hcd hD hmg hg args vals as hpre hlay hrd hwl hlo
 obtain rfl:dV= .none:=Dflts.none hD hdf
 obtain rfl:kV= .none:=Dflts.noKw hD
 obtain⟨a,vs,ns,rfl,rfl,hobj,hints,ag⟩:=L7 hn hpre hwl
 refine enter_call (Em (call w s₀ s₁ mg mb fa o pm cd doc a vs ns G Y ho (fd_plain hd) hcd hmg hobj hints ag hg) fun r s' hq=> ?_)
 obtain⟨rfl,h2,h3,h4⟩:=hq
 exact⟨.inl ⟨.bool true,.bool true,[],rfl,fun _=>rfl,.bool true,LY l _,fun _=>⟨Ie,fun _ hm=>(nomatch hm)⟩⟩,h2,h3,h4⟩
end Att
namespace L2
open PySem PySem.Spec PyProof.Rows
theorem TY: ∀{vs:List Value} {ns:List Int},Fz vs ns->dG (ns.map V.int) vs
 |_,_,.nil=> .nil
 |_,_,.cons n t h=> .cons ⟨t,rfl⟩ (TY h)
def EL(H:Hp):Prop:= ∀b,H b=none∨ ∃o xs,H b=some (.frz o (.lst xs))
theorem HQ{P:Ar}{w:World}{K:Ae}{mg mb:Str->Option Value}{CX:KO}{k:Nat}{fa a:Addr}{fd:Ch}{x:Str}{sp:Sp}{s₁:Ab}{vs:List Value}{ns:List Int}
  (KX:K.In s₁.heap) (hns:s₁.heap.Ns mainGlobals mg) (hb:s₁.heap.Ns builtinsNs mb) (hbb: ∀x:Str,x≠ "__name__" ->mb x=Bj x) (lb:s₁.heap.NoLimit) (hg:s₁.gens= #[])
  (ha:s₁.heap.get? a=some {cls:= .type "list",data:= .seq vs.toArray}) (hi:Fz vs ns) (hl:ns.length<=sizeLine) (hr:b7 k Kk)
  (F: ∀base:Heap,K.In base->base.Ns mainGlobals mg->cQ P w K mg base CX k fa fd [x] sp) (kf: ∀(s:Ab) (u:Value),Lh s fd ⟨[u],[]⟩ [(x,u)])
  (hsp : ∀ H : Hp,EL H -> aT K H a (ns.map V.int) -> sp [.ref a] H (fun v _ => v = .bl true) fun _ _ _ => False)
  (hCX : ∀ H e s',CX [] H s₁ (fun _ _ _ => False) e s' -> False) :
  Ef (model P w) Kk (.call (.ref fa) ⟨[.ref a],[]⟩) (fun r s'=>r= .ok (.ret (.bool true))/\OldK s₁.heap s'.heap/\s'.os=s₁.os/\Il s'.gens) s₁:=by
 have rv:=TY hi
 have l3:=hi.length
 have kg: ∀H:Hp,EL H->aT K H a (ns.map V.int)->XU P w H s₁.heap->(∀b,H b≠none->b=a)->(H a≠none->K.lookup a=none)→
   Ef (model P w) Kk (.call (.ref fa) ⟨[.ref a],[]⟩) (fun r s'=>r= .ok (.ret (.bool true))/\OldK s₁.heap s'.heap/\s'.os=s₁.os/\Il s'.gens) s₁:=by
  intro H hO hS hok hA hK
  have fj: ∀{b:Addr} {o:Obj},s₁.heap.get? b=some o->H b=none->(RE s₁.heap H).get? b=some o:=fun e n=>HI e n
  have noA: ∀{b:Addr} {o:Obj} {es:Array Jj} {ep:Nat},s₁.heap.get? b=some o->o.data= .dict es ep->H b=none:=fun{b o es ep} e d=>by
   cases q:H b with
   | none => rfl
   |some u=>
    have e':b=a:=hA b (by rw[q];simp)
    subst e'
    rw[ha] at e;cases e
    have d':Data.seq vs.toArray _=Data.dict es ep:=d
    cases d'
  have nsK: ∀{b:Addr} {m:Str->Option Value},s₁.heap.Ns b m->(RE s₁.heap H).Ns b m:=fun{b m} ⟨o,es,ep,e,d,r⟩=>⟨o,es,ep,fj e (noA e d),d,r⟩
  have hKb:K.In (RE s₁.heap H):=fun b o e=>fj (KX b o e) (by
   cases q:H b with
   | none => rfl
   |some u=>
    have e':b=a:=hA b (by rw[q];simp)
    subst e'
    rw[hK (by rw[q];simp)] at e;cases e)
  have hM:Mod K mg (RE s₁.heap H):=⟨hKb,nsK hns,⟨mb,nsK hb,hbb⟩,let ⟨mc,h1,h2⟩:=lb;⟨mc,nsK h1,h2⟩⟩
  have e0:KQ P w K mg (RE s₁.heap H) Kk [] s₁ H:=⟨rfl,hM,fun b o e=>FI e,Nat.le_of_eq (LH _ _),trivial,fun b hb=>absurd (show b∈([]:List Addr) from hb) (by simp),hok,.of_eq hg⟩
  refine Em ((F _ hKb (nsK hns)).run Kk [] s₁ H ⟨[.ref a],[]⟩ [.ref a] [.ref a] _ _ hr e0 (kf s₁ (.ref a)) (.cons rfl .nil) (hsp H hO hS)) fun r s' h=> ?_
  cases r with
  | error e => exact (hCX H e s' h).elim
  |ok fl=>
   cases fl with
   | next => exact Eu h
   | brk => exact Eu h
   | cont => exact Eu h
   |ret u=>
    obtain⟨v,H',os,bare,un,l7,r',q⟩:=h
    have q':v= .bl true:=q
    subst q'
    obtain rfl:u=Et true:=r'
    refine⟨rfl,OldK.of_keep fun b o e=> ?_,os,bare⟩
    cases q:H b with
    | none => exact un.keep b o e q (by intro z;exact absurd (show b ∈ ([] : List Addr) from z) (by simp)) (by simp)
    |some u=>
     rcases hO b with z|⟨ob,xs,z⟩
     ·rw[q] at z;cases z
     ·have z2:=un.frzs b ob _ z
      obtain⟨e1,_⟩:=hok b _ z
      obtain⟨e2,_⟩:=l7 b _ z2
      rw[e] at e1;cases e1
      exact e2
 cases hk:K.lookup a with
 |some o=>
  have e:=KX a o hk
  rw[ha] at e
  cases e
  refine kg (fun _=>none) (fun _=> .inl rfl) (.inr ⟨_,vs.toArray,_,hk,rfl,rfl,rfl,by rw[Aj,l3];exact hl,by simpa using rv⟩) (fun b u z=>by have z':(none:Option HO)=some u:=z;cases z') (fun b z=>absurd rfl z) fun z=>absurd rfl z
 |none=>
  refine kg (fun b=>if b=a then some (.frz {cls:= .type "list",data:= .seq vs.toArray} (.lst (ns.map V.int))) else none) (fun b=> ?_) (.inl (.inr ⟨{cls:= .type "list",data:= .seq vs.toArray},if_pos rfl⟩)) (fun b u z=> ?_) (fun b z=> ?_) fun _=>hk
  ·by_cases hb:b=a
   ·exact .inr ⟨_,_,if_pos hb⟩
   ·exact .inl (if_neg hb)
  ·by_cases hb:b=a
   ·have z':=(if_pos hb).symm.trans z
    cases z'
    subst hb
    exact⟨ha,by rw[Dk];exact hl,vs,_,rv,ha⟩
   ·have z':=(if_neg hb).symm.trans z
    cases z'
  ·by_cases hb:b=a
   ·exact hb
   ·exact absurd (if_neg hb) z
theorem GP{l:Ot}{n k:Nat}{q:Ar}{loose:List Str}{XP:(Str->Option Value)->Heap->Prop}{YP:World->Heap->Prop}{d:DefRec}{K:Mv->Ae}{CX:World->KO}{sp:World->Sp}{x:Str}
  (hn:l.most=some n) (hn2:n<=sizeLine) (hdf:d.params.defaults=[]) (hr:b7 k Kk)
  (hY: ∀(w:World) (h:Heap),YP w h->(K w.params).In h)
  (F: ∀(w:World) (mg:Str->Option Value) (fa:Addr) (h:Heap),(K w.params).In h->h.Ns mainGlobals mg->mg d.name=some (.ref fa)→
   ∃fd:Ch,(∀(s:Ab) (u:Value),Lh s fd ⟨[u],[]⟩ [(x,u)])∧
    ∀base:Heap,(K w.params).In base->base.Ns mainGlobals mg->cQ l.prog w (K w.params) mg base (CX w) k fa fd [x] (sp w))
  (hsp: ∀(w:World) (H:Hp) (a:Addr) (ns:List Int),ns.length<=n->EL H->aT (K w.params) H a (ns.map V.int)->sp w [.ref a] H (fun v _=>v= .bl true) fun _ _ _=>False)
  (hCX: ∀(w:World) (H:Hp) (s:Ab) (e:Value) (s':Ab),CX w [] H s (fun _ _ _=>False) e s'->False):
  W.WalkO q loose XP YP l.row.toRowW d [] (fun f vs=>Ny f vs):=by
 refine Att.O6 hn hdf fun w s₀ s₁ mg mb fa o pm cd doc a vs ns G Y ho hd hcd hmg hobj hints ag hg=> ?_
 have KX:=hY w _ Y
 obtain⟨fd,hb,hF⟩:=F w mg fa _ KX G.T.g hmg
 exact HQ KX G.T.g G.T.b G.T.builtins G.T.nolimit hg hobj hints (Cq ag hn2) hr hF hb (fun H hO hS=>hsp w H a ns ag hO hS) fun H e s'=>hCX w H s₁ e s'
theorem KA{l:Ot}{n k:Nat}{q:Ar}{loose:List Str}{XP:(Str->Option Value)->Heap->Prop}{YP:World->Heap->Prop}{d:DefRec}{K:Mv->Ae}{CX:KO}{sp:Ae->Sp}{x:Str}
  (hn:l.most=some n) (hn2:n<=sizeLine) (hdf:d.params.defaults=[]) (hr:b7 k Kk)
  (hY: ∀(w:World) (h:Heap),YP w h->(K w.params).In h)
  (F: ∀(w:World) (mg:Str->Option Value) (fa:Addr) (h:Heap),(K w.params).In h->h.Ns mainGlobals mg->mg d.name=some (.ref fa)→
   ∃fd:Ch,(∀(s:Ab) (u:Value),Lh s fd ⟨[u],[]⟩ [(x,u)])∧
    ∀base:Heap,(K w.params).In base->base.Ns mainGlobals mg->cQ l.prog w (K w.params) mg base CX k fa fd [x] (sp (K w.params)))
  (hsp: ∀(K:Ae) (H:Hp) (a:Addr) (ns:List Int),ns.length<=n->EL H->aT K H a (ns.map V.int)->sp K [.ref a] H (fun v _=>v= .bl true) fun _ _ _=>False)
  (hCX: ∀(H:Hp) (s:Ab) (e:Value) (s':Ab),CX [] H s (fun _ _ _=>False) e s'->False):
  W.WalkO q loose XP YP l.row.toRowW d [] (fun f vs=>Ny f vs):=
 GP (K:=K) (CX:=fun _=>CX) (sp:=fun w=>sp (K w.params)) hn hn2 hdf hr hY F (fun w H a ns h1 h2 h3=>hsp (K w.params) H a ns h1 h2 h3) fun _ H s e s'=>hCX H s e s'
noncomputable def bU(s:Stmt):Arguments:=match s with
 | .FunctionDef _ a _ _ _ _ _ _ _ _=>a
 |_=>{posonlyargs:=[],args:=[],vararg:=none,kwonlyargs:=[],kw_defaults:=[],kwarg:=none,defaults:=[]}
noncomputable def cY(s:Stmt):List Stmt:=match s with
 | .FunctionDef _ _ b _ _ _ _ _ _ _=>b
 |_=>[]
noncomputable def eM(s:Stmt):Scope:=match s with
 | .FunctionDef _ _ _ _ _ _ sc _ _ _=>sc
 |_=>{kind:= .function,names:=[],isGenerator:=false,isCoroutine:=false}
abbrev CX0:KO:=fun _ _ _ _ _ _=>False
abbrev E0:XK:=fun _ _ _=>False
theorem D0{X:Cx}:NR CX0 X E0:=fun _ _ _ _ _ _ _ h=>h.elim
structure aW(K:Ae)(x qual:Str)(st:Stmt)(f:Addr)(fd:Ch):Prop where
 ex: ∃(oc:Value) (od:Option Addr) (kV doc pm:Value) (an:Option Addr) (cdv ct:Value) (osl:Array (Option Value)),
  fd=Ix x qual (bU st) (cY st) (eM st) .none kV doc pm an cdv ct/\K.lookup f=some ⟨oc,od,.func fd,osl⟩/\Kt K cdv qual=true
 kp:Fq K (.ref f)=true
section
variable{P:Ar}{w:World}{K:Ae}{mg:Str->Option Value}{base:Heap}
theorem aW.ok{x qual:Str}{st:Stmt}{f:Addr}{fd:Ch}{N ps:List Str}{k:Nat}{sp:Sp}(F:aW K x qual st f fd)(S:dY N ps (eM st))(len: ∀vs H Q E,sp vs H Q E->vs.length=ps.length)
  (al: ∀(cdv:Value) (A:Bo) (outer:List Env) (s:Ab) (H:Hp) (vs:List V) (Q:VK) (E:XK),b7 k (A.deeper (envOfC qual (eM st) s.heap.objs.size f cdv))->sp vs H Q E→
   ∃t,ZQ (W6 CX0 P w K mg base N qual (eM st) f cdv A outer s H E).nox (cY st) t/\t {nx:=fun _ H'=>Q .non H',rt:=Q} (start N vs) H):cQ P w K mg base CX0 (k+1) f fd ps sp:=by
 obtain⟨oc,od,kV,doc,pm,an,cdv,ct,osl,rfl,lk,hcd⟩:=F.ex
 refine DT lk hcd S len fun A outer s H vs Q E hr hsp=> ?_
 obtain⟨t,h,q⟩:=al cdv A outer s H vs Q E hr hsp
 exact⟨t,h.nox,q⟩
theorem aW.binds{x qual:Str}{st:Stmt}{f:Addr}{fd:Ch}{ps:List Str}(F:aW K x qual st f fd)
  (h: ∀(kV doc pm:Value) (an:Option Addr) (cdv ct:Value) (us:List Value),us.length=ps.length->Mo (Ix x qual (bU st) (cY st) (eM st) .none kV doc pm an cdv ct) ⟨us,[]⟩=pure (ps.zip us)):YJ K fd ps []:=by
 obtain⟨oc,od,kV,doc,pm,an,cdv,ct,osl,rfl,lk,hcd⟩:=F.ex
 exact .all (h kV doc pm an cdv ct)
theorem RD{x qual:Str}{st:Stmt}{f:Addr}{oc:Value}{od an:Option Addr}{osl:Array (Option Value)}{kV doc pm cdv ct:Value}(l:K.lookup f=some ⟨oc,od,.func (Ix x qual (bU st) (cY st) (eM st) .none kV doc pm an cdv ct),osl⟩)
  (c:Kt K cdv qual=true) (k:Fq K (.ref f)=true):aW K x qual st f (Ix x qual (bU st) (cY st) (eM st) .none kV doc pm an cdv ct):=⟨⟨oc,od,kV,doc,pm,an,cdv,ct,osl,rfl,l,c⟩,k⟩
end
theorem DV{A:Bo}{k:Nat}(hr:b7 k A):A.units+1<cLine:=Nat.lt_of_le_of_lt (Nat.add_le_add_left (by decide:1<=64) _) hr.units
section
variable{X:Cx}
theorem pv(i:Nat){x:Str}{pos:Pos}(hN:X.N[i]? =some x:=by rfl)(hv:AE X.env.scope x:=by first|exact Bi rfl|exact As (Bi rfl)|exact As (As rfl))(hd:(x==("__debug__":Str))=false:=by decide)
  (hcd:(x==("__classdict__":Str))=false:=by decide):PE X (.Name x pos) (OS i):=OI hN hv hd hcd
end
theorem UB{A B:Prop}(h:B):if false=true then A else B:=by
 rw[if_neg Ca]
 exact h
theorem UC{A B:Prop}(h:A):if true=true then A else B:=by
 rw[if_pos rfl]
 exact h
def cM(H H':Hp):Prop:= ∀b o,H b=some o->H' b=some o
theorem cM.refl(H:Hp):cM H H:=fun _ _ h=>h
theorem cM.trans{H H1 H2:Hp}(a:cM H H1)(b:cM H1 H2):cM H H2:=fun c o h=>b c o (a c o h)
theorem Q6{env:Env}{f:Str×NameKind->List (Str×Addr)->Sem (ForInStep (List (Str×Addr)))}
  (hf : ∀ n k r,f (n,k) r = if (k == At) = true then (cellOf env n >>= fun c => pure (Cd ((n,c) :: r))) else pure (Cd r)) :
  ∀(names:List (Str×NameKind)) (cs:List (Str×Addr)),(∀y∈names,y.2= .free-> ∃c,env.cells.lookup y.1=some c)→
   ∃cl,forIn names cs f=(pure cl:Sem (List (Str×Addr)))/\(∀x c,cl.lookup x=some c->cs.lookup x=some c∨env.cells.lookup x=some c)∧
    (∀x c,cs.lookup x=some c-> ∃c',cl.lookup x=some c')/\ ∀x,(x,At)∈names-> ∃c,cl.lookup x=some c
 | [],cs,_ => ⟨cs,rfl,fun _ _ e => .inl e,fun _ c e => ⟨c,e⟩,fun _ h => nomatch h⟩
 | (n,k) :: r,cs,h => by
  have hr: ∀y∈r,y.2= .free-> ∃c,env.cells.lookup y.1=some c:=fun y hy=>h y (Ay _ hy)
  by_cases hk:k= .free
  ·subst hk
   obtain⟨c,hc⟩:=h (n,.free) Bz rfl
   have hc:env.cells.lookup n=some c:=hc
   obtain⟨cl,e1,e2,e3,e4⟩:=Q6 hf r ((n,c)::cs) hr
   refine⟨cl,?_,fun x c' e=> ?_,fun x c' e=> ?_,fun x hx=> ?_⟩
   ·rw [Gu,hf,if_pos (show (At == At) = true by decide)]
    have ec:cellOf env n=pure c:=by unfold cellOf;rw[hc]
    rw[ec,pure_bind,pure_bind]
    exact e1
   ·rcases e2 x c' e with q|q
    ·by_cases hx:x=n
     ·subst hx
      rw[Ck] at q
      cases q
      exact .inr hc
     ·rw[Bp,beq_eq_false_iff_ne.mpr hx] at q
      exact .inl q
    ·exact .inr q
   ·by_cases hx:x=n
    ·subst hx
     exact e3 x c (Ck ..)
    ·refine e3 x c' ?_
     rw[Bp,beq_eq_false_iff_ne.mpr hx]
     exact e
   ·rcases Ba.mp hx with q|q
    ·cases q
     exact e3 n c (Ck ..)
    ·exact e4 x q
  ·obtain⟨cl,e1,e2,e3,e4⟩:=Q6 hf r cs hr
   refine⟨cl,?_,e2,e3,fun x hx=> ?_⟩
   ·have hb : ¬ (k == At) = true := by simpa using hk
    rw[Gu,hf,if_neg hb,pure_bind]
    exact e1
   ·rcases Ba.mp hx with q|q
    ·cases q
     exact absurd rfl hk
    ·exact e4 x q
theorem MV{env:Env}{scope:Scope}(h: ∀y∈scope.names,y.2= .free-> ∃c,env.cells.lookup y.1=some c):
  ∃cl,closureFor scope env=pure cl/\(∀x c,cl.lookup x=some c->env.cells.lookup x=some c)/\ ∀x,(x,At)∈scope.names-> ∃c,cl.lookup x=some c:=by
 simp only[closureFor]
 obtain⟨cl,e1,e2,_,e4⟩:=Q6 (env:=env) (f:=fun x r=>match x with
  |(name,kind)=>if(kind==At)=true then(cellOf env name>>=fun c=>pure (Cd ((name,c)::r))) else pure (Cd r)) (fun _ _ _=>rfl) scope.names [] h
 refine⟨cl,?_,fun x c e=> ?_,e4⟩
 ·first
   |exact e1
   |(refine Eq.trans (congrArg (fun m=>m>>=pure) e1) ?_;exact pure_bind _ _)
 ·rcases e2 x c e with q|q
  ·cases q
  ·exact q
noncomputable def c7(ix:List Nat)(σ:St):St:=ix.map fun i=>(σ[i]?).join
def PTs(Y:Cx)(ifs:List Expr)(tt:TT):Prop:=
 ∀(aa:List (Addr×Obj)) (s:Ab) (σ:St) (H:Hp) (Q:Bool->Hp->Prop),eF Y aa σ H s->tt σ H Q→
  wpAny (model Y.prog Y.w) Y.A (forIn ifs true fun c r=>if r=true then do let ok<- isTrue c Y.env (eval c Y.env);pure (Cd ok) else pure (Cd r)) (TP Y aa σ Q) Y.xe s
def tYes:TT:=fun _ H Q=>Q true H
theorem F4{Y:Cx}:PTs Y [] tYes:=fun _ _ _ H _ I h=>wpAny_tests_nil ⟨H,I,h⟩
structure Blk(Y:Cx)(tg:Expr)(ifs:List Expr)(elt:Expr)(g:TG)(tt:TT)(te:TE):Prop where
 tg:PG Y tg g
 ts:PTs Y ifs tt
 el:PE Y elt te
theorem K8{prog:Ar}{w:World}{A:Bo}{s:Ab}{elt br iter:Expr}{ifs:List Expr}{scope:Scope}{pos:Pos}{it acc:Value}{env:Env}{R:Nd->Ab->Prop}(I:Nat->Ab->Prop)
  (turn : ∀ n s,I n s -> wpAny (model prog w) A (pyNext it) (fun r s₁ => match r with
   | none => R (.ok .next) s₁
   | some v => wpAny (model prog w) A (Dh br it v) (fun _ s₀ => wpAny (model prog w) A (Fe br env v) (fun _ s₂ =>
     wpAny (model prog w) A (forIn ifs true fun c r=>if r=true then do let ok<- isTrue c env (eval c env);pure (Cd ok) else pure (Cd r)) (fun ok s₃=>if ok=true then wpAny (model prog w) A (eval elt env) (fun x s₄=>
      wpAny (model prog w) A (call (.builtin "list.append") [acc,x]) (fun _ s₅=> ∃m,m<n/\I m s₅) (fun _ _=>False) s₄) (fun _ _=>False) s₃
      else∃m,m<n/\I m s₃) (fun _ _=>False) s₂)
     (fun _ _=>False) s₀) (fun _ _=>False) s₁) (fun _ _=>False) s)
  (n:Nat) (h:I n s):Ef (model prog w) A (.compLoop (.ListComp elt [⟨br,iter,ifs,0⟩] scope pos) 0 it acc env) R s:=by
 refine Ly rfl I (fun n s hI=> ?_) n h
 show wpAny _ A ((Mq (.ListComp elt [⟨br,iter,ifs,0⟩] scope pos) 0 it acc env).onRaise (fun x=>do Nf x env;Jq x)) _ _ s
 refine Ng ?_
 rw[compTurn_list]
 refine Aa (Ds (Aa (Ao (turn n s hI) (fun r s₁ h₁=> ?_) fun _ _ h'=>h'.elim)))
 cases r with
 |none=>exact Af h₁
 |some v=>
  refine Aa (Ao h₁ (fun _ s₀ h₀'=> ?_) fun _ _ h'=>h'.elim)
  refine Aa (Ao h₀' (fun _ s₂ h₂=> ?_) fun _ _ h'=>h'.elim)
  refine Aa (Ao h₂ (fun okb s₃ h₃=> ?_) fun _ _ h'=>h'.elim)
  cases okb with
  |false=>exact Af ⟨rfl,h₃⟩
  |true=>exact Aa (Aa (Ao h₃ (fun x s₄ h₄=>Aa (Ao h₄ (fun _ s₅ h₅=>Af (Af ⟨rfl,h₅⟩)) fun _ _ h'=>h'.elim)) fun _ _ h'=>h'.elim))
section
variable{X:Cx}{aa:List (Addr×Obj)}{σ:St}{H H':Hp}{s s1 s':Ab}{h'':Heap}
theorem eF.offNew{σ':St}{H1:Hp}(I1:eF X aa σ H1 s1)(I':eF X aa σ' H' s')(hn:H' s1.heap.objs.size=none)(sb: ∀b o,b≠s1.heap.objs.size->s'.heap.get? b=some o->h''.get? b=some o):
  eF X aa σ' H' {s' with heap:=h''}:=
 I'.turned (t':=s'.toks) (it:=s1.heap.objs.size) sb hn (Ff I1.lt) (.inr I1.sz)
  (fun x c e z => by
   obtain⟨v,q⟩:=I1.cell x c e
   have:=q.lt
   rw[z] at this
   exact Bq _ this)
  fun p hp z=>by
   have:=Ag (I1.pin p hp).1
   rw[z] at this
   exact Bq _ this
end
def DM(D:Addr)(ix:List Nat)(nl:Nat)(J:It)(g:TG)(tt:TT)(te:TE)(σ:St)(H0:Hp)(Q:Hp->Prop):Prop:=
 ∃W:Nat->Nat->List V->Hp->Prop,(∃m,W 0 m [] (cL H0 D (.lst [])))/\ ∀i m acc H1,W i m acc H1→
  (J.stop i H1/\Q H1)∨
  (J.go i H1/\ ∃N:List V->Hp->Prop,(∀ah H',N ah H'-> ∃m',m'<m/\W (i+1) m' ah H')∧
   ∀x H2,J.yld i H1 x H2->g x (c7 ix σ++Aq nl none) H2 fun σ2 H3=>σ2.take ix.length=c7 ix σ∧
    tt σ2 H3 fun b H4=>if b=true then te σ2 H4 fun v H5=>H5 D=some (.lst acc)/\acc.length<sizeLine/\N (acc++[v]) (cL H5 D (.lst (acc++[v]))) else N acc H4)
theorem ZC{env:Env}{x:Str}: ∀{l:List (Str×NameKind)},l.lookup x=some .free→
  (l.map fun (n,k) => if (k == At && env.scope.kind == .function && env.kindOf n == some .cell) then (n,Bb) else (n,k)).lookup x = some .cell ∨
  (l.map fun (n,k) => if (k == At && env.scope.kind == .function && env.kindOf n == some .cell) then (n,Bb) else (n,k)).lookup x = some .free
 | [],h => by cases h
 | (n,k) :: r,h => by
  show Kl x ((if(k==At && env.scope.kind== .function && env.kindOf n==some .cell)=true then(n,Bb) else(n,k))::_)=some .cell∨Kl x ((if(k==At && env.scope.kind== .function && env.kindOf n==some .cell)=true then(n,Bb) else(n,k))::_)=some .free
  by_cases hx:x=n
  ·subst hx
   rw[Ck] at h
   cases h
   by_cases hc:(At==At && env.scope.kind== .function && env.kindOf x==some .cell)=true
   ·left
    rw[if_pos hc,Ck]
   ·right
    rw[if_neg hc,Ck]
  ·have hb:(x==n)=false:=beq_eq_false_iff_ne.mpr hx
   simp only[Bp,hb] at h
   have ih:=ZC (env:=env) h
   by_cases hc:(k==At && env.scope.kind== .function && env.kindOf n==some .cell)=true
   ·rw[if_pos hc]
    simp only[Bp,hb]
    exact ih
   ·rw[if_neg hc]
    simp only[Bp,hb]
    exact ih
def EF(ix:List Nat)(nl:Nat)(wi:TI)(g:TG)(tt:TT)(te:TE):TE:=fun σ H Q=>wi σ H fun J H0=> ∀D,H0 D=none->DM D ix nl J g tt te σ H0 fun H'=>Q (.ref D) H'
mutual
inductive Dp(K:Ae)(H:Hp):V->Kf->Prop
 |non:Dp K H .non .none
 |bl (b:Bool):Dp K H (.bl b) (.bool b)
 |int (i:Int):Dp K H (.int i) (.int i)
 |str (x:Str):Dp K H (.str x) (.str x)
 |lst {a:Addr} {xs:List V} {ds:List Kf}:aT K H a xs->UK K H xs ds->Dp K H (.ref a) (.list ds)
 |tup {a:Addr} {xs:List V} {ds:List Kf}:YW K H a xs->UK K H xs ds->Dp K H (.ref a) (.tuple ds)
inductive UK(K:Ae)(H:Hp):List V->List Kf->Prop
 |nil:UK K H [] []
 |cons {v:V} {vs:List V} {d:Kf} {ds:List Kf}:Dp K H v d->UK K H vs ds->UK K H (v::vs) (d::ds)
end
section
variable{X:Cx}{aa:List (Addr×Obj)}{σ:St}{H:Hp}{s:Ab}
mutual
theorem eF.reads(I:eF X aa σ H s): ∀{v:V} {d:Kf} {u:Value},Dp X.K H v d->dP v u-> ∃as,Reads s.heap u d as
 |_,_,_,.non,r=>by cases r;exact⟨_,.none⟩
 |_,_,_,.bl b,r=>by cases r;exact⟨_,.bool b⟩
 |_,_,_,.int i,r=>by obtain⟨t,rfl⟩:=r;exact⟨_,.int i t⟩
 |_,_,_,.str x,r=>by obtain⟨t,rfl⟩:=r;exact⟨_,.str x t⟩
 |_,_,_,.lst q all,r=>by
  cases r
  obtain⟨its,rv,⟨o,n,e,c,_,d⟩,_⟩:=I.list q
  obtain⟨as,h⟩:=eF.readsAll I all rv
  exact⟨_,.list e c d (by simpa using h)⟩
 |_,_,_,.tup q all,r=>by
  cases r
  obtain⟨its,rv,⟨o,e,c,n,d⟩,_⟩:=I.tuple q
  obtain⟨as,h⟩:=eF.readsAll I all rv
  exact⟨_,.tuple e c d (by simpa using h)⟩
theorem eF.readsAll(I:eF X aa σ H s): ∀{vs:List V} {ds:List Kf} {us:List Value},UK X.K H vs ds->dG vs us-> ∃as,ReadsAll s.heap us ds as
 | _,_,_,.nil,r => by cases r;exact ⟨_,.nil⟩
 | _,_,_,.cons h t,r => by
  cases r with
  |cons r1 r2=>
   obtain⟨as,h1⟩:=eF.reads I h r1
   obtain⟨bs,h2⟩:=eF.readsAll I t r2
   exact⟨_,.cons h1 h2⟩
end
end
def CN(K:Ae):R2:=fun x y H Q=> ∃d e,Dp K H x d/\Dp K H y e/\Df d=true/\Df e=true/\Q (.bl (Go d e)) H
def CS(K:Ae):R2:=fun x y H Q=> ∃d e,Dp K H x d/\Dp K H y e/\Df d=true/\Df e=true/\Q (.bl (!PyData.eqv d e)) H
section
variable{X:Cx}
theorem B0(hu:X.A.units+64<cLine):aS X (Bv .Eq) (CN X.K):=by
 intro aa s σ H x y v u Q I rx ry h
 obtain⟨d,e,hd,he,sd,se,q⟩:=h
 obtain⟨as,h1⟩:=I.reads hd rx
 obtain⟨bs,h2⟩:=I.reads he ry
 exact eq_dataH h1 h2 sd se hu (RB I q rfl)
theorem B4(hu:X.A.units+64<cLine):aS X (Bv .NotEq) (CS X.K):=by
 intro aa s σ H x y v u Q I rx ry h
 obtain⟨d,e,hd,he,sd,se,q⟩:=h
 obtain⟨as,h1⟩:=I.reads hd rx
 obtain⟨bs,h2⟩:=I.reads he ry
 exact ne_dataH h1 h2 sd se hu (RB I q rfl)
inductive SH:List Jj->List (Str×V)->Prop
 |nil:SH [] []
 |cons {e:Jj} {es:List Jj} {x:Str} {t:Tok} {v:V} {D:List (Str×V)}:e.key= .str x t->dP v e.val->SH es D->SH (e::es) ((x,v)::D)
def KTab(K:Ae)(a:Addr)(D:List (Str×V)):Prop:=
 (a==Gm)=false/\ ∃o es ep,K.lookup a=some o/\o.ExactDict/\o.data= .dict es ep/\SH es.toList D
theorem SH.rows{es:List Jj}{D:List (Str×V)}(h:SH es D):KTD.Rows dP es D:=by
 induction h with
 |nil=>exact .nil
 |cons h1 h2 _ ih=>exact .cons h1 h2 ih
theorem PR{A:Bo}{E:Value->Ab->Prop}{s:Ab}{K:Ae}{prog:Ar}{w:World}{a:Addr}{D:List (Str×V)}{k:Str}{tk:Tok}{Q:Option Value->Ab->Prop}(hK:K.In s.heap)(T:KTab K a D)
  (h1: ∀d v,Dv k D=some d->dP d v->Q (some v) {s with toks:=s.toks+1}) (h2:Dv k D=none->Q none {s with toks:=s.toks+1}):
  wpAny (model prog w) A (dictGet a (.str k tk)) Q E s:=by
 obtain⟨_,o,es,ep,ho,hc,hd,hr⟩:=T
 have ho:=hK _ _ ho
 have hr:=hr.rows
 unfold dictGet
 try with_reducible refine Bk ?_
 refine Aa (wpAny_pyHash_str (Aa (KTD.kt_dictFind_strs (s:={s with toks:=s.toks+1}) ho hd (by obtain⟨l⟩:=es;simpa using hr.exact) ?_)))
 have hq:Q (findBy (fun k v=>v.isStr k) es k) {s with toks:=s.toks+1}:=by
  have hf:findBy (fun k v=>v.isStr k) es k=(es.toList.find? fun e=>e.key.isStr k).map (·.val):=by
   obtain⟨l⟩:=es
   simp[findBy]
  rw[hf]
  cases hat:Dv k D with
  |some d=>obtain⟨v,hv,hfl⟩:=hr.find_some hat;rw[hv];exact h1 d v hat hfl
  |none=>rw[hr.find_none hat];exact h2 hat
 rw[findBy_of_findIdx?] at hq
 cases hi:es.findIdx? fun e=>e.key.isStr k with
 |none=>rw[hi] at hq;exact Af hq
 |some i=>rw[hi] at hq;exact Aa (wpAny_dictEntries (s:={s with toks:=s.toks+1}) ho hd (Af hq))
theorem E6:KR X (fun x y H Q=> ∃a k D v,x= .ref a/\y= .str k/\KTab X.K a D/\Dv k D=some v/\Q v H):=by
 intro value slice aa s σ H x y v u Q I rx ry h hs
 obtain⟨a,k,D,d,rfl,rfl,T,hk,q⟩:=h
 cases rx
 obtain⟨t,rfl⟩:=ry
 have hT:s.TypeIs (.ref a) "dict":=by
  obtain⟨_,o,es,ep,ho,hc,_⟩:=T
  exact⟨o,I.kIn _ _ ho,hc.1⟩
 have main:wpAny (model X.prog X.w) X.A (Ip (.ref a) (.str k t)) (EP X aa σ Q) X.xe s:=by
  unfold Ip
  try with_reducible refine Bk ?_
  refine Aa (Ib hT (by decide) ?_)
  refine Aa (Ce (name:=Fh "__getitem__") hT Hq
   (Dd Hq hT PySem.F.entry_dict_getitem ?_ (PySem.F.args_dict_getitem_2 _ _)))
  show wpAny _ _ (dictGet a (.str k t)>>=_) _ _ s
  exact Aa (PR I.kIn T (fun d' v' ha hv=>Af ⟨v',rfl,Af (by
   rw[hk] at ha;cases ha
   exact⟨d,H,I.tok _,hv,q⟩)⟩) fun hn=>by rw[hk] at hn;cases hn)
 exact Oh hT PySem.F.slot_dict_getitem.lookup main hs
end
section
variable{prog:Ar}{w:World}{A:Bo}{E:Value->Ab->Prop}{s:Ab}
theorem SW{it t:Addr}{ae:Array Value}(hne:t≠it): ∀(n i:Nat) (s:Ab) (Q:List Value->Ab->Prop),s.heap.IsListIter it t i->s.heap.IsList t ae->i+n<=ae.size→
  (∀h',h'.IsListIter it t (i+n)->Ed it s.heap h'->Q ((ae.toList.drop i).take n) {s with heap:=h'})->wpAny (model prog w) A (draw (.ref it) n) Q E s
 |0,i,s,Q,hit,_,_,hQ=>by
  show wpAny _ _ (pure []) Q E s
  exact Af (by simpa using hQ s.heap hit (Heap.SameBut.refl ..))
 |n+1,i,s,Q,hit,ht,hle,hQ=>by
  have hlt:i<ae.size:=by omega
  show wpAny _ _ (pyNext (.ref it)>>=_) Q E s
  refine Aa (Je hit ht (x:=ae[i]) (by simp[hlt]) fun h₁ hit₁ hs₁=> ?_)
  refine Aa (Bk (SW hne n (i+1) _ _ hit₁ (ht.extBut hs₁.extBut hne) (by omega) fun h₂ hit₂ hs₂=>Af ?_))
  have hd:ae.toList.drop i=ae[i]::ae.toList.drop (i+1):=by simp[Cz,hlt]
  have:=hQ h₂ (by rw[show i+(n+1)=i+1+n by omega];exact hit₂) (hs₁.trans hs₂)
  rw[hd,List.take_succ_cons] at this
  exact this
theorem WX{t:Addr}{ae:Array Value}{Q:List Value->Ab->Prop}(hh:A.handled=none)(ht:s.heap.IsList t ae)
  (hQ: ∀h',Gv s.heap.objs.size s.heap h'->Q ae.toList {s with heap:=h'}):wpAny (model prog w) A (Gw (.ref t) ae.size none) Q E s:=by
 have hlt:t≠s.heap.objs.size:=by obtain⟨o,ho,_⟩:=ht;exact Au (Ag ho)
 unfold Gw
 refine Aa ?_
 ·unfold Iz
  refine Aa (Jr ht.typeIs PySem.F.slot_list_iter.lookup ?_)
  refine Af ?_
  simp only[Fv,if_false]
  refine Aa (Bk (Dz ht ?_))
  have htp:(s.heap.push {cls:= .type "list_iterator",data:= .fields #[.ref t,.int 0 0]}).IsList t ae:=by
   obtain⟨o,ho,r⟩:=ht
   exact⟨o,Ad _ ho,r⟩
  refine Aa (Bk (SW hlt ae.size 0 _ _ ⟨_,Ap _ rfl,rfl,rfl⟩ htp (by omega) fun h₁ hit₁ hs₁=> ?_))
  have ip:List.take ae.size (List.drop 0 ae.toList)=ae.toList:=by rw[Kg];exact Dl (by simp)
  rw[ip]
  rw[if_neg (by simp)]
  have ht₁:h₁.IsList t ae:=htp.extBut hs₁.extBut hlt
  refine Aa (Bk (Jl hh hit₁ ht₁ (by simp) fun h₂ he₂=> ?_))
  simp only[Option.isSome_none,Fv,if_false]
  refine Af (hQ h₂ fun b o hb e=>he₂ b o hb (hs₁.extBut b o hb (Ad _ e)))
theorem W3{env:Env}{gy:List Expr}{x1}{pos:Pos}{t:Addr}{ae:Array Value}{Q:Unit->Ab->Prop}(hh:A.handled=none)(ht:s.heap.IsList t ae)
  (hn:(assignEach gy env).length=ae.size) (k8:(assignEach gy env).findIdx? (·.1)=none)
  (h: ∀h',Gv s.heap.objs.size s.heap h'->wpAny (model prog w) A (assignInOrder ((assignEach gy env).map (·.2)) ae.toList) Q E {s with heap:=h'}):
  wpAny (model prog w) A (Fe (.Tuple gy x1 pos) env (.ref t)) Q E s:=by
 rw[Lz]
 refine Aa (Ds ?_)
 unfold unpack
 rw[hn,k8]
 exact Aa (Bk (WX hh ht h))
end
section
variable{X:Cx}{pos:Pos}
def gLst(K:Ae)(n:Nat)(t:K0):TG:=fun v σ H Q=> ∃a xs,v= .ref a/\aT K H a xs/\xs.length=n/\t xs σ H Q
theorem CB{es:List Expr}{k:Nat}{t:K0}{n:Nat}(hc:X.calm=true)(h:MN X es t)
  (hn:(assignEach es X.env).length=n:=by rfl) (hst:(assignEach es X.env).findIdx? (·.1)=none:=by rfl):PG X (.Tuple es k pos) (gLst X.K n t):=by
 intro aa s σ H v u Q I r hw
 obtain⟨a,xs,e1,hq,hl,hw⟩:=hw
 subst e1
 cases r
 obtain⟨its,rv,ht,hz⟩:=I.list hq
 refine W3 (I.ok.hd hc) ht.isList (by simp[hn,<- hl,rv.length]) hst fun h' hx=> ?_
 have I1:eF X aa σ H {s with heap:=h'}:=I.kept (t':=s.toks) fun b o e=>hx b o (Au (Ag e)) e
 exact h aa _ σ H xs _ Q I1 (by simpa using rv) hw
def FnAt(X:Cx)(f:Addr)(sp:Sp):Prop:= ∃(k:Nat) (fd:Ch) (ps:List Str),cQ X.prog X.w X.K X.mg X.base CX0 k f fd ps sp/\b7 k X.A/\Fq X.K (.ref f)=true/\YJ X.K fd ps []
def C4(X:Cx)(tf:TE)(t:TA):TE:=fun σ H Q=>tf σ H fun x H1=> ∃f sp,x= .ref f/\FnAt X f sp/\t σ H1 fun vs H2=>sp vs H2 Q E0
end
section
variable{X:Cx}{K:Ae}
theorem A8(h:X.K=K):cI X (.type "tuple") (fun xs H Q=> ∃p ys,xs=[.ref p]/\((aT K H p ys/\ ∀l,H l=none->Q (.ref l) (cL H l (.tup ys)))∨(YW K H p ys/\Q (.ref p) H))):=by subst h;exact T8
theorem kEqD(h:X.K=K)(hu:X.A.units+64<cLine):aS X (Bv .Eq) (CN K):=by subst h;exact B0 hu
theorem YZ(h:X.K=K)(hu:X.A.units+64<cLine):aS X (Bv .NotEq) (CS K):=by subst h;exact B4 hu
theorem zBL(h:X.K=K){es:List Expr}{k:Nat}{t:K0}{n:Nat}{pos:Pos}(hc:X.calm=true)(hg:MN X es t)(hn:(assignEach es X.env).length=n:=by rfl)(hst:(assignEach es X.env).findIdx? (·.1)=none:=by rfl):PG X (.Tuple es k pos) (gTup K n t):=by subst h;exact CC hc hg hn hst
theorem zBM(h:X.K=K){es:List Expr}{k:Nat}{t:K0}{n:Nat}{pos:Pos}(hc:X.calm=true)(hg:MN X es t)(hn:(assignEach es X.env).length=n:=by rfl)(hst:(assignEach es X.env).findIdx? (·.1)=none:=by rfl):PG X (.Tuple es k pos) (gLst K n t):=by subst h;exact CB hc hg hn hst
theorem BD(h:X.K=K){tg l:Expr}{tl:TE}(hl:PE X l tl):PI X tg l (DW K tl):=by subst h;exact FZ hl
theorem zBK(h:X.K=K){tg l:Expr}{tl:TE}(hl:PE X l tl):PI X tg l (iTup K tl):=by subst h;exact CF hl
theorem kBm(h:X.K=K){o e:Expr}{es:List Expr}{to:TE}{t:TA}{name:Str}{ak af:Pos}{T id:String}{r:V->List V->Hp->VK->Prop}(pa:PlainAttrs T)(slot:Slot T name id)(hty:Lx (.builtin id)=pure (.type "method_descriptor")) (hm:MtR X id r) (ho:PE X o to) (ha:PA X (e::es) t)
  (ax : Ex o name X.env (eval o X.env) = eval o X.env := by rfl)
  (cf : ((Cu af (starEach (e :: es) X.env)).all (fun x => !x.1) && (Gj af (Eg [] X.env)).all (fun x => x.1.isSome)
   && decide ((e::es).length+([]:List Gb).length+(if([]:List Gb).isEmpty then 0 else 1)<30))=true:=by rfl)
  (aw:(ak.endLine==af.line)=true:=by rfl) (hs:starEach (e::es) X.env=(false,eval e X.env)::starEach es X.env:=by rfl) (ao:(Cu af (starEach es X.env)).any (·.1)=false:=by rfl):
  PE X (.Call (.Attribute o name ak) (e::es) [] af) (tBM K T r to t):=by
 subst h;exact zB3 pa slot hty hm ho ha ax cf aw hs ao
end
theorem G8:Bj "len"=some (.builtin "len"):=by decide+kernel
theorem AK:Bj "min"=some (.builtin "min"):=by decide+kernel
theorem dX:Bj "isinstance"=some (.builtin "isinstance"):=by decide+kernel
theorem cF:Bj "tuple"=some (.type "tuple"):=by decide+kernel
theorem EU:Bj "bool"=some (.type "bool"):=by decide+kernel
theorem NW:Bj "int"=some (.type "int"):=by decide+kernel
theorem ZU:Bj "str"=some (.type "str"):=by decide+kernel
structure DN(P:Ar)(w:World)(K:Ae)(mg:Str->Option Value)(base:Heap)(x:Str)(k:Nat)(ps:List Str)(sp:Sp)(f:Addr):Prop where
 at_:mg x=some (.ref f)
 ok: ∃fd,cQ P w K mg base CX0 k f fd ps sp/\YJ K fd ps []
 kp:Fq K (.ref f)=true
section
variable{X:Cx}{x:Str}{k j:Nat}{ps:List Str}{sp:Sp}{f:Addr}{p pos:Pos}{e:Expr}{es:List Expr}{t:TA}
theorem IG(D:DN X.prog X.w X.K X.mg X.base x k ps sp f)(hr:b7 j X.A)(hk:k<=j)(hg:Gl X x)(ha:PA X (e::es) t)(hdb:(x==("__debug__":Str))=false:=by decide)
  (he:starEach (e::es) X.env=(false,eval e X.env)::starEach es X.env:=by rfl) (hpl:(Cu pos (starEach es X.env)).any (·.1)=false:=by rfl):
  PE X (.Call (.Name x p) (e::es) [] pos) (NJ sp [] E0 t):=by
 obtain⟨fd,F,B⟩:=D.ok
 exact FT F (hr.mono hk) hg D.at_ D.kp B .nil D0 ha hdb he hpl
theorem DN.fnAt(D:DN X.prog X.w X.K X.mg X.base x k ps sp f)(hr:b7 j X.A)(hk:k<=j):FnAt X f sp:=by
 obtain⟨fd,F,B⟩:=D.ok
 exact⟨k,fd,ps,F,hr.mono hk,D.kp,B⟩
end
theorem eL{H:Hp}{p:Addr}{o:HO}(hp:H p=none):cM H (cL H p o):=fun b o' e=>by
 rw[dQ (bD e hp)]
 exact e
theorem QC(ns:List Int):Df (.list (ns.map Ll))=true:=by
 have h1:Hr (.list (ns.map Ll))=true:=by simp only[Hr,canLayAll_ints]
 have h2:Js (.list (ns.map Ll))<=64:=by
  simp only[Js,depthAll_ints]
  decide
 unfold Df
 rw[h1,decide_eq_true h2]
 rfl
inductive eN where
 |non|bl (b:Bool)|int (i:Int)|str (x:Str)|ty (n:String)|fn (x:Str)|tup (ds:List eN)|lst (ds:List eN)|dct (ks:List Z0) (ds:List eN)|exn (x:Str)
def FzL(K:Ae)(H:Hp)(a:Addr)(xs:List V):Prop:=
 (∃o,H a=some (.frz o (.lst xs)))∨
  ∃(o:Obj) (its:Array Value) (n:Nat),K.lookup a=some o/\o.cls= .type "list" /\o.dict=none/\o.data= .seq its n/\its.size<=sizeLine/\dG xs its.toList
theorem FzL.sq{K:Ae}{H:Hp}{a:Addr}{xs:List V}(h:FzL K H a xs):aT K H a xs:=by
 rcases h with⟨o,h⟩|h
 ·exact .inl (.inr ⟨o,h⟩)
 ·exact .inr h
def ML(h:Heap)(a C:Addr):Prop:= ∃o vs,h.get? a=some o/\o.cls= .ref C/\o.data= .fields vs
mutual
inductive dH(K:Ae)(N:Addr->Prop)(H:Hp):(Addr->Prop)->V->eN->Prop
 |non {M:Addr->Prop}:dH K N H M .non .non
 |bl {M:Addr->Prop} (b:Bool):dH K N H M (.bl b) (.bl b)
 |int {M:Addr->Prop} (i:Int):dH K N H M (.int i) (.int i)
 |str {M:Addr->Prop} (x:Str):dH K N H M (.str x) (.str x)
 |ty {M:Addr->Prop} (n:String):dH K N H M (.ty n) (.ty n)
 |fn {M:Addr->Prop} {a:Addr} {x:Str}:Ep K mainGlobals x=some (some (.ref a))->dH K N H M (.ref a) (.fn x)
 |tup {M:Addr->Prop} {a:Addr} {xs:List V} {ds:List eN}:YW K H a xs->d8 K N H xs ds->dH K N H M (.ref a) (.tup ds)
 |lst {M:Addr->Prop} {a:Addr} {xs:List V} {ds:List eN}:H a=some (.lst xs)-> ¬M a->d8 K N H xs ds->dH K N H M (.ref a) (.lst ds)
 |fzl {M:Addr->Prop} {a:Addr} {xs:List V} {ds:List eN}:FzL K H a xs->d8 K N H xs ds->dH K N H M (.ref a) (.lst ds)
 |dct {M:Addr->Prop} {a:Addr} {kvs:List (Z0×V)} {ds:List eN}:H a=some (.dK kvs)-> ¬M a->d8 K N H (kvs.map Iq) ds->dH K N H M (.ref a) (.dct (kvs.map Mr) ds)
 |ktb {M:Addr->Prop} {a:Addr} {D:List (Str×V)} {ds:List eN}:KTab K a D->d8 K N H (D.map Iq) ds->dH K N H M (.ref a) (.dct (D.map fun p=> .inr p.1) ds)
 |exn {M:Addr->Prop} {a C:Addr} {x:Str} {φ:Heap->Prop}:Ep K mainGlobals x=some (some (.ref C))->H a=some (.ext φ)->(∀h,φ h->ML h a C)->dH K N H M (.ref a) (.exn x)
inductive d8(K:Ae)(N:Addr->Prop)(H:Hp):List V->List eN->Prop
 |nil:d8 K N H [] []
 |cons {v:V} {vs:List V} {d:eN} {ds:List eN}:dH K N H N v d->d8 K N H vs ds->d8 K N H (v::vs) (d::ds)
end
def Hard:HO->Prop
 | .tup _=>True
 | .frz _ _=>True
 | .ext _=>True
 |_=>False
def Fr(P:Addr->Prop)(H H':Hp):Prop:= ∀b o,H b=some o->(P b->Hard o)->H' b=some o
theorem Fr.refl(P:Addr->Prop)(H:Hp):Fr P H H:=fun _ _ h _=>h
theorem Fr.trans{P:Addr->Prop}{H H1 H2:Hp}(a:Fr P H H1)(b:Fr P H1 H2):Fr P H H2:=fun c o h n=>b c o (a c o h n) n
theorem Fr.mono{P P':Addr->Prop}{H H':Hp}(a:Fr P H H')(h: ∀b,P b->P' b):Fr P' H H':=fun c o e n=>a c o e fun z=>n (h c z)
theorem cM.fr{P:Addr->Prop}{H H':Hp}(a:cM H H'):Fr P H H':=fun c o h _=>a c o h
section
variable{K:Ae}{N N' M M' P:Addr->Prop}{H H':Hp}
theorem Fr.tup(f:Fr P H H'){a:Addr}{xs:List V}(h:YW K H a xs):YW K H' a xs:=by
 rcases h with(h|⟨o,h⟩)|h
 ·exact .inl (.inl (f _ _ h fun _=>trivial))
 ·exact .inl (.inr ⟨o,f _ _ h fun _=>trivial⟩)
 ·exact .inr h
theorem Fr.fzl(f:Fr P H H'){a:Addr}{xs:List V}(h:FzL K H a xs):FzL K H' a xs:=by
 rcases h with⟨o,h⟩|h
 ·exact .inl ⟨o,f _ _ h fun _=>trivial⟩
 ·exact .inr h
mutual
theorem dH.fr(f:Fr P H H')(hN: ∀a,P a->N a): ∀{M:Addr->Prop} {v:V} {d:eN},(∀a,P a->M a)->dH K N H M v d->dH K N H' M v d
 |_,_,_,_,.non=> .non
 |_,_,_,_,.bl b=> .bl b
 |_,_,_,_,.int i=> .int i
 |_,_,_,_,.str x=> .str x
 |_,_,_,_,.ty n=> .ty n
 |_,_,_,_,.fn h=> .fn h
 |_,_,_,_,.tup q r=> .tup (f.tup q) (d8.fr f hN r)
 |_,_,_,hM,.lst q n r=> .lst (f _ _ q fun z=>absurd (hM _ z) n) n (d8.fr f hN r)
 |_,_,_,_,.fzl q r=> .fzl (f.fzl q) (d8.fr f hN r)
 |_,_,_,hM,.dct q n r=> .dct (f _ _ q fun z=>absurd (hM _ z) n) n (d8.fr f hN r)
 |_,_,_,_,.ktb q r=> .ktb q (d8.fr f hN r)
 |_,_,_,_,.exn p q r=> .exn p (f _ _ q fun _=>trivial) r
theorem d8.fr(f:Fr P H H')(hN: ∀a,P a->N a): ∀{vs:List V} {ds:List eN},d8 K N H vs ds->d8 K N H' vs ds
 |_,_,.nil=> .nil
 |_,_,.cons h t=> .cons (dH.fr f hN hN h) (d8.fr f hN t)
end
mutual
theorem dH.mono(hN: ∀a,N' a->N a): ∀{M M':Addr->Prop} {v:V} {d:eN},(∀a,M' a->M a)->dH K N H M v d->dH K N' H M' v d
 |_,_,_,_,_,.non=> .non
 |_,_,_,_,_,.bl b=> .bl b
 |_,_,_,_,_,.int i=> .int i
 |_,_,_,_,_,.str x=> .str x
 |_,_,_,_,_,.ty n=> .ty n
 |_,_,_,_,_,.fn h=> .fn h
 |_,_,_,_,_,.tup q r=> .tup q (d8.mono hN r)
 |_,_,_,_,hM,.lst q n r=> .lst q (fun z=>n (hM _ z)) (d8.mono hN r)
 |_,_,_,_,_,.fzl q r=> .fzl q (d8.mono hN r)
 |_,_,_,_,hM,.dct q n r=> .dct q (fun z=>n (hM _ z)) (d8.mono hN r)
 |_,_,_,_,_,.ktb q r=> .ktb q (d8.mono hN r)
 |_,_,_,_,_,.exn p q r=> .exn p q r
theorem d8.mono(hN: ∀a,N' a->N a): ∀{vs:List V} {ds:List eN},d8 K N H vs ds->d8 K N' H vs ds
 |_,_,.nil=> .nil
 |_,_,.cons h t=> .cons (dH.mono hN hN h) (d8.mono hN t)
end
theorem dH.same(f:cM H H'){v:V}{d:eN}(h:dH K N H M v d):dH K N H' M v d:=h.fr f.fr (fun _ z=>z.elim) (P:=fun _=>False) fun _ z=>z.elim
theorem d8.same(f:cM H H'){vs:List V}{ds:List eN}(h:d8 K N H vs ds):d8 K N H' vs ds:=h.fr f.fr (P:=fun _=>False) fun _ z=>z.elim
theorem d8.length: ∀{vs:List V} {ds:List eN},d8 K N H vs ds->vs.length=ds.length
 |_,_,.nil=>rfl
 |_,_,.cons _ t=>congrArg (· +1) (d8.length t)
theorem d8.append: ∀{vs ws:List V} {ds es:List eN},d8 K N H vs ds->d8 K N H ws es->d8 K N H (vs++ws) (ds++es)
 |_,_,_,_,.nil,s=>s
 |_,_,_,_,.cons h t,s=> .cons h (d8.append t s)
theorem d8.get: ∀{vs:List V} {ds:List eN} {i:Nat} {d:eN},d8 K N H vs ds->ds[i]? =some d-> ∃v,vs[i]? =some v/\dH K N H N v d
 |_,_,_,_,.nil,e=>by simp at e
 |_,_,0,_,.cons r _,e=>by simp at e;subst e;exact⟨_,rfl,r⟩
 |_,_,i+1,x,.cons _ t,e=>by
  obtain⟨u,h1,h2⟩:=d8.get (i:=i) (d:=x) t (by simpa using e)
  exact⟨u,by simpa using h1,h2⟩
theorem d8.take: ∀{vs:List V} {ds:List eN} (n:Nat),d8 K N H vs ds->d8 K N H (vs.take n) (ds.take n)
 |_,_,0,_=> .nil
 |_,_,_+1,.nil=> .nil
 |_,_,n+1,.cons r t=> .cons r (d8.take n t)
theorem d8.drop: ∀{vs:List V} {ds:List eN} (n:Nat),d8 K N H vs ds->d8 K N H (vs.drop n) (ds.drop n)
 |_,_,0,r=>r
 |_,_,_+1,.nil=> .nil
 |_,_,n+1,.cons _ t=>d8.drop n t
theorem d8.snoc{vs:List V}{ds:List eN}{v:V}{d:eN}(r:d8 K N H vs ds)(h:dH K N H N v d):d8 K N H (vs++[v]) (ds++[d]):=r.append (.cons h .nil)
end
mutual
def eN.isD:eN->Bool
 | .non=>true
 | .bl _=>true
 | .int _=>true
 | .str _=>true
 | .ty _=>false
 | .fn _=>false
 | .tup ds=>PP ds
 | .lst ds=>PP ds
 | .dct _ _=>false
 | .exn _=>false
def PP:List eN->Bool
 |[]=>true
 |d::ds=>d.isD && PP ds
end
mutual
def eN.pd:eN->Kf
 | .non=> .none
 | .bl b=> .bool b
 | .int i=> .int i
 | .str x=> .str x
 | .ty _=> .none
 | .fn _=> .none
 | .tup ds=> .tuple (D1 ds)
 | .lst ds=> .list (D1 ds)
 | .dct _ _=> .none
 | .exn _=> .none
def D1:List eN->List Kf
 |[]=>[]
 |d::ds=>d.pd::D1 ds
end
mutual
def eN.hard:eN->Bool
 | .tup ds=>UX ds
 | .lst _=>false
 | .dct _ _=>false
 |_=>true
def UX:List eN->Bool
 |[]=>true
 |d::ds=>d.hard && UX ds
end
section
variable{K:Ae}{N:Addr->Prop}{H:Hp}
mutual
theorem dH.dp: ∀{M:Addr->Prop} {v:V} {d:eN},dH K N H M v d->d.isD=true->Dp K H v d.pd
 |_,_,_,.non,_=> .non
 |_,_,_,.bl b,_=> .bl b
 |_,_,_,.int i,_=> .int i
 |_,_,_,.str x,_=> .str x
 |_,_,_,.ty n,h=>by simp[eN.isD] at h
 |_,_,_,.fn _,h=>by simp[eN.isD] at h
 |_,_,_,.tup q r,h=> .tup q (d8.dp r (by simpa[eN.isD] using h))
 |_,_,_,.lst q n r,h=> .lst (aT.of q) (d8.dp r (by simpa[eN.isD] using h))
 |_,_,_,.fzl q r,h=> .lst q.sq (d8.dp r (by simpa[eN.isD] using h))
 |_,_,_,.dct _ _ _,h=>by simp[eN.isD] at h
 |_,_,_,.ktb _ _,h=>by simp[eN.isD] at h
 |_,_,_,.exn _ _ _,h=>by simp[eN.isD] at h
theorem d8.dp: ∀{vs:List V} {ds:List eN},d8 K N H vs ds->PP ds=true->UK K H vs (D1 ds)
 |_,_,.nil,_=> .nil
 |_,_,.cons h t,e=> .cons (dH.dp h (by simp[PP] at e;exact e.1)) (d8.dp t (by simp[PP] at e;exact e.2))
end
mutual
theorem dH.hard{N':Addr->Prop}: ∀{M M':Addr->Prop} {v:V} {d:eN},dH K N H M v d->d.hard=true->dH K N' H M' v d
 |_,_,_,_,.non,_=> .non
 |_,_,_,_,.bl b,_=> .bl b
 |_,_,_,_,.int i,_=> .int i
 |_,_,_,_,.str x,_=> .str x
 |_,_,_,_,.ty n,h=> .ty n
 |_,_,_,_,.fn q,h=> .fn q
 |_,_,_,_,.tup q r,h=> .tup q (d8.hard r (by simpa[eN.hard] using h))
 |_,_,_,_,.lst q n r,h=>by simp[eN.hard] at h
 |_,_,_,_,.fzl q r,h=>by simp[eN.hard] at h
 |_,_,_,_,.dct _ _ _,h=>by simp[eN.hard] at h
 |_,_,_,_,.ktb _ _,h=>by simp[eN.hard] at h
 |_,_,_,_,.exn p q r,_=> .exn p q r
theorem d8.hard{N':Addr->Prop}: ∀{vs:List V} {ds:List eN},d8 K N H vs ds->UX ds=true->d8 K N' H vs ds
 |_,_,.nil,_=> .nil
 |_,_,.cons h t,e=> .cons (dH.hard h (by simp[UX] at e;exact e.1)) (d8.hard t (by simp[UX] at e;exact e.2))
end
end
inductive Sl where
 |no|va (d:eN)|ow (d:eN)
abbrev Ev:=List Sl
structure Bs where
 Z:Addr->Prop
 P:Addr->Prop
 H0:Hp
 mu:Nat->Option Addr
 kp:List (V×eN)
def Nn(B:Bs)(O:Nat->Option Addr):Addr->Prop:=fun a=>B.Z a∨ ∃i,O i=some a
def OA(O:Nat->Option Addr):Addr->Prop:=fun a=> ∃i,O i=some a
inductive UL(K:Ae)(N:Addr->Prop)(H:Hp)(a:Addr):eN->Prop
 |lst {xs:List V} {ds:List eN}:H a=some (.lst xs)->d8 K N H xs ds->UL K N H a (.lst ds)
 |dct {kvs:List (Z0×V)} {ds:List eN}:H a=some (.dK kvs)->d8 K N H (kvs.map Iq) ds->UL K N H a (.dct (kvs.map Mr) ds)
theorem UL.fr{K:Ae}{N P:Addr->Prop}{H H':Hp}{a:Addr}{d:eN}(f:Fr P H H')(hN: ∀a,P a->N a)(ha: ¬P a):UL K N H a d->UL K N H' a d
 | .lst q r=> .lst (f _ _ q fun z=>absurd z ha) (r.fr f hN)
 | .dct q r=> .dct (f _ _ q fun z=>absurd z ha) (r.fr f hN)
theorem UL.mono{K:Ae}{N N':Addr->Prop}{H:Hp}{a:Addr}{d:eN}(h: ∀b,N' b->N b):UL K N H a d->UL K N' H a d
 | .lst q r=> .lst q (r.mono h)
 | .dct q r=> .dct q (r.mono h)
theorem UL.soft{K:Ae}{N:Addr->Prop}{H:Hp}{a:Addr}{d:eN}(h:UL K N H a d): ∃o,H a=some o/\¬Hard o:=by
 cases h with
 |lst q _=>exact⟨_,q,fun z=>z⟩
 |dct q _=>exact⟨_,q,fun z=>z⟩
theorem UL.rep{K:Ae}{N M:Addr->Prop}{H:Hp}{a:Addr}{d:eN}(h:UL K N H a d)(hM: ¬M a):dH K N H M (.ref a) d:=by
 cases h with
 |lst q r=>exact .lst q hM r
 |dct q r=>exact .dct q hM r
structure cX(K:Ae)(ml:List Nat)(B:Bs)(O:Nat->Option Addr)(H:Hp)(σ:St)(δ:Ev):Prop where
 len:σ.length=δ.length
 va: ∀(i:Nat) (d:eN),δ[i]? =some (Sl.va d)-> ∃v,σ[i]? =some (some v)/\dH K (Nn B O) H (Nn B O) v d
 ow: ∀(i:Nat) (d:eN),δ[i]? =some (Sl.ow d)-> ∃a,O i=some a/\σ[i]? =some (some (.ref a))/\UL K (Nn B O) H a d
 dom: ∀(i:Nat) a,O i=some a-> ∃d,δ[i]? =some (Sl.ow d)
 inj: ∀i j a,O i=some a->O j=some a->i=j
 old: ∀i a,O i=some a-> ¬B.Z a/\(B.P a∨B.H0 a=none)
 zin: ∀a,B.Z a-> ∃o,H a=some o
 frm:Fr B.P B.H0 H
 par:(∀i a,B.mu i=some a->i∈ml)/\ ∀i∈ml,O i=B.mu i
 pin: ∀a,B.P a-> ∃o,H a=some o
 kep: ∀p∈B.kp,dH K (Nn B O) H (Nn B O) p.1 p.2
section
variable{K:Ae}{ml:List Nat}{B:Bs}{O:Nat->Option Addr}{H H':Hp}{σ:St}{δ δ':Ev}
theorem cX.nin(S:cX K ml B O H σ δ){a:Addr}(h:Nn B O a): ∃o,H a=some o:=by
 rcases h with h|⟨i,h⟩
 ·exact S.zin a h
 ·obtain⟨d,e⟩:=S.dom i a h
  obtain⟨a',e1,_,w⟩:=S.ow i d e
  rw[h] at e1
  cases e1
  obtain⟨o,q,_⟩:=w.soft
  exact⟨o,q⟩
theorem cX.new(S:cX K ml B O H σ δ){a:Addr}(h:H a=none): ¬Nn B O a:=fun z=>by
 obtain⟨o,q⟩:=S.nin z
 rw[h] at q
 cases q
theorem cX.same(S:cX K ml B O H σ δ)(f:cM H H'):cX K ml B O H' σ δ where
 len:=S.len
 va:=fun i d e=>let ⟨v,a,b⟩:=S.va i d e;⟨v,a,b.same f⟩
 ow:=fun i d e=>let ⟨a,b,c,w⟩:=S.ow i d e;⟨a,b,c,w.fr (P:=fun _=>False) f.fr (fun _ z=>z.elim) fun z=>z⟩
 dom:=S.dom
 inj:=S.inj
 old:=S.old
 zin:=fun a h=>let ⟨o,q⟩:=S.zin a h;⟨o,f _ _ q⟩
 frm:=S.frm.trans f.fr
 par:=S.par
 pin:=fun a h=>let ⟨o,q⟩:=S.pin a h;⟨o,f _ _ q⟩
 kep:=fun p h=>(S.kep p h).same f
theorem cX.fresh(S:cX K ml B O H σ δ){a:Addr}(h:H a=none):B.H0 a=none:=by
 cases q:B.H0 a with
 | none => rfl
 |some o=>
  by_cases hp:B.P a
  ·obtain⟨o',e⟩:=S.pin a hp
   rw[h] at e
   cases e
  ·have := S.frm a o q fun z => absurd z hp
   rw[h] at this
   cases this
def Bs.add(B:Bs)(p:Addr):Bs:={B with Z:=fun a=>B.Z a∨a=p}
theorem WN{p:Addr}: ∀a,Nn B O a->Nn (B.add p) O a:=fun a h=>by
 rcases h with h|h
 ·exact .inl (.inl h)
 ·exact .inr h
mutual
theorem dH.away{p:Addr}(hp:H p=none)(N N':Addr->Prop)(hN: ∀a,N' a->N a∨a=p): ∀{M M':Addr->Prop} {v:V} {d:eN},(∀a,M' a->M a∨a=p)->dH K N H M v d->dH K N' H M' v d
 |_,_,_,_,_,.non=> .non
 |_,_,_,_,_,.bl b=> .bl b
 |_,_,_,_,_,.int i=> .int i
 |_,_,_,_,_,.str x=> .str x
 |_,_,_,_,_,.ty n=> .ty n
 |_,_,_,_,_,.fn h=> .fn h
 |_,_,_,_,_,.tup q r=> .tup q (d8.away hp N N' hN r)
 |_,_,_,_,hM,.lst q n r=> .lst q (fun z=>by rcases hM _ z with z|z;exact n z;rw[z,hp] at q;cases q) (d8.away hp N N' hN r)
 |_,_,_,_,_,.fzl q r=> .fzl q (d8.away hp N N' hN r)
 |_,_,_,_,hM,.dct q n r=> .dct q (fun z=>by rcases hM _ z with z|z;exact n z;rw[z,hp] at q;cases q) (d8.away hp N N' hN r)
 |_,_,_,_,_,.ktb q r=> .ktb q (d8.away hp N N' hN r)
 |_,_,_,_,_,.exn p q r=> .exn p q r
theorem d8.away{p:Addr}(hp:H p=none)(N N':Addr->Prop)(hN: ∀a,N' a->N a∨a=p): ∀{vs:List V} {ds:List eN},d8 K N H vs ds->d8 K N' H vs ds
 |_,_,.nil=> .nil
 |_,_,.cons h t=> .cons (dH.away hp N N' hN hN h) (d8.away hp N N' hN t)
end
theorem ZB{p:Addr}: ∀a,Nn (B.add p) O a->Nn B O a∨a=p:=fun a h=>by
 rcases h with(h|h)|h
 ·exact .inl (.inl h)
 ·exact .inr h
 ·exact .inl (.inr h)
theorem cX.laid(S:cX K ml B O H σ δ){p:Addr}{o:HO}(hp:H p=none):cX K ml (B.add p) O (cL H p o) σ δ where
 len:=S.len
 va:=fun i d e=>let ⟨v,a,b⟩:=S.va i d e;⟨v,a,(b.away hp _ _ ZB ZB).same (eL hp)⟩
 ow:=fun i d e=>by
  obtain⟨a,b,c,w⟩:=S.ow i d e
  refine⟨a,b,c,?_⟩
  have hne: ∀o,H a=some o->cL H p o=cL H p o:=fun _ _=>rfl
  cases w with
  |lst q r=>exact .lst (eL hp _ _ q) ((r.away hp _ _ ZB).same (eL hp))
  |dct q r=>exact .dct (eL hp _ _ q) ((r.away hp _ _ ZB).same (eL hp))
 dom:=S.dom
 inj:=S.inj
 old:=fun i a h=>by
  refine⟨fun z=> ?_,(S.old i a h).2⟩
  rcases z with z|z
  ·exact(S.old i a h).1 z
  ·obtain⟨o,q⟩:=S.nin (.inr ⟨i,h⟩)
   rw[z,hp] at q
   cases q
 zin:=fun a h=>by
  rcases h with h|h
  ·obtain⟨o,q⟩:=S.zin a h
   exact⟨o,eL hp _ _ q⟩
  ·exact⟨_,by rw[h];exact dZ⟩
 frm:=S.frm.trans (eL hp).fr
 par:=S.par
 pin:=fun a h=>let ⟨o,q⟩:=S.pin a h;⟨o,eL hp _ _ q⟩
 kep:=fun p h=>((S.kep p h).away hp _ _ ZB ZB).same (eL hp)
theorem XD{i:Nat}{o:Option Addr}: ∀a,Nn B (fun j=>if j=i then none else O j) a->Nn B O a:=fun a h=>by
 rcases h with h|⟨j,h⟩
 ·exact .inl h
 ·refine .inr ⟨j,?_⟩
  by_cases hj:j=i
  ·simp[hj] at h
  ·simpa[hj] using h
theorem YH{α:Type}{l:List α}{i j:Nat}{x y:α}(h:(l.set i x)[j]? =some y):(j=i/\y=x/\i<l.length)∨(j≠i/\l[j]? =some y):=by
 by_cases hj:j=i
 ·subst hj
  rw[List.getElem?_set_self'] at h
  cases q:l[j]? with
  |none=>rw[q] at h;cases h
  |some z=>
   rw[q] at h
   cases h
   exact .inl ⟨rfl,rfl,(Ah.mp q).1⟩
 ·rw[Az (Fn hj)] at h
  exact .inr ⟨hj,h⟩
theorem cX.setVa(S:cX K ml B O H σ δ){i:Nat}{v:V}{d:eN}(hm:i∉ml)(h:dH K (Nn B O) H (Nn B O) v d):cX K ml B (fun j=>if j=i then none else O j) H (σ.set i (some v)) (δ.set i (.va d)) where
 len:=by rw[Db,Db,S.len]
 va:=fun j e q=>by
  rcases YH q with⟨rfl,z,hl⟩|⟨hj,q⟩
  ·cases z
   exact⟨v,by rw[By (by rw[S.len];exact hl)],h.mono (XD (o:=none)) (XD (o:=none))⟩
  ·obtain⟨u,e1,r⟩:=S.va j e q
   exact⟨u,by rw[Az (Fn hj)];exact e1,r.mono (XD (o:=none)) (XD (o:=none))⟩
 ow:=fun j e q=>by
  rcases YH q with⟨rfl,z,hl⟩|⟨hj,q⟩
  ·cases z
  ·obtain⟨a,e1,e2,w⟩:=S.ow j e q
   exact⟨a,by simpa[hj] using e1,by rw[Az (Fn hj)];exact e2,w.mono (XD (o:=none))⟩
 dom:=fun j a e=>by
  by_cases hj:j=i
  ·simp[hj] at e
  ·obtain ⟨d,q⟩ := S.dom j a (by simpa [hj] using e)
   exact⟨d,by rw[Az (Fn hj)];exact q⟩
 inj:=fun j k a e1 e2=>by
  by_cases hj:j=i
  ·simp[hj] at e1
  ·by_cases hk:k=i
   ·simp[hk] at e2
   ·exact S.inj j k a (by simpa[hj] using e1) (by simpa[hk] using e2)
 old:=fun j a e=>by
  by_cases hj:j=i
  ·simp[hj] at e
  ·exact S.old j a (by simpa[hj] using e)
 zin:=S.zin
 frm:=S.frm
 par:=⟨S.par.1,fun j hj=>by
  have hne:j≠i:=fun z=>hm (z▸hj)
  have h2:O j=B.mu j:=S.par.2 j hj
  simpa[hne] using h2⟩
 pin:=S.pin
 kep:=fun p hp=>(S.kep p hp).mono (XD (o:=none)) (XD (o:=none))
theorem WP{i:Nat}{p:Addr}: ∀a,Nn B (fun j=>if j=i then some p else O j) a->Nn (B.add p) O a:=fun a h=>by
 rcases h with h|⟨j,h⟩
 ·exact .inl (.inl h)
 ·by_cases hj:j=i
  ·simp[hj] at h
   exact .inl (.inr h.symm)
  ·exact .inr ⟨j,by simpa[hj] using h⟩
theorem cX.setOw{p:Addr}(S:cX K ml (B.add p) O H σ δ){i:Nat}{d:eN}(hm:i∉ml)(hl:i<δ.length)(hz: ¬B.Z p)(h0:B.H0 p=none)(h:UL K (Nn (B.add p) O) H p d):
  cX K ml B (fun j=>if j=i then some p else O j) H (σ.set i (some (.ref p))) (δ.set i (.ow d)) where
 len:=by rw[Db,Db,S.len]
 va := fun j e q => by
  rcases YH q with⟨rfl,z,_⟩|⟨hj,q⟩
  ·cases z
  ·obtain⟨u,e1,r⟩:=S.va j e q
   exact⟨u,by rw[Az (Fn hj)];exact e1,r.mono WP WP⟩
 ow := fun j e q => by
  rcases YH q with⟨rfl,z,hl⟩|⟨hj,q⟩
  ·cases z
   exact⟨p,by simp,by rw[By (by rw[S.len];exact hl)],h.mono WP⟩
  ·obtain⟨a,e1,e2,w⟩:=S.ow j e q
   exact⟨a,by simpa[hj] using e1,by rw[Az (Fn hj)];exact e2,w.mono WP⟩
 dom:=fun j a e=>by
  by_cases hj:j=i
  ·subst hj
   exact⟨d,by rw[By hl]⟩
  ·obtain ⟨d,q⟩ := S.dom j a (by simpa [hj] using e)
   exact⟨d,by rw[Az (Fn hj)];exact q⟩
 inj:=fun j k a e1 e2=>by
  by_cases hj:j=i
  ·by_cases hk:k=i
   ·rw[hj,hk]
   ·simp[hj] at e1
    simp[hk] at e2
    exact absurd (.inr e1.symm) (S.old k a e2).1
  ·by_cases hk:k=i
   ·simp[hk] at e2
    simp[hj] at e1
    exact absurd (.inr e2.symm) (S.old j a e1).1
   ·exact S.inj j k a (by simpa[hj] using e1) (by simpa[hk] using e2)
 old:=fun j a e=>by
  by_cases hj:j=i
  ·simp[hj] at e
   subst e
   exact⟨hz,.inr h0⟩
  ·have := S.old j a (by simpa [hj] using e)
   exact⟨fun z=>this.1 (.inl z),this.2⟩
 zin:=fun a h=>S.zin a (.inl h)
 frm:=S.frm
 par:=⟨S.par.1,fun j hj=>by
  have hne:j≠i:=fun z=>hm (z▸hj)
  have h2:O j=B.mu j:=S.par.2 j hj
  simpa[hne] using h2⟩
 pin:=S.pin
 kep:=fun p hp=>(S.kep p hp).mono WP WP
theorem cX.wrote(S:cX K ml B O H σ δ){i:Nat}{a:Addr}{d:eN}{o:HO}(e:O i=some a)(ho: ¬Hard o)(h:UL K (Nn B O) (cL H a o) a d):cX K ml B O (cL H a o) σ (δ.set i (.ow d)):=by
 have hf:Fr (fun b=>b=a) H (cL H a o):=fun b u q n=>by
  by_cases hb:b=a
  ·subst hb
   obtain⟨d',q'⟩:=S.dom i b e
   obtain⟨a',e1,_,w⟩:=S.ow i d' q'
   rw[e] at e1
   cases e1
   obtain⟨u',q1,hh⟩:=w.soft
   rw[q] at q1
   cases q1
   exact absurd (n rfl) hh
  ·rw[dQ hb]
   exact q
 have hN: ∀b,b=a->Nn B O b:=fun b z=> .inr ⟨i,z▸e⟩
 have hin: ∀b,(∃u,H b=some u)-> ∃u,cL H a o b=some u:=fun b q0=>by
  obtain⟨u,q⟩:=q0
  by_cases hb:b=a
  ·exact ⟨o,by rw [hb];exact dZ⟩
  ·exact ⟨u,by rw [dQ hb];exact q⟩
 refine⟨by rw[Db,S.len],fun j d' q=> ?_,fun j d' q=> ?_,fun j b q=> ?_,S.inj,S.old,fun b h=>hin b (S.zin b h),?_,S.par,fun b h=>hin b (S.pin b h),fun p hp=>(S.kep p hp).fr hf hN hN⟩
 ·rcases YH q with⟨_,z,_⟩|⟨hj,q⟩
  ·cases z
  ·obtain⟨v,e1,r⟩:=S.va j d' q
   exact⟨v,e1,r.fr hf hN hN⟩
 ·rcases YH q with⟨rfl,z,hl⟩|⟨hj,q⟩
  ·cases z
   obtain⟨d0,q0⟩:=S.dom j a e
   obtain⟨a',e1,e2,_⟩:=S.ow j d0 q0
   rw[e] at e1
   cases e1
   exact⟨a,e,e2,h⟩
  ·obtain⟨a',e1,e2,w⟩:=S.ow j d' q
   exact⟨a',e1,e2,w.fr hf hN fun z=>hj (S.inj j i a (z▸e1) e)⟩
 ·by_cases hj:j=i
  ·subst hj
   obtain⟨d0,q0⟩:=S.dom j b q
   exact⟨d,by rw[By (Ah.mp q0).1]⟩
  ·obtain⟨d0,q0⟩:=S.dom j b q
   exact⟨d0,by rw[Az (Fn hj)];exact q0⟩
 ·intro b u q n
  have h1:=S.frm b u q n
  by_cases hb:b=a
  ·subst hb
   rcases(S.old i b e).2 with z|z
   ·obtain⟨d',q'⟩:=S.dom i b e
    obtain⟨a',e1,_,w⟩:=S.ow i d' q'
    rw[e] at e1
    cases e1
    obtain⟨u',q1,hh⟩:=w.soft
    rw[h1] at q1
    cases q1
    exact absurd (n z) hh
   ·rw[q] at z
    cases z
  ·rw[dQ hb]
   exact h1
theorem cX.keepV(S:cX K ml B O H σ δ){ps:List (V×eN)}(h: ∀p∈ps,dH K (Nn B O) H (Nn B O) p.1 p.2):cX K ml {B with kp:=ps++B.kp} O H σ δ:=
 ⟨S.len,S.va,S.ow,S.dom,S.inj,S.old,S.zin,S.frm,S.par,S.pin,fun p hp=>(El.mp hp).elim (h p) (S.kep p)⟩
theorem cX.unkeep{ps:List (V×eN)}(S:cX K ml {B with kp:=ps++B.kp} O H σ δ):cX K ml B O H σ δ:=
 ⟨S.len,S.va,S.ow,S.dom,S.inj,S.old,S.zin,S.frm,S.par,S.pin,fun p hp=>S.kep p (Am _ hp)⟩
end
def rz(B:Bs):Addr->Prop:=fun a=>B.Z a∨ ∃i,B.mu i=some a
def av(B:Bs)(O:Nat->Option Addr)(b:Bool):Addr->Prop:=if b then Nn B O else fun a=>Nn B O a/\rz B a
def at_(B:Bs)(O:Nat->Option Addr)(b:Bool):Addr->Prop:=if b then Nn B O else fun _=>False
theorem DQ{B:Bs}{O:Nat->Option Addr}{b:Bool}: ∀a,at_ B O b a->av B O b a:=fun a h=>by
 cases b with
 |true=>exact h
 |false=>exact h.elim
theorem ES{B:Bs}{O:Nat->Option Addr}{b c:Bool}(h:b=true->c=true): ∀a,at_ B O b a->at_ B O c a:=fun a z=>by
 cases b with
 |true=>rw[h rfl];exact z
 |false=>exact z.elim
theorem cX.rzn{K:Ae}{ml:List Nat}{B:Bs}{O:Nat->Option Addr}{H:Hp}{σ:St}{δ:Ev}(S:cX K ml B O H σ δ): ∀a,rz B a->Nn B O a:=fun a h=>by
 rcases h with h|⟨i,h⟩
 ·exact .inl h
 ·exact .inr ⟨i,(S.par.2 i (S.par.1 i a h)).trans h⟩
theorem cX.rza{K:Ae}{ml:List Nat}{B:Bs}{O:Nat->Option Addr}{H:Hp}{σ:St}{δ:Ev}(S:cX K ml B O H σ δ){b:Bool}: ∀a,rz B a->av B O b a:=fun a h=>by
 cases b with
 |true=>exact S.rzn a h
 |false=>exact⟨S.rzn a h,h⟩
theorem VT{B:Bs}{O:Nat->Option Addr}{b c:Bool}(h:b=true->c=true): ∀a,av B O b a->av B O c a:=fun a z=>by
 cases b with
 |true=>rw[h rfl];exact z
 |false=>cases c with
  |true=>exact z.1
  |false=>exact z
structure GQ(K:Ae)(ml:List Nat)(B:Bs)(O:Nat->Option Addr)(H:Hp)(σ:St)(pu bt bi:Bool)(H':Hp)(δ':Ev)(v:V)(d:eN):Prop where
 sta:cX K ml B O H' σ δ'
 frm:Fr (OA O) H H'
 pur:pu=true->cM H H'
 rep:dH K (av B O bi) H' (at_ B O bt) v d
abbrev VF:=Ev->Option (eN×Ev)
def TV(K:Ae)(ml:List Nat)(pu bt bi:Bool)(f:VF):TE:=fun σ H Q=> ∃B O δ d δ',cX K ml B O H σ δ/\f δ=some (d,δ')/\ ∀v H',GQ K ml B O H σ pu bt bi H' δ' v d->Q v H'
theorem PE.imp{X:Cx}{e:Expr}{t u:TE}(h:PE X e t)(k: ∀σ H Q,u σ H Q->t σ H Q):PE X e u:=fun aa s σ H Q I w=>h aa s σ H Q I (k σ H Q w)
theorem PT.imp{X:Cx}{e:Expr}{t u:TT}(h:PT X e t)(k: ∀σ H Q,u σ H Q->t σ H Q):PT X e u:=fun aa s σ H Q I w=>h aa s σ H Q I (k σ H Q w)
theorem PW.imp{X:Cx}{e:Expr}{t u:TT}(h:PW X e t)(k: ∀σ H Q,u σ H Q->t σ H Q):PW X e u:=fun bo aa s σ H Q I w=>h bo aa s σ H Q I (k σ H Q w)
theorem PA.imp{X:Cx}{e:List Expr}{t u:TA}(h:PA X e t)(k: ∀σ H Q,u σ H Q->t σ H Q):PA X e u:=fun pos aa s σ H Q I w=>h pos aa s σ H Q I (k σ H Q w)
theorem PS.imp{X:Cx}{e:Stmt}{t u:TS}(h:PS X e t)(k: ∀D σ H,u D σ H->t D σ H):PS X e u:=fun aa s σ H D I w=>h aa s σ H D I (k D σ H w)
theorem ZQ.imp{X:Cx}{e:List Stmt}{t u:TS}(h:ZQ X e t)(k: ∀D σ H,u D σ H->t D σ H):ZQ X e u:=fun aa s σ H D I w=>h aa s σ H D I (k D σ H w)
section
variable{X:Cx}{K:Ae}{ml:List Nat}{e a b c:Expr}{pa ta ia pb tb ib pc tc ic:Bool}{fa fb fc:VF}{r:R2}{o:eN->eN->Option eN}{B:Bs}{O:Nat->Option Addr}{H H1 H':Hp}{σ:St}{δ δ':Ev}{v:V}{d:eN}
noncomputable def fC(d:eN):VF:=fun δ=>some (d,δ)
theorem GQ.refl{pu bt bi:Bool}(S:cX K ml B O H σ δ)(h:dH K (av B O bi) H (at_ B O bt) v d):GQ K ml B O H σ pu bt bi H δ v d:=⟨S,Fr.refl _ _,fun _=>cM.refl _,h⟩
theorem MF(h:PE X e (tC v))(hr: ∀N H M,dH K N H M v d):PE X e (TV K ml true true true (fC d)):=h.imp fun σ H Q q0=>by
 obtain⟨B,O,δ,d',δ',S,q,k⟩:=q0
 cases q
 exact k v H (GQ.refl S (hr _ _ _))
theorem eC{i j pos}:PE X (.Constant (.int i) j pos) (TV K ml true true true (fC (.int i))):=MF B7 fun _ _ _=> .int i
theorem b4{i j pos}:PE X (.Constant (.bool i) j pos) (TV K ml true true true (fC (.bl i))):=MF zB4 fun _ _ _=> .bl i
theorem bE{j pos}:PE X (.Constant .none j pos) (TV K ml true true true (fC .non)):=MF B8 fun _ _ _=> .non
theorem dI{i j pos}:PE X (.Constant (.str i) j pos) (TV K ml true true true (fC (.str i))):=MF IQ fun _ _ _=> .str i
noncomputable def fV(i:Nat):VF:=fun δ=>match δ[i]? with
 |some (.va d)=>some (d,δ)
 |_=>none
noncomputable def fO(i:Nat):VF:=fun δ=>match δ[i]? with
 |some (.va d)=>some (d,δ)
 |some (.ow d)=>some (d,δ)
 |_=>none
theorem DF{i:Nat}(h:PE X e (OS i)):PE X e (TV K ml true true true (fV i)):=h.imp fun σ H Q q0=>by
 obtain⟨B,O,δ,d',δ',S,q,k⟩:=q0
 unfold fV at q
 split at q
 ·rename_i d hd
  cases q
  obtain⟨v,e1,r⟩:=S.va i _ hd
  exact⟨v,e1,k v H (GQ.refl S r)⟩
 ·cases q
theorem DE{i:Nat}(h:PE X e (OS i)):PE X e (TV K ml true false true (fO i)):=h.imp fun σ H Q q0=>by
 obtain⟨B,O,δ,d',δ',S,q,k⟩:=q0
 unfold fO at q
 split at q
 ·rename_i d hd
  cases q
  obtain⟨v,e1,r⟩:=S.va i _ hd
  exact⟨v,e1,k v H (GQ.refl S (r.mono (fun _ z=>z) fun a z=>z.elim))⟩
 ·rename_i d hd
  cases q
  obtain⟨a,e1,e2,w⟩:=S.ow i _ hd
  exact⟨.ref a,e2,k _ H (GQ.refl S (w.rep fun z=>z))⟩
 ·cases q
theorem GQ.live{H2:Hp}{v2:V}{d2:eN}(R2:GQ K ml B O H1 σ pb tb ib H2 δ' v2 d2)(hs:(pb || (ta && ia))=true)(h:dH K (av B O ia) H1 (at_ B O ta) v d):dH K (av B O ia) H2 (at_ B O ta) v d:=by
 cases pb with
 |true=>exact h.same (R2.pur rfl)
 |false=>
  have hs:(ta && ia)=true:=by simpa using hs
  obtain⟨h1,h2⟩:=(Ac _ _).mp hs
  subst h1 h2
  exact h.fr R2.frm (fun a z=> .inr z) fun a z=> .inr z
noncomputable def f2(o:eN->eN->Option eN)(fa fb:VF):VF:=fun δ=>(fa δ).bind fun p=>(fb p.2).bind fun q=>(o p.1 q.1).map fun c=>(c,q.2)
theorem YO{δ2:Ev}(h:f2 o fa fb δ=some (d,δ2)): ∃x δ1 y,fa δ=some (x,δ1)/\fb δ1=some (y,δ2)/\o x y=some d:=by
 unfold f2 at h
 cases h1:fa δ with
 | none => rw [h1] at h;cases h
 |some p=>
  rw[h1] at h
  cases h2:fb p.2 with
  | none => simp [h2] at h
  |some q=>
   simp only[Ak,h2] at h
   cases h3:o p.1 q.1 with
   |none=>rw[h3] at h;cases h
   |some c=>
    rw[h3] at h
    cases h
    exact⟨p.1,p.2,q.1,rfl,h2,h3⟩
def V6(K:Ae)(r:R2)(o:eN->eN->Option eN):Prop:= ∀(H:Hp) (N N' M M':Addr->Prop) (x y:V) (d e c:eN) (Q:VK),dH K N H M x d->dH K N' H M' y e->o d e=some c->(∀v,(∀H' N M,dH K N H' M v c)->Q v H)->r x y H Q
def OpC(K:Ae)(r:R2)(o:eN->eN->Option eN):Prop:= ∀(H:Hp) (N M M':Addr->Prop) (x y:V) (d e c:eN) (Q:VK),dH K N H M x d->dH K N H M' y e->o d e=some c→
 (∀v H',cM H H'->(∀M,(∀a,M a-> ∃o,H a=some o)->dH K N H' M v c)->Q v H')->r x y H Q
def OpI(K:Ae)(r:R2)(o:eN->eN->Option eN):Prop:= ∀(H:Hp) (N N' M M':Addr->Prop) (x y:V) (d e c:eN) (Q:VK),dH K N H M x d->dH K N' H M' y e->o d e=some c->(∀v,dH K N H N v c->Q v H)->r x y H Q
theorem OV(ho:V6 K r o)(hs:(pb || (ta && ia))=true){Q:VK}(h:TV K ml (pa && pb) true true (f2 o fa fb) σ H Q):C6 r (TV K ml pa ta ia fa) (TV K ml pb tb ib fb) σ H Q:=by
 obtain⟨B,O,δ,d,δ2,S,q,k⟩:=h
 obtain⟨x,δ1,y,h1,h2,h3⟩:=YO q
 refine⟨B,O,δ,x,δ1,S,h1,fun v1 H1 R1=>⟨B,O,δ1,y,δ2,R1.sta,h2,fun v2 H2 R2=> ?_⟩⟩
 exact ho H2 _ _ _ _ v1 v2 x y d Q (R2.live hs R1.rep) R2.rep h3 fun v hv=>k v H2 ⟨R2.sta,R1.frm.trans R2.frm,fun z=>by
  obtain⟨z1,z2⟩:=(Ac _ _).mp z
  exact(R1.pur z1).trans (R2.pur z2),hv _ _ _⟩
theorem C8(ho:OpC K r o)(hs:(pb || (ta && ia))=true){Q:VK}(h:TV K ml (pa && pb) true (ia && ib) (f2 o fa fb) σ H Q):C6 r (TV K ml pa ta ia fa) (TV K ml pb tb ib fb) σ H Q:=by
 obtain⟨B,O,δ,d,δ2,S,q,k⟩:=h
 obtain⟨x,δ1,y,h1,h2,h3⟩:=YO q
 refine⟨B,O,δ,x,δ1,S,h1,fun v1 H1 R1=>⟨B,O,δ1,y,δ2,R1.sta,h2,fun v2 H2 R2=> ?_⟩⟩
 have g1: ∀a,av B O (ia && ib) a->av B O ia a:=VT fun z=>((Ac _ _).mp z).1
 have g2: ∀a,av B O (ia && ib) a->av B O ib a:=VT fun z=>((Ac _ _).mp z).2
 refine ho H2 (av B O (ia && ib)) _ _ v1 v2 x y d Q ((R2.live hs R1.rep).mono g1 fun _ z=>z) (R2.rep.mono g2 fun _ z=>z) h3 fun v H3 s3 hv=>k v H3 ⟨R2.sta.same s3,(R1.frm.trans R2.frm).trans s3.fr,fun z=> ?_,hv _ fun a z=>R2.sta.nin z⟩
 obtain⟨z1,z2⟩:=(Ac _ _).mp z
 exact((R1.pur z1).trans (R2.pur z2)).trans s3
theorem C9(ho:OpI K r o)(hs:(pb || (ta && ia))=true){Q:VK}(h:TV K ml (pa && pb) ia ia (f2 o fa fb) σ H Q):C6 r (TV K ml pa ta ia fa) (TV K ml pb tb ib fb) σ H Q:=by
 obtain⟨B,O,δ,d,δ2,S,q,k⟩:=h
 obtain⟨x,δ1,y,h1,h2,h3⟩:=YO q
 refine⟨B,O,δ,x,δ1,S,h1,fun v1 H1 R1=>⟨B,O,δ1,y,δ2,R1.sta,h2,fun v2 H2 R2=> ?_⟩⟩
 exact ho H2 _ _ _ _ v1 v2 x y d Q (R2.live hs R1.rep) R2.rep h3 fun v hv=>k v H2 ⟨R2.sta,R1.frm.trans R2.frm,fun z=>by
  obtain⟨z1,z2⟩:=(Ac _ _).mp z
  exact(R1.pur z1).trans (R2.pur z2),hv.mono (fun _ z=>z) DQ⟩
theorem YU{op:Operator}{pos:Pos}(ho:aS X (Dq op) r)(hv:V6 K r o)(ha:PE X a (TV K ml pa ta ia fa))(hb:PE X b (TV K ml pb tb ib fb))(hs:(pb || (ta && ia))=true:=by rfl):PE X (.BinOp a op b pos) (TV K ml (pa && pb) true true (f2 o fa fb)):=
 (D2 ho ha hb).imp fun _ _ _ h=>OV hv hs h
theorem cC{op:Operator}{pos:Pos}(ho:aS X (Dq op) r)(hv:OpC K r o)(ha:PE X a (TV K ml pa ta ia fa))(hb:PE X b (TV K ml pb tb ib fb))(hs:(pb || (ta && ia))=true:=by rfl):PE X (.BinOp a op b pos) (TV K ml (pa && pb) true (ia && ib) (f2 o fa fb)):=
 (D2 ho ha hb).imp fun _ _ _ h=>C8 hv hs h
theorem R6{op:CmpOp}{pos:Pos}(ho:aS X (Bv op) r)(hv:V6 K r o)(ha:PE X a (TV K ml pa ta ia fa))(hb:PE X b (TV K ml pb tb ib fb))(hm:Fp op b=false)(hs:(pb || (ta && ia))=true:=by rfl):PE X (.Compare a [op] [b] pos) (TV K ml (pa && pb) true true (f2 o fa fb)):=
 (FU ho ha hb hm).imp fun _ _ _ h=>OV hv hs h
theorem zA3{pos:Pos}(ho:KR X r)(hv:OpI K r o)(ha:PE X a (TV K ml pa ta ia fa))(hb:PE X b (TV K ml pb tb ib fb))(hx:QU b)(hs:(pb || (ta && ia))=true:=by rfl):PE X (.Subscript a b pos) (TV K ml (pa && pb) ia ia (f2 o fa fb)):=
 (zB2 ho ha hb hx).imp fun _ _ _ h=>C9 hv hs h
noncomputable def oI(C:Int->Int->Bool)(g:Int->Int->eN):eN->eN->Option eN
 | .int i,.int j=>if C i j=true then some (g i j) else none
 |_,_=>none
theorem HX{C:Int->Int->Bool}{g:Int->Int->eN}{d e c:eN}(h:oI C g d e=some c): ∃i j,d= .int i/\e= .int j/\C i j=true/\c=g i j:=by
 unfold oI at h
 split at h
 ·split at h
  ·rename_i hc
   cases h
   exact⟨_,_,rfl,rfl,hc,rfl⟩
  ·cases h
 ·cases h
theorem NE{C:Int->Int->Prop}{C':Int->Int->Bool}{g:Int->Int->V}{g':Int->Int->eN}(hC: ∀i j,C' i j=true->C i j)(hg: ∀i j N H M,dH K N H M (g i j) (g' i j)):V6 K (rI C g) (oI C' g'):=by
 intro H N N' M M' x y d e c Q hx hy h k
 obtain⟨i,j,rfl,rfl,hc,rfl⟩:=HX h
 cases hx
 cases hy
 exact⟨_,_,rfl,rfl,hC _ _ hc,k _ fun _ _ _=>hg ..⟩
theorem RO{g:Int->Int->V}{g':Int->Int->eN}(hg: ∀i j N H M,dH K N H M (g i j) (g' i j)):V6 K (NH g) (oI (fun _ _=>true) g'):=by
 intro H N N' M M' x y d e c Q hx hy h k
 obtain⟨i,j,rfl,rfl,hc,rfl⟩:=HX h
 cases hx
 cases hy
 exact⟨_,_,rfl,rfl,k _ fun _ _ _=>hg ..⟩
noncomputable def EW(i j:Int):Bool:=(decide (-18446744073709551616<i) && decide (i<18446744073709551616)) || (decide (-18446744073709551616<j) && decide (j<18446744073709551616))
noncomputable def EV(i j:Int):Bool:=decide (0<j) && decide (j<1073741824)
noncomputable def AM(i j:Int):Bool:=decide (0<=j) && decide (j<=1000000) && decide (i.natAbs<18446744073709551616)
noncomputable abbrev BG:=oI (fun _ _=>true) fun i j=> .int (i - j)
noncomputable abbrev oMul:=oI EW fun i j=> .int (i*j)
noncomputable abbrev M8:=oI EV fun i j=> .int (i/j)
noncomputable abbrev OG:=oI (fun _ j=>decide (0<j)) fun i j=> .int (i % j)
noncomputable abbrev oPow:=oI AM fun i j=> .int (i ^ j.toNat)
noncomputable abbrev oLt:=oI (fun _ _=>true) fun i j=> .bl (decide (i<j))
noncomputable abbrev oLe:=oI (fun _ _=>true) fun i j=> .bl (decide (i<=j))
noncomputable abbrev oGt:=oI (fun _ _=>true) fun i j=> .bl (decide (j<i))
theorem EE:V6 K (NH fun i j=> .int (i - j)) BG:=RO fun i j _ _ _=> .int _
theorem zAK:V6 K (rI KN fun i j=> .int (i*j)) oMul:=NE (fun i j h=>by
 have p:(2:Int) ^ 64=18446744073709551616:=by decide
 unfold KN
 rw[p]
 simpa[EW] using h) fun i j _ _ _=> .int _
theorem JK:V6 K (rI CDiv fun i j=> .int (i/j)) M8:=NE (fun i j h=>by show 0<j/\j<1073741824;simpa[EV] using h) fun i j _ _ _=> .int _
theorem TL:V6 K (rI (fun _ j=>0<j) fun i j=> .int (i % j)) OG:=NE (fun i j h=>by simpa using h) fun i j _ _ _=> .int _
theorem zAJ:V6 K (rI CPow fun i j=> .int (i ^ j.toNat)) oPow:=NE (fun i j h=>by
 have p:(2:Nat) ^ 64=18446744073709551616:=by decide
 unfold CPow
 rw[p]
 simpa[AM,and_assoc] using h) fun i j _ _ _=> .int _
theorem s_lt:V6 K (NH fun i j=> .bl (decide (i<j))) oLt:=RO fun i j _ _ _=> .bl _
theorem GA:V6 K (NH fun i j=> .bl (decide (i<=j))) oLe:=RO fun i j _ _ _=> .bl _
theorem s_gt:V6 K (NH fun i j=> .bl (decide (j<i))) oGt:=RO fun i j _ _ _=> .bl _
noncomputable def P2(d:eN):Bool:=d.isD && Df d.pd
noncomputable def eqD(d e:eN):Bool:=Go d.pd e.pd
noncomputable def RM(d e:eN):Option eN:=if(P2 d && P2 e)=true then some (.bl (eqD d e)) else none
noncomputable def XT(d e:eN):Option eN:=if(P2 d && P2 e)=true then some (.bl (!eqD d e)) else none
theorem s_eq:V6 K (CN K) RM:=by
 intro H N N' M M' x y d e c Q hx hy h k
 unfold RM at h
 split at h
 ·rename_i hh
  cases h
  simp only[P2,Ac] at hh
  exact⟨d.pd,e.pd,hx.dp hh.1.1,hy.dp hh.2.1,hh.1.2,hh.2.2,k _ fun _ _ _=> .bl _⟩
 ·cases h
theorem Y0:V6 K (CS K) XT:=by
 intro H N N' M M' x y d e c Q hx hy h k
 unfold XT at h
 split at h
 ·rename_i hh
  cases h
  simp only[P2,Ac] at hh
  exact⟨d.pd,e.pd,hx.dp hh.1.1,hy.dp hh.2.1,hh.1.2,hh.2.2,k _ fun _ _ _=> .bl _⟩
 ·cases h
noncomputable def isN:eN->Bool
 | .non=>true
 |_=>false
noncomputable def OF:eN->eN->Option eN
 |d,.non=>some (.bl (isN d))
 |_,_=>none
theorem F8{N M:Addr->Prop}(h:dH K N H M v d):decide (v=V.non)=isN d:=by
 cases h<;>simp[isN]
theorem zAP:V6 K (fun x y H Q=>y= .non/\Q (.bl (decide (x= .non))) H) OF:=by
  intro H N N' M M' x y d e c Q hx hy h k
  cases hy<;>first
    | (cases h
       refine⟨rfl,?_⟩
       rw[F8 hx]
       exact k _ fun _ _ _=> .bl _)
    |(simp[OF] at h)
noncomputable def a5:eN->Option (List eN)
 | .tup ds=>some ds
 | .lst ds=>some ds
 |_=>none
theorem dH.seq{N M:Addr->Prop}{ds:List eN}(h:dH K N H M v d)(e:a5 d=some ds): ∃a xs,v= .ref a/\(aT K H a xs∨YW K H a xs)/\d8 K N H xs ds:=by
 cases h<;>first
  |(cases e;rename_i q r;exact⟨_,_,rfl,.inr q,r⟩)
  |(cases e;rename_i q n r;exact⟨_,_,rfl,.inl (aT.of q),r⟩)
  |(cases e;rename_i q r;exact⟨_,_,rfl,.inl q.sq,r⟩)
  |cases e
theorem ER{N:Addr->Prop}{xs:List V}{ds:List eN}{i:Int}(r:d8 K N H xs ds)(h:QX ds i=some d): ∃v,QX xs i=some v/\dH K N H N v d:=by
 unfold QX at h⊢
 rw[r.length]
 cases hi:ixN ds.length i with
 |none=>rw[hi] at h;cases h
 |some j=>
  rw[hi] at h
  exact r.get h
end
section
variable{X:Cx}{K:Ae}{ml:List Nat}{e a b c:Expr}{es:List Expr}{pa ta ia pb tb ib pc tc ic pu bt bi ps bs:Bool}{fa fb fc:VF}{r r':R2}{o o':eN->eN->Option eN}{B:Bs}{O:Nat->Option Addr}{H H1 H':Hp}{σ:St}{δ δ':Ev}{v:V}{d:eN}{p:Addr}{pos:Pos}
theorem cX.unadd(S:cX K ml (B.add p) O H σ δ):cX K ml B O H σ δ where
 len:=S.len
 va:=fun i d e=>let ⟨v,a,b⟩:=S.va i d e;⟨v,a,b.mono WN WN⟩
 ow:=fun i d e=>let ⟨a,b,c,w⟩:=S.ow i d e;⟨a,b,c,w.mono WN⟩
 dom:=S.dom
 inj:=S.inj
 old:=fun i a h=>⟨fun z=>(S.old i a h).1 (.inl z),(S.old i a h).2⟩
 zin:=fun a h=>S.zin a (.inl h)
 frm:=S.frm
 par:=S.par
 pin:=S.pin
 kep:=fun p h=>(S.kep p h).mono WN WN
structure ResN(K:Ae)(ml:List Nat)(B:Bs)(O:Nat->Option Addr)(H:Hp)(σ:St)(pu:Bool)(H':Hp)(δ':Ev)(p:Addr)(d:eN):Prop where
 sta:cX K ml (B.add p) O H' σ δ'
 frm:Fr (OA O) H H'
 pur:pu=true->cM H H'
 own:UL K (Nn (B.add p) O) H' p d
 nz: ¬Nn B O p
 h0:B.H0 p=none
def TN(K:Ae)(ml:List Nat)(pu:Bool)(f:VF):TE:=fun σ H Q=> ∃B O δ d δ',cX K ml B O H σ δ/\f δ=some (d,δ')/\ ∀p H',ResN K ml B O H σ pu H' δ' p d->Q (.ref p) H'
theorem dU{f:VF}(h:PE X e (TN K ml pu f)):PE X e (TV K ml pu true true f):=h.imp fun σ H Q ⟨B,O,δ,d,δ',S,q,k⟩=>
 ⟨B,O,δ,d,δ',S,q,fun p H' R=>k _ H' ⟨R.sta.unadd,R.frm,R.pur,(R.own.mono WN).rep R.nz⟩⟩
theorem mkN{xs:List V}{ds:List eN}(S:cX K ml B O H1 σ δ')(f:Fr (OA O) H H1)(s:pu=true->cM H H1)(hp:H1 p=none)(r:d8 K (Nn B O) H1 xs ds):ResN K ml B O H σ pu (cL H1 p (.lst xs)) δ' p (.lst ds):=
 ⟨S.laid hp,f.trans (eL hp).fr,fun z=>(s z).trans (eL hp),.lst dZ ((r.away hp _ _ ZB).same (eL hp)),S.new hp,S.fresh hp⟩
abbrev VQ:=Ev->Option (List eN×Ev)
structure ResA(K:Ae)(ml:List Nat)(B:Bs)(O:Nat->Option Addr)(H:Hp)(σ:St)(pu b:Bool)(H':Hp)(δ':Ev)(vs:List V)(ds:List eN):Prop where
 sta:cX K ml B O H' σ δ'
 frm:Fr (OA O) H H'
 pur:pu=true->cM H H'
 rep:d8 K (av B O b) H' vs ds
def G2(K:Ae)(ml:List Nat)(pu b:Bool)(f:VQ):TA:=fun σ H Q=> ∃B O δ d δ',cX K ml B O H σ δ/\f δ=some (d,δ')/\ ∀vs H',ResA K ml B O H σ pu b H' δ' vs d->Q vs H'
noncomputable def cN:VQ:=fun δ=>some ([],δ)
noncomputable def eE(fa:VF)(fs:VQ):VQ:=fun δ=>(fa δ).bind fun p=>(fs p.2).map fun q=>(p.1::q.1,q.2)
theorem LG{fs:VQ}{ds:List eN}(h:eE fa fs δ=some (ds,δ')): ∃x δ1 xs,fa δ=some (x,δ1)/\fs δ1=some (xs,δ')/\ds=x::xs:=by
 unfold eE at h
 cases h1:fa δ with
 | none => rw [h1] at h;cases h
 |some p=>
  rw[h1] at h
  cases h2:fs p.2 with
  |none=>simp[h2] at h
  |some q=>
   simp only[Ak,h2] at h
   cases h
   exact⟨p.1,p.2,q.1,rfl,h2,rfl⟩
theorem dN:PA X [] (G2 K ml true true cN):=bR.imp fun σ H Q q0=>by
 obtain⟨B,O,δ,d,δ',S,q,k⟩:=q0
 cases q
 exact k [] H ⟨S,Fr.refl _ _,fun _=>cM.refl _,.nil⟩
theorem eI{fs:VQ}(ha:PE X a (TV K ml pa ta ia fa))(hr:PA X es (G2 K ml ps bs fs))(hs:starEach (a::es) X.env=(false,eval a X.env)::starEach es X.env:=by rfl)(hl:(ps || (ta && ia))=true:=by rfl)(ht:ta=true:=by rfl):
  PA X (a::es) (G2 K ml (pa && ps) (ta && ia && bs) (eE fa fs)):=(cT ha hr hs).imp fun σ H Q ⟨B,O,δ,d,δ2,S,q,k⟩=>by
 obtain⟨x,δ1,xs,h1,h2,rfl⟩:=LG q
 refine⟨B,O,δ,x,δ1,S,h1,fun v1 H1 R1=>⟨B,O,δ1,xs,δ2,R1.sta,h2,fun vs H2 R2=>k _ H2 ⟨R2.sta,R1.frm.trans R2.frm,fun z=> ?_,?_⟩⟩⟩
 ·obtain⟨z1,z2⟩:=(Ac _ _).mp z
  exact(R1.pur z1).trans (R2.pur z2)
 ·have g : ∀ c,((ta && ia && bs) = true -> c = true) -> ∀ a,av B O (ta && ia && bs) a -> av B O c a := fun c h => VT h
  have g1:=g ta fun z=>by simp only[Ac] at z;exact z.1.1
  have g2:=g ia fun z=>by simp only[Ac] at z;exact z.1.2
  have g3:=g bs fun z=>by simp only[Ac] at z;exact z.2
  refine .cons ?_ (R2.rep.mono g3)
  have h:dH K (av B O ia) H2 (at_ B O ta) v1 x:=by
   cases ps with
   |true=>exact R1.rep.same (R2.pur rfl)
   |false=>
    have hs:(ta && ia)=true:=by simpa using hl
    obtain⟨h1,h2⟩:=(Ac _ _).mp hs
    subst h1 h2
    exact R1.rep.fr R2.frm (fun a z=> .inr z) fun a z=> .inr z
  subst ht
  exact h.mono g2 g1
theorem cX.lone(S:cX K ml B O H σ δ){i:Nat}{x:eN}(hm:i∉ml)(h:fO i δ=some (x,δ')):δ'=δ/\ ∃v,σ[i]? =some (some v)/\dH K (av B O false) H (av B O false) v x:=by
 unfold fO at h
 split at h
 ·rename_i d hd
  cases h
  obtain⟨v,e1,r⟩:=S.va i _ hd
  exact⟨rfl,v,e1,r.mono (fun a z=>z.1) fun a z=>z.1⟩
 ·rename_i d hd
  cases h
  obtain⟨a,e1,e2,w⟩:=S.ow i _ hd
  refine⟨rfl,.ref a,e2,(w.mono fun a z=>z.1).rep fun z=> ?_⟩
  rcases z.2 with z|⟨j,z⟩
  ·exact(S.old i a e1).1 z
  ·have hj:=S.par.1 j a z
   have:i=j:=S.inj i j a e1 ((S.par.2 j hj).trans z)
   exact hm (this▸hj)
 ·cases h
noncomputable def aF(fs:VQ):VF:=fun δ=>(fs δ).bind fun p=>if p.1.length<=16777216 then some (.tup p.1,p.2) else none
noncomputable def aD(fs:VQ):VF:=fun δ=>(fs δ).bind fun p=>if p.1.length<=16777216 then some (.lst p.1,p.2) else none
theorem UQ{fs:VQ}{g:List eN->eN}(h:((fs δ).bind fun p=>if p.1.length<=16777216 then some (g p.1,p.2) else none)=some (d,δ')): ∃ds,fs δ=some (ds,δ')/\ds.length<=16777216/\d=g ds:=by
 cases h1:fs δ with
 | none => rw [h1] at h;cases h
 |some p=>
  rw[h1] at h
  have h:(if p.1.length<=16777216 then some (g p.1,p.2) else none)=some (d,δ'):=h
  split at h
  ·cases h
   exact⟨p.1,rfl,by assumption,rfl⟩
  ·cases h
theorem bT{x1}{fs:VQ}(h:PA X es (G2 K ml pu bs fs)):PE X (.Tuple es x1 pos) (TV K ml pu true bs (aF fs)):=(CA h).imp fun σ H Q q0=>by
 obtain⟨B,O,δ,d,δ',S,q,k⟩:=q0
 obtain⟨ds,h1,hl,rfl⟩:=UQ (g:=eN.tup) q
 refine⟨B,O,δ,ds,δ',S,h1,fun vs H1 R=>⟨by rw[R.rep.length,Bg];exact hl,fun p hp=>k _ _ ⟨R.sta.same (eL hp),R.frm.trans (eL hp).fr,fun z=>(R.pur z).trans (eL hp),.tup (YW.of dZ) (R.rep.same (eL hp))⟩⟩⟩
theorem DD{fs:VQ}(h:PA X es (G2 K ml pu bs fs)):PE X (.List es pos) (TV K ml pu true bs (aD fs)):=(IN h).imp fun σ H Q q0=>by
 obtain⟨B,O,δ,d,δ',S,q,k⟩:=q0
 obtain⟨ds,h1,hl,rfl⟩:=UQ (g:=eN.lst) q
 refine⟨B,O,δ,ds,δ',S,h1,fun vs H1 R=>⟨by rw[R.rep.length,Bg];exact hl,fun p hp=>k _ _ ⟨R.sta.same (eL hp),R.frm.trans (eL hp).fr,fun z=>(R.pur z).trans (eL hp),.lst dZ (R.sta.new hp) (R.rep.same (eL hp))⟩⟩⟩
theorem bZ{fs:VQ}(h:PA X es (G2 K ml pu true fs)):PE X (.List es pos) (TN K ml pu (aD fs)):=(IN h).imp fun σ H Q q0=>by
 obtain⟨B,O,δ,d,δ',S,q,k⟩:=q0
 obtain⟨ds,h1,hl,rfl⟩:=UQ (g:=eN.lst) q
 exact⟨B,O,δ,ds,δ',S,h1,fun vs H1 R=>⟨by rw[R.rep.length,Bg];exact hl,fun p hp=>k p _ (mkN R.sta R.frm R.pur hp R.rep)⟩⟩
abbrev VB:=Ev->Option (Bool×Ev)
structure KZ(K:Ae)(ml:List Nat)(B:Bs)(O:Nat->Option Addr)(H:Hp)(σ:St)(pu:Bool)(H':Hp)(δ':Ev):Prop where
 sta:cX K ml B O H' σ δ'
 frm:Fr (OA O) H H'
 pur:pu=true->cM H H'
def TB(K:Ae)(ml:List Nat)(pu:Bool)(f:VB):TT:=fun σ H Q=> ∃B O δ k δ',cX K ml B O H σ δ/\f δ=some (k,δ')/\ ∀H',KZ K ml B O H σ pu H' δ'->Q k H'
noncomputable def fB(f:VF):VB:=fun δ=>(f δ).bind fun p=>match p.1 with
 | .bl k=>some (k,p.2)
 |_=>none
theorem AR{f:VF}{k:Bool}(h:fB f δ=some (k,δ')):f δ=some (.bl k,δ'):=by
 unfold fB at h
 cases h1:f δ with
 | none => rw [h1] at h;cases h
 |some p=>
  obtain⟨x,δ1⟩:=p
  rw[h1] at h
  cases x<;>first
   |(cases h;rfl)
   |cases h
theorem RY{f:VF}{t:TE}(ht: ∀σ H Q,TV K ml pu bt bi f σ H Q->t σ H Q){Q:Bool->Hp->Prop}(h:TB K ml pu (fB f) σ H Q):t σ H fun x H'=> ∃k,x= .bl k/\Q k H':=by
 obtain⟨B,O,δ,k,δ',S,q,w⟩:=h
 refine ht σ H _ ⟨B,O,δ,.bl k,δ',S,AR q,fun v H' R=>⟨k,?_,w H' ⟨R.sta,R.frm,R.pur⟩⟩⟩
 cases R.rep
 rfl
theorem cO{op:CmpOp}(ho:aS X (Bv op) r)(hv:V6 K r o)(ha:PE X a (TV K ml pa ta ia fa))(hb:PE X b (TV K ml pb tb ib fb))(hm:Fp op b=false)(hs:(pb || (ta && ia))=true:=by rfl):PT X (.Compare a [op] [b] pos) (TB K ml (pa && pb) (fB (f2 o fa fb))):=
 (F3 ho ha hb hm).imp fun _ _ _ h=>RY (fun _ _ _=>OV hv hs) h
theorem dC{f:VF}(h:PE X e (TV K ml pu bt bi f))(he: ∀bo,isTrue e X.env bo=(do let v<- bo;Lg e.pos;holding [v] (truthy v)):=by intro _;rfl):PT X e (TB K ml pu (fB f)):=
 (CK h he).imp fun _ _ _ h=>RY (fun _ _ _ z=>z) h
noncomputable def QZ(x y:VB):VB:=fun δ=>(x δ).bind fun p=>if p.1=true then some (true,p.2) else y p.2
noncomputable def bW(x:VB):VB:=fun δ=>(x δ).map fun p=>(!p.1,p.2)
theorem KZ.refl(S:cX K ml B O H σ δ):KZ K ml B O H σ pu H δ:=⟨S,Fr.refl _ _,fun _=>cM.refl _⟩
theorem zA5{x y:VB}{Q:Bool->Hp->Prop}(h:TB K ml (pa && pb) (QZ x y) σ H Q):tOr (TB K ml pa x) (TB K ml pb y) σ H Q:=by
 obtain⟨B,O,δ,k,δ',S,q,w⟩:=h
 unfold QZ at q
 cases h1:x δ with
 | none => rw [h1] at q;cases q
 |some p=>
  obtain⟨kk,δ1⟩:=p
  rw[h1] at q
  refine⟨B,O,δ,kk,δ1,S,h1,fun H1 R1=> ?_⟩
  cases kk with
  |false=>
   have q:y δ1=some (k,δ'):=q
   exact UB ⟨B,O,δ1,k,δ',R1.sta,q,fun H2 R2=>w H2 ⟨R2.sta,R1.frm.trans R2.frm,fun z=>by
    obtain⟨z1,z2⟩:=(Ac _ _).mp z
    exact(R1.pur z1).trans (R2.pur z2)⟩⟩
  |true=>
   have q:some (true,δ1)=some (k,δ'):=q
   cases q
   exact UC (w H1 ⟨R1.sta,R1.frm,fun z=>R1.pur ((Ac _ _).mp z).1⟩)
theorem c9{x:VB}(h:PT X a (TB K ml pu x)):PT X (.UnaryOp .Not a pos) (TB K ml pu (bW x)):=(CJ h).imp fun σ H Q q0=>by
 obtain⟨B,O,δ,k,δ',S,q,w⟩:=q0
 unfold bW at q
 cases h1:x δ with
 |none=>rw[h1] at q;cases q
 |some p=>
  rw[h1] at q
  cases q
  exact⟨B,O,δ,p.1,p.2,S,h1,w⟩
theorem aV{x:VB}(h:PT X a (TB K ml pu x)):PW X (.BoolOp .Or [a] pos) (TB K ml pu x):=CL h
theorem Z8{x y:VB}(ha:PT X a (TB K ml pa x))(hb:PW X (.BoolOp .Or (b::es) pos) (TB K ml pb y)):PW X (.BoolOp .Or (a::b::es) pos) (TB K ml (pa && pb) (QZ x y)):=(zB0 ha hb).imp fun _ _ _ h=>zA5 h
theorem V5{x:VB}(h:PW X e (TB K ml pu x)):PT X e (TB K ml pu x):=h.pt
noncomputable def PK(x y:VF):VF:=fun δ=>(x δ).bind fun p=>match p.1 with
 | .bl true=>y p.2
 | .bl false=>some (.bl false,p.2)
 |_=>none
theorem R7{op}{f:VF}(h:PE X a (TV K ml pu bt bi f)):PE X (.BoolOp op [a] pos) (TV K ml pu bt bi f):=B9 h
theorem R0(ha:PE X a (TV K ml pa ta ia fa))(hb:PE X (.BoolOp .And (b::es) pos) (TV K ml pb tb ib fb)):PE X (.BoolOp .And (a::b::es) pos) (TV K ml (pa && pb) tb ib (PK fa fb)):=(B6 ha hb).imp fun σ H Q q0=>by
 obtain⟨B,O,δ,d,δ',S,q,k⟩:=q0
 unfold PK at q
 cases h1:fa δ with
 | none => rw [h1] at q;cases q
 |some p=>
  obtain⟨x,δ1⟩:=p
  rw[h1] at q
  refine⟨B,O,δ,x,δ1,S,h1,fun v1 H1 R1=> ?_⟩
  cases x with
  |bl kk=>
   have e1:v1= .bl kk:=by cases R1.rep;rfl
   refine⟨kk,e1,?_⟩
   cases kk with
   |true=>
    exact UC ⟨B,O,δ1,d,δ',R1.sta,q,fun v2 H2 R2=>k v2 H2 ⟨R2.sta,R1.frm.trans R2.frm,fun z=>by
     obtain⟨z1,z2⟩:=(Ac _ _).mp z
     exact(R1.pur z1).trans (R2.pur z2),R2.rep⟩⟩
   |false=>
    cases q
    exact UB (k _ H1 ⟨R1.sta,R1.frm,fun z=>R1.pur ((Ac _ _).mp z).1,.bl _⟩)
  |_=>cases q
noncomputable def DS(t:VB)(x y:VF):VF:=fun δ=>(t δ).bind fun p=>if p.1=true then x p.2 else y p.2
theorem QK{t:VB}(ht:PT X c (TB K ml pc t))(ha:PE X a (TV K ml pa ta ia fa))(hb:PE X b (TV K ml pb tb ib fb)):PE X (.IfExp c a b pos) (TV K ml (pc && pa && pb) (ta && tb) (ia && ib) (DS t fa fb)):=(P6 ht ha hb).imp fun σ H Q q0=>by
 obtain⟨B,O,δ,d,δ',S,q,k⟩:=q0
 unfold DS at q
 cases h1:t δ with
 | none => rw [h1] at q;cases q
 |some p=>
  obtain⟨kk,δ1⟩:=p
  rw[h1] at q
  refine⟨B,O,δ,kk,δ1,S,h1,fun H1 R1=> ?_⟩
  have g1: ∀c,((ta && tb)=true->c=true)-> ∀a,at_ B O (ta && tb) a->at_ B O c a:=fun c h=>ES h
  have g2: ∀c,((ia && ib)=true->c=true)-> ∀a,av B O (ia && ib) a->av B O c a:=fun c h=>VT h
  cases kk with
  |true=>
   exact UC ⟨B,O,δ1,d,δ',R1.sta,q,fun v2 H2 R2=>k v2 H2 ⟨R2.sta,R1.frm.trans R2.frm,fun z=>by
    simp only[Ac] at z
    exact(R1.pur z.1.1).trans (R2.pur z.1.2),R2.rep.mono (g2 _ fun z=>((Ac _ _).mp z).1) (g1 _ fun z=>((Ac _ _).mp z).1)⟩⟩
  |false=>
   exact UB ⟨B,O,δ1,d,δ',R1.sta,q,fun v2 H2 R2=>k v2 H2 ⟨R2.sta,R1.frm.trans R2.frm,fun z=>by
    simp only[Ac] at z
    exact(R1.pur z.1.1).trans (R2.pur z.2),R2.rep.mono (g2 _ fun z=>((Ac _ _).mp z).2) (g1 _ fun z=>((Ac _ _).mp z).2)⟩⟩
noncomputable def f3(o o':eN->eN->Option eN)(fa fb fc:VF):VF:=fun δ=>(fa δ).bind fun p=>(fb p.2).bind fun q=>(o p.1 q.1).bind fun z=>match z with
 | .bl true=>(fc q.2).bind fun s=>(o' q.1 s.1).map fun u=>(u,s.2)
 | .bl false=>some (.bl false,q.2)
 |_=>none
theorem QI(ho:V6 K r o)(ho':V6 K r' o')(hs:(pb || (ta && ia))=true)(hs':(pc || (tb && ib))=true){Q:VK}(h:TV K ml (pa && pb && pc) true true (f3 o o' fa fb fc) σ H Q):OR r r' (TV K ml pa ta ia fa) (TV K ml pb tb ib fb) (TV K ml pc tc ic fc) σ H Q:=by
 obtain⟨B,O,δ,d,δ3,S,q,k⟩:=h
 unfold f3 at q
 cases h1:fa δ with
 | none => rw [h1] at q;cases q
 |some p=>
  obtain⟨x,δ1⟩:=p
  rw[h1] at q
  cases h2:fb δ1 with
  | none => simp [h2] at q
  |some p2=>
   obtain⟨y,δ2⟩:=p2
   simp only[Ak,h2] at q
   refine⟨B,O,δ,x,δ1,S,h1,fun v1 H1 R1=>⟨B,O,δ1,y,δ2,R1.sta,h2,fun v2 H2 R2=> ?_⟩⟩
   cases h3:o x y with
   | none => rw [h3] at q;cases q
   |some z=>
    rw[h3] at q
    refine ho H2 _ _ _ _ v1 v2 x y z _ (R2.live hs R1.rep) R2.rep h3 fun v hv=> ?_
    have hv := hv (fun _ => none) (fun _ => True) fun _ => True
    cases z with
    |bl kk=>
     have e1:v= .bl kk:=by cases hv;rfl
     refine⟨kk,e1,?_⟩
     cases kk with
     |false=>
      cases q
      exact UB (k _ H2 ⟨R2.sta,R1.frm.trans R2.frm,fun z=>by
       simp only[Ac] at z
       exact(R1.pur z.1.1).trans (R2.pur z.1.2),.bl _⟩)
     |true=>
      have q:((fc δ2).bind fun s=>(o' y s.1).map fun u=>(u,s.2))=some (d,δ3):=q
      cases h4:fc δ2 with
      | none => rw [h4] at q;cases q
      |some p4=>
       obtain⟨z4,δ4⟩:=p4
       rw[h4] at q
       have q:((o' y z4).map fun u=>(u,δ4))=some (d,δ3):=q
       cases h5:o' y z4 with
       | none => rw [h5] at q;cases q
       |some u=>
        rw[h5] at q
        cases q
        refine UC ⟨B,O,δ2,z4,_,R2.sta,h4,fun v4 H4 R4=> ?_⟩
        exact ho' H4 _ _ _ _ v2 v4 y z4 d Q (R4.live hs' R2.rep) R4.rep h5 fun v hv=>k v H4 ⟨R4.sta,(R1.frm.trans R2.frm).trans R4.frm,fun z=>by
         simp only[Ac] at z
         exact((R1.pur z.1.1).trans (R2.pur z.1.2)).trans (R4.pur z.2),hv _ _ _⟩
    |_=>cases q
theorem J3{op op':CmpOp}(ho:aS X (Bv op) r)(ho':aS X (Bv op') r')(hv:V6 K r o)(hv':V6 K r' o')(ha:PE X a (TV K ml pa ta ia fa))(hb:PE X b (TV K ml pb tb ib fb))(hc:PE X c (TV K ml pc tc ic fc))
  (hm:Nc [op,op'] [b,c]=false:=by with_unfolding_all rfl) (hs:(pb || (ta && ia))=true:=by rfl) (hs':(pc || (tb && ib))=true:=by rfl):PE X (.Compare a [op,op'] [b,c] pos) (TV K ml (pa && pb && pc) true true (f3 o o' fa fb fc)):=
 (IJ ho ho' ha hb hc hm).imp fun _ _ _ h=>QI hv hv' hs hs' h
theorem J7{op op':CmpOp}(ho:aS X (Bv op) r)(ho':aS X (Bv op') r')(hv:V6 K r o)(hv':V6 K r' o')(ha:PE X a (TV K ml pa ta ia fa))(hb:PE X b (TV K ml pb tb ib fb))(hc:PE X c (TV K ml pc tc ic fc))
  (hm:Nc [op,op'] [b,c]=false:=by with_unfolding_all rfl) (hs:(pb || (ta && ia))=true:=by rfl) (hs':(pc || (tb && ib))=true:=by rfl):PT X (.Compare a [op,op'] [b,c] pos) (TB K ml (pa && pb && pc) (fB (f3 o o' fa fb fc))):=
 (IW ho ho' ha hb hc hm).imp fun _ _ _ h=>RY (fun _ _ _=>QI hv hv' hs hs') h
end
section
variable{X:Cx}{K:Ae}{ml:List Nat}{e a b c:Expr}{es:List Expr}{pa ta ia pb tb ib pc tc ic pu bt bi ps bs:Bool}{fa fb fc:VF}{B:Bs}{O:Nat->Option Addr}{H H1 H':Hp}{σ:St}{δ δ':Ev}{v:V}{d:eN}{p:Addr}{pos:Pos}
noncomputable def f1(o:eN->Option eN)(fa:VF):VF:=fun δ=>(fa δ).bind fun p=>(o p.1).map fun c=>(c,p.2)
theorem Q8{o:eN->Option eN}(h:f1 o fa δ=some (d,δ')): ∃x,fa δ=some (x,δ')/\o x=some d:=by
 unfold f1 at h
 cases h1:fa δ with
 | none => rw [h1] at h;cases h
 |some p=>
  rw[h1] at h
  have h:((o p.1).map fun c=>(c,p.2))=some (d,δ'):=h
  cases h3:o p.1 with
  |none=>rw[h3] at h;cases h
  |some c=>
   rw[h3] at h
   cases h
   exact⟨p.1,rfl,h3⟩
abbrev RC:=List V->Hp->VK->Prop
def QR(K:Ae)(r:RC)(o:eN->Option eN):Prop:= ∀(H:Hp) (N M:Addr->Prop) (x:V) (d c:eN) (Q:VK),dH K N H M x d->o d=some c->(∀v,(∀H' N M,dH K N H' M v c)->Q v H)->r [x] H Q
def CalC(K:Ae)(r:RC)(o:eN->Option eN):Prop:= ∀(H:Hp) (N M:Addr->Prop) (x:V) (d c:eN) (Q:VK),dH K N H M x d->o d=some c→
 (∀v H',cM H H'->(∀M,(∀a,M a-> ∃o,H a=some o)->dH K N H' M v c)->Q v H')->r [x] H Q
def SF(K:Ae)(r:RC)(o:eN->eN->Option eN):Prop:= ∀(H:Hp) (N N' M M':Addr->Prop) (x y:V) (d e c:eN) (Q:VK),dH K N H M x d->dH K N' H M' y e->o d e=some c->(∀v,(∀H' N M,dH K N H' M v c)->Q v H)->r [x,y] H Q
theorem TW{r:RC}{o:eN->Option eN}(ho:QR K r o){Q:VK}(h:TV K ml pa true true (f1 o fa) σ H Q):tCB r (QF (TV K ml pa ta ia fa) GD) σ H Q:=by
 obtain⟨B,O,δ,d,δ',S,q,k⟩:=h
 obtain⟨x,h1,h2⟩:=Q8 q
 exact⟨B,O,δ,x,δ',S,h1,fun v1 H1 R1=>ho H1 _ _ v1 x d Q R1.rep h2 fun v hv=>k v H1 ⟨R1.sta,R1.frm,R1.pur,hv _ _ _⟩⟩
theorem MD{r:RC}{o:eN->Option eN}(ho:CalC K r o){Q:VK}(h:TV K ml pa true ia (f1 o fa) σ H Q):tCB r (QF (TV K ml pa ta ia fa) GD) σ H Q:=by
 obtain⟨B,O,δ,d,δ',S,q,k⟩:=h
 obtain⟨x,h1,h2⟩:=Q8 q
 exact⟨B,O,δ,x,δ',S,h1,fun v1 H1 R1=>ho H1 _ _ v1 x d Q R1.rep h2 fun v H2 s2 hv=>k v H2 ⟨R1.sta.same s2,R1.frm.trans s2.fr,fun z=>(R1.pur z).trans s2,hv _ fun a z=>R1.sta.nin z⟩⟩
theorem ME{r:RC}{o:eN->eN->Option eN}(ho:SF K r o)(hs:(pb || (ta && ia))=true){Q:VK}(h:TV K ml (pa && pb) true true (f2 o fa fb) σ H Q):tCB r (QF (TV K ml pa ta ia fa) (QF (TV K ml pb tb ib fb) GD)) σ H Q:=by
 obtain⟨B,O,δ,d,δ2,S,q,k⟩:=h
 obtain⟨x,δ1,y,h1,h2,h3⟩:=YO q
 refine⟨B,O,δ,x,δ1,S,h1,fun v1 H1 R1=>⟨B,O,δ1,y,δ2,R1.sta,h2,fun v2 H2 R2=> ?_⟩⟩
 exact ho H2 _ _ _ _ v1 v2 x y d Q (R2.live hs R1.rep) R2.rep h3 fun v hv=>k v H2 ⟨R2.sta,R1.frm.trans R2.frm,fun z=>by
  obtain⟨z1,z2⟩:=(Ac _ _).mp z
  exact(R1.pur z1).trans (R2.pur z2),hv _ _ _⟩
section
variable{x:Str}{p':Pos}{id T:String}{r:RC}
theorem WE{o:eN->Option eN}(hc:cI X (.builtin id) r)(ho:QR K r o)(hg:Gl X x)(hm:X.mg x=none)(hv:Bj x=some (.builtin id))(ha:PE X a (TV K ml pa ta ia fa))(hn:x≠ "__name__":=by decide) (hdb:(x==("__debug__":Str))=false:=by decide)
  (he:starEach (a::[]) X.env=(false,eval a X.env)::starEach [] X.env:=by rfl):PE X (.Call (.Name x p') [a] [] pos) (TV K ml pa true true (f1 o fa)):=
 (U4 hc hg hm hv (cT ha bR he) hn hdb he).imp fun _ _ _ h=>TW ho h
theorem a7{o:eN->eN->Option eN}(hc:cI X (.builtin id) r)(ho:SF K r o)(hg:Gl X x)(hm:X.mg x=none)(hv:Bj x=some (.builtin id))(ha:PE X a (TV K ml pa ta ia fa))(hb:PE X b (TV K ml pb tb ib fb))(hn:x≠ "__name__":=by decide) (hdb:(x==("__debug__":Str))=false:=by decide)
  (he:starEach (a::[b]) X.env=(false,eval a X.env)::starEach [b] X.env:=by rfl) (he2:starEach (b::[]) X.env=(false,eval b X.env)::starEach [] X.env:=by rfl) (hpl:(Cu pos (starEach [b] X.env)).any (·.1)=false:=by rfl) (hs:(pb || (ta && ia))=true:=by rfl):
  PE X (.Call (.Name x p') [a,b] [] pos) (TV K ml (pa && pb) true true (f2 o fa fb)):=
 (U4 hc hg hm hv (cT ha (cT hb bR he2) he) hn hdb he hpl).imp fun _ _ _ h=>ME ho hs h
theorem WF{o:eN->Option eN}(hc:cI X (.type T) r)(ho:CalC K r o)(hg:Gl X x)(hm:X.mg x=none)(hv:Bj x=some (.type T))(ha:PE X a (TV K ml pa ta ia fa))(hn:x≠ "__name__":=by decide) (hdb:(x==("__debug__":Str))=false:=by decide)
  (he:starEach (a::[]) X.env=(false,eval a X.env)::starEach [] X.env:=by rfl):PE X (.Call (.Name x p') [a] [] pos) (TV K ml pa true ia (f1 o fa)):=
 (WS hc hg hm hv (cT ha bR he) hn hdb he).imp fun _ _ _ h=>MD ho h
end
noncomputable def aG:eN->Option eN
 | .tup ds=>some (.int ds.length)
 | .lst ds=>some (.int ds.length)
 | .str z=>if z.length<=16777216 then some (.int z.length) else none
 |_=>none
def rLen(K:Ae):RC:=fun xs H Q=>(∃p ys,xs=[.ref p]/\(aT K H p ys∨YW K H p ys)/\Q (.int ys.length) H)∨ ∃z,xs=[.str z]/\z.length<=sizeLine/\Q (.int z.length) H
theorem zBN(h:X.K=K):cI X (.builtin "len") (rLen K):=by subst h;exact Q2.or Q3
theorem zAN:QR K (rLen K) aG:=by
  intro H N M x d c Q hx h k
  cases d<;>first
    | (rename_i ds
       obtain⟨a,xs,rfl,sq,r⟩:=hx.seq rfl
       cases h
       refine .inl ⟨a,xs,rfl,sq,?_⟩
       rw[r.length]
       exact k _ fun _ _ _=> .int _)
    | (cases hx
       simp only[aG] at h
       split at h
       · cases h
         exact .inr ⟨_,rfl,by rw[Bg];assumption,k _ fun _ _ _=> .int _⟩
       · cases h)
    |cases h
noncomputable def aH(d:eN):Option eN:=(a5 d).map eN.tup
def NI(K:Ae):RC:=fun xs H Q=> ∃p ys,xs=[.ref p]/\((aT K H p ys/\ ∀l,H l=none->Q (.ref l) (cL H l (.tup ys)))∨(YW K H p ys/\Q (.ref p) H))
theorem Z7(h:X.K=K):cI X (.type "tuple") (NI K):=A8 h
theorem JT{d:eN}{g:List eN->eN}{c:eN}(h:(a5 d).map g=some c): ∃ds,a5 d=some ds/\c=g ds:=by
 cases h1:a5 d with
 |none=>rw[h1] at h;cases h
 |some ds=>rw[h1] at h;cases h;exact⟨ds,rfl,rfl⟩
theorem Z3:CalC K (NI K) aH:=by
 intro H N M x d c Q hx h k
 obtain⟨ds,h1,rfl⟩:=JT h
 obtain⟨a,xs,rfl,sq,r⟩:=hx.seq h1
 rcases sq with sq|sq
 ·exact⟨a,xs,rfl,.inl ⟨sq,fun l hl=>k _ _ (eL hl) fun M hM=> .tup (YW.of dZ) (r.same (eL hl))⟩⟩
 ·exact⟨a,xs,rfl,.inr ⟨sq,k _ _ (cM.refl _) fun M hM=> .tup sq r⟩⟩
noncomputable def o2I(g:Int->Int->Int):eN->eN->Option eN
 | .int i,.int j=>some (.int (g i j))
 |_,_=>none
theorem CU{g:Int->Int->Int}:SF K (fun xs H Q=> ∃i j,xs=[.int i,.int j]/\Q (.int (g i j)) H) (o2I g):=by
 intro H N N' M M' x y d e c Q hx hy h k
 unfold o2I at h
 split at h
 ·cases h
  cases hx
  cases hy
  exact⟨_,_,rfl,k _ fun _ _ _=> .int _⟩
 ·cases h
noncomputable abbrev oMin:=o2I fun i j=>if j<i then j else i
theorem zAL:SF K (fun xs H Q=> ∃i j,xs=[.int i,.int j]/\Q (.int (if j<i then j else i)) H) oMin:=CU
noncomputable def tyD:eN->Option String
 | .non=>some "NoneType"
 | .bl _=>some "bool"
 | .int _=>some "int"
 | .str _=>some "str"
 | .tup _=>some "tuple"
 | .lst _=>some "list"
 |_=>none
noncomputable def RF(t n:String):Option Bool:=if((Jx t)==(Jx n))=true then some true else if W.kitMeta n=true then(PySem.fastBuiltinMro t).map (·.contains (.type n)) else none
theorem E4{t n:String}{k:Bool}(h:RF t n=some k):Gi K (.type t) (.type n)=some k:=h
noncomputable def ZW:eN->eN->Option eN
 |d,.ty n=>(tyD d).bind fun t=>(RF t n).map eN.bl
 |_,_=>none
def CO(K:Ae):RC:=fun xs H Q=> ∃x n d N M t k,xs=[x,.ty n]/\dH K N H M x d/\tyD d=some t/\RF t n=some k/\Q (.bl k) H
theorem K3:cI X (.builtin "isinstance") (CO X.K):=by
 intro aa s σ H xs us Q I r h
 obtain⟨x,n,d,N,M,t,k,rfl,hx,ht,hk,q⟩:=h
 obtain⟨u,c,rfl,rx,rc⟩:=NM r
 cases (show c=Jx n from rc)
 have e:=E4 (K:=X.K) hk
 have fin: ∀tk,EP X aa σ Q (.bool k) {s with toks:=tk}:=fun tk=>⟨.bl k,H,I.tok tk,rfl,q⟩
 cases hx with
 |non=>cases ht;exact YD I rx (.non) e fin
 |bl y=>cases ht;exact YD I rx (.bl y) e fin
 |int i=>cases ht;exact YD I rx (.int i) e fin
 |str y=>cases ht;exact YD I rx (.str y) e fin
 |ty n=>cases ht
 |fn _=>cases ht
 |dct _ _ _=>cases ht
 |ktb _ _=>cases ht
 |exn _ _ _=>cases ht
 |tup q _=>
  cases ht
  cases rx
  obtain⟨its,_,⟨o,h1,h2,_⟩,_⟩:=I.tuple q
  exact Dj W.kitx_tuple I.kIn ⟨o,h1,h2⟩ e (fun z=>nomatch z) fin
 |lst q _ _=>
  cases ht
  cases rx
  obtain⟨its,_,⟨o,n,h1,h2,_⟩,_⟩:=I.list (aT.of q)
  exact Dj Kj I.kIn ⟨o,h1,h2⟩ e (fun z=>nomatch z) fin
 |fzl q _=>
  cases ht
  cases rx
  obtain⟨its,_,⟨o,n,h1,h2,_⟩,_⟩:=I.list q.sq
  exact Dj Kj I.kIn ⟨o,h1,h2⟩ e (fun z=>nomatch z) fin
theorem kIsi(h:X.K=K):cI X (.builtin "isinstance") (CO K):=by subst h;exact K3
theorem zAO:SF K (CO K) ZW:=by
  intro H N N' M M' x y d e c Q hx hy h k
  cases hy<;>first
    | (simp only [ZW] at h
       cases h1:tyD d with
       | none => rw [h1] at h;cases h
       |some t=>
         rw[h1] at h
         rename_i n
         have h:(RF t n).map eN.bl=some c:=h
         cases h2:RF t n with
         | none => rw [h2] at h;cases h
         |some kk=>
           rw[h2] at h
           cases h
           exact⟨x,n,d,N,M,t,kk,rfl,hx,h1,h2,k _ fun _ _ _=> .bl _⟩)
    |cases h
noncomputable def oNeg:eN->Option eN
 | .int i=>some (.int (-i))
 |_=>none
theorem J4(ha:PE X a (TV K ml pa ta ia fa)):PE X (.UnaryOp .USub a pos) (TV K ml pa true true (f1 oNeg fa)):=(zB1 DC ha).imp fun σ H Q q0=>by
 obtain⟨B,O,δ,d,δ',S,q,k⟩:=q0
 obtain⟨x,h1,h2⟩:=Q8 q
 refine⟨B,O,δ,x,δ',S,h1,fun v1 H1 R1=> ?_⟩
 cases x with
 |int i=>
  cases h2
  have e1:v1= .int i:=by cases R1.rep;rfl
  exact⟨i,e1,k _ H1 ⟨R1.sta,R1.frm,R1.pur,.int _⟩⟩
 |_=>cases h2
abbrev VP:=Ev->Option (Option Int×Ev)
def TPO(K:Ae)(ml:List Nat)(pu:Bool)(f:VP):TO:=fun σ H Q=> ∃B O δ k δ',cX K ml B O H σ δ/\f δ=some (k,δ')/\ ∀H',KZ K ml B O H σ pu H' δ'->Q k H'
noncomputable def pNo:VP:=fun δ=>some (none,δ)
noncomputable def pSo(f:VF):VP:=fun δ=>(f δ).bind fun p=>match p.1 with
 | .int i=>some (some i,p.2)
 |_=>none
theorem PO.imp{e:Option Expr}{t u:TO}(h:PO X e t)(k: ∀σ H Q,u σ H Q->t σ H Q):PO X e u:=fun aa s σ H Q I w=>h aa s σ H Q I (k σ H Q w)
theorem zA1:PO X none (TPO K ml true pNo):=F0.imp fun σ H Q q0=>by
 obtain⟨B,O,δ,d,δ',S,q,k⟩:=q0
 cases q
 exact k H (KZ.refl S)
theorem zA0(h:PE X a (TV K ml pa ta ia fa)):PO X (some a) (TPO K ml pa (pSo fa)):=(F1 h).imp fun σ H Q q0=>by
 obtain⟨B,O,δ,d,δ',S,q,k⟩:=q0
 unfold pSo at q
 cases h1:fa δ with
 | none => rw [h1] at q;cases q
 |some p=>
  obtain⟨x,δ1⟩:=p
  rw[h1] at q
  refine⟨B,O,δ,x,δ1,S,h1,fun v1 H1 R1=> ?_⟩
  cases x with
  |int i=>
   have e1:v1= .int i:=by cases R1.rep;rfl
   cases q
   exact⟨i,e1,k H1 ⟨R1.sta,R1.frm,R1.pur⟩⟩
  |_=>cases q
noncomputable def PD(ds:List eN)(lo hi:Option Int):List eN:=(ds.drop (HT.sIx ds.length 0 lo)).take (HT.sIx ds.length ds.length hi - HT.sIx ds.length 0 lo)
theorem VV{N:Addr->Prop}{xs:List V}{ds:List eN}(r:d8 K N H xs ds)(lo hi:Option Int):d8 K N H (PF xs lo hi) (PD ds lo hi):=by
 unfold PF PD
 rw[r.length]
 exact(r.drop _).take _
noncomputable def FH(d:eN)(lo hi:Option Int):Option eN:=match d with
 | .lst ds=>some (.lst (PD ds lo hi))
 | .tup ds=>some (.tup (PD ds lo hi))
 |_=>none
noncomputable def fSl(fa:VF)(fl fh:VP):VF:=fun δ=>(fa δ).bind fun p=>(fl p.2).bind fun l=>(fh l.2).bind fun u=>(FH p.1 l.1 u.1).map fun c=>(c,u.2)
theorem MB{prog:Ar}{w:World}{A:Bo}{E:Value->Ab->Prop}{s:Ab}{t sl:Addr}{ae:Array Value}{vl vu:Value}{lo hi:Option Int}{Q:Value->Ab->Prop}(ht:IsTup s.heap t ae)(hs:s.heap.IsSliceOf sl vl vu .none)(pl:IsPart vl lo)
  (pu:IsPart vu hi) (h1:HT.sIx ae.size 0 lo=0) (h2:HT.sIx ae.size ae.size hi=ae.size) (h:Q (.ref t) s):wpAny (model prog w) A (Ip (.ref t) (.ref sl)) Q E s:=by
 obtain⟨os,hos,hcs,hds⟩:=id hs
 have hT:s.TypeIs (.ref sl) "slice":=⟨os,hos,hcs⟩
 unfold Ip
 try with_reducible refine Bk ?_
 first|refine Aa (Af ?_)|skip
 refine Aa (Ib ht.typeIs (by decide) ?_)
 refine Aa (Ce (name:=Fh "__getitem__") ht.typeIs Cv
  (Dd Cv ht.typeIs PyProof.Rows.entry_tuple_getitem ?_ (PyProof.Rows.args_tuple_getitem _ _)))
 show wpAny _ _ (Hh (.ref t)>>=_) _ _ s
 refine Aa (PyProof.Rows.tupleItemsOf_ ht ?_)
 refine Aa (Lv hT ?_)
 rw[if_pos (by decide)]
 refine Aa (HT.ZN hs pl pu ?_)
 rw[h1,h2]
 show wpAny _ _ (if((((0:Nat):Int)==0 && (1:Int)==1 && (ae.size - 0)==ae.size)=true) then _ else _) _ _ s
 rw[if_pos (by simp)]
 refine Aa (m:=No _) (Aa (Lv ht.typeIs (Af ?_)))
 rw[if_pos (by decide)]
 exact Aa (Ig (Af ⟨_,rfl,Af h⟩))
def rSlW(K:Ae):V->Option Int->Option Int->Hp->VK->Prop:=fun x lo hi H Q=> ∃a xs,x= .ref a/\YW K H a xs/\(HT.sIx xs.length 0 lo=0/\HT.sIx xs.length xs.length hi=xs.length)/\Q (.ref a) H
theorem GC:EN X (rSlW X.K):=by
 intro aa s σ H x v vl vu lo hi sl Q I rx hs pl pu h
 obtain⟨a,xs,rfl,hx,hw,q⟩:=h
 cases rx
 obtain⟨its,r,ht,hz⟩:=I.tuple hx
 have ag:its.toArray.size=xs.length:=by rw[Aj];exact r.length.symm
 refine⟨"tuple",_,PyProof.Rows.slot_tuple_getitem.lookup,ht.typeIs,?_⟩
 exact MB ht hs pl pu (by rw[ag];exact hw.1) (by rw[ag];exact hw.2) ⟨.ref a,H,I,rfl,q⟩
def rSl(K:Ae):V->Option Int->Option Int->Hp->VK->Prop:=fun x lo hi H Q=>(rSlT K x lo hi H Q∨rSlL K x lo hi H Q)∨rSlW K x lo hi H Q
theorem kSl(h:X.K=K):EN X (rSl K):=by subst h;exact(C3.or GB).or GC
theorem E2{fl fh:VP}(h:fSl fa fl fh δ=some (d,δ')): ∃x δ1 l δ2 u,fa δ=some (x,δ1)/\fl δ1=some (l,δ2)/\fh δ2=some (u,δ')/\FH x l u=some d:=by
 unfold fSl at h
 cases h1:fa δ with
 | none => rw [h1] at h;cases h
 |some p=>
  rw[h1] at h
  cases h2:fl p.2 with
  | none => simp [h2] at h
  |some q=>
   simp only[Ak,h2] at h
   cases h3:fh q.2 with
   | none => simp [h3] at h
   |some s=>
    simp only[Ak,h3] at h
    cases h4:FH p.1 q.1 s.1 with
    |none=>rw[h4] at h;cases h
    |some c=>
     rw[h4] at h
     cases h
     exact⟨p.1,p.2,q.1,q.2,s.1,rfl,h2,h3,h4⟩
theorem zA2{lo hi:Option Expr}{p2:Pos}{fl fh:VP}(hK:X.K=K)(ha:PE X a (TV K ml pa ta ia fa))(hl:PO X lo (TPO K ml pb fl))(hh:PO X hi (TPO K ml pc fh))(hs:(pb && pc || (ta && ia))=true:=by rfl):
  PE X (.Subscript a (.Slice lo hi none p2) pos) (TV K ml (pa && pb && pc) true ia (fSl fa fl fh)) := (IP (kSl hK) ha hl hh).imp fun σ H Q ⟨B,O,δ,d,δ3,S,q,k⟩ => by
 obtain⟨x,δ1,l,δ2,u,h1,h2,h3,h4⟩:=E2 q
 refine⟨B,O,δ,x,δ1,S,h1,fun v1 H1 R1=>⟨B,O,δ1,l,δ2,R1.sta,h2,fun H2 R2=>⟨B,O,δ2,u,δ3,R2.sta,h3,fun H3 R3=> ?_⟩⟩⟩
 have hx:dH K (av B O ia) H3 (at_ B O ta) v1 x:=by
  rcases(Gx _ _).mp hs with z|z
  ·obtain⟨z1,z2⟩:=(Ac _ _).mp z
   exact(R1.rep.same (R2.pur z1)).same (R3.pur z2)
  ·obtain⟨z1,z2⟩:=(Ac _ _).mp z
   subst z1 z2
   exact(R1.rep.fr R2.frm (fun a z=> .inr z) fun a z=> .inr z).fr R3.frm (fun a z=> .inr z) fun a z=> .inr z
 have fz:(pa && pb && pc)=true->cM H H3:=fun z=>by
  simp only[Ac] at z
  exact((R1.pur z.1.1).trans (R2.pur z.1.2)).trans (R3.pur z.2)
 have hfr:=(R1.frm.trans R2.frm).trans R3.frm
 cases x with
 |lst ds=>
  cases h4
  obtain⟨a,xs,rfl,sq,r⟩:=hx.seq rfl
  rcases sq with sq|sq
  ·exact .inl (.inr ⟨a,xs,rfl,sq,fun p hp => k _ _ ⟨R3.sta.same (eL hp),hfr.trans (eL hp).fr,fun z => (fz z).trans (eL hp),.lst dZ (R3.sta.new hp) ((VV r l u).same (eL hp))⟩⟩)
  ·cases hx with
   | lst q n r' => exact .inl (.inr ⟨a,_,rfl,aT.of q,fun p hp => k _ _ ⟨R3.sta.same (eL hp),hfr.trans (eL hp).fr,fun z => (fz z).trans (eL hp),.lst dZ (R3.sta.new hp) ((VV r' l u).same (eL hp))⟩⟩)
   | fzl q r' => exact .inl (.inr ⟨a,_,rfl,q.sq,fun p hp => k _ _ ⟨R3.sta.same (eL hp),hfr.trans (eL hp).fr,fun z => (fz z).trans (eL hp),.lst dZ (R3.sta.new hp) ((VV r' l u).same (eL hp))⟩⟩)
 |tup ds=>
  cases h4
  cases hx with
  |tup q r'=>
   by_cases hw:HT.sIx ds.length 0 l=0/\HT.sIx ds.length ds.length u=ds.length
   ·refine .inr ⟨_,_,rfl,q,by rw [r'.length];exact hw,k _ _ ⟨R3.sta,hfr,fz,?_⟩⟩
    have e:PD ds l u=ds:=by
     unfold PD
     rw[hw.1,hw.2]
     simp
    rw[e]
    exact .tup q r'
   ·exact .inl (.inl ⟨_,_,rfl,q,by rw[r'.length];exact hw,fun p hp=>k _ _ ⟨R3.sta.same (eL hp),hfr.trans (eL hp).fr,fun z=>(fz z).trans (eL hp),.tup (YW.of dZ) ((VV r' l u).same (eL hp))⟩⟩)
 |_=>cases h4
end
inductive Ou where
 |nx (δ:Ev)|rt (d:eN) (δ:Ev)|bk (δ:Ev)|ct (δ:Ev)
abbrev VS:=Ev->Option Ou
def Post(K:Ae)(ml:List Nat)(B:Bs)(D:KP):Ou->Prop
 | .nx δ'=> ∀σ' H' O',cX K ml B O' H' σ' δ'->D.nx σ' H'
 | .rt d δ'=> ∀v σ' H' O',cX K ml B O' H' σ' δ'->dH K (rz B) H' (rz B) v d->D.rt v H'
 | .bk δ'=> ∀σ' H' O',cX K ml B O' H' σ' δ'->D.bk σ' H'
 | .ct δ'=> ∀σ' H' O',cX K ml B O' H' σ' δ'->D.ct σ' H'
def W2(K:Ae)(ml:List Nat)(g:VS):TS:=fun D σ H=> ∃B O δ o,cX K ml B O H σ δ/\g δ=some o/\Post K ml B D o
section
variable{X:Cx}{K:Ae}{ml:List Nat}{e a b c:Expr}{es:List Expr}{pa ta ia pb tb ib pc tc ic pu bt bi ps bs:Bool}{fa fb fc f:VF}{B B':Bs}{O:Nat->Option Addr}{H H1 H':Hp}{σ:St}{δ δ':Ev}{v:V}{d:eN}{p:Addr}{pos:Pos}{st:Stmt}{rest:List Stmt}{g g':VS}
noncomputable def cG:VS:=fun δ=>some (.nx δ)
noncomputable def dO(g g':VS):VS:=fun δ=>(g δ).bind fun o=>match o with
 | .nx δ'=>g' δ'
 |o=>some o
theorem dW:ZQ X [] (W2 K ml cG):=NF.imp fun D σ H q0=>by
 obtain⟨B,O,δ,o,S,q,k⟩:=q0
 cases q
 exact k σ H O S
theorem eK(h1:PS X st (W2 K ml g))(h2:ZQ X rest (W2 K ml g')):ZQ X (st::rest) (W2 K ml (dO g g')):=(XG h1 h2).imp fun D σ H q0=>by
 obtain⟨B,O,δ,o,S,q,k⟩:=q0
 unfold dO at q
 cases h1:g δ with
 |none=>rw[h1] at q;cases q
 |some z=>
  rw[h1] at q
  refine⟨B,O,δ,z,S,h1,?_⟩
  cases z with
  |nx δ1=>exact fun σ' H' O' S'=>⟨B,O',δ1,o,S',q,k⟩
  |rt d δ1=>cases q;exact k
  |bk δ1=>cases q;exact k
  |ct δ1=>cases q;exact k
theorem eJ(h1:PS X st (W2 K ml g)):ZQ X [st] (W2 K ml g):=(XG h1 NF).imp fun D σ H ⟨B,O,δ,o,S,q,k⟩=>⟨B,O,δ,o,S,q,by cases o<;>exact k⟩
noncomputable def dE(f:VF):VS:=fun δ=>(f δ).map fun p=> .rt p.1 p.2
theorem d7(h:PE X e (TV K ml pu bt bi f))(ht:bt=true:=by rfl):PS X (.Return (some e) pos) (W2 K ml (dE f)):=(OM h).imp fun D σ H q0=>by
 obtain⟨B,O,δ,o,S,q,k⟩:=q0
 unfold dE at q
 cases h1:f δ with
 |none=>rw[h1] at q;cases q
 |some p=>
  rw[h1] at q
  cases q
  subst ht
  exact⟨B,O,δ,p.1,p.2,S,h1,fun v H' R=>k v σ H' O R.sta (R.rep.mono R.sta.rza R.sta.rzn)⟩
theorem GL{i:Nat}(h:PE X e (OS i))(hm:i∉ml:=by decide):PS X (.Return (some e) pos) (W2 K ml (dE (fO i))):=(OM h).imp fun D σ H q0=>by
 obtain⟨B,O,δ,o,S,q,k⟩:=q0
 unfold dE at q
 cases h1:fO i δ with
 |none=>rw[h1] at q;cases q
 |some p=>
  obtain⟨x,δ1⟩:=p
  rw[h1] at q
  cases q
  obtain⟨rfl,v,e1,r⟩:=S.lone hm h1
  exact⟨v,e1,k v σ H O S (r.mono S.rza S.rza)⟩
noncomputable def ZR(t:VB)(g g':VS):VS:=fun δ=>(t δ).bind fun p=>if p.1=true then g p.2 else g' p.2
theorem cW{x y:List Stmt}{t:VB}(ht:PT X c (TB K ml pc t))(ha:ZQ X x (W2 K ml g))(hb:ZQ X y (W2 K ml g')):PS X (.If c x y pos) (W2 K ml (ZR t g g')):=(D3 ht ha hb).imp fun D σ H q0=>by
 obtain⟨B,O,δ,o,S,q,k⟩:=q0
 unfold ZR at q
 cases h1:t δ with
 |none=>rw[h1] at q;cases q
 |some p=>
  obtain⟨kk,δ1⟩:=p
  rw[h1] at q
  refine⟨B,O,δ,kk,δ1,S,h1,fun H1 R1=> ?_⟩
  cases kk with
  |true=>exact UC ⟨B,O,δ1,o,R1.sta,q,k⟩
  |false=>exact UB ⟨B,O,δ1,o,R1.sta,q,k⟩
abbrev VX:=Ev->Option (Sl×Ev)
inductive St1(K:Ae)(B:Bs)(O:Nat->Option Addr)(H:Hp):Bs->V->Sl->Prop
 |va {v:V} {d:eN}:St1 K B O H {B with kp:=[(v,d)]++B.kp} v (.va d)
 |ol {p:Addr} {xs:List V} {ds:List eN}:H p=some (.lst xs)->xs.length=ds.length-> ¬Nn B O p->B.H0 p=none->St1 K B O H {B.add p with kp:=xs.zip ds++B.kp} (.ref p) (.ow (.lst ds))
 |od {p:Addr} {kvs:List (Z0×V)} {ds:List eN}:H p=some (.dK kvs)->kvs.length=ds.length-> ¬Nn B O p->B.H0 p=none->St1 K B O H {B.add p with kp:=(kvs.map Iq).zip ds++B.kp} (.ref p) (.ow (.dct (kvs.map Mr) ds))
def TX(K:Ae)(ml:List Nat)(f:VX):TE:=fun σ H Q=> ∃B O δ s δ',cX K ml B O H σ δ/\f δ=some (s,δ')/\ ∀v H' B',cX K ml B' O H' σ δ'->St1 K B O H' B' v s->Fr (OA O) H H'->Q v H'
noncomputable def xV(f:VF):VX:=fun δ=>(f δ).map fun p=>(.va p.1,p.2)
noncomputable def xO(f:VF):VX:=fun δ=>(f δ).map fun p=>(.ow p.1,p.2)
theorem bP(h:PE X e (TV K ml pu true true f)):PE X e (TX K ml (xV f)):=h.imp fun σ H Q q0=>by
 obtain⟨B,O,δ,o,δ',S,q,k⟩:=q0
 unfold xV at q
 cases h1:f δ with
 | none => rw [h1] at q;cases q
 |some p=>
  rw[h1] at q
  cases q
  exact⟨B,O,δ,p.1,p.2,S,h1,fun v H' R=>k v H' _ (R.sta.keepV (ps:=[(v,p.1)]) fun z hz=>by
   rw[Cb.mp hz]
   exact R.rep) .va R.frm⟩
theorem V0{N:Addr->Prop}: ∀{xs:List V} {ds:List eN},d8 K N H xs ds-> ∀z∈xs.zip ds,dH K N H N z.1 z.2
 |_,_,.nil,z,hz=>nomatch hz
 |_,_,.cons h t,z,hz=>by
  rcases Ba.mp hz with e|e
  ·rw[e];exact h
  ·exact V0 t z e
theorem YG{N:Addr->Prop}: ∀{xs:List V} {ds:List eN},xs.length=ds.length->(∀z∈xs.zip ds,dH K N H N z.1 z.2)->d8 K N H xs ds
 |[],[],_,_=> .nil
 |x::xs,d::ds,hl,h=> .cons (h (x,d) (Bz ..)) (YG (by simpa using hl) fun z hz=>h z (Ay _ hz))
theorem NO(h:PE X e (TN K ml pu f)):PE X e (TX K ml (xO f)):=h.imp fun σ H Q q0=>by
 obtain⟨B,O,δ,o,δ',S,q,k⟩:=q0
 unfold xO at q
 cases h1:f δ with
 |none=>rw[h1] at q;cases q
 |some p=>
  obtain⟨d,δ1⟩:=p
  rw[h1] at q
  cases q
  refine⟨B,O,δ,d,δ1,S,h1,fun p H' R=> ?_⟩
  have w:=R.own
  cases w with
  |lst q r=>exact k _ H' _ (R.sta.keepV (V0 r)) (.ol q r.length R.nz R.h0) R.frm
  |dct q r=>exact k _ H' _ (R.sta.keepV (V0 r)) (.od q (by simpa using r.length) R.nz R.h0) R.frm
theorem St1.bind{O':Nat->Option Addr}{s:Sl}{i:Nat}(h:St1 K B O H' B' v s)(S:cX K ml B' O' H' σ δ)(hm:i∉ml)(hl:i<δ.length): ∃O'',cX K ml B O'' H' (σ.set i (some v)) (δ.set i s):=by
 cases h with
 |va=>
  refine⟨_,cX.unkeep (ps:=_) (S.setVa hm (S.kep _ (Av _ (Cb.mpr rfl))))⟩
 |ol q l n z=>
  refine⟨_,cX.setOw (cX.unkeep (B:=B.add _) S) hm hl (fun w=>n (.inl w)) z (.lst q (YG l fun z hz=>S.kep z (Av _ hz)))⟩
 |od q l n z=>
  refine⟨_,cX.setOw (cX.unkeep (B:=B.add _) S) hm hl (fun w=>n (.inl w)) z (.dct q (YG (by simpa using l) fun z hz=>S.kep z (Av _ hz)))⟩
noncomputable def b9(i:Nat)(x:VX):VS:=fun δ=>(x δ).bind fun p=>if i<p.2.length then some (.nx (p.2.set i p.1)) else none
theorem cU{i:Nat}{y:Str}{x:VX}{db:Pos}(hN:X.N.Nodup)(he:PE X e (TX K ml x))(hi:X.N[i]? =some y:=by rfl)(hx:MM X.env.scope y:=by first|exact .inl rfl|exact .inr rfl)(hm:i∉ml:=by decide)(hs:Na e (some (.Name y db)) pos.line X.env=pure false:=by rfl)
  (hf : X.fn y = true ∨ X.env.scope.names.lookup y = some .local := by first | exact .inl rfl | exact .inr rfl | assumption) : PS X (.Assign [.Name y db] e pos) (W2 K ml (b9 i x)) := (CI hN hi hx he hs hf).imp fun D σ H ⟨B,O,δ,o,S,q,k⟩ => by
 unfold b9 at q
 cases h1:x δ with
 | none => rw [h1] at q;cases q
 |some p=>
  obtain⟨s,δ1⟩:=p
  rw[h1] at q
  have q:(if i<δ1.length then some (Ou.nx (δ1.set i s)) else none)=some o:=q
  split at q
  ·rename_i hl
   cases q
   refine⟨B,O,δ,s,δ1,S,h1,fun v H' B' S' h' f'=> ?_⟩
   obtain⟨O'',S''⟩:=h'.bind S' hm hl
   exact k _ _ _ S''
  ·cases q
abbrev VG:=eN->Ev->Option Ev
def G3(K:Ae)(ml:List Nat)(h:VG):TG:=fun v σ H Q=> ∃B O δ d δ',cX K ml B O H σ δ/\dH K (Nn B O) H (Nn B O) v d/\h d δ=some δ'/\ ∀σ' O',cX K ml B O' H σ' δ'->(∀i∈ml,σ'[i]? =σ[i]?)->Q σ' H
theorem PG.imp{t u:TG}(h:PG X e t)(k: ∀v σ H Q,u v σ H Q->t v σ H Q):PG X e u:=fun aa s σ H v w Q I r z=>h aa s σ H v w Q I r (k v σ H Q z)
theorem MN.imp{t u:K0}(h:MN X es t)(k: ∀v σ H Q,u v σ H Q->t v σ H Q):MN X es u:=fun aa s σ H v w Q I r z=>h aa s σ H v w Q I r (k v σ H Q z)
theorem PG.or{t u:TG}(h:PG X e t)(h':PG X e u):PG X e (fun v σ H Q=>t v σ H Q∨u v σ H Q):=fun aa s σ H v w Q I r z=>by
 rcases z with z|z
 ·exact h aa s σ H v w Q I r z
 ·exact h' aa s σ H v w Q I r z
noncomputable def gN(i:Nat):VG:=fun d δ=>some (δ.set i (.va d))
theorem dD{i:Nat}{x:Str}(hN:X.N.Nodup)(hi:X.N[i]? =some x:=by rfl)(hx:MM X.env.scope x:=by first|exact .inl rfl|exact .inr rfl)(hm:i∉ml:=by decide)(hf:X.fn x=true∨X.env.scope.names.lookup x=some .local:=by first|exact .inl rfl|exact .inr rfl|assumption):PG X (.Name x pos) (G3 K ml (gN i)):=
 (FW hN hi hx hf).imp fun v σ H Q q0 => by
  obtain⟨B,O,δ,d,δ',S,r,q,k⟩:=q0
  cases q
  exact k _ _ (S.setVa hm r) fun j hj=>Az fun(z:i=j)=>hm (z▸hj)
abbrev KL:=List eN->Ev->Option Ev
def G4(K:Ae)(ml:List Nat)(h:KL):K0:=fun vs σ H Q=> ∃B O δ ds δ',cX K ml B O H σ δ/\d8 K (Nn B O) H vs ds/\h ds δ=some δ'/\ ∀σ' O',cX K ml B O' H σ' δ'->(∀i∈ml,σ'[i]? =σ[i]?)->Q σ' H
noncomputable def PM:KL:=fun ds δ=>match ds with
 |[]=>some δ
 |_=>none
noncomputable def YR(g:VG)(gs:KL):KL:=fun ds δ=>match ds with
 |d::r=>(g d δ).bind fun δ1=>gs r δ1
 |[]=>none
theorem SA:MN X [] (G4 K ml PM):=FY.imp fun vs σ H Q q0=>by
 obtain⟨B,O,δ,ds,δ',S,r,q,k⟩:=q0
 cases r with
 |nil=>cases q;exact⟨rfl,k _ _ S fun _ _=>rfl⟩
 |cons _ _=>cases q
theorem ZO{g:VG}{gs:KL}(h1:PG X e (G3 K ml g))(h2:MN X es (G4 K ml gs))(hs:(assignEach (e::es) X.env).map (·.2)=Fe e X.env::(assignEach es X.env).map (·.2):=by rfl):MN X (e::es) (G4 K ml (YR g gs)):=
 (IT h1 h2 hs).imp fun vs σ H Q q0 => by
  obtain⟨B,O,δ,ds,δ',S,r,q,k⟩:=q0
  cases r with
  | nil => cases q
  | @cons v vs d ds h t=>
   have q:((g d δ).bind fun δ1=>gs ds δ1)=some δ':=q
   cases h1:g d δ with
   |none=>rw[h1] at q;cases q
   |some δ1=>
    rw[h1] at q
    have S0:=S.keepV (V0 t)
    exact⟨v,vs,rfl,_,O,δ,d,δ1,S0,h,h1,fun σ1 O1 S1 m1=>⟨B,O1,δ1,ds,δ',S1.unkeep,YG t.length fun z hz=>S1.kep z (Av _ hz),q,fun σ2 O2 S2 m2=>k σ2 O2 S2 fun i hi=>(m2 i hi).trans (m1 i hi)⟩⟩
noncomputable def AT(n:Nat)(gs:KL):VG:=fun d δ=>(a5 d).bind fun ds=>if ds.length=n then gs ds δ else none
theorem OW{gs:KL}{k n:Nat}(hK:X.K=K)(hc:X.calm=true)(h:MN X es (G4 K ml gs))(hn:(assignEach es X.env).length=n:=by rfl)(hst:(assignEach es X.env).findIdx? (·.1)=none:=by rfl):PG X (.Tuple es k pos) (G3 K ml (AT n gs)):=
 ((zBL (K := K) hK hc h hn hst).or (zBM (K := K) hK hc h hn hst)).imp fun v σ H Q q0 => by
  obtain⟨B,O,δ,d,δ',S,r,q,k⟩:=q0
  unfold AT at q
  cases h1:a5 d with
  | none => rw [h1] at q;cases q
  |some ds=>
   rw[h1] at q
   have q:(if ds.length=n then gs ds δ else none)=some δ':=q
   split at q
   ·rename_i hl
    obtain⟨a,xs,rfl,sq,ra⟩:=r.seq h1
    have fin:G4 K ml gs xs σ H Q:=⟨B,O,δ,ds,δ',S,ra,q,k⟩
    rcases sq with sq|sq
    ·exact .inr ⟨a,xs,rfl,sq,ra.length.trans hl,fin⟩
    ·exact .inl ⟨a,xs,rfl,sq,ra.length.trans hl,fin⟩
   ·cases q
noncomputable def F9(f:VF)(g:VG):VS:=fun δ=>(f δ).bind fun p=>(g p.1 p.2).map Ou.nx
theorem DH{tg:Expr}{gg:VG}(he:PE X e (TV K ml pu true true f))(hg:PG X tg (G3 K ml gg))(hs:Im [tg] e pos.line X.env=pure false:=by rfl)(hw:Io [tg] e X.env=pure none:=by rfl)
  (h1 : (assignEach [tg] X.env).map (·.2) = [Fe tg X.env] := by rfl) : PS X (.Assign [tg] e pos) (W2 K ml (F9 f gg)) := (OL he hg hs hw h1).imp fun D σ H ⟨B,O,δ,o,S,q,k⟩ => by
 unfold F9 at q
 cases h1:f δ with
 | none => rw [h1] at q;cases q
 |some p=>
  obtain⟨d,δ1⟩:=p
  rw[h1] at q
  have q:(gg d δ1).map Ou.nx=some o:=q
  cases h2:gg d δ1 with
  |none=>rw[h2] at q;cases q
  |some δ2=>
   rw[h2] at q
   cases q
   exact⟨B,O,δ,d,δ1,S,h1,fun v H' R=>⟨B,O,δ1,d,δ2,R.sta,R.rep,h2,fun σ' O' S' _=>k σ' H' O' S'⟩⟩
def MuV(K:Ae)(r:V->List V->Hp->VK->Prop)(m:List eN->List eN->Option (List eN)):Prop:= ∀(H:Hp) (N:Addr->Prop) (l:Addr) (xs vs:List V) (ds es ds':List eN) (Q:VK),
 H l=some (.lst xs)->N l->d8 K N H xs ds->d8 K N H vs es->m ds es=some ds'->(∀v xs',d8 K N H xs' ds'->Q v (cL H l (.lst xs')))->r (.ref l) vs H Q
noncomputable def XE(δ:Ev)(i:Nat):Option (List eN):=match δ[i]? with
 |some (.ow (.lst ds))=>some ds
 |_=>none
noncomputable def RT(i:Nat)(m:List eN->List eN->Option (List eN))(fs:VQ):VS:=fun δ=>(XE δ i).bind fun _=>(fs δ).bind fun p=>(XE p.2 i).bind fun ds=>(m ds p.1).map fun ds'=> .nx (p.2.set i (.ow (.lst ds')))
theorem TH{i:Nat}{ds:List eN}(h:XE δ i=some ds):δ[i]? =some (.ow (.lst ds)):=by
 unfold XE at h
 split at h
 ·cases h;assumption
 ·cases h
theorem P8{N:Addr->Prop}{l:Addr}{o:HO}{xs:List V}{ds ys:List eN}{zs:List V}(ho:H l=some (.lst zs))(hN:N l)(h:d8 K N H xs ds):d8 K N (cL H l o) xs ds:=
 h.fr (P:=fun b=>b=l) (fun b u q n=>by
  by_cases hb:b=l
  ·subst hb
   rw[ho] at q
   cases q
   exact absurd (n rfl) fun z=>z
  ·rw[dQ hb]
   exact q) fun a z=>z▸hN
theorem WY{i:Nat}{x:Str}{name:Str}{ak af fm:Pos}{id:String}{r:V->List V->Hp->VK->Prop}{m:List eN->List eN->Option (List eN)}{fs:VQ}(hK:X.K=K)(slot:Slot "list" name id) (hty:Lx (.builtin id)=pure (.type "method_descriptor")) (hm:MtR X id r) (hmu:MuV K r m)
  (ho:PE X (.Name x fm) (OS i)) (ha:PA X (e::es) (G2 K ml pu true fs))
  (ax : Ex (.Name x fm) name X.env (eval (.Name x fm) X.env) = eval (.Name x fm) X.env := by rfl)
  (cf : ((Cu af (starEach (e :: es) X.env)).all (fun x => !x.1) && (Gj af (Eg [] X.env)).all (fun x => x.1.isSome)
   && decide ((e :: es).length + ([] : List Gb).length + (if ([] : List Gb).isEmpty then 0 else 1) < 30)) = true := by rfl)
  (aw : (ak.endLine == af.line) = true := by rfl) (hs : starEach (e :: es) X.env = (false,eval e X.env) :: starEach es X.env := by rfl) (ao : (Cu af (starEach es X.env)).any (·.1) = false := by rfl)
  (hsw : Na (.Call (.Attribute (.Name x fm) name ak) (e :: es) [] af) none pos.line X.env = pure false := by rfl) :
  PS X (.Expr (.Call (.Attribute (.Name x fm) name ak) (e::es) [] af) pos) (W2 K ml (RT i m fs)):=
 (F2 (kBm (K := K) hK Ir slot hty hm ho ha ax cf aw hs ao) hsw).imp fun D σ H q0 => by
  obtain⟨B,O,δ,o,S,q,k⟩:=q0
  unfold RT at q
  cases h0:XE δ i with
  | none => rw [h0] at q;cases q
  |some ds0=>
   rw[h0] at q
   have q : ((fs δ).bind fun p => (XE p.2 i).bind fun ds => (m ds p.1).map fun ds' => Ou.nx (p.2.set i (.ow (.lst ds')))) = some o := q
   cases h1:fs δ with
   | none => rw [h1] at q;cases q
   |some p=>
    obtain⟨es',δ1⟩:=p
    rw[h1] at q
    have q:((XE δ1 i).bind fun ds=>(m ds es').map fun ds'=>Ou.nx (δ1.set i (.ow (.lst ds'))))=some o:=q
    cases h2:XE δ1 i with
    | none => rw [h2] at q;cases q
    |some ds=>
     rw[h2] at q
     have q:((m ds es').map fun ds'=>Ou.nx (δ1.set i (.ow (.lst ds'))))=some o:=q
     cases h3:m ds es' with
     | none => rw [h3] at q;cases q
     |some ds'=>
      rw[h3] at q
      cases q
      obtain⟨l,e1,e2,w⟩:=S.ow i _ (TH h0)
      cases w with
      |lst hl0 _=>
       refine⟨.ref l,e2,.inl ⟨rfl,_,aT.of hl0⟩,B,O,δ,es',δ1,S,h1,fun vs H1 R=> ?_⟩
       obtain⟨l',e3,_,w1⟩:=R.sta.ow i _ (TH h2)
       rw[e1] at e3
       cases e3
       cases w1 with
       |lst hl1 r1=>
        refine hmu H1 (Nn B O) l _ vs ds es' ds' _ hl1 (.inr ⟨i,e1⟩) r1 R.rep h3 fun v xs' r2=> ?_
        exact k σ _ O (R.sta.wrote e1 (fun z=>z) (.lst dZ (P8 (ys:=[]) hl1 (.inr ⟨i,e1⟩) r2)))
noncomputable def LN:List eN->List eN->Option (List eN)
 |ds,[d]=>if ds.length<16777216 then some (ds++[d]) else none
 |_,_=>none
theorem N8:MuV K NG LN:=by
 intro H N l xs vs ds es ds' Q hl hN rx re h k
 cases re with
 | nil => cases h
 | @cons v vs d es hd t=>
  cases t with
  | cons _ _ => cases h
  |nil=>
   simp only[LN] at h
   split at h
   ·rename_i hz
    cases h
    exact⟨l,xs,v,rfl,rfl,hl,by rw[rx.length,Bg];exact hz,k _ _ (rx.snoc hd)⟩
   ·cases h
end
section
variable{X:Cx}{K:Ae}{ml:List Nat}{e a b c:Expr}{es:List Expr}{pa ta ia pb tb ib pc tc ic pu bt bi ps bs:Bool}{fa fb fc f:VF}{B B':Bs}{O:Nat->Option Addr}{H H1 H':Hp}{σ:St}{δ δ':Ev}{v:V}{d:eN}{p:Addr}{pos:Pos}{st:Stmt}{rest:List Stmt}{g g':VS}
noncomputable def again(nxt:VS):Ou->Option Ou
 | .nx δ=>nxt δ
 | .ct δ=>nxt δ
 | .bk δ=>some (.nx δ)
 | .rt d δ=>some (.rt d δ)
open Classical in
def G5(K:Ae)(J:It)(kps:List (V×eN))(ds:List eN):Prop:= ∀(N:Addr->Prop) (H:Hp),(∀p∈kps,dH K N H N p.1 p.2)→
 (∀(i:Nat) (d:eN),ds[i]? =some d->J.go i H/\ ∀x H',J.yld i H x H'->cM H H'/\dH K N H' N x d)/\J.stop ds.length H
abbrev VI:=Ev->Option (List eN×Ev)
def KI(K:Ae)(ml:List Nat)(pu:Bool)(f:VI):TI:=fun σ H R=> ∃B O δ ds δ',cX K ml B O H σ δ/\f δ=some (ds,δ')∧
 ∀J kps H',cX K ml {B with kp:=kps++B.kp} O H' σ δ'->Fr (OA O) H H'->(pu=true->cM H H')->G5 K J kps ds->R J H'
theorem PI.imp{tg:Expr}{t u:TI}(h:PI X tg e t)(k: ∀σ H R,u σ H R->t σ H R):PI X tg e u:=fun aa s σ H R I w=>h aa s σ H R I (k σ H R w)
theorem PI.or{tg:Expr}{t u:TI}(h:PI X tg e t)(h':PI X tg e u):PI X tg e (fun σ H R=>t σ H R∨u σ H R):=fun aa s σ H R I z=>by
 rcases z with z|z
 ·exact h aa s σ H R I z
 ·exact h' aa s σ H R I z
noncomputable def YX(f:VF):VI:=fun δ=>(f δ).bind fun p=>(a5 p.1).map fun ds=>(ds,p.2)
theorem J9{a:Addr}{ds:List eN}:G5 K (Itl K a) [(.ref a,.lst ds)] ds:=by
 intro N H h
 have r:=h _ (Cb.mpr rfl)
 have fin: ∀xs,aT K H a xs->d8 K N H xs ds->(∀(i:Nat) (d:eN),ds[i]? =some d->(Itl K a).go i H/\ ∀x H',(Itl K a).yld i H x H'->cM H H'/\dH K N H' N x d)/\(Itl K a).stop ds.length H:=fun xs sq r=>by
  refine⟨fun i d e=> ?_,xs,sq,by rw[r.length];exact An _⟩
  obtain⟨x,e1,r1⟩:=r.get e
  refine⟨⟨xs,x,sq,e1⟩,fun y H' hy=> ?_⟩
  obtain⟨e2,e3⟩:=hy
  subst e2
  have:=e3 xs sq
  rw[e1] at this
  cases this
  exact⟨cM.refl _,r1⟩
 cases r with
 |lst q n r=>exact fin _ (aT.of q) r
 |fzl q r=>exact fin _ q.sq r
theorem KC{a:Addr}{ds:List eN}:G5 K (Itt K a) [(.ref a,.tup ds)] ds:=by
 intro N H h
 have r:=h _ (Cb.mpr rfl)
 cases r with
 |tup sq r=>
  refine⟨fun i d e=> ?_,_,sq,by rw[r.length];exact An _⟩
  obtain⟨x,e1,r1⟩:=r.get e
  refine⟨⟨_,x,sq,e1⟩,fun y H' hy=> ?_⟩
  obtain⟨e2,e3⟩:=hy
  subst e2
  have:=e3 _ sq
  rw[e1] at this
  cases this
  exact⟨cM.refl _,r1⟩
theorem bL{tg:Expr}(hK:X.K=K)(h:PE X e (TV K ml pu true true f)):PI X tg e (KI K ml pu (YX f)):=((BD (K:=K) hK h).or (zBK (K:=K) hK h)).imp fun σ H R q0=>by
 obtain⟨B,O,δ,ds,δ',S,q,k⟩:=q0
 unfold YX at q
 cases h1:f δ with
 | none => rw [h1] at q;cases q
 |some p=>
  obtain⟨x,δ1⟩:=p
  rw[h1] at q
  cases x with
  |lst ds'=>
   cases q
   refine .inl ⟨B,O,δ,_,δ1,S,h1,fun v H1 R1=> ?_⟩
   obtain⟨a,xs,rfl,sq,r⟩:=R1.rep.seq rfl
   refine⟨a,rfl,?_,k _ [(.ref a,.lst ds)] H1 (R1.sta.keepV fun p hp=>by rw[Cb.mp hp];exact R1.rep) R1.frm R1.pur J9⟩
   have r:=R1.rep
   cases r with
   |lst q _ _=>exact⟨_,aT.of q⟩
   |fzl q _=>exact⟨_,q.sq⟩
  |tup ds'=>
   cases q
   refine .inr ⟨B,O,δ,_,δ1,S,h1,fun v H1 R1=> ?_⟩
   obtain⟨a,xs,rfl,sq,r⟩:=R1.rep.seq rfl
   refine⟨a,rfl,?_,k _ [(.ref a,.tup ds)] H1 (R1.sta.keepV fun p hp=>by rw[Cb.mp hp];exact R1.rep) R1.frm R1.pur KC⟩
   have r:=R1.rep
   cases r with
   |tup q _=>exact⟨_,q⟩
  |_=>cases q
noncomputable def YB(lo:Int)(n:Nat):List eN:=(Aw n).map fun k:Nat=> .int (lo+k)
noncomputable def iR1(f:VF):VI:=fun δ=>(f δ).bind fun p=>match p.1 with
 | .int j=>if -4611686018427387904<=j/\j<4611686018427387904 then some (YB 0 j.toNat,p.2) else none
 |_=>none
noncomputable def iR2(f g:VF):VI:=fun δ=>(f δ).bind fun p=>(g p.2).bind fun q=>match p.1,q.1 with
 | .int i,.int j=>if(-4611686018427387904<=i/\i<4611686018427387904)/\ -4611686018427387904<=j/\j<4611686018427387904 then some (YB i (j - i).toNat,q.2) else none
 |_,_=>none
theorem JG{lo:Int}{n i:Nat}{d:eN}(h:(YB lo n)[i]? =some d):i<n/\d= .int (lo+i):=by
 unfold YB at h
 rw[Cj] at h
 cases h1:(Aw n)[i]? with
 |none=>rw[h1] at h;cases h
 |some k=>
  rw[h1] at h
  cases h
  have:=Ah.mp h1
  obtain⟨hl,e⟩:=this
  rw[List.length_range] at hl
  rw[List.getElem_range] at e
  subst e
  exact⟨hl,rfl⟩
theorem QL{lo:Int}{n:Nat}:G5 K (Itr lo n) [] (YB lo n):=by
 intro N H _
 refine⟨fun i d e=> ?_,by simp[Itr,YB]⟩
 obtain⟨hl,rfl⟩:=JG e
 refine⟨hl,fun x H' hy=> ?_⟩
 obtain⟨rfl,rfl⟩:=hy
 exact⟨cM.refl _,.int _⟩
theorem MG{tg:Expr}{p':Pos}(hg:Gl X "range") (hm:X.mg "range"=none) (h:PE X a (TV K ml pa ta ia fa)) (hs:starEach [a] X.env=[(false,eval a X.env)]:=by rfl) (hs1:starEach (a::[]) X.env=(false,eval a X.env)::starEach [] X.env:=by rfl):
  PI X tg (.Call (.Name "range" p') [a] [] pos) (KI K ml pa (iR1 fa)):=(LW hg hm (cT h bR hs1) hs).imp fun σ H R ⟨B,O,δ,ds,δ',S,q,k⟩=>by
 unfold iR1 at q
 cases h1:fa δ with
 | none => rw [h1] at q;cases q
 |some p=>
  obtain⟨x,δ1⟩:=p
  rw[h1] at q
  cases x with
  |int j=>
   have q:(if -4611686018427387904<=j/\j<4611686018427387904 then some (YB 0 j.toNat,δ1) else none)=some (ds,δ'):=q
   split at q
   ·rename_i hj
    cases q
    have p62:(2:Int) ^ 62=4611686018427387904:=by decide
    refine⟨B,O,δ,_,_,S,h1,fun v H1 R1=>⟨j,?_,by rw[p62];exact hj.1,by rw[p62];exact hj.2,k _ [] H1 (R1.sta.keepV fun _ z=>nomatch z) R1.frm R1.pur QL⟩⟩
    have r:=R1.rep
    cases r
    rfl
   ·cases q
  |_=>cases q
theorem T1{tg:Expr}{p':Pos}(hg:Gl X "range") (hm:X.mg "range"=none) (h:PE X a (TV K ml pa ta ia fa)) (h':PE X b (TV K ml pb tb ib fb)) (hs:starEach [a,b] X.env=[(false,eval a X.env),(false,eval b X.env)]:=by rfl) (hs2:starEach [b] X.env=[(false,eval b X.env)]:=by rfl)
  (he : starEach (a :: [b]) X.env = (false,eval a X.env) :: starEach [b] X.env := by rfl) (he2 : starEach (b :: []) X.env = (false,eval b X.env) :: starEach [] X.env := by rfl) :
  PI X tg (.Call (.Name "range" p') [a,b] [] pos) (KI K ml (pa && pb) (iR2 fa fb)) := (LX hg hm (cT h (cT h' bR he2) he) hs hs2).imp fun σ H R ⟨B,O,δ,ds,δ',S,q,k⟩ => by
 unfold iR2 at q
 cases h1:fa δ with
 | none => rw [h1] at q;cases q
 |some p=>
  obtain⟨x,δ1⟩:=p
  rw[h1] at q
  cases h2:fb δ1 with
  | none => simp [h2] at q
  |some p2=>
   obtain⟨y,δ2⟩:=p2
   simp only[Ak,h2] at q
   cases x with
   |int i=>
    cases y with
    |int j=>
     have q:(if(-4611686018427387904<=i/\i<4611686018427387904)/\ -4611686018427387904<=j/\j<4611686018427387904 then some (YB i (j - i).toNat,δ2) else none)=some (ds,δ'):=q
     split at q
     ·rename_i hj
      cases q
      have p62:(2:Int) ^ 62=4611686018427387904:=by decide
      refine⟨B,O,δ,_,_,S,h1,fun v H1 R1=>⟨B,O,δ1,_,_,R1.sta,h2,fun v2 H2 R2=>⟨i,j,?_,by rw[p62];exact⟨hj.1.1,hj.1.2,hj.2.1,hj.2.2⟩,k _ [] H2 (R2.sta.keepV fun _ z=>nomatch z) (R1.frm.trans R2.frm) (fun z=>by
       obtain⟨z1,z2⟩:=(Ac _ _).mp z
       exact(R1.pur z1).trans (R2.pur z2)) QL⟩⟩⟩
      have r1:=R1.rep
      have r2:=R2.rep
      cases r1
      cases r2
      rfl
     ·cases q
    |_=>cases q
   |_=>cases q
noncomputable def YA(gg:VG)(s:VS):List eN->VS
 |[]=>fun δ=>some (.nx δ)
 |d::r=>fun δ=>(gg d δ).bind fun δ1=>(s δ1).bind (again (YA gg s r))
noncomputable def P9(fi:VI)(gg:VG)(s:VS):VS:=fun δ=>(fi δ).bind fun p=>YA gg s p.1 p.2
theorem SD{tg iter:Expr}{body:List Stmt}{fi:VI}{gg:VG}(hp:PassesOwn (model X.prog X.w) X.A X.env X.xe)(hc:X.calm=true)(hi:PI X tg iter (KI K ml pu fi))(hg:PG X tg (G3 K ml gg))(hb:ZQ X body (W2 K ml g))
  (hs : ∀ x,foldedSetIterable iter X.env x = pure x := by intro _;rfl) : PS X (.For tg iter body [] pos) (W2 K ml (P9 fi gg g)) := (CH hp hc hi hg hb hs).imp fun D σ H ⟨B,O,δ,o,S,q,k⟩ => by
 unfold P9 at q
 cases h1:fi δ with
 | none => rw [h1] at q;cases q
 |some p=>
  obtain⟨ds,δ1⟩:=p
  rw[h1] at q
  have q:YA gg g ds δ1=some o:=q
  refine⟨B,O,δ,ds,δ1,S,h1,fun J kps H1 S1 _ _ wk=> ?_⟩
  refine⟨fun i m σ H=>m=ds.length - i/\i<=ds.length/\ ∃O δ,cX K ml {B with kp:=kps++B.kp} O H σ δ/\YA gg g (ds.drop i) δ=some o,⟨ds.length,rfl,Fd _,O,δ1,S1,q⟩,?_⟩
  rintro i m σ H ⟨rfl,hi,O,δ,S,hf⟩
  have w:=wk (Nn B O) H fun p hp=>S.kep p (Av _ hp)
  by_cases hlt:i<ds.length
  ·obtain ⟨go,yl⟩ := w.1 i ds[i] (by simp [hlt])
   rw[Cz hlt] at hf
   refine .inr ⟨go,fun σ' H'=> ∃O δ,cX K ml {B with kp:=kps++B.kp} O H' σ' δ/\YA gg g (ds.drop (i+1)) δ=some o,fun σ' H' w'=>⟨ds.length - (i+1),by omega,rfl,hlt,w'⟩,fun x H' hy=> ?_⟩
   obtain⟨sm,rx⟩:=yl x H' hy
   have hf:((gg ds[i] δ).bind fun δ1=>(g δ1).bind (again (YA gg g (ds.drop (i+1)))))=some o:=hf
   cases h2:gg ds[i] δ with
   | none => rw [h2] at hf;cases hf
   |some δ2=>
    rw[h2] at hf
    have hf:(g δ2).bind (again (YA gg g (ds.drop (i+1))))=some o:=hf
    refine⟨_,O,δ,ds[i],δ2,S.same sm,rx,h2,fun σ2 O2 S2 _=> ?_⟩
    cases h3:g δ2 with
    |none=>rw[h3] at hf;cases hf
    |some z=>
     rw[h3] at hf
     refine⟨_,O2,δ2,z,S2,h3,?_⟩
     cases z with
     |nx δ3=>exact fun σ' H' O' S'=>⟨O',δ3,S',hf⟩
     |ct δ3=>exact fun σ' H' O' S'=>⟨O',δ3,S',hf⟩
     |bk δ3=>cases hf;exact fun σ' H' O' S'=>k σ' H' O' S'.unkeep
     |rt d δ3=>cases hf;exact fun v σ' H' O' S' r=>k v σ' H' O' S'.unkeep r
  ·have e : i = ds.length := by omega
   subst e
   rw[Ei] at hf
   cases hf
   exact .inl ⟨w.2,k σ H O S.unkeep⟩
end
section
variable{X:Cx}{K:Ae}{ml:List Nat}{e a b c:Expr}{es:List Expr}{pa ta ia pb tb ib pc tc ic pu bt bi ps bs:Bool}{fa fb fc f:VF}{B B':Bs}{O:Nat->Option Addr}{H H1 H':Hp}{σ:St}{δ δ':Ev}{v:V}{d:eN}{p:Addr}{pos:Pos}{st:Stmt}{rest:List Stmt}{g g':VS}
theorem cX.call{P:Addr->Prop}(S:cX K ml B O H σ δ)(hl:δ'.length=δ.length)(h: ∀i:Nat,(δ'[i]? =δ[i]? /\ ∀a,O i=some a-> ¬P a)∨ ∃a d',O i=some a/\δ'[i]? =some (Sl.ow d')/\UL K (Nn B O) H' a d')
  (f:Fr P H H') (hP: ∀a,P a->OA O a):cX K ml B O H' σ δ' where
 len:=by rw[hl,S.len]
 va := fun i d e => by
  rcases h i with⟨e1,_⟩|⟨a,d',_,e1,_⟩
  ·rw[e1] at e
   obtain⟨v,e2,r⟩:=S.va i d e
   exact⟨v,e2,r.fr f (fun a z=> .inr (hP a z)) fun a z=> .inr (hP a z)⟩
  ·rw[e1] at e
   cases e
 ow := fun i d e => by
  rcases h i with⟨e1,n⟩|⟨a,d',e2,e1,w⟩
  ·rw[e1] at e
   obtain⟨a,e2,e3,w⟩:=S.ow i d e
   exact⟨a,e2,e3,w.fr f (fun a z=> .inr (hP a z)) (n a e2)⟩
  ·rw[e1] at e
   cases e
   obtain⟨d0,q0⟩:=S.dom i a e2
   obtain⟨a',e3,e4,_⟩:=S.ow i d0 q0
   rw[e2] at e3
   cases e3
   exact⟨a,e2,e4,w⟩
 dom:=fun i a e=>by
  rcases h i with⟨e1,n⟩|⟨a,d',e2,e1,w⟩
  ·obtain⟨d0,q0⟩:=S.dom i a e
   exact⟨d0,e1.trans q0⟩
  ·exact⟨d',e1⟩
 inj:=S.inj
 old:=S.old
 zin:=fun a h'=>by
  obtain⟨o,q⟩:=S.zin a h'
  exact⟨o,f a o q fun z=>by
   obtain⟨i,e⟩:=hP a z
   exact absurd h' (S.old i a e).1⟩
 frm:=fun b o q n=>by
  have h1:=S.frm b o q n
  refine f b o h1 fun z=> ?_
  obtain⟨i,e⟩:=hP b z
  rcases(S.old i b e).2 with w|w
  ·exact n w
  ·rw[q] at w;cases w
 par:=S.par
 pin:=fun a h'=>by
  obtain⟨o,q⟩:=S.pin a h'
  by_cases z:P a
  ·obtain⟨i,e⟩:=hP a z
   rcases h i with⟨_,n⟩|⟨a',d',e2,e1,w⟩
   ·exact absurd z (n a e)
   ·rw[e] at e2
    cases e2
    obtain⟨o,q,_⟩:=w.soft
    exact⟨o,q⟩
  ·exact⟨o,f a o q fun y=>absurd y z⟩
 kep:=fun p hp=>(S.kep p hp).fr f (fun a z=> .inr (hP a z)) fun a z=> .inr (hP a z)
abbrev cZ:=List eN->Option (eN×List eN)
def T6(ml:List Nat)(vs:List V):Addr->Prop:=fun a=> ∃i∈ml,vs[i]? =some (.ref a)
def Zp(Z:Addr->Prop)(ml:List Nat)(vs:List V):Addr->Prop:=fun a=>Z a∨T6 ml vs a
structure GS(K:Ae)(ml:List Nat)(Z:Addr->Prop)(H:Hp)(vs:List V)(ds:List eN):Prop where
 len:vs.length=ds.length
 mem: ∀i∈ml,i<ds.length
 va: ∀(i:Nat) (d:eN),i∉ml->ds[i]? =some d-> ∃v,vs[i]? =some v/\dH K (Zp Z ml vs) H (Zp Z ml vs) v d
 ow: ∀(i:Nat) (d:eN),i∈ml->ds[i]? =some d-> ∃a,vs[i]? =some (.ref a)/\UL K (Zp Z ml vs) H a d/\¬Z a
 inj: ∀(i j:Nat) (a:Addr),i∈ml->j∈ml->vs[i]? =some (.ref a)->vs[j]? =some (.ref a)->i=j
 zin: ∀a,Z a-> ∃o,H a=some o
def spV(K:Ae)(ml:List Nat)(n:Nat)(F:cZ):Sp:=fun vs H Q _=> ∃(Z:Addr->Prop) (ds:List eN) (r:eN) (os:List eN),ds.length=n/\GS K ml Z H vs ds/\F ds=some (r,os)∧
 ∀v H',Fr (T6 ml vs) H H'->(∀(k i:Nat) (a:Addr) (o:eN),ml[k]? =some i->vs[i]? =some (.ref a)->os[k]? =some o->UL K (Zp Z ml vs) H' a o)->dH K (Zp Z ml vs) H' (Zp Z ml vs) v r->Q v H'
noncomputable def ZA(ml:List Nat)(n:Nat)(ds:List eN):Ev:=ds.mapIdx (fun i d=>if i∈ml then Sl.ow d else Sl.va d)++Aq (n - ds.length) Sl.no
noncomputable def YT(ml:List Nat)(δ:Ev):Option (List eN):=ml.mapM fun(i:Nat)=>match(δ[i]? :Option Sl) with
 |some (Sl.ow d)=>some d
 |_=>none
noncomputable def b5(n:Nat)(ml:List Nat)(g:VS):cZ:=fun ds=>(g (ZA ml n ds)).bind fun o=>match o with
 | .rt d δ=>(YT ml δ).map fun os=>(d,os)
 | .nx δ=>(YT ml δ).map fun os=>(.non,os)
 |_=>none
theorem P4: ∀{ml:List Nat} {δ:Ev} {os:List eN},YT ml δ=some os-> ∀(k i:Nat) (o:eN),ml[k]? =some i->os[k]? =some o->δ[i]? =some (.ow o)
 | [],_,_,h,k,i,o,e1,e2 => by simp at e1
 | j :: ml,δ,os,h,k,i,o,e1,e2 => by
  unfold YT at h
  rw[Nq] at h
  split at h
  ·rename_i d hd
   cases h2:(ml.mapM fun(i:Nat)=>match(δ[i]? :Option Sl) with
    |some (Sl.ow d)=>some d
    |_=>none:Option (List eN)) with
   | none => rw [h2] at h;cases h
   |some os2=>
    rw[h2] at h
    cases h
    cases k with
    |zero=>
     cases e1
     cases e2
     exact hd
    |succ k=>exact P4 (ml:=ml) h2 k i o (by simpa using e1) (by simpa using e2)
  ·cases h
theorem TQ{N:List Str}{Z:Addr->Prop}{vs:List V}{ds:List eN}(A:GS K ml Z H vs ds)(hn:ds.length<=N.length):
  ∃mu:Nat->Option Addr,(∀i a,mu i=some a↔i∈ml/\vs[i]? =some (.ref a))/\cX K ml ⟨Z,T6 ml vs,H,mu,[]⟩ mu H (start N vs) (ZA ml N.length ds):=by
 classical
 let mu : Nat -> Option Addr := fun i => if i ∈ ml then (match vs[i]? with
  | some (.ref a) => some a
  | _ => none) else none
 have hmu: ∀i a,mu i=some a↔i∈ml/\vs[i]? =some (.ref a):=fun i a=>by
  show(if i∈ml then(match vs[i]? with
   | some (.ref a) => some a
   | _ => none) else none) = some a ↔ _
  by_cases hi:i∈ml
  ·rw[if_pos hi]
   constructor
   ·intro h
    split at h
    ·rename_i b hb
     cases h
     exact⟨hi,hb⟩
    ·cases h
   ·rintro ⟨_,h⟩
    rw[h]
  ·rw[if_neg hi]
   exact⟨(fun h=>nomatch h),fun h=>absurd h.1 hi⟩
 have hN: ∀a,Nn ⟨Z,T6 ml vs,H,mu,[]⟩ mu a->Zp Z ml vs a:=fun a h=>by
  rcases h with h|⟨i,h⟩
  ·exact .inl h
  ·exact .inr ⟨i,(hmu i a).mp h⟩
 have kc: ∀(i:Nat) (s:Sl),(ZA ml N.length ds)[i]? =some s->(∃d,ds[i]? =some d/\s=if i∈ml then .ow d else .va d)∨s= .no:=fun i s h=>by
  unfold ZA at h
  by_cases hi:i<ds.length
  ·rw [Ai (by simpa using hi),Kb] at h
   cases q:ds[i]? with
   |none=>rw[q] at h;cases h
   |some d=>rw[q] at h;cases h;exact .inl ⟨d,rfl,rfl⟩
  ·rw [Bm (by simpa using hi),Br] at h
   split at h
   ·cases h;exact .inr rfl
   ·cases h
 have hst: ∀(i:Nat) (v:V),vs[i]? =some v->(start N vs)[i]? =some (some v):=fun i v h=>by
  unfold start
  have hi:i<vs.length:=(Ah.mp h).1
  rw[Ai (by simpa using hi),Cj,h]
  rfl
 refine⟨mu,hmu,?_,fun i d q=> ?_,fun i d q=> ?_,fun i a q=> ?_,fun i j a q1 q2=> ?_,fun i a q=> ?_,A.zin,Fr.refl _ _,⟨fun i a q=>((hmu i a).mp q).1,fun i _=>rfl⟩,fun a q=> ?_,fun p hp=>nomatch hp⟩
 ·unfold start ZA
  have:=A.len
  simp
  omega
 ·rcases kc i _ q with⟨e,h1,h2⟩|h
  ·by_cases hi:i∈ml
   ·rw[if_pos hi] at h2;cases h2
   ·rw[if_neg hi] at h2
    cases h2
    obtain⟨v,e1,r⟩:=A.va i d hi h1
    exact⟨v,hst i v e1,r.mono hN hN⟩
  ·cases h
 ·rcases kc i _ q with⟨e,h1,h2⟩|h
  ·by_cases hi:i∈ml
   ·rw[if_pos hi] at h2
    cases h2
    obtain⟨a,e1,w,_⟩:=A.ow i d hi h1
    exact⟨a,(hmu i a).mpr ⟨hi,e1⟩,hst i _ e1,w.mono hN⟩
   ·rw[if_neg hi] at h2;cases h2
  ·cases h
 ·obtain⟨hi,e1⟩:=(hmu i a).mp q
  have hl:=A.mem i hi
  refine⟨ds[i],?_⟩
  unfold ZA
  rw[Ai (by simpa using hl),Kb]
  simp[hl,hi]
 ·exact A.inj i j a ((hmu i a).mp q1).1 ((hmu j a).mp q2).1 ((hmu i a).mp q1).2 ((hmu j a).mp q2).2
 ·obtain⟨hi,e1⟩:=(hmu i a).mp q
  refine⟨fun z=> ?_,.inl ⟨i,hi,e1⟩⟩
  obtain⟨a',e2,_,n⟩:=A.ow i (ds[i]'(A.mem i hi)) hi (by simp[A.mem i hi])
  rw[e1] at e2
  cases e2
  exact n z
 ·obtain⟨i,hi,e1⟩:=q
  obtain⟨a',e2,w,n⟩:=A.ow i (ds[i]'(A.mem i hi)) hi (by simp[A.mem i hi])
  rw[e1] at e2
  cases e2
  obtain⟨o,q,_⟩:=w.soft
  exact⟨o,q⟩
theorem DR{N ps:List Str}{vs:List V}{Q:VK}{E:XK}(hps:ps.length<=N.length)(h:spV K ml ps.length (b5 N.length ml g) vs H Q E):W2 K ml g {nx:=fun _ H'=>Q .non H',rt:=Q} (start N vs) H:=by
 obtain⟨Z,ds,r,os,hn,AV,hF,k⟩:=h
 obtain⟨mu,hmu,S0⟩:=TQ (N:=N) AV (by rw[hn];exact hps)
 unfold b5 at hF
 cases h1:g (ZA ml N.length ds) with
 | none => rw [h1] at hF;cases hF
 |some o=>
  rw[h1] at hF
  refine⟨_,mu,_,o,S0,h1,?_⟩
  have fin: ∀(δ':Ev) (v:V) (σ':St) (H':Hp) (O':Nat->Option Addr),YT ml δ'=some os->cX K ml ⟨Z,T6 ml vs,H,mu,[]⟩ O' H' σ' δ'->dH K (rz ⟨Z,T6 ml vs,H,mu,[]⟩) H' (rz ⟨Z,T6 ml vs,H,mu,[]⟩) v r->Q v H':=fun δ' v σ' H' O' ho S' hr'=>by
   have hz: ∀a,Zp Z ml vs a->rz ⟨Z,T6 ml vs,H,mu,[]⟩ a:=fun a h=>by
    rcases h with h|⟨i,hi,e⟩
    ·exact .inl h
    ·exact .inr ⟨i,(hmu i a).mpr ⟨hi,e⟩⟩
   refine k v H' S'.frm (fun kk i a o e1 e2 e3=> ?_) (hr'.mono hz hz)
   have hd:=P4 ho kk i o e1 e3
   obtain⟨a',e4,_,w⟩:=S'.ow i o hd
   have hi:i∈ml:=Dx e1
   have:=(S'.par.2 i hi).trans ((hmu i a).mpr ⟨hi,e2⟩)
   rw[this] at e4
   cases e4
   refine w.mono fun b hb=> ?_
   rcases hb with hb|⟨j,hj,e5⟩
   ·exact .inl hb
   ·exact .inr ⟨j,(S'.par.2 j hj).trans ((hmu j b).mpr ⟨hj,e5⟩)⟩
  cases o with
  |rt d δ'=>
   have hF:(YT ml δ').map (fun os=>(d,os))=some (r,os):=hF
   cases h2:YT ml δ' with
   |none=>rw[h2] at hF;cases hF
   |some os'=>
    rw[h2] at hF
    cases hF
    exact fun v σ' H' O' S' hr'=>fin δ' v σ' H' O' h2 S' hr'
  |nx δ'=>
   have hF:(YT ml δ').map (fun os=>(eN.non,os))=some (r,os):=hF
   cases h2:YT ml δ' with
   |none=>rw[h2] at hF;cases hF
   |some os'=>
    rw[h2] at hF
    cases hF
    exact fun σ' H' O' S'=>fin δ' .non σ' H' O' h2 S' .non
  |bk δ'=>cases hF
  |ct δ'=>cases hF
theorem aW.okV{P:Ar}{w:World}{mg:Str->Option Value}{base:Heap}{x qual:Str}{st:Stmt}{f:Addr}{fd:Ch}{N ps:List Str}{k:Nat}(F:aW K x qual st f fd)(S:dY N ps (eM st))(hps:ps.length<=N.length)
  (al: ∀(cdv:Value) (A:Bo) (outer:List Env) (s:Ab) (H:Hp) (E:XK),b7 k (A.deeper (envOfC qual (eM st) s.heap.objs.size f cdv))→
   ZQ (W6 CX0 P w K mg base N qual (eM st) f cdv A outer s H E).nox (cY st) (W2 K ml g)):cQ P w K mg base CX0 (k+1) f fd ps (spV K ml ps.length (b5 N.length ml g)):=by
 refine F.ok S (fun vs H Q E h=> ?_) (fun cdv A outer s H vs Q E hr h=>⟨_,al cdv A outer s H E hr,DR hps h⟩)
 obtain⟨Z,ds,r,os,hn,AV,_⟩:=h
 rw[AV.len,hn]
inductive AV where
 |d (d:eN)|o (j:Nat)
inductive Y5(K:Ae)(N:Addr->Prop)(H:Hp)(σ:St):List V->List AV->Prop
 |nil:Y5 K N H σ [] []
 |d {v:V} {vs:List V} {d:eN} {as:List AV}:dH K N H N v d->Y5 K N H σ vs as->Y5 K N H σ (v::vs) (.d d::as)
 |o {v:V} {vs:List V} {j:Nat} {as:List AV}:σ[j]? =some (some v)->Y5 K N H σ vs as->Y5 K N H σ (v::vs) (.o j::as)
abbrev UN:=Ev->Option (List AV×Ev)
structure ResG(K:Ae)(ml:List Nat)(B:Bs)(O:Nat->Option Addr)(H:Hp)(σ:St)(pu:Bool)(H':Hp)(δ':Ev)(vs:List V)(as:List AV):Prop where
 sta:cX K ml B O H' σ δ'
 frm:Fr (OA O) H H'
 pur:pu=true->cM H H'
 rep:Y5 K (Nn B O) H' σ vs as
def MP(K:Ae)(ml:List Nat)(pu:Bool)(f:UN):TA:=fun σ H Q=> ∃B O δ as δ',cX K ml B O H σ δ/\f δ=some (as,δ')/\ ∀vs H',ResG K ml B O H σ pu H' δ' vs as->Q vs H'
noncomputable def dM:UN:=fun δ=>some ([],δ)
noncomputable def aE(f:VF)(fs:UN):UN:=fun δ=>(f δ).bind fun p=>(fs p.2).map fun q=>(.d p.1::q.1,q.2)
noncomputable def slot(δ:Ev)(j:Nat):Option eN:=match δ[j]? with
 |some (.va d)=>some d
 |some (.ow d)=>some d
 |_=>none
noncomputable def aO(j:Nat)(fs:UN):UN:=fun δ=>(slot δ j).bind fun _=>(fs δ).map fun q=>(.o j::q.1,q.2)
theorem eG:PA X [] (MP K ml true dM):=bR.imp fun σ H Q q0=>by
 obtain⟨B,O,δ,d,δ',S,q,k⟩:=q0
 cases q
 exact k [] H ⟨S,Fr.refl _ _,fun _=>cM.refl _,.nil⟩
theorem eH{fs:UN}(ha:PE X a (TV K ml pa true true fa))(hr:PA X es (MP K ml ps fs))(hs:starEach (a::es) X.env=(false,eval a X.env)::starEach es X.env:=by rfl):PA X (a::es) (MP K ml (pa && ps) (aE fa fs)):=(cT ha hr hs).imp fun σ H Q q0=>by
 obtain⟨B,O,δ,as,δ2,S,q,k⟩:=q0
 unfold aE at q
 cases h1:fa δ with
 | none => rw [h1] at q;cases q
 |some p=>
  obtain⟨x,δ1⟩:=p
  rw[h1] at q
  have q:((fs δ1).map fun q=>(AV.d x::q.1,q.2))=some (as,δ2):=q
  cases h2:fs δ1 with
  |none=>rw[h2] at q;cases q
  |some p2=>
   rw[h2] at q
   cases q
   refine⟨B,O,δ,x,δ1,S,h1,fun v1 H1 R1=>⟨B,O,δ1,_,_,R1.sta,h2,fun vs H2 R2=>k _ H2 ⟨R2.sta,R1.frm.trans R2.frm,fun z=> ?_,.d (R1.rep.fr R2.frm (fun a z=> .inr z) fun a z=> .inr z) R2.rep⟩⟩⟩
   obtain⟨z1,z2⟩:=(Ac _ _).mp z
   exact(R1.pur z1).trans (R2.pur z2)
theorem TM{j:Nat}{d:eN}(h:slot δ j=some d):δ[j]? =some (.va d)∨δ[j]? =some (.ow d):=by
 unfold slot at h
 split at h
 ·cases h;exact .inl (by assumption)
 ·cases h;exact .inr (by assumption)
 ·cases h
theorem cX.slot(S:cX K ml B O H σ δ){j:Nat}{d:eN}(h:slot δ j=some d): ∃v,σ[j]? =some (some v):=by
 rcases TM h with h|h
 ·obtain⟨v,e,_⟩:=S.va j d h
  exact⟨v,e⟩
 ·obtain⟨a,_,e,_⟩:=S.ow j d h
  exact⟨_,e⟩
theorem VL{fs:UN}{j:Nat}(ha:PE X a (OS j))(hr:PA X es (MP K ml ps fs))(hs:starEach (a::es) X.env=(false,eval a X.env)::starEach es X.env:=by rfl):PA X (a::es) (MP K ml ps (aO j fs)):=(cT ha hr hs).imp fun σ H Q q0=>by
 obtain⟨B,O,δ,as,δ2,S,q,k⟩:=q0
 unfold aO at q
 cases h1:slot δ j with
 | none => rw [h1] at q;cases q
 |some d=>
  rw[h1] at q
  have q:((fs δ).map fun q=>(AV.o j::q.1,q.2))=some (as,δ2):=q
  cases h2:fs δ with
  |none=>rw[h2] at q;cases q
  |some p2=>
   rw[h2] at q
   cases q
   obtain⟨v,e⟩:=S.slot h1
   exact⟨v,e,B,O,δ,_,_,S,h2,fun vs H2 R2=>k _ H2 ⟨R2.sta,R2.frm,R2.pur,.o e R2.rep⟩⟩
theorem Y5.length: ∀{N:Addr->Prop} {vs:List V} {as:List AV},Y5 K N H σ vs as->vs.length=as.length
 |_,_,_,.nil=>rfl
 |_,_,_,.d _ t=>congrArg (· +1) (Y5.length t)
 |_,_,_,.o _ t=>congrArg (· +1) (Y5.length t)
theorem Y5.getD: ∀{N:Addr->Prop} {vs:List V} {as:List AV} {i:Nat} {d:eN},Y5 K N H σ vs as->as[i]? =some (.d d)-> ∃v,vs[i]? =some v/\dH K N H N v d
 |_,_,_,_,_,.nil,e=>by simp at e
 |_,_,_,0,_,.d h _,e=>by simp at e;subst e;exact⟨_,rfl,h⟩
 |_,_,_,0,_,.o h _,e=>by simp at e
 |_,_,_,i+1,_,.d _ t,e=>by
  obtain⟨u,h1,h2⟩:=Y5.getD (i:=i) t (by simpa using e)
  exact⟨u,by simpa using h1,h2⟩
 |_,_,_,i+1,_,.o _ t,e=>by
  obtain⟨u,h1,h2⟩:=Y5.getD (i:=i) t (by simpa using e)
  exact⟨u,by simpa using h1,h2⟩
theorem Y5.getO: ∀{N:Addr->Prop} {vs:List V} {as:List AV} {i j:Nat},Y5 K N H σ vs as->as[i]? =some (.o j)-> ∃v,vs[i]? =some v/\σ[j]? =some (some v)
 |_,_,_,_,_,.nil,e=>by simp at e
 |_,_,_,0,_,.d h _,e=>by simp at e
 |_,_,_,0,_,.o h _,e=>by simp at e;subst e;exact⟨_,rfl,h⟩
 |_,_,_,i+1,_,.d _ t,e=>by
  obtain⟨u,h1,h2⟩:=Y5.getO (i:=i) t (by simpa using e)
  exact⟨u,by simpa using h1,h2⟩
 |_,_,_,i+1,_,.o _ t,e=>by
  obtain⟨u,h1,h2⟩:=Y5.getO (i:=i) t (by simpa using e)
  exact⟨u,by simpa using h1,h2⟩
noncomputable def AH(δ:Ev):AV->Option eN
 | .d d=>some d
 | .o j=>slot δ j
noncomputable def aB(δ:Ev):List AV->Option (List eN)
 |[]=>some []
 |a::as=>(AH δ a).bind fun d=>(aB δ as).map fun ds=>d::ds
theorem SI: ∀{as:List AV} {ds:List eN},aB δ as=some ds->as.length=ds.length/\ ∀(i:Nat) (d:eN),ds[i]? =some d-> ∃a,as[i]? =some a/\AH δ a=some d
 | [],ds,h => by cases h;exact ⟨rfl,fun i d e => by simp at e⟩
 | a :: as,ds,h => by
  unfold aB at h
  cases h1:AH δ a with
  | none => rw [h1] at h;cases h
  |some d=>
   rw[h1] at h
   cases h2:aB δ as with
   | none => simp [h2] at h
   |some ds'=>
    simp only[Ak,h2] at h
    cases h
    obtain⟨l,g⟩:=SI h2
    refine⟨by simp[l],fun i e he=> ?_⟩
    cases i with
    |zero=>cases he;exact⟨a,rfl,h1⟩
    |succ i=>
     obtain⟨b,e1,e2⟩:=g i e (by simpa using he)
     exact⟨b,by simpa using e1,e2⟩
noncomputable def YY:List AV->List Nat
 |[]=>[]
 | .d _::as=>YY as
 | .o j::as=>j::YY as
theorem WL: ∀{as:List AV} {i j:Nat},as[i]? =some (.o j)->j∈YY as
 |[],_,_,e=>by simp at e
 | .d _::as,0,j,e=>by simp at e
 | .o k::as,0,j,e=>by simp at e;subst e;exact Bz
 | .d _::as,i+1,j,e=>WL (as:=as) (i:=i) (by simpa using e)
 | .o k::as,i+1,j,e=>Ay _ (WL (as:=as) (i:=i) (by simpa using e))
theorem M4: ∀{as:List AV} {j:Nat},j∈YY as-> ∃i:Nat,as[i]? =some (AV.o j)
 | [],_,h => nomatch h
 | .d _ :: as,j,h => by
  obtain⟨i,e⟩:=M4 (as:=as) h
  exact⟨i+1,by simpa using e⟩
 | .o k :: as,j,h => by
  rcases Ba.mp h with e|e
  ·exact ⟨0,by rw [e];rfl⟩
  ·obtain⟨i,e⟩:=M4 (as:=as) e
   exact⟨i+1,by simpa using e⟩
theorem RG: ∀{as:List AV} {i k j:Nat},(YY as).Nodup->as[i]? =some (.o j)->as[k]? =some (.o j)->i=k
 |[],_,_,_,_,e,_=>by simp at e
 | .d _::as,0,_,j,_,e,_=>by simp at e
 | .d _::as,_+1,0,j,_,_,e=>by simp at e
 | .d _::as,i+1,k+1,j,n,e1,e2=>congrArg (· +1) (RG (as:=as) n (by simpa using e1) (by simpa using e2))
 | .o x::as,0,0,j,_,_,_=>rfl
 | .o x::as,0,k+1,j,n,e1,e2=>by
  simp at e1
  subst e1
  have h:as[k]? =some (.o x):=by simpa using e2
  exact absurd (WL h) (Ea.mp n).1
 | .o x::as,i+1,0,j,n,e1,e2=>by
  simp at e2
  subst e2
  have h:as[i]? =some (.o x):=by simpa using e1
  exact absurd (WL h) (Ea.mp n).1
 | .o x::as,i+1,k+1,j,n,e1,e2=>congrArg (· +1) (RG (as:=as) (Ea.mp n).2 (by simpa using e1) (by simpa using e2))
noncomputable def M7(δ:Ev)(as:List AV)(i:Nat):Bool:=match as[i]? with
 |some (.o j)=>match δ[j]? with
  |some (.ow _)=>true
  |_=>false
 |_=>false
noncomputable def Z9(mF:List Nat):List AV->Nat->Bool
 |[],_=>true
 | .d _::as,i=>Z9 mF as (i+1)
 | .o _::as,i=>decide (i∈mF) && Z9 mF as (i+1)
theorem YC{mF:List Nat}: ∀{as:List AV} {k i j:Nat},Z9 mF as k=true->as[i]? =some (.o j)->k+i∈mF
 |[],_,_,_,_,e=>by simp at e
 | .d _::as,k,0,j,h,e=>by simp at e
 | .o _::as,k,0,j,h,e=>by
  simp only[Z9,Ac,decide_eq_true_eq] at h
  exact h.1
 | .d _::as,k,i+1,j,h,e=>by
  have:=YC (as:=as) (k:=k+1) (i:=i) (j:=j) h (by simpa using e)
  rwa[show k+(i+1)=k+1+i by omega]
 | .o _::as,k,i+1,j,h,e=>by
  simp only[Z9,Ac] at h
  have:=YC (as:=as) (k:=k+1) (i:=i) (j:=j) h.2 (by simpa using e)
  rwa[show k+(i+1)=k+1+i by omega]
noncomputable def UY:eN->Bool
 | .lst ds=>UX ds
 | .dct _ ds=>UX ds
 |_=>false
theorem UL.kids{N N':Addr->Prop}{a:Addr}(w:UL K N H a d)(h:UY d=true):UL K N' H a d:=by
 cases w with
 |lst q r=>exact .lst q (r.hard h)
 |dct q r=>exact .dct q (r.hard h)
noncomputable def ZM(as:List AV):List Nat->List eN->Ev->Ev
 |i::is,o::os,δ=>match as[i]? with
  |some (.o j)=>ZM as is os (δ.set j (.ow o))
  |_=>ZM as is os δ
 |_,_,δ=>δ
theorem XH{as:List AV}: ∀{is:List Nat} {os:List eN} {δ:Ev},(ZM as is os δ).length=δ.length
 |[],_,_=>rfl
 |_::_,[],_=>rfl
 |i::is,o::os,δ=>by
  unfold ZM
  split
  ·rw[XH,Db]
  ·rw[XH]
theorem U5{as:List AV}: ∀{is:List Nat} {os:List eN} {δ:Ev} (j:Nat),is.length=os.length->j<δ.length→
  (∃(k i:Nat) (o:eN),is[k]? =some i/\os[k]? =some o/\as[i]? =some (AV.o j)/\(ZM as is os δ)[j]? =some (Sl.ow o))∨((∀i∈is,as[i]? ≠some (AV.o j))/\(ZM as is os δ)[j]? =δ[j]?)
 | [],[],δ,j,_,_ => .inr ⟨(fun i h => nomatch h),rfl⟩
 | i :: is,o :: os,δ,j,hl,hj => by
  unfold ZM
  split
  ·rename_i j0 e0
   rcases U5 (is:=is) (os:=os) (δ:=δ.set j0 (.ow o)) j (by simpa using hl) (by rw[Db];exact hj) with⟨k,i',o',h1,h2,h3,h4⟩|⟨h1,h2⟩
   ·exact .inl ⟨k + 1,i',o',by simpa using h1,by simpa using h2,h3,h4⟩
   ·by_cases hjj:j=j0
    ·subst hjj
     rw[By hj] at h2
     exact .inl ⟨0,i,o,rfl,rfl,e0,h2⟩
    ·rw[Az (Fn hjj)] at h2
     refine .inr ⟨fun i' hi'=> ?_,h2⟩
     rcases Ba.mp hi' with z|z
     ·rw[z,e0]
      intro w
      cases w
      exact hjj rfl
     ·exact h1 i' z
  ·rename_i hn
   rcases U5 (is:=is) (os:=os) (δ:=δ) j (by simpa using hl) hj with⟨k,i',o',h1,h2,h3,h4⟩|⟨h1,h2⟩
   ·exact .inl ⟨k + 1,i',o',by simpa using h1,by simpa using h2,h3,h4⟩
   ·refine .inr ⟨fun i' hi' => ?_,h2⟩
    rcases Ba.mp hi' with z|z
    ·rw[z]
     exact fun w=>hn j w
    ·exact h1 i' z
noncomputable def Y7(mF:List Nat)(as:List AV)(δ:Ev):Bool:=mF.all (M7 δ as) && decide (YY as).Nodup
noncomputable def ZT(mF:List Nat)(as:List AV)(r:eN)(os:List eN):Bool:=(Z9 mF as 0 || r.hard) && (Z9 mF as 0 || os.all UY) && decide (mF.length=os.length)
noncomputable def eA(n:Nat)(mF:List Nat)(F:cZ)(fs:UN):VF:=fun δ=>(fs δ).bind fun p=>(aB p.2 p.1).bind fun ds=>if ds.length=n/\Y7 mF p.1 p.2=true then(F ds).bind fun q=>if ZT mF p.1 q.1 q.2=true then some (q.1,ZM p.1 mF q.2 p.2) else none else none
theorem RZ{n:Nat}{mF:List Nat}{F:cZ}{fs:UN}{Q:VK}(h:TV K ml (ps && mF.isEmpty) true true (eA n mF F fs) σ H Q):NJ (spV K mF n F) [] E0 (MP K ml ps fs) σ H Q:=by
 obtain⟨B,O,δ,d,δ2,S,q,k⟩:=h
 unfold eA at q
 cases h1:fs δ with
 | none => rw [h1] at q;cases q
 |some p=>
  obtain⟨as,δ1⟩:=p
  rw[h1] at q
  have q : ((aB δ1 as).bind fun ds => if ds.length = n /\ Y7 mF as δ1 = true then (F ds).bind fun q => if ZT mF as q.1 q.2 = true then some (q.1,ZM as mF q.2 δ1) else none else none) = some (d,δ2) := q
  cases h2:aB δ1 as with
  | none => rw [h2] at q;cases q
  |some ds=>
   rw[h2] at q
   have q : (if ds.length = n /\ Y7 mF as δ1 = true then (F ds).bind fun q => if ZT mF as q.1 q.2 = true then some (q.1,ZM as mF q.2 δ1) else none else none) = some (d,δ2) := q
   split at q
   ·rename_i hc
    cases h3:F ds with
    | none => rw [h3] at q;cases q
    |some z=>
     obtain⟨r,os⟩:=z
     rw[h3] at q
     have q:(if ZT mF as r os=true then some (r,ZM as mF os δ1) else none)=some (d,δ2):=q
     split at q
     ·rename_i hb
      cases q
      obtain⟨hn,hc⟩:=hc
      simp only[Y7,Ac,decide_eq_true_eq,Cs] at hc
      simp only[ZT,Ac,decide_eq_true_eq] at hb
      obtain⟨hmu,hnd⟩:=hc
      obtain⟨⟨l6,lc⟩,ag⟩:=hb
      refine⟨B,O,δ,as,δ1,S,h1,fun vs H1 R=> ?_⟩
      show spV K mF n F (vs++[]) H1 Q E0
      rw[Cg]
      obtain⟨hal,hag⟩:=SI h2
      have hm: ∀i∈mF,∃j a x,as[i]? =some (.o j)/\δ1[j]? =some (.ow x)/\O j=some a/\vs[i]? =some (.ref a)/\UL K (Nn B O) H1 a x:=fun i hi=>by
       have:=hmu i hi
       unfold M7 at this
       split at this
       ·rename_i j ej
        split at this
        ·rename_i x ex
         obtain⟨a,e1,e2,w⟩:=R.sta.ow j x ex
         obtain⟨v,e3,e4⟩:=R.rep.getO ej
         rw[e2] at e4
         cases e4
         exact⟨j,a,x,ej,ex,e1,e3,w⟩
        ·cases this
       ·cases this
      have hP: ∀a,T6 mF vs a-> ∃i j,i∈mF/\as[i]? =some (.o j)/\O j=some a:=fun a q0=>by
       obtain⟨i,hi,e⟩:=q0
       obtain⟨j,a',x,e1,_,e2,e3,_⟩:=hm i hi
       rw[e] at e3
       cases e3
       exact⟨i,j,hi,e1,e2⟩
      have hPO: ∀a,T6 mF vs a->OA O a:=fun a h=>by
       obtain⟨i,j,_,_,e⟩:=hP a h
       exact⟨j,e⟩
      have hZp: ∀a,Zp (fun a=>Nn B O a/\ ∀j∈YY as,O j≠some a) mF vs a->Nn B O a:=fun a h=>by
       rcases h with h|h
       ·exact h.1
       ·exact .inr (hPO a h)
      refine⟨fun a=>Nn B O a/\ ∀j∈YY as,O j≠some a,ds,_,os,hn,⟨by rw[<- hal,R.rep.length],fun i hi=> ?_,fun i x hi e=> ?_,fun i x hi e=> ?_,fun i j a hi hj e1 e2=> ?_,fun a h=>R.sta.nin h.1⟩,h3,fun v H2 f2 w2 r2=> ?_⟩
      ·obtain⟨j,a,x,e1,_⟩:=hm i hi
       rw[<- hal]
       exact(Ah.mp e1).1
      ·obtain⟨a,e1,e2⟩:=hag i x e
       cases a with
       |d y=>
        cases e2
        obtain⟨v,e3,r⟩:=R.rep.getD e1
        exact⟨v,e3,r.mono hZp hZp⟩
       |o j=>
        obtain⟨v,e3,e4⟩:=R.rep.getO e1
        refine⟨v,e3,?_⟩
        rcases TM e2 with e5|e5
        ·obtain⟨v',e6,r⟩:=R.sta.va j x e5
         rw[e4] at e6
         cases e6
         exact r.mono hZp hZp
        ·obtain⟨a,e7,e6,w⟩:=R.sta.ow j x e5
         rw[e4] at e6
         cases e6
         refine(w.mono hZp).rep fun z=> ?_
         rcases z with z|z
         ·exact z.2 j (WL e1) e7
         ·obtain⟨i',j',hi',e8,e9⟩:=hP a z
          have:j=j':=R.sta.inj j j' a e7 e9
          subst this
          have:=RG hnd e1 e8
          subst this
          exact hi hi'
      ·obtain⟨a,e1,e2⟩:=hag i x e
       obtain⟨j,b,y,e3,e4,e5,e6,w⟩:=hm i hi
       rw[e3] at e1
       cases e1
       have e7 : slot δ1 j = some y := by unfold slot;rw [e4]
       have e2:slot δ1 j=some x:=e2
       rw[e7] at e2
       cases e2
       exact⟨b,e6,w.mono hZp,fun z=>z.2 j (WL e3) e5⟩
      ·obtain⟨j1,b1,_,e3,_,e4,e5,_⟩:=hm i hi
       obtain⟨j2,b2,_,e6,_,e7,e8,_⟩:=hm j hj
       rw[e1] at e5
       cases e5
       rw[e2] at e8
       cases e8
       have:j1=j2:=R.sta.inj j1 j2 a e4 e7
       subst this
       exact RG hnd e3 e6
      ·have S2:cX K ml B O H2 σ (ZM as mF os δ1):=by
        refine R.sta.call XH (fun j=> ?_) f2 hPO
        by_cases hj:j<δ1.length
        ·rcases U5 (as:=as) (is:=mF) (os:=os) (δ:=δ1) j ag hj with⟨kk,i,o,e1,e2,e3,e4⟩|⟨e1,e2⟩
         ·obtain⟨j',a,x,e5,_,e6,e7,_⟩:=hm i (Dx e1)
          rw[e3] at e5
          cases e5
          have w:=w2 kk i a o e1 e7 e2
          refine .inr ⟨a,o,e6,e4,?_⟩
          rcases(Gx _ _).mp lc with z|z
          ·refine w.mono fun b hb => ?_
           by_cases hjs: ∃j'∈YY as,O j'=some b
           ·obtain⟨j',hj',e8⟩:=hjs
            obtain⟨i',e9⟩:=M4 hj'
            have hi':=YC z e9
            rw[Ls] at hi'
            obtain⟨j'',a'',_,e10,_,e11,e12,_⟩:=hm i' hi'
            rw[e9] at e10
            cases e10
            rw[e8] at e11
            cases e11
            exact .inr ⟨i',hi',e12⟩
           ·exact .inl ⟨hb,fun j' hj' e=>hjs ⟨j',hj',e⟩⟩
          ·exact w.kids (Cs.mp z o (Dx e2))
         ·refine .inl ⟨e2,fun a ea hPa => ?_⟩
          obtain⟨i,j',hi,e3,e4⟩:=hP a hPa
          have:j=j':=R.sta.inj j j' a ea e4
          subst this
          exact e1 i hi e3
        ·refine .inl ⟨?_,fun a ea => ?_⟩
         ·rw [Bt (by rw [XH];omega),Bt (by omega)]
         ·obtain⟨x,ex⟩:=R.sta.dom j a ea
          exact absurd (Ah.mp ex).1 hj
       refine k v H2 ⟨S2,R.frm.trans (f2.mono hPO),fun z=> ?_,?_⟩
       ·obtain⟨z1,z2⟩:=(Ac _ _).mp z
        refine(R.pur z1).trans fun b o e=>f2 b o e fun w=> ?_
        obtain⟨i,hi,_⟩:=w
        rw[List.isEmpty_iff.mp z2] at hi
        cases hi
       ·rcases(Gx _ _).mp l6 with z|z
        ·have hN : ∀ a,Nn B O a -> Zp (fun a => Nn B O a /\ ∀ j ∈ YY as,O j ≠ some a) mF vs a := fun b hb => by
          by_cases hjs: ∃j'∈YY as,O j'=some b
          ·obtain⟨j',hj',e8⟩:=hjs
           obtain⟨i',e9⟩:=M4 hj'
           have hi':=YC z e9
           rw[Ls] at hi'
           obtain⟨j'',a'',_,e10,_,e11,e12,_⟩:=hm i' hi'
           rw[e9] at e10
           cases e10
           rw[e8] at e11
           cases e11
           exact .inr ⟨i',hi',e12⟩
          ·exact .inl ⟨hb,fun j' hj' e=>hjs ⟨j',hj',e⟩⟩
         exact r2.mono hN hN
        ·exact r2.hard z
     ·cases q
   ·cases q
theorem GI{x:Str}{kk j n:Nat}{qs:List Str}{mF:List Nat}{F:cZ}{ff:Addr}{p':Pos}{fs:UN}(hK:X.K=K)(D:DN X.prog X.w K X.mg X.base x kk qs (spV K mF n F) ff)(hr:b7 j X.A)(hk:kk<=j)(hg:Gl X x)(ha:PA X (e::es) (MP K ml ps fs))(hdb:(x==("__debug__":Str))=false:=by decide)
  (he:starEach (e::es) X.env=(false,eval e X.env)::starEach es X.env:=by rfl) (hpl:(Cu pos (starEach es X.env)).any (·.1)=false:=by rfl):
  PE X (.Call (.Name x p') (e::es) [] pos) (TV K ml (ps && mF.isEmpty) true true (eA n mF F fs)):=by
 subst hK
 exact(IG D hr hk hg ha hdb he hpl).imp fun _ _ _ h=>RZ h
end
section
variable{X:Cx}{K:Ae}{ml:List Nat}{e a b c:Expr}{es:List Expr}{pi pt pe pu bt bi ps bs:Bool}{f:VF}{B B':Bs}{O:Nat->Option Addr}{H H0 H1 H':Hp}{σ:St}{δ δ':Ev}{v:V}{d:eN}{p:Addr}{pos:Pos}{ix:List Nat}{nl:Nat}
noncomputable def aX(ix:List Nat)(δ:Ev):Ev:=ix.map fun i=>(δ[i]?).getD .no
noncomputable def UI(nl:Nat):Ev:=Aq nl Sl.no
noncomputable def bJ(n nl:Nat)(gg:VG)(tb:VB)(fe:VF):List eN->List eN->Ev->Option (List eN×Ev)
 |[],acc,δ=>some (acc,δ)
 |d::r,acc,δ=>(gg d (δ++UI nl)).bind fun δ1=>(tb δ1).bind fun p=>if p.1=true then(fe p.2).bind fun q=>if acc.length<16777216 then bJ n nl gg tb fe r (acc++[q.1]) (q.2.take n) else none else bJ n nl gg tb fe r acc (p.2.take n)
noncomputable def b3:List Nat->Ev->Ev->Ev
 |i::is,s::ss,δ=>match s with
  | .ow d=>b3 is ss (δ.set i (.ow d))
  |_=>b3 is ss δ
 |_,_,δ=>δ
noncomputable def bF(ix:List Nat)(nl:Nat)(fi:VI)(gg:VG)(tb:VB)(fe:VF):VF:=fun δ=>(fi δ).bind fun p=>(bJ ix.length nl gg tb fe p.1 [] (aX ix p.2)).map fun q=>(.lst q.1,b3 ix q.2 p.2)
noncomputable def Y6:VB:=fun δ=>some (true,δ)
theorem ZJ: ∀{ix:List Nat} {ss δ:Ev},(b3 ix ss δ).length=δ.length
 |[],_,_=>rfl
 |_::_,[],_=>rfl
 |i::is,s::ss,δ=>by
  cases s<;>simp only[b3]<;>rw[ZJ]<;>try rw[Db]
theorem ZI: ∀{ix:List Nat} {ss δ:Ev} (i:Nat),i<δ.length->ix.length=ss.length→
  (∃(j:Nat) (d:eN),ix[j]? =some i/\ss[j]? =some (Sl.ow d)/\(b3 ix ss δ)[i]? =some (Sl.ow d))∨((∀(j:Nat) (d:eN),ix[j]? =some i->ss[j]? ≠some (Sl.ow d))/\(b3 ix ss δ)[i]? =δ[i]?)
 | [],ss,δ,i,hi,hl => .inr ⟨(fun j d h => by simp at h),rfl⟩
 | k :: is,[],δ,i,hi,hl => by cases hl
 | k :: is,s :: ss,δ,i,hi,hl => by
  have hl2:is.length=ss.length:=by simpa using hl
  cases s with
  |ow d=>
   simp only[b3]
   rcases ZI (ix:=is) (ss:=ss) (δ:=δ.set k (.ow d)) i (by rw[Db];exact hi) hl2 with⟨j,d',h1,h2,h3⟩|⟨h1,h2⟩
   ·exact .inl ⟨j + 1,d',by simpa using h1,by simpa using h2,h3⟩
   ·by_cases hk:i=k
    ·subst hk
     rw[By hi] at h2
     exact .inl ⟨0,d,rfl,rfl,h2⟩
    ·rw[Az (Fn hk)] at h2
     refine .inr ⟨fun j d' e=> ?_,h2⟩
     cases j with
     |zero=>cases e;exact absurd rfl hk
     |succ j=>simpa using h1 j d' (by simpa using e)
  |va d=>
   simp only[b3]
   rcases ZI (ix:=is) (ss:=ss) (δ:=δ) i hi hl2 with⟨j,d',h1,h2,h3⟩|⟨h1,h2⟩
   ·exact .inl ⟨j + 1,d',by simpa using h1,by simpa using h2,h3⟩
   ·refine .inr ⟨fun j d' e => ?_,h2⟩
    cases j with
    |zero=>simp
    |succ j=>simpa using h1 j d' (by simpa using e)
  |no=>
   simp only[b3]
   rcases ZI (ix:=is) (ss:=ss) (δ:=δ) i hi hl2 with⟨j,d',h1,h2,h3⟩|⟨h1,h2⟩
   ·exact .inl ⟨j + 1,d',by simpa using h1,by simpa using h2,h3⟩
   ·refine .inr ⟨fun j d' e => ?_,h2⟩
    cases j with
    |zero=>simp
    |succ j=>simpa using h1 j d' (by simpa using e)
noncomputable def Oc(ix:List Nat)(O:Nat->Option Addr):Nat->Option Addr:=fun j=>(ix[j]?).bind O
noncomputable def Bc(ix:List Nat)(B:Bs)(O:Nat->Option Addr)(H0:Hp)(D:Addr)(kp:List (V×eN)):Bs:=
 ⟨fun a=>(B.Z a∨a=D)∨ ∃i,O i=some a/\i∉ix,OA (Oc ix O),H0,Oc ix O,kp⟩
theorem TF{D:Addr}{kp:List (V×eN)}: ∀a,Nn (Bc ix B O H0 D kp) (Oc ix O) a->Nn B O a∨a=D:=fun a h=>by
 rcases h with((h|h)|⟨i,h,_⟩)|⟨j,h⟩
 ·exact .inl (.inl h)
 ·exact .inr h
 ·exact .inl (.inr ⟨i,h⟩)
 ·unfold Oc at h
  cases q:ix[j]? with
  |none=>rw[q] at h;cases h
  |some i=>rw[q] at h;exact .inl (.inr ⟨i,h⟩)
theorem WO{D:Addr}{kp:List (V×eN)}: ∀a,Nn (B.add D) O a->Nn (Bc ix B O H0 D kp) (Oc ix O) a:=fun a h=>by
 rcases h with h|⟨i,h⟩
 ·exact .inl (.inl h)
 ·by_cases hi:i∈ix
  ·obtain⟨j,hj⟩:=Gf.mp hi
   exact .inr ⟨j,by unfold Oc;rw[hj];exact h⟩
  ·exact .inl (.inr ⟨i,h,hi⟩)
theorem cX.withKp{kp:List (V×eN)}(S:cX K ml B O H σ δ)(h: ∀p∈kp,dH K (Nn B O) H (Nn B O) p.1 p.2):cX K ml {B with kp:=kp} O H σ δ:=
 ⟨S.len,S.va,S.ow,S.dom,S.inj,S.old,S.zin,S.frm,S.par,S.pin,h⟩
theorem cX.writeZ{D:Addr}{o:HO}{acc:List V}(S:cX K ml B O H σ δ)(hD:B.Z D)(hl:H D=some (.lst acc))(h0:B.H0 D=none):cX K ml B O (cL H D o) σ δ:=by
 have hf:Fr (fun b=>b=D) H (cL H D o):=fun b u q n=>by
  by_cases hb:b=D
  ·subst hb
   rw[hl] at q
   cases q
   exact absurd (n rfl) fun z=>z
  ·rw[dQ hb]
   exact q
 have hN: ∀b,b=D->Nn B O b:=fun b z=> .inl (z▸hD)
 have hin: ∀b,(∃u,H b=some u)-> ∃u,cL H D o b=some u:=fun b q0=>by
  obtain⟨u,q⟩:=q0
  by_cases hb:b=D
  ·exact⟨o,by rw[hb];exact dZ⟩
  ·exact⟨u,by rw[dQ hb];exact q⟩
 refine⟨S.len,fun i d q=> ?_,fun i d q=> ?_,S.dom,S.inj,S.old,fun b h=>hin b (S.zin b h),fun b u q n=> ?_,S.par,fun b h=>hin b (S.pin b h),fun p hp=>(S.kep p hp).fr hf hN hN⟩
 ·obtain⟨v,e,r⟩:=S.va i d q
  exact⟨v,e,r.fr hf hN hN⟩
 ·obtain⟨a,e,e2,w⟩:=S.ow i d q
  exact⟨a,e,e2,w.fr hf hN fun z=>(S.old i a e).1 (z▸hD)⟩
 ·have hb : b ≠ D := fun z => by rw [z,h0] at q;cases q
  rw[dQ hb]
  exact S.frm b u q n
theorem SU{j:Nat}{s:Sl}(h:(aX ix δ++UI nl)[j]? =some s):(∃i,ix[j]? =some i/\s=(δ[i]?).getD .no)∨s= .no:=by
 unfold aX UI at h
 by_cases hj:j<ix.length
 ·rw [Ai (by simpa using hj),Cj] at h
  cases q:ix[j]? with
  |none=>rw[q] at h;cases h
  |some i=>rw[q] at h;cases h;exact .inl ⟨i,rfl,rfl⟩
 ·rw [Bm (by simpa using hj),Br] at h
  split at h
  ·cases h;exact .inr rfl
  ·cases h
theorem PB{i j:Nat}{v:V}(hi:ix[j]? =some i)(h:σ[i]? =some (some v)):(c7 ix σ++Aq nl none)[j]? =some (some v):=by
 have hj:j<ix.length:=(Ah.mp hi).1
 unfold c7
 rw[Ai (by simpa using hj),Cj,hi]
 show some ((σ[i]?).join)=_
 rw[h]
 rfl
theorem cX.inner{D:Addr}(S:cX K ml B O H0 σ δ)(hD:H0 D=none)(hnd:ix.Nodup){kps:List (V×eN)}(hk: ∀p∈kps,dH K (Nn B O) H0 (Nn B O) p.1 p.2):
  cX K (Aw ix.length) (Bc ix B O H0 D kps) (Oc ix O) (cL H0 D (.lst [])) (c7 ix σ++Aq nl none) (aX ix δ++UI nl) where
 len:=by simp[c7,aX,UI]
 va := fun j d e => by
  rcases SU e with⟨i,hi,q⟩|q
  ·have q:δ[i]? =some (.va d):=by
    cases w:δ[i]? with
    |none=>rw[w] at q;cases q
    |some s=>rw[w] at q;rw[show s= .va d from q.symm]
   obtain⟨v,e1,r⟩:=S.va i d q
   exact⟨v,PB hi e1,(r.away hD _ _ TF TF).same (eL hD)⟩
  ·cases q
 ow := fun j d e => by
  rcases SU e with⟨i,hi,q⟩|q
  ·have q:δ[i]? =some (.ow d):=by
    cases w:δ[i]? with
    |none=>rw[w] at q;cases q
    |some s=>rw[w] at q;rw[show s= .ow d from q.symm]
   obtain⟨a,e1,e2,w⟩:=S.ow i d q
   refine⟨a,by unfold Oc;rw[hi];exact e1,PB hi e2,?_⟩
   cases w with
   |lst q' r=>exact .lst (eL hD _ _ q') ((r.away hD _ _ TF).same (eL hD))
   |dct q' r=>exact .dct (eL hD _ _ q') ((r.away hD _ _ TF).same (eL hD))
  ·cases q
 dom:=fun j a e=>by
  unfold Oc at e
  cases hi:ix[j]? with
  | none => rw [hi] at e;cases e
  |some i=>
   rw[hi] at e
   obtain⟨d,q⟩:=S.dom i a e
   refine⟨d,?_⟩
   have hj:j<ix.length:=(Ah.mp hi).1
   unfold aX
   rw[Ai (by simpa using hj),Cj,hi]
   show some ((δ[i]?).getD .no)=_
   rw[q]
   rfl
 inj:=fun j k a e1 e2=>by
  unfold Oc at e1 e2
  cases hi:ix[j]? with
  | none => rw [hi] at e1;cases e1
  |some i=>
   cases hk:ix[k]? with
   |none=>rw[hk] at e2;cases e2
   |some i'=>
    rw[hi] at e1
    rw[hk] at e2
    have:i=i':=S.inj i i' a e1 e2
    subst this
    obtain⟨l1,q1⟩:=Ah.mp hi
    obtain⟨l2,q2⟩:=Ah.mp hk
    exact(Mc hnd).mp (q1.trans q2.symm)
 old:=fun j a e=>by
  have e':=e
  unfold Oc at e'
  cases hi:ix[j]? with
  | none => rw [hi] at e';cases e'
  |some i=>
   rw[hi] at e'
   refine⟨fun z=> ?_,.inl ⟨j,e⟩⟩
   rcases z with(z|z)|⟨i',z,n⟩
   ·exact(S.old i a e').1 z
   ·obtain⟨o,q⟩:=S.nin (.inr ⟨i,e'⟩)
    rw[z,hD] at q
    cases q
   ·have:i=i':=S.inj i i' a e' z
    subst this
    exact n (Dx hi)
 zin:=fun a h=>by
  rcases h with(h|h)|⟨i,h,_⟩
  ·obtain⟨o,q⟩:=S.zin a h
   exact⟨o,eL hD _ _ q⟩
  ·exact ⟨_,by rw [h];exact dZ⟩
  ·obtain⟨o,q⟩:=S.nin (.inr ⟨i,h⟩)
   exact⟨o,eL hD _ _ q⟩
 frm:=(eL hD).fr
 par:=⟨fun j a e=>by
  have e:(ix[j]?).bind O=some a:=e
  cases hi:ix[j]? with
  |none=>rw[hi] at e;cases e
  |some i=>exact Cy.mpr (Ah.mp hi).1,fun j _=>rfl⟩
 pin:=fun a q0=>by
  obtain⟨j,e⟩:=q0
  unfold Oc at e
  cases hi:ix[j]? with
  |none=>rw[hi] at e;cases e
  |some i=>
   rw[hi] at e
   obtain⟨o,q⟩:=S.nin (.inr ⟨i,e⟩)
   exact⟨o,eL hD _ _ q⟩
 kep:=fun p hp=>((hk p hp).away hD _ _ TF TF).same (eL hD)
theorem cX.turn{O':Nat->Option Addr}{σ':St}{n:Nat}{m:St}(S:cX K (Aw n) B O' H σ' δ)(hmu: ∀j,n<=j->B.mu j=none)(hm:m.length=n)(hσ:σ'.take n=m)(hn:n<=δ.length):cX K (Aw n) B B.mu H (m++Aq nl none) (δ.take n++UI nl):=by
 have hO: ∀j,j<n->O' j=B.mu j:=fun j hj=>S.par.2 j (Cy.mpr hj)
 have hle: ∀j a,B.mu j=some a->O' j=some a:=fun j a e=>by rw[hO j (Cy.mp (S.par.1 j a e))];exact e
 have hN: ∀a,Nn B B.mu a->Nn B O' a:=fun a h=>by
  rcases h with h|⟨j,h⟩
  ·exact .inl h
  ·exact .inr ⟨j,hle j a h⟩
 have hg: ∀(j:Nat) (s:Sl),(δ.take n++UI nl)[j]? =some s->(j<n/\δ[j]? =some s)∨s= .no:=fun j s h=>by
  have hl:(δ.take n).length=n:=by rw[Bw];omega
  by_cases hj:j<n
  ·rw [Ai (by rw [hl];exact hj),Bl hj] at h
   exact .inl ⟨hj,h⟩
  ·unfold UI at h
   rw[Bm (by rw[hl];omega),Br] at h
   split at h
   ·cases h;exact .inr rfl
   ·cases h
 have hs: ∀(j:Nat) (v:V),j<n->σ'[j]? =some (some v)->(m++Aq nl none)[j]? =some (some v):=fun j v hj e=>by
  rw[Ai (by rw[hm];exact hj),<- hσ,Bl hj]
  exact e
 refine⟨?_,fun j d e=> ?_,fun j d e=> ?_,fun j a e=> ?_,fun j k a e1 e2=>S.inj j k a (hle j a e1) (hle k a e2),fun j a e=>S.old j a (hle j a e),S.zin,S.frm,⟨S.par.1,fun j _=>rfl⟩,S.pin,fun p hp=>(S.kep p hp).mono hN hN⟩
 ·simp[hm,UI,Bw]
  omega
 ·rcases hg j _ e with⟨hj,e⟩|e
  ·obtain⟨v,e1,r⟩:=S.va j d e
   exact⟨v,hs j v hj e1,r.mono hN hN⟩
  ·cases e
 ·rcases hg j _ e with⟨hj,e⟩|e
  ·obtain⟨a,e1,e2,w⟩:=S.ow j d e
   exact⟨a,(hO j hj)▸e1,hs j _ hj e2,w.mono hN⟩
  ·cases e
 ·have hj:=Cy.mp (S.par.1 j a e)
  obtain⟨d,q⟩:=S.dom j a (hle j a e)
  refine⟨d,?_⟩
  rw[Ai (by rw[Bw];omega),Bl hj]
  exact q
theorem bI(ix:List Nat)(σ:St):(c7 ix σ).length=ix.length:=by simp[c7]
theorem TU{σ':St}(hl:ix.length<=σ'.length)(h: ∀i∈Aw ix.length,σ'[i]? =(c7 ix σ++Aq nl none)[i]?):σ'.take ix.length=c7 ix σ:=by
 refine Lm fun j=> ?_
 by_cases hj:j<ix.length
 ·rw[Bl hj,h j (Cy.mpr hj),Ai (by rw[bI];exact hj)]
 ·rw[Bt (by rw[Bw];omega),Bt (by rw[bI];omega)]
theorem GH{fi:VI}{gg:VG}{tb:VB}{fe:VF}(hnd:ix.Nodup){Q:VK}(h:TN K ml (pi && pt && pe) (bF ix nl fi gg tb fe) σ H Q):
  EF ix nl (KI K ml pi fi) (G3 K (Aw ix.length) gg) (TB K (Aw ix.length) pt tb) (TV K (Aw ix.length) pe true true fe) σ H Q:=by
 obtain⟨B,O,δ,d,δ2,S,q,k⟩:=h
 unfold bF at q
 cases h1:fi δ with
 | none => rw [h1] at q;cases q
 |some p=>
  obtain⟨ds,δ1⟩:=p
  rw[h1] at q
  have q : ((bJ ix.length nl gg tb fe ds [] (aX ix δ1)).map fun q => (eN.lst q.1,b3 ix q.2 δ1)) = some (d,δ2) := q
  cases h2:bJ ix.length nl gg tb fe ds [] (aX ix δ1) with
  | none => rw [h2] at q;cases q
  |some z=>
   obtain⟨res,δf⟩:=z
   rw[h2] at q
   cases q
   refine⟨B,O,δ,ds,δ1,S,h1,fun J kps H0 S0 f0 p0 wk D hD=> ?_⟩
   have hDO : ∀ j,Oc ix O j ≠ some D := fun j e => by
    unfold Oc at e
    cases hi:ix[j]? with
    | none => rw [hi] at e;cases e
    |some i=>
     rw[hi] at e
     obtain⟨o,q⟩:=S0.nin (.inr ⟨i,e⟩)
     rw[hD] at q
     cases q
   have g0 : ∀ kp j,ix.length <= j -> (Bc ix B O H0 D kp).mu j = none := fun kp j hj => by
    show(ix[j]?).bind O=none
    rw[Bt hj]
    rfl
   refine⟨fun i m acc H1=>m=ds.length - i/\i<=ds.length/\ ∃(aj:List eN) (δc:Ev),δc.length=ix.length/\acc.length=aj.length∧
     cX K (Aw ix.length) (Bc ix B O H0 D (kps++acc.zip aj)) (Oc ix O) H1 (c7 ix σ++Aq nl none) (δc++UI nl)/\H1 D=some (.lst acc)/\((pt && pe)=true->cM H0 H1)∧
     bJ ix.length nl gg tb fe (ds.drop i) aj δc=some (res,δf),
    ⟨ds.length,rfl,Fd _,[],aX ix δ1,by simp [aX],rfl,by
     rw[Ia,Cg]
     exact S0.unkeep.inner hD hnd fun p hp=>S0.kep p (Av _ hp),dZ,fun _=>eL hD,h2⟩,?_⟩
   rintro i m acc H1 ⟨rfl,hi,aj,δc,hlc,dc,S1,hD1,eg,hc⟩
   have w := wk (Nn (Bc ix B O H0 D (kps ++ acc.zip aj)) (Oc ix O)) H1 fun p hp => S1.kep p (Av _ hp)
   by_cases hlt:i<ds.length
   ·obtain ⟨go,yl⟩ := w.1 i ds[i] (by simp [hlt])
    rw[Cz hlt] at hc
    simp only[bJ] at hc
    cases g1:gg ds[i] (δc++UI nl) with
    | none => rw [g1] at hc;cases hc
    |some δ3=>
     rw[g1] at hc
     simp only[Ak] at hc
     cases g2:tb δ3 with
     | none => rw [g2] at hc;cases hc
     |some z=>
      obtain⟨kk,δ4⟩:=z
      rw[g2] at hc
      simp only[Ak] at hc
      refine .inr ⟨go,fun ah H'=> ∃(aj:List eN) (δc:Ev),δc.length=ix.length/\ah.length=aj.length∧
       cX K (Aw ix.length) (Bc ix B O H0 D (kps++ah.zip aj)) (Oc ix O) H' (c7 ix σ++Aq nl none) (δc++UI nl)/\H' D=some (.lst ah)/\((pt && pe)=true->cM H0 H')∧
       bJ ix.length nl gg tb fe (ds.drop (i + 1)) aj δc = some (res,δf),fun ah H' w' => ⟨ds.length - (i + 1),by omega,rfl,hlt,w'⟩,fun x H2 hy => ?_⟩
      obtain⟨sm,rx⟩:=yl x H2 hy
      refine⟨_,_,_,ds[i],δ3,S1.same sm,rx,g1,fun σ3 O3 S3 m3=> ?_⟩
      have ln3:ix.length<=σ3.length:=by
       by_cases hz:ix.length=0
       ·omega
       ·have hj : ix.length - 1 < ix.length := by omega
        have:=m3 (ix.length - 1) (Cy.mpr hj)
        have hs:(c7 ix σ++Aq nl none)[ix.length - 1]? ≠none:=by
         rw [Ai (by rw [bI];exact hj)]
         simp[c7,hj]
        rw[<- this] at hs
        have la:ix.length - 1<σ3.length:=Mf fun z=>hs (Hs.mpr z)
        omega
      have hσ3:=TU ln3 m3
      refine⟨hσ3,_,_,δ3,kk,δ4,S3,g2,fun H4 R4=> ?_⟩
      have hD4 : H4 D = some (.lst acc) := R4.frm _ _ (sm _ _ hD1) fun z => by
       obtain⟨j,e⟩:=z
       have:=(R4.sta.old j D e).1
       exact absurd (.inl (.inr rfl)) this
      have ln4 : ix.length <= δ4.length := by rw [<- R4.sta.len];exact ln3
      cases kk with
      |false=>
       rw[if_neg Ca] at hc
       refine UB ⟨aj,δ4.take ix.length,by rw[Bw];omega,dc,R4.sta.turn (g0 _) (bI ix σ) hσ3 ln4,hD4,fun z=> ?_,hc⟩
       exact((eg z).trans sm).trans (R4.pur ((Ac _ _).mp z).1)
      |true=>
       rw[if_pos rfl] at hc
       cases g3:fe δ4 with
       | none => rw [g3] at hc;cases hc
       |some z=>
        obtain⟨dv,δ5⟩:=z
        rw[g3] at hc
        simp only[Ak] at hc
        split at hc
        ·rename_i hz
         refine UC ⟨_,_,δ4,dv,δ5,R4.sta,g3,fun v H5 R5=> ?_⟩
         have hD5:H5 D=some (.lst acc):=R5.frm _ _ hD4 fun z=>by
          obtain⟨j,e⟩:=z
          have:=(R5.sta.old j D e).1
          exact absurd (.inl (.inr rfl)) this
         have ln5:ix.length<=δ5.length:=by rw[<- R5.sta.len];exact ln3
         have S6:=R5.sta.turn (nl:=nl) (g0 _) (bI ix σ) hσ3 ln5
         have hv:dH K (Nn (Bc ix B O H0 D (kps++acc.zip aj)) (Oc ix O)) H5 (Nn (Bc ix B O H0 D (kps++acc.zip aj)) (Oc ix O)) v dv:=by
          have hN: ∀a,Nn (Bc ix B O H0 D (kps++acc.zip aj)) (Oc ix O) a->av (Bc ix B O H0 D (kps++acc.zip aj)) O3 true a:=fun a h=>by
           rcases h with h|⟨j,h⟩
           ·exact .inl h
           ·refine .inr ⟨j,?_⟩
            have hj:j∈Aw ix.length:=R5.sta.par.1 j a h
            rw[R5.sta.par.2 j hj]
            exact h
          exact R5.rep.mono hN hN
         have S7:=S6.withKp (kp:=kps++(acc++[v]).zip (aj++[dv])) fun p hp=>by
          rw[Nh dc,<- Gc] at hp
          rcases El.mp hp with z|z
          ·exact S6.kep p z
          ·rw[Cb.mp (show p∈[(v,dv)] from z)]
           exact hv
         refine⟨hD5,by rw[dc,Bg];exact hz,aj++[dv],δ5.take ix.length,by rw[Bw];omega,by simp[dc],?_,dZ,fun z=> ?_,hc⟩
         ·exact S7.writeZ (.inl (.inr rfl)) hD5 hD
         ·intro b o e
          have hb:b≠D:=fun z=>by rw[z,hD] at e;cases e
          rw[dQ hb]
          obtain⟨z1,z2⟩:=(Ac _ _).mp z
          exact(((eg z).trans sm).trans ((R4.pur z1).trans (R5.pur z2))) b o e
        ·cases hc
   ·have e : i = ds.length := by omega
    subst e
    rw[Ei] at hc
    cases hc
    refine .inl ⟨w.2,k D H1 ?_⟩
    have fP:Fr (OA (Oc ix O)) H0 H1:=S1.frm
    have hPO: ∀a,OA (Oc ix O) a->OA O a:=fun a q0=>by
     obtain⟨j,e⟩:=q0
     unfold Oc at e
     cases hi:ix[j]? with
     | none => rw [hi] at e;cases e
     | some i => rw [hi] at e;exact ⟨i,e⟩
    have SL:=S0.unkeep.laid (o:= .lst acc) hD
    have fL:Fr (OA (Oc ix O)) (cL H0 D (.lst acc)) H1:=fun b o e n=>by
     by_cases hb:b=D
     ·subst hb
      rw[dZ] at e
      cases e
      exact hD1
     ·rw[dQ hb] at e
      exact fP b o e n
    refine⟨SL.call (ZJ) (fun i=> ?_) fL hPO,f0.trans (fP.mono hPO),fun z=> ?_,.lst hD1 (YG dc fun p hp=>(S1.kep p (Am _ hp)).mono WO WO),S0.unkeep.new hD,S0.fresh hD⟩
    ·by_cases g5:i<δ1.length
     ·rcases ZI (ix:=ix) (ss:=δf) (δ:=δ1) i g5 hlc.symm with⟨j,x,e1,e2,e3⟩|⟨e1,e2⟩
      ·have e4:(δf++UI nl)[j]? =some (.ow x):=by
        rw[Ai (Ah.mp e2).1]
        exact e2
       obtain⟨a,e5,_,w⟩:=S1.ow j x e4
       refine .inr ⟨a,x,?_,e3,w.mono WO⟩
       unfold Oc at e5
       rw[e1] at e5
       exact e5
      ·refine .inl ⟨e2,fun a ea ⟨j,ej⟩ => ?_⟩
       obtain⟨x,ex⟩:=S1.dom j a ej
       unfold Oc at ej
       cases hi:ix[j]? with
       |none=>rw[hi] at ej;cases ej
       |some i'=>
        rw[hi] at ej
        have:i=i':=S0.inj i i' a ea ej
        subst this
        have hj:j<δf.length:=by rw[hlc];exact(Ah.mp hi).1
        rw[Ai hj] at ex
        exact e1 j x hi ex
     ·refine .inl ⟨?_,fun a ea => ?_⟩
      ·rw [Bt (by rw [ZJ];omega),Bt (by omega)]
      ·obtain⟨x,ex⟩:=S0.dom i a ea
       exact absurd (Ah.mp ex).1 g5
    ·simp only[Ac] at z
     exact(p0 z.1.1).trans (eg (by simp[z.1.2,z.2]))
theorem C7{Q:Bool->Hp->Prop}(h:TB K ml true Y6 σ H Q):tYes σ H Q:=by
 obtain⟨B,O,δ,k,δ',S,q,w⟩:=h
 cases q
 exact w H (KZ.refl S)
theorem bY{Y:Cx}:PTs Y [] (TB K ml true Y6):=fun aa s σ H Q I hw=>F4 aa s σ H Q I (C7 hw)
end
abbrev dF(P:Ar)(w:World)(K:Ae)(mg:Str->Option Value)(base:Heap)(x:Str)(k:Nat)(ps:List Str)(mF:List Nat)(F:cZ)(f:Addr):Prop:=DN P w K mg base x k ps (spV K mF ps.length F) f
section
variable{X:Cx}{K:Ae}{ml:List Nat}{e a b c:Expr}{es:List Expr}{pa ta ia pb tb ib pc tc ic pu bt bi ps bs:Bool}{fa fb fc f:VF}{B B':Bs}{O:Nat->Option Addr}{H H0 H1 H':Hp}{σ:St}{δ δ':Ev}{v:V}{d:eN}{p:Addr}{pos:Pos}
theorem eB{x:Str}(hg:Gl X x)(h: ∃u v,X.mg x=some u/\dP v u/\ ∀N H M,dH K N H M v d)(hd:(x==("__debug__":Str))=false:=by decide):PE X (.Name x pos) (TV K ml true true true (fC d)):=by
 obtain⟨u,v,h1,h2,h3⟩:=h
 exact MF (FV hg h1 h2 hd) h3
def D5(K:Ae):R2:=fun x y H Q=> ∃a b xs ys,x= .ref a/\y= .ref b/\YW K H a xs/\YW K H b ys/\xs.length+ys.length<=sizeLine∧
 (xs=[]->Q (.ref b) H)/\(xs≠[]->ys=[]->Q (.ref a) H)/\(xs≠[]->ys≠[]-> ∀p,H p=none->Q (.ref p) (cL H p (.tup (xs++ys))))
theorem FN:aS X (Dq .Add) (D5 X.K):=by
 intro aa s σ H x y v u Q I rx ry h
 obtain⟨a,b,xs,ys,rfl,rfl,ha,hb,hz,q0,q1,q2⟩:=h
 cases rx
 cases ry
 obtain⟨its,r1,p1,_⟩:=I.tuple ha
 obtain⟨cb,r2,p2,_⟩:=I.tuple hb
 by_cases hx:xs=[]
 ·subst hx
  have e0:its=[]:=r1.nil_iff.mpr rfl
  subst e0
  obtain⟨⟨cls,dd,data,sl⟩,ho,hc,n,hd⟩:=id p1
  obtain⟨⟨iq,dd2,data2,sl2⟩,ho2,hc2,n2,hd2⟩:=id p2
  simp only at hc hd hc2 hd2
  subst hc hd hc2 hd2
  exact Jp ⟨_,ho,rfl⟩ ⟨_,ho2,rfl⟩ Iy Kv Fw Fs (Fg _ _)
   (tuple_addW0 a b _ cb.toArray n n2 dd dd2 sl sl2 (by simp)) ⟨ho,ho2,⟨.ref b,H,I,rfl,q0 rfl⟩⟩
 ·refine HT.EX p1 p2 (fun z => hx (r1.nil_iff.mp z)) (fun z => ⟨.ref a,H,I,rfl,q1 hx (r2.nil_iff.mp z)⟩) (fun z => ?_) (by rw [<- r1.length,<- r2.length];exact hz)
  refine⟨.ref s.heap.objs.size,_,I.laid (t':=s.toks) (o:= .tup (xs++ys)) (fun b ob q=>Ad _ q) (An _) ?_,rfl,q2 hx (fun w=>z (r2.nil_iff.mpr w)) _ (I.hok.fresh (An _))⟩
  exact⟨by rw[Cn];exact hz,_,r1.append r2,Kw _ _⟩
def D6(K:Ae):R2:=fun x y H Q=> ∃l b xs zs,x= .ref l/\y= .ref b/\aT K H l xs/\aT K H b zs/\xs.length+zs.length<=sizeLine/\ ∀p,H p=none->Q (.ref p) (cL H p (.lst (xs++zs)))
theorem FO:aS X (Dq .Add) (D6 X.K):=by
 intro aa s σ H x y v u Q I rx ry h
 obtain⟨l,b,xs,zs,rfl,rfl,hH,hB,hz,q⟩:=h
 cases rx
 cases ry
 obtain⟨its,r,p1,_⟩:=I.list hH
 obtain⟨cb,r2,p2,_⟩:=I.list hB
 obtain⟨⟨cls,dd,data,sl⟩,n,ho,hc,_,hd⟩:=id p1
 obtain⟨⟨iq,dd2,data2,sl2⟩,n2,ho2,hc2,_,hd2⟩:=id p2
 simp only at hc hd hc2 hd2
 subst hc hd hc2 hd2
 have ea:its.toArray++cb.toArray=(its++cb).toArray:=by simp
 have hl:=r.length
 have hl2:=r2.length
 refine Jp ⟨_,ho,rfl⟩ ⟨_,ho2,rfl⟩ noFill_list_add seq_list_add PySem.F.slot_list_add PySem.F.entry_list_add (PySem.F.args_list_add_2 _ _) (list_addW l b its.toArray cb.toArray n n2 dd dd2 sl sl2 (by rw[Aj,Aj,<- hl,<- hl2];exact hz)) ⟨ho,ho2,?_⟩
 rw[ea]
 exact⟨.ref _,_,I.lnew (t':=s.toks) (r.append r2) (by rw[Cn];omega),rfl,q _ I.fresh⟩
def D7(K:Ae):R2:=fun x y H Q=>((NH (fun i j=> .int (i+j)) x y H Q∨D5 K x y H Q)∨D6 K x y H Q)∨ ∃i j,x= .str i/\y= .str j/\i.length+j.length<=sizeLine/\Q (.str (i++j)) H
theorem Z6(h:X.K=K):aS X (Dq .Add) (D7 K):=by subst h;exact((BZ.or FN).or FO).or OH
noncomputable def cB:eN->eN->Option eN
 | .int i,.int j=>some (.int (i+j))
 | .tup ds,.tup es=>if ds.length+es.length<=16777216 then some (.tup (ds++es)) else none
 | .lst ds,.lst es=>if ds.length+es.length<=16777216 then some (.lst (ds++es)) else none
 | .str x,.str y=>if x.length+y.length<=16777216 then some (.str (x++y)) else none
 |_,_=>none
theorem dH.tupE{N M:Addr->Prop}{ds:List eN}(h:dH K N H M v (.tup ds)): ∃a xs,v= .ref a/\YW K H a xs/\d8 K N H xs ds:=by
 cases h with
 |tup q r=>exact⟨_,_,rfl,q,r⟩
theorem dH.lstE{N M:Addr->Prop}{ds:List eN}(h:dH K N H M v (.lst ds)): ∃a xs,v= .ref a/\aT K H a xs/\d8 K N H xs ds:=by
 cases h with
 |lst q n r=>exact⟨_,_,rfl,aT.of q,r⟩
 |fzl q r=>exact⟨_,_,rfl,q.sq,r⟩
theorem bH:OpC K (D7 K) cB:=by
 intro H N M M' x y d e c Q hx hy h k
 cases d with
 |int i=>
  cases e with
  |int j=>
   cases h
   cases hx
   cases hy
   exact .inl (.inl (.inl ⟨_,_,rfl,rfl,k _ _ (cM.refl _) fun _ _=> .int _⟩))
  | _ => cases h
 |str i=>
  cases e with
  |str j=>
   simp only[cB] at h
   split at h
   ·cases h
    cases hx
    cases hy
    exact .inr ⟨_,_,rfl,rfl,by rw[Bg];assumption,k _ _ (cM.refl _) fun _ _=> .str _⟩
   ·cases h
  | _ => cases h
 |tup ds=>
  cases e with
  |tup es=>
   simp only[cB] at h
   split at h
   ·rename_i hz
    cases h
    obtain⟨a,xs,rfl,q1,r1⟩:=hx.tupE
    obtain⟨b,ys,rfl,q2,r2⟩:=hy.tupE
    refine .inl (.inl (.inr ⟨a,b,xs,ys,rfl,rfl,q1,q2,by rw[r1.length,r2.length,Bg];exact hz,fun z=> ?_,fun z1 z2=> ?_,fun z1 z2 p hp=> ?_⟩))
    ·subst z
     have:ds=[]:=Iu.mp r1.length.symm
     subst this
     exact k _ _ (cM.refl _) fun M hM=> .tup q2 r2
    ·subst z2
     have:es=[]:=Iu.mp r2.length.symm
     subst this
     rw[Cg] at k
     exact k _ _ (cM.refl _) fun M hM=> .tup q1 r1
    ·exact k _ _ (eL hp) fun M hM => .tup (YW.of dZ) ((r1.append r2).same (eL hp))
   ·cases h
  | _ => cases h
 |lst ds=>
  cases e with
  |lst es=>
   simp only[cB] at h
   split at h
   ·rename_i hz
    cases h
    obtain⟨a,xs,rfl,q1,r1⟩:=hx.lstE
    obtain⟨b,ys,rfl,q2,r2⟩:=hy.lstE
    exact .inl (.inr ⟨a,b,xs,ys,rfl,rfl,q1,q2,by rw[r1.length,r2.length,Bg];exact hz,fun p hp=>k _ _ (eL hp) fun M hM=> .lst dZ (fun z=>by
     obtain⟨o,q⟩:=hM _ z
     rw[hp] at q
     cases q) ((r1.append r2).same (eL hp))⟩)
   ·cases h
  |_=>cases h
 |_=>cases h
def JD:Ae->R2:=fun _=>rI KN fun i j=> .int (i*j)
theorem RH(h:X.K=K):aS X (Dq .Mult) (JD K):=B3
noncomputable abbrev U3:=oMul
theorem VU:OpC K (JD K) U3:=by
 intro H N M M' x y d e c Q hx hy h k
 exact zAK H N N M M' x y d e c Q hx hy h fun v hv=>k v H (cM.refl _) fun M _=>hv _ _ _
noncomputable def HP:eN->Option Z0
 | .int i=>some (.inl i)
 | .str x=>some (.inr x)
 |_=>none
theorem dH.key{N M:Addr->Prop}{k:Z0}(h:dH K N H M v d)(e:HP d=some k):v=kV k:=by
 cases h<;>first
  |(cases e;rfl)
  |cases e
noncomputable def bO(ks:List Z0)(ds:List eN)(k:Z0):Option eN:=match ks,ds with
 |k'::ks,d::ds=>if k'=k then some d else bO ks ds k
 |_,_=>none
theorem U2{N:Addr->Prop}{k:Z0}: ∀{kvs:List (Z0×V)} {ds:List eN},d8 K N H (kvs.map Iq) ds→
  (∃v d,V4 kvs k=some v/\bO (kvs.map Mr) ds k=some d/\dH K N H N v d)∨(V4 kvs k=none/\bO (kvs.map Mr) ds k=none)
 | [],_,.nil => .inr ⟨rfl,rfl⟩
 | (k',v) :: kvs,_,.cons h t => by
  by_cases hk:k'=k
  ·refine .inl ⟨v,_,VH (p:=(k',v)) hk,?_,h⟩
   simp[bO,hk]
  ·rcases U2 (k:=k) t with⟨v',d',h1,h2,h3⟩|⟨h1,h2⟩
   ·exact .inl ⟨v',d',(XO (p:=(k',v)) hk).trans h1,by simpa[bO,hk] using h2,h3⟩
   ·exact .inr ⟨(XO (p:=(k',v)) hk).trans h1,by simpa[bO,hk] using h2⟩
theorem zBO(hu:X.A.units+1<cLine):KR X (fun x y H Q=> ∃a v,x= .ref a/\T2 H a y (some v)/\Q v H):=by
 intro value slice aa s σ H x y v u Q I rx ry h hs
 obtain⟨a,w,rfl,g,q⟩:=h
 cases rx
 exact Oh (PH I g) PySem.F.slot_dict_getitem.lookup (K9 hu I g ry fun w' s3 I3 rw'=>⟨w,H,I3,rw',q⟩) hs
def CQ(K:Ae):R2:=fun x y H Q=>(rIx K x y H Q∨ ∃a v,x= .ref a/\T2 H a y (some v)/\Q v H)∨ ∃a k D v,x= .ref a/\y= .str k/\KTab K a D/\Dv k D=some v/\Q v H
theorem kIxA(h:X.K=K)(hu:X.A.units+1<cLine):KR X (CQ K):=by subst h;exact(A5.or (zBO hu)).or E6
noncomputable def ZX:eN->eN->Option eN
 | .tup ds,.int i=>QX ds i
 | .lst ds,.int i=>QX ds i
 | .dct ks ds,e=>(HP e).bind (bO ks ds)
 | .str z,.int i=>if z.length<=16777216 then(QX z.cps.toList i).map fun c=> .str ⟨#[c]⟩ else none
 |_,_=>none
theorem WK{N:Addr->Prop}{k:Str}: ∀{D:List (Str×V)} {ds:List eN},d8 K N H (D.map Iq) ds→
  (∃ v d,Dv k D = some v /\ bO (D.map fun p => .inr p.1) ds (.inr k) = some d /\ dH K N H N v d) ∨ (Dv k D = none /\ bO (D.map fun p => .inr p.1) ds (.inr k) = none)
 | [],_,.nil => .inr ⟨rfl,rfl⟩
 | (k',v) :: D,_,.cons h t => by
  by_cases hk:k'=k
  ·subst hk
   exact .inl ⟨v,_,by simp[Dv],by simp[bO],h⟩
  ·have hk2 : ¬ k = k' := fun z => hk z.symm
   rcases WK (k:=k) t with⟨v',d',h1,h2,h3⟩|⟨h1,h2⟩
   ·exact .inl ⟨v',d',by simpa[Dv,hk,hk2] using h1,by simpa[bO,hk] using h2,h3⟩
   ·exact .inr ⟨by simpa[Dv,hk,hk2] using h1,by simpa[bO,hk] using h2⟩
theorem PV{i:Int}: ∀{D:List (Str×V)} {ds:List eN},bO (D.map fun p=> .inr p.1) ds (.inl i)=none
 |[],_=>by simp[bO]
 |_::_,[]=>by simp[bO]
 |p::D,d::ds=>by simpa[bO] using PV (D:=D) (ds:=ds)
theorem zBR:OpI K (CQ K) ZX:=by
 intro H N N' M M' x y d e c Q hx hy h k
 have seq : ∀ ds i,a5 d = some ds -> e = .int i -> QX ds i = some c -> CQ K x y H Q := fun ds i h1 h2 h3 => by
  subst h2
  cases hy
  obtain⟨a,xs,rfl,sq,r⟩:=hx.seq h1
  obtain⟨v,hv,rv⟩:=ER r h3
  rcases sq with sq|sq
  ·exact .inl (.inl (.inl ⟨a,xs,i,v,rfl,rfl,sq,hv,k v rv⟩))
  ·exact .inl (.inl (.inr (.inl ⟨a,xs,i,v,rfl,rfl,sq,hv,k v rv⟩)))
 cases d with
 |tup ds=>
  cases e with
  | int i => exact seq ds i rfl rfl h
  | _ => cases h
 |lst ds=>
  cases e with
  | int i => exact seq ds i rfl rfl h
  | _ => cases h
 |str z=>
  cases e with
  |int i=>
   simp only[ZX] at h
   split at h
   ·cases hc:QX z.cps.toList i with
    | none => rw [hc] at h;cases h
    |some ch=>
     rw[hc] at h
     cases h
     cases hx
     cases hy
     exact .inl (.inl (.inr (.inr ⟨z,i,ch,rfl,rfl,by rw[Bg];assumption,hc,k _ (.str _)⟩)))
   ·cases h
  | _ => cases h
 |dct ks ds=>
  simp only[ZX] at h
  cases hk:HP e with
  | none => rw [hk] at h;cases h
  |some kk=>
   rw[hk] at h
   have h:bO ks ds kk=some c:=h
   have ey:=hy.key hk
   subst ey
   cases hx with
   |dct q n r=>
    rcases U2 (k:=kk) r with⟨v,d',h1,h2,h3⟩|⟨h1,h2⟩
    ·rw[h] at h2
     cases h2
     exact .inl (.inr ⟨_,v,rfl,h1▸T2.k q,k v h3⟩)
    ·rw[h] at h2;cases h2
   |ktb T r=>
    cases kk with
    | inl i => rw [PV] at h;cases h
    |inr x=>
     rcases WK (k:=x) r with⟨v,d',h1,h2,h3⟩|⟨h1,h2⟩
     ·rw[h] at h2
      cases h2
      exact .inr ⟨_,x,_,v,rfl,rfl,T,h1,k v h3⟩
     ·rw[h] at h2;cases h2
 |_=>cases h
end
section
variable{prog:Ar}{w:World}{A:Bo}{E:Value->Ab->Prop}{s:Ab}
theorem UF{it t:Addr}{i:Nat}{ae:Array Value}{x:Value}{Q:Value->Ab->Prop}(hit:s.heap.IsTupleIter it t i)(ht:s.heap.IsTuple t ae)(hx:ae[i]? =some x)
  (hQ: ∀h',h'.IsTupleIter it t (i+1)->Ed it s.heap h'->Q x {s with heap:=h'}):wpAny (model prog w) A (Be (.ref it)) Q E s:=by
 obtain⟨oi,g1,c1,d1⟩:=id hit
 obtain⟨ot,g2,_,nt,d2⟩:=ht
 unfold Be
 refine Aa (Ce (name:=Fh "__next__") hit.typeIs Dm (Dd Dm hit.typeIs Gy ?_ (Gk _)))
 show wpAny _ _ (field (Bf it) 0>>=_) _ _ s
 refine Aa (Co g1 d1 (x:= .ref t) rfl ?_)
 show wpAny _ _ (if(Bf t== .none)=true then _ else _) _ _ s
 rw[if_neg (show¬(Bf t==Value.none)=true from Ca)]
 show wpAny _ _ (field (Bf it) 1>>=_) _ _ s
 refine Aa (Co g1 d1 (x:= .int i 0) rfl ?_)
 show wpAny _ _ (seqItems? (Bf t)>>=_) _ _ s
 refine Aa (Dw g2 d2 ?_)
 simp only[hx,Ln]
 refine Aa (wpAny_setField g1 d1 (by simp) (Af ⟨x,rfl,Af (hQ _ ⟨_,Heap.get?_update_self _ g1 (Obj.isFreed_of_fields (Ky d1 _)),(Obj.cls_mapFields ..).trans c1,?_⟩ (Km ..))⟩))
 rw[Ky d1]
 simp[rawInt]
theorem RK{it t:Addr}{i:Nat}{ae:Array Value}{Q:Value->Ab->Prop}(hh:A.handled=none)(hit:s.heap.IsTupleIter it t i)(ht:s.heap.IsTuple t ae)(hx:ae[i]? =none)
  (hE: ∀h' e,Gv it s.heap h'->(∃o,h'.get? e=some o/\o.cls= .type "StopIteration")->E (.ref e) {s with heap:=h'}):wpAny (model prog w) A (Be (.ref it)) Q E s:=by
 obtain⟨oi,g1,c1,d1⟩:=id hit
 obtain⟨ot,g2,_,nt,d2⟩:=ht
 unfold Be
 refine Aa (Ce (name:=Fh "__next__") hit.typeIs Dm (Dd Dm hit.typeIs Gy ?_ (Gk _)))
 show wpAny _ _ (field (Bf it) 0>>=_) _ _ s
 refine Aa (Co g1 d1 (x:= .ref t) rfl ?_)
 show wpAny _ _ (if(Bf t== .none)=true then _ else _) _ _ s
 rw[if_neg (show¬(Bf t==Value.none)=true from Ca)]
 show wpAny _ _ (field (Bf it) 1>>=_) _ _ s
 refine Aa (Co g1 d1 (x:= .int i 0) rfl ?_)
 show wpAny _ _ (seqItems? (Bf t)>>=_) _ _ s
 refine Aa (Dw g2 d2 ?_)
 simp only[hx,Ln]
 refine Aa (Ig (Aa (wpAny_setField g1 d1 (by simp) ?_)))
 show wpAny _ _ (newExc (Jx "StopIteration") []>>=_) _ _ _
 refine Aa ?_
 unfold newExc newTuple
 refine Aa (Cf ?_ (by size_fits))
 refine Aa (m:=firstArgMember _ _) (wpAny_of_eq (a:=Value.none) (by first|rfl|(unfold firstArgMember;rfl)) (Cf ?_ (by size_fits)))
 unfold raiseNew
 refine Aa (wpAny_handled ?_)
 first|rw[hh]|rw[show A.in1.handled=none from hh]
 refine Aa (Af (wpAny_throw (hE _ _ (((Km ..).extBut.push _).push _) ⟨_,Ap _ rfl,rfl⟩)))
end
section
variable{X:Cx}{aa:List (Addr×Obj)}{σ:St}{H:Hp}{s:Ab}{h':Heap}
theorem eF.turnedL{t':Nat}{fp:List Addr}(I:eF X aa σ H s)(k: ∀b o,b∉fp->s.heap.get? b=some o->h'.get? b=some o)(there: ∀b∈fp,∃o,h'.get? b=some o)(hf: ∀b∈fp,WH X aa H b):eF X aa σ H {s with heap:=h',toks:=t'}:=by
 have nit: ∀b u,H b=some u->b∉fp:=fun b u e z=>by rw[(hf b z).1] at e;cases e
 have hL:X.env.locals∉fp:=fun z=>(hf _ z).2.1 rfl
 refine I.step (g':=s.gens) (d':=s.drawn) (ch:=fp) (fun b hb=> ?_) (fun b o _ _ hc e _=>k b o hc e) (fun b o _ _ hc e _=>⟨o.slots,k b o hc e⟩) (fun _ _ _ _ n=>n)
  (fun b o hc e=>⟨o,k b o hc e⟩) (fun _ _ e=>e) (fun _ _ _ e=>e) (fun b ps e=>⟨#[],by rw[e];simp⟩) (fun m hm=> ?_) (fun b u e=> ?_) I.bare
 ·obtain⟨_,f1,f2,f3,f4,f5⟩:=hf b hb
  exact⟨f3,f1,f4,f5⟩
 ·obtain⟨o,es,ep,ho,r⟩:=hm
  exact⟨o,es,ep,k _ o hL ho,r⟩
 ·refine (I.hok b u e).stay (fun c v hc q => k c v ?_ q) (fun _ q => q) fun _ _ q => q
  rcases hc with z|z
  ·rw[z];exact nit b u e
  ·exact nit c _ z
end
section
variable{X:Cx}{aa:List (Addr×Obj)}{σ:St}{H:Hp}{s:Ab}{h':Heap}
theorem eF.turnedL'{t':Nat}{fp:List Addr}(I:eF X aa σ H s)(k: ∀b o,b∉fp->s.heap.get? b=some o->h'.get? b=some o)(hf: ∀b∈fp,WH X aa H b):eF X aa σ H {s with heap:=h',toks:=t'}:=by
 have nit: ∀b u,H b=some u->b∉fp:=fun b u e z=>by rw[(hf b z).1] at e;cases e
 have hL:X.env.locals∉fp:=fun z=>(hf _ z).2.1 rfl
 refine I.step (g':=s.gens) (d':=s.drawn) (ch:=fp) (fun b hb=> ?_) (fun b o _ _ hc e _=>k b o hc e) (fun b o _ _ hc e _=>⟨o.slots,k b o hc e⟩) (fun _ _ _ _ n=>n)
  (fun b o hc e=>⟨o,k b o hc e⟩) (fun _ _ e=>e) (fun _ _ _ e=>e) (fun b ps e=>⟨#[],by rw[e];simp⟩) (fun m hm=> ?_) (fun b u e=> ?_) I.bare
 ·obtain⟨_,f1,f2,f3,f4,f5⟩:=hf b hb
  exact⟨f3,f1,f4,f5⟩
 ·obtain⟨o,es,ep,ho,r⟩:=hm
  exact⟨o,es,ep,k _ o hL ho,r⟩
 ·refine (I.hok b u e).stay (fun c v hc q => k c v ?_ q) (fun _ q => q) fun _ _ q => q
  rcases hc with z|z
  ·rw[z];exact nit b u e
  ·exact nit c _ z
end
def MO(K:Ae)(tup:Bool)(H:Hp)(a:Addr)(xs:List V):Prop:=if tup=true then YW K H a xs else aT K H a xs
def WI(tup:Bool)(h:Heap)(a:Addr)(ae:Array Value):Prop:=if tup=true then h.IsTuple a ae else h.IsList a ae
def XV(tup:Bool)(h:Heap)(it a:Addr)(i:Nat):Prop:=if tup=true then h.IsTupleIter it a i else h.IsListIter it a i
theorem WI.lt{tup:Bool}{h:Heap}{a:Addr}{ae:Array Value}(s:WI tup h a ae):a<h.objs.size:=by
 cases tup with
 |true=>obtain⟨o,e,_⟩:=s;exact Ag e
 |false=>obtain⟨o,e,_⟩:=s;exact Ag e
theorem eF.srcA{X:Cx}{aa:List (Addr×Obj)}{σ:St}{H:Hp}{s:Ab}{a:Addr}{xs:List V}{tup:Bool}(I:eF X aa σ H s)(h:MO X.K tup H a xs): ∃its:List Value,dG xs its/\WI tup s.heap a its.toArray/\xs.length<=sizeLine:=by
 cases tup with
 |true=>
  obtain⟨its,r,p,z⟩:=I.tuple h
  exact⟨its,r,p,z⟩
 |false=>
  obtain⟨its,r,p,z⟩:=I.list h
  exact⟨its,r,p.isList,z⟩
theorem eF.sq_inj{X:Cx}{aa:List (Addr×Obj)}{σ:St}{H:Hp}{s:Ab}{a:Addr}{xs ys:List V}{tup:Bool}(I:eF X aa σ H s)(h:MO X.K tup H a xs)(h':MO X.K tup H a ys):xs=ys:=by
 cases tup with
 |true=>exact I.tuple_inj h h'
 |false=>exact I.list_inj h h'
theorem XV.at{tup:Bool}{h h':Heap}{it a:Addr}{i:Nat}(st:XV tup h it a i)(k: ∀o,h.get? it=some o->h'.get? it=some o):XV tup h' it a i:=by
 cases tup with
 |true=>exact Heap.IsTupleIter.at st k
 |false=>exact Heap.IsListIter.at st k
theorem XV.obj{tup:Bool}{h:Heap}{it a:Addr}{i:Nat}(st:XV tup h it a i): ∃o,h.get? it=some o/\ ∀v,o.data≠ .cell v:=by
 cases tup with
 |true=>
  obtain⟨o,e,c,d⟩:=st
  exact⟨o,e,fun v z=>by rw[d] at z;cases z⟩
 |false=>
  obtain⟨o,e,c,d⟩:=st
  exact⟨o,e,fun v z=>by rw[d] at z;cases z⟩
theorem AL:Bj "zip"=some (.type "zip"):=by decide+kernel
section
variable{prog:Ar}{w:World}{A:Bo}{E:Value->Ab->Prop}{s:Ab}
theorem XV.ext{tup:Bool}{h h':Heap}{it a b:Addr}{i:Nat}(x:XV tup h it a i)(hs:Gv b h h')(hne:it≠b):XV tup h' it a i:=x.at fun o e=>hs _ _ hne e
theorem WI.ext{tup:Bool}{h h':Heap}{a b:Addr}{xs:Array Value}(x:WI tup h a xs)(hs:Gv b h h')(hne:a≠b):WI tup h' a xs:=by
 cases tup with
 |true=>obtain⟨o,e,r⟩:=x;exact⟨o,hs _ _ hne e,r⟩
 |false=>obtain⟨o,e,r⟩:=x;exact⟨o,hs _ _ hne e,r⟩
theorem X3{tup:Bool}{it a:Addr}{i:Nat}{xs:Array Value}{x:Value}{Q:Value->Ab->Prop}(hi:XV tup s.heap it a i)(hs:WI tup s.heap a xs)(hx:xs[i]? =some x)
  (hQ: ∀h',XV tup h' it a (i+1)->Ed it s.heap h'->Q x {s with heap:=h'}):wpAny (model prog w) A (Be (.ref it)) Q E s:=by
 cases tup with
 |true=>exact UF hi hs hx hQ
 |false=>exact wpAny_nextOf_list_item hi hs hx hQ
theorem TD{tup:Bool}{it a:Addr}{i:Nat}{xs:Array Value}{Q:Value->Ab->Prop}(hh:A.handled=none)(hi:XV tup s.heap it a i)(hs:WI tup s.heap a xs)(hx:xs[i]? =none)
  (hE: ∀h' e,Gv it s.heap h'->(∃o,h'.get? e=some o/\o.cls= .type "StopIteration")->E (.ref e) {s with heap:=h'}):wpAny (model prog w) A (Be (.ref it)) Q E s:=by
 cases tup with
 |true=>exact RK hh hi hs hx hE
 |false=>exact wpAny_nextOf_list_end hh hi hs hx hE
structure EQ(t1 t2:Bool)(h:Heap)(z p q i1 i2 a b:Addr)(k:Nat)(f0:Value):Prop where
 zip:IsZip h z p q f0
 its:IsPair h p (.ref i1) (.ref i2)
 res: ∃u v,IsPair h q u v
 one:XV t1 h i1 a k
 two:XV t2 h i2 b k
theorem MK{t1 t2:Bool}{z p q i1 i2 a b:Addr}{k:Nat}{xs ys:Array Value}{x y:Value}{Q:Value->Ab->Prop}(D:Jz z p q i1 i2 a b)(S:EQ t1 t2 s.heap z p q i1 i2 a b k .none)
  (s1:WI t1 s.heap a xs) (s2:WI t2 s.heap b ys) (hx:xs[k]? =some x) (hy:ys[k]? =some y)
  (hQ: ∀h',EQ t1 t2 h' z p q i1 i2 a b (k+1) (rawInt s.heap.objs.size)->IsPair h' s.heap.objs.size x y->h'.objs.size=s.heap.objs.size+1→
   (∀c o,c≠z->c≠q->c≠i1->c≠i2->s.heap.get? c=some o->h'.get? c=some o)->Q (.ref s.heap.objs.size) {s with heap:=h'}):
  wpAny (model prog w) A (Dy.«zip.__next__» ⟨[.ref z],[]⟩) (fun fin s'=> ∃v,fin= .done (.ret v)/\Q v s') E s:=by
 obtain⟨gz,gi,⟨u,v,gr⟩,g1,g2⟩:=S
 show wpAny _ _ (field (Bf z) 2>>=_) _ _ _
 refine Aa (Co gz rfl (x:= .bool false) rfl ?_)
 show wpAny _ _ (field (Bf z) 3>>=_) _ _ _
 refine Aa (Co gz rfl (x:= .ref p) rfl (Aa (Dw gi rfl ?_)))
 show wpAny _ _ (Ci (Bf z)>>=_) _ _ _
 refine Aa ?_
 (unfold Ci)
 refine Aa (Co gz rfl (x:= .none) rfl (Af ?_))
 simp only[if_true]
 refine Aa (Ig (Aa (Co gz rfl (x:= .ref q) rfl (Aa (Dt gz (by simp) fun ha za ba=>Aa ?_)))))
 have za:IsZip ha z p q .ellipsis:=za
 simp only[Ni,Mg,Kh,Gu]
 refine Aa (Aa (Iv ?_))
 show wpAny _ _ (Be (Bf i1)>>=_) _ _ _
 refine Aa (X3 (g1.ext ba.extBut D.i1z) (s1.ext ba.extBut D.l1z) hx fun hb n1 bb=>Af ?_)
 have rb:IsPair hb q u v:=bb.extBut _ _ D.TOi1 (ba.extBut _ _ D.TOz gr)
 refine Aa (Dw rb rfl (Aa (Gh rb fun hc rc bc=>Aa (Nj (Af ?_)))))
 have rc:IsPair hc q x v:=rc
 refine Aa (Aa (Iv ?_))
 show wpAny _ _ (Be (Bf i2)>>=_) _ _ _
 refine Aa (X3 (((g2.ext ba.extBut D.i2z).ext bb.extBut D.i12.symm).ext bc.extBut D.TOi2.symm) (((s2.ext ba.extBut D.l2z).ext bb.extBut D.l2i1).ext bc.extBut D.l2TO) hy fun hd n2 bd=>Af ?_)
 have rd:IsPair hd q x v:=bd.extBut _ _ D.TOi2 rc
 refine Aa (Dw rd rfl (Aa (Gh rd fun he re be=>Aa (Nj (Af (Af ?_))))))
 have re:IsPair he q x y:=re
 refine Aa (Dw re rfl (Aa (wpAny_newTuple ?_)))
 have size:he.objs.size=s.heap.objs.size:=by rw[be.1,bd.1,bc.1,bb.1,ba.1]
 have ze:IsZip he z p q .ellipsis:=be.extBut _ _ D.TOz.symm (bd.extBut _ _ D.i2z.symm (bc.extBut _ _ D.TOz.symm (bb.extBut _ _ D.i1z.symm za)))
 have ke: ∀c o,c≠z->c≠q->c≠i1->c≠i2->s.heap.get? c=some o->he.get? c=some o:=fun c o c1 c2 c3 c4 g=>be.extBut _ _ c2 (bd.extBut _ _ c4 (bc.extBut _ _ c2 (bb.extBut _ _ c3 (ba.extBut _ _ c1 g))))
 have e1:XV t1 he i1 a (k+1):=((n1.ext bc.extBut D.TOi1.symm).ext bd.extBut D.i12).ext be.extBut D.TOi1.symm
 have e2:XV t2 he i2 b (k+1):=n2.ext be.extBut D.TOi2.symm
 have ie:IsPair he p (.ref i1) (.ref i2):=ke _ _ D.TIz D.TITO D.TIi1 D.TIi2 gi
 have zlt:z<he.objs.size:=Ag ze
 show wpAny _ _ (Fc (Bf z) (.ref he.objs.size)>>=_) _ _ _
 refine Aa ?_
 (unfold Fc)
 have zf:IsZip (he.push {cls:= .type "tuple",data:= .seq #[x,y]}) z p q .ellipsis:=Ad _ ze
 refine Aa (Dt zf (by simp) fun hg zg bg=> ?_)
 have zg:IsZip hg z p q (rawInt he.objs.size):=zg
 refine Dt zg (by simp) fun hk zk bk=> ?_
 have zk:IsZip hk z p q (rawInt he.objs.size):=zk
 have up: ∀c o,c≠z->he.get? c=some o->hk.get? c=some o:=fun c o c1 g=>bk.extBut _ _ c1 (bg.extBut _ _ c1 (Ad _ g))
 have tk:IsPair hk he.objs.size x y:=bk.extBut _ _ (Ff zlt) (bg.extBut _ _ (Ff zlt) (Ap _ rfl))
 have szk:hk.objs.size=he.objs.size+1:=by rw[bk.1,bg.1,Bx]
 rw[size] at zk tk szk
 refine Af ⟨_,rfl,?_⟩
 show Q (.ref he.objs.size) _
 rw[size]
 exact hQ hk ⟨zk,up _ _ D.TIz ie,⟨x,y,up _ _ D.TOz re⟩,e1.at fun o g=>up _ o D.i1z g,e2.at fun o g=>up _ o D.i2z g⟩ tk szk fun c o c1 c2 c3 c4 g=>up c o c1 (ke c o c1 c2 c3 c4 g)
theorem KG{t1 t2:Bool}{z p q i1 i2 a b:Addr}{k:Nat}{xs ys:Array Value}{Q:Fin->Ab->Prop}(hh:A.handled=none)(D:Jz z p q i1 i2 a b)(S:EQ t1 t2 s.heap z p q i1 i2 a b k .none)
  (s1:WI t1 s.heap a xs) (s2:WI t2 s.heap b ys) (g7:xs[k]? =none∨ys[k]? =none)
  (hE: ∀h' e,(∀c o,c≠z->c≠q->c≠i1->c≠i2->s.heap.get? c=some o->h'.get? c=some o)->(∃o,h'.get? e=some o/\o.cls= .type "StopIteration")->E (.ref e) {s with heap:=h'}):
  wpAny (model prog w) A (Dy.«zip.__next__» ⟨[.ref z],[]⟩) Q E s:=by
 obtain⟨gz,gi,⟨u,v,gr⟩,g1,g2⟩:=S
 show wpAny _ _ (field (Bf z) 2>>=_) _ _ _
 refine Aa (Co gz rfl (x:= .bool false) rfl ?_)
 show wpAny _ _ (field (Bf z) 3>>=_) _ _ _
 refine Aa (Co gz rfl (x:= .ref p) rfl (Aa (Dw gi rfl ?_)))
 show wpAny _ _ (Ci (Bf z)>>=_) _ _ _
 refine Aa ?_
 (unfold Ci)
 refine Aa (Co gz rfl (x:= .none) rfl (Af ?_))
 simp only[if_true]
 refine Aa (Ig (Aa (Co gz rfl (x:= .ref q) rfl (Aa (Dt gz (by simp) fun ha za ba=>Aa ?_)))))
 have za:IsZip ha z p q .ellipsis:=za
 simp only[Ni,Mg,Kh,Gu]
 refine Aa (Aa (Iv ?_))
 show wpAny _ _ (Be (Bf i1)>>=_) _ _ _
 cases hx:xs[k]? with
 |none=>
  refine Aa (TD hh (g1.ext ba.extBut D.i1z) (s1.ext ba.extBut D.l1z) hx fun hb e bb ⟨oe,ge,ce⟩=> ?_)
  have zb:IsZip hb z p q .ellipsis:=bb _ _ D.i1z.symm za
  have ne:e≠z:=fun w=>by subst w;rw[zb] at ge;cases ge;simp at ce
  exact Dt zb (by simp) fun hc _ bc=>hE hc e (fun c o c1 _ c3 _ g=>bc.extBut _ _ c1 (bb _ _ c3 (ba.extBut _ _ c1 g))) ⟨oe,bc.extBut _ _ ne ge,ce⟩
 |some x=>
  have hy:ys[k]? =none:=g7.resolve_left fun w=>by rw[hx] at w;cases w
  refine Aa (X3 (g1.ext ba.extBut D.i1z) (s1.ext ba.extBut D.l1z) hx fun hb n1 bb=>Af ?_)
  have rb:IsPair hb q u v:=bb.extBut _ _ D.TOi1 (ba.extBut _ _ D.TOz gr)
  refine Aa (Dw rb rfl (Aa (Gh rb fun hc rc bc=>Aa (Nj (Af (Aa (Aa (Iv ?_))))))))
  show wpAny _ _ (Be (Bf i2)>>=_) _ _ _
  refine Aa (TD hh (((g2.ext ba.extBut D.i2z).ext bb.extBut D.i12.symm).ext bc.extBut D.TOi2.symm) (((s2.ext ba.extBut D.l2z).ext bb.extBut D.l2i1).ext bc.extBut D.l2TO) hy fun hd e bd ⟨oe,ge,ce⟩=> ?_)
  have zd:IsZip hd z p q .ellipsis:=bd _ _ D.i2z.symm (bc.extBut _ _ D.TOz.symm (bb.extBut _ _ D.i1z.symm za))
  have ne:e≠z:=fun w=>by subst w;rw[zd] at ge;cases ge;simp at ce
  exact Dt zd (by simp) fun hf _ bf=>hE hf e (fun c o c1 c2 c3 c4 g=>bf.extBut _ _ c1 (bd _ _ c4 (bc.extBut _ _ c2 (bb.extBut _ _ c3 (ba.extBut _ _ c1 g))))) ⟨oe,bf.extBut _ _ ne ge,ce⟩
theorem OD{t1 t2:Bool}{z p q i1 i2 a b:Addr}{k:Nat}{xs ys:Array Value}{x y:Value}{Q:Option Value->Ab->Prop}(D:Jz z p q i1 i2 a b)(S:EQ t1 t2 s.heap z p q i1 i2 a b k .none)
  (s1:WI t1 s.heap a xs) (s2:WI t2 s.heap b ys) (hx:xs[k]? =some x) (hy:ys[k]? =some y)
  (hQ: ∀h',EQ t1 t2 h' z p q i1 i2 a b (k+1) (rawInt s.heap.objs.size)->IsPair h' s.heap.objs.size x y->h'.objs.size=s.heap.objs.size+1→
   (∀c o,c≠z->c≠q->c≠i1->c≠i2->s.heap.get? c=some o->h'.get? c=some o)->Q (some (.ref s.heap.objs.size)) {s with heap:=h'}):wpAny (model prog w) A (pyNext (.ref z)) Q E s:=by
 have ty:s.TypeIs (.ref z) "zip":=⟨_,S.zip,rfl⟩
 (unfold pyNext)
 exact Aa (Kz (Ce (name:=Fh "__next__") ty Gz (Dd Gz ty Mh (MK D S s1 s2 hx hy fun h' a1 a2 a3 a4=>Af (hQ h' a1 a2 a3 a4)) (Lo _))))
theorem LQ{t1 t2:Bool}{z p q i1 i2 a b:Addr}{k:Nat}{xs ys:Array Value}{Q:Option Value->Ab->Prop}(hh:A.handled=none)(D:Jz z p q i1 i2 a b)(S:EQ t1 t2 s.heap z p q i1 i2 a b k .none)
  (s1:WI t1 s.heap a xs) (s2:WI t2 s.heap b ys) (g7:xs[k]? =none∨ys[k]? =none)
  (hQ: ∀h',(∀c o,c≠z->c≠q->c≠i1->c≠i2->s.heap.get? c=some o->h'.get? c=some o)->Q none {s with heap:=h'}):wpAny (model prog w) A (pyNext (.ref z)) Q E s:=by
 have ty:s.TypeIs (.ref z) "zip":=⟨_,S.zip,rfl⟩
 (unfold pyNext)
 refine Aa (Kz (Ce (name:=Fh "__next__") ty Gz (Dd Gz ty Mh (KG hh D S s1 s2 g7 fun h' e kk ⟨o,ge,ce⟩=> ?_) (Lo _))))
 exact Aa (wpAny_isInstance (T:= "StopIteration") (b:=true) ⟨o,ge,ce⟩ isSubtype_stop (Af (hQ _ kk)))
end
noncomputable def zBP(tup:Bool):String:=if tup=true then "tuple_iterator" else "list_iterator"
noncomputable abbrev zO(tup:Bool)(a:Addr):Obj:={cls:= .type (zBP tup),data:= .fields #[.ref a,.int 0 0]}
theorem DX{prog:Ar}{w:World}{A:Bo}{E:Value->Ab->Prop}{s:Ab}{tup:Bool}{a:Addr}{xs:Array Value}{Q:Value->Ab->Prop}(h:WI tup s.heap a xs)(hQ:Q (.ref s.heap.objs.size) {s with heap:=s.heap.push (zO tup a)}):
  wpAny (model prog w) A (Nb (.ref a)) Q E s:=by
 cases tup with
 |true=>exact Ks h hQ
 |false=>exact Dz h hQ
theorem WI.push{tup:Bool}{h:Heap}{a:Addr}{xs:Array Value}(x:WI tup h a xs)(o:Obj):WI tup (h.push o) a xs:=by
 cases tup with
 |true=>obtain⟨o,e,r⟩:=x;exact⟨o,Ad _ e,r⟩
 |false=>obtain⟨o,e,r⟩:=x;exact⟨o,Ad _ e,r⟩
theorem KH(t1 t2:Bool)(a b:Addr)(xs ys:Array Value):
  Meets (Dy.«zip.__new__» ⟨[.type "zip",.ref a,.ref b],[]⟩) (fun _ R s=>WI t1 s.heap a xs/\WI t2 s.heap b ys/\ ∀h1 h2 h3 h4 h5,h1=s.heap.push (zO t1 a)->h2=h1.push (zO t2 b)->h3=h2.push {cls:= .type "tuple",data:= .seq #[.ref s.heap.objs.size,.ref h1.objs.size]}→
   h4=h3.push {cls:= .type "tuple",data:= .seq #[.none,.none]}->h5=h4.push {cls:= .type "zip",data:= .fields #[.none,.bool false,.bool false,.ref h2.objs.size,.ref h3.objs.size]}->R (.ok (.ret (.ref h4.objs.size))) {s with heap:=h5}):=by
 refine .of_wp fun prog w A R s h=> ?_
 obtain⟨hp,g,d,tk,os⟩:=s
 obtain⟨g1,g2,h⟩:=h
 have hs:=sub_zip
 have k1:WI t1 (Ox ⟨hp,g,d,tk,os⟩) a xs:=g1
 have k2:WI t2 (Ox ⟨hp.push (zO t1 a),g,d,tk,os⟩) b ys:=WI.push g2 _
 wp_walk using DX k1,DX k2
 exact⟨_,rfl,h _ _ _ _ _ rfl rfl rfl rfl rfl⟩
theorem K7{prog:Ar}{w:World}{A:Bo}{E:Value->Ab->Prop}{s:Ab}{t1 t2:Bool}{a b:Addr}{xs ys:Array Value}{Q:Value->Ab->Prop}(g1:WI t1 s.heap a xs)(g2:WI t2 s.heap b ys)
  (h: ∀h',EQ t1 t2 h' (s.heap.objs.size+4) (s.heap.objs.size+2) (s.heap.objs.size+3) s.heap.objs.size (s.heap.objs.size+1) a b 0 .none->(∀c o,s.heap.get? c=some o->h'.get? c=some o)->Q (.ref (s.heap.objs.size+4)) {s with heap:=h'}):
  wpAny (model prog w) A (call (.type "zip") [.ref a,.ref b]) Q E s:=by
 refine callType_new F.called_zip (by decide) (F.typeCall_zip_2 _ _) (F.newCall_zip_2 _ _) (fun obj=>F.args_object_init_3 obj _ _) F.entry_zip_new (KH t1 t2 a b xs ys) ⟨g1,g2,?_⟩
 rintro h1 h2 h3 h4 h5 e1 e2 e3 e4 e5
 have z1:h1.objs.size=s.heap.objs.size+1:=by rw[e1,Bx]
 have z2:h2.objs.size=s.heap.objs.size+2:=by rw[e2,Bx,z1]
 have z3:h3.objs.size=s.heap.objs.size+3:=by rw[e3,Bx,z2]
 have z4:h4.objs.size=s.heap.objs.size+4:=by rw[e4,Bx,z3]
 have u4: ∀c o,h4.get? c=some o->h5.get? c=some o:=fun c o q=>by rw[e5];exact Ad _ q
 have u3: ∀c o,h3.get? c=some o->h5.get? c=some o:=fun c o q=>u4 c o (by rw[e4];exact Ad _ q)
 have u2: ∀c o,h2.get? c=some o->h5.get? c=some o:=fun c o q=>u3 c o (by rw[e3];exact Ad _ q)
 have u1: ∀c o,h1.get? c=some o->h5.get? c=some o:=fun c o q=>u2 c o (by rw[e2];exact Ad _ q)
 have u0: ∀c o,s.heap.get? c=some o->h5.get? c=some o:=fun c o q=>u1 c o (by rw[e1];exact Ad _ q)
 have o5:h5.get? h4.objs.size=some {cls:= .type "zip",data:= .fields #[.none,.bool false,.bool false,.ref h2.objs.size,.ref h3.objs.size]}:=by rw[e5];exact Ap _ rfl
 have o4:h5.get? h3.objs.size=some {cls:= .type "tuple",data:= .seq #[.none,.none]}:=u4 _ _ (by rw[e4];exact Ap _ rfl)
 have o3:h5.get? h2.objs.size=some {cls:= .type "tuple",data:= .seq #[.ref s.heap.objs.size,.ref h1.objs.size]}:=u3 _ _ (by rw[e3];exact Ap _ rfl)
 have o2:h5.get? h1.objs.size=some (zO t2 b):=u2 _ _ (by rw[e2];exact Ap _ rfl)
 have o1:h5.get? s.heap.objs.size=some (zO t1 a):=u1 _ _ (by rw[e1];exact Ap _ rfl)
 show _/\_
 rw[z2,z3,z4] at o5
 rw[z3] at o4
 rw[z1,z2] at o3
 rw[z1] at o2
 rw[z4]
 refine⟨⟨_,o5,rfl⟩,h _ ⟨o5,o3,⟨_,_,o4⟩,?_,?_⟩ u0⟩
 ·cases t1 with
  |true=>exact⟨_,o1,rfl,rfl⟩
  |false=>exact⟨_,o1,rfl,rfl⟩
 ·cases t2 with
  |true=>exact⟨_,o2,rfl,rfl⟩
  |false=>exact⟨_,o2,rfl,rfl⟩
theorem DL(n a b:Nat)(ha:a<n)(hb:b<n):Jz (n+4) (n+2) (n+3) n (n+1) a b:=by
 have f: ∀x y:Nat,x<y∨y<x->x≠y:=fun x y h=>by omega
 exact⟨f _ _ (by omega),f _ _ (by omega),f _ _ (by omega),f _ _ (by omega),f _ _ (by omega),f _ _ (by omega),f _ _ (by omega),f _ _ (by omega),f _ _ (by omega),f _ _ (by omega),f _ _ (by omega),f _ _ (by omega),f _ _ (by omega),f _ _ (by omega),f _ _ (by omega),f _ _ (by omega),f _ _ (by omega),f _ _ (by omega)⟩
noncomputable def Itz(K:Ae)(t1 t2:Bool)(a b:Addr):It:=
  ⟨fun i H => ∃ xs ys x y,MO K t1 H a xs /\ MO K t2 H b ys /\ xs[i]? = some x /\ ys[i]? = some y,
   fun i H v H'=> ∃p x y,(∀xs,MO K t1 H a xs->xs[i]? =some x)/\(∀ys,MO K t2 H b ys->ys[i]? =some y)/\H p=none/\H'=cL H p (.tup [x,y])/\v= .ref p,
   fun i H=> ∃xs ys,MO K t1 H a xs/\MO K t2 H b ys/\(xs.length<=i∨ys.length<=i)⟩
theorem JY{P:Ar}{w:World}{K:Ae}{es:List Expr}{k:Nat}{pos:Pos}(t1 t2:Bool)(z p q i1 i2 a b:Addr)(D:Jz z p q i1 i2 a b):
  O5 P w K (.Tuple es k pos) (Itz K t1 t2 a b) [z,p,q,i1,i2] z (fun i h => EQ t1 t2 h z p q i1 i2 a b i .none) where
 mem := by simp
 obj := fun i h st c hc => by
  simp only[Ba,Ej,or_false] at hc
  rcases hc with rfl|rfl|rfl|rfl|rfl
  ·exact ⟨_,st.zip,fun v e => by cases e⟩
  ·exact ⟨_,st.its,fun v e => by cases e⟩
  ·obtain⟨u,v,g⟩:=st.res
   exact⟨_,g,fun v e=>by cases e⟩
  ·exact st.one.obj
  ·exact st.two.obj
 keep:=fun i h h' st kk=>by
  obtain⟨u,v,g⟩:=st.res
  exact⟨kk z (by simp) _ st.zip,kk p (by simp) _ st.its,⟨u,v,kk q (by simp) _ g⟩,st.one.at fun o e=>kk i1 (by simp) o e,st.two.at fun o e=>kk i2 (by simp) o e⟩
 item:=by
  intro X hP hw hK hc i aa s σ H E I hf st hg
  subst hP hw hK
  obtain⟨xs,ys,x,y,hq1,hq2,hx,hy⟩:=hg
  obtain⟨us,r1,g1,_⟩:=I.srcA hq1
  obtain⟨vs,r2,g2,_⟩:=I.srcA hq2
  obtain⟨u,hu,ru⟩:=r1.get hx
  obtain⟨v,hv,rv⟩:=r2.get hy
  refine OD D st g1 g2 (by simpa using hu) (by simpa using hv) fun h1 st1 hp hsz hk=>⟨_,rfl,?_⟩
  refine wpAny_letOwnedTupleGo_zip (s:={s with heap:=h1}) st1.zip fun h2 z2 sb=> ?_
  have sb:Ed z h1 h2:=sb
  have lt: ∀c∈[z,p,q,i1,i2],c<s.heap.objs.size:=fun c hc=>by
   simp only[Ba,Ej,or_false] at hc
   rcases hc with rfl|rfl|rfl|rfl|rfl
   ·exact Ag st.zip
   ·exact Ag st.its
   ·obtain⟨u,v,g⟩:=st.res
    exact Ag g
   ·obtain⟨o,e,_⟩:=st.one.obj
    exact Ag e
   ·obtain⟨o,e,_⟩:=st.two.obj
    exact Ag e
  have up: ∀c o,c≠z->h1.get? c=some o->h2.get? c=some o:=fun c o hcz e=>(sb.2 c hcz).trans e
  have st2:EQ t1 t2 h2 z p q i1 i2 a b (i+1) .none:=by
   obtain⟨u',v',g⟩:=st1.res
   exact⟨z2,up _ _ D.TIz st1.its,⟨u',v',up _ _ D.TOz g⟩,st1.one.at fun o e=>up _ o D.i1z e,st1.two.at fun o e=>up _ o D.i2z e⟩
  have l9:h2.get? s.heap.objs.size=some {cls:= .type "tuple",data:= .seq #[u,v]}:=up _ _ (Ff (lt z (by simp))) hp
  have az:H s.heap.objs.size=none:=I.hok.fresh (An _)
  have I0:eF X aa σ (cL H s.heap.objs.size (.tup [x,y])) {s with heap:=s.heap.push {cls:= .type "tuple",data:= .seq #[u,v]},toks:=s.toks}:=
   I.laid (fun c o e=>Ad _ e) (An _) ⟨by show 2<=sizeLine;decide,[u,v],.cons ru (.cons rv .nil),Kw _ _⟩
  have I1:eF X aa σ (cL H s.heap.objs.size (.tup [x,y])) {s with heap:=h2,toks:=s.toks}:=by
   refine eF.turnedL (s:={s with heap:=s.heap.push {cls:= .type "tuple",data:= .seq #[u,v]},toks:=s.toks}) (h':=h2) (t':=s.toks) (fp:=[z,p,q,i1,i2]) I0 (fun c o hc e=> ?_) (fun c hc=> ?_) fun c hc=>⟨by rw[dQ (Au (lt c hc))];exact(hf c hc).1,(hf c hc).2⟩
   ·by_cases hcn:c=s.heap.objs.size
    ·subst hcn
     have e:(s.heap.push {cls:= .type "tuple",data:= .seq #[u,v]}).get? s.heap.objs.size=some o:=e
     rw[Ap _ rfl] at e
     cases e
     exact l9
    ·have e':=(Heap.get?_push_ne _ _ _ hcn).symm.trans e
     exact up c o (fun w=>hc (by simp[w])) (hk c o (fun w=>hc (by simp[w])) (fun w=>hc (by simp[w])) (fun w=>hc (by simp[w])) (fun w=>hc (by simp[w])) e')
   ·simp only[Ba,Ej,or_false] at hc
    rcases hc with rfl|rfl|rfl|rfl|rfl
    ·exact⟨_,st2.zip⟩
    ·exact⟨_,st2.its⟩
    ·obtain⟨u,v,g⟩:=st2.res
     exact⟨_,g⟩
    ·obtain⟨o,e,_⟩:=st2.one.obj
     exact⟨o,e⟩
    ·obtain⟨o,e,_⟩:=st2.two.obj
     exact⟨o,e⟩
  exact⟨.ref s.heap.objs.size,_,I1,rfl,⟨_,x,y,fun zs hz=>by rw[I.sq_inj hz hq1];exact hx,fun zs hz=>by rw[I.sq_inj hz hq2];exact hy,az,rfl,rfl⟩,st2,fun c hc=>by
   rw[dQ (Au (lt c hc))]
   exact(hf c hc).1⟩
 done:=by
  intro X hP hw hK hc i aa s σ H E I hf st hg
  subst hP hw hK
  obtain⟨xs,ys,hq1,hq2,g7⟩:=hg
  obtain⟨us,r1,g1,_⟩:=I.srcA hq1
  obtain⟨vs,r2,g2,_⟩:=I.srcA hq2
  have l1:=r1.length
  have l2:=r2.length
  have he:us.toArray[i]? =none∨vs.toArray[i]? =none:=by
   rcases g7 with z|z
   ·exact .inl (by simp;omega)
   ·exact .inr (by simp;omega)
  refine LQ (I.ok.hd hc) D st g1 g2 he fun h1 hk=>⟨rfl,?_⟩
  have fq: ∀c∈[z,q,i1,i2],c∈[z,p,q,i1,i2]:=fun c hc=>by
   simp only[Ba,Ej,or_false] at hc⊢
   rcases hc with w|w|w|w<;>simp[w]
  have I':=eF.turnedL' (s:=s) (h':=h1) (t':=s.toks) (fp:=[z,q,i1,i2]) I (fun c o hc e=>hk c o (fun w=>hc (by simp[w])) (fun w=>hc (by simp[w])) (fun w=>hc (by simp[w])) (fun w=>hc (by simp[w])) e) fun c hc=>hf c (fq c hc)
  exact I'
 self:=fun _ i _ _ _ st h=>wpAny_pyIter_zip st.zip h
section
variable{X:Cx}{K:Ae}{ml:List Nat}{l m:Expr}{pa ta ia pb tb ib:Bool}{f g:VF}{p pos i9:Pos}{es:List Expr}{tk:Nat}{δ:Ev}
def iZp(K:Ae)(tl tm:TE):TI:=fun σ H R=>tl σ H fun x H1=>tm σ H1 fun y H2=> ∃a b t1 t2,x= .ref a/\y= .ref b/\(∃xs,MO K t1 H2 a xs)/\(∃ys,MO K t2 H2 b ys)/\R (Itz K t1 t2 a b) H2
theorem CG{tl tm:TE}(hg:Gl X "zip") (hm:X.mg "zip"=none) (hl:PE X l tl) (hr:PE X m tm) (he:starEach (l::[m]) X.env=(false,eval l X.env)::starEach [m] X.env:=by rfl) (he2:starEach (m::[]) X.env=(false,eval m X.env)::starEach [] X.env:=by rfl)
  (hpl : (Cu pos (starEach [m] X.env)).any (·.1) = false := by rfl) : PI X (.Tuple es tk i9) (.Call (.Name "zip" p) [l,m] [] pos) (iZp X.K tl tm) := by
 intro aa s σ H R I h
 refine Dr (WM I hg hm AL ?_ (by decide) (by decide))
 refine Di (bS (cT hl (cT hr bR he2) he pos aa s σ H (fun vs H1=>match vs with
  |[x,y]=> ∃a b t1 t2,x= .ref a/\y= .ref b/\(∃xs,MO X.K t1 H1 a xs)/\(∃ys,MO X.K t2 H1 b ys)/\R (Itz X.K t1 t2 a b) H1
  |_=>False) I h) fun us s1 ⟨vs,H1,I1,r1,q1⟩=> ?_) he hpl
 match vs,r1,q1 with
 |[x,y],r1,q1=>
  obtain⟨a,b,t1,t2,rfl,rfl,⟨xs,hq1⟩,⟨ys,hq2⟩,hR⟩:=q1
  obtain⟨u,v,rfl,ru,rv⟩:=NM r1
  cases ru
  cases rv
  obtain⟨us,w1,g1,_⟩:=I1.srcA hq1
  obtain⟨vs,w2,g2,_⟩:=I1.srcA hq2
  refine K7 g1 g2 fun h' st kp=> ?_
  have I2:eF X aa σ H1 {s1 with heap:=h'}:=I1.kept (t':=s1.toks) kp
  have ha:=g1.lt
  have hb:=g2.lt
  have D:Jz (s1.heap.objs.size+4) (s1.heap.objs.size+2) (s1.heap.objs.size+3) s1.heap.objs.size (s1.heap.objs.size+1) a b:=by exact DL _ a b ha hb
  refine wpAny_pyIter_zip st.zip ⟨s1.heap.objs.size+4,[s1.heap.objs.size+4,s1.heap.objs.size+2,s1.heap.objs.size+3,s1.heap.objs.size,s1.heap.objs.size+1],_,Itz X.K t1 t2 a b,H1,rfl,I2,JY t1 t2 _ _ _ _ _ a b D,st,fun c hc=> ?_,hR⟩
  have hc':s1.heap.objs.size<=c:=by
   simp only[Ba,Ej,or_false] at hc
   rcases hc with w|w|w|w|w<;>rw[w]<;>first|exact Nat.le_add_right _ _|exact An _
  exact I1.fpOk hc' (I1.hok.fresh hc')
theorem zBJ(h:X.K=K){tl tm:TE}(hg:Gl X "zip") (hm:X.mg "zip"=none) (hl:PE X l tl) (hr:PE X m tm) (he:starEach (l::[m]) X.env=(false,eval l X.env)::starEach [m] X.env:=by rfl) (he2:starEach (m::[]) X.env=(false,eval m X.env)::starEach [] X.env:=by rfl)
  (hpl:(Cu pos (starEach [m] X.env)).any (·.1)=false:=by rfl):PI X (.Tuple es tk i9) (.Call (.Name "zip" p) [l,m] [] pos) (iZp K tl tm):=by subst h;exact CG hg hm hl hr he he2 hpl
noncomputable def WZ:List eN->List eN->List eN
 |d::ds,e::es=> .tup [d,e]::WZ ds es
 |_,_=>[]
noncomputable def HJ(f g:VF):VI:=fun δ=>(f δ).bind fun p=>(g p.2).bind fun q=>(a5 p.1).bind fun ds=>(a5 q.1).map fun es=>(WZ ds es,q.2)
theorem QP: ∀{ds es:List eN} {i:Nat} {d:eN},(WZ ds es)[i]? =some d-> ∃x y,ds[i]? =some x/\es[i]? =some y/\d= .tup [x,y]
 |[],_,_,_,h=>by simp[WZ] at h
 |_::_,[],_,_,h=>by simp[WZ] at h
 |x::ds,y::es,0,d,h=>by simp[WZ] at h;exact⟨x,y,rfl,rfl,h.symm⟩
 |x::ds,y::es,i+1,d,h=>by
  obtain⟨x',y',h1,h2,h3⟩:=QP (ds:=ds) (es:=es) (i:=i) (d:=d) (by simpa[WZ] using h)
  exact⟨x',y',by simpa using h1,by simpa using h2,h3⟩
theorem QQ: ∀{ds es:List eN},ds.length<=(WZ ds es).length∨es.length<=(WZ ds es).length
 |[],_=> .inl (Fd _)
 |_::_,[]=> .inr (Fd _)
 |x::ds,y::es=>by
  rcases QQ (ds:=ds) (es:=es) with h|h
  ·exact .inl (Mi h)
  ·exact .inr (Mi h)
noncomputable def zBQ:eN->Bool
 | .tup _=>true
 |_=>false
theorem dH.sqA{N M:Addr->Prop}{H:Hp}{v:V}{d:eN}{ds:List eN}(h:dH K N H M v d)(e:a5 d=some ds): ∃a tup xs,v= .ref a/\MO K tup H a xs/\d8 K N H xs ds/\tup=zBQ d:=by
  cases d<;>first
    | (cases e
       obtain⟨a,xs,h1,h2,h3⟩:=h.tupE
       exact⟨a,true,xs,h1,h2,h3,rfl⟩)
    | (cases e
       obtain⟨a,xs,h1,h2,h3⟩:=h.lstE
       exact⟨a,false,xs,h1,h2,h3,rfl⟩)
    |cases e
theorem J5(hK:X.K=K)(hg:Gl X "zip") (hm:X.mg "zip"=none) (h:PE X l (TV K ml pa true true f)) (h':PE X m (TV K ml pb true true g)) (he:starEach (l::[m]) X.env=(false,eval l X.env)::starEach [m] X.env:=by rfl) (he2:starEach (m::[]) X.env=(false,eval m X.env)::starEach [] X.env:=by rfl)
  (hpl : (Cu pos (starEach [m] X.env)).any (·.1) = false := by rfl) : PI X (.Tuple es tk i9) (.Call (.Name "zip" p) [l,m] [] pos) (KI K ml (pa && pb) (HJ f g)) := (zBJ (K := K) hK hg hm h h' he he2 hpl).imp fun σ H R ⟨B,O,δ,ds,δ2,S,q,k⟩ => by
 unfold HJ at q
 cases h1:f δ with
 | none => rw [h1] at q;cases q
 |some p1=>
  obtain⟨x,δ1⟩:=p1
  rw[h1] at q
  cases h2:g δ1 with
  | none => simp [h2] at q
  |some p2=>
   obtain⟨y,δ3⟩:=p2
   simp only[Ak,h2] at q
   cases h3:a5 x with
   | none => rw [h3] at q;cases q
   |some xs=>
    rw[h3] at q
    have q:(a5 y).map (fun es=>(WZ xs es,δ3))=some (ds,δ2):=q
    cases h4:a5 y with
    | none => rw [h4] at q;cases q
    |some ys=>
     rw[h4] at q
     cases q
     refine⟨B,O,δ,x,δ1,S,h1,fun v1 H1 R1=>⟨B,O,δ1,y,_,R1.sta,h2,fun v2 H2 R2=> ?_⟩⟩
     have r1:=R1.rep.fr R2.frm (fun a z=> .inr z) fun a z=> .inr z
     obtain⟨a,t1,us,e1,q1,w1,et1⟩:=r1.sqA h3
     obtain⟨b,t2,vs,e2,q2,w2,et2⟩:=R2.rep.sqA h4
     refine⟨a,b,t1,t2,e1,e2,⟨us,q1⟩,⟨vs,q2⟩,k _ [(v1,x),(v2,y)] H2 (R2.sta.keepV fun z hz=> ?_) (R1.frm.trans R2.frm) (fun z=> ?_) ?_⟩
     ·simp only[Ba,Ej,or_false] at hz
      rcases hz with rfl|rfl
      ·exact r1
      ·exact R2.rep
     ·obtain⟨z1,z2⟩:=(Ac _ _).mp z
      exact(R1.pur z1).trans (R2.pur z2)
     ·intro N H h
      obtain⟨a',t1',us',f1,f2,f3,f4⟩:=(h (v1,x) (by simp)).sqA h3
      obtain⟨b',t2',vs',g1,g2,g3,g4⟩:=(h (v2,y) (by simp)).sqA h4
      have f1:v1= .ref a':=f1
      have g1:v2= .ref b':=g1
      rw[e1] at f1
      rw[e2] at g1
      cases f1
      cases g1
      have:t1'=t1:=f4.trans et1.symm
      subst this
      have:t2'=t2:=g4.trans et2.symm
      subst this
      refine⟨fun i d e=> ?_,us',vs',f2,g2,?_⟩
      ·obtain⟨dx,dy,hx,hy,rfl⟩:=QP e
       obtain⟨ux,ex,rx⟩:=f3.get hx
       obtain⟨uy,ey,ry⟩:=g3.get hy
       refine⟨⟨us',vs',ux,uy,f2,g2,ex,ey⟩,fun z H' hz=> ?_⟩
       obtain⟨pp,x',y',c1,c2,hp,rfl,rfl⟩:=hz
       have d1:=c1 us' f2
       have d2:=c2 vs' g2
       rw[ex] at d1
       rw[ey] at d2
       cases d1
       cases d2
       exact⟨eL hp,.tup (YW.of dZ) (.cons (rx.same (eL hp)) (.cons (ry.same (eL hp)) .nil))⟩
      ·rcases QQ (ds:=xs) (es:=ys) with w|w
       ·exact .inl (by rw[f3.length];exact w)
       ·exact .inr (by rw[g3.length];exact w)
end
end L2
namespace L2
open PySem PySem.Spec PyProof.Rows PySem.W
section
variable{prog:Ar}{w:World}{A:Bo}{E:Value->Ab->Prop}{s:Ab}
theorem OQ{t:Addr}{ae:Array Value}{Q:List Value->Ab->Prop}(hh:A.handled=none)(ht:IsTup s.heap t ae)(h1:1<=ae.size)(hz:ae.size<=16777216)
  (hQ: ∀(x:Value) (hb:Heap) (tk:Nat),ae[0]? =some x->(∀b o,s.heap.get? b=some o->hb.get? b=some o)->Q [x,.ref hb.objs.size] {s with heap:=hb.push {cls:= .type "list",data:= .seq (ae.toList.drop 1).toArray},toks:=tk}):
  wpAny (model prog w) A (Gw (.ref t) 2 (some 1)) Q E s:=by
 have hne:t≠s.heap.objs.size:=by obtain⟨o,e,_⟩:=ht;exact Au (Ag e)
 (unfold Gw)
 refine Aa ?_
 (unfold Iz)
 refine Aa (Jr ht.typeIs slot_tuple_iter.lookup (Af ?_))
 simp only[Fv,if_false]
 refine Aa (Bk (iter_tuple ht (Aa (Bk (draw_tuple hne 1 0 _ _ ⟨_,Ap _ rfl,rfl,rfl⟩ (ht.push _) (by omega) fun ha ia ba=> ?_)))))
 have ta:IsTup ha t ae:=(ht.push _).extBut ba.extBut hne
 have ia:ha.IsTupleIter s.heap.objs.size t 1:=ia
 obtain⟨oi,gi,_⟩:=id ia
 obtain⟨ot,gt,_⟩:=id ta
 have hsz:ha.objs.size=s.heap.objs.size+1:=by rw[ba.1,Bx]
 have ii:((ae.toList.drop 0).take 1).length=1:=by simp;omega
 rw[if_neg (show¬((ae.toList.drop 0).take 1).length<1 by rw[ii];exact Bq _)]
 refine Aa (Bk (kun_collect (s:={s with heap:=ha}) (T:= "tuple_iterator") (.inr (.inr (.inr rfl))) (Walks.tuple (A:=A.in1) hh s.heap.objs.size t hne ae) (fun j u st=>st.1.typeIs) (k:=1) h1 ⟨ia,ta⟩ (Ag gi) (Ag gt) (fun hb tk kb=> ?_) (by rw[Bg];exact hz)))
 have l0:(ae.toList.drop 1).length=ae.size - 1:=by simp
 show wpAny _ _ (if(ae.toList.drop 1).length<2 - 1 - 1 then _ else _) _ _ _
 rw[if_neg (Jt _)]
 show wpAny _ _ (newList ((ae.toList.drop 1).take ((ae.toList.drop 1).length - (2 - 1 - 1)))>>=fun d=>pure ((ae.toList.drop 0).take 1++[d]++(ae.toList.drop 1).drop ((ae.toList.drop 1).length - (2 - 1 - 1)))) _ _ _
 have e1:(ae.toList.drop 1).take ((ae.toList.drop 1).length - (2 - 1 - 1))=ae.toList.drop 1:=Dl (An _)
 have e2:(ae.toList.drop 1).drop ((ae.toList.drop 1).length - (2 - 1 - 1))=[]:=Ei
 rw[e1,e2]
 refine Aa (Cf (Af ?_) (by show _<=sizeLine;rw[Bg];simp;omega))
 obtain⟨x,hx⟩: ∃x,ae[0]? =some x:=⟨ae[0],by simp[show 0<ae.size by omega]⟩
 have e3:(ae.toList.drop 0).take 1=[x]:=by
  rw[Kg]
  have:ae.toList[0]? =some x:=by simpa using hx
  cases hl:ae.toList with
  |nil=>rw[hl] at this;cases this
  |cons y r=>rw[hl] at this;cases this;rfl
 rw[e3]
 have keep: ∀b o,s.heap.get? b=some o->hb.get? b=some o:=fun b o e=>kb b o (Au (Ag e)) (ba.extBut b o (Au (Ag e)) (Ad _ e))
 exact hQ x hb tk hx keep
end
section
variable{X:Cx}{K:Ae}{ml:List Nat}{e a b c:Expr}{es:List Expr}{pa ta ia pb tb ib pc tc ic pu bt bi ps bs:Bool}{fa fb fc f:VF}{B B':Bs}{O:Nat->Option Addr}{H H0 H1 H':Hp}{σ:St}{δ δ':Ev}{v:V}{d:eN}{p:Addr}{pos:Pos}
def zC3(K:Ae)(i j:Nat):TG:=fun v σ H Q=> ∃a x xs,v= .ref a/\YW K H a (x::xs)/\ ∀p,H p=none->Q ((σ.set i (some x)).set j (some (.ref p))) (cL H p (.lst xs))
theorem FX{i j:Nat}{x y:Str}{px py ps tp:Pos}{k:Nat}(hc:X.calm=true)(hN:X.N.Nodup)(hi:X.N[i]? =some x)(hj:X.N[j]? =some y)(hx:MM X.env.scope x)(hy:MM X.env.scope y)
  (fx:X.fn x=true∨X.env.scope.names.lookup x=some .local) (fy:X.fn y=true∨X.env.scope.names.lookup y=some .local)
  (hl:(assignEach [.Name x px,.Starred (.Name y py) ps] X.env).map (·.2)=[Fe (.Name x px) X.env,Fe (.Name y py) X.env]) (hn:(assignEach [.Name x px,.Starred (.Name y py) ps] X.env).length=2) (hst:(assignEach [.Name x px,.Starred (.Name y py) ps] X.env).findIdx? (·.1)=some 1):
  PG X (.Tuple [.Name x px,.Starred (.Name y py) ps] k tp) (zC3 X.K i j):=by
 intro aa s σ H v u Q I r hw
 obtain⟨a,z,zs,e1,hq,q⟩:=hw
 subst e1
 cases r
 obtain⟨its,rv,ht,hz⟩:=I.tuple hq
 rw[Lz]
 refine Aa (Ds ?_)
 (unfold unpack)
 rw[hn,hst]
 have ag:=rv.length
 rw[Cr] at ag
 have hz':its.length<=16777216:=by rw[<- Bg,<- ag];exact hz
 refine Aa (Bk (OQ (I.ok.hd hc) ht (by rw[Aj];omega) (by rw[Aj];exact hz') fun u hb tk hu kp=> ?_))
 rw[hl]
 cases rv with
 | @cons _ w _ ws rz rzs=>
  have hu:some w=some u:=by simpa using hu
  cases hu
  have I1:eF X aa σ H {s with heap:=hb,toks:=tk}:=I.kept kp
  have I2:=eF.lnew (s:={s with heap:=hb,toks:=tk}) (t':=tk) I1 rzs (by rw[Bg];simp only[Cr] at hz' ag;have:=rzs.length;omega)
  refine Ek (Ew (aJ I2 hN hi hx rz (fun s3 I3=> ?_) fx))
  refine Ek (Ew (aJ I3 hN hj hy (v:= .ref hb.objs.size) rfl (fun s4 I4=>Hx ⟨_,_,I4,q _ (I1.hok.fresh (An _))⟩) fy))
noncomputable def JI(i j:Nat)(f:VF):VS:=fun δ=>(f δ).bind fun p=>match p.1 with
 | .tup (d::ds)=>some (.nx ((p.2.set i (.va d)).set j (.va (.lst ds))))
 |_=>none
theorem GN{i j:Nat}{x y:Str}{px py sp tp:Pos}{k:Nat}(hK:X.K=K)(hc:X.calm=true)(hN:X.N.Nodup)(hi:X.N[i]? =some x)(hj:X.N[j]? =some y)(hij:i≠j)(hx:MM X.env.scope x)(hy:MM X.env.scope y)(he:PE X e (TV K ml pu true true f))
  (hmi : i ∉ ml := by decide) (hmj : j ∉ ml := by decide)
  (fx : X.fn x = true ∨ X.env.scope.names.lookup x = some .local := by first | exact .inl rfl | exact .inr rfl | assumption) (fy : X.fn y = true ∨ X.env.scope.names.lookup y = some .local := by first | exact .inl rfl | exact .inr rfl | assumption)
  (hl : (assignEach [.Name x px,.Starred (.Name y py) sp] X.env).map (·.2) = [Fe (.Name x px) X.env,Fe (.Name y py) X.env] := by rfl) (hn : (assignEach [.Name x px,.Starred (.Name y py) sp] X.env).length = 2 := by rfl) (hst : (assignEach [.Name x px,.Starred (.Name y py) sp] X.env).findIdx? (·.1) = some 1 := by rfl)
  (hs : Im [.Tuple [.Name x px,.Starred (.Name y py) sp] k tp] e pos.line X.env = pure false := by rfl) (hw : Io [.Tuple [.Name x px,.Starred (.Name y py) sp] k tp] e X.env = pure none := by rfl)
  (h1 : (assignEach [.Tuple [.Name x px,.Starred (.Name y py) sp] k tp] X.env).map (·.2) = [Fe (.Tuple [.Name x px,.Starred (.Name y py) sp] k tp) X.env] := by rfl) :
  PS X (.Assign [.Tuple [.Name x px,.Starred (.Name y py) sp] k tp] e pos) (W2 K ml (JI i j f)):=by
 subst hK
 refine(OL he (FX hc hN hi hj hx hy fx fy hl hn hst) hs hw h1).imp fun D σ H ⟨B,O,δ,o,S,q,k⟩=> ?_
 unfold JI at q
 cases h1:f δ with
 | none => rw [h1] at q;cases q
 |some p1=>
  obtain⟨z,δ1⟩:=p1
  rw[h1] at q
  refine⟨B,O,δ,z,δ1,S,h1,fun v H1 R=> ?_⟩
  cases z with
  |tup ds=>
   cases ds with
   | nil => cases q
   |cons d ds=>
    cases q
    obtain⟨a,xs,rfl,sq,r⟩:=R.rep.tupE
    cases r with
    | @cons v0 vs _ _ r1 r2=>
     refine⟨a,v0,vs,rfl,sq,fun p hp=> ?_⟩
     have S1:=(R.sta.same (eL (o:= .lst vs) hp)).setVa hmi (r1.same (eL (o:= .lst vs) hp))
     have N1: ∀c,Nn B (fun j=>if j=i then none else O j) c->Nn B O c:=XD (o:=none)
     refine k _ _ _ (S1.setVa hmj (.lst dZ (fun z=>R.sta.new hp (N1 _ z)) ((r2.same (eL hp)).mono N1)))
  |_=>cases q
end
end L2
namespace L2
open PySem PySem.Spec PyProof.Rows
section
variable{X:Cx}{K:Ae}{ml:List Nat}{e a b c:Expr}{es:List Expr}{pa ta ia pb tb ib pc tc ic pu bt bi ps bs:Bool}{fa fb fc f:VF}{B B':Bs}{O:Nat->Option Addr}{H H0 H1 H':Hp}{σ:St}{δ δ':Ev}{v:V}{d:eN}{p:Addr}{pos:Pos}
def F7(K:Ae)(neg:Bool):R2:=fun x y H Q=> ∃d e ds,Dp K H x d/\Dp K H y e/\(e= .list ds∨e= .tuple ds)/\Df d=true/\Df e=true/\Q (.bl (if neg then !ds.any (fun z=>Go z d) else ds.any fun z=>Go z d)) H
theorem XM{d:Kf}(h:Df d=true):d.canLay0=true/\d.depth<=64:=by
 unfold Df at h
 simp only[Ac,decide_eq_true_eq] at h
 exact h
theorem IE(neg:Bool)(hu:X.A.units+64<cLine):aS X (Bv (if neg then .NotIn else .In)) (F7 X.K neg):=by
 intro aa s σ H x y v u Q I rx ry h
 obtain⟨d,e,ds,hd,he,hk,sd,se,q⟩:=h
 obtain⟨as,h1⟩:=I.reads hd rx
 obtain⟨bs,h2⟩:=I.reads he ry
 obtain⟨c1,d1⟩:=XM sd
 obtain⟨c2,d2⟩:=XM se
 have fin: ∀k,(k=if neg then !ds.any (fun z=>Go z d) else ds.any fun z=>Go z d)->EP X aa σ Q (.bool k) s:=fun k hk=>by subst hk;exact⟨.bl _,H,I,rfl,q⟩
 rcases hk with rfl|rfl
 ·have hc : Lp ds = true := by simpa [Hr] using c2
  have io:Er ds<=63:=by simp only[Js] at d2;omega
  have hm:X.A.units+1+min (Er ds) d.depth<cLine:=by have:=Nk (Er ds) d.depth;omega
  cases neg with
  |false=>exact SeqAt.in_list_reads h2 h1 hc c1 hm (fin _ rfl)
  |true=>exact SeqAt.notIn_list_reads h2 h1 hc c1 hm (fin _ rfl)
 ·have hc : Lp ds = true := by simpa [Hr] using c2
  have io:Er ds<=63:=by simp only[Js] at d2;omega
  have hm:X.A.units+1+min (Er ds) d.depth<cLine:=by have:=Nk (Er ds) d.depth;omega
  cases neg with
  |false=>exact SeqAt.in_tuple_reads h2 h1 hc c1 hm (fin _ rfl)
  |true=>exact SeqAt.notIn_tuple_reads h2 h1 hc c1 hm (fin _ rfl)
theorem kInD(h:X.K=K)(hu:X.A.units+64<cLine):aS X (Bv .In) (F7 K false):=by subst h;exact IE false hu
theorem FA(h:X.K=K)(hu:X.A.units+64<cLine):aS X (Bv .NotIn) (F7 K true):=by subst h;exact IE true hu
noncomputable def inE(d:eN)(ds:List eN):Bool:=(D1 ds).any fun z=>Go z d.pd
noncomputable def FG(neg:Bool)(d e:eN):Option eN:=(a5 e).bind fun ds=>if(P2 d && P2 e)=true then some (.bl (if neg then !inE d ds else inE d ds)) else none
theorem ED{neg:Bool}:V6 K (F7 K neg) (FG neg):=by
 intro H N N' M M' x y d e c Q hx hy h k
 unfold FG at h
 cases hs:a5 e with
 | none => rw [hs] at h;cases h
 |some ds=>
  rw[hs] at h
  have h:(if(P2 d && P2 e)=true then some (eN.bl (if neg then !inE d ds else inE d ds)) else none)=some c:=h
  split at h
  ·rename_i hh
   cases h
   simp only[P2,Ac] at hh
   refine⟨d.pd,e.pd,D1 ds,hx.dp hh.1.1,hy.dp hh.2.1,?_,hh.1.2,hh.2.2,k _ fun _ _ _=> .bl _⟩
   cases e<;>first
    |(cases hs;exact .inr rfl)
    |(cases hs;exact .inl rfl)
    |cases hs
  ·cases h
def zA8(K:Ae)(td ty:TE):TE:=fun σ H Q=>td σ H fun x H1=> ∃a,x= .ref a/\((IsD H1 a/\ty σ H1 fun y H2=> ∃o,T2 H2 a y o/\Q (o.getD .non) H2)∨ ∃D,KTab K a D/\ty σ H1 fun y H2=> ∃k,y= .str k/\Q ((Dv k D).getD .non) H2)
theorem IM{ak af:Pos}{td ty:TE}(hu:X.A.units+1<cLine)(ho:PE X a td)(he:PE X e ty)(m:M1 X a "get" ak e af):PE X (.Call (.Attribute a "get" ak) [e] [] af) (zA8 X.K td ty):=by
 intro aa s σ H Q I h
 refine wpAny_Call_method m.base m.few m.line PySem.F.plainAttrs_dict Eo PySem.F.type_dict_get (bS (ho aa s σ H _ I h) fun u s1 ⟨x,H1,I1,rx,l,ex,q1⟩=> ?_)
 subst ex
 obtain rfl:u=Bf l:=rx
 rcases q1 with⟨hd,q1⟩|⟨D,T,q1⟩
 ·obtain⟨t1,t2,_⟩:=A3 I1 hd
  refine⟨t1,t2,?_⟩
  rw[m.trees]
  refine Fx rfl (Ez (Hk (bS (he aa s1 σ H1 _ I1 q1) fun iv s2 ⟨y,H2,I2,ry,ov,g,q2⟩=>Hy ?_)))
  exact AO hu I2 g ry fun w' s3 I3 rw'=>⟨_,H2,I3,rw',q2⟩
 ·obtain⟨l4,o,lj,ep,hk,hex,bx,_⟩:=id T
  refine⟨⟨o,I1.kIn _ _ hk,hex.1⟩,fun b q=> ?_,?_⟩
  ·cases q
   exact⟨o,I1.kIn _ _ hk,hex.2.1⟩
  rw[m.trees]
  refine Fx rfl (Ez (Hk (bS (he aa s1 σ H1 _ I1 q1) fun iv s2 ⟨y,H2,I2,ry,k,ey,q2⟩=>Hy ?_)))
  subst ey
  obtain⟨t,rfl⟩:=ry
  have hT:s2.TypeIs (.ref l) "dict":=⟨o,I2.kIn _ _ hk,hex.1⟩
  refine Dd Eo hT Fy ?_ (Fu _ _)
  show wpAny _ _ (dictGet l (.str k t)>>=_) _ _ s2
  refine Aa (PR I2.kIn T (fun d' v' ha hv=>Af ⟨v',rfl,?_⟩) fun hn=> ?_)
  ·rw[ha] at q2
   exact⟨d',H2,I2.tok _,hv,q2⟩
  ·rw[hn] at q2
   show wpAny _ _ (Kn l (.str k t)>>=_) _ _ _
   unfold Kn
   rw[if_neg (by rw[l4];exact Ca)]
   exact Aa (Af (Af ⟨.none,rfl,.non,H2,I2.tok _,rfl,q2⟩))
noncomputable def DY:eN->eN->Option eN
 | .dct ks ds,.str x=>some ((bO ks ds (.inr x)).getD .non)
 |_,_=>none
theorem GJ{ak af:Pos}(hK:X.K=K)(hu:X.A.units+1<cLine)(ha:PE X a (TV K ml pa ta ia fa))(hb:PE X b (TV K ml pb tb ib fb))(m:M1 X a "get" ak b af) (hs:(pb || (ta && ia))=true:=by rfl):
  PE X (.Call (.Attribute a "get" ak) [b] [] af) (TV K ml (pa && pb) ia ia (f2 DY fa fb)):=by
 subst hK
 refine(IM hu ha hb m).imp fun σ H Q ⟨B,O,δ,d,δ2,S,q,k⟩=> ?_
 obtain⟨x,δ1,y,h1,h2,h3⟩:=YO q
 refine⟨B,O,δ,x,δ1,S,h1,fun v1 H1 R1=> ?_⟩
 have fin : ∀ v2 H2 (R2 : GQ X.K ml B O H1 σ pb tb ib H2 δ2 v2 y) o,dH X.K (av B O ia) H2 (av B O ia) o d -> Q o H2 := fun v2 H2 R2 o ho => k o H2 ⟨R2.sta,R1.frm.trans R2.frm,fun z => by
  obtain⟨z1,z2⟩:=(Ac _ _).mp z
  exact(R1.pur z1).trans (R2.pur z2),ho.mono (fun _ z=>z) DQ⟩
 cases x with
 |dct ks ds=>
  cases y with
  |str z=>
   cases h3
   generalize hx:eN.dct ks ds=dd at R1
   have r1:=R1.rep
   cases r1 with
   | @dct _ l kvs ds' qd n r=>
    cases hx
    refine⟨l,rfl,.inl ⟨.inl ⟨_,.inl qd⟩,B,O,δ1,_,δ2,R1.sta,h2,fun v2 H2 R2=> ?_⟩⟩
    have r2:=R2.rep
    cases r2
    have h4:H2 l=some (.dK kvs)/\d8 X.K (av B O ia) H2 (kvs.map Iq) ds:=by
     cases pb with
     |true=>exact⟨R2.pur rfl _ _ qd,r.same (R2.pur rfl)⟩
     |false=>
      have hs:(ta && ia)=true:=by simpa using hs
      obtain⟨z1,z2⟩:=(Ac _ _).mp hs
      subst z1 z2
      exact⟨R2.frm _ _ qd fun w=>absurd (.inr w) n,r.fr R2.frm fun a z=> .inr z⟩
    refine⟨_,T2.k (k:= .inr z) h4.1,fin _ _ R2 _ ?_⟩
    rcases U2 (k:= .inr z) h4.2 with⟨v,d',g1,g2,g3⟩|⟨g1,g2⟩
    ·rw[g1,g2];exact g3
    ·rw[g1,g2];exact .non
   | @ktb _ l D ds' T r=>
    cases hx
    refine⟨l,rfl,.inr ⟨D,T,B,O,δ1,_,δ2,R1.sta,h2,fun v2 H2 R2=> ?_⟩⟩
    have r2:=R2.rep
    cases r2
    refine⟨z,rfl,fin _ _ R2 _ ?_⟩
    have r':d8 X.K (av B O ia) H2 (D.map Iq) ds:=by
     cases pb with
     |true=>exact r.same (R2.pur rfl)
     |false=>
      have hs:(ta && ia)=true:=by simpa using hs
      obtain⟨z1,z2⟩:=(Ac _ _).mp hs
      subst z1 z2
      exact r.fr R2.frm fun a z=> .inr z
    rcases WK (k:=z) r' with⟨v,d',g1,g2,g3⟩|⟨g1,g2⟩
    ·rw[g1,g2];exact g3
    ·rw[g1,g2];exact .non
   |_=>cases hx
  |_=>cases h3
 |_=>cases h3
end
theorem UP:Bj "all"=some (.builtin "all"):=by decide+kernel
theorem G7:Bj "any"=some (.builtin "any"):=by decide+kernel
section
variable{X:Cx}{K:Ae}{ml:List Nat}{e a b c:Expr}{es:List Expr}{pa ta ia pb tb ib pc tc ic pu bt bi ps bs:Bool}{fa fb fc f:VF}{B B':Bs}{O:Nat->Option Addr}{H H0 H1 H':Hp}{σ:St}{δ δ':Ev}{v:V}{d:eN}{p:Addr}{pos:Pos}
theorem ET{ks:List Bool}{us:List Value}(r:dG (ks.map V.bl) us){i:Nat}{u:Value}(h:us[i]? =some u): ∃k,ks[i]? =some k/\u= .bool k:=by
 have hl:=r.length
 rw[Dk] at hl
 have hi:i<us.length:=(Ah.mp h).1
 have e:(ks.map V.bl)[i]? =some (.bl ks[i]):=by simp[hl▸hi]
 obtain⟨w,h1,h2⟩:=r.get e
 rw[h] at h1
 cases h1
 exact⟨ks[i],by simp[hl▸hi],h2⟩
theorem L5{ks:List Bool}:(Aw ks.length).all (fun i=>(ks[i]?).getD true)=ks.all id:=by
 induction ks with
 |nil=>rfl
 |cons k ks ih=>
  rw[Cr,Jg,Oj,List.all_map,Oj,<- ih]
  rfl
theorem L6{ks:List Bool}:(Aw ks.length).any (fun i=>(ks[i]?).getD true)=ks.any id:=by
 induction ks with
 |nil=>rfl
 |cons k ks ih=>
  rw[Cr,Jg,Ol,List.any_map,Ol,<- ih]
  rfl
def U6(K:Ae)(g:List Bool->Bool):RC:=fun xs H Q=> ∃p ks,xs=[.ref p]/\aT K H p (ks.map V.bl)/\Q (.bl (g ks)) H
theorem QH{prog:Ar}{w:World}{A:Bo}{ks:List Bool}{us:List Value}(r:dG (ks.map V.bl) us):TruthOf prog w A (fun i v=>us.toArray[i]? =some v) fun i=>(ks[i]?).getD true:=by
 intro i v s Q E hP hQ
 obtain⟨k,h1,rfl⟩:=ET r (by simpa using hP)
 have hQ:Q ((ks[i]?).getD true) s:=hQ
 rw[h1] at hQ
 exact Dg hQ
theorem K1(hc:X.calm=true):cI X (.builtin "all") (U6 X.K fun ks=>ks.all id):=by
 intro aa s σ H xs us Q I r h
 obtain⟨l,ks,rfl,hq,q⟩:=h
 obtain⟨u,rfl,rx⟩:=XQ r
 cases rx
 obtain⟨its,rv,pl,hz⟩:=I.list hq
 have hl:=pl.isList
 have hne:l≠s.heap.objs.size:=by obtain⟨o,g,_⟩:=hl;exact Au (Ag g)
 have ag:=rv.length
 rw[Dk] at ag
 refine call_all_walk (Dz hl ⟨_,_,_,_,_,_,_,rfl,Nz (show X.A.in1.handled=none from I.ok.hd hc) s.heap.objs.size l hne its.toArray,⟨⟨_,Ap _ rfl,rfl,rfl⟩,?_⟩,QH rv,fun h' tk hk=> ?_⟩)
 ·obtain⟨o,g,r⟩:=hl
  exact⟨o,Ad _ g,r⟩
 ·rw[Aj,<- ag,L5]
  exact⟨.bl _,H,I.kept (t':=tk) fun b o g=>hk b o (by simp;exact Au (Ag g)) (Ad _ g),rfl,q⟩
theorem K2(hc:X.calm=true):cI X (.builtin "any") (U6 X.K fun ks=>ks.any id):=by
 intro aa s σ H xs us Q I r h
 obtain⟨l,ks,rfl,hq,q⟩:=h
 obtain⟨u,rfl,rx⟩:=XQ r
 cases rx
 obtain⟨its,rv,pl,hz⟩:=I.list hq
 have hl:=pl.isList
 have hne:l≠s.heap.objs.size:=by obtain⟨o,g,_⟩:=hl;exact Au (Ag g)
 have ag:=rv.length
 rw[Dk] at ag
 refine call_any_walk (Dz hl ⟨_,_,_,_,_,_,_,rfl,Nz (show X.A.in1.handled=none from I.ok.hd hc) s.heap.objs.size l hne its.toArray,⟨⟨_,Ap _ rfl,rfl,rfl⟩,?_⟩,QH rv,fun h' tk hk=> ?_⟩)
 ·obtain⟨o,g,r⟩:=hl
  exact⟨o,Ad _ g,r⟩
 ·rw[Aj,<- ag,L6]
  exact⟨.bl _,H,I.kept (t':=tk) fun b o g=>hk b o (by simp;exact Au (Ag g)) (Ad _ g),rfl,q⟩
theorem HL(h:X.K=K)(hc:X.calm=true):cI X (.builtin "all") (U6 K fun ks=>ks.all id):=by subst h;exact K1 hc
theorem kAny(h:X.K=K)(hc:X.calm=true):cI X (.builtin "any") (U6 K fun ks=>ks.any id):=by subst h;exact K2 hc
noncomputable def NV:List eN->Option (List Bool)
 |[]=>some []
 | .bl k::ds=>(NV ds).map fun ks=>k::ks
 |_=>none
theorem MS{N:Addr->Prop}: ∀{xs:List V} {ds:List eN} {ks:List Bool},d8 K N H xs ds->NV ds=some ks->xs=ks.map V.bl
 | _,_,_,.nil,h => by cases h;rfl
 | _,_,_,@d8.cons _ _ _ v vs d ds h t,e => by
  cases d with
  |bl k=>
   cases h
   have e:(NV ds).map (fun ks=>k::ks)=some _:=e
   cases h2:NV ds with
   |none=>rw[h2] at e;cases e
   |some ks'=>
    rw[h2] at e
    cases e
    rw[MS t h2,Ft]
  |_=>cases e
noncomputable def HW(g:List Bool->Bool):eN->Option eN
 | .lst ds=>(NV ds).map fun ks=> .bl (g ks)
 |_=>none
noncomputable abbrev LR:=HW fun ks=>ks.all id
noncomputable abbrev BF:=HW fun ks=>ks.any id
theorem JJ{g:List Bool->Bool}:QR K (U6 K g) (HW g):=by
 intro H N M x d c Q hx h k
 cases d with
 |lst ds=>
  have h:(NV ds).map (fun ks=>eN.bl (g ks))=some c:=h
  cases h1:NV ds with
  |none=>rw[h1] at h;cases h
  |some ks=>
   rw[h1] at h
   cases h
   obtain⟨a,xs,rfl,sq,r⟩:=hx.lstE
   have:=MS r h1
   subst this
   exact⟨a,ks,rfl,sq,k _ fun _ _ _=> .bl _⟩
 |_=>cases h
theorem QA:QR K (U6 K fun ks=>ks.all id) LR:=JJ
theorem EC:QR K (U6 K fun ks=>ks.any id) BF:=JJ
noncomputable def ZK:List eN->Option (List Int)
 |[]=>some []
 | .int i::ds=>(ZK ds).map fun ns=>i::ns
 |_=>none
theorem XB{N:Addr->Prop}: ∀{xs:List V} {ds:List eN} {ns:List Int},d8 K N H xs ds->ZK ds=some ns->xs=ns.map V.int
 | _,_,_,.nil,h => by cases h;rfl
 | _,_,_,@d8.cons _ _ _ v vs d ds h t,e => by
  cases d with
  |int k=>
   cases h
   have e:(ZK ds).map (fun ks=>k::ks)=some _:=e
   cases h2:ZK ds with
   |none=>rw[h2] at e;cases e
   |some ks'=>
    rw[h2] at e
    cases e
    rw[XB t h2,Ft]
  |_=>cases e
end
section
variable{X:Cx}{K:Ae}{ml:List Nat}{e:Expr}{es:List Expr}{pu bt bi bs:Bool}{f:VF}{fs:VQ}
theorem eD(h:PE X e (TV K ml pu bt bi f))(hb:(bt && bi)=true:=by rfl):PE X e (TV K ml pu true true f):=by
 obtain⟨h1,h2⟩:=(Ac _ _).mp hb
 subst h1 h2
 exact h
theorem c5(h:PA X es (G2 K ml pu bs fs))(hb:bs=true:=by rfl):PA X es (G2 K ml pu true fs):=by
 subst hb
 exact h
theorem bX{st:Stmt}:PS X st (W2 K ml fun _=>none):=fun _ _ _ _ _ _ ⟨_,_,_,_,_,q,_⟩=>nomatch q
variable{a b c:Expr}{pa ta ia pb tb ib pc tc ic:Bool}{fa fb fc:VF}{pos:Pos}{δ:Ev}
end
theorem YM: ∀(names:List (Str×NameKind)) (n:Nat) (acc:List (Str×Addr)),cellsFrom n names acc=cellsFrom n names []++acc
 | [],_,_ => rfl
 | (x,k) :: r,n,acc => by
  unfold cellsFrom
  split
  ·rw[YM r (n+1) ((x,n)::acc),YM r (n+1) [(x,n)]]
   simp
  ·exact YM r n acc
theorem Q5: ∀{names:List (Str×NameKind)} {n:Nat} {x:Str} {c:Addr},(x,c)∈cellsFrom n names []->(x,Bb)∈names
 | [],_,_,_,h => nomatch h
 | (y,k) :: r,n,x,c,h => by
  unfold cellsFrom at h
  split at h
  ·rename_i hk
   rw[YM] at h
   rcases El.mp h with h|h
   ·exact Ay _ (Q5 h)
   ·cases Cb.mp h
    rw[show k=Bb from beq_iff_eq.mp hk]
    exact Bz
  ·exact Ay _ (Q5 h)
theorem Q4: ∀{names:List (Str×NameKind)} {n:Nat} {x:Str},(x,Bb)∈names-> ∃c,(x,c)∈cellsFrom n names []
 | (y,k) :: r,n,x,h => by
  unfold cellsFrom
  rcases Ba.mp h with e|h
  ·cases e
   rw[if_pos (by decide),YM]
   exact⟨n,Am _ (Cb.mpr rfl)⟩
  ·split
   ·rw[YM]
    obtain⟨c,hc⟩:=Q4 (n:=n+1) h
    exact⟨c,Av _ hc⟩
   ·exact Q4 h
theorem X2: ∀{l:List (Str×Addr)} {x:Str} {c:Addr},(x,c)∈l-> ∃c',l.lookup x=some c'
 | (y,d) :: r,x,c,h => by
  rw[Bp]
  cases hb:x==y with
  | true => exact ⟨d,rfl⟩
  |false=>
   rcases Ba.mp h with e|h
   ·cases e
    simp at hb
   ·exact X2 h
theorem c8: ∀{l m:List (Str×Addr)} {x:Str} {c:Addr},(l++m).lookup x=some c->l.lookup x=some c∨(l.lookup x=none/\m.lookup x=some c)
 |[],_,_,_,h=> .inr ⟨rfl,h⟩
 |(y,d)::r,m,x,c,h=>by
  rw[Ja,Bp] at h
  rw[Bp]
  cases hb:x==y with
  |true=>rw[hb] at h;exact .inl h
  |false=>rw[hb] at h;exact c8 h
theorem aA: ∀{l m:List (Str×Addr)} {x:Str},l.lookup x=none->(l++m).lookup x=m.lookup x
 |[],_,_,_=>rfl
 |(y,d)::r,m,x,h=>by
  rw[Bp] at h
  rw[Ja,Bp]
  cases hb:x==y with
  |true=>rw[hb] at h;cases h
  |false=>rw[hb] at h;exact aA h
theorem WD{M:Model}{A:Bo}{E:Value->Ab->Prop}{s:Ab}{scope:Scope}{globals:Addr}{f9:List (Str×Addr)}{qual:Str}{outer:Env}{Q:Env->Ab->Prop}
  (hQ:Q (newEnv scope s.heap.objs.size globals (cellsFrom (s.heap.objs.size+1) scope.names f9) qual none .none (some outer) builtinsNs) {s with heap:=Ih (s.heap.push {cls:= .type "dict",data:= .dict #[]}) scope.names}):
  wpAny M A (Ht scope globals f9 [] qual none .none (some outer)) Q E s:=by
 simp only[Ht,Option.isSome_some,if_true]
 refine Aa (wpAny_alloc ?_)
 refine Aa (wpAny_layCells _ (fun name kind cells=>by cases hkc:kind==Bb<;>simp[hkc]) _ _ _ _ ?_)
 rw[show({s with heap:=s.heap.push {cls:= .type "dict",data:= .dict #[]}}:Ab).heap.objs.size=s.heap.objs.size+1 from Bx ..]
 rw[Kh]
 exact Aa (Af (Af hQ))
theorem aY: ∀{l m:List (Str×Addr)} {x:Str} {c:Addr},l.lookup x=some c->(l++m).lookup x=some c
 |(y,d)::r,m,x,c,h=>by
  rw[Bp] at h
  rw[Ja,Bp]
  cases hb:x==y with
  |true=>rw[hb] at h;exact h
  |false=>rw[hb] at h;exact aY h
structure W0(X:Cx)(N':List Str)(ix:List Nat)(scope:Scope):Prop where
 kind:scope.kind= .function
 cel: ∀y∈scope.names,y.2= .cell->scope.names.lookup y.1=some .cell
 names: ∀y∈scope.names,y.2= .local->scope.names.lookup y.1=some .local
 free: ∀y∈scope.names,y.2= .free->X.env.kindOf y.1=some .cell∨X.env.kindOf y.1=some .free
 nd:N'.Nodup
 cap: ∀j,j<ix.length->N'[j]? =(ix[j]?).bind fun i=>X.N[i]?
 capf: ∀x∈N'.take ix.length,scope.names.lookup x=some .free
noncomputable def dL(X:Cx)(N':List Str)(scope:Scope)(cl:List (Str×Addr))(s1:Ab)(H1:Hp)(fp:List Addr):Cx:=
 {X with N:=N',s₀:=s1,H₀:=H1,env:=Ms scope cl s1.heap.objs.size X.env,outer:=X.stack,stack:=X.stack,ex:=fp,fn:=fun x=>scope.names.lookup x==some Bb,pn:=[],xe:=fun _ _=>False}
theorem aR{env:Env}{x:Str}: ∀{l:List (Str×NameKind)},
  ((l.map fun (n,k) => if (k == At && env.scope.kind == .function && env.kindOf n == some .cell) then (n,Bb) else (n,k)).lookup x = some .cell ∨
  (l.map fun (n,k) => if (k == At && env.scope.kind == .function && env.kindOf n == some .cell) then (n,Bb) else (n,k)).lookup x = some .free) -> (x,At) ∈ l ∨ (x,Bb) ∈ l
 | [],h => by rcases h with z | z <;> cases z
 | (n,k) :: r,h => by
  have h:Kl x ((if(k==At && env.scope.kind== .function && env.kindOf n==some .cell)=true then(n,Bb) else(n,k))::r.map fun(n,k)=>if(k==At && env.scope.kind== .function && env.kindOf n==some .cell) then(n,Bb) else(n,k))=some .cell∨
   Kl x ((if(k==At && env.scope.kind== .function && env.kindOf n==some .cell)=true then(n,Bb) else(n,k))::r.map fun(n,k)=>if(k==At && env.scope.kind== .function && env.kindOf n==some .cell) then(n,Bb) else(n,k))=some .free:=h
  by_cases hc:(k==At && env.scope.kind== .function && env.kindOf n==some .cell)=true
  ·rw[if_pos hc] at h
   by_cases hx:x=n
   ·subst hx
    have hk:k= .free:=by
     simp only[Ac] at hc
     exact beq_iff_eq.mp hc.1.1
    subst hk
    exact .inl Bz
   ·have hb:(x==n)=false:=beq_eq_false_iff_ne.mpr hx
    simp only[Bp,hb] at h
    rcases aR (env:=env) h with z|z
    ·exact .inl (Ay _ z)
    ·exact .inr (Ay _ z)
  ·rw[if_neg hc] at h
   by_cases hx:x=n
   ·subst hx
    rw[Ck] at h
    rcases h with z|z
    ·cases z;exact .inr Bz
    ·cases z;exact .inl Bz
   ·have hb:(x==n)=false:=beq_eq_false_iff_ne.mpr hx
    simp only[Bp,hb] at h
    rcases aR (env:=env) h with z|z
    ·exact .inl (Ay _ z)
    ·exact .inr (Ay _ z)
theorem NX{X:Cx}{aa:List (Addr×Obj)}{σ:St}{H2:Hp}{s2:Ab}{E:Value->Ab->Prop}{tg iter elt:Expr}{ifs:List Expr}{scope:Scope}{pos:Pos}{N':List Str}{ix:List Nat}{nl:Nat}{g:TG}{tt:TT}{te:TE}
  {cl:List (Str×Addr)} {J:It} {fp:List Addr} {it:Addr} {tn:Nat->Heap->Prop} {Q:V->Hp->Prop} {RR:Value->Addr->Nd->Ab->Prop}
  (hc:X.calm=true) (S:W0 X N' ix scope) (hnl:N'.length=ix.length+nl)
  (bn: ∀x c,cl.lookup x=some c->X.env.cells.lookup x=some c) (g8: ∀x,(x,At)∈scope.names-> ∃c,cl.lookup x=some c)
  (blk: ∀(cl:List (Str×Addr)) (s1:Ab) (H1:Hp) (fp:List Addr),Blk (dL X N' scope cl s1 H1 fp) tg ifs elt g tt te)
  (I2:eF X aa σ H2 s2) (T:O5 X.prog X.w X.K tg J fp it tn) (st2:tn 0 s2.heap) (f2: ∀b∈fp,WH X aa H2 b)
  (h : ∀ D,H2 D = none -> DM D ix nl J g tt te σ H2 fun H' => Q (.ref D) H')
  (fin: ∀(D C:Addr) (s':Ab) (H':Hp),eF X aa σ H' s'->(∃m,s'.heap.Ns C m)->C≠X.env.locals->(∀x c,X.env.cells.lookup x=some c->c≠C)→
   (∀(σ':St) (s'':Ab) (h'':Heap),eF X aa σ' H' s''->Ed C s''.heap h''->eF X aa σ' H' {s'' with heap:=h''})->Q (.ref D) H'->RR (.ref D) C (.ok .next) s'):
  wpAny (model X.prog X.w) X.A (newList []) (fun acc s₃=>wpAny (model X.prog X.w) X.A (Ht scope X.env.globals cl [] X.env.qual none .none (some X.env)) (fun gb s₄=>
   Ef (model X.prog X.w) X.A (.compStart (.ListComp elt [⟨tg,iter,ifs,0⟩] scope pos) 0 (.ref it) acc {gb with scope:=relabel scope X.env}) (RR acc gb.locals) s₄) E s₃) E s2:=by
 refine Cf (WD ?_)
 dsimp only
 have I1:eF X aa σ (cL H2 s2.heap.objs.size (.lst [])) {s2 with heap:=s2.heap.push {cls:= .type "list",dict:=none,data:= .seq ([]:List Value).toArray}}:=
  I2.lnew (t':=s2.toks) (ys:=[]) (its:=[]) .nil (Fd _)
 have hDn:H2 s2.heap.objs.size=none:=I2.hok.fresh (An _)
 obtain⟨W,⟨m0,w0⟩,turn⟩:=h _ hDn
 generalize hs1:({s2 with heap:=s2.heap.push {cls:= .type "list",dict:=none,data:= .seq ([]:List Value).toArray}}:Ab)=s1 at I1
 have cc:s2.heap.push {cls:= .type "list",dict:=none,data:= .seq ([]:List Value).toArray}=s1.heap:=by rw[<- hs1]
 rw[cc]
 have old: ∀b o,s1.heap.get? b=some o->(Ih (s1.heap.push {cls:= .type "dict",data:= .dict #[]}) scope.names).get? b=some o:=fun b o e=>Ha _ _ _ _ (Ad _ e)
 have hns₁:(Ih (s1.heap.push {cls:= .type "dict",data:= .dict #[]}) scope.names).Ns s1.heap.objs.size (fun _=>none):=(Oy s1.heap (.type "dict")).keeps fun b o e=>Ha _ _ _ _ e
 have okc:=cellsFrom_ok scope.names (s1.heap.push {cls:= .type "dict",data:= .dict #[]}) (s1.heap.objs.size+1) [] ⟨fun _ _ hm=>(nomatch hm),Ie⟩ (by rw[Bx];exact An _)
 rw[Bx] at okc
 generalize hz1:Ih (s1.heap.push {cls:= .type "dict",data:= .dict #[]}) scope.names=h₁ at old hns₁ okc
 rw[YM]
 generalize hnc:cellsFrom (s1.heap.objs.size+1) scope.names []=nc at okc
 have ncm: ∀x c,nc.lookup x=some c->(x,Bb)∈scope.names/\h₁.IsCell c none/\s1.heap.objs.size+1<=c:=fun x c e=>by
  have hm:=Ax e
  exact⟨Q5 (n:=s1.heap.objs.size+1) (by rw[hnc];exact hm),okc.empty x c hm⟩
 have nch: ∀x,(x,Bb)∈scope.names-> ∃c,nc.lookup x=some c:=fun x h=>by
  obtain⟨c,hc⟩:=Q4 (n:=s1.heap.objs.size+1) h
  rw[hnc] at hc
  exact X2 hc
 have eh: ∀b∈fp,b<s2.heap.objs.size:=fun b hb=>by
  obtain⟨o,e,_⟩:=T.obj _ _ st2 b hb
  exact Ag e
 have fw:s1.heap.objs.size=s2.heap.objs.size+1:=by rw[<- cc,Bx]
 have i8: ∀b o,s2.heap.get? b=some o->s1.heap.get? b=some o:=fun b o e=>by rw[<- cc];exact Ad _ e
 have cg: ∀x c,cl.lookup x=some c->c<s1.heap.objs.size:=fun x c e=>by
  obtain⟨v,q⟩:=I1.cell x c (bn x c e)
  exact q.lt
 have l5: ∀b∈X8 X.stack,b<s1.heap.objs.size:=fun b hb=>by
  obtain⟨_,o,ho,_⟩:=(I1.stack).mem hb
  exact Ag ho
 have okY:(dL X N' scope (nc++cl) s1 (cL H2 s2.heap.objs.size (.lst [])) fp).Ok:=by
  refine⟨I1.ok.mod,S.kind,I1.ok.glob,I1.ok.blt,An _,fun x y c e1 e2=> ?_,fun x hx=> ?_,fun x c hf e=> ?_,I1.ok.hd,I1.ok.frames,.inl rfl,fun b hb=>⟨?_,fun x c e=> ?_⟩,fun b o e=> ?_,
   Cq I1.ok.bsz I1.sz,fun b o e hb=> ?_,fun b hb hb2=> ?_,I1.stack,I1.stkFree⟩
  ·rcases c8 e1 with n1|⟨_,o1⟩
   ·rcases c8 e2 with n2|⟨_,o2⟩
    ·exact La okc.apart (Ax n1) (Ax n2)
    ·exact absurd (Al (cg y c o2) (Cw (ncm x c n1).2.2)) (Bq _)
   ·rcases c8 e2 with n2|⟨_,o2⟩
    ·exact absurd (Al (cg x c o1) (Cw (ncm y c n2).2.2)) (Bq _)
    ·exact I1.ok.inj x y c (bn x c o1) (bn y c o2)
  ·cases q:nc.lookup x with
   | some c => exact ⟨c,aY q⟩
   |none=>
    rcases aR hx with h|h
    ·obtain⟨c,hc⟩:=g8 x h
     exact⟨c,(aA q).trans hc⟩
    ·obtain⟨c,hc⟩:=nch x h
     rw[q] at hc
     cases hc
  ·have hx:(x,Bb)∈scope.names:=Ax (beq_iff_eq.mp hf)
   obtain⟨c',hc'⟩:=nch x hx
   have:=aY (m:=cl) hc'
   have e:(nc++cl).lookup x=some c:=e
   rw[this] at e
   cases e
   exact Cw (ncm x c hc').2.2
  ·exact Au (Al (eh b hb) (by show s2.heap.objs.size <= s1.heap.objs.size;rw [fw];exact Hb _))
  ·rcases c8 e with n1|⟨_,o1⟩
   ·have h1:=eh b hb
    have h2:=(ncm x c n1).2.2
    rw[fw] at h2
    exact fun z=>absurd (z▸h2) (Mj (Al h1 (Cq (Hb _) (Hb _))))
   ·exact(f2 b hb).2.2.2.2.1 x c (bn x c o1)
  ·exact I1.bs b o e
  ·have:=(f2 b hb)
   obtain⟨o',e',_⟩:=T.obj _ _ st2 b hb
   have hlt:=Al (Ag e) I1.ok.bsz
   rcases this.2.2.2.1 with z|z
   ·exact I1.ok.noex b o e z
   ·exact absurd (Al hlt z) (Bq _)
  ·rcases Ba.mp (I1.stkSub b hb2) with z|z
   ·exact(f2 b hb).2.1 z
   ·exact(f2 b hb).2.2.1 z
 have dj : (c7 ix σ ++ Aq nl none).length = N'.length := by rw [Cn,Ge,hnl];simp [c7]
 have IY:eF (dL X N' scope (nc++cl) s1 (cL H2 s2.heap.objs.size (.lst [])) fp) [] (c7 ix σ++Aq nl none) (cL H2 s2.heap.objs.size (.lst [])) {s2 with heap:=h₁}:=by
  refine⟨okY,?_,I2.bare,Un.kept old,⟨_,hns₁,fun j x v e1 e2 e3=> ?_⟩,fun x c e=> ?_,I1.hok.fresh (An _),fun x c e=> ?_,fun p hp=>absurd (show p∈([]:List (Addr×Obj)) from hp) (by simp),I1.hok.kept old,dj⟩
  ·show s2.os=s1.os
   rw[<- hs1]
  ·have hj:j<ix.length:=by
    by_cases hj:j<ix.length
    ·exact hj
    ·exfalso
     have hl:(c7 ix σ).length=ix.length:=by simp[c7]
     rw[Bm (by rw[hl];omega),Br] at e2
     split at e2<;>cases e2
   have hl:(c7 ix σ).length=ix.length:=by simp[c7]
   rw [Ai (by rw [hl];exact hj)] at e2
   have hci:=S.cap j hj
   obtain⟨i,hi⟩: ∃i,ix[j]? =some i:=⟨ix[j],by simp[hj]⟩
   rw[hi] at hci
   have hNi:X.N[i]? =some x:=by
    have:N'[j]? =X.N[i]? :=hci
    rw[<- this];exact e1
   have hσ:σ[i]? =some (some v):=by
    unfold c7 at e2
    rw[Cj,hi] at e2
    have e2':(σ[i]?).join=some v:=by simpa using e2
    cases q:σ[i]? with
    | none => rw [q] at e2';cases e2'
    | some o => rw [q] at e2';rw [show o = some v from e2']
   have hfl:scope.names.lookup x=some .free:=S.capf x (by
    rw[Gf]
    exact⟨j,by rw[Bl hj];exact e1⟩)
   have az:(x,At)∈scope.names:=Ax hfl
   have hpk:X.env.kindOf x=some .cell∨X.env.kindOf x=some .free:=by exact S.free (x,.free) az rfl
   have ij:AE X.env.scope x:=by
    rcases hpk with z|z
    ·exact .inr (.inl z)
    ·exact .inr (.inr z)
   obtain⟨m,hn,im⟩:=I1.loc
   obtain⟨u,ru,l⟩:=im i x v hNi hσ ij
   refine⟨u,ru,?_⟩
   rcases l with⟨hk,_⟩|⟨hk,c,ec,z⟩
   ·rcases hpk with q|q<;>rw[hk] at q<;>cases q
   ·obtain⟨c',hc'⟩:=g8 x az
    have:c'=c:=by
     have:=bn x c' hc'
     rw[ec] at this;exact(Bu this).symm
    subst this
    have ik:nc.lookup x=none:=by
     cases q:nc.lookup x with
     |none=>rfl
     |some d=>
      have:=S.cel (x,.cell) (ncm x d q).1 rfl
      rw[hfl] at this
      cases this
    refine .inr ⟨ZC hfl,c',(aA ik).trans hc',?_⟩
    ·obtain⟨o,ho,hd⟩:=z
     exact⟨o,old _ _ ho,hd⟩
  ·rcases c8 e with n1|⟨_,o1⟩
   ·exact⟨none,(ncm x c n1).2.1⟩
   ·obtain⟨v,o,ho,hd⟩:=I1.cell x c (bn x c o1)
    exact⟨v,o,old _ _ ho,hd⟩
  ·rcases c8 e with n1|⟨_,o1⟩
   ·exact I1.hok.fresh (Cw (ncm x c n1).2.2)
   ·exact I1.freeC x c (bn x c o1)
 have back: ∀{pY:List (Addr×Obj)} {σ':St} {H':Hp} {s':Ab},eF (dL X N' scope (nc++cl) s1 (cL H2 s2.heap.objs.size (.lst [])) fp) pY σ' H' s'->eF X aa σ H' s':=fun{pY σ' H' s'} J'=>
  I1.call' J'.os J'.base J'.hok J'.bare fun b hb=>⟨(f2 b hb).2.2.2.1,(f2 b hb).2.1,(f2 b hb).2.2.2.2.1,(f2 b hb).2.2.2.2.2⟩
 have stat: ∀{H':Hp} {pY:List (Addr×Obj)},(∀b∈fp,H' b=none)->pY=[]-> ∀b∈fp,WH (dL X N' scope (nc++cl) s1 (cL H2 s2.heap.objs.size (.lst [])) fp) pY H' b:=fun{H' pY} hn hp b hb=>by
  subst hp
  refine⟨hn b hb,(okY.exf b hb).1,okY.exfs b hb,.inl hb,(okY.exf b hb).2,fun p hp=>absurd (show p∈([]:List (Addr×Obj)) from hp) (by simp)⟩
 have st1:tn 0 h₁:=T.keep 0 s2.heap h₁ st2 fun b hb o e=>old b o (i8 b o e)
 have fr1: ∀b∈fp,(cL H2 s2.heap.objs.size (.lst [])) b=none:=fun b hb=>by
  rw[dQ (Au (eh b hb))]
  exact(f2 b hb).1
 have loop: ∀s₃:Ab,s₃={s2 with heap:=h₁}→
   Ef (model X.prog X.w) X.A (.compLoop (.ListComp elt [⟨tg,iter,ifs,0⟩] scope pos) 0 (.ref it) (.ref s2.heap.objs.size) (Ms scope (nc++cl) s1.heap.objs.size X.env)) (RR (.ref s2.heap.objs.size) s1.heap.objs.size) s₃:=by
  rintro s₃ rfl
  refine K8 (fun n s'=> ∃i σ' H' acc,eF (dL X N' scope (nc++cl) s1 (cL H2 s2.heap.objs.size (.lst [])) fp) [] σ' H' s'/\σ'.take ix.length=c7 ix σ/\tn i s'.heap/\(∀b∈fp,H' b=none)/\W i n acc H') ?_ m0
   ⟨0,_,_,[],IY,by rw [Gg (by simp [c7])];exact Dl (by simp [c7]),st1,fr1,w0⟩
  rintro n s' ⟨i,σ',H',acc,J',hσ,st',fr',w'⟩
  have Jc:eF (dL X N' scope (nc++cl) s1 (cL H2 s2.heap.objs.size (.lst [])) fp) [] (c7 ix σ++Aq nl none) H' s':=by
   refine J'.weak (by rw[dj];exact J'.len.symm) fun j v e=> ?_
   have hl:(c7 ix σ).length=ix.length:=by simp[c7]
   by_cases hj:j<ix.length
   ·rw [Ai (by rw [hl];exact hj),<- hσ,Bl hj] at e
    exact e
   ·rw [Bm (by rw [hl];omega),Br] at e
    split at e<;>cases e
  rcases turn i n acc H' w' with⟨stop,q⟩|⟨go,N,hN,step⟩
  ·refine Ao (T.done (dL X N' scope (nc ++ cl) s1 (cL H2 s2.heap.objs.size (.lst [])) fp) rfl rfl rfl hc i [] s' _ H' (fun _ _ => False) Jc (stat fr' rfl) st' stop) (fun r s4 ⟨hr,I4⟩ => ?_) fun _ _ z => z
   subst hr
   have IX:=back I4
   obtain⟨m,hm,_⟩:=I4.loc
   exact fin _ _ s4 H' IX ⟨m,hm⟩ (Ff I1.lt) (fun x c e z=>by
    obtain⟨v,q⟩:=I1.cell x c e
    have:=q.lt
    rw[z] at this
    exact Bq _ this) (fun σ'' s'' h'' I'' sb=>eF.offNew I1 I'' I4.free fun b o hb e=>(sb.2 b hb).trans e) q
  ·refine Ao (T.item (dL X N' scope (nc ++ cl) s1 (cL H2 s2.heap.objs.size (.lst [])) fp) rfl rfl rfl hc i [] s' _ H' (fun _ _ => False) Jc (stat fr' rfl) st' go) (fun r s4 ⟨u,hr,h4⟩ => ?_) fun _ _ z => z
   subst hr
   refine Ao h4 (fun _ s5 ⟨x,H5,I5,r5,y5,st5,fr5⟩=> ?_) fun _ _ z=>z
   have I5':=I5.pinned (stat fr5 rfl) (T.obj _ _ st5)
   obtain⟨btg,bts,bel⟩:=blk (nc++cl) s1 (cL H2 s2.heap.objs.size (.lst [])) fp
   refine Ao (btg _ s5 _ H5 x u _ I5' r5 (step x H5 y5)) (fun _ s6 ⟨σ6,H6,I6,hσ6,q6⟩=> ?_) fun _ _ z=>z
   have again: ∀{H7:Hp} {s7:Ab} {ah:List V},eF (dL X N' scope (nc++cl) s1 (cL H2 s2.heap.objs.size (.lst [])) fp) ([]++X5 fp s5.heap) σ6 H7 s7->N ah H7→
     ∃m,m<n/\ ∃i σ' H' acc,eF (dL X N' scope (nc++cl) s1 (cL H2 s2.heap.objs.size (.lst [])) fp) [] σ' H' s7/\σ'.take ix.length=c7 ix σ/\tn i s7.heap/\(∀b∈fp,H' b=none)/\W i m acc H':=fun{H7 s7 ah} I7 n7=>by
    obtain⟨m',hm,w7⟩:=hN ah H7 n7
    refine⟨m',hm,i+1,σ6,H7,ah,I7.unpinned,hσ6,T.keep _ _ _ st5 fun b hb o e=>(I7.pin (b,o) (Am _ (Am _ (b8 hb e)))).1,fun b hb=> ?_,w7⟩
    obtain⟨o,e,d⟩:=T.obj _ _ st5 b hb
    exact(I7.pin (b,o) (Am _ (Am _ (b8 hb e)))).2.1
   refine Ao (bts _ s6 σ6 H6 _ I6 q6) (fun okb s7 ⟨H7,I7,q7⟩=> ?_) fun _ _ z=>z
   cases okb with
   | false => exact again I7 q7
   |true=>
    refine Ao (bel _ s7 σ6 H7 _ I7 q7) (fun v s8 ⟨y,H8,I8,r8,hD8,hz8,n8⟩=> ?_) fun _ _ z=>z
    refine Ao (ZL (X:=dL X N' scope (nc++cl) s1 (cL H2 s2.heap.objs.size (.lst [])) fp) _ s8 σ6 H8 (.ref s2.heap.objs.size) [y] (.ref s2.heap.objs.size) [v] (fun _ H9=>N (acc++[y]) H9) I8 rfl (.cons r8 .nil)
     ⟨s2.heap.objs.size,acc,y,rfl,rfl,hD8,hz8,n8⟩) (fun _ s9 ⟨_,H9,I9,_,n9⟩=>again I9 n9) fun _ _ z=>z
 have he:({newEnv scope s1.heap.objs.size X.env.globals (nc++cl) X.env.qual none .none (some X.env) builtinsNs with scope:=relabel scope X.env}:Env)=Ms scope (nc++cl) s1.heap.objs.size X.env:=rfl
 exact Jh (loop _ rfl) (T.self _ 0 _ _ _ st1 (loop _ rfl))
theorem IK{X:Cx}{tg iter elt:Expr}{ifs:List Expr}{scope:Scope}{pos:Pos}{N':List Str}{ix:List Nat}{nl:Nat}{wi:TI}{g:TG}{tt:TT}{te:TE}
  (hc:X.calm=true) (S:W0 X N' ix scope) (hnl:N'.length=ix.length+nl) (hi:PI X tg iter wi)
  (blk: ∀(cl:List (Str×Addr)) (s1:Ab) (H1:Hp) (fp:List Addr),Blk (dL X N' scope cl s1 H1 fp) tg ifs elt g tt te)
  (hs: ∀x,foldedSetIterable iter X.env x=pure x:=by intro _;rfl):PE X (.ListComp elt [⟨tg,iter,ifs,0⟩] scope pos) (EF ix nl wi g tt te):=by
 intro aa s σ H Q I h
 rw[eval_ListComp]
 obtain⟨cl,e1,e2,e3⟩:=MV (env:=X.env) (scope:=scope) fun y hy hf=>I.ok.has y.1 (S.free y hy hf)
 refine Ii (use:=none) (cl:=cl) rfl hs e1 S.kind S.names (Ao (hi aa s σ H _ I h) (fun xv s₁ h₁=>Ao h₁ (fun itv s₂ h₂=> ?_) fun _ _ e=>e) fun _ _ e=>e)
 obtain⟨it,fp,tn,J,H2,e,I2,T,st2,f2,q⟩:=h₂
 subst e
 refine NX (Q:=Q) (RR:=fun acc C=>compPost (model X.prog X.w) X.A X.xe none (EP X aa σ Q) acc C) hc S hnl e2 e3 blk I2 T st2 f2 q ?_
 intro D C s' H' I' hm hC1 hC2 hb hq
 obtain⟨m,hm⟩:=hm
 exact⟨m,hm,fun h'' sb=>⟨.ref D,H',hb σ s' h'' I' sb,rfl,hq⟩⟩
section
variable{X:Cx}{K:Ae}{ml:List Nat}{pi pt pe pu:Bool}{pos:Pos}{ix:List Nat}{nl:Nat}{f:VF}
noncomputable def Q7(N N':List Str)(ix:List Nat)(names:List (Str×NameKind))(k:Str->Option NameKind):Bool:=
 names.all (fun y=>y.2 != .cell || names.lookup y.1==some .cell) && (names.all (fun y=>y.2 != .local || names.lookup y.1==some .local) && (names.all (fun y=>y.2 != .free || (k y.1==some .cell || k y.1==some .free)) &&
  (decide N'.Nodup && ((Aw ix.length).all (fun j=>N'[j]? ==(ix[j]?).bind fun i=>N[i]?) && (N'.take ix.length).all fun x=>names.lookup x==some .free))))
theorem WJ{N':List Str}{scope:Scope}(hk:scope.kind= .function)(h:Q7 X.N N' ix scope.names X.env.kindOf=true):W0 X N' ix scope:=by
 unfold Q7 at h
 simp only[Ac,Cs,Gx,bne_iff_ne,beq_iff_eq,decide_eq_true_eq,Cy] at h
 obtain⟨h1,h2,h3,h4,h5,h6⟩:=h
 exact⟨hk,fun y hy e=>(h1 y hy).resolve_left fun z=>z e,fun y hy e=>(h2 y hy).resolve_left fun z=>z e,fun y hy e=>(h3 y hy).resolve_left fun z=>z e,h4,h5,h6⟩
abbrev BlkC(X:Cx)(K:Ae)(N':List Str)(ix:List Nat)(scope:Scope)(tg:Expr)(ifs:List Expr)(elt:Expr)(gg:VG)(pt:Bool)(tb:VB)(pe:Bool)(fe:VF):Prop:=N'.Nodup-> ∀(cl:List (Str×Addr)) (s1:Ab) (H1:Hp) (fp:List Addr),Blk (dL X N' scope cl s1 H1 fp) tg ifs elt (G3 K (Aw ix.length) gg) (TB K (Aw ix.length) pt tb) (TV K (Aw ix.length) pe true true fe)
theorem cK{tg iter elt:Expr}{ifs:List Expr}{scope:Scope}{fi:VI}{gg:VG}{tb:VB}{fe:VF}(N':List Str)(ix:List Nat)(nl:Nat)(hi:PI X tg iter (KI K ml pi fi))(blk:BlkC X K N' ix scope tg ifs elt gg pt tb pe fe)(hc:X.calm=true:=by rfl)(hk:scope.kind= .function:=by rfl)(hok:Q7 X.N N' ix scope.names X.env.kindOf=true:=by rfl)(hnl:N'.length=ix.length+nl:=by rfl)(hnd:ix.Nodup:=by decide)
  (hs: ∀x,foldedSetIterable iter X.env x=pure x:=by intro _;rfl):PE X (.ListComp elt [⟨tg,iter,ifs,0⟩] scope pos) (TN K ml (pi && pt && pe) (bF ix nl fi gg tb fe)):=
 (IK hc (WJ hk hok) hnl hi (blk (WJ hk hok).nd) hs).imp fun _ _ _ h=>GH hnd h
end
section
variable{X:Cx}{K:Ae}{ml:List Nat}{e a b c:Expr}{es:List Expr}{pa ta ia pb tb ib pc tc ic pu bt bi ps bs:Bool}{fa fb fc f:VF}{B B':Bs}{O:Nat->Option Addr}{H H1 H':Hp}{σ:St}{δ δ':Ev}{v:V}{d:eN}{p:Addr}{pos:Pos}
noncomputable def QG:List (Str×cZ)->Str->Option cZ
 |[],_=>none
 |(y,F)::r,x=>if y=x then some F else QG r x
def MQ(X:Cx)(K:Ae)(mF:List Nat)(n:Nat)(tb:List (Str×cZ)):Prop:= ∀x F a,QG tb x=some F->Ep K mainGlobals x=some (some (.ref a))->FnAt X a (spV K mF n F)
theorem GG{mF:List Nat}{n:Nat}:MQ X K mF n []:=fun _ _ _ h=>nomatch h
theorem VD{x:Str}{kk j n:Nat}{qs:List Str}{mF:List Nat}{F:cZ}{ff:Addr}{tb:List (Str×cZ)}(hK:X.K=K)(hm: ∀x a,Ep K mainGlobals x=some (some (.ref a))->X.mg x=some (.ref a))(hr:b7 j X.A)
  (D:DN X.prog X.w K X.mg X.base x kk qs (spV K mF n F) ff) (hk:kk<=j) (t:MQ X K mF n tb):MQ X K mF n ((x,F)::tb):=fun y G a h1 h2=>by
 unfold QG at h1
 split at h1
 ·rename_i hxy
  subst hxy
  cases h1
  have e:=(hm x a h2).symm.trans D.at_
  cases e
  subst hK
  exact D.fnAt hr hk
 ·exact t y G a h1 h2
end
section
variable{X:Cx}{K:Ae}{ml:List Nat}{e a b c:Expr}{es:List Expr}{pa ta ia pb tb ib pc tc ic pu bt bi ps bs:Bool}{fa fb fc f:VF}{pos p':Pos}{d:eN}{x:Str}
theorem vv(i:Nat)(hN:X.N[i]? =some x:=by rfl)(hv:AE X.env.scope x:=by first|exact Bi rfl|exact As (Bi rfl)|exact As (As rfl))(hd:(x==("__debug__":Str))=false:=by decide)
  (hcd:(x==("__classdict__":Str))=false:=by decide):PE X (.Name x pos) (TV K ml true true true (fV i)):=DF (OI hN hv hd hcd)
theorem vo(i:Nat)(hN:X.N[i]? =some x:=by rfl)(hv:AE X.env.scope x:=by first|exact Bi rfl|exact As (Bi rfl)|exact As (As rfl))(hd:(x==("__debug__":Str))=false:=by decide)
  (hcd:(x==("__classdict__":Str))=false:=by decide):PE X (.Name x pos) (TV K ml true false true (fO i)):=DE (OI hN hv hd hcd)
theorem MH(hu:X.A.units+1<cLine)(ha:PE X a (TV K ml pa ta ia fa))(hb:PE X b (TV K ml pb tb ib fb))(hK:X.K=K:=by rfl)(hx:QU b:=by exact fun _ _=>rfl)(hs:(pb || (ta && ia))=true:=by rfl):PE X (.Subscript a b pos) (TV K ml (pa && pb) ia ia (f2 ZX fa fb)):=
 zA3 (kIxA hK hu) zBR ha hb hx hs
theorem veq(hu:X.A.units+64<cLine)(ha:PE X a (TV K ml pa ta ia fa))(hb:PE X b (TV K ml pb tb ib fb))(hK:X.K=K:=by rfl)(hs:(pb || (ta && ia))=true:=by rfl):PE X (.Compare a [.Eq] [b] pos) (TV K ml (pa && pb) true true (f2 RM fa fb)):=
 R6 (kEqD hK hu) s_eq ha hb (cS _) hs
theorem OX(hu:X.A.units+64<cLine)(ha:PE X a (TV K ml pa ta ia fa))(hb:PE X b (TV K ml pb tb ib fb))(hK:X.K=K:=by rfl)(hs:(pb || (ta && ia))=true:=by rfl):PT X (.Compare a [.Eq] [b] pos) (TB K ml (pa && pb) (fB (f2 RM fa fb))):=
 cO (kEqD hK hu) s_eq ha hb (cS _) hs
theorem cV{kk j n:Nat}{qs:List Str}{mF:List Nat}{F:cZ}{ff:Addr}{fs:UN}(D:DN X.prog X.w K X.mg X.base x kk qs (spV K mF n F) ff)(hr:b7 j X.A)(ha:PA X (e::es) (MP K ml ps fs))(hK:X.K=K:=by rfl)(hk:kk<=j:=by decide)(hg:Gl X x:=by rfl)(hdb:(x==("__debug__":Str))=false:=by decide)
  (he:starEach (e::es) X.env=(false,eval e X.env)::starEach es X.env:=by rfl) (hpl:(Cu pos (starEach es X.env)).any (·.1)=false:=by rfl):
  PE X (.Call (.Name x p') (e::es) [] pos) (TV K ml (ps && mF.isEmpty) true true (eA n mF F fs)):=GI hK D hr hk hg ha hdb he hpl
theorem Y1(hm:X.mg "len"=none) (ha:PE X a (TV K ml pa ta ia fa)) (hK:X.K=K:=by rfl) (hg:Gl X "len":=by rfl) (he:starEach (a::[]) X.env=(false,eval a X.env)::starEach [] X.env:=by rfl):PE X (.Call (.Name "len" p') [a] [] pos) (TV K ml pa true true (f1 aG fa)):=
 WE (zBN hK) zAN hg hm G8 ha (by decide) (by decide) he
theorem OY{n:String}(hm:X.mg x=none)(hv:Bj x=some (.type n))(hg:Gl X x:=by rfl)(hn:x≠ "__name__":=by decide) (hd:(x==("__debug__":Str))=false:=by decide):PE X (.Name x pos) (TV K ml true true true (fC (.ty n))):=
 MF (FS (v:= .ty n) hg hm hv rfl hn hd) fun _ _ _=> .ty _
theorem XR(hm:X.mg "isinstance"=none) (ha:PE X a (TV K ml pa ta ia fa)) (hb:PE X b (TV K ml pb tb ib fb)) (hK:X.K=K:=by rfl) (hg:Gl X "isinstance":=by rfl)
  (he:starEach (a::[b]) X.env=(false,eval a X.env)::starEach [b] X.env:=by rfl) (he2:starEach (b::[]) X.env=(false,eval b X.env)::starEach [] X.env:=by rfl) (hpl:(Cu pos (starEach [b] X.env)).any (·.1)=false:=by rfl) (hs:(pb || (ta && ia))=true:=by rfl):
  PE X (.Call (.Name "isinstance" p') [a,b] [] pos) (TV K ml (pa && pb) true true (f2 ZW fa fb)):=a7 (kIsi hK) zAO hg hm dX ha hb (by decide) (by decide) he he2 hpl hs
end
def A4(K:Ae)(x:Str)(st:Stmt)(f:Addr):Prop:= ∃(oc:Value) (od:Option Addr) (kV doc pm:Value) (an:Option Addr) (cdv ct:Value) (osl:Array (Option Value)),Ep K mainGlobals x=some (some (.ref f))∧
 K.lookup f=some ⟨oc,od,.func (Ix x x (bU st) (cY st) (eM st) .none kV doc pm an cdv ct),osl⟩/\Kt K cdv x=true/\Fq K (.ref f)=true
theorem a4{K:Ae}{x:Str}{st:Stmt}{f:Addr}{oc:Value}{od:Option Addr}{kV doc pm:Value}{an:Option Addr}{cdv ct:Value}{osl:Array (Option Value)}(a:Ep K mainGlobals x=some (some (.ref f)))
  (b:K.lookup f=some ⟨oc,od,.func (Ix x x (bU st) (cY st) (eM st) .none kV doc pm an cdv ct),osl⟩) (c:Kt K cdv x=true) (d:Fq K (.ref f)=true):A4 K x st f:=⟨oc,od,kV,doc,pm,an,cdv,ct,osl,a,b,c,d⟩
theorem A4.ns{K:Ae}{x:Str}{st:Stmt}{f:Addr}(p:A4 K x st f):Ep K mainGlobals x=some (some (.ref f)):=by
 obtain⟨_,_,_,_,_,_,_,_,_,a,_⟩:=p
 exact a
theorem aQ{P:Ar}{w:World}{K:Ae}{mg:Str->Option Value}{base h:Heap}{x:Str}{st:Stmt}{f:Addr}{ps:List Str}{sp:Sp}{k:Nat}(X:K.In h)(G:h.Ns mainGlobals mg)(p:A4 K x st f)(ok: ∀{fd:Ch},aW K x x st f fd->cQ P w K mg base CX0 k f fd ps sp)
  (hb: ∀{kV doc pm:Value} {an:Option Addr} {cdv ct:Value} (us:List Value),us.length=ps.length->Mo (Ix x x (bU st) (cY st) (eM st) .none kV doc pm an cdv ct) ⟨us,[]⟩=pure (ps.zip us)):DN P w K mg base x k ps sp f:=by
 obtain⟨oc,od,kV,doc,pm,an,cdv,ct,osl,a,b,c,d⟩:=p
 have U:=RD (st:=st) b c d
 exact⟨Cc X G a,⟨_,ok U,U.binds fun _ _ _ _ _ _=>hb⟩,d⟩
theorem V3(P:Ar)(w:World)(K:Ae)(mg:Str->Option Value)(base:Heap){x qual:Str}{st:Stmt}{f:Addr}{fd:Ch}(N ps:List Str)(k:Nat)(g:VS)(ml:List Nat)(F:aW K x qual st f fd)(S:dY N ps (eM st))
  (al: ∀(cdv:Value) (A:Bo) (outer:List Env) (s:Ab) (H:Hp) (E:XK) (hr:b7 k (A.deeper (envOfC qual (eM st) s.heap.objs.size f cdv))) (_:(A.deeper (envOfC qual (eM st) s.heap.objs.size f cdv)).units+64<cLine) (_:(A.deeper (envOfC qual (eM st) s.heap.objs.size f cdv)).units+1<cLine),
   ZQ (W6 CX0 P w K mg base N qual (eM st) f cdv A outer s H E).nox (cY st) (W2 K ml g)) (hps:ps.length<=N.length:=by decide):cQ P w K mg base CX0 (k+1) f fd ps (spV K ml ps.length (b5 N.length ml g)):=
 aW.okV F S hps fun cdv A outer s H E hr=>al cdv A outer s H E hr hr.units (DV hr)
theorem aZ{N P:List Str}{sc:Scope}(a:sc.kind= .function:=by rfl)(b:sc.isCoroutine=false:=by rfl)(c:sc.isGenerator=false:=by rfl)(d:N.Nodup:=by decide+kernel)(e:N.take P.length=P:=by rfl)
  (f: ∀x∈P,sc.names.lookup x=some .local∨sc.names.lookup x=some .cell:=by decide+kernel) (g: ∀y∈sc.names,y.2≠At:=by decide+kernel):dY N P sc:=⟨a,b,c,d,e,f,g⟩
theorem T9(elt tg1 it1 tg2 it2:Expr)(am ai:List Expr)(scope:Scope)(pos:Pos)(it acc:Value)(env:Env):
  Mq (.ListComp elt [⟨tg1,it1,am,0⟩,⟨tg2,it2,ai,0⟩] scope pos) 0 it acc env=(do
   Lg it1.pos
   match<- pyNext it with
   | none => pure (.done .next)
   |some v=>
    Dh tg1 it v
    Fe tg1 env v
    let mut ok:=true
    for c in am do
     if ok then ok<- isTrue c env (eval c env)
    if ok then
     let x<- eval it2 env
     Lg it2.pos
     let x<- foldedSetIterable it2 env x
     let _<- runOwn (.compStart (.ListComp elt [⟨tg1,it1,am,0⟩,⟨tg2,it2,ai,0⟩] scope pos) 1 (<- holding [x] (Nb x)) acc env) env
    Oz (.compLoop (.ListComp elt [⟨tg1,it1,am,0⟩,⟨tg2,it2,ai,0⟩] scope pos) 0 it acc env)):=by rfl
theorem UA(elt tg1 it1 tg2 it2:Expr)(am ai:List Expr)(scope:Scope)(pos:Pos)(it acc:Value)(env:Env):
  Mq (.ListComp elt [⟨tg1,it1,am,0⟩,⟨tg2,it2,ai,0⟩] scope pos) 1 it acc env=(do
   Lg it2.pos
   match<- pyNext it with
   | none => pure (.done .next)
   |some v=>
    Dh tg2 it v
    Fe tg2 env v
    let mut ok:=true
    for c in ai do
     if ok then ok<- isTrue c env (eval c env)
    if ok then
     (do let _<- call (.builtin "list.append") [acc,<- eval elt env])
    Oz (.compLoop (.ListComp elt [⟨tg1,it1,am,0⟩,⟨tg2,it2,ai,0⟩] scope pos) 1 it acc env)):=by rfl
theorem N0{prog:Ar}{w:World}{A:Bo}{s:Ab}{elt tg1 it1 tg2 it2:Expr}{am ai:List Expr}{scope:Scope}{pos:Pos}{it acc:Value}{env:Env}{R:Nd->Ab->Prop}(I:Nat->Ab->Prop)
  (turn : ∀ n s,I n s -> wpAny (model prog w) A (pyNext it) (fun r s₁ => match r with
   | none => R (.ok .next) s₁
   | some v => wpAny (model prog w) A (Dh tg2 it v) (fun _ s₀ => wpAny (model prog w) A (Fe tg2 env v) (fun _ s₂ =>
     wpAny (model prog w) A (forIn ai true fun c r=>if r=true then do let ok<- isTrue c env (eval c env);pure (Cd ok) else pure (Cd r)) (fun ok s₃=>if ok=true then wpAny (model prog w) A (eval elt env) (fun x s₄=>
      wpAny (model prog w) A (call (.builtin "list.append") [acc,x]) (fun _ s₅=> ∃m,m<n/\I m s₅) (fun _ _=>False) s₄) (fun _ _=>False) s₃
      else∃m,m<n/\I m s₃) (fun _ _=>False) s₂)
     (fun _ _=>False) s₀) (fun _ _=>False) s₁) (fun _ _=>False) s)
  (n:Nat) (h:I n s):Ef (model prog w) A (.compLoop (.ListComp elt [⟨tg1,it1,am,0⟩,⟨tg2,it2,ai,0⟩] scope pos) 1 it acc env) R s:=by
 refine Ly rfl I (fun n s hI=> ?_) n h
 show wpAny _ A ((Mq (.ListComp elt [⟨tg1,it1,am,0⟩,⟨tg2,it2,ai,0⟩] scope pos) 1 it acc env).onRaise (fun x=>do Nf x env;Jq x)) _ _ s
 refine Ng ?_
 rw[UA]
 refine Aa (Ds (Aa (Ao (turn n s hI) (fun r s₁ h₁=> ?_) fun _ _ h'=>h'.elim)))
 cases r with
 |none=>exact Af h₁
 |some v=>
  refine Aa (Ao h₁ (fun _ s₀ h₀'=> ?_) fun _ _ h'=>h'.elim)
  refine Aa (Ao h₀' (fun _ s₂ h₂=> ?_) fun _ _ h'=>h'.elim)
  refine Aa (Ao h₂ (fun okb s₃ h₃=> ?_) fun _ _ h'=>h'.elim)
  cases okb with
  |false=>exact Af ⟨rfl,h₃⟩
  |true=>exact Aa (Aa (Ao h₃ (fun x s₄ h₄=>Aa (Ao h₄ (fun _ s₅ h₅=>Af (Af ⟨rfl,h₅⟩)) fun _ _ h'=>h'.elim)) fun _ _ h'=>h'.elim))
theorem NZ{prog:Ar}{w:World}{A:Bo}{s:Ab}{elt tg1 it1 tg2 it2:Expr}{am ai:List Expr}{scope:Scope}{pos:Pos}{it acc:Value}{env:Env}{R:Nd->Ab->Prop}(I:Nat->Ab->Prop)
  (turn : ∀ n s,I n s -> wpAny (model prog w) A (pyNext it) (fun r s₁ => match r with
   | none => R (.ok .next) s₁
   | some v => wpAny (model prog w) A (Dh tg1 it v) (fun _ s₀ => wpAny (model prog w) A (Fe tg1 env v) (fun _ s₂ =>
     wpAny (model prog w) A (forIn am true fun c r=>if r=true then do let ok<- isTrue c env (eval c env);pure (Cd ok) else pure (Cd r)) (fun ok s₃=>if ok=true then
      wpAny (model prog w) A (eval it2 env) (fun x s₄=>wpAny (model prog w) A (Nb x) (fun i2 s₅=>
       Ef (model prog w) A (.compStart (.ListComp elt [⟨tg1,it1,am,0⟩,⟨tg2,it2,ai,0⟩] scope pos) 1 i2 acc env) (fun r s₆=>match r with| .ok _=> ∃m,m<n/\I m s₆| .error _=>False) s₅) (fun _ _=>False) s₄) (fun _ _=>False) s₃
      else∃m,m<n/\I m s₃) (fun _ _=>False) s₂)
     (fun _ _=>False) s₀) (fun _ _=>False) s₁) (fun _ _=>False) s)
  (n : Nat) (h : I n s) (hs : ∀ x,foldedSetIterable it2 env x = pure x := by intro _;rfl) : Ef (model prog w) A (.compLoop (.ListComp elt [⟨tg1,it1,am,0⟩,⟨tg2,it2,ai,0⟩] scope pos) 0 it acc env) R s := by
 refine Ly rfl I (fun n s hI=> ?_) n h
 show wpAny _ A ((Mq (.ListComp elt [⟨tg1,it1,am,0⟩,⟨tg2,it2,ai,0⟩] scope pos) 0 it acc env).onRaise (fun x=>do Nf x env;Jq x)) _ _ s
 refine Ng ?_
 rw[T9]
 refine Aa (Ds (Aa (Ao (turn n s hI) (fun r s₁ h₁=> ?_) fun _ _ h'=>h'.elim)))
 cases r with
 | none => exact Af h₁
 |some v=>
  refine Aa (Ao h₁ (fun _ s₀ h₀'=> ?_) fun _ _ h'=>h'.elim)
  refine Aa (Ao h₀' (fun _ s₂ h₂=> ?_) fun _ _ h'=>h'.elim)
  refine Aa (Ao h₂ (fun okb s₃ h₃=> ?_) fun _ _ h'=>h'.elim)
  cases okb with
  |false=>exact Af ⟨rfl,h₃⟩
  |true=>
   refine Aa (Ao h₃ (fun x s₄ h₄=> ?_) fun _ _ h'=>h'.elim)
   refine Aa (Ds (Aa (wpAny_of_eq (hs x) (Aa (Bk (Ao h₄ (fun i2 s₅ h₅=> ?_) fun _ _ h'=>h'.elim))))))
   refine Aa (wpAny_runOwn (Em h₅ fun r s₆ h₆=> ?_))
   cases r with
   |ok f=>exact Af ⟨rfl,h₆⟩
   |error e=>exact h₆.elim
theorem Y9{prog:Ar}{w:World}{A:Bo}{s:Ab}{elt tg1 it1 tg2 it2:Expr}{am ai:List Expr}{scope:Scope}{pos:Pos}{it acc:Value}{env:Env}{R:Nd->Ab->Prop}
  (h0:Ef (model prog w) A (.compLoop (.ListComp elt [⟨tg1,it1,am,0⟩,⟨tg2,it2,ai,0⟩] scope pos) 1 it acc env) R s)
  (h : wpAny (model prog w) A (Nb it) (fun it' s' => Ef (model prog w) A (.compLoop (.ListComp elt [⟨tg1,it1,am,0⟩,⟨tg2,it2,ai,0⟩] scope pos) 1 it' acc env) R s')
   (notedBy (model prog w) A env fun x s'=>R (.error x) s') s):
  Ef (model prog w) A (.compStart (.ListComp elt [⟨tg1,it1,am,0⟩,⟨tg2,it2,ai,0⟩] scope pos) 1 it acc env) R s:=by
 refine codeAny_of_tree ?_
 show wpAny _ _ ((compStart (.ListComp elt [⟨tg1,it1,am,0⟩,⟨tg2,it2,ai,0⟩] scope pos) 1 it acc env).onRaise (fun x=>do Nf x env;Lg theWindowsPlace)) _ _ s
 refine wpAny_notedAt ?_
 unfold compStart
 show wpAny _ _ (ask>>=_) _ _ s
 refine Aa (wpAny_askSetting (wpAny_ite ?_))
 split
 ·first
   |exact Aa (Af (Af (And.intro rfl h0)))
   |exact Af (And.intro rfl h0)
 ·first
   |exact Aa (Ig (Aa (Ds (Aa (Ao h (fun it' s' h'=>Af (And.intro rfl h')) fun _ _ x=>x)))))
   |(refine Aa (Ig ?_);show wpAny _ _ (Lg it2.pos>>=_) _ _ s;exact Aa (Ds (Aa (Ao h (fun it' s' h'=>Af (And.intro rfl h')) fun _ _ x=>x))))
def EmW(D:Addr)(wi:TI)(g:TG)(tt:TT)(te:TE)(h7:List V)(σ:St)(H:Hp)(N:List V->St->Hp->Prop):Prop:=
 wi σ H fun J H0=> ∃W:Nat->Nat->List V->St->Hp->Prop,(∃m,W 0 m h7 σ H0)/\ ∀i m acc σ1 H1,W i m acc σ1 H1→
  (J.stop i H1/\N acc σ1 H1)∨
  (J.go i H1/\ ∃N2:List V->St->Hp->Prop,(∀ah σ' H',N2 ah σ' H'-> ∃m',m'<m/\W (i+1) m' ah σ' H')∧
   ∀x H2,J.yld i H1 x H2->g x σ1 H2 fun σ2 H3=>tt σ2 H3 fun b H4=>if b=true then te σ2 H4 fun v H5=>H5 D=some (.lst acc)/\acc.length<sizeLine/\N2 (acc++[v]) σ2 (cL H5 D (.lst (acc++[v]))) else N2 acc σ2 H4)
theorem zC5{Y:Cx}{elt tg1 it1 tg2 it2:Expr}{am ai:List Expr}{scope:Scope}{pos:Pos}{wi:TI}{g:TG}{tt:TT}{te:TE}{aa:List (Addr×Obj)}{s:Ab}{σ:St}{H:Hp}{D:Addr}{h7:List V}{N:List V->St->Hp->Prop}
  (hc : Y.calm = true) (hxe : Y.xe = fun _ _ => False) (hi : PI Y tg2 it2 wi) (hg : PG Y tg2 g) (ht : PTs Y ai tt) (he : PE Y elt te) (I : eF Y aa σ H s) (h : EmW D wi g tt te h7 σ H N) :
  wpAny (model Y.prog Y.w) Y.A (eval it2 Y.env) (fun x s₄=>wpAny (model Y.prog Y.w) Y.A (Nb x) (fun i2 s₅=>
   Ef (model Y.prog Y.w) Y.A (.compStart (.ListComp elt [⟨tg1,it1,am,0⟩,⟨tg2,it2,ai,0⟩] scope pos) 1 i2 (.ref D) Y.env) (fun r s₆=>match r with| .ok _=> ∃ah σ' H',eF Y aa σ' H' s₆/\N ah σ' H'| .error _=>False) s₅) (fun _ _=>False) s₄) (fun _ _=>False) s:=by
 have nx: ∀{α:Sort _} {x:Value} {s:Ab},Y.xe x s->α:=fun z=>by rw[hxe] at z;exact z.elim
 refine Ao (hi aa s σ H _ I h) (fun v s1 h1=>Ao h1 (fun itv s2 h2=> ?_) fun _ _ z=>nx z) fun _ _ z=>nx z
 obtain⟨it,fp,tn,J,H2,e,I2,T,st2,f2,W,⟨m0,w0⟩,turn⟩:=h2
 subst e
 have stat: ∀{H':Hp},(∀b∈fp,H' b=none)-> ∀b∈fp,WH Y aa H' b:=fun hn b hb=>⟨hn b hb,(f2 b hb).2⟩
 have loop: ∀s₃:Ab,s₃=s2->Ef (model Y.prog Y.w) Y.A (.compLoop (.ListComp elt [⟨tg1,it1,am,0⟩,⟨tg2,it2,ai,0⟩] scope pos) 1 (.ref it) (.ref D) Y.env) (fun r s₆=>match r with| .ok _=> ∃ah σ' H',eF Y aa σ' H' s₆/\N ah σ' H'| .error _=>False) s₃:=by
  rintro s₃ rfl
  refine N0 (fun n s'=> ∃i σ' H' acc,eF Y aa σ' H' s'/\tn i s'.heap/\(∀b∈fp,H' b=none)/\W i n acc σ' H') ?_ m0 ⟨0,σ,H2,h7,I2,st2,fun b hb=>(f2 b hb).1,w0⟩
  rintro n s3 ⟨i,σ3,H3,acc,I3,st3,fr3,w3⟩
  rcases turn i n acc σ3 H3 w3 with⟨stop,qn⟩|⟨go,N2,hN,step⟩
  ·refine Ao (T.done Y rfl rfl rfl hc i aa s3 σ3 H3 (fun _ _ => False) I3 (stat fr3) st3 stop) (fun r s4 ⟨hr,I4⟩ => ?_) fun _ _ z => z
   subst hr
   exact⟨acc,σ3,H3,I4,qn⟩
  ·refine Ao (T.item Y rfl rfl rfl hc i aa s3 σ3 H3 (fun _ _ => False) I3 (stat fr3) st3 go) (fun r s4 ⟨u,hr,h4⟩ => ?_) fun _ _ z => z
   subst hr
   refine Ao h4 (fun _ s5 ⟨x,H5,I5,r5,y5,st5,fr5⟩=> ?_) fun _ _ z=>z
   have I5':=I5.pinned (stat fr5) (T.obj _ _ st5)
   refine Ao (hg _ s5 σ3 H5 x u _ I5' r5 (step x H5 y5)) (fun _ s6 ⟨σ6,H6,I6,q6⟩=> ?_) fun _ _ z=>nx z
   have again: ∀{H7:Hp} {s7:Ab} {ah:List V},eF Y (aa++X5 fp s5.heap) σ6 H7 s7->N2 ah σ6 H7-> ∃m,m<n/\ ∃i σ' H' acc,eF Y aa σ' H' s7/\tn i s7.heap/\(∀b∈fp,H' b=none)/\W i m acc σ' H':=fun{H7 s7 ah} I7 n7=>by
    obtain⟨m',hm,w7⟩:=hN ah σ6 H7 n7
    refine⟨m',hm,i+1,σ6,H7,ah,I7.unpinned,T.keep _ _ _ st5 fun b hb o e=>(I7.pin (b,o) (Am _ (Am _ (b8 hb e)))).1,fun b hb=> ?_,w7⟩
    obtain⟨o,e,d⟩:=T.obj _ _ st5 b hb
    exact(I7.pin (b,o) (Am _ (Am _ (b8 hb e)))).2.1
   refine Ao (ht _ s6 σ6 H6 _ I6 q6) (fun okb s7 ⟨H7,I7,q7⟩=> ?_) fun _ _ z=>nx z
   cases okb with
   | false => exact again I7 q7
   |true=>
    refine Ao (he _ s7 σ6 H7 _ I7 q7) (fun v s8 ⟨y,H8,I8,r8,hD8,hz8,n8⟩=> ?_) fun _ _ z=>nx z
    refine Ao (ZL (X:=Y) _ s8 σ6 H8 (.ref D) [y] (.ref D) [v] (fun _ H9=>N2 (acc++[y]) σ6 H9) I8 rfl (.cons r8 .nil)
     ⟨D,acc,y,rfl,rfl,hD8,hz8,n8⟩) (fun _ s9 ⟨_,H9,I9,_,n9⟩=>again I9 n9) fun _ _ z=>nx z
 exact Y9 (loop _ rfl) (T.self _ 0 _ _ _ st2 (loop _ rfl))
structure Blk2(Y:Cx)(tg:Expr)(ifs:List Expr)(tg2 it2:Expr)(ai:List Expr)(elt:Expr)(g:TG)(tt:TT)(wi2:TI)(g2:TG)(tt2:TT)(te:TE):Prop where
 tg:PG Y tg g
 ts:PTs Y ifs tt
 it:PI Y tg2 it2 wi2
 tg2:PG Y tg2 g2
 ts2:PTs Y ai tt2
 el:PE Y elt te
def GU(D:Addr)(ix:List Nat)(nl:Nat)(J:It)(g:TG)(tt:TT)(wi2:TI)(g2:TG)(tt2:TT)(te:TE)(σ:St)(H0:Hp)(Q:Hp->Prop):Prop:=
 ∃W:Nat->Nat->List V->Hp->Prop,(∃m,W 0 m [] (cL H0 D (.lst [])))/\ ∀i m acc H1,W i m acc H1→
  (J.stop i H1/\Q H1)∨
  (J.go i H1/\ ∃N:List V->Hp->Prop,(∀ah H',N ah H'-> ∃m',m'<m/\W (i+1) m' ah H')∧
   ∀x H2,J.yld i H1 x H2->g x (c7 ix σ++Aq nl none) H2 fun σ2 H3=>σ2.take ix.length=c7 ix σ∧
    tt σ2 H3 fun b H4=>if b=true then EmW D wi2 g2 tt2 te acc σ2 H4 (fun ah σ' H'=>σ'.take ix.length=c7 ix σ/\N ah H') else N acc H4)
def JV(ix:List Nat)(nl:Nat)(wi:TI)(g:TG)(tt:TT)(wi2:TI)(g2:TG)(tt2:TT)(te:TE):TE:=fun σ H Q=>wi σ H fun J H0=> ∀D,H0 D=none->GU D ix nl J g tt wi2 g2 tt2 te σ H0 fun H'=>Q (.ref D) H'
theorem NY{X:Cx}{aa:List (Addr×Obj)}{σ:St}{H2:Hp}{s2:Ab}{E:Value->Ab->Prop}{tg iter tg2 it2 elt:Expr}{ifs ai:List Expr}{scope:Scope}{pos:Pos}{N':List Str}{ix:List Nat}{nl:Nat}{g g2:TG}{tt tt2:TT}{wi2:TI}{te:TE}
  {cl:List (Str×Addr)} {J:It} {fp:List Addr} {it:Addr} {tn:Nat->Heap->Prop} {Q:V->Hp->Prop} {RR:Value->Addr->Nd->Ab->Prop}
  (hs2: ∀(env:Env) (x:Value),foldedSetIterable it2 env x=pure x) (hc:X.calm=true) (S:W0 X N' ix scope) (hnl:N'.length=ix.length+nl)
  (bn: ∀x c,cl.lookup x=some c->X.env.cells.lookup x=some c) (g8: ∀x,(x,At)∈scope.names-> ∃c,cl.lookup x=some c)
  (blk: ∀(cl:List (Str×Addr)) (s1:Ab) (H1:Hp) (fp:List Addr),Blk2 (dL X N' scope cl s1 H1 fp) tg ifs tg2 it2 ai elt g tt wi2 g2 tt2 te)
  (I2:eF X aa σ H2 s2) (T:O5 X.prog X.w X.K tg J fp it tn) (st2:tn 0 s2.heap) (f2: ∀b∈fp,WH X aa H2 b)
  (h : ∀ D,H2 D = none -> GU D ix nl J g tt wi2 g2 tt2 te σ H2 fun H' => Q (.ref D) H')
  (fin: ∀(D C:Addr) (s':Ab) (H':Hp),eF X aa σ H' s'->(∃m,s'.heap.Ns C m)->C≠X.env.locals->(∀x c,X.env.cells.lookup x=some c->c≠C)→
   (∀(σ':St) (s'':Ab) (h'':Heap),eF X aa σ' H' s''->Ed C s''.heap h''->eF X aa σ' H' {s'' with heap:=h''})->Q (.ref D) H'->RR (.ref D) C (.ok .next) s'):
  wpAny (model X.prog X.w) X.A (newList []) (fun acc s₃=>wpAny (model X.prog X.w) X.A (Ht scope X.env.globals cl [] X.env.qual none .none (some X.env)) (fun gb s₄=>
   Ef (model X.prog X.w) X.A (.compStart (.ListComp elt [⟨tg,iter,ifs,0⟩,⟨tg2,it2,ai,0⟩] scope pos) 0 (.ref it) acc {gb with scope:=relabel scope X.env}) (RR acc gb.locals) s₄) E s₃) E s2:=by
 refine Cf (WD ?_)
 dsimp only
 have I1:eF X aa σ (cL H2 s2.heap.objs.size (.lst [])) {s2 with heap:=s2.heap.push {cls:= .type "list",dict:=none,data:= .seq ([]:List Value).toArray}}:=
  I2.lnew (t':=s2.toks) (ys:=[]) (its:=[]) .nil (Fd _)
 have hDn:H2 s2.heap.objs.size=none:=I2.hok.fresh (An _)
 obtain⟨W,⟨m0,w0⟩,turn⟩:=h _ hDn
 generalize hs1:({s2 with heap:=s2.heap.push {cls:= .type "list",dict:=none,data:= .seq ([]:List Value).toArray}}:Ab)=s1 at I1
 have cc:s2.heap.push {cls:= .type "list",dict:=none,data:= .seq ([]:List Value).toArray}=s1.heap:=by rw[<- hs1]
 rw[cc]
 have old: ∀b o,s1.heap.get? b=some o->(Ih (s1.heap.push {cls:= .type "dict",data:= .dict #[]}) scope.names).get? b=some o:=fun b o e=>Ha _ _ _ _ (Ad _ e)
 have hns₁:(Ih (s1.heap.push {cls:= .type "dict",data:= .dict #[]}) scope.names).Ns s1.heap.objs.size (fun _=>none):=(Oy s1.heap (.type "dict")).keeps fun b o e=>Ha _ _ _ _ e
 have okc:=cellsFrom_ok scope.names (s1.heap.push {cls:= .type "dict",data:= .dict #[]}) (s1.heap.objs.size+1) [] ⟨fun _ _ hm=>(nomatch hm),Ie⟩ (by rw[Bx];exact An _)
 rw[Bx] at okc
 generalize hz1:Ih (s1.heap.push {cls:= .type "dict",data:= .dict #[]}) scope.names=h₁ at old hns₁ okc
 rw[YM]
 generalize hnc:cellsFrom (s1.heap.objs.size+1) scope.names []=nc at okc
 have ncm: ∀x c,nc.lookup x=some c->(x,Bb)∈scope.names/\h₁.IsCell c none/\s1.heap.objs.size+1<=c:=fun x c e=>by
  have hm:=Ax e
  exact⟨Q5 (n:=s1.heap.objs.size+1) (by rw[hnc];exact hm),okc.empty x c hm⟩
 have nch: ∀x,(x,Bb)∈scope.names-> ∃c,nc.lookup x=some c:=fun x h=>by
  obtain⟨c,hc⟩:=Q4 (n:=s1.heap.objs.size+1) h
  rw[hnc] at hc
  exact X2 hc
 have eh: ∀b∈fp,b<s2.heap.objs.size:=fun b hb=>by
  obtain⟨o,e,_⟩:=T.obj _ _ st2 b hb
  exact Ag e
 have fw:s1.heap.objs.size=s2.heap.objs.size+1:=by rw[<- cc,Bx]
 have i8: ∀b o,s2.heap.get? b=some o->s1.heap.get? b=some o:=fun b o e=>by rw[<- cc];exact Ad _ e
 have cg: ∀x c,cl.lookup x=some c->c<s1.heap.objs.size:=fun x c e=>by
  obtain⟨v,q⟩:=I1.cell x c (bn x c e)
  exact q.lt
 have l5: ∀b∈X8 X.stack,b<s1.heap.objs.size:=fun b hb=>by
  obtain⟨_,o,ho,_⟩:=(I1.stack).mem hb
  exact Ag ho
 have okY:(dL X N' scope (nc++cl) s1 (cL H2 s2.heap.objs.size (.lst [])) fp).Ok:=by
  refine⟨I1.ok.mod,S.kind,I1.ok.glob,I1.ok.blt,An _,fun x y c e1 e2=> ?_,fun x hx=> ?_,fun x c hf e=> ?_,I1.ok.hd,I1.ok.frames,.inl rfl,fun b hb=>⟨?_,fun x c e=> ?_⟩,fun b o e=> ?_,
   Cq I1.ok.bsz I1.sz,fun b o e hb=> ?_,fun b hb hb2=> ?_,I1.stack,I1.stkFree⟩
  ·rcases c8 e1 with n1|⟨_,o1⟩
   ·rcases c8 e2 with n2|⟨_,o2⟩
    ·exact La okc.apart (Ax n1) (Ax n2)
    ·exact absurd (Al (cg y c o2) (Cw (ncm x c n1).2.2)) (Bq _)
   ·rcases c8 e2 with n2|⟨_,o2⟩
    ·exact absurd (Al (cg x c o1) (Cw (ncm y c n2).2.2)) (Bq _)
    ·exact I1.ok.inj x y c (bn x c o1) (bn y c o2)
  ·cases q:nc.lookup x with
   | some c => exact ⟨c,aY q⟩
   |none=>
    rcases aR hx with h|h
    ·obtain⟨c,hc⟩:=g8 x h
     exact⟨c,(aA q).trans hc⟩
    ·obtain⟨c,hc⟩:=nch x h
     rw[q] at hc
     cases hc
  ·have hx:(x,Bb)∈scope.names:=Ax (beq_iff_eq.mp hf)
   obtain⟨c',hc'⟩:=nch x hx
   have:=aY (m:=cl) hc'
   have e:(nc++cl).lookup x=some c:=e
   rw[this] at e
   cases e
   exact Cw (ncm x c hc').2.2
  ·exact Au (Al (eh b hb) (by show s2.heap.objs.size <= s1.heap.objs.size;rw [fw];exact Hb _))
  ·rcases c8 e with n1|⟨_,o1⟩
   ·have h1:=eh b hb
    have h2:=(ncm x c n1).2.2
    rw[fw] at h2
    exact fun z=>absurd (z▸h2) (Mj (Al h1 (Cq (Hb _) (Hb _))))
   ·exact(f2 b hb).2.2.2.2.1 x c (bn x c o1)
  ·exact I1.bs b o e
  ·have:=(f2 b hb)
   obtain⟨o',e',_⟩:=T.obj _ _ st2 b hb
   have hlt:=Al (Ag e) I1.ok.bsz
   rcases this.2.2.2.1 with z|z
   ·exact I1.ok.noex b o e z
   ·exact absurd (Al hlt z) (Bq _)
  ·rcases Ba.mp (I1.stkSub b hb2) with z|z
   ·exact(f2 b hb).2.1 z
   ·exact(f2 b hb).2.2.1 z
 have dj : (c7 ix σ ++ Aq nl none).length = N'.length := by rw [Cn,Ge,hnl];simp [c7]
 have IY:eF (dL X N' scope (nc++cl) s1 (cL H2 s2.heap.objs.size (.lst [])) fp) [] (c7 ix σ++Aq nl none) (cL H2 s2.heap.objs.size (.lst [])) {s2 with heap:=h₁}:=by
  refine⟨okY,?_,I2.bare,Un.kept old,⟨_,hns₁,fun j x v e1 e2 e3=> ?_⟩,fun x c e=> ?_,I1.hok.fresh (An _),fun x c e=> ?_,fun p hp=>absurd (show p∈([]:List (Addr×Obj)) from hp) (by simp),I1.hok.kept old,dj⟩
  ·show s2.os=s1.os
   rw[<- hs1]
  ·have hj:j<ix.length:=by
    by_cases hj:j<ix.length
    ·exact hj
    ·exfalso
     have hl:(c7 ix σ).length=ix.length:=by simp[c7]
     rw[Bm (by rw[hl];omega),Br] at e2
     split at e2<;>cases e2
   have hl:(c7 ix σ).length=ix.length:=by simp[c7]
   rw [Ai (by rw [hl];exact hj)] at e2
   have hci:=S.cap j hj
   obtain⟨i,hi⟩: ∃i,ix[j]? =some i:=⟨ix[j],by simp[hj]⟩
   rw[hi] at hci
   have hNi:X.N[i]? =some x:=by
    have:N'[j]? =X.N[i]? :=hci
    rw[<- this];exact e1
   have hσ:σ[i]? =some (some v):=by
    unfold c7 at e2
    rw[Cj,hi] at e2
    have e2':(σ[i]?).join=some v:=by simpa using e2
    cases q:σ[i]? with
    | none => rw [q] at e2';cases e2'
    | some o => rw [q] at e2';rw [show o = some v from e2']
   have hfl:scope.names.lookup x=some .free:=S.capf x (by
    rw[Gf]
    exact⟨j,by rw[Bl hj];exact e1⟩)
   have az:(x,At)∈scope.names:=Ax hfl
   have hpk:X.env.kindOf x=some .cell∨X.env.kindOf x=some .free:=by exact S.free (x,.free) az rfl
   have ij:AE X.env.scope x:=by
    rcases hpk with z|z
    ·exact .inr (.inl z)
    ·exact .inr (.inr z)
   obtain⟨m,hn,im⟩:=I1.loc
   obtain⟨u,ru,l⟩:=im i x v hNi hσ ij
   refine⟨u,ru,?_⟩
   rcases l with⟨hk,_⟩|⟨hk,c,ec,z⟩
   ·rcases hpk with q|q<;>rw[hk] at q<;>cases q
   ·obtain⟨c',hc'⟩:=g8 x az
    have:c'=c:=by
     have:=bn x c' hc'
     rw[ec] at this;exact(Bu this).symm
    subst this
    have ik:nc.lookup x=none:=by
     cases q:nc.lookup x with
     |none=>rfl
     |some d=>
      have:=S.cel (x,.cell) (ncm x d q).1 rfl
      rw[hfl] at this
      cases this
    refine .inr ⟨ZC hfl,c',(aA ik).trans hc',?_⟩
    ·obtain⟨o,ho,hd⟩:=z
     exact⟨o,old _ _ ho,hd⟩
  ·rcases c8 e with n1|⟨_,o1⟩
   ·exact⟨none,(ncm x c n1).2.1⟩
   ·obtain⟨v,o,ho,hd⟩:=I1.cell x c (bn x c o1)
    exact⟨v,o,old _ _ ho,hd⟩
  ·rcases c8 e with n1|⟨_,o1⟩
   ·exact I1.hok.fresh (Cw (ncm x c n1).2.2)
   ·exact I1.freeC x c (bn x c o1)
 have back: ∀{pY:List (Addr×Obj)} {σ':St} {H':Hp} {s':Ab},eF (dL X N' scope (nc++cl) s1 (cL H2 s2.heap.objs.size (.lst [])) fp) pY σ' H' s'->eF X aa σ H' s':=fun{pY σ' H' s'} J'=>
  I1.call' J'.os J'.base J'.hok J'.bare fun b hb=>⟨(f2 b hb).2.2.2.1,(f2 b hb).2.1,(f2 b hb).2.2.2.2.1,(f2 b hb).2.2.2.2.2⟩
 have stat: ∀{H':Hp} {pY:List (Addr×Obj)},(∀b∈fp,H' b=none)->pY=[]-> ∀b∈fp,WH (dL X N' scope (nc++cl) s1 (cL H2 s2.heap.objs.size (.lst [])) fp) pY H' b:=fun{H' pY} hn hp b hb=>by
  subst hp
  refine⟨hn b hb,(okY.exf b hb).1,okY.exfs b hb,.inl hb,(okY.exf b hb).2,fun p hp=>absurd (show p∈([]:List (Addr×Obj)) from hp) (by simp)⟩
 have st1:tn 0 h₁:=T.keep 0 s2.heap h₁ st2 fun b hb o e=>old b o (i8 b o e)
 have fr1: ∀b∈fp,(cL H2 s2.heap.objs.size (.lst [])) b=none:=fun b hb=>by
  rw[dQ (Au (eh b hb))]
  exact(f2 b hb).1
 have loop: ∀s₃:Ab,s₃={s2 with heap:=h₁}→
   Ef (model X.prog X.w) X.A (.compLoop (.ListComp elt [⟨tg,iter,ifs,0⟩,⟨tg2,it2,ai,0⟩] scope pos) 0 (.ref it) (.ref s2.heap.objs.size) (Ms scope (nc++cl) s1.heap.objs.size X.env)) (RR (.ref s2.heap.objs.size) s1.heap.objs.size) s₃:=by
  rintro s₃ rfl
  refine NZ (hs:=hs2 _) (fun n s'=> ∃i σ' H' acc,eF (dL X N' scope (nc++cl) s1 (cL H2 s2.heap.objs.size (.lst [])) fp) [] σ' H' s'/\σ'.take ix.length=c7 ix σ/\tn i s'.heap/\(∀b∈fp,H' b=none)/\W i n acc H') ?_ m0
   ⟨0,_,_,[],IY,by rw [Gg (by simp [c7])];exact Dl (by simp [c7]),st1,fr1,w0⟩
  rintro n s' ⟨i,σ',H',acc,J',hσ,st',fr',w'⟩
  have Jc:eF (dL X N' scope (nc++cl) s1 (cL H2 s2.heap.objs.size (.lst [])) fp) [] (c7 ix σ++Aq nl none) H' s':=by
   refine J'.weak (by rw[dj];exact J'.len.symm) fun j v e=> ?_
   have hl:(c7 ix σ).length=ix.length:=by simp[c7]
   by_cases hj:j<ix.length
   ·rw [Ai (by rw [hl];exact hj),<- hσ,Bl hj] at e
    exact e
   ·rw [Bm (by rw [hl];omega),Br] at e
    split at e<;>cases e
  rcases turn i n acc H' w' with⟨stop,q⟩|⟨go,N,hN,step⟩
  ·refine Ao (T.done (dL X N' scope (nc ++ cl) s1 (cL H2 s2.heap.objs.size (.lst [])) fp) rfl rfl rfl hc i [] s' _ H' (fun _ _ => False) Jc (stat fr' rfl) st' stop) (fun r s4 ⟨hr,I4⟩ => ?_) fun _ _ z => z
   subst hr
   have IX:=back I4
   obtain⟨m,hm,_⟩:=I4.loc
   exact fin _ _ s4 H' IX ⟨m,hm⟩ (Ff I1.lt) (fun x c e z=>by
    obtain⟨v,q⟩:=I1.cell x c e
    have:=q.lt
    rw[z] at this
    exact Bq _ this) (fun σ'' s'' h'' I'' sb=>eF.offNew I1 I'' I4.free fun b o hb e=>(sb.2 b hb).trans e) q
  ·refine Ao (T.item (dL X N' scope (nc ++ cl) s1 (cL H2 s2.heap.objs.size (.lst [])) fp) rfl rfl rfl hc i [] s' _ H' (fun _ _ => False) Jc (stat fr' rfl) st' go) (fun r s4 ⟨u,hr,h4⟩ => ?_) fun _ _ z => z
   subst hr
   refine Ao h4 (fun _ s5 ⟨x,H5,I5,r5,y5,st5,fr5⟩=> ?_) fun _ _ z=>z
   have I5':=I5.pinned (stat fr5 rfl) (T.obj _ _ st5)
   obtain⟨btg,bts,bit,bt2,bs2,bel⟩:=blk (nc++cl) s1 (cL H2 s2.heap.objs.size (.lst [])) fp
   refine Ao (btg _ s5 _ H5 x u _ I5' r5 (step x H5 y5)) (fun _ s6 ⟨σ6,H6,I6,hσ6,q6⟩=> ?_) fun _ _ z=>z
   have again: ∀{σ7:St} {H7:Hp} {s7:Ab} {ah:List V},σ7.take ix.length=c7 ix σ->eF (dL X N' scope (nc++cl) s1 (cL H2 s2.heap.objs.size (.lst [])) fp) ([]++X5 fp s5.heap) σ7 H7 s7->N ah H7→
     ∃m,m<n/\ ∃i σ' H' acc,eF (dL X N' scope (nc++cl) s1 (cL H2 s2.heap.objs.size (.lst [])) fp) [] σ' H' s7/\σ'.take ix.length=c7 ix σ/\tn i s7.heap/\(∀b∈fp,H' b=none)/\W i m acc H':=fun{σ7 H7 s7 ah} hσ7 I7 n7=>by
    obtain⟨m',hm,w7⟩:=hN ah H7 n7
    refine⟨m',hm,i+1,σ7,H7,ah,I7.unpinned,hσ7,T.keep _ _ _ st5 fun b hb o e=>(I7.pin (b,o) (Am _ (Am _ (b8 hb e)))).1,fun b hb=> ?_,w7⟩
    obtain⟨o,e,d⟩:=T.obj _ _ st5 b hb
    exact(I7.pin (b,o) (Am _ (Am _ (b8 hb e)))).2.1
   refine Ao (bts _ s6 σ6 H6 _ I6 q6) (fun okb s7 ⟨H7,I7,q7⟩=> ?_) fun _ _ z=>z
   cases okb with
   | false => exact again hσ6 I7 q7
   |true=>
    refine Ao (zC5 (Y:=dL X N' scope (nc++cl) s1 (cL H2 s2.heap.objs.size (.lst [])) fp) hc rfl bit bt2 bs2 bel I7 q7) (fun x s8 h8=>Ao h8 (fun i2 s9 h9=>Em h9 fun r s10 h10=> ?_) fun _ _ z=>z) fun _ _ z=>z
    cases r with
    |ok f=>
     obtain⟨ah,σ',H',I9,hσ9,n9⟩:=h10
     exact again hσ9 I9 n9
    |error e=>exact h10.elim
 have he:({newEnv scope s1.heap.objs.size X.env.globals (nc++cl) X.env.qual none .none (some X.env) builtinsNs with scope:=relabel scope X.env}:Env)=Ms scope (nc++cl) s1.heap.objs.size X.env:=rfl
 exact Jh (loop _ rfl) (T.self _ 0 _ _ _ st1 (loop _ rfl))
theorem IL{X:Cx}{tg iter tg2 it2 elt:Expr}{ifs ai:List Expr}{scope:Scope}{pos:Pos}{N':List Str}{ix:List Nat}{nl:Nat}{wi wi2:TI}{g g2:TG}{tt tt2:TT}{te:TE}
  (hc:X.calm=true) (S:W0 X N' ix scope) (hnl:N'.length=ix.length+nl) (hi:PI X tg iter wi)
  (blk: ∀(cl:List (Str×Addr)) (s1:Ab) (H1:Hp) (fp:List Addr),Blk2 (dL X N' scope cl s1 H1 fp) tg ifs tg2 it2 ai elt g tt wi2 g2 tt2 te)
  (hs: ∀x,foldedSetIterable iter X.env x=pure x:=by intro _;rfl) (hs2: ∀(env:Env) (x:Value),foldedSetIterable it2 env x=pure x:=by intro _ _;rfl):PE X (.ListComp elt [⟨tg,iter,ifs,0⟩,⟨tg2,it2,ai,0⟩] scope pos) (JV ix nl wi g tt wi2 g2 tt2 te):=by
 intro aa s σ H Q I h
 rw[eval_ListComp]
 obtain⟨cl,e1,e2,e3⟩:=MV (env:=X.env) (scope:=scope) fun y hy hf=>I.ok.has y.1 (S.free y hy hf)
 refine Ii (use:=none) (cl:=cl) rfl hs e1 S.kind S.names (Ao (hi aa s σ H _ I h) (fun xv s₁ h₁=>Ao h₁ (fun itv s₂ h₂=> ?_) fun _ _ e=>e) fun _ _ e=>e)
 obtain⟨it,fp,tn,J,H2,e,I2,T,st2,f2,q⟩:=h₂
 subst e
 refine NY (Q:=Q) (RR:=fun acc C=>compPost (model X.prog X.w) X.A X.xe none (EP X aa σ Q) acc C) hs2 hc S hnl e2 e3 blk I2 T st2 f2 q ?_
 intro D C s' H' I' hm hC1 hC2 hb hq
 obtain⟨m,hm⟩:=hm
 exact⟨m,hm,fun h'' sb=>⟨.ref D,H',hb σ s' h'' I' sb,rfl,hq⟩⟩
noncomputable def N4(gg:VG)(tb:VB)(fe:VF):List eN->List eN->Ev->Option (List eN×Ev)
 |[],acc,δ=>some (acc,δ)
 |d::r,acc,δ=>(gg d δ).bind fun δ1=>(tb δ1).bind fun p=>if p.1=true then(fe p.2).bind fun q=>if acc.length<16777216 then N4 gg tb fe r (acc++[q.1]) q.2 else none else N4 gg tb fe r acc p.2
noncomputable def YN(n nl:Nat)(gg:VG)(tb:VB)(fi2:VI)(gg2:VG)(tb2:VB)(fe:VF):List eN->List eN->Ev->Option (List eN×Ev)
 |[],acc,δ=>some (acc,δ)
 |d::r,acc,δ=>(gg d (δ++UI nl)).bind fun δ1=>(tb δ1).bind fun p=>if p.1=true then(fi2 p.2).bind fun u=>(N4 gg2 tb2 fe u.1 acc u.2).bind fun q=>YN n nl gg tb fi2 gg2 tb2 fe r q.1 (q.2.take n) else YN n nl gg tb fi2 gg2 tb2 fe r acc (p.2.take n)
noncomputable def RA(ix:List Nat)(nl:Nat)(fi:VI)(gg:VG)(tb:VB)(fi2:VI)(gg2:VG)(tb2:VB)(fe:VF):VF:=fun δ=>(fi δ).bind fun p=>(YN ix.length nl gg tb fi2 gg2 tb2 fe p.1 [] (aX ix p.2)).map fun q=>(.lst q.1,b3 ix q.2 p.2)
section
variable{X:Cx}{K:Ae}{ml:List Nat}{e a b c:Expr}{es:List Expr}{pi pt pe pi2 pt2 pu bt bi ps bs:Bool}{f:VF}{B B':Bs}{O:Nat->Option Addr}{H H0 H1 H':Hp}{σ:St}{δ δ':Ev}{v:V}{d:eN}{p:Addr}{pos:Pos}{ix:List Nat}{nl:Nat}
theorem JZ{fi fi2:VI}{gg gg2:VG}{tb tb2:VB}{fe:VF}(hnd:ix.Nodup){Q:VK}(h:TN K ml (pi && (pt && pi2 && pt2 && pe)) (RA ix nl fi gg tb fi2 gg2 tb2 fe) σ H Q):
  JV ix nl (KI K ml pi fi) (G3 K (Aw ix.length) gg) (TB K (Aw ix.length) pt tb) (KI K (Aw ix.length) pi2 fi2) (G3 K (Aw ix.length) gg2) (TB K (Aw ix.length) pt2 tb2) (TV K (Aw ix.length) pe true true fe) σ H Q:=by
 obtain⟨B,O,δ,d,δ2,S,q,k⟩:=h
 unfold RA at q
 cases h1:fi δ with
 | none => rw [h1] at q;cases q
 |some p=>
  obtain⟨ds,δ1⟩:=p
  rw[h1] at q
  have q : ((YN ix.length nl gg tb fi2 gg2 tb2 fe ds [] (aX ix δ1)).map fun q => (eN.lst q.1,b3 ix q.2 δ1)) = some (d,δ2) := q
  cases h2:YN ix.length nl gg tb fi2 gg2 tb2 fe ds [] (aX ix δ1) with
  | none => rw [h2] at q;cases q
  |some z=>
   obtain⟨res,δf⟩:=z
   rw[h2] at q
   cases q
   refine⟨B,O,δ,ds,δ1,S,h1,fun J kps H0 S0 f0 p0 wk D hD=> ?_⟩
   have hDO : ∀ j,Oc ix O j ≠ some D := fun j e => by
    unfold Oc at e
    cases hi:ix[j]? with
    | none => rw [hi] at e;cases e
    |some i=>
     rw[hi] at e
     obtain⟨o,q⟩:=S0.nin (.inr ⟨i,e⟩)
     rw[hD] at q
     cases q
   have g0 : ∀ kp j,ix.length <= j -> (Bc ix B O H0 D kp).mu j = none := fun kp j hj => by
    show(ix[j]?).bind O=none
    rw[Bt hj]
    rfl
   refine⟨fun i m acc H1=>m=ds.length - i/\i<=ds.length/\ ∃(aj:List eN) (δc:Ev),δc.length=ix.length/\acc.length=aj.length∧
     cX K (Aw ix.length) (Bc ix B O H0 D (kps++acc.zip aj)) (Oc ix O) H1 (c7 ix σ++Aq nl none) (δc++UI nl)/\H1 D=some (.lst acc)/\((pt && pi2 && pt2 && pe)=true->cM H0 H1)∧
     YN ix.length nl gg tb fi2 gg2 tb2 fe (ds.drop i) aj δc=some (res,δf),
    ⟨ds.length,rfl,Fd _,[],aX ix δ1,by simp [aX],rfl,by
     rw[Ia,Cg]
     exact S0.unkeep.inner hD hnd fun p hp=>S0.kep p (Av _ hp),dZ,fun _=>eL hD,h2⟩,?_⟩
   rintro i m acc H1 ⟨rfl,hi,aj,δc,hlc,dc,S1,hD1,eg,hc⟩
   have w := wk (Nn (Bc ix B O H0 D (kps ++ acc.zip aj)) (Oc ix O)) H1 fun p hp => S1.kep p (Av _ hp)
   by_cases hlt:i<ds.length
   ·obtain ⟨go,yl⟩ := w.1 i ds[i] (by simp [hlt])
    rw[Cz hlt] at hc
    simp only[YN] at hc
    cases g1:gg ds[i] (δc++UI nl) with
    | none => rw [g1] at hc;cases hc
    |some δ3=>
     rw[g1] at hc
     simp only[Ak] at hc
     cases g2:tb δ3 with
     | none => rw [g2] at hc;cases hc
     |some z=>
      obtain⟨kk,δ4⟩:=z
      rw[g2] at hc
      simp only[Ak] at hc
      refine .inr ⟨go,fun ah H'=> ∃(aj:List eN) (δc:Ev),δc.length=ix.length/\ah.length=aj.length∧
       cX K (Aw ix.length) (Bc ix B O H0 D (kps++ah.zip aj)) (Oc ix O) H' (c7 ix σ++Aq nl none) (δc++UI nl)/\H' D=some (.lst ah)/\((pt && pi2 && pt2 && pe)=true->cM H0 H')∧
       YN ix.length nl gg tb fi2 gg2 tb2 fe (ds.drop (i + 1)) aj δc = some (res,δf),fun ah H' w' => ⟨ds.length - (i + 1),by omega,rfl,hlt,w'⟩,fun x H2 hy => ?_⟩
      obtain⟨sm,rx⟩:=yl x H2 hy
      refine⟨_,_,_,ds[i],δ3,S1.same sm,rx,g1,fun σ3 O3 S3 m3=> ?_⟩
      have ln3:ix.length<=σ3.length:=by
       by_cases hz:ix.length=0
       ·omega
       ·have hj : ix.length - 1 < ix.length := by omega
        have:=m3 (ix.length - 1) (Cy.mpr hj)
        have hs:(c7 ix σ++Aq nl none)[ix.length - 1]? ≠none:=by
         rw [Ai (by rw [bI];exact hj)]
         simp[c7,hj]
        rw[<- this] at hs
        have la : ix.length - 1 < σ3.length := Mf fun z => hs (Hs.mpr z)
        omega
      have hσ3:=TU ln3 m3
      refine ⟨hσ3,_,_,δ3,kk,δ4,S3,g2,fun H4 R4 => ?_⟩
      have hD4 : H4 D = some (.lst acc) := R4.frm _ _ (sm _ _ hD1) fun z => by
       obtain⟨j,e⟩:=z
       have:=(R4.sta.old j D e).1
       exact absurd (.inl (.inr rfl)) this
      have ln4 : ix.length <= δ4.length := by rw [<- R4.sta.len];exact ln3
      cases kk with
      |false=>
       rw[if_neg Ca] at hc
       refine UB ⟨aj,δ4.take ix.length,by rw [Bw];omega,dc,R4.sta.turn (g0 _) (bI ix σ) hσ3 ln4,hD4,fun z => ?_,hc⟩
       simp only[Ac] at z
       exact ((eg (by simp [z.1.1.1,z.1.1.2,z.1.2,z.2])).trans sm).trans (R4.pur z.1.1.1)
      |true=>
       rw[if_pos rfl] at hc
       cases g3:fi2 δ4 with
       | none => rw [g3] at hc;cases hc
       |some z=>
        obtain⟨ds2,δ5⟩:=z
        rw[g3] at hc
        simp only[Ak] at hc
        cases g4:N4 gg2 tb2 fe ds2 aj δ5 with
        | none => rw [g4] at hc;cases hc
        |some z2=>
         obtain⟨gv,δ2f⟩:=z2
         rw[g4] at hc
         simp only[Ak] at hc
         refine UC ⟨_,_,δ4,ds2,δ5,R4.sta,g3,fun J2 fo H5 S5 f5 p5 wk2=> ?_⟩
         have hD5 : H5 D = some (.lst acc) := f5 _ _ hD4 fun z => by
          obtain⟨j,e⟩:=z
          have:=(R4.sta.old j D e).1
          exact absurd (.inl (.inr rfl)) this
         refine⟨fun i2 m2 cj σ1 H6=>m2=ds2.length - i2/\i2<=ds2.length/\ ∃(ap:List eN) (δc1:Ev) (O1:Nat->Option Addr),cj.length=ap.length∧
           cX K (Aw ix.length) (Bc ix B O H0 D (fo++(kps++cj.zip ap))) O1 H6 σ1 δc1/\σ1.take ix.length=c7 ix σ/\ix.length<=σ1.length/\H6 D=some (.lst cj)/\((pt && pi2 && pt2 && pe)=true->cM H0 H6)∧
           N4 gg2 tb2 fe (ds2.drop i2) ap δc1=some (gv,δ2f),
          ⟨ds2.length,rfl,Fd _,aj,δ5,_,dc,S5,hσ3,ln3,hD5,fun z => by
           simp only[Ac] at z
           exact(((eg (by simp[z.1.1.1,z.1.1.2,z.1.2,z.2])).trans sm).trans (R4.pur z.1.1.1)).trans (p5 z.1.1.2),g4⟩,?_⟩
         rintro i2 m2 cj σ1 H6 ⟨rfl,hi2,ap,δc1,O1,dk,S6,hσ1,ln1,hD6,ig,hc6⟩
         have w2 := wk2 (Nn (Bc ix B O H0 D (fo ++ (kps ++ cj.zip ap))) O1) H6 fun p hp => S6.kep p (Av _ hp)
         by_cases il:i2<ds2.length
         ·obtain ⟨go2,yl2⟩ := w2.1 i2 ds2[i2] (by simp [il])
          rw[Cz il] at hc6
          simp only[N4] at hc6
          cases k1:gg2 ds2[i2] δc1 with
          | none => rw [k1] at hc6;cases hc6
          |some δ7=>
           rw[k1] at hc6
           simp only[Ak] at hc6
           cases k2:tb2 δ7 with
           | none => rw [k2] at hc6;cases hc6
           |some z3=>
            obtain⟨kk2,δ8⟩:=z3
            rw[k2] at hc6
            simp only[Ak] at hc6
            refine .inr ⟨go2,fun ah σ' H'=> ∃(ap:List eN) (δc1:Ev) (O1:Nat->Option Addr),ah.length=ap.length∧
             cX K (Aw ix.length) (Bc ix B O H0 D (fo++(kps++ah.zip ap))) O1 H' σ' δc1/\σ'.take ix.length=c7 ix σ/\ix.length<=σ'.length/\H' D=some (.lst ah)/\((pt && pi2 && pt2 && pe)=true->cM H0 H')∧
             N4 gg2 tb2 fe (ds2.drop (i2 + 1)) ap δc1 = some (gv,δ2f),fun ah σ' H' w' => ⟨ds2.length - (i2 + 1),by omega,rfl,il,w'⟩,fun x2 H7 hy2 => ?_⟩
            obtain⟨sm2,rx2⟩:=yl2 x2 H7 hy2
            refine⟨_,_,_,ds2[i2],δ7,S6.same sm2,rx2,k1,fun σ7 O7 S7 m7=> ?_⟩
            have hσ7:σ7.take ix.length=c7 ix σ:=by
             rw[<- hσ1]
             refine Lm fun j=> ?_
             rw[Lb,Lb]
             split
             ·rename_i hj
              exact m7 j (Cy.mpr hj)
             ·rfl
            have ln7:ix.length<=σ7.length:=by
             have:(σ7.take ix.length).length=ix.length:=by rw[hσ7,bI]
             rw[Bw] at this
             omega
            refine⟨_,_,δ7,kk2,δ8,S7,k2,fun H8 R8=> ?_⟩
            have hD8 : H8 D = some (.lst cj) := R8.frm _ _ (sm2 _ _ hD6) fun z => by
             obtain⟨j,e⟩:=z
             have:=(R8.sta.old j D e).1
             exact absurd (.inl (.inr rfl)) this
            cases kk2 with
            |false=>
             rw[if_neg Ca] at hc6
             refine UB ⟨ap,δ8,_,dk,R8.sta,hσ7,ln7,hD8,fun z=> ?_,hc6⟩
             have z0:=z
             simp only[Ac] at z
             exact((ig z0).trans sm2).trans (R8.pur z.1.2)
            |true=>
             rw[if_pos rfl] at hc6
             cases k3:fe δ8 with
             | none => rw [k3] at hc6;cases hc6
             |some z4=>
              obtain⟨dv,δ9⟩:=z4
              rw[k3] at hc6
              simp only[Ak] at hc6
              split at hc6
              ·rename_i hz
               refine UC ⟨_,_,δ8,dv,δ9,R8.sta,k3,fun v H9 R9=> ?_⟩
               have hD9:H9 D=some (.lst cj):=R9.frm _ _ hD8 fun z=>by
                obtain⟨j,e⟩:=z
                have:=(R9.sta.old j D e).1
                exact absurd (.inl (.inr rfl)) this
               have hv:dH K (Nn (Bc ix B O H0 D (fo++(kps++cj.zip ap))) O7) H9 (Nn (Bc ix B O H0 D (fo++(kps++cj.zip ap))) O7) v dv:=R9.rep.mono (fun a h=>by
                rcases h with h|h
                ·exact .inl h
                ·exact .inr h) (fun a h => by
                rcases h with h|h
                ·exact .inl h
                ·exact .inr h)
               have S10:=R9.sta.withKp (kp:=fo++(kps++(cj++[v]).zip (ap++[dv]))) fun p hp=>by
                rw[Nh dk,<- Gc,<- Gc] at hp
                rcases El.mp hp with z|z
                ·exact R9.sta.kep p (by rw [<- Gc];exact z)
                ·rw[Cb.mp (show p∈[(v,dv)] from z)]
                 exact hv
               refine⟨hD9,by rw[dk,Bg];exact hz,ap++[dv],δ9,O7,by simp[dk],?_,hσ7,ln7,dZ,fun z=> ?_,hc6⟩
               ·exact S10.writeZ (.inl (.inr rfl)) hD9 hD
               ·intro b o e
                have hb:b≠D:=fun z=>by rw[z,hD] at e;cases e
                rw[dQ hb]
                have z0:=z
                simp only[Ac] at z
                exact(((ig z0).trans sm2).trans ((R8.pur z.1.2).trans (R9.pur z.2))) b o e
              ·cases hc6
         ·have e : i2 = ds2.length := by omega
          subst e
          rw[Ei] at hc6
          cases hc6
          refine .inl ⟨w2.2,hσ1,gv,δ2f.take ix.length,by rw[Bw,<- S6.len];omega,dk,?_,hD6,ig,hc⟩
          have S11:=S6.turn (nl:=nl) (g0 _) (bI ix σ) hσ1 (by rw[<- S6.len];exact ln1)
          exact S11.withKp (kp:=kps++cj.zip gv) fun p hp=>S11.kep p (Am _ hp)
   ·have e : i = ds.length := by omega
    subst e
    rw[Ei] at hc
    cases hc
    refine .inl ⟨w.2,k D H1 ?_⟩
    have fP:Fr (OA (Oc ix O)) H0 H1:=S1.frm
    have hPO: ∀a,OA (Oc ix O) a->OA O a:=fun a q0=>by
     obtain⟨j,e⟩:=q0
     unfold Oc at e
     cases hi:ix[j]? with
     | none => rw [hi] at e;cases e
     | some i => rw [hi] at e;exact ⟨i,e⟩
    have SL:=S0.unkeep.laid (o:= .lst acc) hD
    have fL:Fr (OA (Oc ix O)) (cL H0 D (.lst acc)) H1:=fun b o e n=>by
     by_cases hb:b=D
     ·subst hb
      rw[dZ] at e
      cases e
      exact hD1
     ·rw[dQ hb] at e
      exact fP b o e n
    refine⟨SL.call (ZJ) (fun i=> ?_) fL hPO,f0.trans (fP.mono hPO),fun z=> ?_,.lst hD1 (YG dc fun p hp=>(S1.kep p (Am _ hp)).mono WO WO),S0.unkeep.new hD,S0.fresh hD⟩
    ·by_cases g5:i<δ1.length
     ·rcases ZI (ix:=ix) (ss:=δf) (δ:=δ1) i g5 hlc.symm with⟨j,x,e1,e2,e3⟩|⟨e1,e2⟩
      ·have e4:(δf++UI nl)[j]? =some (.ow x):=by
        rw[Ai (Ah.mp e2).1]
        exact e2
       obtain⟨a,e5,_,w⟩:=S1.ow j x e4
       refine .inr ⟨a,x,?_,e3,w.mono WO⟩
       unfold Oc at e5
       rw[e1] at e5
       exact e5
      ·refine .inl ⟨e2,fun a ea ⟨j,ej⟩ => ?_⟩
       obtain⟨x,ex⟩:=S1.dom j a ej
       unfold Oc at ej
       cases hi:ix[j]? with
       |none=>rw[hi] at ej;cases ej
       |some i'=>
        rw[hi] at ej
        have:i=i':=S0.inj i i' a ea ej
        subst this
        have hj:j<δf.length:=by rw[hlc];exact(Ah.mp hi).1
        rw[Ai hj] at ex
        exact e1 j x hi ex
     ·refine .inl ⟨?_,fun a ea => ?_⟩
      ·rw [Bt (by rw [ZJ];omega),Bt (by omega)]
      ·obtain⟨x,ex⟩:=S0.dom i a ea
       exact absurd (Ah.mp ex).1 g5
    ·rw[Ac] at z
     exact(p0 z.1).trans (eg z.2)
theorem J6{tg iter tg2 it2 elt:Expr}{ifs ai:List Expr}{scope:Scope}{N':List Str}{fi fi2:VI}{gg gg2:VG}{tb tb2:VB}{fe:VF}
  (hc:X.calm=true) (hk:scope.kind= .function) (hok:Q7 X.N N' ix scope.names X.env.kindOf=true) (hnl:N'.length=ix.length+nl) (hnd:ix.Nodup) (hi:PI X tg iter (KI K ml pi fi))
  (blk: ∀(cl:List (Str×Addr)) (s1:Ab) (H1:Hp) (fp:List Addr),Blk2 (dL X N' scope cl s1 H1 fp) tg ifs tg2 it2 ai elt (G3 K (Aw ix.length) gg) (TB K (Aw ix.length) pt tb) (KI K (Aw ix.length) pi2 fi2) (G3 K (Aw ix.length) gg2) (TB K (Aw ix.length) pt2 tb2) (TV K (Aw ix.length) pe true true fe))
  (hs: ∀x,foldedSetIterable iter X.env x=pure x:=by intro _;rfl) (hs2: ∀(env:Env) (x:Value),foldedSetIterable it2 env x=pure x:=by intro _ _;rfl):PE X (.ListComp elt [⟨tg,iter,ifs,0⟩,⟨tg2,it2,ai,0⟩] scope pos) (TN K ml (pi && (pt && pi2 && pt2 && pe)) (RA ix nl fi gg tb fi2 gg2 tb2 fe)):=
 (IL hc (WJ hk hok) hnl hi blk hs hs2).imp fun _ _ _ h=>JZ hnd h
end
end L2
namespace TS
open PySem PySem.W PyProof.Rows
end TS
namespace L2
open PySem PySem.Spec PyProof.Rows
variable{X:Cx}{K:Ae}
variable{X:Cx}{K:Ae}{H:Hp}{σ:St}{s:Ab}{aa:List (Addr×Obj)}{ml:List Nat}{pa ta ia:Bool}{fa:VF}{a:Expr}{p' pos:Pos}
section
variable{X:Cx}{K:Ae}{ml:List Nat}{e a b c:Expr}{es:List Expr}{pa ta ia pb tb ib pc tc ic pu bt bi ps bs:Bool}{fa fb fc f:VF}{B B':Bs}{O:Nat->Option Addr}{H H1 H':Hp}{σ:St}{δ δ':Ev}{v:V}{d:eN}{p:Addr}{pos:Pos}
noncomputable def oInS:eN->eN->Option eN
 | .str i,.str j=>some (.bl (!(Cm j i 0 j.length 1).isEmpty))
 |_,_=>none
theorem zAQ:V6 K (fun x y H Q=> ∃i j,x= .str i/\y= .str j/\Q (.bl (!(Cm j i 0 j.length 1).isEmpty)) H) oInS:=by
 intro H N N' M M' x y d e c Q hx hy h k
 cases d with
 |str i=>
  cases e with
  |str j=>
   cases h
   cases hx
   cases hy
   exact⟨i,j,rfl,rfl,k _ fun _ _ _=> .bl _⟩
  |_=>cases h
 |_=>cases h
theorem SS:cI X (.type "int") (fun xs H Q=> ∃z n,xs=[.str z]/\z.length<=640/\Gd z=some n/\Q (.int n) H):=by
 intro aa s σ H xs us Q I r h
 obtain⟨z,n,rfl,hl,hn,q⟩:=h
 obtain⟨u,rfl,t,rfl⟩:=XQ r
 exact W.KIN.call_text hn hl ⟨.int n,H,I.tok _,⟨_,rfl⟩,q⟩
noncomputable def HY:eN->Option eN
 | .str z=>if z.length<=640 then(Gd z).map .int else none
 |_=>none
theorem JL:QR K (fun xs H Q=> ∃z n,xs=[.str z]/\z.length<=640/\Gd z=some n/\Q (.int n) H) HY:=by
 intro H N M x d c Q hx h k
 cases d with
 |str z=>
  have h:(if z.length<=640 then(Gd z).map eN.int else none)=some c:=h
  split at h
  ·rename_i hl
   cases h1:Gd z with
   |none=>rw[h1] at h;cases h
   |some n=>
    rw[h1] at h
    cases h
    cases hx
    exact⟨z,n,rfl,hl,h1,k _ fun _ _ _=> .int _⟩
  ·cases h
 |_=>cases h
noncomputable def NB:eN->Option eN
 | .int i=>if i.natAbs.log2<1920 then some (.str (toString i)) else none
 |_=>none
theorem OP:QR K (fun xs H Q=> ∃i,xs=[.int i]/\i.natAbs.log2<1920/\Q (.str (toString i)) H) NB:=by
 intro H N M x d c Q hx h k
 cases d with
 |int i=>
  have h:(if i.natAbs.log2<1920 then some (eN.str (toString i)) else none)=some c:=h
  split at h
  ·rename_i hl
   cases h
   cases hx
   exact⟨i,rfl,hl,k _ fun _ _ _=> .str _⟩
  ·cases h
 |_=>cases h
def CT:V->List V->Hp->VK->Prop:=fun x xs H Q=> ∃z y,x= .str z/\xs=[.str y]/\(y.length==0)=false/\z.length+2<=sizeLine/\ ∀p,H p=none->Q (.ref p) (cL H p (.lst ((PySem.Txt.split z y).map V.str)))
theorem TR: ∀l:List (Str×Tok),dG ((l.map (·.1)).map V.str) (Nl l)
 |[]=> .nil
 |p::r=> .cons ⟨p.2,rfl⟩ (TR r)
theorem L9{z y:Str}:(PySem.Txt.split z y).length<=z.length+2:=by
 unfold PySem.Txt.split
 split
 ·simp
 ·split
  ·simp
  ·have e1:=Ju z y 0 z.length (z.length+1)
   rw[Ko]
   omega
theorem HU:MtR X "str.split" CT:=by
 intro aa s σ H x xs v us Q I rx rv h
 obtain⟨z,y,rfl,rfl,hy,hz,q⟩:=h
 obtain⟨t,rfl⟩:=rx
 obtain⟨u,rfl,ru⟩:=rv.one
 obtain⟨t2,rfl⟩:=ru
 have fin: ∀(l:List (Str×Tok)) (k:Nat),l.map (·.1)=PySem.Txt.split z y->EP X aa σ Q (.ref s.heap.objs.size) {s with heap:=s.heap.push {cls:= .type "list",data:= .seq (Nl l).toArray},toks:=k}:=fun l k e=>
  ⟨.ref s.heap.objs.size,_,I.laid (t' := k) (fun b o e => Ad _ e) (An _) (show cE X.prog X.w _ _ _ (.lst ((PySem.Txt.split z y).map V.str)) from ⟨by rw [Dk];exact Cq L9 hz,Nl l,0,by rw [<- e];exact TR l,Ap _ rfl⟩),rfl,q _ (I.hok.fresh (An _))⟩
 have hn:(Ij z (Cm z y 0 z.length (z.length+1)) y.length).length<=sizeLine:=by
  have e1:=Ju z y 0 z.length (z.length+1)
  rw[Ko];omega
 cases h1:(decide (z.length<y.length) || decide (Kp z<Kp y))
 ·cases hf:(Cm z y 0 z.length (z.length+1)).isEmpty
  ·refine Dn Jb (Ic _ _ _) Ik (Hm _ _) (meets_str_split_sep z y t t2 h1 hy hf (by omega) hn) ?_
   show wants _ _ _ {s with toks:=_,heap:=s.heap.push {cls:= .type "list",data:= .seq (strsFrom s.toks (Ij z (Cm z y 0 z.length (z.length+1)) y.length)).toArray}}
   rw[strsFrom_eq]
   exact fin (numbered s.toks _) _ ((numbered_texts _ _).trans ((if_neg (ne_true_of_eq_false h1)).trans (if_neg (ne_true_of_eq_false hf))).symm)
  ·exact Dn Jb (Ic _ _ _) Ik (Hm _ _) (meets_str_split_not_found z y t t2 h1 hy hf) (fin [(z,t)] s.toks ((if_neg (ne_true_of_eq_false h1)).trans (if_pos hf)).symm)
 ·exact Dn Jb (Ic _ _ _) Ik (Hm _ _) (meets_str_split_cannot_occur z y t t2 h1) (fin [(z,t)] s.toks (if_pos h1).symm)
noncomputable def VA:List eN->Option (List Str)
 |[]=>some []
 | .str x::ds=>(VA ds).map fun xs=>x::xs
 |_=>none
theorem QE{N:Addr->Prop}: ∀{xs:List V} {ds:List eN} {ss:List Str},d8 K N H xs ds->VA ds=some ss->xs=ss.map V.str
 | _,[],_,r,h => by cases h;cases r;rfl
 | _,.str x :: ds,ss,r,h => by
  have h:(VA ds).map (fun xs=>x::xs)=some ss:=h
  cases h1:VA ds with
  | none => rw [h1] at h;cases h
  |some tl=>
   rw[h1] at h
   cases h
   cases r with
   |cons r1 r2=>
    cases r1
    rw[QE r2 h1]
    rfl
theorem mapD{ss:List Str}{N:Addr->Prop}:d8 K N H (ss.map V.str) (ss.map eN.str):=by
 induction ss with
 |nil=>exact .nil
 |cons x ss ih=>exact .cons (.str _) ih
def zAS(K:Ae):V->List V->Hp->VK->Prop:=fun x xs H Q=> ∃z p ss,x= .str z/\xs=[.ref p]/\aT K H p (ss.map V.str)/\JoinOk z ss=true/\(PySem.Txt.join z ss).length<=sizeLine/\Q (.str (PySem.Txt.join z ss)) H
theorem T0: ∀{ss:List Str} {us:List Value},dG (ss.map V.str) us-> ∃l:List (Str×Tok),l.map (·.1)=ss/\us=Nl l
 |[],_,.nil=>⟨[],rfl,rfl⟩
 |x::ss,_,.cons r1 r2=>by
  obtain⟨t,rfl⟩:=r1
  obtain⟨l,h1,rfl⟩:=T0 r2
  exact⟨(x,t)::l,by rw[Ft,h1],rfl⟩
theorem FD:MtR X "str.join" (zAS X.K):=by
 intro aa s σ H x xs v us Q I rx rv h
 obtain⟨z,p,ss,rfl,rfl,hq,hj,ag,q⟩:=h
 obtain⟨t,rfl⟩:=rx
 obtain⟨u,rfl,ru⟩:=rv.one
 cases ru
 obtain⟨its,rvv,pl,hz⟩:=I.list hq
 obtain⟨l,h1,rfl⟩:=T0 rvv
 subst h1
 have hl:Builtin.Str.tooLong ((l.map (·.1)).toArray.foldl (· + ·.length+z.length) 0)=false:=by
  unfold JoinOk at hj
  simpa using hj
 refine Dn F.slot_str_join (Ic _ _ _) F.entry_str_join (F.args_str_join_2 _ _) (meets_str_join_list z t p l hl) ⟨pl.isList,?_⟩
 match l,q,ag with
 |[],q,ag=>exact⟨ag,⟨.str _,H,I.tok _,⟨_,rfl⟩,q⟩⟩
 |[q1],q,ag=>exact⟨.str _,H,I,⟨_,rfl⟩,q⟩
 |q1::q2::l,q,ag=>exact⟨ag,⟨.str _,H,I.tok _,⟨_,rfl⟩,q⟩⟩
noncomputable def X4:eN->eN->Option eN
 | .str z,.str y=>if(y.length==0)=false/\z.length+2<=16777216 then some (.lst ((PySem.Txt.split z y).map .str)) else none
 |_,_=>none
theorem ZP{ak af:Pos}(ha:PE X a (TV K ml pa ta ia fa))(hb:PE X b (TV K ml pb tb ib fb))(hK:X.K=K:=by rfl)
  (ax : Ex a "split" X.env (eval a X.env) = eval a X.env := by rfl)
  (cf : ((Cu af (starEach (b :: []) X.env)).all (fun x => !x.1) && (Gj af (Eg [] X.env)).all (fun x => x.1.isSome)
   && decide ((b :: ([] : List Expr)).length + ([] : List Gb).length + (if ([] : List Gb).isEmpty then 0 else 1) < 30)) = true := by rfl)
  (aw : (ak.endLine == af.line) = true := by rfl) (hs : starEach (b :: []) X.env = (false,eval b X.env) :: starEach [] X.env := by rfl) (ao : (Cu af (starEach [] X.env)).any (·.1) = false := by rfl) :
  PE X (.Call (.Attribute a "split" ak) [b] [] af) (TN K ml (pa && pb) (f2 X4 fa fb)):=
 (kBm (K := K) hK Ji PySem.F.slot_str_split PySem.F.type_str_split HU ha (cT hb bR hs) ax cf aw hs ao).imp fun σ H Q q0 => by
  obtain⟨B,O,δ,d,δ2,S,q,k⟩:=q0
  obtain⟨x,δ1,y,h1,h2,h3⟩:=YO q
  refine⟨B,O,δ,x,δ1,S,h1,fun v1 H1 R1=> ?_⟩
  cases x with
  |str z=>
   cases y with
   |str w=>
    have h3:(if(w.length==0)=false/\z.length+2<=16777216 then some (eN.lst ((PySem.Txt.split z w).map .str)) else none)=some d:=h3
    split at h3
    ·rename_i hc
     cases h3
     have r1:=R1.rep
     cases r1
     refine⟨rfl,B,O,δ1,_,δ2,R1.sta,h2,fun v2 H2 R2=> ?_⟩
     have r2:=R2.rep
     cases r2
     exact⟨z,w,rfl,rfl,hc.1,hc.2,fun p hp=>k p _ (mkN R2.sta (R1.frm.trans R2.frm) (fun z=>by
      obtain⟨z1,z2⟩:=(Ac _ _).mp z
      exact(R1.pur z1).trans (R2.pur z2)) hp mapD)⟩
    ·cases h3
   |_=>cases h3
  |_=>cases h3
noncomputable def HZ:eN->eN->Option eN
 | .str z,.lst ds=>(VA ds).bind fun ss=>if JoinOk z ss=true/\(PySem.Txt.join z ss).length<=16777216 then some (.str (PySem.Txt.join z ss)) else none
 |_,_=>none
theorem NN{ak af:Pos}(ha:PE X a (TV K ml pa ta ia fa))(hb:PE X b (TV K ml pb tb ib fb))(hK:X.K=K:=by rfl)
  (ax : Ex a "join" X.env (eval a X.env) = eval a X.env := by rfl)
  (cf : ((Cu af (starEach (b :: []) X.env)).all (fun x => !x.1) && (Gj af (Eg [] X.env)).all (fun x => x.1.isSome)
   && decide ((b :: ([] : List Expr)).length + ([] : List Gb).length + (if ([] : List Gb).isEmpty then 0 else 1) < 30)) = true := by rfl)
  (aw : (ak.endLine == af.line) = true := by rfl) (hs : starEach (b :: []) X.env = (false,eval b X.env) :: starEach [] X.env := by rfl) (ao : (Cu af (starEach [] X.env)).any (·.1) = false := by rfl) :
  PE X (.Call (.Attribute a "join" ak) [b] [] af) (TV K ml (pa && pb) true true (f2 HZ fa fb)):=by
 subst hK
 refine(kBm (K:=X.K) rfl Ji PySem.F.slot_str_join PySem.F.type_str_join FD ha (cT hb bR hs) ax cf aw hs ao).imp fun σ H Q ⟨B,O,δ,d,δ2,S,q,k⟩=> ?_
 obtain⟨x,δ1,y,h1,h2,h3⟩:=YO q
 refine⟨B,O,δ,x,δ1,S,h1,fun v1 H1 R1=> ?_⟩
 cases x with
 |str z=>
  cases y with
  |lst ds=>
   have h3:((VA ds).bind fun ss=>if JoinOk z ss=true/\(PySem.Txt.join z ss).length<=16777216 then some (eN.str (PySem.Txt.join z ss)) else none)=some d:=h3
   cases h4:VA ds with
   | none => rw [h4] at h3;cases h3
   |some ss=>
    rw[h4,Ak] at h3
    split at h3
    ·rename_i hc
     cases h3
     have r1:=R1.rep
     cases r1
     refine⟨rfl,B,O,δ1,_,δ2,R1.sta,h2,fun v2 H2 R2=> ?_⟩
     obtain⟨l,xs,rfl,sq,r⟩:=R2.rep.lstE
     have e:=QE r h4
     subst e
     exact⟨z,l,ss,rfl,rfl,sq,hc.1,hc.2,k _ H2 ⟨R2.sta,R1.frm.trans R2.frm,fun z=>by
      obtain⟨z1,z2⟩:=(Ac _ _).mp z
      exact(R1.pur z1).trans (R2.pur z2),.str _⟩⟩
    ·cases h3
  |_=>cases h3
 |_=>cases h3
end
noncomputable def Its(x:Str):It:=⟨fun i _=>i<x.cps.size,fun i H v H'=>H'=H/\ ∃c,x.cps[i]? =some c/\v= .str ⟨#[c]⟩,fun i _=>x.cps.size<=i⟩
theorem JX{P:Ar}{w:World}{K:Ae}{tg:Expr}(it:Addr)(x:Str)(t:Tok):O5 P w K tg (Its x) [it] it (fun i h=>h.IsStrIter it "str_ascii_iterator" x t i) where
 mem:=by simp
 obj:=fun i h st b hb=>by
  have e:b=it:=by simpa using hb
  subst e
  obtain⟨o,e,c,d⟩:=st
  exact⟨o,e,fun v z=>by rw[d] at z;cases z⟩
 keep:=fun i h h' st k=>let ⟨o,ho,r⟩:=st;⟨o,k it (by simp) o ho,r⟩
 item:=by
  intro X hP hw hK hc i aa s σ H E I hf st hg
  subst hP hw hK
  obtain⟨f0,f1,f2,f3,f4,f5⟩:=hf it (by simp)
  have hi:i<x.cps.size:=hg
  refine wpAny_pyNext_ascii_item st (c:=x.cps[i]) (by simp[hi]) fun h' st' sb=> ?_
  have I1:eF X aa σ H {s with heap:=h',toks:=s.toks+1}:=I.turned (fun b o hb e=>(sb.2 b hb).trans e) f0 f1 f3 f4 f5
  obtain⟨o,e,c,d⟩:=id st'
  exact⟨_,rfl,MZ (s:={s with heap:=h',toks:=s.toks+1}) e c d (by decide) ⟨.str ⟨#[x.cps[i]]⟩,H,I1,⟨_,rfl⟩,⟨rfl,_,by simp[hi],rfl⟩,st',fun b hb=>(hf b hb).1⟩⟩
 done:=by
  intro X hP hw hK hc i aa s σ H E I hf st hg
  subst hP hw hK
  obtain⟨f0,f1,f2,f3,f4,f5⟩:=hf it (by simp)
  have hi:x.cps.size<=i:=hg
  exact wpAny_pyNext_ascii_end (I.ok.hd hc) st (by simp[hi]) fun h' eb=>⟨rfl,I.turned (t':=s.toks) (fun b o hb e=>eb b o hb e) f0 f1 f3 f4 f5⟩
 self:=fun _ _ _ _ _ st h=>wpAny_pyIter_striter_ascii st h
section
variable{X:Cx}{K:Ae}{ml:List Nat}{e a b c l:Expr}{es:List Expr}{pa ta ia pb tb ib pc tc ic pu bt bi ps bs:Bool}{fa fb fc f:VF}{B B':Bs}{O:Nat->Option Addr}{H H1 H':Hp}{σ:St}{δ δ':Ev}{v:V}{d:eN}{p:Addr}{pos:Pos}{tg:Expr}
def iTxt(tl:TE):TI:=fun σ H R=>tl σ H fun x H1=> ∃z,x= .str z/\z.cps.all (· <128)=true/\R (Its z) H1
theorem CD{tl:TE}(hl:PE X l tl):PI X tg l (iTxt tl):=by
 intro aa s σ H R I h
 refine bS (hl aa s σ H _ I h) fun v s1 ⟨x,H1,I1,r1,q1⟩=> ?_
 obtain⟨z,e,ha,q⟩:=q1
 subst e
 obtain⟨t,rfl⟩:=r1
 refine wpAny_pyIter_ascii ha ?_
 refine⟨s1.heap.objs.size,[s1.heap.objs.size],_,_,H1,rfl,I1.kept (t':=s1.toks) fun b o e=>Ad _ e,JX _ z t,⟨_,Ap _ rfl,rfl,rfl⟩,fun b hb=> ?_,q⟩
 have e:b=s1.heap.objs.size:=by simpa using hb
 subst e
 exact I1.fpOk (An _) (I1.hok.fresh (An _))
noncomputable def L8(z:Str):List eN:=z.cps.toList.map fun c=> .str ⟨#[c]⟩
noncomputable def A2(f:VF):VI:=fun δ=>(f δ).bind fun p=>match p.1 with
 | .str z=>if z.cps.all (· <128)=true then some (L8 z,p.2) else none
 |_=>none
theorem KB{z:Str}:G5 K (Its z) [] (L8 z):=by
 intro N H _
 refine⟨fun i d e=> ?_,by show z.cps.size<=(L8 z).length;simp[L8]⟩
 unfold L8 at e
 rw[Cj] at e
 cases h1:z.cps.toList[i]? with
 |none=>rw[h1] at e;cases e
 |some c=>
  rw[h1] at e
  cases e
  have h2:z.cps[i]? =some c:=by simpa using h1
  have h3:i<z.cps.size:=(Array.getElem?_eq_some_iff.mp h2).1
  refine⟨h3,fun y H' hy=> ?_⟩
  obtain⟨rfl,c',e1,rfl⟩:=hy
  rw[h2] at e1
  cases e1
  exact⟨cM.refl _,.str _⟩
theorem DG(h:PE X e (TV K ml pu ta ia f)):PI X tg e (KI K ml pu (A2 f)):=(CD h).imp fun σ H R q0=>by
 obtain⟨B,O,δ,ds,δ',S,q,k⟩:=q0
 unfold A2 at q
 cases h1:f δ with
 | none => rw [h1] at q;cases q
 |some p=>
  obtain⟨x,δ1⟩:=p
  rw[h1] at q
  cases x with
  |str z=>
   have q:(if z.cps.all (· <128)=true then some (L8 z,δ1) else none)=some (ds,δ'):=q
   split at q
   ·rename_i hz
    cases q
    refine⟨B,O,δ,_,_,S,h1,fun v H1 R1=>⟨z,?_,hz,k _ [] H1 (R1.sta.keepV fun _ z=>nomatch z) R1.frm R1.pur KB⟩⟩
    have r:=R1.rep
    cases r
    rfl
   ·cases q
  |_=>cases q
noncomputable def oLtA:eN->eN->Option eN
 | .int i,.int j=>some (.bl (decide (i<j)))
 | .tup ds,.tup es=>(ZK ds).bind fun ns=>(ZK es).map fun ms=> .bl (HT.aU ns ms)
 |_,_=>none
def rLtA(K:Ae):R2:=fun x y H Q=>NH (fun i j=> .bl (decide (i<j))) x y H Q∨rLtT K x y H Q
theorem kLtA(h:X.K=K)(hu:X.A.units+64<cLine):aS X (Bv .Lt) (rLtA K):=by
 subst h
 intro aa s σ H x y v u Q I rx ry h
 rcases h with h|h
 ·exact DZ aa s σ H x y v u Q I rx ry h
 ·exact B2 (by omega) aa s σ H x y v u Q I rx ry h
theorem zAM:V6 K (rLtA K) oLtA:=by
 intro H N N' M M' x y d e c Q hx hy h k
 cases d with
 |int i=>
  cases e with
  | int j => exact .inl (s_lt H N N' M M' x y (.int i) (.int j) c Q hx hy h k)
  | _ => cases h
 |tup ds=>
  cases e with
  |tup es=>
   have h:((ZK ds).bind fun ns=>(ZK es).map fun ms=>eN.bl (HT.aU ns ms))=some c:=h
   cases h1:ZK ds with
   | none => rw [h1] at h;cases h
   |some ns=>
    rw[h1,Ak] at h
    cases h2:ZK es with
    |none=>rw[h2] at h;cases h
    |some ms=>
     rw[h2] at h
     cases h
     obtain⟨a,xs,rfl,sq,r⟩:=hx.tupE
     obtain⟨b,ys,rfl,sq2,r2⟩:=hy.tupE
     have e1:=XB r h1
     have e2:=XB r2 h2
     subst e1 e2
     exact .inr ⟨a,b,ns,ms,rfl,rfl,sq,sq2,k _ fun _ _ _=> .bl _⟩
  |_=>cases h
 |_=>cases h
end
section
variable{X:Cx}{K:Ae}{ml:List Nat}{e a b c l:Expr}{es:List Expr}{pa ta ia pb tb ib pc tc ic pu bt bi ps bs:Bool}{fa fb fc f:VF}{B B':Bs}{O:Nat->Option Addr}{H H1 H':Hp}{σ:St}{δ δ':Ev}{v:V}{d:eN}{p:Addr}{pos:Pos}{tg:Expr}
def zAR(K:Ae):RC:=fun xs H Q=> ∃(p:Addr) (ns:List Int),xs=[.ref p]/\aT K H p (ns.map V.int)/\ns.length+1<4096/\ ∀l,H l=none->Q (.ref l) (cL H l (.set (fun k=>(Lc (fun i=>ns.getD i 0) ns.length).any (· ==k)) (Lc (fun i=>ns.getD i 0) ns.length).length))
theorem K6(hc:X.calm=true):cI X (.type "set") (zAR X.K):=by
 intro aa s σ H xs us Q I r h
 obtain⟨p,ns,rfl,hq,hn,q⟩:=h
 obtain⟨u,rfl,rx⟩:=XQ r
 cases rx
 obtain⟨its,rv,pl,hz⟩:=I.list hq
 have hi:PyProof.Rows.IntsAre its.toArray.toList ns:=X0 rv
 have hl:its.length=ns.length:=by rw[<- rv.length];simp
 refine PySem.call_set_list (I.ok.hd hc) pl.isList hi (by simp[hl];exact hn) fun h' tk hS kp=> ?_
 simp only[Aj,hl] at hS
 exact⟨.ref s.heap.objs.size,_,I.laid (t':=tk) (fun b o e=>kp b o (Ag e) e) (An _) (show cE X.prog X.w _ h' _ (.set (fun k=>(Lc (fun i=>ns.getD i 0) ns.length).any (· ==k)) (Lc (fun i=>ns.getD i 0) ns.length).length) from hS),rfl,q _ (I.hok.fresh (An _))⟩
theorem K4:cI X (.builtin "len") (fun xs H Q=> ∃p S n,xs=[.ref p]/\H p=some (.set S n)/\Q (.int (n:Nat)) H):=by
 intro aa s σ H xs us Q I r h
 obtain⟨p,S,n,rfl,hq,q⟩:=h
 obtain⟨u,rfl,rx⟩:=XQ r
 cases rx
 obtain⟨o,es,ep,t,e1,e2,e3,e4,e5,e6,e7,rfl⟩:=I.hok p _ hq
 refine PySem.call_len_set e1 e2 e3 e7 ?_ ⟨.int es.size,H,I.tok _,⟨_,rfl⟩,q⟩
 have:es.size<4096:=e6
 omega
noncomputable def M9:eN->Option eN
 | .lst ds=>(ZK ds).bind fun ns=>if ns.length+1<4096 then some (.int (Lc (fun i=>ns.getD i 0) ns.length).length) else none
 |_=>none
theorem GK{p' p'' db:Pos}(hm:X.mg "len"=none) (hm2:X.mg "set"=none) (ha:PE X a (TV K ml pa ta true fa)) (hc:X.calm=true:=by rfl) (hK:X.K=K:=by rfl) (hg:Gl X "len":=by rfl) (hg2:Gl X "set":=by rfl)
  (he : starEach (a :: []) X.env = (false,eval a X.env) :: starEach [] X.env := by rfl) (he2 : starEach (Expr.Call (.Name "set" p'') [a] [] db :: []) X.env = (false,eval (Expr.Call (.Name "set" p'') [a] [] db) X.env) :: starEach [] X.env := by rfl) :
  PE X (.Call (.Name "len" p') [.Call (.Name "set" p'') [a] [] db] [] pos) (TV K ml pa true true (f1 M9 fa)):=by
 subst hK
 refine(U4 K4 hg hm G8 (cT (WS (K6 hc) hg2 hm2 (by decide+kernel) (cT ha bR he) (by decide) (by decide) he) bR he2) (by decide) (by decide) he2).imp fun σ H Q h=> ?_
 obtain⟨B,O,δ,d,δ',S,q,k⟩:=h
 obtain⟨x,h1,h2⟩:=Q8 q
 refine⟨B,O,δ,x,δ',S,h1,fun v1 H1 R1=> ?_⟩
 cases x with
 |lst ds=>
  have h2:((ZK ds).bind fun ns=>if ns.length+1<4096 then some (eN.int (Lc (fun i=>ns.getD i 0) ns.length).length) else none)=some d:=h2
  cases h3:ZK ds with
  | none => rw [h3] at h2;cases h2
  |some ns=>
   rw[h3,Ak] at h2
   split at h2
   ·rename_i hn
    cases h2
    obtain⟨a,xs,rfl,sq,r⟩:=R1.rep.lstE
    have e1:=XB r h3
    subst e1
    refine⟨a,ns,rfl,sq,hn,fun l hl=>⟨l,_,_,rfl,dZ,k _ _ ⟨R1.sta.same (eL hl),R1.frm.trans (eL hl).fr,fun z=>(R1.pur z).trans (eL hl),.int _⟩⟩⟩
   ·cases h2
 |_=>cases h2
end
end L2
namespace L2
open PySem PySem.Spec PyProof.Rows PySem.W
section
variable{prog:Ar}{w:World}{A:Bo}{E:Value->Ab->Prop}{s:Ab}
theorem QD{t:Addr}{ae:Array Value}{Q:List Value->Ab->Prop}(hh:A.handled=none)(ht:s.heap.IsList t ae)(h1:1<=ae.size)(hz:ae.size<=16777216)
  (hQ: ∀(x:Value) (hb:Heap) (tk:Nat),ae[0]? =some x->(∀b o,s.heap.get? b=some o->hb.get? b=some o)->Q [x,.ref hb.objs.size] {s with heap:=hb.push {cls:= .type "list",data:= .seq (ae.toList.drop 1).toArray},toks:=tk}):
  wpAny (model prog w) A (Gw (.ref t) 2 (some 1)) Q E s:=by
 have hne:t≠s.heap.objs.size:=by obtain⟨o,e,_⟩:=ht;exact Au (Ag e)
 (unfold Gw)
 refine Aa ?_
 (unfold Iz)
 refine Aa (Jr ht.typeIs slot_list_iter.lookup (Af ?_))
 simp only[Fv,if_false]
 refine Aa (Bk (Dz ht (Aa (Bk (kun_draw hne 1 0 _ _ ⟨_,Ap _ rfl,rfl,rfl⟩ (ht.push _) (by omega) fun ha ia ba=> ?_)))))
 have ta:ha.IsList t ae:=(ht.push _).extBut ba.extBut hne
 have ia:ha.IsListIter s.heap.objs.size t 1:=ia
 obtain⟨oi,gi,_⟩:=id ia
 obtain⟨ot,gt,_⟩:=id ta
 have hsz:ha.objs.size=s.heap.objs.size+1:=by rw[ba.1,Bx]
 have ii:((ae.toList.drop 0).take 1).length=1:=by simp;omega
 rw[if_neg (show¬((ae.toList.drop 0).take 1).length<1 by rw[ii];exact Bq _)]
 refine Aa (Bk (kun_collect (s:={s with heap:=ha}) (T:= "list_iterator") (.inr (.inr (.inl rfl))) (Nz (A:=A.in1) hh s.heap.objs.size t hne ae) (fun j u st=>st.1.typeIs) (k:=1) h1 ⟨ia,ta⟩ (Ag gi) (Ag gt) (fun hb tk kb=> ?_) (by rw[Bg];exact hz)))
 have l0:(ae.toList.drop 1).length=ae.size - 1:=by simp
 show wpAny _ _ (if(ae.toList.drop 1).length<2 - 1 - 1 then _ else _) _ _ _
 rw[if_neg (Jt _)]
 show wpAny _ _ (newList ((ae.toList.drop 1).take ((ae.toList.drop 1).length - (2 - 1 - 1)))>>=fun d=>pure ((ae.toList.drop 0).take 1++[d]++(ae.toList.drop 1).drop ((ae.toList.drop 1).length - (2 - 1 - 1)))) _ _ _
 have e1:(ae.toList.drop 1).take ((ae.toList.drop 1).length - (2 - 1 - 1))=ae.toList.drop 1:=Dl (An _)
 have e2:(ae.toList.drop 1).drop ((ae.toList.drop 1).length - (2 - 1 - 1))=[]:=Ei
 rw[e1,e2]
 refine Aa (Cf (Af ?_) (by show _<=sizeLine;rw[Bg];simp;omega))
 obtain⟨x,hx⟩: ∃x,ae[0]? =some x:=⟨ae[0],by simp[show 0<ae.size by omega]⟩
 have e3:(ae.toList.drop 0).take 1=[x]:=by
  rw[Kg]
  have:ae.toList[0]? =some x:=by simpa using hx
  cases hl:ae.toList with
  |nil=>rw[hl] at this;cases this
  |cons y r=>rw[hl] at this;cases this;rfl
 rw[e3]
 have keep: ∀b o,s.heap.get? b=some o->hb.get? b=some o:=fun b o e=>kb b o (Au (Ag e)) (ba.extBut b o (Au (Ag e)) (Ad _ e))
 exact hQ x hb tk hx keep
end
section
variable{X:Cx}{K:Ae}{ml:List Nat}{e a b c:Expr}{es:List Expr}{pa ta ia pb tb ib pc tc ic pu bt bi ps bs:Bool}{fa fb fc f:VF}{B B':Bs}{O:Nat->Option Addr}{H H0 H1 H':Hp}{σ:St}{δ δ':Ev}{v:V}{d:eN}{p:Addr}{pos:Pos}
def AS(K:Ae)(i j:Nat):TG:=fun v σ H Q=> ∃a x xs,v= .ref a/\aT K H a (x::xs)/\ ∀p,H p=none->Q ((σ.set i (some x)).set j (some (.ref p))) (cL H p (.lst xs))
theorem IS{i j:Nat}{x y:Str}{px py ps tp:Pos}{k:Nat}(hc:X.calm=true)(hN:X.N.Nodup)(hi:X.N[i]? =some x)(hj:X.N[j]? =some y)(hx:MM X.env.scope x)(hy:MM X.env.scope y)
  (fx:X.fn x=true∨X.env.scope.names.lookup x=some .local) (fy:X.fn y=true∨X.env.scope.names.lookup y=some .local)
  (hl:(assignEach [.Name x px,.Starred (.Name y py) ps] X.env).map (·.2)=[Fe (.Name x px) X.env,Fe (.Name y py) X.env]) (hn:(assignEach [.Name x px,.Starred (.Name y py) ps] X.env).length=2) (hst:(assignEach [.Name x px,.Starred (.Name y py) ps] X.env).findIdx? (·.1)=some 1):
  PG X (.Tuple [.Name x px,.Starred (.Name y py) ps] k tp) (AS X.K i j):=by
 intro aa s σ H v u Q I r hw
 obtain⟨a,z,zs,e1,hq,q⟩:=hw
 subst e1
 cases r
 obtain⟨its,rv,ht,hz⟩:=I.list hq
 rw[Lz]
 refine Aa (Ds ?_)
 (unfold unpack)
 rw[hn,hst]
 have ag:=rv.length
 rw[Cr] at ag
 have hz':its.length<=16777216:=by rw[<- Bg,<- ag];exact hz
 refine Aa (Bk (QD (I.ok.hd hc) ht.isList (by rw[Aj];omega) (by rw[Aj];exact hz') fun u hb tk hu kp=> ?_))
 rw[hl]
 cases rv with
 | @cons _ w _ ws rz rzs=>
  have hu:some w=some u:=by simpa using hu
  cases hu
  have I1:eF X aa σ H {s with heap:=hb,toks:=tk}:=I.kept kp
  have I2:=eF.lnew (s:={s with heap:=hb,toks:=tk}) (t':=tk) I1 rzs (by rw[Bg];simp only[Cr] at hz' ag;have:=rzs.length;omega)
  refine Ek (Ew (aJ I2 hN hi hx rz (fun s3 I3=> ?_) fx))
  refine Ek (Ew (aJ I3 hN hj hy (v:= .ref hb.objs.size) rfl (fun s4 I4=>Hx ⟨_,_,I4,q _ (I1.hok.fresh (An _))⟩) fy))
noncomputable def U8(i j:Nat)(f:VF):VS:=fun δ=>(f δ).bind fun p=>match p.1 with
 | .lst (d::ds)=>some (.nx ((p.2.set i (.va d)).set j (.va (.lst ds))))
 |_=>none
theorem VM{i j:Nat}{x y:Str}{px py sp tp:Pos}{k:Nat}(hK:X.K=K)(hc:X.calm=true)(hN:X.N.Nodup)(hi:X.N[i]? =some x)(hj:X.N[j]? =some y)(hij:i≠j)(hx:MM X.env.scope x)(hy:MM X.env.scope y)(he:PE X e (TV K ml pu true true f))
  (hmi : i ∉ ml := by decide) (hmj : j ∉ ml := by decide)
  (fx : X.fn x = true ∨ X.env.scope.names.lookup x = some .local := by first | exact .inl rfl | exact .inr rfl | assumption) (fy : X.fn y = true ∨ X.env.scope.names.lookup y = some .local := by first | exact .inl rfl | exact .inr rfl | assumption)
  (hl : (assignEach [.Name x px,.Starred (.Name y py) sp] X.env).map (·.2) = [Fe (.Name x px) X.env,Fe (.Name y py) X.env] := by rfl) (hn : (assignEach [.Name x px,.Starred (.Name y py) sp] X.env).length = 2 := by rfl) (hst : (assignEach [.Name x px,.Starred (.Name y py) sp] X.env).findIdx? (·.1) = some 1 := by rfl)
  (hs : Im [.Tuple [.Name x px,.Starred (.Name y py) sp] k tp] e pos.line X.env = pure false := by rfl) (hw : Io [.Tuple [.Name x px,.Starred (.Name y py) sp] k tp] e X.env = pure none := by rfl)
  (h1 : (assignEach [.Tuple [.Name x px,.Starred (.Name y py) sp] k tp] X.env).map (·.2) = [Fe (.Tuple [.Name x px,.Starred (.Name y py) sp] k tp) X.env] := by rfl) :
  PS X (.Assign [.Tuple [.Name x px,.Starred (.Name y py) sp] k tp] e pos) (W2 K ml (U8 i j f)):=by
 subst hK
 refine(OL he (IS hc hN hi hj hx hy fx fy hl hn hst) hs hw h1).imp fun D σ H ⟨B,O,δ,o,S,q,k⟩=> ?_
 unfold U8 at q
 cases h1:f δ with
 | none => rw [h1] at q;cases q
 |some p1=>
  obtain⟨z,δ1⟩:=p1
  rw[h1] at q
  refine⟨B,O,δ,z,δ1,S,h1,fun v H1 R=> ?_⟩
  cases z with
  |lst ds=>
   cases ds with
   | nil => cases q
   |cons d ds=>
    cases q
    obtain⟨a,xs,rfl,sq,r⟩:=R.rep.lstE
    cases r with
    | @cons v0 vs _ _ r1 r2=>
     refine⟨a,v0,vs,rfl,sq,fun p hp=> ?_⟩
     have S1:=(R.sta.same (eL (o:= .lst vs) hp)).setVa hmi (r1.same (eL (o:= .lst vs) hp))
     have N1: ∀c,Nn B (fun j=>if j=i then none else O j) c->Nn B O c:=XD (o:=none)
     refine k _ _ _ (S1.setVa hmj (.lst dZ (fun z=>R.sta.new hp (N1 _ z)) ((r2.same (eL hp)).mono N1)))
  |_=>cases q
theorem QJ{x:Str}{T:String}{r:RC}{p':Pos}{o:eN->Option eN}(hc:cI X (.type T) r)(ho:QR K r o)(hg:Gl X x)(hm:X.mg x=none)(hv:Bj x=some (.type T))(ha:PE X a (TV K ml pa ta ia fa))(hn:x≠ "__name__":=by decide) (hdb:(x==("__debug__":Str))=false:=by decide)
  (he:starEach (a::[]) X.env=(false,eval a X.env)::starEach [] X.env:=by rfl):PE X (.Call (.Name x p') [a] [] pos) (TV K ml pa true true (f1 o fa)):=
 (WS hc hg hm hv (cT ha bR he) hn hdb he).imp fun _ _ _ h=>TW ho h
end
end L2
namespace L2
open PySem PySem.Spec PyProof.Rows
theorem cE.alive{P:Ar}{w:World}{H:Hp}{h:Heap}{a:Addr}{o:HO}(x:cE P w H h a o): ∃u,h.get? a=some u:=by
 cases o with
 |lst xs=>obtain⟨_,_,_,_,e⟩:=x;exact⟨_,e⟩
 |tup xs=>obtain⟨_,_,_,ob,e,_⟩:=x;exact⟨_,e⟩
 |dK kvs=>obtain⟨_,_,_,_,o,_,_,e,_⟩:=x;exact⟨_,e⟩
 |dT kvs=>obtain⟨_,_,_,_,o,_,_,e,_⟩:=x;exact⟨_,e⟩
 |set S n=>obtain⟨o,_,_,_,e,_⟩:=x;exact⟨_,e⟩
 |ins C dx fs=>obtain⟨_,_,_,e,_⟩:=x;exact⟨_,e⟩
 |own y=>exact x
 |xd fs=>obtain⟨_,⟨_,_,_,e,_⟩,_⟩:=x;exact⟨_,e⟩
 |rng lo hi=>obtain⟨_,_,_,e⟩:=x;exact⟨_,e⟩
 |frz ob u=>obtain⟨e,_⟩:=x;exact⟨_,e⟩
 |tbl ps=>exact⟨_,(show h.get? a=some _ from x)⟩
 |met f y=>exact⟨_,(show h.get? a=some _ from x)⟩
 |ext φ=>exact x.2.1
structure XA(K:Ae)(C:Addr):Prop where
 mro:W.mroIn K C (.type "object")=some true
 cls:Mn K (.ref C) "__class__"=some (some (.builtin "object.__class__"))
 get:W.specialIn K (.builtin "object.__class__") "__get__"=some (some (.builtin "getset_descriptor.__get__"))
 tak:W.takesIn K (.builtin "object.__class__")=some true
 ga:Mn K (.ref C) "__getattribute__"=some (some (.builtin "BaseException.__getattribute__"))
 no:Mn K (.ref C) "__getattr__"=some none
 sub:W.subIn K (.ref C) (.type "BaseException")=some true
structure XP(K:Ae)(C Cp:Addr):Prop where
 at_:Ep K mainGlobals "PackError"=some (some (.ref Cp))
 ty:W.typeIn K (.ref Cp)=some (.type "type")
 cls:(Pa K Cp).isSome=true
 base:W.subIn K (.ref Cp) (.type "BaseException")=some true
 sub:W.subIn K (.ref C) (.ref Cp)=some true
noncomputable abbrev vbs:List Value:=[.type "ValueError",.type "Exception",.type "BaseException",.type "object"]
structure XC(K:Ae)(x:Str)(C:Addr):Prop where
 at_:Ep K mainGlobals x=some (some (.ref C))
 exc:W.excIn K C vbs "ValueError.__new__"=true
 att:XA K C
 cls:(Pa K C).isSome=true
 pk: ∃Cp,XP K C Cp
def ExcF(l:List Env)(g:Heap)(H:Hp)(C:Addr)(e:Value)(h:Heap):Prop:=
 ∃a a0 B,e= .ref a/\Jv B l a (.ref C) a0 h/\(∀b o,g.get? b=some o->b∉X8 l-> ∃o',h.get? b=some o'/\B.get? b=some o')/\ ∀b u,H b=some u-> ∃o,h.get? b=some o/\B.get? b=some o
def NQ(P:Ar)(w:World):KO:=fun outer H s E e s'=> ∃C H1,s'.os=s.os/\Il s'.gens/\Un (X8 outer) [] H H1 s.heap s'.heap/\XU P w H1 s'.heap/\ExcF outer s.heap H1 C e s'.heap/\E (.ref C) none H1
theorem M0{P:Ar}{w:World}{H:Hp}{h h' B:Heap}(ok:XU P w H h)(st:B.StaysIn h')(c2: ∀b u,H b=some u-> ∃o,h.get? b=some o/\B.get? b=some o):XU P w H h':=fun b u e=>
 (ok b u e).stay (fun c v hc q => by
  have: ∃u,H c=some u:=by
   rcases hc with rfl|hc
   ·exact⟨u,e⟩
   ·exact⟨_,hc⟩
  obtain⟨u',e'⟩:=this
  obtain⟨o,e1,e2⟩:=c2 c u' e'
  rw[q] at e1
  cases e1
  exact st c v e2) (fun _ q=>q) fun _ _ q=>q
section
variable{X:Cx}{aa:List (Addr×Obj)}{σ:St}{H H1:Hp}{s s':Ab}{g h' B:Heap}{C a:Addr}{a0:Value}
theorem eF.fly(I:eF X aa σ H s)(st:B.StaysIn h')(up:s.heap.UpToSlots h')(c1: ∀b o,X.s₀.heap.get? b=some o->b∉X8 X.stack-> ∃o',s.heap.get? b=some o'/\B.get? b=some o')
  (cp: ∀p∈X.pn++aa,B.get? p.1=some p.2) (c2: ∀b u,H b=some u-> ∃o,s.heap.get? b=some o/\B.get? b=some o):eF X aa σ H {s with heap:=h'}:=by
 have neL: ∀b o,X.s₀.heap.get? b=some o->b≠X.env.locals:=fun b o e=>Au (Al (Ag e) I.ok.above)
 have out: ∀b o,X.s₀.heap.get? b=some o->b∉X.fs->b∉X8 X.stack:=fun b o e hb z=>(Ba.mp (I.stkSub b z)).elim (neL b o e) hb
 have di: ∀b∈X.fs,∀o,s.heap.get? b=some o-> ∃sl,h'.get? b=some {o with slots:=sl}:=fun b hb o e=>by
  obtain⟨_,o',e',nf⟩:=I.funs.mem hb
  rw[e] at e'
  cases e'
  exact up b o e nf
 have ef: ∀x c,X.env.cells.lookup x=some c-> ∀v,s.heap.IsCell c v->h'.IsCell c v:=fun x c _ v q0=>by
  obtain⟨o,ho,hd⟩:=q0
  obtain⟨sl,e⟩:=up c o ho fun vs q=>by rw[hd] at q;cases q
  exact⟨_,e,hd⟩
 refine⟨I.ok,I.os,I.bare,⟨fun b o e n hb hx=> ?_,fun b o e n hb hx=> ?_,I.base.free,fun b o e hx=> ?_,I.base.tups,I.base.frzs,I.base.tbls⟩,?_,fun x c e=> ?_,I.free,I.freeC,fun p hp=> ?_,M0 I.hok st c2,I.len⟩
 ·obtain⟨o',e1,e2⟩:=c1 b o e (out b o e hb)
  rw[I.base.keep b o e n hb hx] at e1
  cases e1
  exact st b o e2
 ·obtain⟨sl,e1⟩:=I.base.slot b o e n hb hx
  obtain⟨sl',e2⟩:=di b hb _ e1
  exact⟨sl',e2⟩
 ·by_cases hb:b∈X.fs
  ·obtain⟨o',e1⟩:=I.base.there b o e hx
   obtain⟨sl',e2⟩:=di b hb _ e1
   exact⟨_,e2⟩
  ·obtain⟨o',e1,e2⟩:=c1 b o e (out b o e hb)
   exact⟨o',st b o' e2⟩
 ·obtain⟨m,hn,hl⟩:=I.loc
  refine⟨m,up.ns hn,fun i x v e1 e2 e3=> ?_⟩
  obtain⟨u,r,l⟩:=hl i x v e1 e2 e3
  refine⟨u,r,?_⟩
  rcases l with l|⟨k,c,e,z⟩
  ·exact .inl l
  ·exact .inr ⟨k,c,e,ef x c e _ z⟩
 ·obtain⟨v,z⟩:=I.cell x c e
  exact⟨v,ef x c e v z⟩
 ·obtain⟨e,n,ne,nf,d⟩:=I.pin p hp
  exact⟨st _ _ (cp p hp),n,ne,nf,d⟩
structure Low(X:Cx)(aa:List (Addr×Obj))(g:Heap):Prop where
 s0: ∀b o,X.s₀.heap.get? b=some o->b∉X8 X.stack-> ∃o',g.get? b=some o'
 pin: ∀p∈X.pn++aa,∃o,g.get? p.1=some o
theorem eF.low(I:eF X aa σ H s)(hx:X.ex=[]):Low X aa s.heap:=
 ⟨fun b o e _=>I.base.there b o e (by rw[hx];simp),fun p hp=>⟨_,(I.pin p hp).1⟩⟩
theorem eF.flyG(I:eF X aa σ H s)(lo:Low X aa g)(st:B.StaysIn h')(up:s.heap.UpToSlots h')(c1: ∀b o,g.get? b=some o->b∉X8 X.stack-> ∃o',s.heap.get? b=some o'/\B.get? b=some o')
  (c2: ∀b u,H b=some u-> ∃o,s.heap.get? b=some o/\B.get? b=some o):eF X aa σ H {s with heap:=h'}:=by
 refine I.fly st up (fun b o e hb=> ?_) (fun p hp=> ?_) c2
 ·obtain⟨o',e'⟩:=lo.s0 b o e hb
  exact c1 b o' e' hb
 ·obtain⟨o,e⟩:=lo.pin p hp
  obtain⟨e1,_,ne,nf,_⟩:=I.pin p hp
  obtain⟨o',e2,e3⟩:=c1 p.1 o e fun z=>(Ba.mp (I.stkSub _ z)).elim ne nf
  rw[e1] at e2
  cases e2
  exact e3
def RzF(X:Cx)(R:Str->St->Hp->Prop):Prop:= ∀(aa:List (Addr×Obj)) (x:Str) (C:Addr) (σ:St) (H1:Hp) (e:Value) (s':Ab) (g:Heap),XC X.K x C->eF X aa σ H1 s'->ExcF X.stack g H1 C e s'.heap->Low X aa g->R x σ H1->X.xe e s'
def RzM(X:Cx)(R:Str->St->Hp->Prop):Prop:= ∀(aa:List (Addr×Obj)) (x:Str) (C a:Addr) (args:List Value) (σ:St) (H1:Hp) (h:Heap) (s':Ab),XC X.K x C->eF X aa σ H1 {s' with heap:=h}->Heap.MadeExcOf h s'.heap a (.ref C) args->R x σ H1->X.xe (.ref a) s'
end
section
variable{P:Ar}{w:World}{K:Ae}{mg:Str->Option Value}{base:Heap}{N:List Str}{qual:Str}{scope:Scope}{f:Addr}{cd:Value}{A:Bo}{outer:List Env}{s:Ab}{H:Hp}{E:XK}
def rE(K:Ae)(E:XK):Str->St->Hp->Prop:=fun x _ H1=> ∀C,XC K x C->E (.ref C) none H1
theorem FR{aa:List (Addr×Obj)}{σ:St}{H1:Hp}{s':Ab}{g h' B:Heap}{C a:Addr}{a0:Value}{d:Drawn}{tk:Nat}(I:eF (W6 (NQ P w) P w K mg base N qual scope f cd A outer s H E) aa σ H1 s')
  (lo: ∀b o,s.heap.get? b=some o->b∉X8 (envOfC qual scope s.heap.objs.size f cd::outer)-> ∃o',g.get? b=some o') (fl:Jv B outer a (.ref C) a0 h') (up:s'.heap.UpToSlots h')
  (c1: ∀b o,g.get? b=some o->b∉X8 (envOfC qual scope s.heap.objs.size f cd::outer)-> ∃o',s'.heap.get? b=some o'/\B.get? b=some o')
  (c2: ∀b u,H1 b=some u-> ∃o,s'.heap.get? b=some o/\B.get? b=some o) (hE:E (.ref C) none H1):NQ P w outer H s E (.ref a) {s' with heap:=h',drawn:=d,toks:=tk}:=by
 have bs:Un (X8 outer) [] H H1 s.heap s'.heap:=I.base
 have stk:s'.heap.FunFrames base (envOfC qual scope s.heap.objs.size f cd::outer):=I.stack
 have got: ∀b o,s.heap.get? b=some o->b∉X8 outer-> ∃o',s'.heap.get? b=some o'/\B.get? b=some o':=fun b o q hb=>by
  have nL:b∉X8 (envOfC qual scope s.heap.objs.size f cd::outer):=fun z=>by
   rcases Ba.mp (show b∈s.heap.objs.size::X8 outer from z) with z|z
   ·have:=Ag q
    rw[z] at this
    exact absurd this (Bq _)
   ·exact hb z
  obtain⟨o',e⟩:=lo b o q nL
  exact c1 b o' e nL
 have di: ∀b∈X8 outer,∀o,s'.heap.get? b=some o-> ∃sl,h'.get? b=some {o with slots:=sl}:=fun b hb o e=>by
  obtain⟨_,o',e',nf⟩:=stk.mem (Ay _ hb:b∈s.heap.objs.size::X8 outer)
  rw[e] at e'
  cases e'
  exact up b o e nf
 refine⟨C,H1,I.os,I.bare,⟨fun b o q n hb hx=> ?_,fun b o q n hb hx=> ?_,bs.free,fun b o q hx=> ?_,bs.tups,bs.frzs,bs.tbls⟩,M0 I.hok fl.1 c2,⟨a,a0,B,rfl,fl,fun b o e hn=> ?_,fun b u e=> ?_⟩,hE⟩
 ·obtain⟨o',e1,e2⟩:=got b o q hb
  rw[bs.keep b o q n hb hx] at e1
  cases e1
  exact fl.1 b o e2
 ·obtain⟨sl,e1⟩:=bs.slot b o q n hb hx
  obtain⟨sl',e3⟩:=di b hb _ e1
  exact⟨sl',e3⟩
 ·by_cases hb:b∈X8 outer
  ·obtain⟨o',e1⟩:=bs.there b o q hx
   obtain⟨sl',e3⟩:=di b hb _ e1
   exact⟨_,e3⟩
  ·obtain⟨o',e1,e2⟩:=got b o q hb
   exact⟨o',fl.1 b o' e2⟩
 ·obtain⟨o',e1,e2⟩:=got b o e hn
  exact⟨o',fl.1 b o' e2,e2⟩
 ·obtain⟨o,e1,e2⟩:=c2 b u e
  exact⟨o,fl.1 b o e2,e2⟩
theorem ZF:RzM (W6 (NQ P w) P w K mg base N qual scope f cd A outer s H E) (rE K E):=by
 intro aa x C a args σ H1 h s' hx I M hR
 have stk:h.FunFrames base (envOfC qual scope s.heap.objs.size f cd::outer):=I.stack
 have hin: ∀env∈(envOfC qual scope s.heap.objs.size f cd::outer),∀b,env.frame=some b->b∈X8 (envOfC qual scope s.heap.objs.size f cd::outer):=fun env he b hb=>Hj.mpr ⟨env,he,hb⟩
 refine wpAny_leaves_madeW (base:=W.hideAll h (X8 (envOfC qual scope s.heap.objs.size f cd::outer))) (h:=h) (I.ok.frames.trans rfl) rfl (fun b o q=>W.of_hideAll _ q) (W.funFrames_hide stk hin) M fun h' t fl _ _ up=> ?_
 have up':h.UpToSlots h':=(Om M.keeps).trans up
 exact FR (s':={s' with heap:=h}) (g:=h) (d:=s'.drawn) (tk:=s'.toks) I (fun b o q _=>I.base.there b o q (fun z=>nomatch z)) fl up' (fun b o e hb=>⟨o,e,Kr _ e hb⟩) (fun b u e=>by
  obtain⟨o,q⟩:=(I.hok b u e).alive
  exact⟨o,q,Kr _ q fun z=>by have:=I.stkFree b z;rw[e] at this;cases this⟩) (hR C hx)
end
theorem LS{K:Ae}{h:Heap}{C:Addr}{bmB:List Value}{i5:String}(X:K.In h)(q:W.excIn K C bmB i5=true):
  ∃bm N nm q bs hdct sn sub ab col dd k0 k1 k2 k3 k5 mN,h.get? C=some (excClassObj nm q C N bs bm hdct sn sub ab col dd k0 k1 k2 k3 k5 i5)/\h.Ns N mN/\mN "__init__"=none/\OwnTail h bmB bm:=by
 unfold W.excIn at q
 split at q
 ·rename_i dd cd sl ho
  split at q
  ·rename_i C' bm k0 k1 k2 k3 n k5 hm hs
   simp only[Ac,beq_iff_eq,Bool.not_eq_true'] at q
   obtain⟨⟨⟨⟨⟨rfl,rfl⟩,kd⟩,ht⟩,hok⟩,hni⟩:=q
   obtain⟨nm,bs,mro,ns,qn,hd,sn,sub,ab,col,del⟩:=cd
   dsimp only at hm kd hok hni
   subst hm kd
   obtain⟨sl⟩:=sl
   simp only at hs
   subst hs
   exact⟨bm,ns,nm,qn,bs,hd,sn,sub,ab,col,dd,k0,k1,k2,k3,k5,_,X _ _ ho,.of_isNs (W.isNs_of_in X hok),W.nsMap_none_of_in X hok hni,W.tail_of_in X ht⟩
  ·cases q
 ·cases q
abbrev VZ:=Ev->Option (Str×Ev)
def TZ(R:Str->St->Hp->Prop)(K:Ae)(ml:List Nat)(z:VZ)(σ:St)(H:Hp):Prop:= ∃B O δ x δ',cX K ml B O H σ δ/\z δ=some (x,δ')/\ ∀σ' H' O',cX K ml B O' H' σ' δ'->R x σ' H'
abbrev ZE(R:Str->St->Hp->Prop)(K:Ae)(ml:List Nat)(z:VZ):TE:=fun σ H _=>TZ R K ml z σ H
abbrev ZS(R:Str->St->Hp->Prop)(K:Ae)(ml:List Nat)(z:VZ):TS:=fun _ σ H=>TZ R K ml z σ H
section
variable{X:Cx}{K:Ae}{ml:List Nat}{e a b c:Expr}{es:List Expr}{pa ta ia pb tb ib pc tc ic pu bt bi ps bs:Bool}{fa fb fc f:VF}{B B':Bs}{O:Nat->Option Addr}{H H1 H':Hp}{σ:St}{δ δ':Ev}{v:V}{d:eN}{pos:Pos}{st:Stmt}{rest:List Stmt}{g g':VS}{z z':VZ}{R:Str->St->Hp->Prop}
noncomputable def EJ:VZ:=fun _=>none
theorem X6{sts:List Stmt}:ZQ X sts (ZS R K ml EJ):=fun _ _ _ _ _ _ h=>by
 obtain⟨_,_,_,_,_,_,q,_⟩:=h
 cases q
noncomputable def MJ(z z':VZ):VZ:=fun δ=>match z δ with
 |some r=>some r
 |none=>z' δ
theorem DB(h:TZ R K ml (MJ z z') σ H):TZ R K ml z σ H∨TZ R K ml z' σ H:=by
 obtain⟨B,O,δ,x,δ',S,q,k⟩:=h
 unfold MJ at q
 cases h1:z δ with
 |some r=>rw[h1] at q;exact .inl ⟨B,O,δ,x,δ',S,h1.trans q,k⟩
 |none=>rw[h1] at q;exact .inr ⟨B,O,δ,x,δ',S,q,k⟩
theorem SE{sts:List Stmt}(h1:ZQ X sts (ZS R K ml z))(h2:ZQ X sts (ZS R K ml z')):ZQ X sts (ZS R K ml (MJ z z')):=fun aa s σ H D I h=>
 (DB h).elim (h1 aa s σ H D I) (h2 aa s σ H D I)
noncomputable def QO(g:VS)(z:VZ):VZ:=fun δ=>match g δ with
 |some (.nx δ')=>z δ'
 |_=>none
theorem YI(h1:PS X st (W2 K ml g))(h2:ZQ X rest (ZS R K ml z)):ZQ X (st::rest) (ZS R K ml (QO g z)):=(XG h1 h2).imp fun D σ H q0=>by
 obtain⟨B,O,δ,x,δ',S,q,k⟩:=q0
 unfold QO at q
 split at q
 ·rename_i δ1 hg
  exact⟨B,O,δ,.nx δ1,S,hg,fun σ' H' O' S'=>⟨B,O',δ1,x,δ',S',q,k⟩⟩
 ·cases q
theorem cP(h:PS X st (ZS R K ml z)):ZQ X (st::rest) (ZS R K ml z):=(XG h LZ).imp fun _ _ _ h=>h
noncomputable def KM(t:VB)(z z':VZ):VZ:=fun δ=>(t δ).bind fun p=>if p.1=true then z p.2 else z' p.2
theorem VN{x y:List Stmt}{t:VB}(ht:PT X c (TB K ml pc t))(ha:ZQ X x (ZS R K ml z))(hb:ZQ X y (ZS R K ml z')):PS X (.If c x y pos) (ZS R K ml (KM t z z')):=(D3 ht ha hb).imp fun D σ H q0=>by
 obtain⟨B,O,δ,x,δ',S,q,k⟩:=q0
 unfold KM at q
 cases h1:t δ with
 |none=>rw[h1] at q;cases q
 |some p=>
  obtain⟨kk,δ1⟩:=p
  rw[h1] at q
  refine⟨B,O,δ,kk,δ1,S,h1,fun H1 R1=> ?_⟩
  cases kk with
  |true=>exact UC ⟨B,O,δ1,x,δ',R1.sta,q,k⟩
  |false=>exact UB ⟨B,O,δ1,x,δ',R1.sta,q,k⟩
theorem DJ{t:VB}(ht:PT X c (TB K ml pc t))(ha:PE X a (ZE R K ml z))(hb:PE X b (ZE R K ml z')):PE X (.IfExp c a b pos) (ZE R K ml (KM t z z')):=(P6 ht ha hb).imp fun σ H Q q0=>by
 obtain⟨B,O,δ,x,δ',S,q,k⟩:=q0
 unfold KM at q
 cases h1:t δ with
 |none=>rw[h1] at q;cases q
 |some p=>
  obtain⟨kk,δ1⟩:=p
  rw[h1] at q
  refine⟨B,O,δ,kk,δ1,S,h1,fun H1 R1=> ?_⟩
  cases kk with
  |true=>exact UC ⟨B,O,δ1,x,δ',R1.sta,q,k⟩
  |false=>exact UB ⟨B,O,δ1,x,δ',R1.sta,q,k⟩
theorem DK(h:PE X e (ZE R K ml z)):PS X (.Return (some e) pos) (ZS R K ml z):=(OM h).imp fun _ _ _ h=>h
theorem aK{x:Str}{np af p1:Pos}{t:Str}{j:Nat}(hK:X.K=K)(hz:RzM X R)(hc:X.calm=true)(hg:Gl X x)(hx: ∃C,XC K x C/\X.mg x=some (.ref C))(hdb:(x==("__debug__":Str))=false:=by decide)
  (hpl:(Cu af (starEach [.Constant (.str t) j p1] X.env)).any (·.1)=false:=by rfl):
  PS X (.Raise (some (.Call (.Name x np) [.Constant (.str t) j p1] [] af)) none pos) (ZS R K ml fun δ=>some (x,δ)):=by
 intro aa s σ H D I h
 obtain⟨B,O,δ,x',δ',S,q,k⟩:=h
 cases q
 subst hK
 obtain⟨C,hC,hm⟩:=hx
 obtain⟨bm,N,nm,q,bs,hdct,sn,sub,ab,col,dd,k0,k1,k2,k3,k5,mN,o1,o2,o3,o4⟩:=LS I.ok.mod.kin hC.exc
 refine wpAny_Raise_call_subT (C:=C) (nm:=nm) (q:=q) (N:=N) (bs:=bs) (bm:=bm) (hdct:=hdct) (sn:=sn) (sub:=sub) (ab:=ab) (col:=col) (dd:=dd) (k0:=k0) (k1:=k1) (k2:=k2) (k3:=k3) (k5:=k5) (mN:=mN) PySem.F.excBase_ValueError (o4.hasType (by decide)) (I.ok.hd hc) hpl o3 (YE I hg hm ⟨rfl,?_⟩ hdb)
 have pa:PA X [.Constant (.str t) j p1] _:=cT IQ bR
 refine Ez (Ao (pa af aa s σ H (fun vs H'=>H'=H/\vs.length=1) I ⟨rfl,rfl⟩) (fun us s2 hq=> ?_) fun _ _ z=>z)
 obtain⟨vs,H2,I2,rv,rfl,hl⟩:=hq
 have kp: ∀b o,X.base.get? b=some o->s2.heap.get? b=some o:=fun b o e=>(I2.bs b o e).1
 refine⟨rfl,?_,kp _ _ o1,o2.keeps kp,o4.keeps kp,fun h' a hm'=>hz aa x C a us σ H2 s2.heap _ hC I2 hm' (k σ H2 O S)⟩
 show us.length<=sizeLine
 rw[<- rv.length,hl]
 decide
theorem II{x:Str}{kk:Nat}{qs:List Str}{sp:Sp}{ff:Addr}{fd:Ch}{p':Pos}{t:TA}{CX:KO}(F:cQ X.prog X.w X.K X.mg X.base CX kk ff fd qs sp)(hr:b7 kk X.A)(hg:Gl X x)(hm:X.mg x=some (.ref ff))(hk:Fq X.K (.ref ff)=true)(hb:YJ X.K fd qs [])
  (ha:PA X (e::es) t) (hdb:(x==("__debug__":Str))=false:=by decide) (he:starEach (e::es) X.env=(false,eval e X.env)::starEach es X.env:=by rfl) (hpl:(Cu pos (starEach es X.env)).any (·.1)=false:=by rfl):
  PE X (.Call (.Name x p') (e::es) [] pos) (fun σ H Q=>t σ H fun vs H1=> ∃E,(∀(aa:List (Addr×Obj)) (s:Ab) (e':Value) (s':Ab),eF X aa σ H1 s->CX X.stack H1 s E e' s'->X.xe e' s')/\sp vs H1 Q E):=by
 intro aa s σ H Q I h
 refine Dr (YE I hg hm (Hl (h₀:=X.base) I.ok.mod.kin hk (bS (ha pos aa s σ H _ I h) fun us s1 hq=> ?_) he hpl) hdb)
 obtain⟨vs,H1,I1,rv,E,hE,hs⟩:=hq
 have hl:us.length=qs.length:=by rw[<- rv.length];exact F.len _ _ _ _ hs
 have hb:=hb s1 us I1.kIn (by simpa using hl)
 rw[Cg] at hb
 refine⟨I1.kIn,Li (Em (F.run X.A X.stack s1 H1 ⟨us,[]⟩ us vs Q E hr I1.env0 hb rv hs) fun r s' hq=> ?_)⟩
 cases r with
 |error e'=>exact hE aa s1 e' s' I1 hq
 |ok fl=>cases fl with
  |ret u=>exact I1.after hq
  |next=>cases hq
  |brk=>cases hq
  |cont=>cases hq
def GR(K:Ae)(n:Nat)(XF:List eN->Option Str):Sp:=fun vs H _ E=> ∃(Z:Addr->Prop) (ds:List eN) (x:Str),ds.length=n/\GS K [] Z H vs ds/\XF ds=some x/\ ∀C H',XC K x C->cM H H'->E (.ref C) none H'
structure UJ(P:Ar)(w:World)(K:Ae)(mg:Str->Option Value)(base:Heap)(x:Str)(k:Nat)(ps:List Str)(XF:List eN->Option Str)(f:Addr):Prop where
 at_:mg x=some (.ref f)
 ok: ∃fd,cQ P w K mg base (NQ P w) k f fd ps (GR K ps.length XF)/\YJ K fd ps []
 kp:Fq K (.ref f)=true
noncomputable def YF:List AV->Option (List eN)
 |[]=>some []
 | .d d::as=>(YF as).map fun ds=>d::ds
 | .o _::_=>none
theorem TJ{N:Addr->Prop}: ∀{vs:List V} {as:List AV} {ds:List eN},Y5 K N H σ vs as->YF as=some ds->vs.length=ds.length/\ ∀(i:Nat) (d:eN),ds[i]? =some d-> ∃v,vs[i]? =some v/\dH K N H N v d
 | _,_,_,.nil,h => by cases h;exact ⟨rfl,fun i d e => by simp at e⟩
 | _,.d d0 :: as,_,.d r t,h => by
  unfold YF at h
  cases e:YF as with
  |none=>rw[e] at h;cases h
  |some ds=>
   rw[e] at h
   cases h
   obtain⟨h1,h2⟩:=TJ t e
   refine⟨by simp[h1],fun i d q=> ?_⟩
   cases i with
   |zero=>simp at q;subst q;exact⟨_,rfl,r⟩
   |succ i=>exact h2 i d (by simpa using q)
 |_,.o _::_,_,.o _ _,h=>by cases h
noncomputable def QN(n:Nat)(XF:List eN->Option Str)(fs:UN):VZ:=fun δ=>(fs δ).bind fun p=>(YF p.1).bind fun ds=>if ds.length=n then(XF ds).map fun x=>(x,p.2) else none
theorem NL{fs:UN}{XF:List eN->Option Str}{n:Nat}{Q:VK}(hz:RzF X R)(hK:X.K=K)(hex:X.ex=[])(h:TZ R K ml (QN n XF fs) σ H):
  MP K ml ps fs σ H fun vs H1 => ∃ E,(∀ (aa : List (Addr × Obj)) (s : Ab) (e' : Value) (s' : Ab),eF X aa σ H1 s -> NQ X.prog X.w X.stack H1 s E e' s' -> X.xe e' s') /\ GR K n XF vs H1 Q E := by
 subst hK
 obtain⟨B,O,δ,x,δ',S,q,k⟩:=h
 unfold QN at q
 cases h1:fs δ with
 | none => rw [h1] at q;cases q
 |some p=>
  obtain⟨as,δ1⟩:=p
  rw[h1,Ak] at q
  cases h2:YF as with
  | none => rw [h2] at q;cases q
  |some ds=>
   rw[h2,Ak] at q
   split at q
   ·rename_i hn
    cases h3:XF ds with
    | none => rw [h3] at q;cases q
    |some x'=>
     rw[h3] at q
     cases q
     refine⟨B,O,δ,as,δ1,S,h1,fun vs H1 G=>⟨fun v _ H2=> ∃x C,v= .ref C/\XC X.K x C/\R x σ H2,fun aa s e' s' I hc=> ?_,?_⟩⟩
     ·obtain⟨C,H2,os,bare,un,ok,F,x1,C1,hv,hx,hR⟩:=hc
      cases hv
      exact hz aa x1 C σ H2 e' s' s.heap hx (I.call' os un ok bare fun b hb=>nomatch hb) F (I.low hex) hR
     ·obtain⟨g1,g2⟩:=TJ G.rep h2
      have zp: ∀a,Zp (Nn B O) [] vs a->Nn B O a:=fun a z=>z.elim id fun⟨i,hi,_⟩=>nomatch hi
      refine⟨Nn B O,ds,x,hn,⟨g1,fun i hi=>(nomatch hi),fun i d _ e=> ?_,fun i d hi=>(nomatch hi),fun i j a hi=>(nomatch hi),fun a z=>G.sta.nin z⟩,h3,fun C H2 hx hs=>⟨x,C,rfl,hx,k σ H2 O (G.sta.same hs)⟩⟩
      obtain⟨v,e1,r⟩:=g2 i d e
      exact⟨v,e1,r.mono zp zp⟩
   ·cases q
theorem GO{x:Str}{kk j:Nat}{qs:List Str}{XF:List eN->Option Str}{ff:Addr}{p':Pos}{fs:UN}(hz:RzF X R)(hK:X.K=K)(D:UJ X.prog X.w K X.mg X.base x kk qs XF ff)(hr:b7 j X.A)(hk:kk<=j)(hg:Gl X x)(hex:X.ex=[])(ha:PA X (e::es) (MP K ml ps fs))
  (hdb:(x==("__debug__":Str))=false:=by decide) (he:starEach (e::es) X.env=(false,eval e X.env)::starEach es X.env:=by rfl) (hpl:(Cu pos (starEach es X.env)).any (·.1)=false:=by rfl):
  PE X (.Call (.Name x p') (e::es) [] pos) (ZE R K ml (QN qs.length XF fs)):=by
 obtain⟨fd,F,Bd⟩:=D.ok
 subst hK
 exact(II F (hr.mono hk) hg D.at_ D.kp Bd ha hdb he hpl).imp fun σ H Q h=>NL hz rfl hex h
end
noncomputable def OO(n:Nat)(z:VZ):List eN->Option Str:=fun ds=>(z (ZA [] n ds)).map (·.1)
theorem aW.okX{P:Ar}{w:World}{K:Ae}{mg:Str->Option Value}{base:Heap}{x qual:Str}{st:Stmt}{f:Addr}{fd:Ch}{N ps:List Str}{k:Nat}{z:VZ}(F:aW K x qual st f fd)(S:dY N ps (eM st))(hps:ps.length<=N.length)
  (al: ∀(cdv:Value) (A:Bo) (outer:List Env) (s:Ab) (H:Hp) (E:XK),b7 k (A.deeper (envOfC qual (eM st) s.heap.objs.size f cdv))→
   ZQ (W6 (NQ P w) P w K mg base N qual (eM st) f cdv A outer s H E) (cY st) (ZS (rE K E) K [] z)):cQ P w K mg base (NQ P w) (k+1) f fd ps (GR K ps.length (OO N.length z)):=by
 obtain⟨oc,od,kV,doc,pm,an,cdv,ct,osl,rfl,lk,hcd⟩:=F.ex
 refine DT lk hcd S (fun vs H Q E h=> ?_) fun A outer s H vs Q E hr hsp=>⟨_,al cdv A outer s H E hr,?_⟩
 ·obtain⟨Z,ds,x,hn,AV,_⟩:=h
  rw[AV.len,hn]
 ·obtain⟨Z,ds,x,hn,AV,hX,hE⟩:=hsp
  obtain⟨mu,hmu,S0⟩:=TQ (N:=N) AV (by rw[hn];exact hps)
  unfold OO at hX
  cases h1:z (ZA [] N.length ds) with
  |none=>rw[h1] at hX;cases hX
  |some p=>
   obtain⟨x',δ'⟩:=p
   rw[h1] at hX
   cases hX
   exact⟨_,mu,_,x',δ',S0,h1,fun σ' H' O' S' C hC=>hE C H' hC fun b o q=>S'.frm b o q fun⟨i,hi,_⟩=>nomatch hi⟩
end L2
namespace L2
open PySem PySem.Spec PyProof.Rows PySem.W PySem.Calls PySem.Builtin PySem.Builtin.ObjectAttr PySem.Builtin.Getset_descriptor
section
variable{prog:Ar}{w:World}{A:Bo}{E:Value->Ab->Prop}{s:Ab}{K:Frag}{x C:Addr}{o:Obj}{R:Nd->Ab->Prop}
theorem E1{tp:Value}(X:K.In s.heap)(hx:s.heap.get? x=some o)(hc:o.cls= .ref C)(F:XA K C)
  (h:R (.ok (.ret (.ref C))) s):Ef (model prog w) A (.call (.builtin "getset_descriptor.__get__") ⟨[.builtin "object.__class__",.ref x,tp],[]⟩) R s:=by
 obtain⟨hh,g,dr,t,os⟩:=s
 have L0:Looks (model prog w) hh (Lx (.ref x)) (.ref C):=hc▸(Mt hx).andThen .now
 have L1:=looks_mroIn (M:=model prog w) X F.mro
 refine Kc KF.slot_gs.plain KF.entry_gs (KF.slot_gs.check _ _ _ _ _ _ _ _ KF.type_class (KF.args_gs _ _ _) ?_)
 unfold Dy.«getset_descriptor.__get__» descrGet
 rw[dga_obj]
 refine Aa (Af ?_)
 unfold descrGetter descrCheckInstance descrNameAndClass Oa
 simp only[KF.owner_class]
 repeat lk
 refine⟨Code.quiet_builtin _ (by decide+kernel),codeAny_builtin KF.entry_class ?_⟩
 unfold Dy.«object.__class__» shownTypeOf
 repeat lk
 exact h
theorem LB{tk:Tok}{Q:Fin->Ab->Prop}(X:K.In s.heap)(hx:s.heap.get? x=some o)(hc:o.cls= .ref C)(F:XA K C)
  (h:Q (.done (.ret (.ref C))) s):wpAny (model prog w) A (Dy.«object.__getattribute__» ⟨[.ref x,.str "__class__" tk],[]⟩) Q E s:=by
 obtain⟨hh,g,dr,t,os⟩:=s
 have L0:Looks (model prog w) hh (Lx (.ref x)) (.ref C):=hc▸(Mt hx).andThen .now
 have L1:=Ma (M:=model prog w) X F.cls
 have L2:Looks (model prog w) hh (getOf (some (.builtin "object.__class__"))) (some (.builtin "getset_descriptor.__get__")):=looks_specialIn X F.get
 have L3:=looks_takesIn (M:=model prog w) X F.tak
 have LF:Looks (model prog w) hh (find (.ref x) (.ref C) "__class__") (.bind (.builtin "getset_descriptor.__get__") (.builtin "object.__class__")):=
  L1.andThen (L2.andThen ((show Looks (model prog w) hh (dataDescriptor? (some (.builtin "object.__class__")) (some (.builtin "getset_descriptor.__get__"))) (some (.builtin "getset_descriptor.__get__",.builtin "object.__class__")) from L3.andThen .now).andThen (Looks.tag .now)))
 unfold Dy.«object.__getattribute__»
 repeat (any_goals (first|assumption|with_reducible refine Looks.at L0 ?_|with_reducible refine Looks.at LF ?_|wp_step))
 refine E1 (s:=⟨hh,g,dr,t,os⟩) X hx hc F ?_
 exact Af h
theorem AQ{tk:Tok}(X:K.In s.heap)(hx:s.heap.get? x=some o)(hc:o.cls= .ref C)(F:XA K C)(h:R (.ok (.ret (.ref C))) s):
  Ef (model prog w) A (.call (.builtin "BaseException.__getattribute__") ⟨[.ref x,.str "__class__" tk],[]⟩) R s:=by
 obtain⟨hh,g,dr,t,os⟩:=s
 have L0:Looks (model prog w) hh (Lx (.ref x)) (.ref C):=hc▸(Mt hx).andThen .now
 have L1:=looks_subIn (M:=model prog w) X F.sub
 have hk:builtinKind "BaseException.__getattribute__"=some .slot:=by decide+kernel
 have hs:splitId "BaseException.__getattribute__"=some ("BaseException","__getattribute__"):=by decide+kernel
 have ha:=PySem.F.args_bexc_ga (.ref x) (.str "__class__" tk)
 refine Kc PySem.F.excAttr_ValueError.ga.plain PySem.F.entry_bexc_ga (Ao (Q:=fun _ s'=>s'=⟨hh,g,dr,t,os⟩) ?_ (fun _ s' z=> ?_) fun _ _ z=>z)
 ·simp only[checkBuiltinCall,hk,hs]
  unfold Oa
  repeat (any_goals (first|rfl|assumption|with_reducible refine Looks.at L0 ?_|with_reducible refine Looks.at L1 ?_|wp_step))
 ·subst z
  refine LB (s:=⟨hh,g,dr,t,os⟩) X hx hc F ?_
  exact h
theorem LA{Q:Option Value->Ab->Prop}(X:K.In s.heap)(hx:s.heap.get? x=some o)(hc:o.cls= .ref C)(F:XA K C)(h:Q (some (.ref C)) {s with toks:=s.toks+1}):
  wpAny (model prog w) A (getAttr? (.ref x) "__class__") Q E s:=by
 obtain⟨hh,g,dr,t,os⟩:=s
 have L0:Looks (model prog w) hh (Lx (.ref x)) (.ref C):=hc▸(Mt hx).andThen .now
 have L1:=Ma (M:=model prog w) X F.ga
 have L2:=Ma (M:=model prog w) X F.no
 have fb:=PySem.F.excAttr_ValueError.ga.bind (.ref x)
 unfold getAttr? getAttrBy? getAttrBy
 refine Aa (wpAny_mkText (Aa (Kz (Bk (Aa (L0.at (Aa (L1.at ?_))))))))
 show wpAny _ _ (getAttrByItsOwn _ _ _ _ _ _) _ _ _
 unfold getAttrByItsOwn hookBefore callGetattribute boundAndCalled
 repeat (any_goals (first|assumption|with_reducible refine Looks.at L0 ?_|with_reducible refine Looks.at L2 ?_|wp_step))
 refine AQ (s:=⟨hh,g,dr,t+1,os⟩) X hx hc F ?_
 refine handed_on rfl ?_
 first|exact h|exact Af h|exact Af (Af h)
theorem PQ(F:XA K C)(hdct:(clsIn K C).isSome=true):KitX K (.ref x) (.ref C) (fun h=> ∃o,h.get? x=some o/\o.cls= .ref C) where
 ty:=fun M h _ p=>by
  obtain⟨o,h1,h2⟩:=p
  exact h2▸(Mt h1).andThen .now
 it:=fun _ _ X _=>by
  unfold clsIn at hdct
  split at hdct
  ·rename_i ho
   intro A' Q' E' s' k q
   unfold isType loadHead
   exact Aa (wpAny_loadPart (k _ _ (X _ _ ho)) (Af q))
  ·cases hdct
 ne:=fun h tp dd its n sl X htp=>by
  refine Bool.eq_false_iff.mpr fun q=> ?_
  have e:C=tp:=Value.ref.inj (beq_iff_eq.mp q)
  subst e
  unfold clsIn at hdct
  split at hdct
  ·rename_i ho
   have z:=(X _ _ ho).symm.trans htp
   cases z
  ·cases hdct
 ca:=fun X p k=>by
  obtain⟨o,h1,h2⟩:=p
  exact LA X h1 h2 F k
end
end L2
namespace L2
open PySem PySem.Spec PyProof.Rows
structure bG(k:Nat)(A:Bo):Prop where
 dp:A.depth+3*k+5<Ho
 un:A.units+16*k+200<cLine
theorem b7.h{k:Nat}{A:Bo}(r:b7 k A):bG k A:=⟨r.dp,r.un⟩
theorem bG.mono{j k:Nat}{A:Bo}(r:bG k A)(h:j<=k):bG j A:=⟨by have:=r.dp;omega,by have:=r.un;omega⟩
theorem bG.deeper{k:Nat}{A:Bo}(r:bG (k+1) A)(env:Env):bG k (A.deeper env):=
 ⟨by have:=r.dp;show A.depth+1+3*k+5<_;omega,by have:=r.un;show A.units+3+16*k+200<_;omega⟩
theorem bG.units{k:Nat}{A:Bo}(r:bG k A):A.units+64<cLine:=by have:=r.un;omega
theorem bG.unit{k:Nat}{A:Bo}(r:bG k A):A.units+1<cLine:=by have:=r.un;omega
noncomputable def cxH(P:Ar)(w:World)(K:Ae)(mg:Str->Option Value)(base:Heap)(N:List Str)(qual:Str)(scope:Scope)(f:Addr)(cd:Value)(A:Bo)(outer:List Env)(s:Ab)(H:Hp):Cx:=
 {W6 CX0 P w K mg base N qual scope f cd A outer s H E0 with calm:=false,xe:=fun _ _=>False}
structure FnH(P:Ar)(w:World)(K:Ae)(mg:Str->Option Value)(base:Heap)(k:Nat)(f:Addr)(fd:Ch)(ps:List Str)(sp:Sp):Prop where
 len: ∀vs H Q E,sp vs H Q E->vs.length=ps.length
 run: ∀(A:Bo) (outer:List Env) (s:Ab) (H:Hp) (args:Args) (us:List Value) (vs:List V) (Q:VK),bG k A->KQ P w K mg base A outer s H->Lh s fd args (ps.zip us)->dG vs us->sp vs H Q E0→
  Ef (model P w) A (.call (.ref f) args) (CR CX0 outer P w H s Q E0) s
theorem eF.around{X:Cx}{A':Bo}{aa:List (Addr×Obj)}{σ:St}{H:Hp}{s:Ab}{xe:Value->Ab->Prop}(I:eF X aa σ H s)(hf:A'.frames=X.A.frames):eF {X with A:=A',calm:=false,xe:=xe} aa σ H s:=
 ⟨⟨I.ok.mod,I.ok.kind,I.ok.glob,I.ok.blt,I.ok.above,I.ok.inj,I.ok.has,I.ok.cab,fun z=>(nomatch z),hf.trans I.ok.frames,I.ok.stk,I.ok.exf,I.ok.bs,I.ok.bsz,I.ok.noex,I.ok.exfs,I.ok.funs,I.ok.frf⟩,I.os,I.bare,I.base,I.loc,I.cell,I.free,I.freeC,I.pin,I.hok,I.len⟩
theorem eF.back{X:Cx}{A':Bo}{aa:List (Addr×Obj)}{σ:St}{H:Hp}{s:Ab}{xe:Value->Ab->Prop}(ok:X.Ok)(I:eF {X with A:=A',calm:=false,xe:=xe} aa σ H s):eF X aa σ H s:=
 ⟨ok,I.os,I.bare,I.base,I.loc,I.cell,I.free,I.freeC,I.pin,I.hok,I.len⟩
theorem aW.okH{P:Ar}{w:World}{K:Ae}{mg:Str->Option Value}{base:Heap}{x qual:Str}{st:Stmt}{f:Addr}{fd:Ch}{N ps:List Str}{k:Nat}{sp:Sp}(F:aW K x qual st f fd)(S:dY N ps (eM st))(len: ∀vs H Q E,sp vs H Q E->vs.length=ps.length)
  (al: ∀(cdv:Value) (A:Bo) (outer:List Env) (s:Ab) (H:Hp) (vs:List V) (Q:VK),bG k (A.deeper (envOfC qual (eM st) s.heap.objs.size f cdv))->sp vs H Q E0→
   ∃t,ZQ (cxH P w K mg base N qual (eM st) f cdv A outer s H) (cY st) t/\t {nx:=fun _ H'=>Q .non H',rt:=Q} (start N vs) H):FnH P w K mg base (k+1) f fd ps sp:=by
 obtain⟨oc,od,kV,doc,pm,an,cdv,ct,osl,rfl,lk,hcd⟩:=F.ex
 refine⟨len,fun A outer s H args us vs Q hr e0 hb r hsp=> ?_⟩
 have hl:=len _ _ _ _ hsp
 have KX:K.In s.heap:=e0.mod.kin.keeps fun b o e=>(e0.bs b o e).1
 have lim:s.heap.NoLimit:=e0.mod.nolimit.keeps fun b o e=>(e0.bs b o e).1
 have g6: ∀y∈ps.zip us,(eM st).names.lookup y.1=some .local∨((eM st).names.lookup y.1=some .cell/\((cellsFrom (s.heap.objs.size+1) (eM st).names []).lookup y.1).isSome=true):=fun⟨n,v⟩ hy=>by
  rcases S.par n (Gs hy).1 with q|q
  ·exact .inl q
  ·exact .inr ⟨q,Iw _ _ _ (.inl q)⟩
 have io:A.depth<Ho:=by have:=hr.dp;omega
 refine Jm io (KX _ _ lk) rfl S.co S.gen rfl (W.codeRec_of KX hcd) (hb _ _ _ _ ?_)
 refine Hf S.kind g6 fun env he s1 x=> ?_
 subst he
 refine⟨lim.keeps x.toInCall.keep,codeAny_func ?_⟩
 obtain⟨t,ht,hq⟩:=al cdv A outer s H vs Q (hr.deeper _) hsp
 have e1:KQ P w K mg base {A with handled:=none} outer s H:=⟨e0.frames,e0.mod,e0.bs,e0.bsz,e0.funs,e0.frf,e0.hok,e0.bare⟩
 have I0:eF (W6 CX0 P w K mg base N qual (eM st) f cdv {A with handled:=none} outer s H E0) [] (start N vs) H s1:=SY S rfl e1 hl r x
 have I:eF (cxH P w K mg base N qual (eM st) f cdv A outer s H) [] (start N vs) H s1:=I0.around rfl
 refine Ao (ht [] s1 (start N vs) H _ I hq) (fun fl s' hs=> ?_) fun e s' hs=>(show False from hs).elim
 have fin: ∀{σ':St} {H':Hp} {v:V} {u:Value},eF (cxH P w K mg base N qual (eM st) f cdv A outer s H) [] σ' H' s'->dP v u->Q v H'->CE outer P w H s Q u s':=
  fun{σ' H' v u} J rv q=>⟨v,H',J.os,J.bare,J.base,J.hok,rv,q⟩
 cases fl with
 |ret u=>
  obtain⟨v,σ',H',J,rv,q⟩:=hs
  exact fin J rv q
 |next=>
  obtain⟨σ',H',J,q⟩:=hs
  exact fin (v:=V.non) (u:=Value.none) J rfl q
 |brk=>
  obtain⟨_,_,_,q⟩:=hs
  cases q
 |cont=>
  obtain⟨_,_,_,q⟩:=hs
  cases q
structure EK(P:Ar)(w:World)(K:Ae)(mg:Str->Option Value)(base:Heap)(x:Str)(k:Nat)(ps:List Str)(sp:Sp)(f:Addr):Prop where
 at_:mg x=some (.ref f)
 ok: ∃fd,FnH P w K mg base k f fd ps sp/\YJ K fd ps []
 kp:Fq K (.ref f)=true
section
variable{X:Cx}{K:Ae}{ml:List Nat}{e a b c:Expr}{es:List Expr}{ps:Bool}{pos:Pos}
theorem zA4{x:Str}{kk j n:Nat}{qs:List Str}{mF:List Nat}{F:cZ}{ff:Addr}{p':Pos}{fs:UN}(D:EK X.prog X.w K X.mg X.base x kk qs (spV K mF n F) ff)(hr:bG j X.A)(ha:PA X (e::es) (MP K ml ps fs))(hK:X.K=K:=by rfl)(hk:kk<=j:=by decide)(hg:Gl X x:=by rfl)(hdb:(x==("__debug__":Str))=false:=by decide)
  (he:starEach (e::es) X.env=(false,eval e X.env)::starEach es X.env:=by rfl) (hpl:(Cu pos (starEach es X.env)).any (·.1)=false:=by rfl):
  PE X (.Call (.Name x p') (e::es) [] pos) (TV K ml (ps && mF.isEmpty) true true (eA n mF F fs)):=by
 subst hK
 obtain⟨fd,F',Bd⟩:=D.ok
 refine PE.imp (t:=NJ (spV X.K mF n F) [] E0 (MP X.K ml ps fs)) (fun aa s σ H Q I h=> ?_) fun _ _ _ h=>RZ h
 refine Dr (YE I hg D.at_ (Hl (h₀:=X.base) I.ok.mod.kin D.kp (bS (ha pos aa s σ H _ I h) fun us s1 hq=> ?_) he hpl) hdb)
 obtain⟨vs,H1,I1,rv,hs⟩:=hq
 rw[Cg] at hs
 have hl:us.length=qs.length:=by rw[<- rv.length];exact F'.len _ _ _ _ hs
 have hb:=Bd s1 us I1.kIn (by simpa using hl)
 rw[Cg] at hb
 refine⟨I1.kIn,Li (Em (F'.run X.A X.stack s1 H1 ⟨us,[]⟩ us vs Q (hr.mono hk) I1.env0 hb rv hs) fun r s' hq=> ?_)⟩
 cases r with
 |error e'=>cases hq
 |ok fl=>cases fl with
  |ret u=>exact I1.after hq
  |next=>cases hq
  |brk=>cases hq
  |cont=>cases hq
end
theorem aW.okVH{P:Ar}{w:World}{K:Ae}{mg:Str->Option Value}{base:Heap}{x qual:Str}{st:Stmt}{f:Addr}{fd:Ch}{N ps:List Str}{k:Nat}{ml:List Nat}{g:VS}(F:aW K x qual st f fd)(S:dY N ps (eM st))(hps:ps.length<=N.length)
  (al: ∀(cdv:Value) (A:Bo) (outer:List Env) (s:Ab) (H:Hp),bG k (A.deeper (envOfC qual (eM st) s.heap.objs.size f cdv))→
   ZQ (cxH P w K mg base N qual (eM st) f cdv A outer s H) (cY st) (W2 K ml g)):FnH P w K mg base (k+1) f fd ps (spV K ml ps.length (b5 N.length ml g)):=by
 refine F.okH S (fun vs H Q E h=> ?_) (fun cdv A outer s H vs Q hr h=>⟨_,al cdv A outer s H hr,DR (E:=E0) hps h⟩)
 obtain⟨Z,ds,r,os,hn,AV,_⟩:=h
 rw[AV.len,hn]
theorem LC{prog:Ar}{w:World}{A:Bo}{E:Value->Ab->Prop}{s:Ab}{K:Ae}{x C Cp:Addr}{o:Obj}{Q:Bool->Ab->Prop}(X:K.In s.heap)(hx:s.heap.get? x=some o)(hc:o.cls= .ref C)(F:XP K C Cp)(h:Q true s):
  wpAny (model prog w) A (excMatches (.ref x) (.ref Cp)) Q E s:=by
 obtain⟨hh,g,dr,t,os⟩:=s
 have L0:W.Looks (model prog w) hh (Lx (.ref x)) (.ref C):=hc▸(W.Looks.ld hx).andThen .now
 have L1:=W.looks_typeIn (M:=model prog w) X F.ty
 have L2:=W.looks_subIn (M:=model prog w) X F.base
 have L3:=W.looks_subIn (M:=model prog w) X F.sub
 have L4:W.Looks (model prog w) hh (isType (.ref Cp)) true:=by
  have hd:=F.cls
  unfold Pa at hd
  split at hd
  ·rename_i ho
   intro A' Q' E' s' k q
   unfold isType loadHead
   exact Aa (wpAny_loadPart (k _ _ (X _ _ ho)) (Af q))
  ·cases hd
 have f:=tc_notTuple
 unfold excMatches isExcClass Oa
 repeat (any_goals (first|assumption|with_reducible refine W.Looks.at L0 ?_|with_reducible refine W.Looks.at L1 ?_|with_reducible refine W.Looks.at L2 ?_|with_reducible refine W.Looks.at L3 ?_|with_reducible refine W.Looks.at L4 ?_|wp_step))
section
variable{X:Cx}{aa:List (Addr×Obj)}{σ:St}{H:Hp}{s:Ab}{h':Heap}{a C:Addr}
theorem eF.track{o:Obj}{vs:Array Value}(I:eF X aa σ H s)(ha:H a=none)(he:s.heap.get? a=some o)(hc:o.cls= .ref C)(hd:o.data= .fields vs)(hs:X.s₀.heap.get? a=none)(hp: ∀p∈X.pn++aa,p.1≠a):
  eF X aa σ (cL H a (.ext fun h=>ML h a C)) s:=by
 have neS: ∀b o,X.s₀.heap.get? b=some o->b≠a:=fun b o e z=>by rw[z,hs] at e;cases e
 have neH: ∀b u,H b=some u->b≠a:=fun b u e z=>by rw[z,ha] at e;cases e
 refine⟨I.ok,I.os,I.bare,⟨I.base.keep,I.base.slot,fun b o e n hx=> ?_,I.base.there,fun b xs e=> ?_,fun b o u e=> ?_,fun b ps e=> ?_⟩,I.loc,I.cell,?_,fun x c e=> ?_,fun p hq=> ?_,fun b u e=> ?_,I.len⟩
 ·rw[dQ (neS b o e)];exact I.base.free b o e n hx
 ·have q:=I.base.tups b xs e
  rw[dQ (neH b _ q)];exact q
 ·have q:=I.base.frzs b o u e
  rw[dQ (neH b _ q)];exact q
 ·obtain⟨fv,q⟩:=I.base.tbls b ps e
  exact⟨fv,by rw[dQ (neH b _ q)];exact q⟩
 ·obtain⟨m,⟨oL,_,_,hoL,hdL,_⟩,_⟩:=I.loc
  have:X.env.locals≠a:=fun z=>by
   rw[z,he] at hoL
   cases hoL
   rw[hd] at hdL
   cases hdL
  rw[dQ this];exact I.free
 ·obtain⟨v,oc,hoc,hdc⟩:=I.cell x c e
  have:c≠a:=fun z=>by
   rw[z,he] at hoc
   cases hoc
   rw[hd] at hdc
   cases hdc
  rw[dQ this];exact I.freeC x c e
 ·obtain⟨e,n,ne,nf,d⟩:=I.pin p hq
  exact⟨e,by rw[dQ (hp p hq)];exact n,ne,nf,d⟩
 ·by_cases hb:b=a
  ·subst hb
   rw[dZ] at e
   cases e
   exact⟨⟨o,vs,he,hc,hd⟩,⟨o,he⟩,fun h1 h2 q k=>by
    obtain⟨o1,vs1,e1,e2,e3⟩:=q
    exact⟨o1,vs1,k o1 e1,e2,e3⟩⟩
  ·rw[dQ hb] at e
   exact(I.hok b u e).stay (fun _ _ _ q=>q) (fun c q=>by rw[dQ (neH c _ q)];exact q) fun c xs q=>by rw[dQ (neH c _ q)];exact q
theorem eF.unbound{m':Str->Option Value}{t':Nat}(I:eF X aa σ H s)(ns:h'.Ns X.env.locals m')(sb:Ed X.env.locals s.heap h'):eF X aa (Aq X.N.length none) H {s with heap:=h',toks:=t'}:=by
 have neL: ∀b o,X.s₀.heap.get? b=some o->b≠X.env.locals:=fun b o e=>Au (Al (Ag e) I.ok.above)
 have neH: ∀b u,H b=some u->b≠X.env.locals:=fun b u e z=>by rw[z,I.free] at e;cases e
 refine⟨I.ok,I.os,I.bare,⟨fun b o e n hb hx=>(sb.2 b (neL b o e)).trans (I.base.keep b o e n hb hx),fun b o e n hb hx=> ?_,I.base.free,fun b o e hx=> ?_,I.base.tups,I.base.frzs,I.base.tbls⟩,⟨m',ns,fun i x v _ e2 _=> ?_⟩,fun x c e=> ?_,I.free,I.freeC,fun p hp=> ?_,fun b u e=> ?_,by simp⟩
 ·obtain⟨sl,e1⟩:=I.base.slot b o e n hb hx
  exact⟨sl,(sb.2 b (neL b o e)).trans e1⟩
 ·obtain⟨o',e1⟩:=I.base.there b o e hx
  exact⟨o',(sb.2 b (neL b o e)).trans e1⟩
 ·rw[Br] at e2
  split at e2<;>cases e2
 ·obtain⟨v,z⟩:=I.cell x c e
  exact⟨v,z.sameBut sb (I.cne x c e)⟩
 ·obtain⟨e,n,ne,nf,d⟩:=I.pin p hp
  exact⟨(sb.2 p.1 ne).trans e,n,ne,nf,d⟩
 ·refine (I.hok b u e).stay (fun c v hc q => (sb.2 c ?_).trans q) (fun _ q => q) fun _ _ q => q
  rcases hc with rfl|hc
  ·exact neH _ u e
  ·exact neH c _ hc
end
theorem Cx.Ok.pns{X:Cx}(ok:X.Ok)(pn:List (Addr×Obj))(xe:Value->Ab->Prop):Cx.Ok {X with pn:=pn,xe:=xe}:=
 ⟨ok.mod,ok.kind,ok.glob,ok.blt,ok.above,ok.inj,ok.has,ok.cab,ok.hd,ok.frames,ok.stk,ok.exf,ok.bs,ok.bsz,ok.noex,ok.exfs,ok.funs,ok.frf⟩
abbrev Cx.hnd(X:Cx)(a:Addr):Cx:={X with A:=X.A.mark (some (.ref a)),calm:=false,xe:=fun _ _=>False}
noncomputable def CW(g:VS)(z:VZ)(i:Nat)(k:VS):VS:=fun δ=>match g δ with
 | some o => some o
 | none => match z δ with
  |some (x,δ1)=>match k (δ1.set i (.va (.exn x))) with
   |some (.rt d δ2)=>some (.rt d δ2)
   |_=>none
  |none=>none
section
variable{X:Cx}{K:Ae}{ml:List Nat}{pos:Pos}{g k:VS}{z:VZ}
theorem DI{body:List Stmt}{n:Str}{np gw:Pos}{b0:Stmt}{i0:List Stmt}{i:Nat}(hK:X.K=K)(hst:X.stack=X.env::X.outer)(hfr:X.env.frame=some X.env.locals)(hN:X.N.Nodup)(hi:X.N[i]? =some n)(hl:X.env.kindOf n=some .local)(him:i∉ml)
  (hg0:Gl X "PackError") (hm: ∀C,Ep K mainGlobals "PackError"=some (some (.ref C))->X.mg "PackError"=some (.ref C))
  (hg:ZQ X.nox body (W2 K ml g)) (hz: ∀(pn:List (Addr×Obj)) (xe:Value->Ab->Prop) (R:Str->St->Hp->Prop),RzF {X with pn:=pn,xe:=xe} R->ZQ {X with pn:=pn,xe:=xe} body (ZS R K ml z)) (hk: ∀a,ZQ (X.hnd a) (b0::i0) (W2 K ml k)):
  PS X (.Try body [.ExceptHandler (some (.Name "PackError" np)) (some n) (b0::i0) gw] [] [] pos) (W2 K ml (CW g z i k)):=by
 intro aa s σ H D I h
 obtain⟨B,O,δ,o,S,q,post⟩:=h
 refine wpAny_Try_except ?_
 unfold CW at q
 cases h1:g δ with
 |some o'=>
  rw[h1] at q
  cases q
  refine Ao (hg aa s σ H D (I.wish _) ⟨B,O,δ,o,S,h1,post⟩) (fun f s1 hf=> ?_) fun e s1 he=>(show False from he).elim
  have hf:=hf.unwish
  cases f with
  | next => exact Jk hf
  | _ => exact hf
 |none=>
  rw[h1] at q
  dsimp only at q
  cases h2:z δ with
  | none => rw [h2] at q;cases q
  |some p=>
   obtain⟨x0,δ1⟩:=p
   rw[h2] at q
   dsimp only at q
   cases h3:k (δ1.set i (.va (.exn x0))) with
   | none => rw [h3] at q;cases q
   |some ok=>
    rw[h3] at q
    cases ok with
    | nx _ => cases q
    | bk _ => cases q
    | ct _ => cases q
    |rt d δ2=>
     cases q
     subst hK
     have I1: ∀{xe:Value->Ab->Prop} {σ:St} {H:Hp} {s:Ab},eF X aa σ H s->eF {X with pn:=X.pn++aa,xe:=xe} [] σ H s:=fun I=>⟨I.ok.pns _ _,I.os,I.bare,I.base,I.loc,I.cell,I.free,I.freeC,fun p hp=>I.pin p (by simpa using hp),I.hok,I.len⟩
     have I2: ∀{xe:Value->Ab->Prop} {ps:List (Addr×Obj)} {σ:St} {H:Hp} {s:Ab},eF {X with pn:=X.pn++aa,xe:=xe} ps σ H s->eF X aa σ H s:=fun J=>⟨I.ok,J.os,J.bare,J.base,J.loc,J.cell,J.free,J.freeC,fun p hp=>J.pin p (Av _ hp),J.hok,J.len⟩
     refine Ao (hz (X.pn++aa) _ (fun x σ' H'=>x=x0/\ ∃O',cX X.K ml B O' H' σ' δ1) (fun ps x C σ2 H2 e s' gh hx J F lo hR=> ?_) [] s σ H ⟨fun _ _=>False,fun _ _=>False,fun _ _=>False,fun _ _=>False⟩ (I1 I) ⟨B,O,δ,x0,δ1,S,h2,fun σ' H' O' S'=>⟨rfl,O',S'⟩⟩) (fun f s1 hf=> ?_) fun e s1 he=>he
     rotate_left
     ·cases f with
      |next=>obtain⟨_,_,_,z⟩:=hf;cases z
      |brk=>obtain⟨_,_,_,z⟩:=hf;cases z
      |cont=>obtain⟨_,_,_,z⟩:=hf;cases z
      |ret u=>obtain⟨_,_,_,_,_,z⟩:=hf;cases z
     obtain⟨rfl,O',S1⟩:=hR
     have J':=I2 J
     have lo':Low X aa gh:=⟨lo.s0,fun p hp=>lo.pin p (Av _ hp)⟩
     obtain⟨a,a0,Bh,rfl,fl,c1,c2⟩:=F
     obtain⟨Cp,hP⟩:=hx.pk
     have fl:Jv Bh (X.env::X.outer) a (.ref C) a0 s'.heap:=hst▸fl
     have c1: ∀b o,gh.get? b=some o->b∉X8 X.stack-> ∃o',s'.heap.get? b=some o'/\Bh.get? b=some o':=c1
     have nfr: ∀{h:Heap},Jv Bh (X.env::X.outer) a (.ref C) a0 h->a∉X8 X.stack:=fun fl hb=>by
      rw[hst] at hb
      obtain⟨oe,vs,_,_,_,he,_,hd,_⟩:=fl.2.2.2
      obtain⟨_,o',e',nf⟩:=fl.2.2.1.mem hb
      rw[he] at e'
      cases e'
      exact nf vs hd
     refine wpAny_looks_onW (J'.ok.frames.trans (by rw[hst])) hfr fl fun h4 hd4 up4=>wpAny_landsW hd4 fun h5 fl5 up5=> ?_
     have I5:eF X aa σ2 H2 {s' with heap:=h5}:=J'.flyG lo' fl5.1 (up4.trans up5) c1 c2
     have I5h:eF (X.hnd a) aa σ2 H2 {s' with heap:=h5}:=I5.around rfl
     refine wpAny_handleBy_cons (codeAny_handlers_test (YE (X:=X.hnd a) I5h hg0 (hm Cp hP.at_) ?_)) (by intro q;cases q)
     obtain⟨oe5,vs5,_,_,_,he5,li,_⟩:=fl5.2.2.2
     refine LC I5.kIn he5 li.1 hP ?_
     refine codeAny_handlers_suite_as (lands_againW fl5 fun h6 fl6 up6=> ?_)
     have I6:eF X aa σ2 H2 {s' with heap:=h6}:=J'.flyG lo' fl6.1 ((up4.trans up5).trans up6) c1 c2
     obtain⟨oe,vs,_,_,_,he,hcl,hdt,_⟩:=fl6.2.2.2
     have Bn:Bh.get? a=none:=fl6.2.1
     have na: ∀b o,gh.get? b=some o->b≠a:=fun b o e z=>by
      subst z
      obtain⟨o',_,e2⟩:=c1 b o e (nfr fl6)
      rw[Bn] at e2
      cases e2
     have ha:H2 a=none:=by
      cases e:H2 a with
      |none=>rfl
      |some u=>
       obtain⟨o',_,e2⟩:=c2 a u e
       rw[Bn] at e2
       cases e2
     have hs0:X.s₀.heap.get? a=none:=by
      cases e:X.s₀.heap.get? a with
      |none=>rfl
      |some o'=>
       obtain⟨o2,e2⟩:=lo'.s0 a o' e (nfr fl6)
       exact absurd rfl (na a o2 e2)
     have I7:=I6.track (C:=C) ha he hcl.1 hdt hs0 fun p hp=>by
      obtain⟨o2,e2⟩:=lo'.pin p hp
      exact na _ o2 e2
     have S7:cX X.K ml B O' (cL H2 a (.ext fun h=>ML h a C)) σ2 δ1:=S1.same (eL ha)
     refine aJ (X:=X.hnd a) (I7.around rfl) hN hi (.inl hl) (v:= .ref a) rfl (fun s8 I8=> ?_) (.inr hl)
     have S8:=S7.setVa (i:=i) (v:= .ref a) (d:= .exn x) him (.exn hx.at_ dZ fun h z=>z)
     refine Ao (hk a aa s8 _ _ ⟨fun _ _=>False,D.rt,fun _ _=>False,fun _ _=>False⟩ I8 ⟨B,_,_,.rt d δ2,S8,h3,post⟩) (fun f s9 hf=> ?_) fun e s9 he=>(show False from he).elim
     cases f with
     |next=>obtain⟨_,_,_,z⟩:=hf;cases z
     |brk=>obtain⟨_,_,_,z⟩:=hf;cases z
     |cont=>obtain⟨_,_,_,z⟩:=hf;cases z
     |ret u=>
      obtain⟨v,σ9,H9,I9,r9,hD⟩:=hf
      have I9:=I9.back I.ok
      obtain⟨m,hn,_⟩:=id I9.loc
      refine wpAny_nameGoes hl hn (by rw[I9.ok.kind];rfl) fun h' m' ns' sb=> ?_
      exact⟨v,_,H9,I9.unbound ns' sb,r9,hD⟩
end
section
variable{X:Cx}{K:Ae}{ml:List Nat}{e a b c fx:Expr}{es:List Expr}{pa ta ia pb tb ib pf ft fi ps:Bool}{fa fb fe:VF}{B:Bs}{O:Nat->Option Addr}{H H1 H':Hp}{σ:St}{δ δ':Ev}{v:V}{d:eN}{pos:Pos}{R:Str->St->Hp->Prop}
noncomputable def aC:List eN->Option (List Bool)
 |[]=>some []
 | .bl i::ds=>(aC ds).map fun ns=>i::ns
 |_=>none
theorem SO{N:Addr->Prop}: ∀{xs:List V} {ds:List eN} {ns:List Bool},d8 K N H xs ds->aC ds=some ns->xs=ns.map V.bl
 | _,_,_,.nil,h => by cases h;rfl
 | _,_,_,@d8.cons _ _ _ v vs d ds h t,e => by
  cases d with
  |bl k=>
   cases h
   have e:(aC ds).map (fun ks=>k::ks)=some _:=e
   cases h2:aC ds with
   |none=>rw[h2] at e;cases e
   |some ks=>
    rw[h2] at e
    cases e
    rw[SO t h2]
    rfl
  |_=>cases e
noncomputable def OK(n:Bool):List Bool->Option Nat
 |[]=>none
 |i::ns=>if i=n then some 0 else(OK n ns).map (· +1)
theorem TK{n:Bool}: ∀{ns:List Bool} {j:Nat},OK n ns=some j->ns[j]? =some n/\ ∀m,m<j->ns[m]? ≠some n
 | [],_,h => by cases h
 | i :: ns,j,h => by
  unfold OK at h
  split at h
  ·rename_i hi
   cases h
   exact⟨by rw[hi];rfl,fun m hm=>absurd hm (Jt _)⟩
  ·rename_i hi
   cases h1:OK n ns with
   |none=>rw[h1] at h;cases h
   |some k=>
    rw[h1] at h
    cases h
    obtain⟨h2,h3⟩:=TK h1
    refine⟨by simpa using h2,fun m hm=> ?_⟩
    cases m with
    |zero=>simpa using hi
    |succ m=>simpa using h3 m (Nat.lt_of_succ_lt_succ hm)
noncomputable def PN(n:Bool):Value->Bool
 | .bool i=>i==n
 |_=>false
theorem UO: ∀{ns:List Bool} {us:List Value},dG (ns.map V.bl) us->us=ns.map Et
 |[],_,.nil=>rfl
 |i::ns,_,.cons r t=>by rw[UO t];cases r;rfl
def RQ(K:Ae):V->List V->Hp->VK->Prop:=fun x vs H Q=> ∃(l:Addr) (ns:List Bool) (n:Bool) (j:Nat),x= .ref l/\vs=[.bl n]/\aT K H l (ns.map V.bl)/\OK n ns=some j/\Q (.int j) H
def RP(K:Ae):V->List V->Hp->VK->Prop:=fun x vs H Q=> ∃(l:Addr) (ns:List Bool) (n:Bool),x= .ref l/\vs=[.bl n]/\aT K H l (ns.map V.bl)/\Q (.int (ns.count n:Nat)) H
theorem ID{us:List Value}{n:Bool}(r:dG [V.bl n] us):us=[.bool n]:=by
 cases r with
 |cons r t=>cases t;cases r;rfl
theorem LP:DO X "list.index" (RQ X.K):=by
 intro aa s σ H x vs v us Q I rx rv h
 obtain⟨l,ns,n,j,rfl,rfl,hq,hj,q⟩:=h
 cases rx
 obtain rfl:=ID rv
 obtain⟨its,r,⟨o,c,e,hc,hd,bx⟩,hz⟩:=I.list hq
 obtain⟨cls,dd,data,sl⟩:=o
 simp only at hc hd bx
 subst hc hd bx
 have hl:=r.length
 obtain rfl:=UO r
 obtain⟨h1,h2⟩:=TK hj
 have hj':j<ns.length:=(Ah.mp h1).1
 have hsz:ns.length<=16777216:=by rw[Dk] at hz;rw[<- Bg];exact hz
 refine Dn F.slot_list_index ⟨_,e,rfl⟩ F.entry_list_index (F.args_list_index_2 _ _) (SeqAt.list_indexAt l (ns.map Et).toArray c none sl (.bool n) (PN n) j (by simpa using hj') (by omega) ?_ ?_) ⟨e,?_,?_⟩
 ·have : ns[j] = n := by have := Fi hj';rw [h1] at this;exact (Bu this).symm
  simp[PN,this]
 ·intro m hm hmj
  have hm':m<ns.length:=by simpa using hm
  have:=h2 m hmj
  rw[Fi hm'] at this
  simp only[List.getElem_toArray,List.getElem_map,PN]
  exact beq_eq_false_iff_ne.mpr fun z=>this (by rw[z])
 ·intro y hy
  have hy:y∈ns.map Et:=by simpa using hy
  obtain⟨i,_,rfl⟩:=Mb.mp hy
  exact Kd i n
 ·exact⟨.int j,H,I.tok _,⟨_,rfl⟩,q⟩
theorem LO:DO X "list.count" (RP X.K):=by
 intro aa s σ H x vs v us Q I rx rv h
 obtain⟨l,ns,n,rfl,rfl,hq,q⟩:=h
 cases rx
 obtain rfl:=ID rv
 obtain⟨its,r,⟨o,c,e,hc,hd,bx⟩,hz⟩:=I.list hq
 obtain⟨cls,dd,data,sl⟩:=o
 simp only at hc hd bx
 subst hc hd bx
 obtain rfl:=UO r
 refine Dn F.slot_list_count ⟨_,e,rfl⟩ F.entry_list_count (F.args_list_count_2 _ _) (SeqAt.list_countAt l (ns.map Et).toArray c none sl (.bool n) (PN n)) ⟨e,?_,?_⟩
 ·intro y hy
  have hy:y∈ns.map Et:=by simpa using hy
  obtain⟨i,_,rfl⟩:=Mb.mp hy
  exact Kd i n
 ·have lg:(ns.map Et).toArray.toList.countP (PN n)=ns.count n:=by
   rw[List.toList_toArray,List.countP_map]
   rfl
  refine⟨.int (ns.count n:Nat),H,I.tok _,⟨s.toks,?_⟩,q⟩
  rw[lg]
noncomputable def RN:eN->eN->Option eN
 | .lst ds,.bl n=>(aC ds).bind fun ns=>(OK n ns).map fun j=> .int j
 |_,_=>none
noncomputable def RL:eN->eN->Option eN
 | .lst ds,.bl n=>(aC ds).map fun ns=> .int (ns.count n:Nat)
 |_,_=>none
theorem EI{ak af:Pos}{name:Str}{id:String}{r:V->List V->Hp->VK->Prop}{o:eN->eN->Option eN}(hK:X.K=K)(sl:Slot "list" name id) (ty:Lx (.builtin id)=pure (.type "method_descriptor")) (mt:DO X id r)
  (ho: ∀{x y d:eN},o x y=some d-> ∃ds n ns i,x= .lst ds/\y= .bl n/\aC ds=some ns/\d= .int i/\ ∀(H:Hp) (l:Addr) (Q:VK),aT K H l (ns.map V.bl)->Q (.int i) H->r (.ref l) [.bl n] H Q)
  (ha:PE X a (TV K ml pa ta ia fa)) (hb:PE X b (TV K ml pb tb ib fb))
  (ax : Ex a name X.env (eval a X.env) = eval a X.env := by rfl)
  (cf : ((Cu af (starEach (b :: []) X.env)).all (fun x => !x.1) && (Gj af (Eg [] X.env)).all (fun x => x.1.isSome)
   && decide ((b::([]:List Expr)).length+([]:List Gb).length+(if([]:List Gb).isEmpty then 0 else 1)<30))=true:=by rfl)
  (aw : (ak.endLine == af.line) = true := by rfl) (hs : starEach (b :: []) X.env = (false,eval b X.env) :: starEach [] X.env := by rfl) (ao : (Cu af (starEach [] X.env)).any (·.1) = false := by rfl) (hl : (pb || (ta && ia)) = true := by rfl) :
  PE X (.Call (.Attribute a name ak) [b] [] af) (TV K ml (pa && pb) true true (f2 o fa fb)):=
 (kBm (K := K) hK Ir sl ty mt ha (cT hb bR hs) ax cf aw hs ao).imp fun σ H Q q0 => by
  obtain⟨B,O,δ,d,δ2,S,q,k⟩:=q0
  obtain⟨x,δ1,y,h1,h2,h3⟩:=YO q
  obtain⟨ds,n,ns,i,rfl,rfl,h4,rfl,h5⟩:=ho h3
  refine⟨B,O,δ,_,δ1,S,h1,fun v1 H1 R1=> ?_⟩
  obtain⟨l,xs,rfl,sq,_⟩:=R1.rep.lstE
  refine⟨.inl ⟨rfl,xs,sq⟩,B,O,δ1,_,δ2,R1.sta,h2,fun v2 H2 R2=> ?_⟩
  have r2:=R2.rep
  cases r2
  obtain⟨l',xs',e1,sq',r'⟩:=(R2.live hl R1.rep).lstE
  cases e1
  have:=SO r' h4
  subst this
  exact h5 H2 l Q sq' (k _ H2 ⟨R2.sta,R1.frm.trans R2.frm,fun z=>by
   obtain⟨z1,z2⟩:=(Ac _ _).mp z
   exact(R1.pur z1).trans (R2.pur z2),.int _⟩)
theorem IB{x y d:eN}(h:RN x y=some d): ∃ds n ns i,x= .lst ds/\y= .bl n/\aC ds=some ns/\d= .int i/\ ∀(H:Hp) (l:Addr) (Q:VK),aT K H l (ns.map V.bl)->Q (.int i) H->RQ K (.ref l) [.bl n] H Q:=by
 unfold RN at h
 split at h
 ·rename_i ds n
  cases h1:aC ds with
  | none => rw [h1] at h;cases h
  |some ns=>
   rw[h1,Ak] at h
   cases h2:OK n ns with
   |none=>rw[h2] at h;cases h
   |some j=>
    rw[h2] at h
    cases h
    exact⟨ds,n,ns,j,rfl,rfl,h1,rfl,fun H l Q sq q=>⟨l,ns,n,j,rfl,rfl,sq,h2,q⟩⟩
 ·cases h
theorem IA{x y d:eN}(h:RL x y=some d): ∃ds n ns i,x= .lst ds/\y= .bl n/\aC ds=some ns/\d= .int i/\ ∀(H:Hp) (l:Addr) (Q:VK),aT K H l (ns.map V.bl)->Q (.int i) H->RP K (.ref l) [.bl n] H Q:=by
 unfold RL at h
 split at h
 ·rename_i ds n
  cases h1:aC ds with
  |none=>rw[h1] at h;cases h
  |some ns=>
   rw[h1] at h
   cases h
   exact⟨ds,n,ns,_,rfl,rfl,h1,rfl,fun H l Q sq q=>⟨l,ns,n,rfl,rfl,sq,q⟩⟩
 ·cases h
theorem E9(h:X.K=K):DO X "list.index" (RQ K):=by subst h;exact LP
theorem E8(h:X.K=K):DO X "list.count" (RP K):=by subst h;exact LO
def CP(K:Ae):RC:=fun xs H Q=> ∃a C φ u k,xs=[.ref a,u]/\H a=some (.ext φ)/\(∀h,φ h->ML h a C)/\XA K C/\(Pa K C).isSome=true/\((∃D,u= .ref D/\Gi K (.ref C) (.ref D)=some k)∨ ∃n,u= .ty n/\Gi K (.ref C) (.type n)=some k)/\Q (.bl k) H
theorem HA:cI X (.builtin "isinstance") (CP X.K):=by
 intro aa s σ H xs us Q I r h
 obtain⟨a,C,φ,u,k,rfl,hH,hφ,xa,hc,hk,q⟩:=h
 obtain⟨v,c,rfl,rx,rc⟩:=NM r
 cases rx
 obtain⟨o,vs,e1,e2,_⟩:=hφ _ (I.hok a _ hH).1
 have fin: ∀tk,EP X aa σ Q (.bool k) {s with toks:=tk}:=fun tk=>⟨.bl k,H,I.tok tk,rfl,q⟩
 rcases hk with⟨D,rfl,hk⟩|⟨n,rfl,hk⟩
 ·cases rc
  exact Dj (PQ xa hc) I.kIn ⟨o,e1,e2⟩ hk (fun z=>nomatch z) fin
 ·cases rc
  exact Dj (PQ xa hc) I.kIn ⟨o,e1,e2⟩ hk (fun z=>nomatch z) fin
theorem X1(h:X.K=K):cI X (.builtin "isinstance") (CP K):=by subst h;exact HA
structure XI(K:Ae)(cs all:List Str):Prop where
 own: ∀c∈cs,∃C,XC K c C
 isi: ∀c∈cs,∀C,Ep K mainGlobals c=some (some (.ref C))-> ∀x∈all,∃D,Ep K mainGlobals x=some (some (.ref D))/\Gi K (.ref C) (.ref D)=some (decide (c=x))
 val: ∀c∈cs,∀C,Ep K mainGlobals c=some (some (.ref C))->Gi K (.ref C) (.type "ValueError")=some true
noncomputable def YS(cs all:List Str):eN->eN->Option eN
 | .exn c,.fn x=>if c∈cs/\x∈all then some (.bl (decide (c=x))) else none
 | .exn c,.ty n=>if c∈cs/\n= "ValueError" then some (.bl true) else none
 |_,_=>none
theorem aI{cs all:List Str}(F:XI K cs all):SF K (CP K) (YS cs all):=by
 intro H N N' M M' x y d e c Q hx hy h k
 unfold YS at h
 split at h
 ·rename_i c0 x0
  split at h
  ·rename_i hm
   cases h
   cases hx with
   |exn hn hH hφ=>
    cases hy with
    |fn hf=>
     obtain⟨C',hC⟩:=F.own _ hm.1
     have:=hn.symm.trans hC.at_
     cases this
     obtain⟨D,hD,hk⟩:=F.isi _ hm.1 _ hn _ hm.2
     have:=hf.symm.trans hD
     cases this
     exact⟨_,_,_,_,_,rfl,hH,hφ,hC.att,hC.cls,.inl ⟨_,rfl,hk⟩,k _ fun _ _ _=> .bl _⟩
  ·cases h
 ·rename_i c0 n0
  split at h
  ·rename_i hm
   cases h
   obtain⟨hm,rfl⟩:=hm
   cases hx with
   |exn hn hH hφ=>
    cases hy
    obtain⟨C',hC⟩:=F.own _ hm
    have:=hn.symm.trans hC.at_
    cases this
    exact⟨_,_,_,_,_,rfl,hH,hφ,hC.att,hC.cls,.inr ⟨_,rfl,F.val _ hm _ hn⟩,k _ fun _ _ _=> .bl _⟩
  ·cases h
 ·cases h
theorem IH{tf:TE}{t:TA}(hf:PE X fx tf)(ha:PA X (e::es) t)
  (hc:eval (.Call fx (e::es) [] pos) X.env=(do callWith pos (<- eval fx X.env) [] (Cu pos (starEach (e::es) X.env)) (Gj pos (Eg [] X.env))):=by rfl)
  (he:starEach (e::es) X.env=(false,eval e X.env)::starEach es X.env:=by rfl) (hpl:(Cu pos (starEach es X.env)).any (·.1)=false:=by rfl):
  PE X (.Call fx (e::es) [] pos) (C4 X tf t):=by
 intro aa s σ H Q I h
 rw[hc]
 refine Aa (bS (hf aa s σ H _ I h) fun u s1 ⟨x,H1,I1,rx,f,sp,ex,F,q⟩=> ?_)
 subst ex
 obtain rfl:u=Bf f:=rx
 obtain⟨k,fd,qs,F,hr,hk,hb⟩:=F
 refine Hl (h₀:=X.base) I.ok.mod.kin hk (bS (ha pos aa s1 σ H1 _ I1 q) fun us s2 ⟨vs,H2,I2,r,q2⟩=>⟨I2.kIn,JH (dvs:=[]) (ds:=[]) F hr hb .nil D0 I2 r ?_⟩) he hpl
 rwa[Cg]
noncomputable def N3(n:Nat)(mF:List Nat)(tb:List (Str×cZ))(fe:VF)(fs:UN):VF:=fun δ=>match fe δ with
 |some (.fn x,δ1)=>(QG tb x).bind fun F=>eA n mF F fs δ1
 |_=>none
theorem J1{n:Nat}{mF:List Nat}{tb:List (Str×cZ)}{fs:UN}(ht:MQ X K mF n tb)(hf:PE X fx (TV K ml pf ft fi fe))(ha:PA X (e::es) (MP K ml ps fs))
  (hc : eval (.Call fx (e :: es) [] pos) X.env = (do callWith pos (<- eval fx X.env) [] (Cu pos (starEach (e :: es) X.env)) (Gj pos (Eg [] X.env))) := by rfl)
  (he : starEach (e :: es) X.env = (false,eval e X.env) :: starEach es X.env := by rfl) (hpl : (Cu pos (starEach es X.env)).any (·.1) = false := by rfl) :
  PE X (.Call fx (e::es) [] pos) (TV K ml false true true (N3 n mF tb fe fs)):=(IH hf ha hc he hpl).imp fun σ H Q h=>by
 obtain⟨B,O,δ,d,δ',S,q,k⟩:=h
 unfold N3 at q
 split at q
 ·rename_i x δ1 hx
  cases hF:QG tb x with
  | none => rw [hF] at q;cases q
  |some F=>
   rw[hF] at q
   refine⟨B,O,δ,_,δ1,S,hx,fun v H1 R1=> ?_⟩
   have r:=R1.rep
   cases r with
   |fn h=>
    refine⟨_,_,rfl,ht x F _ hF h,?_⟩
    obtain⟨B',O',δ2,as,δ3,S',q',k'⟩:=RZ (F:=F) (fs:=fs) (K:=K) (ml:=ml) (ps:=ps) (n:=n) (mF:=mF) (σ:=σ) (H:=H1) (Q:=Q) ⟨B,O,δ1,d,δ',R1.sta,q,fun v H' R'=>k v H' ⟨R'.sta,R1.frm.trans R'.frm,(fun z=>nomatch z),R'.rep⟩⟩
    exact⟨B',O',δ2,as,δ3,S',q',fun vs H' R=>by have z:spV K mF n F (vs++[]) H' Q E0:=k' vs H' R;rwa[Cg] at z⟩
 ·cases q
noncomputable def VC:List (Str×(List eN->Option Str))->Str->Option (List eN->Option Str)
 |[],_=>none
 |(y,F)::r,x=>if y=x then some F else VC r x
def EO(X:Cx)(K:Ae)(n:Nat)(tb:List (Str×(List eN->Option Str))):Prop:= ∀x F a,VC tb x=some F->Ep K mainGlobals x=some (some (.ref a))→
 ∃(k:Nat) (fd:Ch) (qs:List Str),cQ X.prog X.w X.K X.mg X.base (NQ X.prog X.w) k a fd qs (GR K n F)/\b7 k X.A/\Fq X.K (.ref a)=true/\YJ X.K fd qs []
theorem JW{n:Nat}:EO X K n []:=fun _ _ _ h=>nomatch h
theorem WW{x:Str}{kk j:Nat}{qs:List Str}{F:List eN->Option Str}{ff:Addr}{tb:List (Str×(List eN->Option Str))}(hK:X.K=K)(hm: ∀x a,Ep K mainGlobals x=some (some (.ref a))->X.mg x=some (.ref a))(hr:b7 j X.A)
  (D:UJ X.prog X.w K X.mg X.base x kk qs F ff) (hk:kk<=j) (t:EO X K qs.length tb):EO X K qs.length ((x,F)::tb):=fun y G a h1 h2=>by
 unfold VC at h1
 split at h1
 ·rename_i hxy
  subst hxy
  cases h1
  have e:=(hm x a h2).symm.trans D.at_
  cases e
  subst hK
  obtain⟨fd,F,Bd⟩:=D.ok
  exact⟨kk,fd,qs,F,hr.mono hk,D.kp,Bd⟩
 ·exact t y G a h1 h2
noncomputable def OZ(n:Nat)(tb:List (Str×(List eN->Option Str)))(fe:VF)(fs:UN):VZ:=fun δ=>match fe δ with
 |some (.fn x,δ1)=>(VC tb x).bind fun F=>QN n F fs δ1
 |_=>none
theorem J8{n:Nat}{tb:List (Str×(List eN->Option Str))}{fs:UN}(hz:RzF X R)(hK:X.K=K)(hex:X.ex=[])(ht:EO X K n tb)(hf:PE X fx (TV K ml pf ft fi fe))(ha:PA X (e::es) (MP K ml ps fs))
  (hc : eval (.Call fx (e :: es) [] pos) X.env = (do callWith pos (<- eval fx X.env) [] (Cu pos (starEach (e :: es) X.env)) (Gj pos (Eg [] X.env))) := by rfl)
  (he : starEach (e :: es) X.env = (false,eval e X.env) :: starEach es X.env := by rfl) (hpl : (Cu pos (starEach es X.env)).any (·.1) = false := by rfl) :
  PE X (.Call fx (e::es) [] pos) (ZE R K ml (OZ n tb fe fs)):=by
 intro aa s σ H Q I h
 obtain⟨B,O,δ,x0,δ',S,q,k⟩:=h
 unfold OZ at q
 split at q
 ·rename_i x δ1 hx
  cases hF:VC tb x with
  | none => rw [hF] at q;cases q
  |some XF=>
   rw[hF,Ak] at q
   rw[hc]
   refine Aa (bS (hf aa s σ H (fun v H1=> ∃a,v= .ref a/\Ep K mainGlobals x=some (some (.ref a))/\cX K ml B O H1 σ δ1) I ⟨B,O,δ,_,δ1,S,hx,fun v H1 R1=> ?_⟩) fun u s1 hq=> ?_)
   ·have r:=R1.rep
    cases r with
    |fn h=>exact⟨_,rfl,h,R1.sta⟩
   ·obtain⟨v,H1,I1,rx,a,rfl,hn,S1⟩:=hq
    obtain rfl:u=Bf a:=rx
    obtain⟨kk,fd,qs,F,hr,hkp,hb⟩:=ht x XF a hF hn
    refine Hl (h₀:=X.base) I.ok.mod.kin hkp (bS (ha pos aa s1 σ H1 _ I1 (NL (ps:=ps) (Q:=Q) hz hK hex ⟨B,O,δ1,x0,δ',S1,q,k⟩)) fun us s2 hq=> ?_) he hpl
    obtain⟨vs,H2,I2,rv,E,hE,hs⟩:=hq
    have hl:us.length=qs.length:=by rw[<- rv.length];exact F.len _ _ _ _ hs
    have hb:=hb s2 us I2.kIn (by simpa using hl)
    rw[Cg] at hb
    refine⟨I2.kIn,Li (Em (F.run X.A X.stack s2 H2 ⟨us,[]⟩ us vs Q E hr I2.env0 hb rv hs) fun r s' hq=> ?_)⟩
    cases r with
    |error e'=>exact hE aa s2 e' s' I2 hq
    |ok fl=>cases fl with
     |ret u=>exact I2.after hq
     |next=>cases hq
     |brk=>cases hq
     |cont=>cases hq
 ·cases q
end
theorem LD(l b:Addr)(u v:Array Value)(n m:Nat)(sl:Array (Option Value))(h0: ¬(!u.isEmpty && Ec (u.size+v.size))=true)(h1:u.size<=sizeLine)(h2:(u++v).size<=sizeLine+1):
  Meets (Dy.«list.extend» ⟨[.ref l,.ref b],[]⟩) (fun _ R s=>s.heap.get? l=some ⟨.type "list",none,.seq u n,#[]⟩/\s.heap.get? b=some ⟨.type "list",none,.seq v m,sl⟩/\R (.ok (.ret .none)) {s with heap:=s.heap.update l (Nx fun x=>x++v)}):=
 .of_wp fun prog w A R s h=>by
  obtain⟨hp,g,d,tk,os⟩:=s
  obtain⟨hl,hb,h⟩:=h
  have f1:=Jd
  have f2:=Hz
  have f3:=AutoSeq1.sub_list_list
  have f4:=AutoSeq1.sub_tuple_list
  have f5:=AutoSeq1.sub_list_tuple
  wp_walk using(wpAny_updateSeq hl rfl (hz:=h1) (_hz':=h2)),Dc hl,Dc hb
  exact⟨_,rfl,h⟩
def JC(K:Ae):V->List V->Hp->VK->Prop:=fun x vs H Q=> ∃l b xs zs,x= .ref l/\vs=[.ref b]/\H l=some (.lst xs)/\aT K H b zs/\xs.length+zs.length<=sizeLine/\Q .non (cL H l (.lst (xs++zs)))
theorem FC{X:Cx}:DO X "list.extend" (JC X.K):=by
 intro aa s σ H x vs v us Q I rx rv h
 obtain⟨l,b,xs,zs,rfl,rfl,hH,hB,hz,q⟩:=h
 cases rx
 obtain⟨u,rfl,ru⟩:=rv.one
 cases ru
 obtain⟨z,its,n,r,hl,e⟩:=I.lstM hH
 obtain⟨cb,r2,⟨⟨cls,dd,data,sl⟩,n2,e2,hc,hd,bx⟩,_⟩:=I.list hB
 simp only at hc hd bx
 subst hc hd bx
 have hl2:=r2.length
 have hsz:its.toArray.size+cb.toArray.size<=sizeLine:=by rw[Aj,Aj];omega
 refine Dn F.slot_list_extend ⟨_,e,rfl⟩ F.entry_list_extend (F.args_list_extend_2 _ _) (LD l b its.toArray cb.toArray n n2 sl (by
  rw[HV hsz,Bool.and_false]
  exact Ca) (by rw[Aj];omega) (by rw[Array.size_append];omega)) ⟨e,e2,?_⟩
 refine⟨.non,_,I.lset (its':=its++cb) hH e (by simp) (r.append r2) ?_,rfl,q⟩
 rw[Cn]
 omega
theorem HM{X:Cx}{K:Ae}(h:X.K=K):DO X "list.extend" (JC K):=by subst h;exact FC
noncomputable def HS:List eN->List eN->Option (List eN)
 |ds,[.lst es]=>if ds.length+es.length<=16777216 then some (ds++es) else none
 |_,_=>none
theorem N9{K:Ae}:MuV K (JC K) HS:=by
 intro H N l xs vs ds es ds' Q hl hN rx re h k
 cases re with
 | nil => cases h
 | @cons v vs d es hd t=>
  cases t with
  | cons _ _ => cases d <;> cases h
  |nil=>
   cases d with
   |lst es=>
    simp only[HS] at h
    split at h
    ·rename_i hz
     cases h
     obtain⟨b,zs,rfl,sq,r⟩:=hd.lstE
     exact⟨l,b,xs,zs,rfl,rfl,hl,sq,by rw[rx.length,r.length,Bg];exact hz,k _ _ (rx.append r)⟩
    ·cases h
   |_=>cases h
theorem T7:Bj "ValueError"=some (.type "ValueError"):=by decide+kernel
theorem bG.mark{k:Nat}{A:Bo}(r:bG k A)(h:Option Value):bG k (A.mark h):=⟨r.dp,r.un⟩
noncomputable def xiOk(K:Ae)(cs all:List Str):Bool:=cs.all fun c=>match Ep K mainGlobals c with
 |some (some (.ref C))=>all.all (fun x=>match Ep K mainGlobals x with
  |some (some (.ref D))=>Gi K (.ref C) (.ref D)==some (decide (c=x))
  |_=>false) && Gi K (.ref C) (.type "ValueError")==some true
 |_=>false
theorem XI.of{K:Ae}{cs all:List Str}(own: ∀c∈cs,∃C,XC K c C)(h:xiOk K cs all=true):XI K cs all:=by
 have key: ∀c∈cs,∀C,Ep K mainGlobals c=some (some (.ref C))->(∀x∈all,∃D,Ep K mainGlobals x=some (some (.ref D))/\Gi K (.ref C) (.ref D)=some (decide (c=x)))/\Gi K (.ref C) (.type "ValueError")=some true:=by
  intro c hc C hn
  have:=Cs.mp h c hc
  rw[hn] at this
  simp only[Ac,beq_iff_eq] at this
  refine⟨fun x hx=> ?_,this.2⟩
  have h2:=Cs.mp this.1 x hx
  split at h2
  ·rename_i D hD
   exact⟨D,hD,beq_iff_eq.mp h2⟩
  ·cases h2
 exact⟨own,fun c hc C hn=>(key c hc C hn).1,fun c hc C hn=>(key c hc C hn).2⟩
theorem M6{P:Ar}{w:World}{K:Ae}{mg:Str->Option Value}{base h:Heap}{x:Str}{st:Stmt}{f:Addr}{ps:List Str}{XF:List eN->Option Str}{k:Nat}(X:K.In h)(G:h.Ns mainGlobals mg)(p:A4 K x st f)(ok: ∀{fd:Ch},aW K x x st f fd->cQ P w K mg base (NQ P w) k f fd ps (GR K ps.length XF))
  (hb: ∀{kV doc pm:Value} {an:Option Addr} {cdv ct:Value} (us:List Value),us.length=ps.length->Mo (Ix x x (bU st) (cY st) (eM st) .none kV doc pm an cdv ct) ⟨us,[]⟩=pure (ps.zip us)):UJ P w K mg base x k ps XF f:=by
 obtain⟨oc,od,kV,doc,pm,an,cdv,ct,osl,a,b,c,d⟩:=p
 have U:=RD (st:=st) b c d
 exact⟨Cc X G a,⟨_,ok U,U.binds fun _ _ _ _ _ _=>hb⟩,d⟩
theorem zBI{P:Ar}{w:World}{K:Ae}{mg:Str->Option Value}{base h:Heap}{x:Str}{st:Stmt}{f:Addr}{ps:List Str}{sp:Sp}{k:Nat}(X:K.In h)(G:h.Ns mainGlobals mg)(p:A4 K x st f)(ok: ∀{fd:Ch},aW K x x st f fd->FnH P w K mg base k f fd ps sp)
  (hb: ∀{kV doc pm:Value} {an:Option Addr} {cdv ct:Value} (us:List Value),us.length=ps.length->Mo (Ix x x (bU st) (cY st) (eM st) .none kV doc pm an cdv ct) ⟨us,[]⟩=pure (ps.zip us)):EK P w K mg base x k ps sp f:=by
 obtain⟨oc,od,kV,doc,pm,an,cdv,ct,osl,a,b,c,d⟩:=p
 have U:=RD (st:=st) b c d
 exact⟨Cc X G a,⟨_,ok U,U.binds fun _ _ _ _ _ _=>hb⟩,d⟩
theorem okZ(P:Ar)(w:World)(K:Ae)(mg:Str->Option Value)(base:Heap){x qual:Str}{st:Stmt}{f:Addr}{fd:Ch}(N ps:List Str)(k:Nat)(z:VZ)(F:aW K x qual st f fd)(S:dY N ps (eM st))
  (al: ∀(cdv:Value) (A:Bo) (outer:List Env) (s:Ab) (H:Hp) (E:XK) (hr:b7 k (A.deeper (envOfC qual (eM st) s.heap.objs.size f cdv))) (_:(A.deeper (envOfC qual (eM st) s.heap.objs.size f cdv)).units+64<cLine) (_:(A.deeper (envOfC qual (eM st) s.heap.objs.size f cdv)).units+1<cLine),
   ZQ (W6 (NQ P w) P w K mg base N qual (eM st) f cdv A outer s H E) (cY st) (ZS (rE K E) K [] z)) (hps:ps.length<=N.length:=by decide):cQ P w K mg base (NQ P w) (k+1) f fd ps (GR K ps.length (OO N.length z)):=
 aW.okX F S hps fun cdv A outer s H E hr=>al cdv A outer s H E hr hr.units (DV hr)
theorem okWH(P:Ar)(w:World)(K:Ae)(mg:Str->Option Value)(base:Heap){x qual:Str}{st:Stmt}{f:Addr}{fd:Ch}(N ps:List Str)(k:Nat)(g:VS)(ml:List Nat)(F:aW K x qual st f fd)(S:dY N ps (eM st))
  (al: ∀(cdv:Value) (A:Bo) (outer:List Env) (s:Ab) (H:Hp) (hr:bG k (A.deeper (envOfC qual (eM st) s.heap.objs.size f cdv))) (_:(A.deeper (envOfC qual (eM st) s.heap.objs.size f cdv)).units+64<cLine) (_:(A.deeper (envOfC qual (eM st) s.heap.objs.size f cdv)).units+1<cLine),
   ZQ (cxH P w K mg base N qual (eM st) f cdv A outer s H) (cY st) (W2 K ml g)) (hps:ps.length<=N.length:=by decide):FnH P w K mg base (k+1) f fd ps (spV K ml ps.length (b5 N.length ml g)):=
 aW.okVH F S hps fun cdv A outer s H hr=>al cdv A outer s H hr hr.units hr.unit
noncomputable def ZD{α:Type}(k:Nat)(xs:List α):List α:=(Aq k xs).flatten
theorem U7{α:Type}(k:Nat)(xs:List α):(ZD k xs).length=xs.length*k:=by
 unfold ZD
 induction k with
 |zero=>simp
 |succ k ih=>rw[Eh,Ey,Cn,ih,Nat.mul_succ,Nat.add_comm]
theorem dG.repV{xs:List V}{us:List Value}(r:dG xs us)(k:Nat):dG (ZD k xs) (ZD k us):=by
 unfold ZD
 induction k with
 |zero=>exact .nil
 |succ k ih=>rw[Eh,Eh,Ey,Ey];exact r.append ih
theorem d8.rep{K:Ae}{N:Addr->Prop}{H:Hp}{xs:List V}{ds:List eN}(r:d8 K N H xs ds)(k:Nat):d8 K N H (ZD k xs) (ZD k ds):=by
 unfold ZD
 induction k with
 |zero=>exact .nil
 |succ k ih=>rw[Eh,Eh,Ey,Ey];exact r.append ih
theorem WQ:fillsNumberSlot (.type "tuple") "mul"=pure false:=
 PySem.fillsNumberSlot_seq (id:= "tuple.__mul__") (r:=some (.builtin "tuple.__rmul__")) F.slot_tuple_mul.lookup (by decide+kernel) F.slot_tuple_rmul.lookup (by decide+kernel)
theorem RS:seqRepeat? (.type "tuple")=pure (some (.builtin "tuple.__mul__")):=by
 unfold seqRepeat?
 rw[Mk (T:= "tuple") (name:= "__mul__") (id:= "tuple.__mul__") F.slot_tuple_mul.lookup (by decide+kernel),Mk (T:= "tuple") (name:= "__rmul__") (id:= "tuple.__rmul__") F.slot_tuple_rmul.lookup (by decide+kernel)]
 rfl
theorem ON(a:Int)(t:Tok)(l:Addr)(u:Array Value)(n:Nat)(dd:Option Addr)(sl:Array (Option Value)):Meets (Dy.«int.__rmul__» ⟨[.int a t,.ref l],[]⟩) (fun _ R s=>s.heap.get? l=some ⟨.type "tuple",dd,.seq u n,sl⟩/\R (.ok (.ret Ka)) s):=
 .of_wp fun prog w A R s h=>by
  obtain⟨hp,g,d,tk,os⟩:=s
  obtain⟨hl,h⟩:=h
  wp_walk
  exact⟨_,rfl,h⟩
theorem OB(l:Addr)(t:Tok)(u:Array Value)(n:Nat)(dd:Option Addr)(sl:Array (Option Value)):Meets (Dy.«tuple.__mul__» ⟨[.ref l,.int 1 t],[]⟩) (fun _ R s=>s.heap.get? l=some ⟨.type "tuple",dd,.seq u n,sl⟩/\R (.ok (.ret (.ref l))) s):=
 .of_wp fun prog w A R s h=>by
  obtain⟨hp,g,d,tk,os⟩:=s
  obtain⟨hl,h⟩:=h
  have f1:=Jd
  unfold Dy.«tuple.__mul__»
  wp_walk using Dc hl
  exact⟨_,rfl,h⟩
theorem OC(l:Addr)(x:Int)(t:Tok)(u:Array Value)(n:Nat)(dd:Option Addr)(sl:Array (Option Value))(h1:1<x)(h2:x<2 ^ 62)(hu:u.isEmpty=false)(hz:u.size*x.toNat<=16777216):Meets (Dy.«tuple.__mul__» ⟨[.ref l,.int x t],[]⟩)
  (fun _ R s => s.heap.get? l = some ⟨.type "tuple",dd,.seq u n,sl⟩ /\ R (.ok (.ret (.ref s.heap.objs.size))) { s with heap := s.heap.push { cls := .type "tuple",data := .seq ((Aq x.toNat u).foldl (· ++ ·) #[]) } }) :=
 .of_wp fun prog w A R s h=>by
  obtain⟨hp,g,d,tk,os⟩:=s
  obtain⟨hl,h⟩:=h
  have f1:=Jd
  unfold Dy.«tuple.__mul__»
  have e1:(decide (x< -2 ^ 63) || decide (x≥2 ^ 63))=false:=by simp;omega
  have e2:(x==1)=false:=by simp;omega
  have e3:decide (x<=0)=false:=by simp;omega
  have e4:(u.size:Int)*x=((u.size*x.toNat:Nat):Int):=by rw[Int.natCast_mul,Int.toNat_of_nonneg (by omega)]
  have e5: ¬((u.size:Int)*x>(2 ^ 63 - 1)/8):=by rw[e4];omega
  have e6:Hi ((u.size:Int)*x)=false:=by rw[e4];unfold Hi;simp only[Bg,decide_eq_false_iff_not];omega
  wp_walk using Dc hl
  rw[e1]
  wp_walk using Dc hl
  simp only[hu,e2,e3,Oi]
  wp_walk
  rw[e6,if_neg e5]
  have e7: ¬(List.foldl (fun x1 x2=>x1++x2) #[] (Aq x.toNat u)).size>sizeLine:=by
   have:=U7 x.toNat u.toList
   unfold ZD at this
   rw[listMul_foldl,Aj]
   show¬([]++(Aq x.toNat u.toList).flatten).length>sizeLine
   rw[List.nil_append,this,Ee,Bg]
   omega
  wp_walk
  exact⟨_,rfl,h⟩
section
variable{X:Cx}{K:Ae}
def D9(K:Ae):R2:=fun x y H Q=> ∃l xs k,x= .ref l/\y= .int k/\aT K H l xs/\(0<=k/\k<2 ^ 62)/\xs.length*k.toNat<=16777216/\ ∀p,H p=none->Q (.ref p) (cL H p (.lst (ZD k.toNat xs)))
theorem FP:aS X (Dq .Mult) (D9 X.K):=by
 intro aa s σ H x y v u Q I rx ry h
 obtain⟨l,xs,x,rfl,rfl,hq,⟨x0,x1⟩,hz,q⟩:=h
 cases rx
 obtain⟨t,rfl⟩:=ry
 obtain⟨its,r,⟨⟨cls,dd,data,sl⟩,n,ho,hc,hd,bx⟩,_⟩:=I.list hq
 simp only at hc hd bx
 subst hc hd bx
 have hl:=r.length
 have hsz:its.toArray.size*x.toNat<=16777216:=by rw[Aj,<- hl];exact hz
 refine Hu (T:= "list") (U:= "int") (by decide) ⟨_,ho,rfl⟩ (fun s'=>Jy s' x t) noFill_list_mul Nm Hc repeat_list F.slot_int_index.lookup
  (Dn Hc (Jy s x t) Ml (Lq _ _) (lm_int_rmul_list_any x t l its.toArray n none sl) ⟨ho,rfl,⟨_,ho,rfl⟩,?_⟩)
 refine Dn F.slot_list_mul ⟨_,ho,rfl⟩ F.entry_list_mul (F.args_list_mul_2 _ _) (lm_list_mul_any l its.toArray n none sl x t (by simp[Builtin.List.listFitsIndex];omega) (by omega) (by simp[Ec,sizeLine];omega)) ⟨ho,?_⟩
 rw[listMul_foldl_if]
 refine⟨.ref s.heap.objs.size,_,I.laid (t':=s.toks) (o:= .lst (ZD x.toNat xs)) (fun b ob e=>Ad _ e) (An _) ?_,rfl,q _ (I.hok.fresh (An _))⟩
 exact⟨by rw[U7,Bg];exact hz,ZD x.toNat its,0,r.repV _,Ap _ rfl⟩
def EA(K:Ae):R2:=fun x y H Q=> ∃l xs k,x= .ref l/\y= .int k/\YW K H l xs/\xs≠[]/\(1<=k/\k<2 ^ 62)/\xs.length*k.toNat<=16777216/\(k=1->Q (.ref l) H)/\ ∀p,H p=none->Q (.ref p) (cL H p (.tup (ZD k.toNat xs)))
theorem FQ:aS X (Dq .Mult) (EA X.K):=by
 intro aa s σ H x y v u Q I rx ry h
 obtain⟨l,xs,x,rfl,rfl,hq,hne,⟨x0,x1⟩,hz,q1,q⟩:=h
 cases rx
 obtain⟨t,rfl⟩:=ry
 obtain⟨its,r,⟨⟨cls,dd,data,sl⟩,ho,hc,n,hd⟩,_⟩:=I.tuple hq
 simp only at hc hd
 subst hc hd
 have hl:=r.length
 have hsz:its.toArray.size*x.toNat<=16777216:=by rw[Aj,<- hl];exact hz
 have hu:its.toArray.isEmpty=false:=by
  cases its with
  |nil=>exact absurd (r.nil_iff.mp rfl) hne
  |cons a b=>rfl
 refine Hu (T:= "tuple") (U:= "int") (by decide) ⟨_,ho,rfl⟩ (fun s'=>Jy s' x t) WQ Nm Hc RS F.slot_int_index.lookup
  (Dn Hc (Jy s x t) Ml (Lq _ _) (ON x t l its.toArray n dd sl) ⟨ho,rfl,⟨_,ho,rfl⟩,?_⟩)
 by_cases hk:x=1
 ·subst hk
  exact Dn Mm ⟨_,ho,rfl⟩ Lr (Ld _ _) (OB l t its.toArray n dd sl) ⟨ho,⟨.ref l,H,I,rfl,q1 rfl⟩⟩
 ·refine Dn Mm ⟨_,ho,rfl⟩ Lr (Ld _ _) (OC l x t its.toArray n dd sl (by omega) x1 hu hsz) ⟨ho,?_⟩
  rw[listMul_foldl]
  refine⟨.ref s.heap.objs.size,_,I.laid (t':=s.toks) (o:= .tup (ZD x.toNat xs)) (fun b ob e=>Ad _ e) (An _) ?_,rfl,q _ (I.hok.fresh (An _))⟩
  exact⟨by rw[U7,Bg];exact hz,ZD x.toNat its,r.repV _,Kw _ _⟩
def D8(K:Ae):R2:=fun x y H Q=>D9 K x y H Q∨EA K x y H Q
theorem kRep(h:X.K=K):aS X (Dq .Mult) (D8 K):=by subst h;exact FP.or FQ
noncomputable def NA:eN->eN->Option eN
 | .lst ds,.int k=>if(0<=k/\k<2 ^ 62)/\ds.length*k.toNat<=16777216 then some (.lst (ZD k.toNat ds)) else none
 | .tup (d::ds),.int k=>if(1<=k/\k<2 ^ 62)/\(ds.length+1)*k.toNat<=16777216 then some (.tup (ZD k.toNat (d::ds))) else none
 |_,_=>none
theorem zC9:OpC K (D8 K) NA:=by
 intro H N M M' x y d e c Q hx hy h k
 cases d with
 |lst ds=>
  cases e with
  |int i=>
   simp only[NA] at h
   split at h
   ·rename_i hz
    cases h
    obtain⟨a,xs,rfl,q1,r1⟩:=hx.lstE
    cases hy
    exact .inl ⟨a,xs,i,rfl,rfl,q1,hz.1,by rw[r1.length];exact hz.2,fun p hp=>k _ _ (eL hp) fun M hM=> .lst dZ (fun z=>by
     obtain⟨o,q⟩:=hM _ z
     rw[hp] at q
     cases q) ((r1.rep _).same (eL hp))⟩
   ·cases h
  | _ => cases h
 |tup ds=>
  cases ds with
  | nil => cases h
  |cons d ds=>
   cases e with
   |int i=>
    simp only[NA] at h
    split at h
    ·rename_i hz
     cases h
     obtain⟨a,xs,rfl,q1,r1⟩:=hx.tupE
     cases hy
     refine .inr ⟨a,xs,i,rfl,rfl,q1,fun z=> ?_,hz.1,by rw[r1.length];exact hz.2,fun z=> ?_,fun p hp=>k _ _ (eL hp) fun M hM=> .tup (YW.of dZ) ((r1.rep _).same (eL hp))⟩
     ·subst z
      cases r1
     ·subst z
      refine k _ _ (cM.refl _) fun M hM=> ?_
      rw[show ZD (1:Int).toNat (d::ds)=d::ds by simp[ZD]]
      exact .tup q1 r1
    ·cases h
   |_=>cases h
 |_=>cases h
end
noncomputable def LL:Expr->Option eN
 | .Constant (.int i) _ _=>some (.int i)
 | .Constant (.bool i) _ _=>some (.bl i)
 | .Constant (.str i) _ _=>some (.str i)
 | .Constant .none _ _=>some .non
 | .UnaryOp .USub (.Constant (.int i) _ _) _=>some (.int (-i))
 |_=>none
noncomputable def UE(f:Expr->Option eN):List Expr->Option (List eN)
 |[]=>some []
 |e::es=>(f e).bind fun d=>(UE f es).map fun ds=>d::ds
noncomputable def PU:Nat->Expr->Option eN
 |0,e=>LL e
 |k+1,e=>match e with
  | .Tuple es _ _=>(UE (PU k) es).bind fun ds=>if ds.length<=16777216 then some (.tup ds) else none
  | .List es _=>(UE (PU k) es).bind fun ds=>if ds.length<=16777216 then some (.lst ds) else none
  |e=>LL e
section
variable{X:Cx}{K:Ae}{ml:List Nat}
theorem M5{e:Expr}{d:eN}(h:LL e=some d):PE X e (TV K ml true true true (fC d)):=by
 unfold LL at h
 split at h
 ·cases h;exact eC
 ·cases h;exact b4
 ·cases h;exact dI
 ·cases h;exact bE
 ·cases h;exact J4 eC
 ·cases h
theorem TC{e:Expr}{es:List Expr}{d:eN}(h:LL e=some d):starEach (e::es) X.env=(false,eval e X.env)::starEach es X.env:=by
 unfold LL at h
 split at h<;>first
  |rfl
  |cases h
theorem RJ{f:Expr->Option eN}(hf: ∀e d,f e=some d->PE X e (TV K ml true true true (fC d))/\ ∀es,starEach (e::es) X.env=(false,eval e X.env)::starEach es X.env): ∀{es:List Expr} {ds:List eN},UE f es=some ds->PA X es (G2 K ml true true fun δ=>some (ds,δ))
 | [],_,h => by
  cases h
  exact dN
 | e :: es,ds,h => by
  have h:((f e).bind fun d=>(UE f es).map fun ds=>d::ds)=some ds:=h
  cases h1:f e with
  | none => rw [h1] at h;cases h
  |some d=>
   rw[h1] at h
   have h:(UE f es).map (fun ds=>d::ds)=some ds:=h
   cases h2:UE f es with
   |none=>rw[h2] at h;cases h
   |some ds'=>
    rw[h2] at h
    cases h
    obtain⟨a,b⟩:=hf e d h1
    exact eI a (RJ hf h2) (b es)
theorem RI: ∀{k:Nat} {e:Expr} {d:eN},PU k e=some d->PE X e (TV K ml true true true (fC d))/\ ∀es,starEach (e::es) X.env=(false,eval e X.env)::starEach es X.env
 | 0,e,d,h => ⟨M5 h,fun es => TC h⟩
 | k + 1,e,d,h => by
  have hl: ∀(es:List Expr) (g:List eN->eN) (fg:VQ->VF),(∀fs δ,fg fs δ=(fs δ).bind fun p=>if p.1.length<=16777216 then some (g p.1,p.2) else none)->((UE (PU k) es).bind fun ds=>if ds.length<=16777216 then some (g ds) else none)=some d-> ∃ds,PA X es (G2 K ml true true fun δ=>some (ds,δ))/\fg (fun δ=>some (ds,δ))=fC d:=by
   intro es g fg hg h
   cases h1:UE (PU k) es with
   | none => rw [h1] at h;cases h
   |some ds=>
    rw[h1] at h
    have h:(if ds.length<=16777216 then some (g ds) else none)=some d:=h
    split at h
    ·rename_i hz
     cases h
     refine⟨ds,RJ (fun e d=>RI) h1,funext fun δ=> ?_⟩
     rw[hg]
     show(if ds.length<=16777216 then some (g ds,δ) else none)=_
     rw[if_pos hz]
     rfl
    ·cases h
  unfold PU at h
  split at h
  ·rename_i es x1 pos
   obtain⟨ds,a,b⟩:=hl es .tup aF (fun _ _=>rfl) h
   exact⟨b▸bT a,fun _=>rfl⟩
  ·rename_i es pos
   obtain⟨ds,a,b⟩:=hl es .lst aD (fun _ _=>rfl) h
   exact⟨b▸DD a,fun _=>rfl⟩
  ·exact⟨M5 h,fun es=>TC h⟩
theorem VJ{k:Nat}{e:Expr}{d:eN}(h:PU k e=some d):PE X e (TV K ml true true true (fC d)):=(RI h).1
theorem ZH{k:Nat}{es:List Expr}{pos:Pos}{ds:List eN}(h:UE (PU k) es=some ds)(hz:ds.length<=16777216):PE X (.List es pos) (TN K ml true (fC (.lst ds))):=by
 have a:=bZ (pos:=pos) (RJ (X:=X) (K:=K) (ml:=ml) (fun e d=>RI (k:=k)) h)
 have b:aD (fun δ=>some (ds,δ))=fC (.lst ds):=funext fun δ=>by
  show(if ds.length<=16777216 then some (eN.lst ds,δ) else none)=_
  rw[if_pos hz]
  rfl
 exact b▸a
end
section
variable{X:Cx}{K:Ae}{ml:List Nat}{e a b c:Expr}{es:List Expr}{pa ta ia pb tb ib pc tc ic pu bt bi ps bs:Bool}{fa fb fc f:VF}{B B':Bs}{O:Nat->Option Addr}{H H1 H':Hp}{σ:St}{δ δ':Ev}{v:V}{d:eN}{pos:Pos}{st:Stmt}{rest:List Stmt}{g g':VS}{z z':VZ}{R:Str->St->Hp->Prop}
theorem MI{sts:List Stmt}:ZQ X sts (W2 K ml fun _=>none):=fun _ _ _ _ _ _ ⟨_,_,_,_,_,q,_⟩=>nomatch q
end
end L2
namespace L2
open PySem
section
variable{α β:Type}{d x y z c:eN}{δ δ1 δ':Ev}{fa fb fc:VF}{o o':eN->eN->Option eN}{i j k n:Nat}{s:Sl}{b:Bool}{ds:List eN}
noncomputable def q0(r:Option α)(δ:Ev):Option (α×Ev):=r.map fun c=>(c,δ)
@[simp] theorem q0_s{a:α}:q0 (some a) δ=some (a,δ):=rfl
@[simp] theorem fC_e:fC d δ=some (d,δ):=rfl
noncomputable def qV:Option Sl->Ev->Option (eN×Ev)
 |some (.va d),δ=>some (d,δ)
 |_,_=>none
noncomputable def qO:Option Sl->Ev->Option (eN×Ev)
 |some (.va d),δ=>some (d,δ)
 |some (.ow d),δ=>some (d,δ)
 |_,_=>none
@[simp] theorem fV_e:fV i δ=qV δ[i]? δ:=by unfold fV qV;split<;>simp_all
@[simp] theorem fO_e:fO i δ=qO δ[i]? δ:=by unfold fO qO;split<;>simp_all
@[simp] theorem qV_s:qV (some (.va d)) δ=some (d,δ):=rfl
@[simp] theorem qO_v:qO (some (.va d)) δ=some (d,δ):=rfl
@[simp] theorem qO_o:qO (some (.ow d)) δ=some (d,δ):=rfl
noncomputable def q1(o:eN->Option eN)(r:Option (eN×Ev)):Option (eN×Ev):=r.bind fun p=>q0 (o p.1) p.2
@[simp] theorem f1_e{o:eN->Option eN}:f1 o fa δ=q1 o (fa δ):=rfl
@[simp] theorem q1_s{o:eN->Option eN}:q1 o (some (x,δ))=q0 (o x) δ:=rfl
noncomputable def q2(o:eN->eN->Option eN)(r:Option (eN×Ev))(fb:VF):Option (eN×Ev):=r.bind fun p=>(fb p.2).bind fun q=>q0 (o p.1 q.1) q.2
noncomputable def q2b(o:eN->eN->Option eN)(x:eN)(r:Option (eN×Ev)):Option (eN×Ev):=r.bind fun q=>q0 (o x q.1) q.2
@[simp] theorem f2_e:f2 o fa fb δ=q2 o (fa δ) fb:=rfl
@[simp] theorem q2_s:q2 o (some (x,δ)) fb=q2b o x (fb δ):=rfl
@[simp] theorem zF7:q2b o x (some (y,δ))=q0 (o x y) δ:=rfl
noncomputable def q3(o o':eN->eN->Option eN)(r:Option (eN×Ev))(fb fc:VF):Option (eN×Ev):=r.bind fun p=>(fb p.2).bind fun q=>(o p.1 q.1).bind fun z=>match z with
 | .bl true=>(fc q.2).bind fun s=>(o' q.1 s.1).map fun u=>(u,s.2)
 | .bl false=>some (.bl false,q.2)
 |_=>none
noncomputable def q3b(o o':eN->eN->Option eN)(x:eN)(r:Option (eN×Ev))(fc:VF):Option (eN×Ev):=q3 o o' (some (x,[])) (fun _=>r) fc
@[simp] theorem f3_e:f3 o o' fa fb fc δ=q3 o o' (fa δ) fb fc:=rfl
@[simp] theorem q3_s:q3 o o' (some (x,δ)) fb fc=q3b o o' x (fb δ) fc:=rfl
noncomputable def qc(r:Option (eN×Ev))(fs:VQ):Option (List eN×Ev):=r.bind fun p=>(fs p.2).map fun q=>(p.1::q.1,q.2)
noncomputable def qcb(x:eN)(r:Option (List eN×Ev)):Option (List eN×Ev):=r.map fun q=>(x::q.1,q.2)
@[simp] theorem zEB:cN δ=some ([],δ):=rfl
@[simp] theorem zCI{fs:VQ}:eE fa fs δ=qc (fa δ) fs:=rfl
@[simp] theorem qc_s{fs:VQ}:qc (some (x,δ)) fs=qcb x (fs δ):=rfl
@[simp] theorem zEY:qcb x (some (ds,δ))=some (x::ds,δ):=rfl
noncomputable def qT(g:List eN->eN)(r:Option (List eN×Ev)):Option (eN×Ev):=r.bind fun p=>if p.1.length<=16777216 then some (g p.1,p.2) else none
@[simp] theorem zEA{fs:VQ}:aF fs δ=qT .tup (fs δ):=rfl
@[simp] theorem zEC{fs:VQ}:aD fs δ=qT .lst (fs δ):=rfl
@[simp] theorem qT_s{g:List eN->eN}:qT g (some (ds,δ))=if ds.length<=16777216 then some (g ds,δ) else none:=rfl
noncomputable def qB:Option (eN×Ev)->Option (Bool×Ev)
 |some (.bl k,δ)=>some (k,δ)
 |_=>none
@[simp] theorem fB_e:fB fa δ=qB (fa δ):=by
 unfold fB qB
 cases fa δ with
 |none=>rfl
 |some p=>
  obtain⟨d,e⟩:=p
  cases d<;>rfl
@[simp] theorem qB_s:qB (some (.bl b,δ))=some (b,δ):=rfl
variable{tb tb':VB}{g g':VS}
noncomputable def qOr(r:Option (Bool×Ev))(y:VB):Option (Bool×Ev):=r.bind fun p=>if p.1=true then some (true,p.2) else y p.2
noncomputable def qNot(r:Option (Bool×Ev)):Option (Bool×Ev):=r.map fun p=>(!p.1,p.2)
@[simp] theorem zFN:QZ tb tb' δ=qOr (tb δ) tb':=rfl
@[simp] theorem zEF:bW tb δ=qNot (tb δ):=rfl
@[simp] theorem zEE:Y6 δ=some (true,δ):=rfl
@[simp] theorem zF0:qOr (some (true,δ)) tb=some (true,δ):=rfl
@[simp] theorem zF1:qOr (some (false,δ)) tb=tb δ:=rfl
@[simp] theorem zDH:qNot (some (b,δ))=some (!b,δ):=rfl
noncomputable def qA(r:Option (eN×Ev))(y:VF):Option (eN×Ev):=r.bind fun p=>match p.1 with
 | .bl true=>y p.2
 | .bl false=>some (.bl false,p.2)
 |_=>none
@[simp] theorem zED:PK fa fb δ=qA (fa δ) fb:=rfl
@[simp] theorem qA_t:qA (some (.bl true,δ)) fb=fb δ:=rfl
@[simp] theorem qA_f:qA (some (.bl false,δ)) fb=some (.bl false,δ):=rfl
noncomputable def qI(r:Option (Bool×Ev))(x y:VF):Option (eN×Ev):=r.bind fun p=>if p.1=true then x p.2 else y p.2
@[simp] theorem zFM:DS tb fa fb δ=qI (tb δ) fa fb:=rfl
@[simp] theorem qI_t:qI (some (true,δ)) fa fb=fa δ:=rfl
@[simp] theorem qI_f:qI (some (false,δ)) fa fb=fb δ:=rfl
noncomputable def qS(r:Option Ou)(g:VS):Option Ou:=r.bind fun o=>match o with
 | .nx δ'=>g δ'
 |o=>some o
@[simp] theorem zD0:cG δ=some (.nx δ):=rfl
@[simp] theorem bK:dO g g' δ=qS (g δ) g':=rfl
@[simp] theorem XJ:qS (some (.nx δ)) g=g δ:=rfl
@[simp] theorem qS_r:qS (some (.rt d δ)) g=some (.rt d δ):=rfl
@[simp] theorem qS_b:qS (some (.bk δ)) g=some (.bk δ):=rfl
@[simp] theorem qS_c:qS (some (.ct δ)) g=some (.ct δ):=rfl
noncomputable def qJ(r:Option (Bool×Ev))(x y:VS):Option Ou:=r.bind fun p=>if p.1=true then x p.2 else y p.2
@[simp] theorem zEG:ZR tb g g' δ=qJ (tb δ) g g':=rfl
@[simp] theorem qJ_t:qJ (some (true,δ)) g g'=g δ:=rfl
@[simp] theorem qJ_f:qJ (some (false,δ)) g g'=g' δ:=rfl
noncomputable def qRet(r:Option (eN×Ev)):Option Ou:=r.map fun p=> .rt p.1 p.2
@[simp] theorem zCZ:dE fa δ=qRet (fa δ):=rfl
@[simp] theorem zDG:qRet (some (d,δ))=some (.rt d δ):=rfl
noncomputable def qx(f:eN->Sl)(r:Option (eN×Ev)):Option (Sl×Ev):=r.map fun p=>(f p.1,p.2)
@[simp] theorem xV_e:xV fa δ=qx .va (fa δ):=rfl
@[simp] theorem xO_e:xO fa δ=qx .ow (fa δ):=rfl
@[simp] theorem qx_s{f:eN->Sl}:qx f (some (d,δ))=some (f d,δ):=rfl
noncomputable def qSet(i:Nat)(r:Option (Sl×Ev)):Option Ou:=r.bind fun p=>if i<p.2.length then some (.nx (p.2.set i p.1)) else none
@[simp] theorem zCY{x:VX}:b9 i x δ=qSet i (x δ):=rfl
@[simp] theorem zDD:qSet i (some (s,δ))=if i<δ.length then some (.nx (δ.set i s)) else none:=rfl
@[simp] theorem gN_e:gN i d δ=some (δ.set i (.va d)):=rfl
noncomputable def qg(r:Option Ev)(gs:KL)(ds:List eN):Option Ev:=r.bind fun δ1=>gs ds δ1
@[simp] theorem zCH:PM [] δ=some δ:=rfl
@[simp] theorem zBU{gg:VG}{gs:KL}:YR gg gs (d::ds) δ=qg (gg d δ) gs ds:=rfl
@[simp] theorem qg_s{gs:KL}:qg (some δ) gs ds=gs ds δ:=rfl
@[simp] theorem zFJ{gs:KL}:AT n gs (.tup ds) δ=if ds.length=n then gs ds δ else none:=rfl
@[simp] theorem zFK{gs:KL}:AT n gs (.lst ds) δ=if ds.length=n then gs ds δ else none:=rfl
noncomputable def qAsg(r:Option (eN×Ev))(gg:VG):Option Ou:=r.bind fun p=>(gg p.1 p.2).map Ou.nx
@[simp] theorem zD3{gg:VG}:F9 fa gg δ=qAsg (fa δ) gg:=rfl
@[simp] theorem zDI{gg:VG}:qAsg (some (d,δ)) gg=(gg d δ).map Ou.nx:=rfl
noncomputable def qM(i:Nat)(m:List eN->List eN->Option (List eN))(r:Option (List eN))(δ:Ev)(fs:VQ):Option Ou:=r.bind fun _=>(fs δ).bind fun p=>(XE p.2 i).bind fun ds=>(m ds p.1).map fun ds'=> .nx (p.2.set i (.ow (.lst ds')))
noncomputable def qMb(i:Nat)(m:List eN->List eN->Option (List eN))(r:Option (List eN×Ev)):Option Ou:=r.bind fun p=>(XE p.2 i).bind fun ds=>(m ds p.1).map fun ds'=> .nx (p.2.set i (.ow (.lst ds')))
noncomputable def qMc(i:Nat)(m:List eN->List eN->Option (List eN))(es:List eN)(δ:Ev)(r:Option (List eN)):Option Ou:=r.bind fun ds=>(m ds es).map fun ds'=> .nx (δ.set i (.ow (.lst ds')))
noncomputable def qMd(i:Nat)(δ:Ev)(r:Option (List eN)):Option Ou:=r.map fun ds'=> .nx (δ.set i (.ow (.lst ds')))
@[simp] theorem zD1{m:List eN->List eN->Option (List eN)}{fs:VQ}:RT i m fs δ=qM i m (XE δ i) δ fs:=rfl
@[simp] theorem qM_s{m:List eN->List eN->Option (List eN)}{fs:VQ}:qM i m (some ds) δ fs=qMb i m (fs δ):=rfl
@[simp] theorem zF5{m:List eN->List eN->Option (List eN)}{es:List eN}:qMb i m (some (es,δ))=qMc i m es δ (XE δ i):=rfl
@[simp] theorem zF4{m:List eN->List eN->Option (List eN)}{es:List eN}:qMc i m es δ (some ds)=qMd i δ (m ds es):=rfl
@[simp] theorem zF3:qMd i δ (some ds)=some (.nx (δ.set i (.ow (.lst ds)))):=rfl
noncomputable def qOl:Option Sl->Option (List eN)
 |some (.ow (.lst ds))=>some ds
 |_=>none
@[simp] theorem zDL:XE δ i=qOl δ[i]? :=by unfold XE qOl;split<;>simp_all
@[simp] theorem zF2:qOl (some (.ow (.lst ds)))=some ds:=rfl
@[simp] theorem zE0:LN ds [d]=if ds.length<16777216 then some (ds++[d]) else none:=rfl
noncomputable def qi(r:Option (eN×Ev)):Option (List eN×Ev):=r.bind fun p=>(a5 p.1).map fun ds=>(ds,p.2)
@[simp] theorem zE7:YX fa δ=qi (fa δ):=rfl
@[simp] theorem qi_t:qi (some (.tup ds,δ))=some (ds,δ):=rfl
@[simp] theorem qi_l:qi (some (.lst ds,δ))=some (ds,δ):=rfl
noncomputable def qr1:Option (eN×Ev)->Option (List eN×Ev)
 |some (.int j,δ)=>if -4611686018427387904<=j/\j<4611686018427387904 then some (YB 0 j.toNat,δ) else none
 |_=>none
@[simp] theorem zFI:iR1 fa δ=qr1 (fa δ):=by
 unfold iR1 qr1
 cases fa δ with
 |none=>rfl
 |some p=>
  obtain⟨d,e⟩:=p
  cases d<;>rfl
@[simp] theorem zEM{j:Int}:qr1 (some (.int j,δ))=if -4611686018427387904<=j/\j<4611686018427387904 then some (YB 0 j.toNat,δ) else none:=rfl
noncomputable def qz(r:Option (eN×Ev))(g:VF):Option (List eN×Ev):=r.bind fun p=>(g p.2).bind fun q=>(a5 p.1).bind fun ds=>(a5 q.1).map fun es=>(WZ ds es,q.2)
noncomputable def qzb(x:eN)(r:Option (eN×Ev)):Option (List eN×Ev):=r.bind fun q=>(a5 x).bind fun ds=>(a5 q.1).map fun es=>(WZ ds es,q.2)
@[simp] theorem zE6:HJ fa fb δ=qz (fa δ) fb:=rfl
@[simp] theorem qz_s:qz (some (x,δ)) fb=qzb x (fb δ):=rfl
@[simp] theorem zEH:qzb x (some (y,δ))=(a5 x).bind fun ds=>(a5 y).map fun es=>(WZ ds es,δ):=rfl
@[simp] theorem zCW:a5 (.tup ds)=some ds:=rfl
@[simp] theorem zCX:a5 (.lst ds)=some ds:=rfl
noncomputable def qF(r:Option (List eN×Ev))(gg:VG)(g:VS):Option Ou:=r.bind fun p=>YA gg g p.1 p.2
@[simp] theorem zD2{fi:VI}{gg:VG}:P9 fi gg g δ=qF (fi δ) gg g:=rfl
@[simp] theorem qF_s{gg:VG}:qF (some (ds,δ)) gg g=YA gg g ds δ:=rfl
noncomputable def qK(ix:List Nat)(nl:Nat)(r:Option (List eN×Ev))(gg:VG)(tb:VB)(fe:VF):Option (eN×Ev):=r.bind fun p=>(bJ ix.length nl gg tb fe p.1 [] (aX ix p.2)).map fun q=>(.lst q.1,b3 ix q.2 p.2)
noncomputable def qKb(ix:List Nat)(δ:Ev)(r:Option (List eN×Ev)):Option (eN×Ev):=r.map fun q=>(.lst q.1,b3 ix q.2 δ)
@[simp] theorem zCJ{ix:List Nat}{nl:Nat}{fi:VI}{gg:VG}:bF ix nl fi gg tb fa δ=qK ix nl (fi δ) gg tb fa:=rfl
@[simp] theorem qK_s{ix:List Nat}{nl:Nat}{gg:VG}:qK ix nl (some (ds,δ)) gg tb fa=qKb ix δ (bJ ix.length nl gg tb fa ds [] (aX ix δ)):=rfl
@[simp] theorem zF6{ix:List Nat}:qKb ix δ (some (ds,δ1))=some (.lst ds,b3 ix δ1 δ):=rfl
variable{as:List AV}{fs:UN}{mF:List Nat}{F:cZ}
noncomputable def qa(r:Option (eN×Ev))(fs:UN):Option (List AV×Ev):=r.bind fun p=>(fs p.2).map fun q=>(.d p.1::q.1,q.2)
noncomputable def qab(x:AV)(r:Option (List AV×Ev)):Option (List AV×Ev):=r.map fun q=>(x::q.1,q.2)
@[simp] theorem AF:dM δ=some ([],δ):=rfl
@[simp] theorem NT:aE fa fs δ=qa (fa δ) fs:=rfl
@[simp] theorem IZ:qa (some (x,δ)) fs=qab (.d x) (fs δ):=rfl
@[simp] theorem JA{a:AV}:qab a (some (as,δ))=some (a::as,δ):=rfl
noncomputable def qao(j:Nat)(r:Option eN)(δ:Ev)(fs:UN):Option (List AV×Ev):=r.bind fun _=>qab (.o j) (fs δ)
@[simp] theorem aO_e:aO j fs δ=qao j (slot δ j) δ fs:=rfl
@[simp] theorem zAX:qao j (some d) δ fs=qab (.o j) (fs δ):=rfl
noncomputable def qsl:Option Sl->Option eN
 |some (.va d)=>some d
 |some (.ow d)=>some d
 |_=>none
@[simp] theorem zCV:slot δ j=qsl δ[j]? :=by unfold slot qsl;split<;>simp_all
@[simp] theorem zEK:qsl (some (.va d))=some d:=rfl
@[simp] theorem zEL:qsl (some (.ow d))=some d:=rfl
@[simp] theorem zCQ:aB δ []=some []:=rfl
@[simp] theorem zCR:aB δ (.d d::as)=(aB δ as).map fun ds=>d::ds:=rfl
@[simp] theorem zCP:aB δ (.o j::as)=(slot δ j).bind fun d=>(aB δ as).map fun ds=>d::ds:=rfl
noncomputable def D4(n:Nat)(mF:List Nat)(F:cZ)(r:Option (List AV×Ev)):Option (eN×Ev):=r.bind fun p=>(aB p.2 p.1).bind fun ds=>if ds.length=n/\Y7 mF p.1 p.2=true then(F ds).bind fun q=>if ZT mF p.1 q.1 q.2=true then some (q.1,ZM p.1 mF q.2 p.2) else none else none
noncomputable def qCb(n:Nat)(mF:List Nat)(F:cZ)(as:List AV)(δ:Ev)(r:Option (List eN)):Option (eN×Ev):=r.bind fun ds=>if ds.length=n/\Y7 mF as δ=true then(F ds).bind fun q=>if ZT mF as q.1 q.2=true then some (q.1,ZM as mF q.2 δ) else none else none
noncomputable def qCc(mF:List Nat)(as:List AV)(δ:Ev)(r:Option (eN×List eN)):Option (eN×Ev):=r.bind fun q=>if ZT mF as q.1 q.2=true then some (q.1,ZM as mF q.2 δ) else none
@[simp] theorem Q9:eA n mF F fs δ=D4 n mF F (fs δ):=rfl
@[simp] theorem F5:D4 n mF F (some (as,δ))=qCb n mF F as δ (aB δ as):=rfl
@[simp] theorem zAZ:qCb n mF F as δ (some ds)=if ds.length=n/\Y7 mF as δ=true then qCc mF as δ (F ds) else none:=rfl
@[simp] theorem zAY{os:List eN}:qCc mF as δ (some (d,os))=if ZT mF as d os=true then some (d,ZM as mF os δ) else none:=rfl
@[simp] theorem zCG:M7 δ as i=(match as[i]? with
 |some (.o j)=>match δ[j]? with
  |some (.ow _)=>true
  |_=>false
 |_=>false):=rfl
@[simp] theorem zE4:YY []=[]:=rfl
@[simp] theorem zE5:YY (.d d::as)=YY as:=rfl
@[simp] theorem zE3:YY (.o j::as)=j::YY as:=rfl
@[simp] theorem zC8:Y7 mF as δ=(mF.all (M7 δ as) && decide (YY as).Nodup):=rfl
@[simp] theorem zCT:Z9 mF [] i=true:=rfl
@[simp] theorem zCU:Z9 mF (.d d::as) i=Z9 mF as (i+1):=rfl
@[simp] theorem zCS:Z9 mF (.o j::as) i=(decide (i∈mF) && Z9 mF as (i+1)):=rfl
@[simp] theorem zCA{os:List eN}:ZT mF as d os=((Z9 mF as 0 || d.hard) && (Z9 mF as 0 || os.all UY) && decide (mF.length=os.length)):=rfl
@[simp] theorem zDJ{os:List eN}:ZM as [] os δ=δ:=by cases os<;>rfl
@[simp] theorem zDK{os:List eN}{is:List Nat}:ZM as (i::is) (d::os) δ=(match as[i]? with
  |some (.o j)=>ZM as is os (δ.set j (.ow d))
  |_=>ZM as is os δ):=rfl
@[simp] theorem zF8:pNo δ=some (none,δ):=rfl
noncomputable def qSl(r:Option (eN×Ev))(fl fh:VP):Option (eN×Ev):=r.bind fun p=>(fl p.2).bind fun l=>(fh l.2).bind fun u=>(FH p.1 l.1 u.1).map fun c=>(c,u.2)
noncomputable def qSlb(x:eN)(r:Option (Option Int×Ev))(fh:VP):Option (eN×Ev):=r.bind fun l=>(fh l.2).bind fun u=>(FH x l.1 u.1).map fun c=>(c,u.2)
noncomputable def qSlc(x:eN)(l:Option Int)(r:Option (Option Int×Ev)):Option (eN×Ev):=r.bind fun u=>q0 (FH x l u.1) u.2
@[simp] theorem zFL{fl fh:VP}:fSl fa fl fh δ=qSl (fa δ) fl fh:=rfl
@[simp] theorem zEZ{fl fh:VP}:qSl (some (x,δ)) fl fh=qSlb x (fl δ) fh:=rfl
@[simp] theorem zDC{l:Option Int}{fh:VP}:qSlb x (some (l,δ)) fh=qSlc x l (fh δ):=rfl
@[simp] theorem zDB{l u:Option Int}:qSlc x l (some (u,δ))=q0 (FH x l u) δ:=rfl
@[simp] theorem zFC{l u:Option Int}:FH (.tup ds) l u=some (.tup (PD ds l u)):=rfl
@[simp] theorem zFD{l u:Option Int}:FH (.lst ds) l u=some (.lst (PD ds l u)):=rfl
@[simp] theorem zE2{i:Int}:HP (.int i)=some (.inl i):=rfl
@[simp] theorem zE1{s:Str}:HP (.str s)=some (.inr s):=rfl
noncomputable def F6(ml:List Nat):Option Ou->Option (eN×List eN)
 |some (.rt d δ)=>(YT ml δ).map fun os=>(d,os)
 |some (.nx δ)=>(YT ml δ).map fun os=>(.non,os)
 |_=>none
theorem WT{ml:List Nat}:b5 n ml g ds=F6 ml (g (ZA ml n ds)):=by
 unfold b5 F6
 cases g (ZA ml n ds) with
 |none=>rfl
 |some o=>cases o<;>rfl
@[simp] theorem zDE{ml:List Nat}:F6 ml (some (.rt d δ))=(YT ml δ).map fun os=>(d,os):=rfl
@[simp] theorem zDF{ml:List Nat}:F6 ml (some (.nx δ))=(YT ml δ).map fun os=>(.non,os):=rfl
noncomputable def qow:Option Sl->Option eN
 |some (.ow d)=>some d
 |_=>none
@[simp] theorem zDM:YT [] δ=some []:=rfl
@[simp] theorem zDN{ml:List Nat}:YT (i::ml) δ=(qow δ[i]?).bind fun d=>(YT ml δ).map fun os=>d::os:=by
 unfold YT
 rw[Nq]
 cases h:(δ[i]? :Option Sl) with
 | none => rfl
 | some s => cases s with
  |no=>rfl
  |va d=>rfl
  |ow d=>
   show(Option.bind _ fun os=>some (d::os))=Option.map (fun os=>d::os) _
   cases (List.mapM _ ml:Option (List eN))<;>rfl
@[simp] theorem zEN:qow (some (.ow d))=some d:=rfl
end
section
variable{i j:Int}{x y:Str}{ds es:List eN}
@[simp] theorem oI_e{C:Int->Int->Bool}{g:Int->Int->eN}:oI C g (.int i) (.int j)=if C i j=true then some (g i j) else none:=rfl
@[simp] theorem zCD:cB (.int i) (.int j)=some (.int (i+j)):=rfl
@[simp] theorem zCB:cB (.tup ds) (.tup es)=if ds.length+es.length<=16777216 then some (.tup (ds++es)) else none:=rfl
@[simp] theorem zCC:cB (.lst ds) (.lst es)=if ds.length+es.length<=16777216 then some (.lst (ds++es)) else none:=rfl
@[simp] theorem zFE{g:Int->Int->Int}:o2I g (.int i) (.int j)=some (.int (g i j)):=rfl
@[simp] theorem zDO:aG (.tup ds)=some (.int ds.length):=rfl
@[simp] theorem zDP:aG (.lst ds)=some (.int ds.length):=rfl
@[simp] theorem zBG:aH (.tup ds)=some (.tup ds):=rfl
@[simp] theorem zBH:aH (.lst ds)=some (.tup ds):=rfl
@[simp] theorem zDQ:ZX (.tup ds) (.int i)=QX ds i:=rfl
@[simp] theorem zDR:ZX (.lst ds) (.int i)=QX ds i:=rfl
@[simp] theorem zCF{ks:List Z0}:ZX (.dct ks ds) (.int i)=bO ks ds (.inl i):=rfl
@[simp] theorem zCE{ks:List Z0}:ZX (.dct ks ds) (.str x)=bO ks ds (.inr x):=rfl
@[simp] theorem zFA:P2 (.int i)=true:=rfl
@[simp] theorem zF9:P2 .non=true:=rfl
@[simp] theorem zFB{b:Bool}:P2 (.bl b)=true:=rfl
@[simp] theorem zDV{n:String}:ZW (.int i) (.ty n)=(RF "int" n).map eN.bl:=rfl
@[simp] theorem zDS{n:String}:ZW (.tup ds) (.ty n)=(RF "tuple" n).map eN.bl:=rfl
@[simp] theorem zDU{n:String}:ZW (.lst ds) (.ty n)=(RF "list" n).map eN.bl:=rfl
@[simp] theorem zDT{n:String}:ZW (.str x) (.ty n)=(RF "str" n).map eN.bl:=rfl
@[simp] theorem zDY:OF .non .non=some (.bl true):=rfl
@[simp] theorem zDZ:OF (.int i) .non=some (.bl false):=rfl
@[simp] theorem zDX:OF (.str x) .non=some (.bl false):=rfl
@[simp] theorem zDW:OF (.tup ds) .non=some (.bl false):=rfl
end
section
variable{d x:eN}{δ δ1:Ev}{r acc:List eN}{gg:VG}{tb:VB}{fe:VF}{n nl:Nat}{g:VS}
noncomputable def qk1(n nl:Nat)(gg:VG)(tb:VB)(fe:VF)(r acc:List eN)(o:Option Ev):Option (List eN×Ev):=o.bind fun δ1=>(tb δ1).bind fun p=>if p.1=true then(fe p.2).bind fun q=>if acc.length<16777216 then bJ n nl gg tb fe r (acc++[q.1]) (q.2.take n) else none else bJ n nl gg tb fe r acc (p.2.take n)
noncomputable def qk2(n nl:Nat)(gg:VG)(tb:VB)(fe:VF)(r acc:List eN)(o:Option (Bool×Ev)):Option (List eN×Ev):=o.bind fun p=>if p.1=true then(fe p.2).bind fun q=>if acc.length<16777216 then bJ n nl gg tb fe r (acc++[q.1]) (q.2.take n) else none else bJ n nl gg tb fe r acc (p.2.take n)
noncomputable def qk3(n nl:Nat)(gg:VG)(tb:VB)(fe:VF)(r acc:List eN)(o:Option (eN×Ev)):Option (List eN×Ev):=o.bind fun q=>if acc.length<16777216 then bJ n nl gg tb fe r (acc++[q.1]) (q.2.take n) else none
@[simp] theorem zCK:bJ n nl gg tb fe [] acc δ=some (acc,δ):=rfl
@[simp] theorem zCL:bJ n nl gg tb fe (d::r) acc δ=qk1 n nl gg tb fe r acc (gg d (δ++UI nl)):=rfl
@[simp] theorem zER:qk1 n nl gg tb fe r acc (some δ)=qk2 n nl gg tb fe r acc (tb δ):=rfl
@[simp] theorem zEP:qk2 n nl gg tb fe r acc (some (true,δ))=qk3 n nl gg tb fe r acc (fe δ):=rfl
@[simp] theorem zEQ:qk2 n nl gg tb fe r acc (some (false,δ))=bJ n nl gg tb fe r acc (δ.take n):=rfl
@[simp] theorem zEO:qk3 n nl gg tb fe r acc (some (x,δ))=if acc.length<16777216 then bJ n nl gg tb fe r (acc++[x]) (δ.take n) else none:=rfl
noncomputable def qf1(gg:VG)(g:VS)(r:List eN)(o:Option Ev):Option Ou:=o.bind fun δ1=>(g δ1).bind (again (YA gg g r))
noncomputable def qf2(gg:VG)(g:VS)(r:List eN)(o:Option Ou):Option Ou:=o.bind (again (YA gg g r))
@[simp] theorem zE8:YA gg g [] δ=some (.nx δ):=rfl
@[simp] theorem zE9:YA gg g (d::r) δ=qf1 gg g r (gg d δ):=rfl
@[simp] theorem zEW:qf1 gg g r (some δ)=qf2 gg g r (g δ):=rfl
@[simp] theorem zET:qf2 gg g r (some (.nx δ))=YA gg g r δ:=rfl
@[simp] theorem zEU:qf2 gg g r (some (.ct δ))=YA gg g r δ:=rfl
@[simp] theorem zEV:qf2 gg g r (some (.bk δ))=some (.nx δ):=rfl
@[simp] theorem zES:qf2 gg g r (some (.rt d δ))=some (.rt d δ):=rfl
@[simp] theorem zCO{i:Nat}{is:List Nat}{ss:Ev}:b3 (i::is) (.ow d::ss) δ=b3 is ss (δ.set i (.ow d)):=rfl
@[simp] theorem zCN{i:Nat}{is:List Nat}{ss:Ev}:b3 (i::is) (.va d::ss) δ=b3 is ss δ:=rfl
@[simp] theorem zCM{i:Nat}{is:List Nat}{ss:Ev}:b3 (i::is) (.no::ss) δ=b3 is ss δ:=rfl
end
@[simp] theorem zFH:UI 1=[.no]:=rfl
@[simp] theorem zFG:UI 2=[.no,.no]:=rfl
@[simp] theorem zFF:UI 3=[.no,.no,.no]:=rfl
@[simp] theorem zD8{i:Int}:YB i 0=[]:=rfl
@[simp] theorem zD7:YB 0 1=[.int 0]:=rfl
@[simp] theorem zD6:YB 0 2=[.int 0,.int 1]:=rfl
@[simp] theorem zD5:YB 0 3=[.int 0,.int 1,.int 2]:=rfl
@[simp] theorem zD4:YB 0 4=[.int 0,.int 1,.int 2,.int 3]:=rfl
theorem AI{α:Type}{xs:List α}{i:Int}(h0:0<=i)(h1:i<xs.length):QX xs i=xs[i.toNat]? :=by
 unfold QX ixN
 rw[if_pos h0,if_pos h1]
 rfl
theorem G6{α:Type}{xs:List α}{i:Int}(h0:0<=i)(h1:i<xs.length): ∃x∈xs,QX xs i=some x:=by
 rw[AI h0 h1]
 have h:i.toNat<xs.length:=by omega
 exact⟨xs[i.toNat],List.getElem_mem _,Fi h⟩
section
variable{F:cZ}{fa fb fc:VF}{δ:Ev}{x y z d o:eN}{j:Nat}
noncomputable def JB(δ:Ev):Option (eN×List eN)->Option (eN×Ev)
 |some (d,[])=>some (d,δ)
 |_=>none
@[simp] theorem zEX:JB δ (some (d,[]))=some (d,δ):=rfl
theorem G9{n:Nat}{ds:List eN}{as:List AV}(h:aB δ as=some ds)(hn:ds.length=n)(hj:YY as=[])(ha:Z9 [] as 0=true):qCb n [] F as δ (some ds)=JB δ (F ds):=by
 have hc:Y7 [] as δ=true:=by simp[hj]
 rw[zAZ,if_pos ⟨hn,hc⟩]
 cases F ds with
 |none=>rfl
 |some q=>
  obtain⟨r,os⟩:=q
  rw[zAY]
  cases os with
  |nil=>simp[ha,JB]
  |cons o os=>simp[JB]
noncomputable def qx2(F:cZ)(r:Option (eN×Ev))(fb:VF):Option (eN×Ev):=r.bind fun p=>(fb p.2).bind fun q=>JB q.2 (F [p.1,q.1])
noncomputable def qx2b(F:cZ)(x:eN)(r:Option (eN×Ev)):Option (eN×Ev):=r.bind fun q=>JB q.2 (F [x,q.1])
@[simp] theorem zAU:qx2 F (some (x,δ)) fb=qx2b F x (fb δ):=rfl
@[simp] theorem zDA:qx2b F x (some (y,δ))=JB δ (F [x,y]):=rfl
@[simp high] theorem call2:eA 2 [] F (aE fa (aE fb dM)) δ=qx2 F (fa δ) fb:=by
 rw[Q9,NT]
 cases fa δ with
 |none=>rfl
 |some p=>
  rw[IZ,NT,zAU]
  cases fb p.2 with
  |none=>rfl
  |some q=>exact G9 (as:=[.d p.1,.d q.1]) rfl rfl rfl rfl
noncomputable def qx3(F:cZ)(r:Option (eN×Ev))(fb fc:VF):Option (eN×Ev):=r.bind fun p=>(fb p.2).bind fun q=>(fc q.2).bind fun s=>JB s.2 (F [p.1,q.1,s.1])
noncomputable def qx3b(F:cZ)(x:eN)(r:Option (eN×Ev))(fc:VF):Option (eN×Ev):=r.bind fun q=>(fc q.2).bind fun s=>JB s.2 (F [x,q.1,s.1])
noncomputable def qx3c(F:cZ)(x y:eN)(r:Option (eN×Ev)):Option (eN×Ev):=r.bind fun s=>JB s.2 (F [x,y,s.1])
@[simp] theorem zAT:qx3 F (some (x,δ)) fb fc=qx3b F x (fb δ) fc:=rfl
@[simp] theorem CM:qx3b F x (some (y,δ)) fc=qx3c F x y (fc δ):=rfl
@[simp] theorem zD9:qx3c F x y (some (z,δ))=JB δ (F [x,y,z]):=rfl
@[simp high] theorem call3:eA 3 [] F (aE fa (aE fb (aE fc dM))) δ=qx3 F (fa δ) fb fc:=by
 rw[Q9,NT]
 cases fa δ with
 | none => rfl
 |some p=>
  rw[IZ,NT,zAT]
  cases fb p.2 with
  |none=>rfl
  |some q=>
   rw[IZ,NT,CM]
   cases fc q.2 with
   |none=>rfl
   |some s=>exact G9 (as:=[.d p.1,.d q.1,.d s.1]) rfl rfl rfl rfl
noncomputable def qw3(j:Nat)(δ:Ev):Option (eN×List eN)->Option (eN×Ev)
 |some (r,[o])=>some (r,δ.set j (.ow o))
 |_=>none
noncomputable def qw2(F:cZ)(j:Nat)(x y:eN)(δ:Ev):Option Sl->Option (eN×Ev)
 |some (.ow d)=>qw3 j δ (F [x,d,y])
 |_=>none
noncomputable def qwb(F:cZ)(j:Nat)(x:eN)(r:Option (eN×Ev)):Option (eN×Ev):=r.bind fun q=>qw2 F j x q.1 q.2 q.2[j]?
noncomputable def qwa(F:cZ)(j:Nat)(x:eN)(δ:Ev)(fb:VF)(s:Option eN):Option (eN×Ev):=s.bind fun _=>qwb F j x (fb δ)
noncomputable def qw(F:cZ)(j:Nat)(r:Option (eN×Ev))(fb:VF):Option (eN×Ev):=r.bind fun p=>qwa F j p.1 p.2 fb (slot p.2 j)
@[simp] theorem zEI:qw3 j δ (some (x,[o]))=some (x,δ.set j (.ow o)):=rfl
@[simp] theorem zEJ:qw2 F j x y δ (some (.ow d))=qw3 j δ (F [x,d,y]):=rfl
@[simp] theorem zAV:qwb F j x (some (y,δ))=qw2 F j x y δ δ[j]? :=rfl
@[simp] theorem zAW:qwa F j x δ fb (some d)=qwb F j x (fb δ):=rfl
@[simp] theorem qw_s:qw F j (some (x,δ)) fb=qwa F j x δ fb (slot δ j):=rfl
@[simp high] theorem callO:eA 3 [1] F (aE fa (aO j (aE fb dM))) δ=qw F j (fa δ) fb:=by
 rw[Q9,NT]
 cases fa δ with
 | none => rfl
 |some p=>
  obtain⟨x,δ1⟩:=p
  rw[IZ,aO_e,qw_s]
  cases h:slot δ1 j with
  | none => rfl
  |some d0=>
   rw[zAX,NT,zAW]
   cases fb δ1 with
   | none => rfl
   |some q=>
    obtain⟨y,δ2⟩:=q
    rw[zAV,IZ,AF,JA,JA,JA,F5]
    cases h2:δ2[j]? with
    | none => simp [h2,qsl,qCb,qw2]
    |some s=>
     cases s with
     | no => simp [h2,qsl,qCb,qw2]
     | va d => simp [h2,qw2]
     |ow d=>
      simp[h2]
      cases F [x,d,y] with
      | none => rfl
      |some r=>
       obtain⟨v,os⟩:=r
       cases os with
       |nil=>simp[qw3]
       |cons o os=>
        cases os with
        |nil=>simp
        |cons o2 os=>simp[qw3]
end
def YL:eN:= .int 999
def MT:eN:= .tup [.str "plus",.str "minus",.str "times",.str "least",.str "most",.str "less",.str "over"]
def V7:eN:= .int 64
def YK:eN:= .int 40
def W5:eN:= .int 63
def W4:eN:= .tup [.str "row",.str "row"]
def X7:eN:= .dct [.inr "number",.inr "pick",.inr "load",.inr "take",.inr "store",.inr "put"] [.tup [.str "word"],.tup [.str "row",.str "row",.str "row"],.tup [.str "place"],.tup [.str "place",.str "row",.str "row"],.tup [.str "place",.str "row"],.tup [.str "place",.str "row",.str "row"]]
def SR:eN:= .tup [.str "store",.str "put"]
def bA:eN:= .int 2
def aP:eN:= .int 4
def O9:eN:= .str "0123456789"
noncomputable abbrev QM:List Str:=["NoBlock","NoLanes","NoPlan","NoText"]
noncomputable abbrev YV:List Str:=["NoBlock","NoCells","NoRow","NoLanes","NoPlan","NoProgram","NoTree","NoLoop","NoText","NoName","TooMany","TooLong","NotValid","Nothing"]
def UT:VS:=
   (dO (ZR (QZ (fB (f2 ZW (fV 0) (fC (.ty "bool")))) (bW (fB (f2 ZW (fV 0) (fC (.ty "int"))))))
   (dE (fC (.bl false)))
   cG)
   (dE (f3 oLe oLe (fV 1) (fV 0) (fV 2))))
def c6:cZ:=b5 3 [] UT
def UW:VS:=
   (dO (ZR (fB (f2 (FG false) (fV 0) (fC MT)))
   (dE (fC W4))
   cG)
   (dE (f2 DY (fC X7) (fV 0))))
def Y4:cZ:=b5 1 [] UW
def W7:VS:=
   (dE (f2 (FG true) (f2 ZX (fV 0) (fC (.int 0))) (fC SR)))
def aL:cZ:=b5 1 [] W7
def UU:VS:=
   (dE (PK (eA 3 [] c6 (aE (fV 0) (aE (fC (.int 0)) (aE (f2 BG (f1 aG (fV 1)) (fC (.int 1))) dM)))) (f2 ZX (fV 1) (fV 0))))
def Y3:cZ:=b5 2 [] UU
def HE:VS:=
   (dO (ZR (fB (f2 RM (fV 0) (fC (.str "word"))))
   (dE (eA 3 [] c6 (aE (fV 1) (aE (fC (.int 0)) (aE (fC YL) dM)))))
   cG)
   (dO (ZR (fB (f2 RM (fV 0) (fC (.str "place"))))
   (dE (eA 3 [] c6 (aE (fV 1) (aE (fC (.int 0)) (aE (fC W5) dM)))))
   cG)
   (dE (eA 2 [] Y3 (aE (fV 1) (aE (fV 2) dM))))))
def QS:cZ:=b5 3 [] HE
def PL:VS:=
   (dO (ZR (QZ (bW (fB (f2 ZW (fV 0) (fC (.ty "tuple"))))) (fB (f2 RM (f1 aG (fV 0)) (fC (.int 0)))))
   (dE (fC (.bl false)))
   cG)
   (dO (JI 2 3 (fV 0))
   (dO (b9 4 (xV (DS (fB (f2 ZW (fV 2) (fC (.ty "str")))) (eA 1 [] Y4 (aE (fV 2) dM)) (fC .non))))
   (dO (ZR (QZ (fB (f2 OF (fV 4) (fC .non))) (fB (f2 XT (f1 aG (fV 4)) (f1 aG (fV 3)))))
   (dE (fC (.bl false)))
   cG)
   (dE (f1 LR (bF [1] 2 (HJ (fV 4) (fV 3)) (AT 2 (YR (gN 1) (YR (gN 2) PM))) Y6 (eA 3 [] QS (aE (fV 1) (aE (fV 2) (aE (fV 0) dM)))))))))))
def W1:cZ:=b5 5 [] PL
def Q0:VS:=
   (dO (ZR (bW (fB (eA 2 [] W1 (aE (fV 4) (aO 3 dM)))))
   (dE (fC (.bl false)))
   cG)
   (RT 3 LN (eE (eA 1 [] aL (aE (fV 4) dM)) cN)))
def UR:VS:=
   (dO (ZR (QZ (bW (fB (f2 ZW (fV 0) (fC (.ty "tuple"))))) (fB (f2 XT (f1 aG (fV 0)) (fC (.int 2)))))
   (dE (fC (.bl false)))
   cG)
   (dO (F9 (fV 0) (AT 2 (YR (gN 1) (YR (gN 2) PM))))
   (dO (ZR (bW (fB (eA 3 [] c6 (aE (fV 1) (aE (fC (.int 0)) (aE (fC V7) dM))))))
   (dE (fC (.bl false)))
   cG)
   (dO (ZR (QZ (bW (fB (f2 ZW (fV 2) (fC (.ty "tuple"))))) (fB (f2 oGt (f1 aG (fV 2)) (fC YK))))
   (dE (fC (.bl false)))
   cG)
   (dO (b9 3 (xO (aD cN)))
   (dO (P9 (YX (fV 2)) (gN 4)
   Q0)
   (dE (fC (.bl true)))))))))
def cH:cZ:=b5 5 [] UR
def US:VS:=
   (dE (eA 3 [] c6 (aE (fV 0) (aE (fC bA) (aE (fC aP) dM)))))
def bQ:cZ:=b5 1 [] US
def X9:VS:=
   (dE (RA [] 2 (YX (fV 0)) (gN 0) Y6 (YX (fV 0)) (gN 1) Y6 (fV 1)))
def a8:cZ:=b5 1 [] X9
def WB:VS:=
   (dO (ZR (QZ (bW (fB (f3 oLe oLe (fC (.int 1)) (f1 aG (fV 0)) (f1 aG (f1 NB (fC YL)))))) (bW (fB (f1 LR (bF [] 1 (A2 (fV 0)) (gN 0) Y6 (f2 oInS (fV 0) (fC O9)))))))
   (dE (fC .non))
   cG)
   (dE (DS (fB (f2 RM (fV 0) (f1 NB (f1 HY (fV 0))))) (f1 HY (fV 0)) (fC .non))))
def cD:cZ:=b5 1 [] WB
def MY:VS:=
   (dO (ZR (bW (fB (eA 1 [] cH (aE (fV 0) dM))))
   (fun _=>none)
   cG)
   (fun _=>none))
def VO:cZ:=b5 4 [] MY
def NP:VZ:=
   (KM (bW (fB (eA 1 [] cH (aE (fV 0) dM)))) (fun δ=>some ("NoBlock",δ)) EJ)
def VR:List eN->Option Str:=OO 4 NP
def Q1:VS:=
   (dO (U8 3 4 (f2 X4 (fV 2) (fC (.str " "))))
   (RT 1 LN (eE (f2 cB (aF (eE (fV 3) cN)) (f1 aH (bF [] 1 (YX (fV 4)) (gN 0) Y6 (eA 1 [] cD (aE (fV 0) dM))))) cN)))
def UV:VS:=
   (dO (b9 1 (xO (aD cN)))
   (dO (P9 (YX (f2 X4 (fV 0) (fC (.str "; ")))) (gN 2)
   Q1)
   (dE (fO 1))))
def bC:cZ:=b5 5 [] UV
def HH:VS:=
   (dO (ZR (bW (fB (f2 ZW (fV 0) (fC (.ty "str")))))
   (fun _=>none)
   cG)
   (dO (U8 1 2 (eA 1 [] bC (aE (fV 0) dM)))
   (dO (ZR (QZ (fB (f2 XT (f1 aG (fV 1)) (fC (.int 2)))) (QZ (fB (f2 XT (f2 ZX (fV 1) (fC (.int 0))) (fC (.str "sure")))) (bW (fB (eA 1 [] cH (aE (aF (eE (f2 ZX (fV 1) (fC (.int 1))) (eE (f1 aH (fV 2)) cN))) dM))))))
   (fun _=>none)
   cG)
   (dE (aF (eE (f2 ZX (fV 1) (fC (.int 1))) (eE (f1 aH (fV 2)) cN)))))))
def QT:cZ:=b5 3 [] HH
def KD:VZ:=
   (MJ (KM (bW (fB (f2 ZW (fV 0) (fC (.ty "str"))))) (fun δ=>some ("NoText",δ)) EJ)
   (QO (ZR (bW (fB (f2 ZW (fV 0) (fC (.ty "str")))))
   (fun _=>none)
   cG)
   (QO (U8 1 2 (eA 1 [] bC (aE (fV 0) dM)))
   (KM (QZ (fB (f2 XT (f1 aG (fV 1)) (fC (.int 2)))) (QZ (fB (f2 XT (f2 ZX (fV 1) (fC (.int 0))) (fC (.str "sure")))) (bW (fB (eA 1 [] cH (aE (aF (eE (f2 ZX (fV 1) (fC (.int 1))) (eE (f1 aH (fV 2)) cN))) dM)))))) (fun δ=>some ("NoText",δ)) EJ))))
def QW:List eN->Option Str:=OO 3 KD
def V9:VS:=
   (dE (f1 LR (bF [] 2 (HJ (fV 0) (fSl (fV 0) (pSo (fC (.int 1))) pNo)) (AT 2 (YR (gN 0) (YR (gN 1) PM))) Y6 (f2 oLtA (fV 0) (fV 1)))))
def bM:cZ:=b5 1 [] V9
def Z4:VS:=
   (dO (ZR (QZ (bW (fB (f2 ZW (fV 0) (fC (.ty "tuple"))))) (fB (f2 XT (f1 aG (fV 0)) (fV 1))))
   (dE (fC (.bl false)))
   cG)
   (dE (PK (f1 LR (bF [] 1 (YX (fV 0)) (gN 0) Y6 (eA 3 [] c6 (aE (fV 0) (aE (fC (.int 0)) (aE (f2 BG (fC YK) (fC (.int 1))) dM)))))) (eA 1 [] bM (aE (fV 0) dM)))))
def cA:cZ:=b5 2 [] Z4
def Z5:VS:=
   (dO (ZR (QZ (bW (fB (f2 ZW (fV 0) (fC (.ty "tuple"))))) (bW (fB (f1 LR (bF [1] 1 (YX (fV 0)) (gN 1) Y6 (eA 2 [] cA (aE (fV 1) (aE (fV 0) dM))))))))
   (dE (fC (.bl false)))
   cG)
   (dO (b9 2 (xV (eA 1 [] a8 (aE (fV 0) dM))))
   (dE (PK (eA 1 [] bM (aE (fV 0) dM)) (f2 RM (f1 M9 (fV 2)) (f1 aG (fV 2)))))))
def dR:cZ:=b5 3 [] Z5
def W8:VS:=
   (dO (ZR (bW (fB (f1 BF (bF [0] 1 (iR2 (fC bA) (f2 cB (fC aP) (fC (.int 1)))) (gN 1) Y6 (eA 2 [] dR (aE (fV 0) (aE (fV 1) dM)))))))
   (fun _=>none)
   cG)
   (dE (f2 HZ (fC (.str " ")) (bF [] 1 (YX (fV 0)) (gN 0) Y6 (f2 HZ (fC (.str "+")) (bF [] 1 (YX (fV 0)) (gN 0) Y6 (f1 NB (fV 0))))))))
def aM:cZ:=b5 1 [] W8
def XS:VZ:=
   (KM (bW (fB (f1 BF (bF [0] 1 (iR2 (fC bA) (f2 cB (fC aP) (fC (.int 1)))) (gN 1) Y6 (eA 2 [] dR (aE (fV 0) (aE (fV 1) dM))))))) (fun δ=>some ("NoPlan",δ)) EJ)
def aN:List eN->Option Str:=OO 1 XS
def WC:VS:=
   (dO (ZR (bW (fB (eA 1 [] bQ (aE (fV 1) dM))))
   (fun _=>none)
   cG)
   (dO (ZR (bW (fB (f2 ZW (fV 0) (fC (.ty "str")))))
   (fun _=>none)
   cG)
   (dO (b9 2 (xV (DS (fB (f2 XT (fV 0) (fC (.str "")))) (f2 X4 (fV 0) (fC (.str " "))) (aD cN))))
   (dO (b9 3 (xV (f1 aH (bF [] 1 (YX (fV 2)) (gN 0) Y6 (f1 aH (bF [] 1 (YX (f2 X4 (fV 0) (fC (.str "+")))) (gN 0) Y6 (eA 1 [] cD (aE (fV 0) dM))))))))
   (dO (ZR (bW (fB (eA 2 [] dR (aE (fV 3) (aE (fV 1) dM)))))
   (fun _=>none)
   cG)
   (dE (fV 3)))))))
def ZZ:cZ:=b5 4 [] WC
def WG:VZ:=
   (MJ (KM (bW (fB (eA 1 [] bQ (aE (fV 1) dM)))) (fun δ=>some ("NoLanes",δ)) EJ)
   (QO (ZR (bW (fB (eA 1 [] bQ (aE (fV 1) dM))))
   (fun _=>none)
   cG)
   (MJ (KM (bW (fB (f2 ZW (fV 0) (fC (.ty "str"))))) (fun δ=>some ("NoText",δ)) EJ)
   (QO (ZR (bW (fB (f2 ZW (fV 0) (fC (.ty "str")))))
   (fun _=>none)
   cG)
   (QO (b9 2 (xV (DS (fB (f2 XT (fV 0) (fC (.str "")))) (f2 X4 (fV 0) (fC (.str " "))) (aD cN))))
   (QO (b9 3 (xV (f1 aH (bF [] 1 (YX (fV 2)) (gN 0) Y6 (f1 aH (bF [] 1 (YX (f2 X4 (fV 0) (fC (.str "+")))) (gN 0) Y6 (eA 1 [] cD (aE (fV 0) dM))))))))
   (KM (bW (fB (eA 2 [] dR (aE (fV 3) (aE (fV 1) dM))))) (fun δ=>some ("NoText",δ)) EJ)))))))
def Z2:List eN->Option Str:=OO 4 WG
def Y2:VS:=
   (b9 2 (xV (f2 M8 (fV 2) (fC (.int 1000003)))))
def ZV:VS:=
   (dO (ZR (fB (f2 oLt (fV 1) (f1 aG (fV 0))))
   (dE (f2 ZX (fV 0) (fV 1)))
   cG)
   (dO (ZR (fB (f2 RM (fV 0) (aD cN)))
   (dE (fC (.int 0)))
   cG)
   (dO (b9 2 (xV (f2 ZX (fV 0) (f2 OG (fV 1) (f1 aG (fV 0))))))
   (dO (P9 (iR1 (f2 oMin (f2 M8 (fV 1) (f1 aG (fV 0))) (fC (.int 60)))) (gN 3)
   Y2)
   (dE (f2 cB (f2 cB (f2 U3 (f2 ZX (fV 0) (f2 OG (fV 1) (f1 aG (fV 0)))) (fC (.int 31))) (fV 1)) (f2 U3 (fV 2) (fC (.int 101)))))))))
def cR:cZ:=b5 4 [] ZV
def YQ:VS:=
   (dO (b9 3 (xV (f2 OG (f2 cB (f2 cB (f2 U3 (eA 2 [] cR (aE (fV 0) (aE (fV 1) dM))) (fC (.int 1103515245))) (f2 U3 (fC (.int 7919)) (fV 1))) (fC (.int 12345))) (fC (.int 2147483647)))))
   (dE (f2 OG (f2 OG (f2 OG (f2 oPow (fV 3) (fC (.int 5))) (fC (.int 2147483647))) (fC (.int 999983))) (fV 2))))
def bN:cZ:=b5 4 [] YQ
def XX:VS:=
   (dO (RT 1 LN (eE (fC (.int 0)) cN))
   (dE (eA 3 [] bN (aE (fV 0) (aE (f1 aG (fO 1)) (aE (fV 2) dM))))))
def bB:cZ:=b5 3 [1] XX
def XZ:VS:=
   (dE (f2 ZX (fV 2) (eA 3 [1] bB (aE (fV 0) (aO 1 (aE (f1 aG (fV 2)) dM))))))
def dJ:cZ:=b5 3 [1] XZ
def WA:VS:=
   (dO (b9 1 (xO (aD (eE (f2 (YS QM YV) (fV 0) (fC (.fn "NoBlock"))) (eE (f2 (YS QM YV) (fV 0) (fC (.fn "NoCells"))) (eE (f2 (YS QM YV) (fV 0) (fC (.fn "NoRow"))) (eE (f2 (YS QM YV) (fV 0) (fC (.fn "NoLanes"))) cN)))))))
   (dO (RT 1 HS (eE (aD (eE (f2 (YS QM YV) (fV 0) (fC (.fn "NoPlan"))) (eE (f2 (YS QM YV) (fV 0) (fC (.fn "NoProgram"))) (eE (f2 (YS QM YV) (fV 0) (fC (.fn "NoTree"))) (eE (f2 (YS QM YV) (fV 0) (fC (.fn "NoLoop"))) cN))))) cN))
   (dO (RT 1 HS (eE (aD (eE (f2 (YS QM YV) (fV 0) (fC (.fn "NoText"))) (eE (f2 (YS QM YV) (fV 0) (fC (.fn "NoName"))) (eE (f2 (YS QM YV) (fV 0) (fC (.fn "TooMany"))) (eE (f2 (YS QM YV) (fV 0) (fC (.fn "TooLong"))) cN))))) cN))
   (dO (RT 1 HS (eE (aD (eE (f2 (YS QM YV) (fV 0) (fC (.fn "NotValid"))) (eE (f2 (YS QM YV) (fV 0) (fC (.fn "Nothing"))) cN))) cN))
   (dO (ZR (QZ (fB (f2 XT (f2 RL (fO 1) (fC (.bl true))) (fC (.int 1)))) (bW (fB (f2 (YS QM YV) (fV 0) (fC (.ty "ValueError"))))))
   (dE (aF (eE (fC (.str "refused")) (eE (f1 oNeg (fC (.int 1))) cN))))
   cG)
   (dE (aF (eE (fC (.str "refused")) (eE (f2 RN (fO 1) (fC (.bl true))) cN)))))))))
def ZY:cZ:=b5 2 [] WA
def XY:VS:=
   (dO (b9 2 (xV (fC (.lst [.non,.int 5,.tup [],.tup [.int 0],.tup [.int 0,.lst []],.lst [.int 0,.tup []],.tup [.int (-1),.tup []],.tup [.int 65,.tup []],.tup [.bl true,.tup []],.tup [.str "0",.tup []],.tup [.int 0,.tup [],.tup []],.tup [.int 0,.tup [.tup []]]]))))
   (dO (b9 2 (xV (f2 cB (fV 2) (fC (.lst [.tup [.int 0,.tup [.tup [.str "number"]]],.tup [.int 0,.tup [.tup [.str "number",.int 1000]]],.tup [.int 0,.tup [.tup [.str "plus",.int 0,.int 0]]],.tup [.int 0,.tup [.lst [.str "load",.int 0]]]])))))
   (dO (b9 2 (xV (f2 cB (fV 2) (fC (.lst [.tup [.int 0,.tup [.tup [.str "load",.int 64]]],.tup [.int 0,.tup [.tup [.str "load",.int (-1)]]],.tup [.int 0,.tup [.tup [.str "halve",.int 0]]],.tup [.int 0,.tup [.tup [.int 5,.int 0]]]])))))
   (dO (b9 2 (xV (f2 cB (fV 2) (aD (eE (fC (.tup [.int 0,.tup [.tup [.str "number",.int 1],.tup [.str "store",.int 0,.int 0],.tup [.str "plus",.int 0,.int 1]]])) (eE (aF (eE (fC (.int 0)) (eE (f2 NA (fC (.tup [.tup [.str "number",.int 1]])) (fC (.int 41))) cN))) cN))))))
   (dO (b9 2 (xV (f2 cB (fV 2) (fC (.lst [.tup [.int 0,.tup [.tup [.str "number",.int 1],.tup [.str "plus",.int 0,.int 1]]]])))))
   (dE (eA 3 [1] dJ (aE (fV 0) (aO 1 (aE (fV 2) dM))))))))))
def b6:cZ:=b5 3 [1] XY
def SX:VS:=
   (CW (dE (DS (fB (f2 RM (fV 0) (fC (.int 3)))) (eA 2 [] ZZ (aE (fV 1) (aE (fV 2) dM))) (N3 1 [] [("shown",VO),("read",QT),("shown_plan",aM)] (f2 ZX (aD (eE (fC (.fn "shown")) (eE (fC (.fn "read")) (eE (fC (.fn "shown_plan")) cN)))) (fV 0)) (aE (fV 1) dM))))
   (KM (fB (f2 RM (fV 0) (fC (.int 3)))) (QN 2 Z2 (aE (fV 1) (aE (fV 2) dM))) (OZ 1 [("shown",VR),("read",QW),("shown_plan",aN)] (f2 ZX (aD (eE (fC (.fn "shown")) (eE (fC (.fn "read")) (eE (fC (.fn "shown_plan")) cN)))) (fV 0)) (aE (fV 1) dM)))
   3 (dE (eA 1 [] ZY (aE (fV 3) dM))))
def d9:cZ:=b5 4 [] SX
def MR:VS:=
   (ZR (fB (f2 XT (eA 3 [] d9 (aE (fC (.int 3)) (aE (fC .non) (aE (fV 3) dM)))) (aF (eE (fC (.str "refused")) (eE (fC (.int 3)) cN)))))
   (dE (fC (.bl false)))
   cG)
def HF:VS:=
   (dO (b9 1 (xO (aD cN)))
   (dO (ZR (fB (f2 XT (eA 3 [] d9 (aE (fC (.int 0)) (aE (eA 2 [1] b6 (aE (fV 0) (aO 1 dM))) (aE (fC .non) dM)))) (aF (eE (fC (.str "refused")) (eE (fC (.int 0)) cN)))))
   (dE (fC (.bl false)))
   cG)
   (dO (b9 2 (xV (fC (.lst [.non,.int 5,.str "",.str "sure",.str "sure 65",.str "sure 01",.str "sure -1",.str "Sure 2",.str "sure 2;",.str "sure 2; ",.str "sure 2 ; load 0"]))))
   (dO (b9 2 (xV (f2 cB (fV 2) (aD (eE (fC (.str "sure 2; load  0")) (eE (fC (.str "sure 2;load 0")) (eE (fC (.str "sure 2; load 00")) (eE (fC (.str "sure 2; plus 0 0")) (eE (fC (.str "load 0")) (eE (fC (.bl true)) cN))))))))))
   (dO (b9 2 (xV (f2 cB (fV 2) (fC (.lst [.lst [.str "sure 2"],.str "sure 2; number 1000"])))))
   (dO (ZR (fB (f2 XT (eA 3 [] d9 (aE (fC (.int 1)) (aE (eA 3 [1] dJ (aE (fV 0) (aO 1 (aE (fV 2) dM)))) (aE (fC .non) dM)))) (aF (eE (fC (.str "refused")) (eE (fC (.int 8)) cN)))))
   (dE (fC (.bl false)))
   cG)
   (dO (b9 2 (xV (fC (.lst [.non,.int 5,.lst [],.str "",.tup [.tup [.int 0]],.tup [.tup [.int 0,.int 1,.int 2,.int 3,.int 4]],.tup [.tup [.int 0,.int 1],.tup [.int 2,.int 3,.int 4]],.tup [.tup [.int 1,.int 0]],.tup [.tup [.int 2,.int 3],.tup [.int 0,.int 1]]]))))
   (dO (b9 2 (xV (f2 cB (fV 2) (fC (.lst [.tup [.tup [.int 0,.int 1],.tup [.int 1,.int 2]],.tup [.tup [.int 0,.int 40]],.tup [.tup [.int (-1),.int 0]],.tup [.tup [.int 0,.bl true]],.tup [.tup [.int 0,.str "1"]],.tup [.lst [.int 0,.int 1]],.tup [.int 0,.int 1]])))))
   (dO (ZR (fB (f2 XT (eA 3 [] d9 (aE (fC (.int 2)) (aE (eA 3 [1] dJ (aE (fV 0) (aO 1 (aE (fV 2) dM)))) (aE (fC .non) dM)))) (aF (eE (fC (.str "refused")) (eE (fC (.int 4)) cN)))))
   (dE (fC (.bl false)))
   cG)
   (dO (P9 (YX (aD (eE (fC .non) (eE (fC (.int 1)) (eE (fC (.int 5)) (eE (fC (.str "2")) (eE (fC (.bl true)) cN))))))) (gN 3)
   MR)
   (dO (b9 2 (xV (fC (.lst [.non,.int 5,.str " ",.str "0",.str "0+1 ",.str " 0+1",.str "0+1  2+3",.str "0+01",.str "1+0",.str "0+1+2",.str "2+3 0+1",.str "0+1 1+2",.str "0+40",.str "0+x"]))))
   (dO (ZR (fB (f2 XT (eA 3 [] d9 (aE (fC (.int 3)) (aE (eA 3 [1] dJ (aE (fV 0) (aO 1 (aE (fV 2) dM)))) (aE (fC (.int 2)) dM)))) (aF (eE (fC (.str "refused")) (eE (fC (.int 8)) cN)))))
   (dE (fC (.bl false)))
   cG)
   (dO (ZR (QZ (fB (f2 XT (eA 3 [] d9 (aE (fC (.int 3)) (aE (fC (.str "0+39")) (aE (fC (.int 2)) dM)))) (fC (.tup [.tup [.int 0,.int 39]])))) (fB (f2 XT (eA 3 [] d9 (aE (fC (.int 3)) (aE (fC (.str "")) (aE (fC (.int 2)) dM)))) (aF cN))))
   (dE (fC (.bl false)))
   cG)
   (dO (ZR (fB (f2 XT (eA 3 [] d9 (aE (fC (.int 2)) (aE (fC (.tup [.tup [.int 0,.int 1,.int 2,.int 3],.tup [.int 4,.int 5,.int 6,.int 9]])) (aE (fC .non) dM)))) (fC (.str "0+1+2+3 4+5+6+9"))))
   (dE (fC (.bl false)))
   cG)
   (dE (PK (f2 RM (eA 3 [] d9 (aE (fC (.int 1)) (aE (fC (.str "sure 2")) (aE (fC .non) dM)))) (fC (.tup [.int 2,.tup []]))) (f2 RM (eA 3 [] d9 (aE (fC (.int 2)) (aE (aF cN) (aE (fC .non) dM)))) (fC (.str "")))))))))))))))))))
def SG:cZ:=b5 4 [] HF
end L2
namespace RR
open PySem L2
structure Z1(K:Ae)(mg:Str->Option Value):Prop where
 fnm: ∀x a,Ep K mainGlobals x=some (some (.ref a))->mg x=some (.ref a)
 n_len:mg "len"=none
 n_range:mg "range"=none
 n_min:mg "min"=none
 n_tuple:mg "tuple"=none
 n_isinstance:mg "isinstance"=none
 n_bool:mg "bool"=none
 n_int:mg "int"=none
 n_str:mg "str"=none
 n_zip:mg "zip"=none
 n_all:mg "all"=none
 n_any:mg "any"=none
 n_ValueError:mg "ValueError"=none
 n_set:mg "set"=none
 v_DEEDS: ∃u v,mg "DEEDS"=some u/\dP v u/\ ∀N H M,dH K N H M v MT
 v_DEED_PARTS: ∃u v,mg "DEED_PARTS"=some u/\dP v u/\ ∀N H M,dH K N H M v W4
 v_DIGITS: ∃u v,mg "DIGITS"=some u/\dP v u/\ ∀N H M,dH K N H M v O9
 v_LEAST_LANES: ∃u v,mg "LEAST_LANES"=some u/\dP v u/\ ∀N H M,dH K N H M v bA
 v_MOST_LANES: ∃u v,mg "MOST_LANES"=some u/\dP v u/\ ∀N H M,dH K N H M v aP
 v_MOST_PLACE: ∃u v,mg "MOST_PLACE"=some u/\dP v u/\ ∀N H M,dH K N H M v W5
 v_MOST_ROWS: ∃u v,mg "MOST_ROWS"=some u/\dP v u/\ ∀N H M,dH K N H M v YK
 v_MOST_SURE: ∃u v,mg "MOST_SURE"=some u/\dP v u/\ ∀N H M,dH K N H M v V7
 v_MOST_WORD: ∃u v,mg "MOST_WORD"=some u/\dP v u/\ ∀N H M,dH K N H M v YL
 v_OTHER_PARTS: ∃u v,mg "OTHER_PARTS"=some u/\dP v u/\ ∀N H M,dH K N H M v X7
 v_WRITERS: ∃u v,mg "WRITERS"=some u/\dP v u/\ ∀N H M,dH K N H M v SR
 v_Nothing: ∃u v,mg "Nothing"=some u/\dP v u/\ ∀N H M,dH K N H M v (.fn "Nothing")
 v_NotValid: ∃u v,mg "NotValid"=some u/\dP v u/\ ∀N H M,dH K N H M v (.fn "NotValid")
 v_TooLong: ∃u v,mg "TooLong"=some u/\dP v u/\ ∀N H M,dH K N H M v (.fn "TooLong")
 v_TooMany: ∃u v,mg "TooMany"=some u/\dP v u/\ ∀N H M,dH K N H M v (.fn "TooMany")
 v_NoName: ∃u v,mg "NoName"=some u/\dP v u/\ ∀N H M,dH K N H M v (.fn "NoName")
 v_NoText: ∃u v,mg "NoText"=some u/\dP v u/\ ∀N H M,dH K N H M v (.fn "NoText")
 v_NoLoop: ∃u v,mg "NoLoop"=some u/\dP v u/\ ∀N H M,dH K N H M v (.fn "NoLoop")
 v_NoTree: ∃u v,mg "NoTree"=some u/\dP v u/\ ∀N H M,dH K N H M v (.fn "NoTree")
 v_NoProgram: ∃u v,mg "NoProgram"=some u/\dP v u/\ ∀N H M,dH K N H M v (.fn "NoProgram")
 v_NoPlan: ∃u v,mg "NoPlan"=some u/\dP v u/\ ∀N H M,dH K N H M v (.fn "NoPlan")
 v_NoLanes: ∃u v,mg "NoLanes"=some u/\dP v u/\ ∀N H M,dH K N H M v (.fn "NoLanes")
 v_NoRow: ∃u v,mg "NoRow"=some u/\dP v u/\ ∀N H M,dH K N H M v (.fn "NoRow")
 v_NoCells: ∃u v,mg "NoCells"=some u/\dP v u/\ ∀N H M,dH K N H M v (.fn "NoCells")
 v_NoBlock: ∃u v,mg "NoBlock"=some u/\dP v u/\ ∀N H M,dH K N H M v (.fn "NoBlock")
 v_shown_plan: ∃u v,mg "shown_plan"=some u/\dP v u/\ ∀N H M,dH K N H M v (.fn "shown_plan")
 v_read: ∃u v,mg "read"=some u/\dP v u/\ ∀N H M,dH K N H M v (.fn "read")
 v_shown: ∃u v,mg "shown"=some u/\dP v u/\ ∀N H M,dH K N H M v (.fn "shown")
 x_NoBlock: ∃C,XC K "NoBlock" C/\mg "NoBlock"=some (.ref C)
 x_NoLanes: ∃C,XC K "NoLanes" C/\mg "NoLanes"=some (.ref C)
 x_NoPlan: ∃C,XC K "NoPlan" C/\mg "NoPlan"=some (.ref C)
 x_NoText: ∃C,XC K "NoText" C/\mg "NoText"=some (.ref C)
 xi:XI K QM YV
section
variable{P:Ar}{w:World}{K:Ae}{mg:Str->Option Value}{base:Heap}{f:Addr}{fd:Ch}
noncomputable abbrev Nx0:List Str:=["thing","low","high"]
noncomputable abbrev EM:List Str:=["thing","low","high"]
theorem zAI:dY Nx0 EM (eM (top 19)):=aZ
theorem zBF(F:aW K "is_whole" "is_whole" (top 19) f fd) (T:Z1 K mg):
  cQ P w K mg base CX0 1 f fd EM (spV K [] 3 c6):=
 V3 P w K mg base Nx0 EM 0 UT [] F zAI fun _ _ _ _ _ _ hr hu hu1=>by
  refine eK ?_ ?_
  ·exact(cW (V5 (Z8 (dC (XR T.n_isinstance (vv 0) (OY T.n_bool EU))) (aV (c9 (dC (XR T.n_isinstance (vv 0) (OY T.n_int NW)))))))
   (eJ (d7 b4))
   dW)
  exact eJ (d7 (J3 ND ND GA GA (vv 1) (vv 0) (vv 2)))
noncomputable abbrev Nx1:List Str:=["deed"]
noncomputable abbrev Qx1:List Str:=["deed"]
theorem zAH:dY Nx1 Qx1 (eM (top 27)):=aZ
theorem zBE(F:aW K "parts_of" "parts_of" (top 27) f fd) (T:Z1 K mg):
  cQ P w K mg base CX0 1 f fd Qx1 (spV K [] 1 Y4):=
 V3 P w K mg base Nx1 Qx1 0 UW [] F zAH fun _ _ _ _ _ _ hr hu hu1=>by
  refine eK ?_ ?_
  ·exact (cW (cO (kInD (K := K) rfl hu) (ED (neg := false)) (vv 0) (eB (by rfl) T.v_DEEDS) (by with_unfolding_all rfl))
   (eJ (d7 (eB (by rfl) T.v_DEED_PARTS)))
   dW)
  exact eJ (d7 (GJ rfl hu1 (eB (by rfl) T.v_OTHER_PARTS) (vv 0) ⟨rfl,rfl,rfl,rfl⟩))
noncomputable abbrev Nx2:List Str:=["row"]
noncomputable abbrev Qx2:List Str:=["row"]
theorem zAG:dY Nx2 Qx2 (eM (top 28)):=aZ
theorem zBD(F:aW K "makes_word" "makes_word" (top 28) f fd) (T:Z1 K mg):
  cQ P w K mg base CX0 1 f fd Qx2 (spV K [] 1 aL):=
 V3 P w K mg base Nx2 Qx2 0 W7 [] F zAG fun _ _ _ _ _ _ hr hu hu1=>by exact(eJ (d7 (R6 (FA (K:=K) rfl hu) (ED (neg:=true)) (MH hu1 (vv 0) eC) (eB (by rfl) T.v_WRITERS) (by with_unfolding_all rfl))))
noncomputable abbrev Nx3:List Str:=["thing","able"]
noncomputable abbrev Qx3:List Str:=["thing","able"]
theorem zAF:dY Nx3 Qx3 (eM (top 29)):=aZ
theorem zBC(F:aW K "may_name" "may_name" (top 29) f fd) (T:Z1 K mg) (ay:dF P w K mg base "is_whole" 1 EM [] c6 f_x0):
  cQ P w K mg base CX0 2 f fd Qx3 (spV K [] 2 Y3):=
 V3 P w K mg base Nx3 Qx3 1 UU [] F zAF fun _ _ _ _ _ _ hr hu hu1=>by exact(eJ (d7 (R0 (cV ay hr (eH (vv 0) (eH eC (eH (eD (YU IF EE (Y1 T.n_len (vv 1)) eC)) eG)))) (R7 (MH hu1 (vv 1) (vv 0))))))
noncomputable abbrev Nx4:List Str:=["part","thing","able"]
noncomputable abbrev Qx4:List Str:=["part","thing","able"]
theorem zAE:dY Nx4 Qx4 (eM (top 30)):=aZ
theorem zBB(F:aW K "fits" "fits" (top 30) f fd) (T:Z1 K mg) (ay:dF P w K mg base "is_whole" 1 EM [] c6 f_x0) (iz:dF P w K mg base "may_name" 2 Qx3 [] Y3 f_x3):
  cQ P w K mg base CX0 3 f fd Qx4 (spV K [] 3 QS):=
 V3 P w K mg base Nx4 Qx4 2 HE [] F zAE fun _ _ _ _ _ _ hr hu hu1=>by
  refine eK ?_ ?_
  ·exact(cW (OX hu (vv 0) dI)
   (eJ (d7 (cV ay hr (eH (vv 1) (eH eC (eH (eD (eB (by rfl) T.v_MOST_WORD)) eG))))))
   dW)
  refine eK ?_ ?_
  ·exact(cW (OX hu (vv 0) dI)
   (eJ (d7 (cV ay hr (eH (vv 1) (eH eC (eH (eD (eB (by rfl) T.v_MOST_PLACE)) eG))))))
   dW)
  exact eJ (d7 (cV iz hr (eH (vv 1) (eH (vv 2) eG))))
noncomputable abbrev Nx5:List Str:=["thing","able","deed","rest","parts"]
noncomputable abbrev Qx5:List Str:=["thing","able"]
theorem JS:dY Nx5 Qx5 (eM (top 31)):=aZ
theorem zBA(F:aW K "is_row" "is_row" (top 31) f fd) (T:Z1 K mg) (j4:dF P w K mg base "parts_of" 1 Qx1 [] Y4 f_x1) (iy:dF P w K mg base "fits" 3 Qx4 [] QS f_x4):
  cQ P w K mg base CX0 4 f fd Qx5 (spV K [] 2 W1):=
 V3 P w K mg base Nx5 Qx5 3 PL [] F JS fun _ _ _ _ _ _ hr hu hu1=>by
  refine eK ?_ ?_
  ·exact(cW (V5 (Z8 (c9 (dC (XR T.n_isinstance (vv 0) (OY T.n_tuple cF)))) (aV (OX hu (Y1 T.n_len (vv 0)) eC))))
   (eJ (d7 b4))
   dW)
  refine eK ?_ ?_
  ·exact (GN (i := 2) (j := 3) rfl rfl JS.nd rfl rfl (by decide) (Bi rfl) (Bi rfl) (vv 0))
  refine eK ?_ ?_
  ·exact(cU JS.nd (bP (eD (QK (dC (XR T.n_isinstance (vv 2) (OY T.n_str ZU))) (cV j4 hr (eH (vv 2) eG)) bE))))
  refine eK ?_ ?_
  ·exact(cW (V5 (Z8 (cO B1 zAP (vv 4) bE (cS _)) (aV (cO (YZ (K:=K) rfl hu) Y0 (Y1 T.n_len (vv 4)) (Y1 T.n_len (vv 3)) (cS _)))))
   (eJ (d7 b4))
   dW)
  exact eJ (d7 (WE (HL (K:=K) rfl rfl) QA (by rfl) T.n_all UP (dU (cK ["able","part","given"] [1] 2 (J5 rfl (by rfl) T.n_zip (vv 4) (vv 3)) (fun hn _ _ _ _=>⟨(OW (K:=K) rfl rfl (ZO (dD hn) (ZO (dD hn) SA))),bY,(eD (cV iy hr (eH (vv 1) (eH (vv 2) (eH (vv 0) eG)))))⟩)))))
noncomputable abbrev Nx6:List Str:=["thing","sure","rows","able","row"]
noncomputable abbrev DP:List Str:=["thing"]
theorem QB:dY Nx6 DP (eM (top 32)):=aZ
theorem zB9(F:aW K "is_block" "is_block" (top 32) f fd) (T:Z1 K mg) (ay:dF P w K mg base "is_whole" 1 EM [] c6 f_x0) (j3:dF P w K mg base "makes_word" 1 Qx2 [] aL f_x2) (iw:dF P w K mg base "is_row" 4 Qx5 [] W1 f_x5):
  cQ P w K mg base CX0 5 f fd DP (spV K [] 1 cH):=
 V3 P w K mg base Nx6 DP 4 UR [] F QB fun _ _ _ _ _ _ hr hu hu1=>by
  refine eK ?_ ?_
  ·exact(cW (V5 (Z8 (c9 (dC (XR T.n_isinstance (vv 0) (OY T.n_tuple cF)))) (aV (cO (YZ (K:=K) rfl hu) Y0 (Y1 T.n_len (vv 0)) eC (cS _)))))
   (eJ (d7 b4))
   dW)
  refine eK ?_ ?_
  ·exact(DH (vv 0) (OW (K:=K) rfl rfl (ZO (dD QB.nd) (ZO (dD QB.nd) SA))))
  refine eK ?_ ?_
  ·exact (cW (c9 (dC (cV ay hr (eH (vv 1) (eH eC (eH (eD (eB (by rfl) T.v_MOST_SURE)) eG))))))
   (eJ (d7 b4))
   dW)
  refine eK ?_ ?_
  ·exact (cW (V5 (Z8 (c9 (dC (XR T.n_isinstance (vv 2) (OY T.n_tuple cF)))) (aV (cO zB5 s_gt (Y1 T.n_len (vv 2)) (eB (by rfl) T.v_MOST_ROWS) (cS _)))))
   (eJ (d7 b4))
   dW)
  refine eK ?_ ?_
  ·exact(cU QB.nd (NO (bZ (c5 dN))))
  refine eK ?_ ?_
  ·exact(SD Hd rfl (bL rfl (vv 2)) (dD QB.nd)
   (eK (cW (c9 (dC (cV iw hr (eH (vv 4) (VL (pv 3) eG)))))
   (eJ (d7 b4))
   dW)
   (eJ (WY (K:=K) rfl Fj Fk ZL N8 (pv 3) (c5 (eI (cV j3 hr (eH (vv 4) eG)) dN))))))
  exact eJ (d7 b4)
noncomputable abbrev Nx7:List Str:=["thing"]
noncomputable abbrev Qx7:List Str:=["thing"]
theorem zAD:dY Nx7 Qx7 (eM (top 36)):=aZ
theorem zB8(F:aW K "is_lanes" "is_lanes" (top 36) f fd) (T:Z1 K mg) (ay:dF P w K mg base "is_whole" 1 EM [] c6 f_x0):
  cQ P w K mg base CX0 2 f fd Qx7 (spV K [] 1 bQ):=
 V3 P w K mg base Nx7 Qx7 1 US [] F zAD fun _ _ _ _ _ _ hr hu hu1=>by exact(eJ (d7 (cV ay hr (eH (vv 0) (eH (eD (eB (by rfl) T.v_LEAST_LANES)) (eH (eD (eB (by rfl) T.v_MOST_LANES)) eG))))))
noncomputable abbrev Nx8:List Str:=["tuples"]
noncomputable abbrev Qx8:List Str:=["tuples"]
theorem zAC:dY Nx8 Qx8 (eM (top 37)):=aZ
theorem zB7(F:aW K "rows_within" "rows_within" (top 37) f fd) (T:Z1 K mg):
  cQ P w K mg base CX0 1 f fd Qx8 (spV K [] 1 a8):=
 V3 P w K mg base Nx8 Qx8 0 X9 [] F zAC fun _ _ _ _ _ _ hr hu hu1=>by exact(eJ (d7 (dU (J6 (N':=["rows","row"]) (ix:=[]) (nl:=2) rfl rfl (by rfl) rfl (by decide) (bL rfl (vv 0)) (fun cl s1 H1 fp=>⟨(dD (show(["rows","row"]:List Str).Nodup by decide+kernel)),bY,(bL rfl (vv 0)),(dD (show(["rows","row"]:List Str).Nodup by decide+kernel)),bY,(vv 1)⟩)))))
noncomputable abbrev Nx9:List Str:=["word"]
noncomputable abbrev AD:List Str:=["word"]
theorem zAB:dY Nx9 AD (eM (top 40)):=aZ
theorem zB6(F:aW K "number_in" "number_in" (top 40) f fd) (T:Z1 K mg):
  cQ P w K mg base CX0 1 f fd AD (spV K [] 1 cD):=
 V3 P w K mg base Nx9 AD 0 WB [] F zAB fun _ _ _ _ _ _ hr hu hu1=>by
  refine eK ?_ ?_
  ·exact (cW (V5 (Z8 (c9 (J7 ND ND GA GA eC (Y1 T.n_len (vv 0)) (Y1 T.n_len (QJ Y8 OP (by rfl) T.n_str ZU (eB (by rfl) T.v_MOST_WORD))))) (aV (c9 (dC (WE (HL (K := K) rfl rfl) QA (by rfl) T.n_all UP (dU (cK ["sign"] [] 1 (DG (vv 0)) (fun hn _ _ _ _ => ⟨(dD hn),bY,(eD (R6 LV zAQ (vv 0) (eB (by rfl) T.v_DIGITS) (by with_unfolding_all rfl)))⟩)))))))))
   (eJ (d7 bE))
   dW)
  exact eJ (d7 (QK (OX hu (vv 0) (QJ Y8 OP (by rfl) T.n_str ZU (QJ SS JL (by rfl) T.n_int NW (vv 0)))) (QJ SS JL (by rfl) T.n_int NW (vv 0)) bE))
noncomputable abbrev Nx10:List Str:=["block","sure","rows","parts"]
noncomputable abbrev T3:List Str:=["block"]
theorem JM:dY Nx10 T3 (eM (top 41)):=aZ
theorem BH(F:aW K "shown" "shown" (top 41) f fd) (T:Z1 K mg) (bz:dF P w K mg base "is_block" 5 DP [] cH f_x6):
  cQ P w K mg base CX0 6 f fd T3 (spV K [] 1 VO):=
 V3 P w K mg base Nx10 T3 5 MY [] F JM fun _ _ _ _ _ _ hr hu hu1=>by
  refine eK ?_ ?_
  ·exact(cW (c9 (dC (cV bz hr (eH (vv 0) eG))))
   (eJ bX)
   dW)
  exact MI
theorem FJ(F:aW K "shown" "shown" (top 41) f fd) (T:Z1 K mg) (bz:dF P w K mg base "is_block" 5 DP [] cH f_x6):
  cQ P w K mg base (NQ P w) 6 f fd T3 (GR K 1 VR):=
 okZ P w K mg base Nx10 T3 5 NP F JM fun _ _ _ _ _ _ hr hu hu1=>by exact(cP (VN (c9 (dC (cV bz hr (eH (vv 0) eG)))) (cP (aK rfl ZF rfl (by rfl) T.x_NoBlock)) X6))
noncomputable abbrev Nx11:List Str:=["text","parts","part","first","rest"]
noncomputable abbrev KU:List Str:=["text"]
theorem RU:dY Nx11 KU (eM (top 42)):=aZ
theorem BI(F:aW K "parts_in" "parts_in" (top 42) f fd) (T:Z1 K mg) (dh:dF P w K mg base "number_in" 1 AD [] cD f_x9):
  cQ P w K mg base CX0 2 f fd KU (spV K [] 1 bC):=
 V3 P w K mg base Nx11 KU 1 UV [] F RU fun _ _ _ _ _ _ hr hu hu1=>by
  refine eK ?_ ?_
  ·exact(cU RU.nd (NO (bZ (c5 dN))))
  refine eK ?_ ?_
  ·exact(SD Hd rfl (bL rfl (dU (ZP (vv 0) dI))) (dD RU.nd)
   (eK (VM (i:=3) (j:=4) rfl rfl RU.nd rfl rfl (by decide) (Bi rfl) (Bi rfl) (dU (ZP (vv 2) dI)))
   (eJ (WY (K:=K) rfl Fj Fk ZL N8 (pv 1) (c5 (eI (cC (Z6 (K:=K) rfl) bH (bT (eI (vv 3) dN)) (WF (Z7 (K:=K) rfl) Z3 (by rfl) T.n_tuple cF (dU (cK ["word"] [] 1 (bL rfl (vv 4)) (fun hn _ _ _ _=>⟨(dD hn),bY,(eD (cV dh hr (eH (vv 0) eG)))⟩))))) dN))))))
  exact eJ (GL (pv 1))
noncomputable abbrev Nx12:List Str:=["text","head","rows"]
noncomputable abbrev T4:List Str:=["text"]
theorem RV:dY Nx12 T4 (eM (top 43)):=aZ
theorem BJ(F:aW K "read" "read" (top 43) f fd) (T:Z1 K mg) (bz:dF P w K mg base "is_block" 5 DP [] cH f_x6) (cy:dF P w K mg base "parts_in" 2 KU [] bC f_x11):
  cQ P w K mg base CX0 6 f fd T4 (spV K [] 1 QT):=
 V3 P w K mg base Nx12 T4 5 HH [] F RV fun _ _ _ _ _ _ hr hu hu1=>by
  refine eK ?_ ?_
  ·exact(cW (c9 (dC (XR T.n_isinstance (vv 0) (OY T.n_str ZU))))
   (eJ bX)
   dW)
  refine eK ?_ ?_
  ·exact (VM (i := 1) (j := 2) rfl rfl RV.nd rfl rfl (by decide) (Bi rfl) (Bi rfl) (eD (cV cy hr (eH (vv 0) eG))))
  refine eK ?_ ?_
  ·exact (cW (V5 (Z8 (cO (YZ (K := K) rfl hu) Y0 (Y1 T.n_len (vv 1)) eC (cS _)) (Z8 (cO (YZ (K := K) rfl hu) Y0 (MH hu1 (vv 1) eC) dI (cS _)) (aV (c9 (dC (cV bz hr (eH (eD (bT (eI (MH hu1 (vv 1) eC) (eI (WF (Z7 (K := K) rfl) Z3 (by rfl) T.n_tuple cF (vv 2)) dN)))) eG))))))))
   (eJ bX)
   dW)
  exact eJ (d7 (bT (eI (MH hu1 (vv 1) eC) (eI (WF (Z7 (K:=K) rfl) Z3 (by rfl) T.n_tuple cF (vv 2)) dN))))
theorem FK(F:aW K "read" "read" (top 43) f fd) (T:Z1 K mg) (bz:dF P w K mg base "is_block" 5 DP [] cH f_x6) (cy:dF P w K mg base "parts_in" 2 KU [] bC f_x11):
  cQ P w K mg base (NQ P w) 6 f fd T4 (GR K 1 QW):=
 okZ P w K mg base Nx12 T4 5 KD F RV fun _ _ _ _ _ _ hr hu hu1=>by
  exact(SE (cP (VN (c9 (dC (XR T.n_isinstance (vv 0) (OY T.n_str ZU)))) (cP (aK rfl ZF rfl (by rfl) T.x_NoText)) X6))
   (YI (cW (c9 (dC (XR T.n_isinstance (vv 0) (OY T.n_str ZU))))
   (eJ bX)
   dW)
   (YI (VM (i:=1) (j:=2) rfl rfl RV.nd rfl rfl (by decide) (Bi rfl) (Bi rfl) (eD (cV cy hr (eH (vv 0) eG))))
   (cP (VN (V5 (Z8 (cO (YZ (K:=K) rfl hu) Y0 (Y1 T.n_len (vv 1)) eC (cS _)) (Z8 (cO (YZ (K:=K) rfl hu) Y0 (MH hu1 (vv 1) eC) dI (cS _)) (aV (c9 (dC (cV bz hr (eH (eD (bT (eI (MH hu1 (vv 1) eC) (eI (WF (Z7 (K:=K) rfl) Z3 (by rfl) T.n_tuple cF (vv 2)) dN)))) eG)))))))) (cP (aK rfl ZF rfl (by rfl) T.x_NoText)) X6)))))
noncomputable abbrev Nx13:List Str:=["things"]
noncomputable abbrev KW:List Str:=["things"]
theorem CY:dY Nx13 KW (eM (top 44)):=aZ
theorem BK(F:aW K "is_rising" "is_rising" (top 44) f fd) (T:Z1 K mg):
  cQ P w K mg base CX0 1 f fd KW (spV K [] 1 bM):=
 V3 P w K mg base Nx13 KW 0 V9 [] F CY fun _ _ _ _ _ _ hr hu hu1=>by exact(eJ (d7 (WE (HL (K:=K) rfl rfl) QA (by rfl) T.n_all UP (dU (cK ["first","second"] [] 2 (J5 rfl (by rfl) T.n_zip (vv 0) (eD (zA2 rfl (vv 0) (zA0 eC) zA1))) (fun hn _ _ _ _=>⟨(OW (K:=K) rfl rfl (ZO (dD hn) (ZO (dD hn) SA))),bY,(eD (R6 (kLtA (K:=K) rfl hu) zAM (vv 0) (vv 1) (cS _)))⟩))))))
noncomputable abbrev Nx14:List Str:=["thing","lanes"]
noncomputable abbrev GV:List Str:=["thing","lanes"]
theorem CZ:dY Nx14 GV (eM (top 45)):=aZ
theorem BL(F:aW K "is_written_pack" "is_written_pack" (top 45) f fd) (T:Z1 K mg) (ay:dF P w K mg base "is_whole" 1 EM [] c6 f_x0) (cx:dF P w K mg base "is_rising" 1 KW [] bM f_x13):
  cQ P w K mg base CX0 2 f fd GV (spV K [] 2 cA):=
 V3 P w K mg base Nx14 GV 1 Z4 [] F CZ fun _ _ _ _ _ _ hr hu hu1=>by
  refine eK ?_ ?_
  ·exact(cW (V5 (Z8 (c9 (dC (XR T.n_isinstance (vv 0) (OY T.n_tuple cF)))) (aV (cO (YZ (K:=K) rfl hu) Y0 (Y1 T.n_len (vv 0)) (vv 1) (cS _)))))
   (eJ (d7 b4))
   dW)
  exact eJ (d7 (R0 (WE (HL (K:=K) rfl rfl) QA (by rfl) T.n_all UP (dU (cK ["row"] [] 1 (bL rfl (vv 0)) (fun hn _ _ _ _=>⟨(dD hn),bY,(eD (cV ay hr (eH (vv 0) (eH eC (eH (eD (YU IF EE (eB (by rfl) T.v_MOST_ROWS) eC)) eG)))))⟩)))) (R7 (cV cx hr (eH (vv 0) eG)))))
noncomputable abbrev Nx15:List Str:=["thing","lanes","rows"]
noncomputable abbrev O4:List Str:=["thing","lanes"]
theorem JN:dY Nx15 O4 (eM (top 46)):=aZ
theorem BM(F:aW K "is_written_plan" "is_written_plan" (top 46) f fd) (T:Z1 K mg) (iu:dF P w K mg base "rows_within" 1 Qx8 [] a8 f_x8) (cx:dF P w K mg base "is_rising" 1 KW [] bM f_x13) (gm:dF P w K mg base "is_written_pack" 2 GV [] cA f_x14):
  cQ P w K mg base CX0 3 f fd O4 (spV K [] 2 dR):=
 V3 P w K mg base Nx15 O4 2 Z5 [] F JN fun _ _ _ _ _ _ hr hu hu1=>by
  refine eK ?_ ?_
  ·exact (cW (V5 (Z8 (c9 (dC (XR T.n_isinstance (vv 0) (OY T.n_tuple cF)))) (aV (c9 (dC (WE (HL (K := K) rfl rfl) QA (by rfl) T.n_all UP (dU (cK ["lanes","pack"] [1] 1 (bL rfl (vv 0)) (fun hn _ _ _ _ => ⟨(dD hn),bY,(eD (cV gm hr (eH (vv 1) (eH (vv 0) eG))))⟩)))))))))
   (eJ (d7 b4))
   dW)
  refine eK ?_ ?_
  ·exact(cU JN.nd (bP (eD (cV iu hr (eH (vv 0) eG)))))
  exact eJ (d7 (R0 (cV cx hr (eH (vv 0) eG)) (R7 (veq hu (GK T.n_len T.n_set (vv 2)) (Y1 T.n_len (vv 2))))))
noncomputable abbrev Nx16:List Str:=["plan"]
noncomputable abbrev T5:List Str:=["plan"]
theorem JO:dY Nx16 T5 (eM (top 47)):=aZ
theorem BN(F:aW K "shown_plan" "shown_plan" (top 47) f fd) (T:Z1 K mg) (au:dF P w K mg base "is_written_plan" 3 O4 [] dR f_x15):
  cQ P w K mg base CX0 4 f fd T5 (spV K [] 1 aM):=
 V3 P w K mg base Nx16 T5 3 W8 [] F JO fun _ _ _ _ _ _ hr hu hu1=>by
  refine eK ?_ ?_
  ·exact (cW (c9 (dC (WE (kAny (K := K) rfl rfl) EC (by rfl) T.n_any G7 (dU (cK ["plan","lanes"] [0] 1 (T1 (by rfl) T.n_range (eB (by rfl) T.v_LEAST_LANES) (cC (Z6 (K := K) rfl) bH (eB (by rfl) T.v_MOST_LANES) eC)) (fun hn _ _ _ _ => ⟨(dD hn),bY,(eD (cV au hr (eH (vv 0) (eH (vv 1) eG))))⟩))))))
   (eJ bX)
   dW)
  exact eJ (d7 (NN dI (dU (cK ["pack"] [] 1 (bL rfl (vv 0)) (fun hn _ _ _ _=>⟨(dD hn),bY,(eD (NN dI (dU (cK ["row"] [] 1 (bL rfl (vv 0)) (fun hn _ _ _ _=>⟨(dD hn),bY,(eD (QJ Y8 OP (by rfl) T.n_str ZU (vv 0)))⟩)))))⟩)))))
theorem FL(F:aW K "shown_plan" "shown_plan" (top 47) f fd) (T:Z1 K mg) (au:dF P w K mg base "is_written_plan" 3 O4 [] dR f_x15):
  cQ P w K mg base (NQ P w) 4 f fd T5 (GR K 1 aN):=
 okZ P w K mg base Nx16 T5 3 XS F JO fun _ _ _ _ _ _ hr hu hu1=>by exact(cP (VN (c9 (dC (WE (kAny (K:=K) rfl rfl) EC (by rfl) T.n_any G7 (dU (cK ["plan","lanes"] [0] 1 (T1 (by rfl) T.n_range (eB (by rfl) T.v_LEAST_LANES) (cC (Z6 (K:=K) rfl) bH (eB (by rfl) T.v_MOST_LANES) eC)) (fun hn _ _ _ _=>⟨(dD hn),bY,(eD (cV au hr (eH (vv 0) (eH (vv 1) eG))))⟩)))))) (cP (aK rfl ZF rfl (by rfl) T.x_NoPlan)) X6))
noncomputable abbrev Nx17:List Str:=["text","lanes","packs","plan"]
noncomputable abbrev QV:List Str:=["text","lanes"]
theorem WU:dY Nx17 QV (eM (top 48)):=aZ
theorem BO(F:aW K "read_plan" "read_plan" (top 48) f fd) (T:Z1 K mg) (ei:dF P w K mg base "is_lanes" 2 Qx7 [] bQ f_x7) (dh:dF P w K mg base "number_in" 1 AD [] cD f_x9) (au:dF P w K mg base "is_written_plan" 3 O4 [] dR f_x15):
  cQ P w K mg base CX0 4 f fd QV (spV K [] 2 ZZ):=
 V3 P w K mg base Nx17 QV 3 WC [] F WU fun _ _ _ _ _ _ hr hu hu1=>by
  refine eK ?_ ?_
  ·exact(cW (c9 (dC (cV ei hr (eH (vv 1) eG))))
   (eJ bX)
   dW)
  refine eK ?_ ?_
  ·exact(cW (c9 (dC (XR T.n_isinstance (vv 0) (OY T.n_str ZU))))
   (eJ bX)
   dW)
  refine eK ?_ ?_
  ·exact(cU WU.nd (bP (eD (QK (cO (YZ (K:=K) rfl hu) Y0 (vv 0) dI (cS _)) (dU (ZP (vv 0) dI)) (dU (bZ (c5 dN)))))))
  refine eK ?_ ?_
  ·exact (@cU _ _ _ _ _ _ _ _ _ WU.nd (@bP _ _ _ _ _ _ (@eD _ _ _ _ _ _ _ _ (@WF _ _ _ _ _ _ _ _ _ _ _ _ _ _ (Z7 (K := K) rfl) Z3 (by rfl) T.n_tuple cF (@dU _ _ _ _ _ _ (@cK _ _ _ _ _ _ _ _ _ _ _ _ _ _ _ _ ["pack"] [] 1 (@bL _ _ _ _ _ _ _ rfl (@vv _ _ _ _ _ 2 rfl (by first | exact Bi rfl | exact As (Bi rfl) | exact As (As rfl)) (by decide) (by decide))) (fun hn _ _ _ _ => ⟨ (@dD _ _ _ _ _ _ hn rfl (by first | exact .inl rfl | exact .inr rfl) (by decide) (by first | exact .inl rfl | exact .inr rfl | assumption)) ,bY,(@eD _ _ _ _ _ _ _ _ (@WF _ _ _ _ _ _ _ _ _ _ _ _ _ _ (Z7 (K := K) rfl) Z3 (by rfl) T.n_tuple cF (@dU _ _ _ _ _ _ (@cK _ _ _ _ _ _ _ _ _ _ _ _ _ _ _ _ ["word"] [] 1 (@bL _ _ _ _ _ _ _ rfl (@dU _ _ _ _ _ _ (ZP (@vv _ _ _ _ _ 0 rfl (by first | exact Bi rfl | exact As (Bi rfl) | exact As (As rfl)) (by decide) (by decide)) dI))) (fun hn _ _ _ _ => ⟨ (@dD _ _ _ _ _ _ hn rfl (by first | exact .inl rfl | exact .inr rfl) (by decide) (by first | exact .inl rfl | exact .inr rfl | assumption)) ,bY,(@eD _ _ _ _ _ _ _ _ (@cV _ _ _ _ _ _ _ _ _ _ _ _ _ _ _ _ _ dh hr (@eH _ _ _ _ _ _ _ _ _ (@vv _ _ _ _ _ 0 rfl (by first | exact Bi rfl | exact As (Bi rfl) | exact As (As rfl)) (by decide) (by decide)) eG rfl) rfl (by decide) rfl (by decide) rfl rfl) rfl) ⟩) rfl rfl rfl rfl (by decide) (by intro _;rfl))) (by decide) (by decide) rfl) rfl) ⟩) rfl rfl rfl rfl (by decide) (by intro _;rfl))) (by decide) (by decide) rfl) rfl)) rfl (by first | exact .inl rfl | exact .inr rfl) (by decide) rfl (by first | exact .inl rfl | exact .inr rfl | assumption))
  refine eK ?_ ?_
  ·exact(cW (c9 (dC (cV au hr (eH (vv 3) (eH (vv 1) eG)))))
   (eJ bX)
   dW)
  exact eJ (d7 (vv 3))
theorem FM(F:aW K "read_plan" "read_plan" (top 48) f fd) (T:Z1 K mg) (ei:dF P w K mg base "is_lanes" 2 Qx7 [] bQ f_x7) (dh:dF P w K mg base "number_in" 1 AD [] cD f_x9) (au:dF P w K mg base "is_written_plan" 3 O4 [] dR f_x15):
  cQ P w K mg base (NQ P w) 4 f fd QV (GR K 2 Z2):=
 okZ P w K mg base Nx17 QV 3 WG F WU fun _ _ _ _ _ _ hr hu hu1=>by
  exact(SE (cP (VN (c9 (dC (cV ei hr (eH (vv 1) eG)))) (cP (aK rfl ZF rfl (by rfl) T.x_NoLanes)) X6))
   (YI (cW (c9 (dC (cV ei hr (eH (vv 1) eG))))
   (eJ bX)
   dW)
   (SE (cP (VN (c9 (dC (XR T.n_isinstance (vv 0) (OY T.n_str ZU)))) (cP (aK rfl ZF rfl (by rfl) T.x_NoText)) X6))
   (YI (cW (c9 (dC (XR T.n_isinstance (vv 0) (OY T.n_str ZU))))
   (eJ bX)
   dW)
   (YI (cU WU.nd (bP (eD (QK (cO (YZ (K:=K) rfl hu) Y0 (vv 0) dI (cS _)) (dU (ZP (vv 0) dI)) (dU (bZ (c5 dN)))))))
   (YI (cU WU.nd (bP (eD (WF (Z7 (K:=K) rfl) Z3 (by rfl) T.n_tuple cF (dU (cK ["pack"] [] 1 (bL rfl (vv 2)) (fun hn _ _ _ _=>⟨(dD hn),bY,(eD (WF (Z7 (K:=K) rfl) Z3 (by rfl) T.n_tuple cF (dU (cK ["word"] [] 1 (bL rfl (dU (ZP (vv 0) dI))) (fun hn _ _ _ _=>⟨(dD hn),bY,(eD (cV dh hr (eH (vv 0) eG)))⟩)))))⟩)))))))
   (cP (VN (c9 (dC (cV au hr (eH (vv 3) (eH (vv 1) eG))))) (cP (aK rfl ZF rfl (by rfl) T.x_NoText)) X6))))))))
noncomputable abbrev Nx18:List Str:=["_law_script","_law_k","_law_rest","_law_again"]
noncomputable abbrev GW:List Str:=["_law_script","_law_k"]
theorem RW:dY Nx18 GW (eM (top 50)):=aZ
theorem BP(F:aW K "_law_cell_at" "_law_cell_at" (top 50) f fd) (T:Z1 K mg):
  cQ P w K mg base CX0 1 f fd GW (spV K [] 2 cR):=
 V3 P w K mg base Nx18 GW 0 ZV [] F RW fun _ _ _ _ _ _ hr hu hu1=>by
  refine eK ?_ ?_
  ·exact(cW (cO DZ s_lt (vv 1) (Y1 T.n_len (vv 0)) (cS _))
   (eJ (d7 (MH hu1 (vv 0) (vv 1))))
   dW)
  refine eK ?_ ?_
  ·exact(cW (OX hu (vv 0) (dU (bZ (c5 dN))))
   (eJ (d7 eC))
   dW)
  refine eK ?_ ?_
  ·exact(cU RW.nd (bP (eD (MH hu1 (vv 0) (YU WR TL (vv 1) (Y1 T.n_len (vv 0)))))))
  refine eK ?_ ?_
  ·exact (SD Hd rfl (MG (by rfl) T.n_range (a7 (K5 rfl) zAL (by rfl) T.n_min AK (YU NC JK (vv 1) (Y1 T.n_len (vv 0))) eC)) (dD RW.nd)
   (eJ (cU RW.nd (bP (eD (YU NC JK (vv 2) eC))))))
  exact eJ (d7 (cC (Z6 (K:=K) rfl) bH (cC (Z6 (K:=K) rfl) bH (cC (RH (K:=K) rfl) VU (MH hu1 (vv 0) (YU WR TL (vv 1) (Y1 T.n_len (vv 0)))) eC) (vv 1)) (cC (RH (K:=K) rfl) VU (vv 2) eC)))
noncomputable abbrev Nx19:List Str:=["_law_script","_law_k","_law_bound","_law_drawn"]
noncomputable abbrev GX:List Str:=["_law_script","_law_k","_law_bound"]
theorem JP:dY Nx19 GX (eM (top 51)):=aZ
theorem BQ(F:aW K "_law_mixed" "_law_mixed" (top 51) f fd) (T:Z1 K mg) (gj:dF P w K mg base "_law_cell_at" 1 GW [] cR f_x18):
  cQ P w K mg base CX0 2 f fd GX (spV K [] 3 bN):=
 V3 P w K mg base Nx19 GX 1 YQ [] F JP fun _ _ _ _ _ _ hr hu hu1=>by
  refine eK ?_ ?_
  ·exact(@cU _ _ _ _ _ _ _ _ _ JP.nd (@bP _ _ _ _ _ _ (@eD _ _ _ _ _ _ _ _ (@YU _ _ _ _ _ _ _ _ _ _ _ _ _ _ _ _ _ WR TL (@cC _ _ _ _ _ _ _ _ _ _ _ _ _ _ _ _ _ (Z6 (K:=K) rfl) bH (@cC _ _ _ _ _ _ _ _ _ _ _ _ _ _ _ _ _ (Z6 (K:=K) rfl) bH (@cC _ _ _ _ _ _ _ _ _ _ _ _ _ _ _ _ _ (RH (K:=K) rfl) VU (@cV _ _ _ _ _ _ _ _ _ _ _ _ _ _ _ _ _ gj hr (@eH _ _ _ _ _ _ _ _ _ (@vv _ _ _ _ _ 0 rfl (by first|exact Bi rfl|exact As (Bi rfl)|exact As (As rfl)) (by decide) (by decide)) (@eH _ _ _ _ _ _ _ _ _ (@vv _ _ _ _ _ 1 rfl (by first|exact Bi rfl|exact As (Bi rfl)|exact As (As rfl)) (by decide) (by decide)) eG rfl) rfl) rfl (by decide) rfl (by decide) rfl rfl) eC rfl) (@cC _ _ _ _ _ _ _ _ _ _ _ _ _ _ _ _ _ (RH (K:=K) rfl) VU eC (@vv _ _ _ _ _ 1 rfl (by first|exact Bi rfl|exact As (Bi rfl)|exact As (As rfl)) (by decide) (by decide)) rfl) rfl) eC rfl) eC rfl) rfl)) rfl (by first|exact .inl rfl|exact .inr rfl) (by decide) rfl (by first|exact .inl rfl|exact .inr rfl|assumption))
  exact eJ (d7 (YU WR TL (YU WR TL (YU WR TL (YU B5 zAJ (vv 3) eC) eC) eC) (vv 2)))
noncomputable abbrev Nx20:List Str:=["_law_script","_law_town","_law_bound"]
noncomputable abbrev GY:List Str:=["_law_script","_law_town","_law_bound"]
theorem C0:dY Nx20 GY (eM (top 52)):=aZ
theorem BR(F:aW K "_law_draw" "_law_draw" (top 52) f fd) (T:Z1 K mg) (gf:dF P w K mg base "_law_mixed" 2 GX [] bN f_x19):
  cQ P w K mg base CX0 3 f fd GY (spV K [1] 3 bB):=
 V3 P w K mg base Nx20 GY 2 XX [1] F C0 fun _ _ _ _ _ _ hr hu hu1=>by
  refine eK ?_ ?_
  ·exact(WY (K:=K) rfl Fj Fk ZL N8 (pv 1) (c5 (eI eC dN)))
  exact eJ (d7 (cV gf hr (eH (vv 0) (eH (eD (Y1 T.n_len (vo 1))) (eH (vv 2) eG)))))
noncomputable abbrev Nx21:List Str:=["_law_script","_law_town","_law_some"]
noncomputable abbrev KY:List Str:=["_law_script","_law_town","_law_some"]
theorem C2:dY Nx21 KY (eM (top 53)):=aZ
theorem BS(F:aW K "_law_pick" "_law_pick" (top 53) f fd) (T:Z1 K mg) (gd:dF P w K mg base "_law_draw" 3 GY [1] bB f_x20):
  cQ P w K mg base CX0 4 f fd KY (spV K [1] 3 dJ):=
 V3 P w K mg base Nx21 KY 3 XZ [1] F C2 fun _ _ _ _ _ _ hr hu hu1=>by exact(eJ (d7 (MH hu1 (vv 2) (cV gd hr (eH (vv 0) (VL (pv 1) (eH (eD (Y1 T.n_len (vv 2))) eG)))))))
noncomputable abbrev Nx22:List Str:=["_law_e","_law_own"]
noncomputable abbrev GZ:List Str:=["_law_e"]
theorem JQ:dY Nx22 GZ (eM (top 54)):=aZ
theorem BU(F:aW K "_law_which" "_law_which" (top 54) f fd) (T:Z1 K mg):
  FnH P w K mg base 1 f fd GZ (spV K [] 1 ZY):=
 okWH P w K mg base Nx22 GZ 0 WA [] F JQ fun _ _ _ _ _ hr hu hu1=>by
  refine eK ?_ ?_
  ·exact (@cU _ _ _ _ _ _ _ _ _ JQ.nd (@NO _ _ _ _ _ _ (@bZ _ _ _ _ _ _ _ (@c5 _ _ _ _ _ _ _ (@eI _ _ _ _ _ _ _ _ _ _ _ _ (@a7 _ _ _ _ _ _ _ _ _ _ _ _ _ _ _ _ _ _ _ (X1 (K := K) rfl) (aI T.xi) (by rfl) T.n_isinstance dX (@vv _ _ _ _ _ 0 rfl (by first | exact Bi rfl | exact As (Bi rfl) | exact As (As rfl)) (by decide) (by decide)) (@eB _ _ _ _ _ _ (by rfl) T.v_NoBlock (by decide)) (by decide) (by decide) rfl rfl rfl rfl) (@eI _ _ _ _ _ _ _ _ _ _ _ _ (@a7 _ _ _ _ _ _ _ _ _ _ _ _ _ _ _ _ _ _ _ (X1 (K := K) rfl) (aI T.xi) (by rfl) T.n_isinstance dX (@vv _ _ _ _ _ 0 rfl (by first | exact Bi rfl | exact As (Bi rfl) | exact As (As rfl)) (by decide) (by decide)) (@eB _ _ _ _ _ _ (by rfl) T.v_NoCells (by decide)) (by decide) (by decide) rfl rfl rfl rfl) (@eI _ _ _ _ _ _ _ _ _ _ _ _ (@a7 _ _ _ _ _ _ _ _ _ _ _ _ _ _ _ _ _ _ _ (X1 (K := K) rfl) (aI T.xi) (by rfl) T.n_isinstance dX (@vv _ _ _ _ _ 0 rfl (by first | exact Bi rfl | exact As (Bi rfl) | exact As (As rfl)) (by decide) (by decide)) (@eB _ _ _ _ _ _ (by rfl) T.v_NoRow (by decide)) (by decide) (by decide) rfl rfl rfl rfl) (@eI _ _ _ _ _ _ _ _ _ _ _ _ (@a7 _ _ _ _ _ _ _ _ _ _ _ _ _ _ _ _ _ _ _ (X1 (K := K) rfl) (aI T.xi) (by rfl) T.n_isinstance dX (@vv _ _ _ _ _ 0 rfl (by first | exact Bi rfl | exact As (Bi rfl) | exact As (As rfl)) (by decide) (by decide)) (@eB _ _ _ _ _ _ (by rfl) T.v_NoLanes (by decide)) (by decide) (by decide) rfl rfl rfl rfl) dN rfl rfl rfl) rfl rfl rfl) rfl rfl rfl) rfl rfl rfl) rfl))) rfl (by first | exact .inl rfl | exact .inr rfl) (by decide) rfl (by first | exact .inl rfl | exact .inr rfl | assumption))
  refine eK ?_ ?_
  ·exact (@WY _ _ _ _ _ _ _ _ _ _ _ _ _ _ _ _ _ rfl Fl Fm (HM (K := K) rfl) N9 (pv 1) (@c5 _ _ _ _ _ _ _ (@eI _ _ _ _ _ _ _ _ _ _ _ _ (@dU _ _ _ _ _ _ (@bZ _ _ _ _ _ _ _ (@c5 _ _ _ _ _ _ _ (@eI _ _ _ _ _ _ _ _ _ _ _ _ (@a7 _ _ _ _ _ _ _ _ _ _ _ _ _ _ _ _ _ _ _ (X1 (K := K) rfl) (aI T.xi) (by rfl) T.n_isinstance dX (@vv _ _ _ _ _ 0 rfl (by first | exact Bi rfl | exact As (Bi rfl) | exact As (As rfl)) (by decide) (by decide)) (@eB _ _ _ _ _ _ (by rfl) T.v_NoPlan (by decide)) (by decide) (by decide) rfl rfl rfl rfl) (@eI _ _ _ _ _ _ _ _ _ _ _ _ (@a7 _ _ _ _ _ _ _ _ _ _ _ _ _ _ _ _ _ _ _ (X1 (K := K) rfl) (aI T.xi) (by rfl) T.n_isinstance dX (@vv _ _ _ _ _ 0 rfl (by first | exact Bi rfl | exact As (Bi rfl) | exact As (As rfl)) (by decide) (by decide)) (@eB _ _ _ _ _ _ (by rfl) T.v_NoProgram (by decide)) (by decide) (by decide) rfl rfl rfl rfl) (@eI _ _ _ _ _ _ _ _ _ _ _ _ (@a7 _ _ _ _ _ _ _ _ _ _ _ _ _ _ _ _ _ _ _ (X1 (K := K) rfl) (aI T.xi) (by rfl) T.n_isinstance dX (@vv _ _ _ _ _ 0 rfl (by first | exact Bi rfl | exact As (Bi rfl) | exact As (As rfl)) (by decide) (by decide)) (@eB _ _ _ _ _ _ (by rfl) T.v_NoTree (by decide)) (by decide) (by decide) rfl rfl rfl rfl) (@eI _ _ _ _ _ _ _ _ _ _ _ _ (@a7 _ _ _ _ _ _ _ _ _ _ _ _ _ _ _ _ _ _ _ (X1 (K := K) rfl) (aI T.xi) (by rfl) T.n_isinstance dX (@vv _ _ _ _ _ 0 rfl (by first | exact Bi rfl | exact As (Bi rfl) | exact As (As rfl)) (by decide) (by decide)) (@eB _ _ _ _ _ _ (by rfl) T.v_NoLoop (by decide)) (by decide) (by decide) rfl rfl rfl rfl) dN rfl rfl rfl) rfl rfl rfl) rfl rfl rfl) rfl rfl rfl) rfl))) dN rfl rfl rfl) rfl) rfl rfl rfl rfl rfl rfl)
  refine eK ?_ ?_
  ·exact (@WY _ _ _ _ _ _ _ _ _ _ _ _ _ _ _ _ _ rfl Fl Fm (HM (K := K) rfl) N9 (pv 1) (@c5 _ _ _ _ _ _ _ (@eI _ _ _ _ _ _ _ _ _ _ _ _ (@dU _ _ _ _ _ _ (@bZ _ _ _ _ _ _ _ (@c5 _ _ _ _ _ _ _ (@eI _ _ _ _ _ _ _ _ _ _ _ _ (@a7 _ _ _ _ _ _ _ _ _ _ _ _ _ _ _ _ _ _ _ (X1 (K := K) rfl) (aI T.xi) (by rfl) T.n_isinstance dX (@vv _ _ _ _ _ 0 rfl (by first | exact Bi rfl | exact As (Bi rfl) | exact As (As rfl)) (by decide) (by decide)) (@eB _ _ _ _ _ _ (by rfl) T.v_NoText (by decide)) (by decide) (by decide) rfl rfl rfl rfl) (@eI _ _ _ _ _ _ _ _ _ _ _ _ (@a7 _ _ _ _ _ _ _ _ _ _ _ _ _ _ _ _ _ _ _ (X1 (K := K) rfl) (aI T.xi) (by rfl) T.n_isinstance dX (@vv _ _ _ _ _ 0 rfl (by first | exact Bi rfl | exact As (Bi rfl) | exact As (As rfl)) (by decide) (by decide)) (@eB _ _ _ _ _ _ (by rfl) T.v_NoName (by decide)) (by decide) (by decide) rfl rfl rfl rfl) (@eI _ _ _ _ _ _ _ _ _ _ _ _ (@a7 _ _ _ _ _ _ _ _ _ _ _ _ _ _ _ _ _ _ _ (X1 (K := K) rfl) (aI T.xi) (by rfl) T.n_isinstance dX (@vv _ _ _ _ _ 0 rfl (by first | exact Bi rfl | exact As (Bi rfl) | exact As (As rfl)) (by decide) (by decide)) (@eB _ _ _ _ _ _ (by rfl) T.v_TooMany (by decide)) (by decide) (by decide) rfl rfl rfl rfl) (@eI _ _ _ _ _ _ _ _ _ _ _ _ (@a7 _ _ _ _ _ _ _ _ _ _ _ _ _ _ _ _ _ _ _ (X1 (K := K) rfl) (aI T.xi) (by rfl) T.n_isinstance dX (@vv _ _ _ _ _ 0 rfl (by first | exact Bi rfl | exact As (Bi rfl) | exact As (As rfl)) (by decide) (by decide)) (@eB _ _ _ _ _ _ (by rfl) T.v_TooLong (by decide)) (by decide) (by decide) rfl rfl rfl rfl) dN rfl rfl rfl) rfl rfl rfl) rfl rfl rfl) rfl rfl rfl) rfl))) dN rfl rfl rfl) rfl) rfl rfl rfl rfl rfl rfl)
  refine eK ?_ ?_
  ·exact (@WY _ _ _ _ _ _ _ _ _ _ _ _ _ _ _ _ _ rfl Fl Fm (HM (K := K) rfl) N9 (pv 1) (@c5 _ _ _ _ _ _ _ (@eI _ _ _ _ _ _ _ _ _ _ _ _ (@dU _ _ _ _ _ _ (@bZ _ _ _ _ _ _ _ (@c5 _ _ _ _ _ _ _ (@eI _ _ _ _ _ _ _ _ _ _ _ _ (@a7 _ _ _ _ _ _ _ _ _ _ _ _ _ _ _ _ _ _ _ (X1 (K := K) rfl) (aI T.xi) (by rfl) T.n_isinstance dX (@vv _ _ _ _ _ 0 rfl (by first | exact Bi rfl | exact As (Bi rfl) | exact As (As rfl)) (by decide) (by decide)) (@eB _ _ _ _ _ _ (by rfl) T.v_NotValid (by decide)) (by decide) (by decide) rfl rfl rfl rfl) (@eI _ _ _ _ _ _ _ _ _ _ _ _ (@a7 _ _ _ _ _ _ _ _ _ _ _ _ _ _ _ _ _ _ _ (X1 (K := K) rfl) (aI T.xi) (by rfl) T.n_isinstance dX (@vv _ _ _ _ _ 0 rfl (by first | exact Bi rfl | exact As (Bi rfl) | exact As (As rfl)) (by decide) (by decide)) (@eB _ _ _ _ _ _ (by rfl) T.v_Nothing (by decide)) (by decide) (by decide) rfl rfl rfl rfl) dN rfl rfl rfl) rfl rfl rfl) rfl))) dN rfl rfl rfl) rfl) rfl rfl rfl rfl rfl rfl)
  refine eK ?_ ?_
  ·exact (cW (V5 (Z8 (cO (YZ (K := K) rfl hu) Y0 (EI rfl PySem.F.slot_list_count PySem.F.type_list_count (E8 (K := K) rfl) IA (vo 1) b4) eC (cS _)) (aV (c9 (dC (a7 (X1 (K := K) rfl) (aI T.xi) (by rfl) T.n_isinstance dX (vv 0) (OY T.n_ValueError T7)))))))
   (eJ (d7 (bT (eI dI (eI (J4 eC) dN)))))
   dW)
  exact eJ (d7 (bT (eI dI (eI (EI rfl PySem.F.slot_list_index PySem.F.type_list_index (E9 (K:=K) rfl) IB (vo 1) b4) dN))))
noncomputable abbrev Nx23:List Str:=["_law_script","_law_town","_law_some"]
noncomputable abbrev G0:List Str:=["_law_script","_law_town"]
theorem WV:dY Nx23 G0 (eM (top 55)):=aZ
theorem BV(F:aW K "_law_none" "_law_none" (top 55) f fd) (T:Z1 K mg) (bw:dF P w K mg base "_law_pick" 4 KY [1] dJ f_x21):
  cQ P w K mg base CX0 5 f fd G0 (spV K [1] 2 b6):=
 V3 P w K mg base Nx23 G0 4 XY [1] F WV fun _ _ _ _ _ _ hr hu hu1=>by
  refine eK ?_ ?_
  ·exact(@cU _ _ _ _ _ _ _ _ _ WV.nd (@bP _ _ _ _ _ _ (@dU _ _ _ _ _ _ (@ZH _ _ _ 3 _ _ _ rfl (by decide)))) rfl (by first|exact .inl rfl|exact .inr rfl) (by decide) rfl (by first|exact .inl rfl|exact .inr rfl|assumption))
  refine eK ?_ ?_
  ·exact(@cU _ _ _ _ _ _ _ _ _ WV.nd (@bP _ _ _ _ _ _ (@eD _ _ _ _ _ _ _ _ (@cC _ _ _ _ _ _ _ _ _ _ _ _ _ _ _ _ _ (Z6 (K:=K) rfl) bH (@vv _ _ _ _ _ 2 rfl (by first|exact Bi rfl|exact As (Bi rfl)|exact As (As rfl)) (by decide) (by decide)) (@dU _ _ _ _ _ _ (@ZH _ _ _ 3 _ _ _ rfl (by decide))) rfl) rfl)) rfl (by first|exact .inl rfl|exact .inr rfl) (by decide) rfl (by first|exact .inl rfl|exact .inr rfl|assumption))
  refine eK ?_ ?_
  ·exact(@cU _ _ _ _ _ _ _ _ _ WV.nd (@bP _ _ _ _ _ _ (@eD _ _ _ _ _ _ _ _ (@cC _ _ _ _ _ _ _ _ _ _ _ _ _ _ _ _ _ (Z6 (K:=K) rfl) bH (@vv _ _ _ _ _ 2 rfl (by first|exact Bi rfl|exact As (Bi rfl)|exact As (As rfl)) (by decide) (by decide)) (@dU _ _ _ _ _ _ (@ZH _ _ _ 3 _ _ _ rfl (by decide))) rfl) rfl)) rfl (by first|exact .inl rfl|exact .inr rfl) (by decide) rfl (by first|exact .inl rfl|exact .inr rfl|assumption))
  refine eK ?_ ?_
  ·exact(@cU _ _ _ _ _ _ _ _ _ WV.nd (@bP _ _ _ _ _ _ (@eD _ _ _ _ _ _ _ _ (@cC _ _ _ _ _ _ _ _ _ _ _ _ _ _ _ _ _ (Z6 (K:=K) rfl) bH (@vv _ _ _ _ _ 2 rfl (by first|exact Bi rfl|exact As (Bi rfl)|exact As (As rfl)) (by decide) (by decide)) (@dU _ _ _ _ _ _ (@bZ _ _ _ _ _ _ _ (@c5 _ _ _ _ _ _ _ (@eI _ _ _ _ _ _ _ _ _ _ _ _ (@VJ _ _ _ 3 _ _ rfl) (@eI _ _ _ _ _ _ _ _ _ _ _ _ (@bT _ _ _ _ _ _ _ _ _ (@eI _ _ _ _ _ _ _ _ _ _ _ _ eC (@eI _ _ _ _ _ _ _ _ _ _ _ _ (@cC _ _ _ _ _ _ _ _ _ _ _ _ _ _ _ _ _ (kRep (K:=K) rfl) zC9 (@VJ _ _ _ 2 _ _ rfl) eC rfl) dN rfl rfl rfl) rfl rfl rfl)) dN rfl rfl rfl) rfl rfl rfl) rfl))) rfl) rfl)) rfl (by first|exact .inl rfl|exact .inr rfl) (by decide) rfl (by first|exact .inl rfl|exact .inr rfl|assumption))
  refine eK ?_ ?_
  ·exact(@cU _ _ _ _ _ _ _ _ _ WV.nd (@bP _ _ _ _ _ _ (@eD _ _ _ _ _ _ _ _ (@cC _ _ _ _ _ _ _ _ _ _ _ _ _ _ _ _ _ (Z6 (K:=K) rfl) bH (@vv _ _ _ _ _ 2 rfl (by first|exact Bi rfl|exact As (Bi rfl)|exact As (As rfl)) (by decide) (by decide)) (@dU _ _ _ _ _ _ (@ZH _ _ _ 3 _ _ _ rfl (by decide))) rfl) rfl)) rfl (by first|exact .inl rfl|exact .inr rfl) (by decide) rfl (by first|exact .inl rfl|exact .inr rfl|assumption))
  exact eJ (d7 (cV bw hr (eH (vv 0) (VL (pv 1) (eH (vv 2) eG)))))
noncomputable abbrev Nx24:List Str:=["_law_what","_law_one","_law_many","_law_e"]
noncomputable abbrev G1:List Str:=["_law_what","_law_one","_law_many"]
theorem JR:dY Nx24 G1 (eM (top 56)):=aZ
theorem BW(F:aW K "_law_ask" "_law_ask" (top 56) f fd) (T:Z1 K mg) (gp:dF P w K mg base "shown" 6 T3 [] VO f_x10) (gn:dF P w K mg base "read" 6 T4 [] QT f_x12) (gl:dF P w K mg base "shown_plan" 4 T5 [] aM f_x16) (gk:dF P w K mg base "read_plan" 4 QV [] ZZ f_x17) (et:EK P w K mg base "_law_which" 1 GZ (spV K [] 1 ZY) f_x22) (er:UJ P w K mg base "shown" 6 T3 VR f_x10) (eo:UJ P w K mg base "read" 6 T4 QW f_x12) (en:UJ P w K mg base "shown_plan" 4 T5 aN f_x16) (ek:UJ P w K mg base "read_plan" 4 QV Z2 f_x17):
  cQ P w K mg base CX0 7 f fd G1 (spV K [] 3 d9):=
 V3 P w K mg base Nx24 G1 6 SX [] F JR fun _ _ _ _ _ _ hr hu hu1=>by
  exact(eJ (DI (i:=3) rfl rfl rfl JR.nd rfl rfl (by decide) (by rfl) (fun _=>T.fnm _ _)
   (eJ (d7 (QK (OX hu (vv 0) eC) (cV gk hr (eH (vv 1) (eH (vv 2) eG))) (J1 (VD (K:=K) rfl T.fnm hr gp (by decide) (VD (K:=K) rfl T.fnm hr gn (by decide) (VD (K:=K) rfl T.fnm hr gl (by decide) GG))) (MH hu1 (dU (bZ (c5 (eI (eB (by rfl) T.v_shown) (eI (eB (by rfl) T.v_read) (eI (eB (by rfl) T.v_shown_plan) dN)))))) (vv 0)) (eH (vv 1) eG)))))
   (fun _ _ _ hz=>(cP (DK (DJ (OX hu (vv 0) eC) (GO hz rfl ek hr (by decide) (by rfl) rfl (eH (vv 1) (eH (vv 2) eG))) (J8 hz rfl rfl (WW (K:=K) (kk:=6) (j:=6) (qs:=T3) rfl T.fnm hr er (by decide) (WW (K:=K) (kk:=6) (j:=6) (qs:=T4) rfl T.fnm hr eo (by decide) (WW (K:=K) (kk:=4) (j:=6) (qs:=T5) rfl T.fnm hr en (by decide) JW))) (MH hu1 (dU (bZ (c5 (eI (eB (by rfl) T.v_shown) (eI (eB (by rfl) T.v_read) (eI (eB (by rfl) T.v_shown_plan) dN)))))) (vv 0)) (eH (vv 1) eG))))))
   fun _=>(eJ (d7 (zA4 et (hr.h.mark _) (eH (vv 3) eG))))))
noncomputable abbrev Nx25:List Str:=["_law_script","_law_town","_law_some","_law_bad"]
noncomputable abbrev AB:List Str:=["_law_script"]
theorem ZG:dY Nx25 AB (eM (top 57)):=aZ
theorem BX(F:aW K "law" "law" (top 57) f fd) (T:Z1 K mg) (bw:dF P w K mg base "_law_pick" 4 KY [1] dJ f_x21) (gc:dF P w K mg base "_law_none" 5 G0 [1] b6 f_x23) (ar:dF P w K mg base "_law_ask" 7 G1 [] d9 f_x24):
  cQ P w K mg base CX0 8 f fd AB (spV K [] 1 SG):=
 V3 P w K mg base Nx25 AB 7 HF [] F ZG fun _ _ _ _ _ _ hr hu hu1=>by
  refine eK ?_ ?_
  ·exact(cU ZG.nd (NO (bZ (c5 dN))))
  refine eK ?_ ?_
  ·exact(cW (cO (YZ (K:=K) rfl hu) Y0 (cV ar hr (eH eC (eH (eD (cV gc hr (eH (vv 0) (VL (pv 1) eG)))) (eH bE eG)))) (bT (eI dI (eI eC dN))) (cS _))
   (eJ (d7 b4))
   dW)
  refine eK ?_ ?_
  ·exact (@cU _ _ _ _ _ _ _ _ _ ZG.nd (@bP _ _ _ _ _ _ (@dU _ _ _ _ _ _ (@ZH _ _ _ 0 _ _ _ rfl (by decide)))) rfl (by first | exact .inl rfl | exact .inr rfl) (by decide) rfl (by first | exact .inl rfl | exact .inr rfl | assumption))
  refine eK ?_ ?_
  ·exact (@cU _ _ _ _ _ _ _ _ _ ZG.nd (@bP _ _ _ _ _ _ (@eD _ _ _ _ _ _ _ _ (@cC _ _ _ _ _ _ _ _ _ _ _ _ _ _ _ _ _ (Z6 (K := K) rfl) bH (@vv _ _ _ _ _ 2 rfl (by first | exact Bi rfl | exact As (Bi rfl) | exact As (As rfl)) (by decide) (by decide)) (@dU _ _ _ _ _ _ (@bZ _ _ _ _ _ _ _ (@c5 _ _ _ _ _ _ _ (@eI _ _ _ _ _ _ _ _ _ _ _ _ dI (@eI _ _ _ _ _ _ _ _ _ _ _ _ dI (@eI _ _ _ _ _ _ _ _ _ _ _ _ dI (@eI _ _ _ _ _ _ _ _ _ _ _ _ dI (@eI _ _ _ _ _ _ _ _ _ _ _ _ dI (@eI _ _ _ _ _ _ _ _ _ _ _ _ b4 dN rfl rfl rfl) rfl rfl rfl) rfl rfl rfl) rfl rfl rfl) rfl rfl rfl) rfl rfl rfl) rfl))) rfl) rfl)) rfl (by first | exact .inl rfl | exact .inr rfl) (by decide) rfl (by first | exact .inl rfl | exact .inr rfl | assumption))
  refine eK ?_ ?_
  ·exact (@cU _ _ _ _ _ _ _ _ _ ZG.nd (@bP _ _ _ _ _ _ (@eD _ _ _ _ _ _ _ _ (@cC _ _ _ _ _ _ _ _ _ _ _ _ _ _ _ _ _ (Z6 (K := K) rfl) bH (@vv _ _ _ _ _ 2 rfl (by first | exact Bi rfl | exact As (Bi rfl) | exact As (As rfl)) (by decide) (by decide)) (@dU _ _ _ _ _ _ (@ZH _ _ _ 1 _ _ _ rfl (by decide))) rfl) rfl)) rfl (by first | exact .inl rfl | exact .inr rfl) (by decide) rfl (by first | exact .inl rfl | exact .inr rfl | assumption))
  refine eK ?_ ?_
  ·exact(cW (cO (YZ (K:=K) rfl hu) Y0 (cV ar hr (eH eC (eH (eD (cV bw hr (eH (vv 0) (VL (pv 1) (eH (vv 2) eG))))) (eH bE eG)))) (bT (eI dI (eI eC dN))) (cS _))
   (eJ (d7 b4))
   dW)
  refine eK ?_ ?_
  ·exact (@cU _ _ _ _ _ _ _ _ _ ZG.nd (@bP _ _ _ _ _ _ (@dU _ _ _ _ _ _ (@ZH _ _ _ 2 _ _ _ rfl (by decide)))) rfl (by first | exact .inl rfl | exact .inr rfl) (by decide) rfl (by first | exact .inl rfl | exact .inr rfl | assumption))
  refine eK ?_ ?_
  ·exact (@cU _ _ _ _ _ _ _ _ _ ZG.nd (@bP _ _ _ _ _ _ (@eD _ _ _ _ _ _ _ _ (@cC _ _ _ _ _ _ _ _ _ _ _ _ _ _ _ _ _ (Z6 (K := K) rfl) bH (@vv _ _ _ _ _ 2 rfl (by first | exact Bi rfl | exact As (Bi rfl) | exact As (As rfl)) (by decide) (by decide)) (@dU _ _ _ _ _ _ (@ZH _ _ _ 2 _ _ _ rfl (by decide))) rfl) rfl)) rfl (by first | exact .inl rfl | exact .inr rfl) (by decide) rfl (by first | exact .inl rfl | exact .inr rfl | assumption))
  refine eK ?_ ?_
  ·exact(cW (cO (YZ (K:=K) rfl hu) Y0 (cV ar hr (eH eC (eH (eD (cV bw hr (eH (vv 0) (VL (pv 1) (eH (vv 2) eG))))) (eH bE eG)))) (bT (eI dI (eI eC dN))) (cS _))
   (eJ (d7 b4))
   dW)
  refine eK ?_ ?_
  ·exact(SD Hd rfl (bL rfl (dU (bZ (c5 (eI bE (eI eC (eI eC (eI dI (eI b4 dN))))))))) (dD ZG.nd)
   (eJ (cW (cO (YZ (K:=K) rfl hu) Y0 (cV ar hr (eH eC (eH bE (eH (vv 3) eG)))) (bT (eI dI (eI eC dN))) (cS _))
   (eJ (d7 b4))
   dW)))
  refine eK ?_ ?_
  ·exact (@cU _ _ _ _ _ _ _ _ _ ZG.nd (@bP _ _ _ _ _ _ (@dU _ _ _ _ _ _ (@ZH _ _ _ 0 _ _ _ rfl (by decide)))) rfl (by first | exact .inl rfl | exact .inr rfl) (by decide) rfl (by first | exact .inl rfl | exact .inr rfl | assumption))
  refine eK ?_ ?_
  ·exact(cW (cO (YZ (K:=K) rfl hu) Y0 (cV ar hr (eH eC (eH (eD (cV bw hr (eH (vv 0) (VL (pv 1) (eH (vv 2) eG))))) (eH eC eG)))) (bT (eI dI (eI eC dN))) (cS _))
   (eJ (d7 b4))
   dW)
  refine eK ?_ ?_
  ·exact(@cW _ _ _ _ _ _ _ _ _ _ _ (@V5 _ _ _ _ _ _ (@Z8 _ _ _ _ _ _ _ _ _ _ _ (@cO _ _ _ _ _ _ _ _ _ _ _ _ _ _ _ _ _ (YZ (K:=K) rfl hu) Y0 (@cV _ _ _ _ _ _ _ _ _ _ _ _ _ _ _ _ _ ar hr (@eH _ _ _ _ _ _ _ _ _ eC (@eH _ _ _ _ _ _ _ _ _ dI (@eH _ _ _ _ _ _ _ _ _ eC eG rfl) rfl) rfl) rfl (by decide) rfl (by decide) rfl rfl) (@VJ _ _ _ 2 _ _ rfl) (cS _) rfl) (@aV _ _ _ _ _ _ _ (@cO _ _ _ _ _ _ _ _ _ _ _ _ _ _ _ _ _ (YZ (K:=K) rfl hu) Y0 (@cV _ _ _ _ _ _ _ _ _ _ _ _ _ _ _ _ _ ar hr (@eH _ _ _ _ _ _ _ _ _ eC (@eH _ _ _ _ _ _ _ _ _ dI (@eH _ _ _ _ _ _ _ _ _ eC eG rfl) rfl) rfl) rfl (by decide) rfl (by decide) rfl rfl) (@bT _ _ _ _ _ _ _ _ _ dN) (cS _) rfl)))) (@eJ _ _ _ _ _ (@d7 _ _ _ _ _ _ _ _ _ b4 rfl)) dW)
  refine eK ?_ ?_
  ·exact(@cW _ _ _ _ _ _ _ _ _ _ _ (@cO _ _ _ _ _ _ _ _ _ _ _ _ _ _ _ _ _ (YZ (K:=K) rfl hu) Y0 (@cV _ _ _ _ _ _ _ _ _ _ _ _ _ _ _ _ _ ar hr (@eH _ _ _ _ _ _ _ _ _ eC (@eH _ _ _ _ _ _ _ _ _ (@eD _ _ _ _ _ _ _ _ (@VJ _ _ _ 2 _ _ rfl) rfl) (@eH _ _ _ _ _ _ _ _ _ bE eG rfl) rfl) rfl) rfl (by decide) rfl (by decide) rfl rfl) dI (cS _) rfl) (@eJ _ _ _ _ _ (@d7 _ _ _ _ _ _ _ _ _ b4 rfl)) dW)
  exact eJ (@d7 _ _ _ _ _ _ _ _ _ (@R0 _ _ _ _ _ _ _ _ _ _ _ _ _ _ _ (@veq _ _ _ _ _ _ _ _ _ _ _ _ _ _ hu (@cV _ _ _ _ _ _ _ _ _ _ _ _ _ _ _ _ _ ar hr (@eH _ _ _ _ _ _ _ _ _ eC (@eH _ _ _ _ _ _ _ _ _ dI (@eH _ _ _ _ _ _ _ _ _ bE eG rfl) rfl) rfl) rfl (by decide) rfl (by decide) rfl rfl) (@VJ _ _ _ 2 _ _ rfl) rfl rfl) (@R7 _ _ _ _ _ _ _ _ _ _ (@veq _ _ _ _ _ _ _ _ _ _ _ _ _ _ hu (@cV _ _ _ _ _ _ _ _ _ _ _ _ _ _ _ _ _ ar hr (@eH _ _ _ _ _ _ _ _ _ eC (@eH _ _ _ _ _ _ _ _ _ (@eD _ _ _ _ _ _ _ _ (@bT _ _ _ _ _ _ _ _ _ dN) rfl) (@eH _ _ _ _ _ _ _ _ _ bE eG rfl) rfl) rfl) rfl (by decide) rfl (by decide) rfl rfl) dI rfl rfl))) rfl)
end
end RR
namespace L2
open PySem
noncomputable def NS(ns:List Int):eN:= .lst (ns.map .int)
noncomputable def KJ(n:Nat):eN:= .lst (Aq n (.int 0))
theorem SZ: ∀ns:List Int,PP (ns.map eN.int)=true
 |[]=>rfl
 |n::ns=>by simp[PP,eN.isD,SZ ns]
theorem P5: ∀ns:List Int,D1 (ns.map eN.int)=ns.map Ll
 |[]=>rfl
 |n::ns=>by simp[D1,eN.pd,P5 ns]
theorem IC(ns:List Int):P2 (.lst (ns.map .int))=true:=by
 unfold P2
 simp only[eN.isD,SZ,eN.pd,P5,Bool.true_and]
 exact QC ns
theorem HD(ns:List Int):RM (.lst (ns.map .int)) (.lst [])=some (.bl ns.isEmpty):=by
 unfold RM
 rw[IC,show P2 (.lst [])=true from by decide+kernel]
 cases ns<;>rfl
theorem SV: ∀(ds:List eN) (a b:eN) (r:Int) (s:Sl),∃r' s',YA (gN 3) (b9 2 (xV (f2 M8 (fV 2) (fC (.int 1000003))))) ds [.va a,.va b,.va (.int r),s]=some (.nx [.va a,.va b,.va (.int r'),s'])
 |[],a,b,r,s=>⟨r,s,rfl⟩
 |d::ds,a,b,r,s=>by
  obtain⟨r',s',h⟩:=SV ds a b (r/1000003) (.va d)
  exact⟨r',s',by simp[EV,h]⟩
theorem M3{ns:List Int}{i:Int}(h0:0<=i)(h1:i<ns.length): ∃r∈ns,QX (ns.map eN.int) i=some (.int r):=by
 obtain⟨x,hx,e⟩:=G6 (xs:=ns.map eN.int) h0 (by simpa using h1)
 obtain⟨r,hr,rfl⟩:=Mb.mp hx
 exact⟨r,hr,e⟩
theorem EY(ns:List Int)(k:Nat)(hl:ns.length<=63)(hk:k<1000000): ∃r,cR [NS ns,.int k]=some (.int r,[]):=by
 unfold cR
 rw[WT]
 unfold ZV Y2 NS
 by_cases h:(k:Int)<ns.length
 ·obtain ⟨r,_,e⟩ := M3 (ns := ns) (i := k) (by omega) h
  exact⟨r,by simp[ZA,h,e]⟩
 ·cases ns with
  |nil=>
   have h0: ¬((k:Int)<0):=by omega
   have e:RM (.lst []) (.lst [])=some (.bl true):=HD []
   exact⟨0,by simp[ZA,h0,e]⟩
  |cons m ms=>
   generalize hns:m::ms=ns at*
   have gw:(0:Int)<ns.length:=by rw[<- hns];simp
   have hb:=Jw (k:Int) (show(ns.length:Int)≠0 by omega)
   have hb2:=Hn (k:Int) gw
   obtain⟨r,_,e⟩:=M3 (ns:=ns) hb hb2
   have he:ns.isEmpty=false:=by rw[<- hns];rfl
   have hq:0<=(k:Int)/ns.length:=Int.ediv_nonneg (by omega) (by omega)
   have hm: -4611686018427387904<=(if(60:Int)<(k:Int)/ns.length then 60 else(k:Int)/ns.length)/\(if(60:Int)<(k:Int)/ns.length then 60 else(k:Int)/ns.length)<4611686018427387904:=by split<;>omega
   obtain⟨r',s',e2⟩:=SV (YB 0 (if(60:Int)<(k:Int)/ns.length then 60 else(k:Int)/ns.length).toNat) (.lst (ns.map .int)) (.int k) r .no
   have hp2:0<ns.length:=by omega
   have hp3:(ns.length:Int)<1073741824:=by omega
   exact⟨r*31+k+r'*101,by simp[ZA,h,HD,he,gw,hp2,hp3,e,EV,hm,e2,EW]⟩
noncomputable def cel(ns:List Int)(k:Nat):Int:=match cR [NS ns,.int k] with
 |some (.int r,_)=>r
 |_=>0
theorem AN(ns:List Int)(k:Nat)(hl:ns.length<=63)(hk:k<1000000):cR [NS ns,.int k]=some (.int (cel ns k),[]):=by
 obtain⟨r,e⟩:=EY ns k hl hk
 unfold cel
 rw[e]
noncomputable def drw(ns:List Int)(n:Nat)(b:Int):Int:=((cel ns (n+1)*1103515245+7919*(((n+1:Nat)):Int)+12345) % 2147483647) ^ 5 % 2147483647 % 999983 % b
theorem zC7(ns:List Int)(n:Nat){b:Int}(h:0<b):0<=drw ns n b:=Jw _ (by omega)
theorem zC6(ns:List Int)(n:Nat){b:Int}(h:0<b):drw ns n b<b:=Hn _ h
theorem BE(ns:List Int)(n:Nat)(b:Int)(hl:ns.length<=63)(hn:n<900000)(hb:0<b):bN [NS ns,.int ((n+1:Nat):Int),.int b]=some (.int (drw ns n b),[]):=by
 have e:=AN ns (n+1) hl (by omega)
 unfold bN
 rw[WT]
 unfold YQ drw
 have e1:=Jw (cel ns (n+1)*1103515245+7919*((n+1:Nat):Int)+12345) (show(2147483647:Int)≠0 by decide)
 have e2:=Hn (cel ns (n+1)*1103515245+7919*((n+1:Nat):Int)+12345) (show(0:Int)<2147483647 by decide)
 generalize hz:(cel ns (n+1)*1103515245+7919*((n+1:Nat):Int)+12345) % 2147483647=z at*
 have hz2:z.natAbs<18446744073709551616:=by omega
 generalize hk:((n+1:Nat):Int)=k at*
 simp[ZA,e,EW,AM,hz,hz2,hb]
theorem EZ(ns:List Int)(n:Nat)(b:Int)(hl:ns.length<=63)(hn:n<900000)(hb:0<b):bB [NS ns,KJ n,.int b]=some (.int (drw ns n b),[KJ (n+1)]):=by
 have e:=BE ns n b hl hn hb
 unfold bB
 rw[WT]
 unfold XX
 have ht:KJ n= .lst (Aq n (.int 0)):=rfl
 have ht2:KJ (n+1)= .lst (Aq n (.int 0)++[.int 0]):=by unfold KJ;rw[List.replicate_succ']
 rw[ht2,ht]
 have hs:n<16777216:=by omega
 push_cast at e
 simp[ZA,hs,e]
theorem VY(ns:List Int)(n:Nat)(xs:List eN)(hl:ns.length<=63)(hn:n<900000)(hx:0<xs.length): ∃x∈xs,dJ [NS ns,KJ n,.lst xs]=some (x,[KJ (n+1)]):=by
 have hx':(0:Int)<xs.length:=by omega
 obtain⟨x,hm,e⟩:=G6 (xs:=xs) (zC7 ns n hx') (zC6 ns n hx')
 refine⟨x,hm,?_⟩
 unfold dJ
 rw[WT]
 unfold XZ
 simp[ZA,EZ ns n _ hl hn hx',e]
noncomputable def LI(k:Int):Option (eN×List eN)->Bool
 |some (.tup [.str "refused",.int j],[])=>j==k
 |_=>false
theorem VW{k:Int}{r:Option (eN×List eN)}(h:LI k r=true):r=some (.tup [.str "refused",.int k],[]):=by
 unfold LI at h
 split at h
 ·rw[beq_iff_eq.mp h];rfl
 ·cases h
noncomputable def P1:List eN:=[.non,.int 5,.tup [],.tup [.int 0],.tup [.int 0,.lst []],.lst [.int 0,.tup []],.tup [.int (-1),.tup []],.tup [.int 65,.tup []],.tup [.bl true,.tup []],.tup [.str "0",.tup []],.tup [.int 0,.tup [],.tup []],.tup [.int 0,.tup [.tup []]],
 .tup [.int 0,.tup [.tup [.str "number"]]],.tup [.int 0,.tup [.tup [.str "number",.int 1000]]],.tup [.int 0,.tup [.tup [.str "plus",.int 0,.int 0]]],.tup [.int 0,.tup [.lst [.str "load",.int 0]]],
 .tup [.int 0,.tup [.tup [.str "load",.int 64]]],.tup [.int 0,.tup [.tup [.str "load",.int (-1)]]],.tup [.int 0,.tup [.tup [.str "halve",.int 0]]],.tup [.int 0,.tup [.tup [.int 5,.int 0]]],
 .tup [.int 0,.tup [.tup [.str "number",.int 1],.tup [.str "store",.int 0,.int 0],.tup [.str "plus",.int 0,.int 1]]],.tup [.int 0,.tup (Aq 41 (.tup [.str "number",.int 1]))],
 .tup [.int 0,.tup [.tup [.str "number",.int 1],.tup [.str "plus",.int 0,.int 1]]]]
theorem OE:P1.all (fun x=>LI 0 (d9 [.int 0,x,.non]))=true:=by kernel_rfl
theorem FF(a b:eN):XY [.va a,.ow b,.no]=dE (eA 3 [1] dJ (aE (fV 0) (aO 1 (aE (fV 2) dM)))) [.va a,.ow b,.va (.lst P1)]:=by kernel_rfl
theorem FE(ns:List Int)(n:Nat)(hl:ns.length<=63)(hn:n<900000): ∃x∈P1,b6 [NS ns,KJ n]=some (x,[KJ (n+1)]):=by
 obtain⟨x,hx,ex⟩:=VY ns n P1 hl hn (by simp[P1])
 refine⟨x,hx,?_⟩
 unfold b6
 rw[WT,show ZA [1] 3 [NS ns,KJ n]=[.va (NS ns),.ow (KJ n),.no] from rfl,FF]
 simp[ex]
noncomputable def gl1:VS:=(b9 1 (xO (aD cN)))
noncomputable def gl2:VS:=(ZR (fB (f2 XT (eA 3 [] d9 (aE (fC (.int 0)) (aE (eA 2 [1] b6 (aE (fV 0) (aO 1 dM))) (aE (fC .non) dM)))) (aF (eE (fC (.str "refused")) (eE (fC (.int 0)) cN))))) (dE (fC (.bl false))) cG)
noncomputable def gl3:VS:=(b9 2 (xV (fC (.lst [.non,.int 5,.str "",.str "sure",.str "sure 65",.str "sure 01",.str "sure -1",.str "Sure 2",.str "sure 2;",.str "sure 2; ",.str "sure 2 ; load 0"]))))
noncomputable def gl4:VS:=(b9 2 (xV (f2 cB (fV 2) (aD (eE (fC (.str "sure 2; load  0")) (eE (fC (.str "sure 2;load 0")) (eE (fC (.str "sure 2; load 00")) (eE (fC (.str "sure 2; plus 0 0")) (eE (fC (.str "load 0")) (eE (fC (.bl true)) cN))))))))))
noncomputable def gl5:VS:=(b9 2 (xV (f2 cB (fV 2) (fC (.lst [.lst [.str "sure 2"],.str "sure 2; number 1000"])))))
noncomputable def gl6:VS:=(ZR (fB (f2 XT (eA 3 [] d9 (aE (fC (.int 1)) (aE (eA 3 [1] dJ (aE (fV 0) (aO 1 (aE (fV 2) dM)))) (aE (fC .non) dM)))) (aF (eE (fC (.str "refused")) (eE (fC (.int 8)) cN))))) (dE (fC (.bl false))) cG)
noncomputable def gl7:VS:=(b9 2 (xV (fC (.lst [.non,.int 5,.lst [],.str "",.tup [.tup [.int 0]],.tup [.tup [.int 0,.int 1,.int 2,.int 3,.int 4]],.tup [.tup [.int 0,.int 1],.tup [.int 2,.int 3,.int 4]],.tup [.tup [.int 1,.int 0]],.tup [.tup [.int 2,.int 3],.tup [.int 0,.int 1]]]))))
noncomputable def gl8:VS:=(b9 2 (xV (f2 cB (fV 2) (fC (.lst [.tup [.tup [.int 0,.int 1],.tup [.int 1,.int 2]],.tup [.tup [.int 0,.int 40]],.tup [.tup [.int (-1),.int 0]],.tup [.tup [.int 0,.bl true]],.tup [.tup [.int 0,.str "1"]],.tup [.lst [.int 0,.int 1]],.tup [.int 0,.int 1]])))))
noncomputable def gl9:VS:=(ZR (fB (f2 XT (eA 3 [] d9 (aE (fC (.int 2)) (aE (eA 3 [1] dJ (aE (fV 0) (aO 1 (aE (fV 2) dM)))) (aE (fC .non) dM)))) (aF (eE (fC (.str "refused")) (eE (fC (.int 4)) cN))))) (dE (fC (.bl false))) cG)
noncomputable def gl10:VS:=(P9 (YX (aD (eE (fC .non) (eE (fC (.int 1)) (eE (fC (.int 5)) (eE (fC (.str "2")) (eE (fC (.bl true)) cN))))))) (gN 3) MR)
noncomputable def gl11:VS:=(b9 2 (xV (fC (.lst [.non,.int 5,.str " ",.str "0",.str "0+1 ",.str " 0+1",.str "0+1  2+3",.str "0+01",.str "1+0",.str "0+1+2",.str "2+3 0+1",.str "0+1 1+2",.str "0+40",.str "0+x"]))))
noncomputable def AX:VS:=(ZR (fB (f2 XT (eA 3 [] d9 (aE (fC (.int 3)) (aE (eA 3 [1] dJ (aE (fV 0) (aO 1 (aE (fV 2) dM)))) (aE (fC (.int 2)) dM)))) (aF (eE (fC (.str "refused")) (eE (fC (.int 8)) cN))))) (dE (fC (.bl false))) cG)
noncomputable def gl13:VS:=(ZR (QZ (fB (f2 XT (eA 3 [] d9 (aE (fC (.int 3)) (aE (fC (.str "0+39")) (aE (fC (.int 2)) dM)))) (fC (.tup [.tup [.int 0,.int 39]])))) (fB (f2 XT (eA 3 [] d9 (aE (fC (.int 3)) (aE (fC (.str "")) (aE (fC (.int 2)) dM)))) (aF cN)))) (dE (fC (.bl false))) cG)
noncomputable def gl14:VS:=(ZR (fB (f2 XT (eA 3 [] d9 (aE (fC (.int 2)) (aE (fC (.tup [.tup [.int 0,.int 1,.int 2,.int 3],.tup [.int 4,.int 5,.int 6,.int 9]])) (aE (fC .non) dM)))) (fC (.str "0+1+2+3 4+5+6+9")))) (dE (fC (.bl false))) cG)
noncomputable def gl15:VS:=(dE (PK (f2 RM (eA 3 [] d9 (aE (fC (.int 1)) (aE (fC (.str "sure 2")) (aE (fC .non) dM)))) (fC (.tup [.int 2,.tup []]))) (f2 RM (eA 3 [] d9 (aE (fC (.int 2)) (aE (aF cN) (aE (fC .non) dM)))) (fC (.str "")))))
theorem HG:HF=dO gl1 (dO gl2 (dO gl3 (dO gl4 (dO gl5 (dO gl6 (dO gl7 (dO gl8 (dO gl9 (dO gl10 (dO gl11 (dO AX (dO gl13 (dO gl14 (gl15)))))))))))))):=rfl
noncomputable def EH:List eN:=[.non,.int 5,.str "",.str "sure",.str "sure 65",.str "sure 01",.str "sure -1",.str "Sure 2",.str "sure 2;",.str "sure 2; ",.str "sure 2 ; load 0",.str "sure 2; load  0",.str "sure 2;load 0",.str "sure 2; load 00",.str "sure 2; plus 0 0",.str "load 0",.bl true,.lst [.str "sure 2"],.str "sure 2; number 1000"]
noncomputable def plL:List eN:=[.non,.int 5,.lst [],.str "",.tup [.tup [.int 0]],.tup [.tup [.int 0,.int 1,.int 2,.int 3,.int 4]],.tup [.tup [.int 0,.int 1],.tup [.int 2,.int 3,.int 4]],.tup [.tup [.int 1,.int 0]],.tup [.tup [.int 2,.int 3],.tup [.int 0,.int 1]],.tup [.tup [.int 0,.int 1],.tup [.int 1,.int 2]],.tup [.tup [.int 0,.int 40]],.tup [.tup [.int (-1),.int 0]],.tup [.tup [.int 0,.bl true]],.tup [.tup [.int 0,.str "1"]],.tup [.lst [.int 0,.int 1]],.tup [.int 0,.int 1]]
noncomputable def rdL:List eN:=[.non,.int 5,.str " ",.str "0",.str "0+1 ",.str " 0+1",.str "0+1  2+3",.str "0+01",.str "1+0",.str "0+1+2",.str "2+3 0+1",.str "0+1 1+2",.str "0+40",.str "0+x"]
theorem J0:EH.all (fun x=>LI 8 (d9 [.int 1,x,.non]))=true:=by kernel_rfl
theorem IV:plL.all (fun x=>LI 4 (d9 [.int 2,x,.non]))=true:=by kernel_rfl
theorem JF:rdL.all (fun x=>LI 8 (d9 [.int 3,x,.int 2]))=true:=by kernel_rfl
theorem zC1{a b c d:Sl}:gl3 [a,b,c,d]=some (.nx [a,b,.va (.lst (EH.take 11)),d]):=by kernel_rfl
theorem zC0{a b d:Sl}:gl4 [a,b,.va (.lst (EH.take 11)),d]=some (.nx [a,b,.va (.lst (EH.take 17)),d]):=by kernel_rfl
theorem zBZ{a b d:Sl}:gl5 [a,b,.va (.lst (EH.take 17)),d]=some (.nx [a,b,.va (.lst EH),d]):=by kernel_rfl
theorem zBX{a b c d:Sl}:gl7 [a,b,c,d]=some (.nx [a,b,.va (.lst (plL.take 9)),d]):=by kernel_rfl
theorem zBW{a b d:Sl}:gl8 [a,b,.va (.lst (plL.take 9)),d]=some (.nx [a,b,.va (.lst plL),d]):=by kernel_rfl
theorem AU{a b c d:Sl}:gl10 [a,b,c,d]=some (.nx [a,b,c,.va (.bl true)]):=by kernel_rfl
theorem AW{a b c d:Sl}:gl11 [a,b,c,d]=some (.nx [a,b,.va (.lst rdL),d]):=by kernel_rfl
theorem AZ{a b c d:Sl}:gl13 [a,b,c,d]=some (.nx [a,b,c,d]):=by kernel_rfl
theorem A0{a b c d:Sl}:gl14 [a,b,c,d]=some (.nx [a,b,c,d]):=by kernel_rfl
theorem A1{a b c d:Sl}:gl15 [a,b,c,d]=some (.rt (.bl true) [a,b,c,d]):=by kernel_rfl
theorem ne0:XT (.tup [.str "refused",.int 0]) (.tup [.str "refused",.int 0])=some (.bl false):=by kernel_rfl
theorem ne4:XT (.tup [.str "refused",.int 4]) (.tup [.str "refused",.int 4])=some (.bl false):=by kernel_rfl
theorem ne8:XT (.tup [.str "refused",.int 8]) (.tup [.str "refused",.int 8])=some (.bl false):=by kernel_rfl
theorem zC2{a b x b':eN}(h:b6 [a,b]=some (x,[b']))(hx:d9 [.int 0,x,.non]=some (.tup [.str "refused",.int 0],[])):gl2 [.va a,.ow b,.no,.no]=some (.nx [.va a,.ow b',.no,.no]):=by
 unfold gl2
 simp[h,hx,ne0]
theorem zBY{a b x b':eN}{L:List eN}{d:Sl}(h:dJ [a,b,.lst L]=some (x,[b']))(hx:d9 [.int 1,x,.non]=some (.tup [.str "refused",.int 8],[])):gl6 [.va a,.ow b,.va (.lst L),d]=some (.nx [.va a,.ow b',.va (.lst L),d]):=by
 unfold gl6
 simp[h,hx,ne8]
theorem zBV{a b x b':eN}{L:List eN}{d:Sl}(h:dJ [a,b,.lst L]=some (x,[b']))(hx:d9 [.int 2,x,.non]=some (.tup [.str "refused",.int 4],[])):gl9 [.va a,.ow b,.va (.lst L),d]=some (.nx [.va a,.ow b',.va (.lst L),d]):=by
 unfold gl9
 simp[h,hx,ne4]
theorem AY{a b x b':eN}{L:List eN}{d:Sl}(h:dJ [a,b,.lst L]=some (x,[b']))(hx:d9 [.int 3,x,.int 2]=some (.tup [.str "refused",.int 8],[])):AX [.va a,.ow b,.va (.lst L),d]=some (.nx [.va a,.ow b',.va (.lst L),d]):=by
 unfold AX
 simp[h,hx,ne8]
end L2
namespace RR
open PySem L2
theorem HR(ns:List Int)(hl:ns.length<=63):SG [.lst (ns.map .int)]=some (.bl true,[]):=by
 obtain⟨x,hx,e2⟩:=FE ns 0 hl (by omega)
 have a2:=VW (Cs.mp OE x hx)
 obtain⟨y,hy,e6⟩:=VY ns (0+1) EH hl (by omega) (by simp[EH])
 have a6:=VW (Cs.mp J0 y hy)
 obtain⟨z,hz,e9⟩:=VY ns (0+1+1) plL hl (by omega) (by simp[plL])
 have a9:=VW (Cs.mp IV z hz)
 obtain⟨w,hw,e12⟩:=VY ns (0+1+1+1) rdL hl (by omega) (by simp[rdL])
 have a12:=VW (Cs.mp JF w hw)
 have ht0:eN.lst []=KJ 0:=rfl
 have hS:eN.lst (ns.map .int)=NS ns:=rfl
 have hg1:gl1 [.va (NS ns),.no,.no,.no]=some (.nx [.va (NS ns),.ow (.lst []),.no,.no]):=rfl
 rw[hS]
 unfold SG
 rw[WT,HG,show ZA [] 4 [NS ns]=[.va (NS ns),.no,.no,.no] from rfl]
 rw[bK,hg1,XJ,ht0,bK,zC2 e2 a2,XJ,bK,zC1,XJ,bK,zC0,XJ,bK,zBZ,XJ,bK,zBY e6 a6,XJ,bK,zBX,XJ,bK,zBW,XJ,bK,zBV e9 a9,XJ,bK,AU,XJ,bK,AW,XJ,bK,AY e12 a12,XJ,bK,AZ,XJ,bK,A0,XJ,A1]
 rfl
end RR
namespace KK
open PySem PySem.W
noncomputable abbrev g(a i:Nat)(n:Str)(d m:Value):Obj:=⟨.type "function",none,.func (fnOf n n (L2.bU (RR.top i)) (L2.cY (RR.top i)) (L2.eM (RR.top i)) d .none .none m none (.ref (a - 1)) .none),#[]⟩
theorem p(P:Mv)(a i:Nat)(n:Str)(m:Value)(h1:nsIn (K P) mainGlobals n=some (some (.ref a)):=by kernel_rfl)(h2:(K P).lookup a=some (g a i n .none m):=by kernel_rfl)(h3:codeIn (K P) (.ref (a - 1)) n=true:=by kernel_rfl):L2.A4 (K P) n (RR.top i) a:=L2.a4 h1 h2 h3 (by unfold keepIn;simp only[h2])
end KK
namespace RR
open PySem L2
abbrev Zn(K:Ae)(x:Str):Prop:=Ep K mainGlobals x=some none
abbrev Gn(K:Ae)(x:Str)(v:Value):Prop:=Ep K mainGlobals x=some (some v)
theorem XW{α:Type}{P:List α->Prop}(z: ∀a,P [a]): ∀us:List α,us.length=1->P us
 |[a],_=>z a
theorem O0{α:Type}{P:List α->Prop}(z: ∀a b,P [a,b]): ∀us:List α,us.length=2->P us
 |[a,b],_=>z a b
theorem KS{α:Type}{P:List α->Prop}(z: ∀a b c,P [a,b,c]): ∀us:List α,us.length=3->P us
 |[a,b,c],_=>z a b c
theorem AG{l:Ot}{w:World}{K:Ae}{h:Heap}{mg:Str->Option Value}{fa:Addr}(X:K.In h)(G:h.Ns mainGlobals mg)(hfa:mg "law"=some (.ref fa))
  {f_x0 f_x1 f_x2 f_x3 f_x4 f_x5 f_x6 f_x7 f_x8 f_x9 f_x10 f_x11 f_x12 f_x13 f_x14 f_x15 f_x16 f_x17 f_x18 f_x19 f_x20 f_x21 f_x22 f_x23 f_x24 f_x25:Addr}
  {kV_x25 dc_x25 pm_x25 cd_x25 ct_x25:Value}
  {t1 t2 t3 t4 t5 t6 t7 t8:Tok}
  {a9:Addr}
  {t10 t11 t12 t13 t14:Tok}
  {a15:Addr}
  {t16 t17 t18 t19 t20 t21 t22:Tok}
  {a23:Addr}
  {t24 t25 t26:Tok}
  {a27:Addr}
  {t28:Tok}
  {a29:Addr}
  {t30 t31 t32:Tok}
  {a33:Addr}
  {t34 t35:Tok}
  {a36:Addr}
  {t37 t38 t39:Tok}
  {a40 a41:Addr}
  {h42 h43 h44 h45 h46 h47:Int}
  {t48 t49:Tok}
  {a50:Addr}
  {t51 t52 t53:Tok}
  {a54 a55 a56 a57 a58 a59 a60 a61 a62 a63 a64 a65 a66 a67:Addr}
  (kx:A4 K "is_whole" (top 19) f_x0)
  (kw:A4 K "parts_of" (top 27) f_x1)
  (ku:A4 K "makes_word" (top 28) f_x2)
  (kt:A4 K "may_name" (top 29) f_x3)
  (kr:A4 K "fits" (top 30) f_x4)
  (kq:A4 K "is_row" (top 31) f_x5)
  (ko:A4 K "is_block" (top 32) f_x6)
  (kn:A4 K "is_lanes" (top 36) f_x7)
  (km:A4 K "rows_within" (top 37) f_x8)
  (kl:A4 K "number_in" (top 40) f_x9)
  (f6:A4 K "shown" (top 41) f_x10)
  (jo:A4 K "parts_in" (top 42) f_x11)
  (ez:A4 K "read" (top 43) f_x12)
  (jm:A4 K "is_rising" (top 44) f_x13)
  (jl:A4 K "is_written_pack" (top 45) f_x14)
  (jk:A4 K "is_written_plan" (top 46) f_x15)
  (ev:A4 K "shown_plan" (top 47) f_x16)
  (i4:A4 K "read_plan" (top 48) f_x17)
  (jj:A4 K "_law_cell_at" (top 50) f_x18)
  (ji:A4 K "_law_mixed" (top 51) f_x19)
  (jh:A4 K "_law_draw" (top 52) f_x20)
  (jg:A4 K "_law_pick" (top 53) f_x21)
  (jf:A4 K "_law_which" (top 54) f_x22)
  (je:A4 K "_law_none" (top 55) f_x23)
  (jd:A4 K "_law_ask" (top 56) f_x24)
  (ki:Ep K mainGlobals "law"=some (some (.ref f_x25)))
  (k6:K.lookup f_x25=some ⟨.type "function",none,.func (Ix "law" "law" (bU (top 57)) (cY (top 57)) (eM (top 57)) .none kV_x25 dc_x25 pm_x25 none cd_x25 ct_x25),#[]⟩)
  (kh:Kt K cd_x25 "law"=true)
  (k7:Fq K (.ref f_x25)=true)
  (j9:Zn K "len")
  (gu:Zn K "range")
  (j8:Zn K "min")
  (gq:Zn K "tuple")
  (cz:Zn K "isinstance")
  (i7:Zn K "bool")
  (ja:Zn K "int")
  (j6:Zn K "str")
  (j5:Zn K "zip")
  (jc:Zn K "all")
  (jb:Zn K "any")
  (da:Zn K "ValueError")
  (j7:Zn K "set")
  (dw:Gn K "MOST_WORD" (.int 999 t1))
  (ky:K.lookup a9=some ⟨.type "tuple",none,.seq #[.str "plus" t2,.str "minus" t3,.str "times" t4,.str "least" t5,.str "most" t6,.str "less" t7,.str "over" t8] 0,#[]⟩)
  (gx:Gn K "DEEDS" (.ref a9))
  (dz:Gn K "MOST_SURE" (.int 64 t10))
  (ee:Gn K "MOST_ROWS" (.int 40 t11))
  (de:Gn K "MOST_PLACE" (.int 63 t12))
  (jy:K.lookup a15=some ⟨.type "tuple",none,.seq #[.str "row" t13,.str "row" t14] 0,#[]⟩)
  (dg:Gn K "DEED_PARTS" (.ref a15))
  (jx:K.lookup a23=some ⟨.type "tuple",none,.seq #[.str "word" t22] 0,#[]⟩)
  (jw:K.lookup a27=some ⟨.type "tuple",none,.seq #[.str "row" t24,.str "row" t25,.str "row" t26] 0,#[]⟩)
  (jv:K.lookup a29=some ⟨.type "tuple",none,.seq #[.str "place" t28] 0,#[]⟩)
  (ju:K.lookup a33=some ⟨.type "tuple",none,.seq #[.str "place" t30,.str "row" t31,.str "row" t32] 0,#[]⟩)
  (jt:K.lookup a36=some ⟨.type "tuple",none,.seq #[.str "place" t34,.str "row" t35] 0,#[]⟩)
  (js:K.lookup a40=some ⟨.type "tuple",none,.seq #[.str "place" t37,.str "row" t38,.str "row" t39] 0,#[]⟩)
  (jr:K.lookup a41=some ⟨.type "dict",none,.dict #[⟨h42,.str "number" t16,.ref a23⟩,⟨h43,.str "pick" t17,.ref a27⟩,⟨h44,.str "load" t18,.ref a29⟩,⟨h45,.str "take" t19,.ref a33⟩,⟨h46,.str "store" t20,.ref a36⟩,⟨h47,.str "put" t21,.ref a40⟩] 6,#[]⟩)
  (k4:(a41==Gm)=false)
  (ck:Gn K "OTHER_PARTS" (.ref a41))
  (jq:K.lookup a50=some ⟨.type "tuple",none,.seq #[.str "store" t48,.str "put" t49] 0,#[]⟩)
  (fu:Gn K "WRITERS" (.ref a50))
  (cm:Gn K "LEAST_LANES" (.int 2 t51))
  (df:Gn K "MOST_LANES" (.int 4 t52))
  (g9:Gn K "DIGITS" (.str "0123456789" t53))
  (cr:Gn K "Nothing" (.ref a54))
  (ci:Gn K "NotValid" (.ref a55))
  (cq:Gn K "TooLong" (.ref a56))
  (cn:Gn K "TooMany" (.ref a57))
  (dt:Gn K "NoName" (.ref a58))
  (dn:Gn K "NoText" (.ref a59))
  (du:Gn K "NoLoop" (.ref a60))
  (dm:Gn K "NoTree" (.ref a61))
  (bu:Gn K "NoProgram" (.ref a62))
  (dq:Gn K "NoPlan" (.ref a63))
  (cu:Gn K "NoLanes" (.ref a64))
  (f8:Gn K "NoRow" (.ref a65))
  (cv:Gn K "NoCells" (.ref a66))
  (cw:Gn K "NoBlock" (.ref a67))
  (bj:XC K "NoBlock" a67)
  (bh:XC K "NoLanes" a64)
  (bq:XC K "NoPlan" a63)
  (bp:XC K "NoText" a59)
  (xk:xiOk K QM YV=true):
  ∃fd:Ch,(∀(s:Ab) (v:Value),Lh s fd ⟨[v],[]⟩ [("_law_script",v)])/\ ∀base:Heap,K.In base->base.Ns mainGlobals mg->cQ l.prog w K mg base CX0 8 fa fd ["_law_script"] (spV K [] 1 SG):=by
 have e:=hfa.symm.trans (Cc X G ki)
 cases e
 have T:Z1 K mg:=⟨fun _ _ e=>Cc X G e,
   Ct X G j9,
   Ct X G gu,
   Ct X G j8,
   Ct X G gq,
   Ct X G cz,
   Ct X G i7,
   Ct X G ja,
   Ct X G j6,
   Ct X G j5,
   Ct X G jc,
   Ct X G jb,
   Ct X G da,
   Ct X G j7,
   ⟨_,.ref a9,Cc X G gx,rfl,fun _ _ _=>(.tup (xs:=[.str "plus",.str "minus",.str "times",.str "least",.str "most",.str "less",.str "over"]) (.inr ⟨_,_,_,ky,rfl,rfl,(by show 7<=sizeLine;decide),(.cons ⟨_,rfl⟩ (.cons ⟨_,rfl⟩ (.cons ⟨_,rfl⟩ (.cons ⟨_,rfl⟩ (.cons ⟨_,rfl⟩ (.cons ⟨_,rfl⟩ (.cons ⟨_,rfl⟩ .nil)))))))⟩) (.cons (.str _) (.cons (.str _) (.cons (.str _) (.cons (.str _) (.cons (.str _) (.cons (.str _) (.cons (.str _) .nil))))))))⟩,
   ⟨_,.ref a15,Cc X G dg,rfl,fun _ _ _=>(.tup (xs:=[.str "row",.str "row"]) (.inr ⟨_,_,_,jy,rfl,rfl,(by show 2<=sizeLine;decide),(.cons ⟨_,rfl⟩ (.cons ⟨_,rfl⟩ .nil))⟩) (.cons (.str _) (.cons (.str _) .nil)))⟩,
   ⟨_,.str "0123456789",Cc X G g9,⟨_,rfl⟩,fun _ _ _=>(.str _)⟩,
   ⟨_,.int 2,Cc X G cm,⟨_,rfl⟩,fun _ _ _=>(.int _)⟩,
   ⟨_,.int 4,Cc X G df,⟨_,rfl⟩,fun _ _ _=>(.int _)⟩,
   ⟨_,.int 63,Cc X G de,⟨_,rfl⟩,fun _ _ _=>(.int _)⟩,
   ⟨_,.int 40,Cc X G ee,⟨_,rfl⟩,fun _ _ _=>(.int _)⟩,
   ⟨_,.int 64,Cc X G dz,⟨_,rfl⟩,fun _ _ _=>(.int _)⟩,
   ⟨_,.int 999,Cc X G dw,⟨_,rfl⟩,fun _ _ _=>(.int _)⟩,
   ⟨_,.ref a41,Cc X G ck,rfl,fun _ _ _=>(.ktb (D:=[("number",.ref a23),("pick",.ref a27),("load",.ref a29),("take",.ref a33),("store",.ref a36),("put",.ref a40)]) ⟨k4,_,_,_,jr,⟨rfl,rfl,rfl⟩,rfl,(.cons rfl rfl (.cons rfl rfl (.cons rfl rfl (.cons rfl rfl (.cons rfl rfl (.cons rfl rfl .nil))))))⟩ (.cons (.tup (xs:=[.str "word"]) (.inr ⟨_,_,_,jx,rfl,rfl,(by show 1<=sizeLine;decide),(.cons ⟨_,rfl⟩ .nil)⟩) (.cons (.str _) .nil)) (.cons (.tup (xs:=[.str "row",.str "row",.str "row"]) (.inr ⟨_,_,_,jw,rfl,rfl,(by show 3<=sizeLine;decide),(.cons ⟨_,rfl⟩ (.cons ⟨_,rfl⟩ (.cons ⟨_,rfl⟩ .nil)))⟩) (.cons (.str _) (.cons (.str _) (.cons (.str _) .nil)))) (.cons (.tup (xs:=[.str "place"]) (.inr ⟨_,_,_,jv,rfl,rfl,(by show 1<=sizeLine;decide),(.cons ⟨_,rfl⟩ .nil)⟩) (.cons (.str _) .nil)) (.cons (.tup (xs:=[.str "place",.str "row",.str "row"]) (.inr ⟨_,_,_,ju,rfl,rfl,(by show 3<=sizeLine;decide),(.cons ⟨_,rfl⟩ (.cons ⟨_,rfl⟩ (.cons ⟨_,rfl⟩ .nil)))⟩) (.cons (.str _) (.cons (.str _) (.cons (.str _) .nil)))) (.cons (.tup (xs:=[.str "place",.str "row"]) (.inr ⟨_,_,_,jt,rfl,rfl,(by show 2<=sizeLine;decide),(.cons ⟨_,rfl⟩ (.cons ⟨_,rfl⟩ .nil))⟩) (.cons (.str _) (.cons (.str _) .nil))) (.cons (.tup (xs:=[.str "place",.str "row",.str "row"]) (.inr ⟨_,_,_,js,rfl,rfl,(by show 3<=sizeLine;decide),(.cons ⟨_,rfl⟩ (.cons ⟨_,rfl⟩ (.cons ⟨_,rfl⟩ .nil)))⟩) (.cons (.str _) (.cons (.str _) (.cons (.str _) .nil)))) .nil)))))))⟩,
   ⟨_,.ref a50,Cc X G fu,rfl,fun _ _ _=>(.tup (xs:=[.str "store",.str "put"]) (.inr ⟨_,_,_,jq,rfl,rfl,(by show 2<=sizeLine;decide),(.cons ⟨_,rfl⟩ (.cons ⟨_,rfl⟩ .nil))⟩) (.cons (.str _) (.cons (.str _) .nil)))⟩,
   ⟨_,.ref a54,Cc X G cr,rfl,fun _ _ _=> .fn cr⟩,
   ⟨_,.ref a55,Cc X G ci,rfl,fun _ _ _=> .fn ci⟩,
   ⟨_,.ref a56,Cc X G cq,rfl,fun _ _ _=> .fn cq⟩,
   ⟨_,.ref a57,Cc X G cn,rfl,fun _ _ _=> .fn cn⟩,
   ⟨_,.ref a58,Cc X G dt,rfl,fun _ _ _=> .fn dt⟩,
   ⟨_,.ref a59,Cc X G dn,rfl,fun _ _ _=> .fn dn⟩,
   ⟨_,.ref a60,Cc X G du,rfl,fun _ _ _=> .fn du⟩,
   ⟨_,.ref a61,Cc X G dm,rfl,fun _ _ _=> .fn dm⟩,
   ⟨_,.ref a62,Cc X G bu,rfl,fun _ _ _=> .fn bu⟩,
   ⟨_,.ref a63,Cc X G dq,rfl,fun _ _ _=> .fn dq⟩,
   ⟨_,.ref a64,Cc X G cu,rfl,fun _ _ _=> .fn cu⟩,
   ⟨_,.ref a65,Cc X G f8,rfl,fun _ _ _=> .fn f8⟩,
   ⟨_,.ref a66,Cc X G cv,rfl,fun _ _ _=> .fn cv⟩,
   ⟨_,.ref a67,Cc X G cw,rfl,fun _ _ _=> .fn cw⟩,
   ⟨_,.ref f_x16,Cc X G ev.ns,rfl,fun _ _ _=> .fn ev.ns⟩,
   ⟨_,.ref f_x12,Cc X G ez.ns,rfl,fun _ _ _=> .fn ez.ns⟩,
   ⟨_,.ref f_x10,Cc X G f6.ns,rfl,fun _ _ _=> .fn f6.ns⟩,
   ⟨_,bj,Cc X G bj.at_⟩,
   ⟨_,bh,Cc X G bh.at_⟩,
   ⟨_,bq,Cc X G bq.at_⟩,
   ⟨_,bp,Cc X G bp.at_⟩,
   XI.of (Fa.mpr ⟨⟨_,bj⟩,Fa.mpr ⟨⟨_,bh⟩,Fa.mpr ⟨⟨_,bq⟩,Fa.mpr ⟨⟨_,bp⟩,nofun⟩⟩⟩⟩) xk⟩
 have kj:=RD (st:=top 57) k6 kh k7
 refine⟨Ix "law" "law" (bU (top 57)) (cY (top 57)) (eM (top 57)) .none kV_x25 dc_x25 pm_x25 none cd_x25 ct_x25,fun s v=> .of_eq rfl,fun base _ _=> ?_⟩
 have ay:dF l.prog w K mg base "is_whole" 1 EM [] c6 f_x0:=aQ X G kx (fun U=>zBF U T) (KS fun _ _ _=>rfl)
 have j4:dF l.prog w K mg base "parts_of" 1 Qx1 [] Y4 f_x1:=aQ X G kw (fun U=>zBE U T) (XW fun _=>rfl)
 have j3:dF l.prog w K mg base "makes_word" 1 Qx2 [] aL f_x2:=aQ X G ku (fun U=>zBD U T) (XW fun _=>rfl)
 have iz:dF l.prog w K mg base "may_name" 2 Qx3 [] Y3 f_x3:=aQ X G kt (fun U=>zBC U T ay) (O0 fun _ _=>rfl)
 have iy:dF l.prog w K mg base "fits" 3 Qx4 [] QS f_x4:=aQ X G kr (fun U=>zBB U T ay iz) (KS fun _ _ _=>rfl)
 have iw:dF l.prog w K mg base "is_row" 4 Qx5 [] W1 f_x5:=aQ X G kq (fun U=>zBA U T j4 iy) (O0 fun _ _=>rfl)
 have bz:dF l.prog w K mg base "is_block" 5 DP [] cH f_x6:=aQ X G ko (fun U=>zB9 U T ay j3 iw) (XW fun _=>rfl)
 have ei:dF l.prog w K mg base "is_lanes" 2 Qx7 [] bQ f_x7:=aQ X G kn (fun U=>zB8 U T ay) (XW fun _=>rfl)
 have iu:dF l.prog w K mg base "rows_within" 1 Qx8 [] a8 f_x8:=aQ X G km (fun U=>zB7 U T) (XW fun _=>rfl)
 have dh:dF l.prog w K mg base "number_in" 1 AD [] cD f_x9:=aQ X G kl (fun U=>zB6 U T) (XW fun _=>rfl)
 have er:UJ l.prog w K mg base "shown" 6 T3 VR f_x10:=M6 X G f6 (fun U=>FJ U T bz) (XW fun _=>rfl)
 have gp:dF l.prog w K mg base "shown" 6 T3 [] VO f_x10:=aQ X G f6 (fun U=>BH U T bz) (XW fun _=>rfl)
 have cy:dF l.prog w K mg base "parts_in" 2 KU [] bC f_x11:=aQ X G jo (fun U=>BI U T dh) (XW fun _=>rfl)
 have eo:UJ l.prog w K mg base "read" 6 T4 QW f_x12:=M6 X G ez (fun U=>FK U T bz cy) (XW fun _=>rfl)
 have gn:dF l.prog w K mg base "read" 6 T4 [] QT f_x12:=aQ X G ez (fun U=>BJ U T bz cy) (XW fun _=>rfl)
 have cx:dF l.prog w K mg base "is_rising" 1 KW [] bM f_x13:=aQ X G jm (fun U=>BK U T) (XW fun _=>rfl)
 have gm:dF l.prog w K mg base "is_written_pack" 2 GV [] cA f_x14:=aQ X G jl (fun U=>BL U T ay cx) (O0 fun _ _=>rfl)
 have au:dF l.prog w K mg base "is_written_plan" 3 O4 [] dR f_x15:=aQ X G jk (fun U=>BM U T iu cx gm) (O0 fun _ _=>rfl)
 have en:UJ l.prog w K mg base "shown_plan" 4 T5 aN f_x16:=M6 X G ev (fun U=>FL U T au) (XW fun _=>rfl)
 have gl:dF l.prog w K mg base "shown_plan" 4 T5 [] aM f_x16:=aQ X G ev (fun U=>BN U T au) (XW fun _=>rfl)
 have ek:UJ l.prog w K mg base "read_plan" 4 QV Z2 f_x17:=M6 X G i4 (fun U=>FM U T ei dh au) (O0 fun _ _=>rfl)
 have gk:dF l.prog w K mg base "read_plan" 4 QV [] ZZ f_x17:=aQ X G i4 (fun U=>BO U T ei dh au) (O0 fun _ _=>rfl)
 have gj:dF l.prog w K mg base "_law_cell_at" 1 GW [] cR f_x18:=aQ X G jj (fun U=>BP U T) (O0 fun _ _=>rfl)
 have gf:dF l.prog w K mg base "_law_mixed" 2 GX [] bN f_x19:=aQ X G ji (fun U=>BQ U T gj) (KS fun _ _ _=>rfl)
 have gd:dF l.prog w K mg base "_law_draw" 3 GY [1] bB f_x20:=aQ X G jh (fun U=>BR U T gf) (KS fun _ _ _=>rfl)
 have bw:dF l.prog w K mg base "_law_pick" 4 KY [1] dJ f_x21:=aQ X G jg (fun U=>BS U T gd) (KS fun _ _ _=>rfl)
 have et:EK l.prog w K mg base "_law_which" 1 GZ (spV K [] 1 ZY) f_x22:=zBI X G jf (fun U=>BU U T) (XW fun _=>rfl)
 have gc:dF l.prog w K mg base "_law_none" 5 G0 [1] b6 f_x23:=aQ X G je (fun U=>BV U T bw) (O0 fun _ _=>rfl)
 have ar:dF l.prog w K mg base "_law_ask" 7 G1 [] d9 f_x24:=aQ X G jd (fun U=>BW U T gp gn gl gk et er eo en ek) (KS fun _ _ _=>rfl)
 exact BX kj T bw gc ar
theorem JU(K:Ae)(H:Hp)(a:Addr)(ns:List Int)(hl:ns.length<=63)(h:aT K H a (ns.map V.int)):spV K [] 1 SG [.ref a] H (fun v _=>v= .bl true) fun _ _ _=>False:=by
 have hr:d8 K (Zp (fun _=>False) [] [.ref a]) H (ns.map V.int) (ns.map eN.int):=by
  clear h hl
  induction ns with
  |nil=>exact .nil
  |cons n ns ih=>exact .cons (.int n) ih
 have hz: ∀b,¬Zp (fun _=>False) [] [V.ref a] b:=fun b h=>by
  rcases h with h|⟨i,h,_⟩
  ·exact h
  ·cases h
 refine⟨fun _=>False,[.lst (ns.map .int)],.bl true,[],rfl,⟨rfl,(fun i h=>nomatch h),fun i d hi e=> ?_,(fun i d h=>nomatch h),(fun i j b h=>nomatch h),fun a h=>h.elim⟩,HR ns hl,fun v H' _ _ r=>by cases r;rfl⟩
 cases i with
 |zero=>
  cases e
  refine⟨_,rfl,?_⟩
  rcases h with(h|⟨o,h⟩)|h
  ·exact .lst h (hz a) hr
  ·exact .fzl (.inl ⟨o,h⟩) hr
  ·exact .fzl (.inr h) hr
 |succ i=>cases i<;>cases e
end RR
open PySem PySem.W PyProof.Rows
set_option maxRecDepth 100000 in
set_option maxHeartbeats 0 in
theorem PySem.Challenge.cw_lanepacks_k39_texts_refused_holds : PySem.Challenge.rw_lanepacks_k39_texts_refused.Holds := by
 w_on;refine holds_law KK.said fun said=> ?_
 refine holds_open (q:=KK.view) (loose:=KK.lo) (Xt:=KK.X) (XP:=XL KK.view []) (Yf:=KK.H.obs) (Ya:=KK.H.val) (YP:=KK.H.says) (N:=8716) KK.hl (Hook.of _) (Hook.keeps _) (fun s e=>xl_of s (Ke.mp e).1) XL.keeps (by rfl) (by rfl) (by rfl) (fun s e=>recFacts_of (Ke.mp e).2) (by rfl) (by first|assumption|decide+kernel) (by decide+kernel) ⟨rfl,rfl,rfl,rfl,rfl,by decide+kernel⟩ ?hw ?hc
 case hw=>w_witness2
 refine L2.KA (l:=Hw) (n:=63) (k:=8) (x:= "_law_script") (CX:=L2.CX0) (sp:=fun K=>L2.spV K [] 1 L2.SG) rfl (by decide) rfl ⟨rfl,by decide,by decide⟩ (fun w h Y=>W.kIn_of (K:=KK.K) (as:=KK.A) (e:=KK.kA) Y) ?F (fun K H a ns hl _ hS=>RR.JU K H a ns hl hS) fun _ _ _ _ z=>z
 case F=>
  intro w mg fa h KX G hmg
  exact RR.AG (K:=KK.K w.params) (f_x0:=224) (f_x1:=240) (f_x2:=247) (f_x3:=254) (f_x4:=261) (f_x5:=266) (f_x6:=273) (f_x7:=280) (f_x8:=285) (f_x9:=290) (f_x10:=295) (f_x11:=300) (f_x12:=307) (f_x13:=312) (f_x14:=317) (f_x15:=322) (f_x16:=327) (f_x17:=332) (f_x18:=339) (f_x19:=346) (f_x20:=353) (f_x21:=360) (f_x22:=367) (f_x23:=374) (f_x24:=381) (f_x25:=388) (kV_x25:= .none) (dc_x25:= .none) (pm_x25:= .str "law_lanepacks_k39_texts_refused" 647) (cd_x25:= .ref 387) (ct_x25:= .none) (t1:=460) (t2:=462) (t3:=463) (t4:=464) (t5:=465) (t6:=466) (t7:=467) (t8:=468) (a9:=217) (t10:=481) (t11:=483) (t12:=485) (t13:=487) (t14:=488) (a15:=225) (t16:=490) (t17:=492) (t18:=496) (t19:=498) (t20:=502) (t21:=505) (t22:=491) (a23:=227) (t24:=493) (t25:=494) (t26:=495) (a27:=228) (t28:=497) (a29:=229) (t30:=499) (t31:=500) (t32:=501) (a33:=230) (t34:=503) (t35:=504) (a36:=231) (t37:=506) (t38:=507) (t39:=508) (a40:=232) (a41:=226) (h42:=De w.params "number") (h43:=De w.params "pick") (h44:=De w.params "load") (h45:=De w.params "take") (h46:=De w.params "store") (h47:=De w.params "put") (t48:=516) (t49:=517) (a50:=233) (t51:=569) (t52:=571) (t53:=588) (a54:=214) (a55:=202) (a56:=183) (a57:=171) (a58:=159) (a59:=140) (a60:=128) (a61:=116) (a62:=104) (a63:=92) (a64:=80) (a65:=68) (a66:=49) (a67:=37) KX G hmg
   (KK.p _ 224 19 "is_whole" (.str "lanepacks.words" 458))
   (KK.p _ 240 27 "parts_of" (.str "lanepacks.blocks" 479))
   (KK.p _ 247 28 "makes_word" (.str "lanepacks.blocks" 479))
   (KK.p _ 254 29 "may_name" (.str "lanepacks.blocks" 479))
   (KK.p _ 261 30 "fits" (.str "lanepacks.blocks" 479))
   (KK.p _ 266 31 "is_row" (.str "lanepacks.blocks" 479))
   (KK.p _ 273 32 "is_block" (.str "lanepacks.blocks" 479))
   (KK.p _ 280 36 "is_lanes" (.str "lanepacks.plans" 567))
   (KK.p _ 285 37 "rows_within" (.str "lanepacks.plans" 567))
   (KK.p _ 290 40 "number_in" KK.m)
   (KK.p _ 295 41 "shown" KK.m)
   (KK.p _ 300 42 "parts_in" KK.m)
   (KK.p _ 307 43 "read" KK.m)
   (KK.p _ 312 44 "is_rising" KK.m)
   (KK.p _ 317 45 "is_written_pack" KK.m)
   (KK.p _ 322 46 "is_written_plan" KK.m)
   (KK.p _ 327 47 "shown_plan" KK.m)
   (KK.p _ 332 48 "read_plan" KK.m)
   (KK.p _ 339 50 "_law_cell_at" (.str "law_lanepacks_k39_texts_refused" 647))
   (KK.p _ 346 51 "_law_mixed" (.str "law_lanepacks_k39_texts_refused" 647))
   (KK.p _ 353 52 "_law_draw" (.str "law_lanepacks_k39_texts_refused" 647))
   (KK.p _ 360 53 "_law_pick" (.str "law_lanepacks_k39_texts_refused" 647))
   (KK.p _ 367 54 "_law_which" (.str "law_lanepacks_k39_texts_refused" 647))
   (KK.p _ 374 55 "_law_none" (.str "law_lanepacks_k39_texts_refused" 647))
   (KK.p _ 381 56 "_law_ask" (.str "law_lanepacks_k39_texts_refused" 647))
   (by kernel_rfl)
   (by kernel_rfl)
   (by kernel_rfl)
   (by kernel_rfl)
   (by kernel_rfl)
   (by kernel_rfl)
   (by kernel_rfl)
   (by kernel_rfl)
   (by kernel_rfl)
   (by kernel_rfl)
   (by kernel_rfl)
   (by kernel_rfl)
   (by kernel_rfl)
   (by kernel_rfl)
   (by kernel_rfl)
   (by kernel_rfl)
   (by kernel_rfl)
   (by kernel_rfl)
   (by kernel_rfl)
   (by kernel_rfl)
   (by kernel_rfl)
   (by kernel_rfl)
   (by kernel_rfl)
   (by kernel_rfl)
   (by kernel_rfl)
   (by kernel_rfl)
   (by kernel_rfl)
   (by kernel_rfl)
   (by kernel_rfl)
   (by kernel_rfl)
   (by kernel_rfl)
   (by kernel_rfl)
   (by decide)
   (by kernel_rfl)
   (by kernel_rfl)
   (by kernel_rfl)
   (by kernel_rfl)
   (by kernel_rfl)
   (by kernel_rfl)
   (by kernel_rfl)
   (by kernel_rfl)
   (by kernel_rfl)
   (by kernel_rfl)
   (by kernel_rfl)
   (by kernel_rfl)
   (by kernel_rfl)
   (by kernel_rfl)
   (by kernel_rfl)
   (by kernel_rfl)
   (by kernel_rfl)
   (by kernel_rfl)
   (by kernel_rfl)
   (by kernel_rfl)
   ⟨by kernel_rfl,by kernel_rfl,⟨by kernel_rfl,by kernel_rfl,by kernel_rfl,by kernel_rfl,by kernel_rfl,by kernel_rfl,by kernel_rfl⟩,by kernel_rfl,24,⟨by kernel_rfl,by kernel_rfl,by kernel_rfl,by kernel_rfl,by kernel_rfl⟩⟩
   ⟨by kernel_rfl,by kernel_rfl,⟨by kernel_rfl,by kernel_rfl,by kernel_rfl,by kernel_rfl,by kernel_rfl,by kernel_rfl,by kernel_rfl⟩,by kernel_rfl,24,⟨by kernel_rfl,by kernel_rfl,by kernel_rfl,by kernel_rfl,by kernel_rfl⟩⟩
   ⟨by kernel_rfl,by kernel_rfl,⟨by kernel_rfl,by kernel_rfl,by kernel_rfl,by kernel_rfl,by kernel_rfl,by kernel_rfl,by kernel_rfl⟩,by kernel_rfl,24,⟨by kernel_rfl,by kernel_rfl,by kernel_rfl,by kernel_rfl,by kernel_rfl⟩⟩
   ⟨by kernel_rfl,by kernel_rfl,⟨by kernel_rfl,by kernel_rfl,by kernel_rfl,by kernel_rfl,by kernel_rfl,by kernel_rfl,by kernel_rfl⟩,by kernel_rfl,24,⟨by kernel_rfl,by kernel_rfl,by kernel_rfl,by kernel_rfl,by kernel_rfl⟩⟩
   (by kernel_rfl)
end
