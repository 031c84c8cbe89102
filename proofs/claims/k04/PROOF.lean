import PyProof.Rows.All
import KE.KFromBytes
import KE.KTab
import KE.KIsAll
import KE.KDictOf
import KE.KEqDeep
import KE.KItem
import KE.KUnpackStar
import Wide.FinOn
import Wide.Line
import KE.KSortTup
import PyProof.AttrMissSeq
import OpenK.KOwn
import Open.TreeImp
import PySem.Challenge.RW_lanepacks_k04_running_refused
set_option Elab.async false
set_option linter.all false
set_option maxRecDepth 100000
set_option maxHeartbeats 4000000
set_option bootstrap.genMatcherCode false
open PySem renaming wpAny_bind→A0,Shared→A2,wpAny_pure→A9,Program→Aj,bootBuiltins→Ar,wpAny_holding→B7,Around→B8,wpAny_mono→Ba,sizeLine_eq→Bb,mem_of_lookup→Bu,compareOp→By,FuncData→C2,wpAny_newObj_type→C6,wpAny_callSpecial?_slot→C9,backTo→Cg,wpAny_Call_Name_kw→Cn,wpAny_field→Co,wpAny_call_entry→Cr,Builtin→D3,wpAny_seqItems→D4,wpAny_truthy_bool→D5,sysModules→Dc,swapsWithSole→Df,swappedStores→Dg,binaryOp→Dh,wpAny_setField_rec→Dj,wpAny_passesOwn→Dr,call_meets→Du,keywordEach→Dy,wpAny_standAt→E8,wpAny_pyIter_list→E9,attributeBase→Ea,swapsWith→Ec,Spec→Ef,wpAny_pyIter_tuple→Eo,behindInMarks→Er,tupleKind_room_in1→Et,wpAny_assign_Name→F2,wpAny_rule→F4,sliceBounds→F7,Keyword→F8,wpAny_bindName→Fe,codeAny_mono→Fg,wpAny_updateSeq_pair→Fn,bindName→Fp,backToKw→Fs,importedModules→Fx,wpAny_execs_nil→G0,unpackItems→G1,letOwnedTupleGo→G3,wpAny_newFunctionEnv_cells→Gf,wpAny_typeOf→Gp,recursionLimit→Gr,codeAny→Gs,wpAny_binaryOp_repeat_ref→Gw,wpAny_sequenceKey→Gy,wpAny_comprehension_free→Gz,getItem→Hd,wpAny_onRaise→Hg,wpAny_attempt→Hh,wpAny_eqBool_int→Hm,noFill_tuple_add→Ho,wpAny_pyNext_list_item→Ht,DictEntry→Hz,wpAny_pyNext_list_end→Ia,codeAny_call_function→Ib,concat_meets→Ic,call_meetsIn→Ih,codeAny_builtin→Im,typeIs_int→Ir,ZipApart→Iu,codeAny_call_builtin→Ix,PyData→J3,newFunctionEnv→J6,holding→J8,callerA→Ja,bltViewBooted→Jh,seq_tuple_add→Jk,getattributeRaised→Jp,BindsTo→Jw,wpAny_call→Jx,valueAt→Jy,wpAny_Call_method→Jz,wpAny_pyIter_enum→K4,seqIndex_neg→Ke,typeOf→Kf,seqSlot_of→Ku,Params→L7,PassesOwn→Lb,lastMarks→Lc,seqIndex_of→Ld,wpAny_letGo→Li,pushCells→Lk,wpAny_Name→M5,call→M6,isInstance→M7,getAttr?→Mi,Within→Mm,stored→Mo
open PySem.Heap renaming get?_push_of_some→A1,lt_size→Ae,get?_push_size→Ai,size_push→Cj,SameBut→De,get?_push_ne→Fa,ExtBut→G6,get?_update_other→Hv,get?_update_self→Ie,FlyingW→Ip,get?_update_ne→Jg
open Bool renaming and_eq_true→A3,false_ne_true→Cb,false_eq_true→Di,or_eq_true→Ew,beq_eq_decide_eq→Iq,and_eq_true_iff→J0,or_false→Md,false_or→Me,true_and→Mk
open List renaming getElem?_eq_some_iff→A5,getElem?_append_left→A6,replicate→Aa,mem_cons→Ac,size_toArray→Ad,mem_cons_of_mem→Ag,mem_singleton→Ah,mem_cons_self→Ak,not_mem_nil→Am,map_cons→An,range→Ao,getElem?_append_right→Ap,mem_append→Aw,mem_append_right→Ax,mem_append_left→Az,getElem?_set_ne→B0,length_set→B9,mem_range→Be,length_append→Bf,length_cons→Bg,append_nil→Bi,lookup_cons→Bm,length_map→Bo,getElem?_eq_none→Bp,take_of_length_le→Bq,all_eq_true→Br,nodup_cons→Bv,length_take→Bw,getElem?_set_self→Bx,getElem?_take_of_lt→Bz,getElem?_eq_getElem→C0,mem_map→C3,getElem?_replicate→C7,getElem?_map→C8,take_append_of_le_length→Cd,replicate_succ→Cf,lookup_cons_self→Ci,mem_of_getElem?→Cq,map_nil→Cs,set_comm→Cw,nil_append→D8,drop_eq_getElem_cons→Dn,flatten_cons→Dv,length_eq_zero_iff→Dz,find?_cons→E5,set_append_right→E6,append_assoc→Eb,mem_filter→Em,map_append→Ey,length_range→F9,length_replicate→Fi,length_singleton→Fk,drop_length→Fm,any_cons→Ft,dropLast_concat_getLast→Fv,filterMap_cons→Fz,of_mem_zip→G4,forIn_cons→G5,map_congr_left→G7,idxOf_lt_length_of_mem→Gd,mem_filterMap→Gm,getElem?_eq_none_iff→Gv,cons_append→Hq,getElem_mem→Hs,range_succ_eq_map→Hw,length_nil→Ig,mem_iff_getElem?→Ik,getElem?_mapIdx→Iv,forall_mem_cons→Iz,drop_zero→J4,forIn_nil→J5,lookup→Jb,getElem_idxOf→Js,ext_getElem?→K2,zip_nil_left→K3,map_map→Ki,getElem_inj→Kk,length_drop→Kl,isEmpty_iff→Kn,zipIdx_cons→Kq,zip_append→Lf,zipIdx_nil→Lh,mapM_cons→Lx,take_left→Ly,all_cons→Mg,all_map→Mq
open Option renaming bind_some→A7,isSome_some→Jl,getD_none→Km,map_some→Lu
open PySem.W renaming Frag→A8,mg_of→C4,mg_none_of→C5,kia_one→D6,keepIn→Dx,nsIn→E4,callWith_K→Fh,fnOf→Fj,kitOne→Fq,codeIn→Go,kas_item→Hk,cellsFrom_some→Hn,SharedT→J7,kitx_list→J9,hideAll_get→Jj,looks_findIn→Kj,findIn→Kx,opening→L6,methodObj→La,kasC_bind→Lm,kasC_modify→Ln,kas_item_eq→Lq,looseW→Lz,absHeap→M8,openEnds→M9,instObj→Ml,OpenLaw→Mp,clsIn→My
open Nat renaming le_refl→Af,lt_of_lt_of_le→Al,ne_of_lt→Aq,lt_irrefl→Bj,zero_le→Cv,le_trans→Dd,ne_of_gt→Eh,le_succ→Fb,le_of_succ_le→Fd,zero_add→Ff,lt_of_succ_lt_succ→Hx,not_lt_zero→Il,sub_self→Io,lt_succ_of_lt→K8,le_of_lt→Kc,lt_trans→Kg,add_comm→Kh,lt_of_not_le→Ko,succ_le_succ→Ks,min_le_left→Lj,min_eq_left→Ls
open PySem.Str renaming ofString→As,ofString_eq_toList→F1
open PySem.F renaming slot_list_append→At,type_list_append→Au,slot_dict_get→Ch,entry_dict_get→D9,slot_tuple_iterator_next→Db,args_tuple_add_2→Ei,slot_list_extend→Ek,type_list_extend→El,entry_tuple_add→Es,args_dict_get_2→Eu,plainAttrs_list→Ex,slot_tuple_add→F0,args_tuple_iterator_next_1→Fu,entry_tuple_iterator_next→G8,slot_zip_next→G9,slot_int_rmul→Gb,slot_dict_getitem→Gu,args_dict_get_3→He,plainAttrs_dict→Hf,slot_list_index→Hi,type_list_index→Hj,type_dict_get→Ii,args_list_index_2→Jf,entry_list_index→Jn,args_tuple_mul_2→Jr,args_zip_next_1→K5,slot_list_index→K6,args_int_rmul_2→K9,entry_tuple_mul→Ka,entry_zip_next→Kr,entry_int_rmul→Kv,slot_tuple_mul→Kw,fills_int_mul→Lr
open PySem.Value renaming ref→Av,bool→Eg,type→Gx,int→L8,str→L9,isStrOf→Mb,isInt→Mt,float→Mu
open PySem.NameKind renaming free→Ay,cell→Bk
open PySem.PyData renaming keyHash→B4,depthAll→D7,canLay0→E1,canLayAll0→Fc,depth→Fl,eqv→Fw,int→K1,strOk→Mr
open PySem.Builtin.SmallTypes renaming nextOf→B5,ownedTupleIsFree→Ce,ownedTupleHandOut→Ee
open Option.some renaming inj→B6
open PySem.AutoSeq1 renaming wpAny_loadPart'→Bt,idx_int→Hr
open Prod renaming fst→Ca,snd→Cy
open Ne renaming symm→Cc
open PyProof.Rows renaming assignInOrder_cons→Ck,callWith_type1→Cm,slot_tuple_getitem→Ct,seqObj→Ej,assignInOrder_nil→F3,SortSt→Fo,AllBare→Hc,subscriptTail_builtinR→Hu,listUpdate_at→Jq,unpackItems_tuple→Jv,pairsOf→K7,SortKind→Kz,seqEpoch_at→Lp,expectedOf→M0,plainGoodE→M3,plainGoodD→M4,drecsOf→Ma,tail_any→Mc,IntsAre→Mf
open PySem.Obj renaming mapSeq→Cu,data_mapFields→Jm
open ForInStep renaming yield→Cz
open PySem.SeqAt renaming shaped→D0,list_indexAt→Jo
open PySem.PassesOwn renaming never→D1
open Int renaming emod_lt_of_pos→D2,emod_nonneg→Ez,toNat_natCast→F6,toNat_of_nonneg→Ga
open PySem.Builtin.Slice renaming slicePlaces→Dk,sliceAdjust→Ed,sliceApplied→Gg,slicePartIndex→Ky,sliceFields→Lw
open PyProof.Rows.KTD renaming datumAt→Dm
open PySem.Calls renaming evalArgs_plain→Dq,callWith_builtin→E2,spliced_cons→E3,spliced_nil→F5,Name_function_global→Ge
open PySem.Builtin.Tuple renaming tupleExact→Ds,tupleItemsOf→Gh,tupleTooMany→Gj,tupleIsExact→Lv
open PySem.Builtin.List renaming listTooLong→Dt
open Array renaming length_toList→Dw,perm_iff_toList_perm→Gi,toList_inj→Kt,toList→Mn
open False renaming elim→E7
open PySem.Builtin.Range renaming rangeSize→Ep,small→Mx
open Prod.mk renaming inj→Fy
open PyProof.Rows.IsTup renaming new→G2
open List.cons renaming injEq→Gc
open PySem.Challenge renaming pw_lanepacks_k04_running_refused→Gk,rw_lanepacks_k04_running_refused→Gq
open PyProof.Rows.SortSt renaming mk'→Ha
open List.Pairwise renaming map→Hb,nil→K0
open PySem.Builtin.Dict renaming updateFrom→Hl,pairItems→Hy,missed→Je
open Classical renaming choose_spec→Ij
open PySem.Around renaming under_plainId→Iw
open PySem.SeqAt.EqAt renaming bool_bool→Iy
open Or renaming inl→J1,inr→J2
open PySem.Heap.SameBut renaming update→Jd
open PySem.Paired renaming length→Ji,snoc→Mw
open Sum renaming inl→Jt,inr→Ju
open Char renaming toNat→Kb
open PySem.W.Looks renaming ld→L5
open PySem.Heap.DictOf renaming new→Le
open PySem.Shared renaming heap→Lg
open Pure renaming pure→Ll
open List.Perm renaming trans→Lo
open Function renaming comp→Mh
open PySem.Heap.UpToSlots renaming of_keeps→Mj
open PySem.MeetsSeq.EqGives renaming int→Ms
open PySem.IsRange renaming new→Mv
open PySem.Heap.IsSliceOf renaming new→Mz
open PySem.W.WShape renaming has→N0
noncomputable section
namespace KK
open PySem PySem.W
noncomputable def zRZ:List Obj->Nat->BT->Option BT
 |[],_,t=>some t
 |o::l,n,t=>match((t.ins n o).get n).isSome with
  |true=>zRZ l (n+1) (t.ins n o)
  |false=>none
theorem zKZ{life:Life}: ∀{l:List Obj} {n:Nat} {t t':BT},zRZ l n t=some t'->M8 t' (n+l.length) life=⟨(M8 t n life).objs++l.toArray,life⟩
 | [],n,t,t',h => by cases h;simp [M8]
 | o :: l,n,t,t',h => by
  unfold zRZ at h
  split at h
  ·rename_i g
   have ih:=zKZ (life:=life) h
   rw[show n+(o::l).length=n+1+l.length by simp;omega,ih,absHeap_ins g]
   simp[Heap.push]
  ·cases h
noncomputable def toT(s:A2):Option J7:=(zRZ s.heap.objs.toList 0 .nil).map fun t=>⟨t,s.heap.objs.size,s.heap.life,s.gens,s.drawn,s.toks,s.os⟩
theorem zP1{s:A2}{u:J7}(h:toT s=some u):u.abs=s:=by
 unfold toT at h
 cases e:zRZ s.heap.objs.toList 0 .nil with
 |none=>rw[e] at h;cases h
 |some t=>
  rw[e] at h
  cases h
  have:=zKZ (life:=s.heap.life) e
  simp only[Ff,Dw] at this
  obtain⟨⟨objs,life⟩,gens,drawn,toks,os⟩:=s
  show(⟨M8 t objs.size life,gens,drawn,toks,os⟩:A2)=_
  rw[this]
  simp[M8,BT.list]
noncomputable def zGR(tb:String->Option D3)(p:Aj)(w:World)(n₀:Nat)(ann:Option Value):Nat->J7->Thread->Option J7
 | 0,_,_ => none
 | n + 1,s,t => match through t with
  | true => some s
  | false => match stepOk n₀ ann t with
   |false=>none
   |true=>match stepT (denote tb) p w s t with
    |some (s',t')=>zGR tb p w n₀ ann n s' t'
    |none=>none
theorem zHJ{tb:String->Option D3}{p:Aj}{w:World}{n₀:Nat}{ann:Option Value}: ∀{n:Nat} {s s':J7} {t:Thread},zGR tb p w n₀ ann n s t=some s'->topRun tb p w n₀ ann n s.abs t=some s'.abs
 | 0,_,_,_,h => by cases h
 | n + 1,s,s',t,h => by
  unfold zGR at h
  unfold topRun
  cases ht:through t with
  | true => rw [ht] at h;cases h;rfl
  |false=>
   rw[ht] at h
   cases hk:stepOk n₀ ann t with
   |false=>rw[hk] at h;cases h
   |true=>
    rw[hk] at h
    cases hs:stepT (denote tb) p w s t with
    |none=>rw[hs] at h;cases h
    |some r=>obtain⟨s₂,t₂⟩:=r;rw[hs] at h;rw[stepT_spec hs];exact zHJ h
noncomputable def impT(tb:String->Option D3)(p:Aj)(w:World):Nat->J7->Thread->Option J7
 | 0,_,_ => none
 | n + 1,s,t => match t.atExitBegin with
  |some []=>some s
  |some (_::_)=>none
  |none=>match stepT (denote tb) p w s t with
   |some (s',t')=>impT tb p w n s' t'
   |none=>none
theorem zR4{tb:String->Option D3}{p:Aj}{w:World}: ∀{n:Nat} {s s':J7} {t:Thread},impT tb p w n s t=some s'->importEnds tb p w n s.abs t=some s'.abs
 | 0,_,_,_,h => by cases h
 | n + 1,s,s',t,h => by
  unfold impT at h
  unfold importEnds
  cases he:t.atExitBegin with
  |some x=>
   rw[he] at h
   cases x with
   |nil=>cases h;rfl
   |cons=>cases h
  |none=>
   rw[he] at h
   cases hs:stepT (denote tb) p w s t with
   |none=>rw[hs] at h;cases h
   |some r=>obtain⟨s₂,t₂⟩:=r;rw[hs] at h;dsimp only;rw[stepT_spec hs];exact zR4 h
noncomputable def zRJ(tb:String->Option D3)(p:Aj)(w:World)(N:Nat):Option A2:=
 (toT (start (L6 p)).1).bind fun u => (impT tb (L6 p) w N u (start (L6 p)).2).bind fun u1 => (fenceModules? p u1.abs).bind fun s₀ =>
 match s₀.heap.isNs mainGlobals && s₀.gens.size==0 with
 | true => (toT s₀).bind fun v => (zGR tb p w s₀.heap.objs.size (s₀.heap.nsMap mainGlobals "__annotations__") N v (topStub p)).bind fun v1 =>
  match staticsOk (Fx p.main.body) s₀.heap v1.abs.heap && namesBound p v1.abs.heap && gensDone v1.abs && laidKept s₀.heap v1.abs.heap with
   |true=>some v1.abs
   |false=>none
 |false=>none
theorem zU1{tb:String->Option D3}{p:Aj}{w:World}{N:Nat}{s:A2}(h:zRJ tb p w N=some s):M9 tb p w N=some s:=by
 unfold zRJ at h
 unfold M9 fencedOpening
 cases e1:toT (start (L6 p)).1 with
 | none => rw [e1] at h;cases h
 |some u=>
  rw[e1,A7] at h
  cases e2:impT tb (L6 p) w N u (start (L6 p)).2 with
  | none => rw [e2] at h;cases h
  |some u1=>
   rw[e2,A7] at h
   have e3:=zR4 e2
   rw[zP1 e1] at e3
   rw[e3,A7]
   cases e4:fenceModules? p u1.abs with
   | none => rw [e4] at h;cases h
   |some s₀=>
    rw[e4,A7] at h
    rw[A7]
    unfold topFrom
    cases e5:(s₀.heap.isNs mainGlobals && s₀.gens.size==0) with
    | false => rw [e5] at h;cases h
    |true=>
     rw[e5] at h
     dsimp only at h⊢
     cases e6:toT s₀ with
     | none => rw [e6] at h;cases h
     |some v=>
      rw[e6,A7] at h
      cases e7:zGR tb p w s₀.heap.objs.size (s₀.heap.nsMap mainGlobals "__annotations__") N v (topStub p) with
      |none=>rw[e7] at h;cases h
      |some v1=>
       rw[e7,A7] at h
       have e8:=zHJ e7
       rw[zP1 e6] at e8
       rw[e8,A7]
       exact h
theorem mapT{α:Type}{tb:String->Option D3}{p:Aj}{w:World}{N:Nat}{f:A2->α}{v:α}(h:(zRJ tb p w N).map f=some v):(M9 tb p w N).map f=some v:=by
 cases e:zRJ tb p w N with
 |none=>rw[e] at h;cases h
 |some s=>
  rw[e] at h
  rw[zU1 e]
  exact h
end KK
namespace RR
open PySem
def top(i:Nat):Stmt:=PySem.Challenge.pw_lanepacks_k04_running_refused.main.body.getD i (.Pass ⟨0,0,0,0⟩)
end RR
namespace KK
open PySem PySem.W PySem.Calls PyProof.Rows
def dA(s:Stmt):Arguments:=match s with
 | .FunctionDef _ a _ _ _ _ _ _ _ _=>a
 |_=>⟨[],[],none,[],[],none,[]⟩
def dB(s:Stmt):List Stmt:=match s with
 | .FunctionDef _ _ b _ _ _ _ _ _ _=>b
 |_=>[]
def dS(s:Stmt):Scope:=match s with
 | .FunctionDef _ _ _ _ _ _ c _ _ _=>c
 |_=>{kind:= .function,names:=[],isGenerator:=false,isCoroutine:=false}
abbrev s(x:Str)(t:Nat):Value:= .str x t
abbrev e(P:L7)(x:Str)(t:Nat)(v:Value):Hz:=⟨PyData.keyHash P x,s x t,v⟩
abbrev f(a i:Nat)(n:Str)(d m:Value):Nat×Obj:=(a,⟨.type "function",none,.func (fnOf n n (dA (RR.top i)) (dB (RR.top i)) (dS (RR.top i)) d .none .none m none (.ref (a - 1)) .none),#[]⟩)
abbrev co(a:Nat)(n:Str)(t:Nat)(l k:Int)(u:Nat)(x y z v:Value):Nat×Obj:=(a,⟨.type "code",none,.fields #[s n t,s n (t+1),s "/claim/cut.py" (t+2),.int l 0,.int k 0,.int 0 0,.int 0 0,.int 3 0,x,.bool true,.int 181 0,y,.none,z,v,.ref (a - 1),.int u 0,.int l 0,s "/claim/cut.py" (u+1)],#[]⟩)
abbrev c(a:Nat)(n:Str)(t:Nat)(l k:Int)(u:Nat):Nat×Obj:=co a n t l k u (.ref (a - 5)) (.ref (a - 4)) (.ref (a - 3)) (.ref (a - 2))
abbrev b(a:Nat)(n:Str)(t:Nat)(l k:Int)(u:Nat):Nat×Obj:=co a n t l k u (.ref (a - 3)) (.ref (a - 2)) .none .none
noncomputable def K(P:L7):Frag:=[(3,⟨.type "dict",none,.dict #[e P "__name__" 165 (s "law_lanepacks_k04_running_refused" 749),e P "__doc__" 166 (.none),e P "__package__" 167 (.none),e P "__loader__" 168 (.builtin "__main__.__loader__#opaque"),e P "__spec__" 169 (.none),e P "__annotations__" 170 (.ref 6),e P "__builtins__" 171 (.ref 4),e P "__file__" 173 (s "/claim/cut.py" 172),e P "__cached__" 174 (.none),e P "PackError" 206 (.ref 24),e P "NoBlock" 222 (.ref 37),e P "NoCells" 238 (.ref 49),e P "NoRow" 263 (.ref 68),e P "NoLanes" 279 (.ref 80),e P "NoPlan" 295 (.ref 92),e P "NoProgram" 311 (.ref 104),e P "NoTree" 327 (.ref 116),e P "NoLoop" 343 (.ref 128),e P "NoText" 359 (.ref 140),e P "NoName" 384 (.ref 159),e P "TooMany" 400 (.ref 171),e P "TooLong" 416 (.ref 183),e P "NotValid" 441 (.ref 202),e P "Nothing" 457 (.ref 214),e P "MOST_WORD" 461 (.int 999 460),e P "DEEDS" 469 (.ref 217),e P "is_whole" 478 (.ref 224),e P "plus" 486 (.ref 231),e P "minus" 494 (.ref 238),e P "times" 502 (.ref 245),e P "least" 510 (.ref 252),e P "most" 518 (.ref 259),e P "less" 526 (.ref 266),e P "over" 534 (.ref 273),e P "pick" 543 (.ref 280),e P "MADE" 558 (.ref 281),e P "done" 567 (.ref 288),e P "MOST_SURE" 571 (.int 64 570),e P "MOST_ROWS" 573 (.int 40 572),e P "MOST_PLACE" 575 (.int 63 574),e P "DEED_PARTS" 578 (.ref 289),e P "OTHER_PARTS" 604 (.ref 290),e P "READERS" 607 (.ref 297),e P "WRITERS" 610 (.ref 298),e P "parts_of" 617 (.ref 305),e P "makes_word" 624 (.ref 312),e P "place_of" 631 (.ref 319),e P "names_of" 637 (.ref 324),e P "may_name" 645 (.ref 331),e P "fits" 654 (.ref 338),e P "is_row" 660 (.ref 343),e P "is_block" 671 (.ref 350),e P "MOST_CELLS" 675 (.int 64 674),e P "is_cells" 681 (.ref 355),e P "touches" 689 (.ref 362),e P "do_on_cell" 699 (.ref 369),e P "do_row" 713 (.ref 377),e P "do_rows" 719 (.ref 382),e P "check_run" 727 (.ref 389),e P "run" 738 (.ref 396),e P "values" 748 (.ref 403),e P "_law_cell_at" 760 (.ref 410),e P "_law_mixed" 770 (.ref 417),e P "_law_draw" 779 (.ref 424),e P "_law_pick" 788 (.ref 431),e P "_law_place" 799 (.ref 438),e P "_law_row" 805 (.ref 443),e P "_law_rows" 819 (.ref 450),e P "_law_next" 836 (.ref 457),e P "_law_block" 842 (.ref 462),e P "_law_names" 849 (.ref 469),e P "_law_may" 855 (.ref 474),e P "_law_must" 861 (.ref 479),e P "_law_which" 869 (.ref 486),e P "_law_none" 878 (.ref 493),e P "_law_mixed_order" 884 (.ref 498),e P "_law_renamed" 890 (.ref 503),e P "_law_ask" 900 (.ref 510),e P "law" 906 (.ref 515)] 79,#[]⟩),
 (23,⟨.type "dict",none,.dict #[e P "__module__" 196 (s "lanepacks.errors" 187),e P "__firstlineno__" 200 (.int 2 199),e P "__static_attributes__" 201 (.ref 22),e P "__weakref__" 203 (.ref 25),e P "__doc__" 204 (.none)] 3,#[]⟩),
 (24,⟨.type "type",none,.cls {name:= "PackError",bases:=[.type "ValueError"],mro:=[.ref 24,.type "ValueError",.type "Exception",.type "BaseException",.type "object"],ns:=23,qualname:= "PackError",subclasses:=[.ref 37,.ref 49,.ref 68,.ref 80,.ref 92,.ref 104,.ref 116,.ref 128,.ref 140,.ref 159,.ref 171,.ref 183,.ref 202,.ref 214]},#[some (.ref 15),none,some (s "PackError" 189),some (s "PackError" 197),some (.builtin "ValueError.__new__"),some (.bool true)]⟩),
 (36,⟨.type "dict",none,.dict #[e P "__module__" 214 (s "lanepacks.errors" 187),e P "__firstlineno__" 218 (.int 4 217),e P "__static_attributes__" 219 (.ref 35),e P "__doc__" 220 (.none)] 2,#[]⟩),
 (37,⟨.type "type",none,.cls {name:= "NoBlock",bases:=[.ref 24],mro:=[.ref 37,.ref 24,.type "ValueError",.type "Exception",.type "BaseException",.type "object"],ns:=36,qualname:= "NoBlock"},#[some (.ref 28),none,some (s "NoBlock" 207),some (s "NoBlock" 215),some (.builtin "ValueError.__new__"),some (.bool true)]⟩),
 (48,⟨.type "dict",none,.dict #[e P "__module__" 230 (s "lanepacks.errors" 187),e P "__firstlineno__" 234 (.int 6 233),e P "__static_attributes__" 235 (.ref 47),e P "__doc__" 236 (.none)] 2,#[]⟩),
 (49,⟨.type "type",none,.cls {name:= "NoCells",bases:=[.ref 24],mro:=[.ref 49,.ref 24,.type "ValueError",.type "Exception",.type "BaseException",.type "object"],ns:=48,qualname:= "NoCells"},#[some (.ref 40),none,some (s "NoCells" 223),some (s "NoCells" 231),some (.builtin "ValueError.__new__"),some (.bool true)]⟩),
 (67,⟨.type "dict",none,.dict #[e P "__module__" 246 (s "lanepacks.errors" 187),e P "__firstlineno__" 250 (.int 8 249),e P "__init__" 258 (.ref 65),e P "__static_attributes__" 260 (.ref 66),e P "__doc__" 261 (.none)] 2,#[]⟩),
 (68,⟨.type "type",none,.cls {name:= "NoRow",bases:=[.ref 24],mro:=[.ref 68,.ref 24,.type "ValueError",.type "Exception",.type "BaseException",.type "object"],ns:=67,qualname:= "NoRow"},#[some (.ref 52),none,some (s "NoRow" 239),some (s "NoRow" 247),some (.builtin "ValueError.__new__"),some (.bool true)]⟩),
 (79,⟨.type "dict",none,.dict #[e P "__module__" 271 (s "lanepacks.errors" 187),e P "__firstlineno__" 275 (.int 13 274),e P "__static_attributes__" 276 (.ref 78),e P "__doc__" 277 (.none)] 2,#[]⟩),
 (80,⟨.type "type",none,.cls {name:= "NoLanes",bases:=[.ref 24],mro:=[.ref 80,.ref 24,.type "ValueError",.type "Exception",.type "BaseException",.type "object"],ns:=79,qualname:= "NoLanes"},#[some (.ref 71),none,some (s "NoLanes" 264),some (s "NoLanes" 272),some (.builtin "ValueError.__new__"),some (.bool true)]⟩),
 (91,⟨.type "dict",none,.dict #[e P "__module__" 287 (s "lanepacks.errors" 187),e P "__firstlineno__" 291 (.int 15 290),e P "__static_attributes__" 292 (.ref 90),e P "__doc__" 293 (.none)] 2,#[]⟩),
 (92,⟨.type "type",none,.cls {name:= "NoPlan",bases:=[.ref 24],mro:=[.ref 92,.ref 24,.type "ValueError",.type "Exception",.type "BaseException",.type "object"],ns:=91,qualname:= "NoPlan"},#[some (.ref 83),none,some (s "NoPlan" 280),some (s "NoPlan" 288),some (.builtin "ValueError.__new__"),some (.bool true)]⟩),
 (103,⟨.type "dict",none,.dict #[e P "__module__" 303 (s "lanepacks.errors" 187),e P "__firstlineno__" 307 (.int 17 306),e P "__static_attributes__" 308 (.ref 102),e P "__doc__" 309 (.none)] 2,#[]⟩),
 (104,⟨.type "type",none,.cls {name:= "NoProgram",bases:=[.ref 24],mro:=[.ref 104,.ref 24,.type "ValueError",.type "Exception",.type "BaseException",.type "object"],ns:=103,qualname:= "NoProgram"},#[some (.ref 95),none,some (s "NoProgram" 296),some (s "NoProgram" 304),some (.builtin "ValueError.__new__"),some (.bool true)]⟩),
 (115,⟨.type "dict",none,.dict #[e P "__module__" 319 (s "lanepacks.errors" 187),e P "__firstlineno__" 323 (.int 19 322),e P "__static_attributes__" 324 (.ref 114),e P "__doc__" 325 (.none)] 2,#[]⟩),
 (116,⟨.type "type",none,.cls {name:= "NoTree",bases:=[.ref 24],mro:=[.ref 116,.ref 24,.type "ValueError",.type "Exception",.type "BaseException",.type "object"],ns:=115,qualname:= "NoTree"},#[some (.ref 107),none,some (s "NoTree" 312),some (s "NoTree" 320),some (.builtin "ValueError.__new__"),some (.bool true)]⟩),
 (127,⟨.type "dict",none,.dict #[e P "__module__" 335 (s "lanepacks.errors" 187),e P "__firstlineno__" 339 (.int 21 338),e P "__static_attributes__" 340 (.ref 126),e P "__doc__" 341 (.none)] 2,#[]⟩),
 (128,⟨.type "type",none,.cls {name:= "NoLoop",bases:=[.ref 24],mro:=[.ref 128,.ref 24,.type "ValueError",.type "Exception",.type "BaseException",.type "object"],ns:=127,qualname:= "NoLoop"},#[some (.ref 119),none,some (s "NoLoop" 328),some (s "NoLoop" 336),some (.builtin "ValueError.__new__"),some (.bool true)]⟩),
 (139,⟨.type "dict",none,.dict #[e P "__module__" 351 (s "lanepacks.errors" 187),e P "__firstlineno__" 355 (.int 23 354),e P "__static_attributes__" 356 (.ref 138),e P "__doc__" 357 (.none)] 2,#[]⟩),
 (140,⟨.type "type",none,.cls {name:= "NoText",bases:=[.ref 24],mro:=[.ref 140,.ref 24,.type "ValueError",.type "Exception",.type "BaseException",.type "object"],ns:=139,qualname:= "NoText"},#[some (.ref 131),none,some (s "NoText" 344),some (s "NoText" 352),some (.builtin "ValueError.__new__"),some (.bool true)]⟩),
 (158,⟨.type "dict",none,.dict #[e P "__module__" 367 (s "lanepacks.errors" 187),e P "__firstlineno__" 371 (.int 25 370),e P "__init__" 379 (.ref 156),e P "__static_attributes__" 381 (.ref 157),e P "__doc__" 382 (.none)] 2,#[]⟩),
 (159,⟨.type "type",none,.cls {name:= "NoName",bases:=[.ref 24],mro:=[.ref 159,.ref 24,.type "ValueError",.type "Exception",.type "BaseException",.type "object"],ns:=158,qualname:= "NoName"},#[some (.ref 143),none,some (s "NoName" 360),some (s "NoName" 368),some (.builtin "ValueError.__new__"),some (.bool true)]⟩),
 (170,⟨.type "dict",none,.dict #[e P "__module__" 392 (s "lanepacks.errors" 187),e P "__firstlineno__" 396 (.int 30 395),e P "__static_attributes__" 397 (.ref 169),e P "__doc__" 398 (.none)] 2,#[]⟩),
 (171,⟨.type "type",none,.cls {name:= "TooMany",bases:=[.ref 24],mro:=[.ref 171,.ref 24,.type "ValueError",.type "Exception",.type "BaseException",.type "object"],ns:=170,qualname:= "TooMany"},#[some (.ref 162),none,some (s "TooMany" 385),some (s "TooMany" 393),some (.builtin "ValueError.__new__"),some (.bool true)]⟩),
 (182,⟨.type "dict",none,.dict #[e P "__module__" 408 (s "lanepacks.errors" 187),e P "__firstlineno__" 412 (.int 32 411),e P "__static_attributes__" 413 (.ref 181),e P "__doc__" 414 (.none)] 2,#[]⟩),
 (183,⟨.type "type",none,.cls {name:= "TooLong",bases:=[.ref 24],mro:=[.ref 183,.ref 24,.type "ValueError",.type "Exception",.type "BaseException",.type "object"],ns:=182,qualname:= "TooLong"},#[some (.ref 174),none,some (s "TooLong" 401),some (s "TooLong" 409),some (.builtin "ValueError.__new__"),some (.bool true)]⟩),
 (201,⟨.type "dict",none,.dict #[e P "__module__" 424 (s "lanepacks.errors" 187),e P "__firstlineno__" 428 (.int 34 427),e P "__init__" 436 (.ref 199),e P "__static_attributes__" 438 (.ref 200),e P "__doc__" 439 (.none)] 2,#[]⟩),
 (202,⟨.type "type",none,.cls {name:= "NotValid",bases:=[.ref 24],mro:=[.ref 202,.ref 24,.type "ValueError",.type "Exception",.type "BaseException",.type "object"],ns:=201,qualname:= "NotValid"},#[some (.ref 186),none,some (s "NotValid" 417),some (s "NotValid" 425),some (.builtin "ValueError.__new__"),some (.bool true)]⟩),
 (213,⟨.type "dict",none,.dict #[e P "__module__" 449 (s "lanepacks.errors" 187),e P "__firstlineno__" 453 (.int 39 452),e P "__static_attributes__" 454 (.ref 212),e P "__doc__" 455 (.none)] 2,#[]⟩),
 (214,⟨.type "type",none,.cls {name:= "Nothing",bases:=[.ref 24],mro:=[.ref 214,.ref 24,.type "ValueError",.type "Exception",.type "BaseException",.type "object"],ns:=213,qualname:= "Nothing"},#[some (.ref 205),none,some (s "Nothing" 442),some (s "Nothing" 450),some (.builtin "ValueError.__new__"),some (.bool true)]⟩),
 (217,⟨.type "tuple",none,.seq #[s "plus" 462,s "minus" 463,s "times" 464,s "least" 465,s "most" 466,s "less" 467,s "over" 468] 0,#[]⟩),
 f 224 19 "is_whole" (.none) (s "lanepacks.words" 458),
 c 223 "is_whole" 470 44 3 476,
 f 231 20 "plus" (.none) (s "lanepacks.words" 458),
 c 230 "plus" 479 48 2 484,
 f 238 21 "minus" (.none) (s "lanepacks.words" 458),
 c 237 "minus" 487 50 2 492,
 f 245 22 "times" (.none) (s "lanepacks.words" 458),
 c 244 "times" 495 52 2 500,
 f 252 23 "least" (.none) (s "lanepacks.words" 458),
 c 251 "least" 503 54 2 508,
 f 259 24 "most" (.none) (s "lanepacks.words" 458),
 c 258 "most" 511 56 2 516,
 f 266 25 "less" (.none) (s "lanepacks.words" 458),
 c 265 "less" 519 58 2 524,
 f 273 26 "over" (.none) (s "lanepacks.words" 458),
 c 272 "over" 527 60 2 532,
 f 280 27 "pick" (.none) (s "lanepacks.words" 458),
 c 279 "pick" 535 62 3 541,
 (281,⟨.type "dict",none,.dict #[e P "plus" 544 (.ref 231),e P "minus" 545 (.ref 238),e P "times" 546 (.ref 245),e P "least" 547 (.ref 252),e P "most" 548 (.ref 259),e P "less" 549 (.ref 266),e P "over" 550 (.ref 273)] 7,#[]⟩),
 f 288 29 "done" (.none) (s "lanepacks.words" 458),
 c 287 "done" 559 65 2 565,
 (289,⟨.type "tuple",none,.seq #[s "row" 576,s "row" 577] 0,#[]⟩),
 (290,⟨.type "dict",none,.dict #[e P "number" 579 (.ref 291),e P "pick" 581 (.ref 292),e P "load" 585 (.ref 293),e P "take" 587 (.ref 294),e P "store" 591 (.ref 295),e P "put" 594 (.ref 296)] 6,#[]⟩),
 (291,⟨.type "tuple",none,.seq #[s "word" 580] 0,#[]⟩),
 (292,⟨.type "tuple",none,.seq #[s "row" 582,s "row" 583,s "row" 584] 0,#[]⟩),
 (293,⟨.type "tuple",none,.seq #[s "place" 586] 0,#[]⟩),
 (294,⟨.type "tuple",none,.seq #[s "place" 588,s "row" 589,s "row" 590] 0,#[]⟩),
 (295,⟨.type "tuple",none,.seq #[s "place" 592,s "row" 593] 0,#[]⟩),
 (296,⟨.type "tuple",none,.seq #[s "place" 595,s "row" 596,s "row" 597] 0,#[]⟩),
 (297,⟨.type "tuple",none,.seq #[s "load" 605,s "take" 606] 0,#[]⟩),
 (298,⟨.type "tuple",none,.seq #[s "store" 608,s "put" 609] 0,#[]⟩),
 f 305 38 "parts_of" (.none) (s "lanepacks.blocks" 568),
 c 304 "parts_of" 611 78 1 615,
 f 312 39 "makes_word" (.none) (s "lanepacks.blocks" 568),
 c 311 "makes_word" 618 82 1 622,
 f 319 40 "place_of" (.none) (s "lanepacks.blocks" 568),
 c 318 "place_of" 625 84 1 629,
 f 324 41 "names_of" (.none) (s "lanepacks.blocks" 568),
 b 323 "names_of" 632 86 1 635,
 f 331 42 "may_name" (.none) (s "lanepacks.blocks" 568),
 c 330 "may_name" 638 89 2 643,
 f 338 43 "fits" (.none) (s "lanepacks.blocks" 568),
 c 337 "fits" 646 91 3 652,
 f 343 44 "is_row" (.none) (s "lanepacks.blocks" 568),
 b 342 "is_row" 655 97 2 658,
 f 350 45 "is_block" (.none) (s "lanepacks.blocks" 568),
 c 349 "is_block" 661 105 1 669,
 f 355 48 "is_cells" (.none) (s "lanepacks.running" 672),
 b 354 "is_cells" 676 121 2 679,
 f 362 49 "touches" (.none) (s "lanepacks.running" 672),
 c 361 "touches" 682 125 2 687,
 f 369 50 "do_on_cell" (.none) (s "lanepacks.running" 672),
 c 368 "do_on_cell" 690 131 4 697,
 (370,⟨.type "tuple",none,.seq #[.int 0 700] 0,#[]⟩),
 f 377 51 "do_row" (.ref 370) (s "lanepacks.running" 672),
 c 376 "do_row" 701 140 4 711,
 f 382 52 "do_rows" (.none) (s "lanepacks.running" 672),
 b 381 "do_rows" 714 149 2 717,
 f 389 53 "check_run" (.none) (s "lanepacks.running" 672),
 c 388 "check_run" 720 157 2 725,
 f 396 54 "run" (.none) (s "lanepacks.running" 672),
 c 395 "run" 728 162 2 736,
 f 403 55 "values" (.none) (s "lanepacks.running" 672),
 c 402 "values" 739 167 2 746,
 f 410 57 "_law_cell_at" (.none) (s "law_lanepacks_k04_running_refused" 749),
 c 409 "_law_cell_at" 751 172 2 758,
 f 417 58 "_law_mixed" (.none) (s "law_lanepacks_k04_running_refused" 749),
 c 416 "_law_mixed" 761 181 3 768,
 f 424 59 "_law_draw" (.none) (s "law_lanepacks_k04_running_refused" 749),
 c 423 "_law_draw" 771 184 3 777,
 f 431 60 "_law_pick" (.none) (s "law_lanepacks_k04_running_refused" 749),
 c 430 "_law_pick" 780 187 3 786,
 f 438 61 "_law_place" (.none) (s "law_lanepacks_k04_running_refused" 749),
 c 437 "_law_place" 789 189 5 797,
 f 443 62 "_law_row" (.none) (s "law_lanepacks_k04_running_refused" 749),
 b 442 "_law_row" 800 192 5 803,
 f 450 63 "_law_rows" (.none) (s "law_lanepacks_k04_running_refused" 749),
 c 449 "_law_rows" 806 210 4 817,
 f 457 64 "_law_next" (.none) (s "law_lanepacks_k04_running_refused" 749),
 c 456 "_law_next" 820 222 6 834,
 f 462 65 "_law_block" (.none) (s "law_lanepacks_k04_running_refused" 749),
 b 461 "_law_block" 837 233 3 840,
 f 469 66 "_law_names" (.none) (s "law_lanepacks_k04_running_refused" 749),
 c 468 "_law_names" 843 242 1 847,
 f 474 67 "_law_may" (.none) (s "law_lanepacks_k04_running_refused" 749),
 b 473 "_law_may" 850 246 2 853,
 f 479 68 "_law_must" (.none) (s "law_lanepacks_k04_running_refused" 749),
 b 478 "_law_must" 856 251 1 859,
 f 486 69 "_law_which" (.none) (s "law_lanepacks_k04_running_refused" 749),
 c 485 "_law_which" 862 263 1 867,
 f 493 70 "_law_none" (.none) (s "law_lanepacks_k04_running_refused" 749),
 c 492 "_law_none" 870 271 2 876,
 f 498 71 "_law_mixed_order" (.none) (s "law_lanepacks_k04_running_refused" 749),
 b 497 "_law_mixed_order" 879 278 3 882,
 f 503 72 "_law_renamed" (.none) (s "law_lanepacks_k04_running_refused" 749),
 b 502 "_law_renamed" 885 285 2 888,
 f 510 73 "_law_ask" (.none) (s "law_lanepacks_k04_running_refused" 749),
 c 509 "_law_ask" 891 290 3 898,
 f 515 74 "law" (.none) (s "law_lanepacks_k04_running_refused" 749),
 b 514 "law" 901 295 1 904]
noncomputable def A:List Nat:=[3,23,24,36,37,48,49,67,68,79,80,91,92,103,104,115,116,127,128,139,140,158,159,170,171,182,183,201,202,213,214,217,224,223,231,230,238,237,245,244,252,251,259,258,266,265,273,272,280,279,281,288,287,289,290,291,292,293,294,295,296,297,298,305,304,312,311,319,318,324,323,331,330,338,337,343,342,350,349,355,354,362,361,369,368,370,377,376,382,381,389,388,396,395,403,402,410,409,417,416,424,423,431,430,438,437,443,442,450,449,457,456,462,461,469,468,474,473,479,478,486,485,493,492,498,497,503,502,510,509,515,514]
noncomputable def view:Aj:={Gk with main:={PySem.Challenge.pw_lanepacks_k04_running_refused.main with body:=[1,2,3,4,5,6,7,8,9,10,11,12,13,14,15,17,18,19,20,21,22,23,24,25,26,27,28,29,31,32,33,34,35,36,37,38,39,40,41,42,43,44,45,47,48,49,50,52,53,54,55,57,58,59,60,61,62,63,64,65,66,67,68,69,70,71,72,73,74].map RR.top}}
abbrev lo:List Str:=["MADE","OTHER_PARTS","do_row"]
theorem kA(P:L7):A=(K P).map (·.1):=by kernel_rfl
noncomputable def X(s:A2):Bool:=xlAt view [] s && recOk (RowW.records (OpenRow.toRowW PySem.Challenge.rw_lanepacks_k04_running_refused.row)) s
noncomputable abbrev H:Hook:=kHook K A kA
abbrev pr:Aj:=PySem.Challenge.rw_lanepacks_k04_running_refused.row.prog
abbrev go(w:World)(b:Bool):Option A2:=zRJ treeTable pr (w.withFollow "special-get-raises" b) 10062
noncomputable abbrev fA(s:A2):=seen ((recsOf view).map (·.name)) (ownsOf view) [] {s with gens:= #[]}
noncomputable abbrev fB(s:A2):=(s.heap.bltView,tabsOk view s)
noncomputable abbrev fC(s:A2):Bool:=s.heap.keysOk (Lz view lo) ((recsOf view).map (·.name)) ((litsOf view).map (·.1)) ((clssOf view (Lz view lo)).map (·.name)) && s.heap.accountedOkI (Fx pr.main.body) && s.heap.isNs mainGlobals && s.heap.isNs builtinsNs && tablesOk view s.heap && X s && (if true then s.gens.size==0 else !leftWithCleanup s.gens)
noncomputable abbrev fD(s:A2):=(pinSeenD view (Ma view) s,plainSeenE view (Lz view lo) s,plainSeenD view lo s,wideSeen view s,clsSeenW view lo s,H.obs s)
set_option maxRecDepth 100000 in
set_option maxHeartbeats 0 in
theorem rAf(w:World):(go w false).map fA=some (M0 view):=by kernel_rfl
set_option maxRecDepth 100000 in
set_option maxHeartbeats 0 in
theorem rBf(w:World):(go w false).map fB=some ((Jh,true)):=by kernel_rfl
set_option maxRecDepth 100000 in
set_option maxHeartbeats 0 in
theorem rCf(w:World):(go w false).map fC=some (true):=by kernel_rfl
set_option maxRecDepth 100000 in
set_option maxHeartbeats 0 in
theorem rDf(w:World):(go w false).map fD=some ((pinGoodD (Ma view),M3 view (Lz view lo),M4 view lo,wideGood view,clsGoodW view lo,H.val (w.withFollow "special-get-raises" false))):=by kernel_rfl
set_option maxRecDepth 100000 in
set_option maxHeartbeats 0 in
theorem rAt(w:World):(go w true).map fA=some (M0 view):=by kernel_rfl
set_option maxRecDepth 100000 in
set_option maxHeartbeats 0 in
theorem rBt(w:World):(go w true).map fB=some ((Jh,true)):=by kernel_rfl
set_option maxRecDepth 100000 in
set_option maxHeartbeats 0 in
theorem rCt(w:World):(go w true).map fC=some (true):=by kernel_rfl
set_option maxRecDepth 100000 in
set_option maxHeartbeats 0 in
theorem rDt(w:World):(go w true).map fD=some ((pinGoodD (Ma view),M3 view (Lz view lo),M4 view lo,wideGood view,clsGoodW view lo,H.val (w.withFollow "special-get-raises" true))):=by kernel_rfl
theorem jn{o:Option A2}{v:H.α}(ha:o.map fA=some (M0 view))(hb:o.map fB=some (Jh,true))(hc:o.map fC=some true)(hd:o.map fD=some (pinGoodD (Ma view),M3 view (Lz view lo),M4 view lo,wideGood view,clsGoodW view lo,v)):
  o.map (fun s=>(openSeen view lo (Fx pr.main.body) X true s,H.obs s))=some (openGood view lo,v):=by
 cases o with
 |none=>cases ha
 |some s=>
  have ea:fA s=_:=B6 ha
  have eb:fB s=_:=B6 hb
  have ec:fC s=_:=B6 hc
  have ed:fD s=_:=B6 hd
  obtain⟨b1,b2⟩:=Fy eb
  obtain⟨d1,ed⟩:=Fy ed
  obtain⟨d2,ed⟩:=Fy ed
  obtain⟨d3,ed⟩:=Fy ed
  obtain⟨d4,ed⟩:=Fy ed
  obtain⟨d5,d6⟩:=Fy ed
  show some ((fA s,s.heap.bltView,fC s,tabsOk view s,pinSeenD view (Ma view) s,plainSeenE view (Lz view lo) s,plainSeenD view lo s,wideSeen view s,clsSeenW view lo s),H.obs s)=_
  rw[ea,b1,ec,b2,d1,d2,d3,d4,d5,d6]
  rfl
theorem hl:LeftO pr view lo X H.obs H.val 10062:=fun w=>byRow2 "special-get-raises" (P:=fun w=>(M9 treeTable pr w 10062).map (fun s=>(openSeen view lo (Fx pr.main.body) X true s,H.obs s))=some (openGood view lo,H.val w)) (fun w=>jn (mapT (rAf w)) (mapT (rBf w)) (mapT (rCf w)) (mapT (rDf w))) (fun w=>jn (mapT (rAt w)) (mapT (rBt w)) (mapT (rCt w)) (mapT (rDt w))) w
set_option maxRecDepth 100000 in
set_option maxHeartbeats 0 in
theorem said:PySem.Challenge.rw_lanepacks_k04_running_refused.wellSaid=true:=by kernel_rfl
end KK
namespace L2
open PySem PySem.Spec PyProof.Rows
abbrev Key:=Sum Int Str
noncomputable def zO2:Key->Value->Bool
 | .inl k,v=>Mt k v
 | .inr x,v=>Mb x v
noncomputable def keyH(w:World):Key->Int
 | .inl k=>hashInt k
 | .inr x=>hashStr w x
theorem zBJ: ∀{k:Key} {v:Value},zO2 k v=true->(∃i t,k=Jt i/\v=L8 i t)∨(∃x t,k=Ju x/\v=L9 x t)
 | .inl i,v,h=>by
  obtain⟨t,e⟩:=Value.isInt_shape (k:=i) (v:=v) h
  exact .inl ⟨i,t,rfl,e⟩
 | .inr x,v,h=>by
  obtain⟨t,e⟩:=Value.isStrOf_shape (x:=x) (v:=v) h
  exact .inr ⟨x,t,rfl,e⟩
theorem zQZ(i:Int)(t:Tok):zO2 (.inl i) (.int i t)=true:=by simp[zO2,Mt]
theorem zQY(x:Str)(t:Tok):zO2 (.inr x) (.str x t)=true:=by simp[zO2,Mb]
theorem yBZ(a b:Int):decide ((Jt a:Key)=Jt b)=(a==b):=by
 by_cases e:a=b
 ·subst e;simp
 ·have h : ¬ (Jt a : Key) = Jt b := fun q => e (Sum.inl.inj q)
  rw[decide_eq_false h]
  exact(beq_eq_false_iff_ne.mpr e).symm
theorem yBW(a b:Str):decide ((Ju a:Key)=Ju b)=decide (a=b):=by
 by_cases e:a=b
 ·subst e;simp
 ·have h : ¬ (Ju a : Key) = Ju b := fun q => e (Sum.inr.inj q)
  rw[decide_eq_false h,decide_eq_false e]
theorem yBY(a:Int)(b:Str):decide ((Jt a:Key)=Ju b)=false:=decide_eq_false (fun q=>nomatch q)
theorem yBX(a:Str)(b:Int):decide ((Ju a:Key)=Jt b)=false:=decide_eq_false (fun q=>nomatch q)
noncomputable def zB8(prog:Aj)(w:World):PySem.KeyKind prog w Key where
 is:=zO2
 hash:=keyH w
 inj:=fun v a b ha hb=>by
  rcases zBJ ha with⟨i,t,rfl,rfl⟩|⟨x,t,rfl,rfl⟩
  ·rcases zBJ hb with⟨j,u,rfl,e⟩|⟨y,u,rfl,e⟩
   ·injection e with e1 _;rw[e1]
   ·exact nomatch e
  ·rcases zBJ hb with⟨j,u,rfl,e⟩|⟨y,u,rfl,e⟩
   ·exact nomatch e
   ·injection e with e1 _;rw[e1]
 byValue:=fun k v h=>by
  rcases zBJ h with⟨i,t,rfl,rfl⟩|⟨x,t,rfl,rfl⟩<;>rfl
 pyHash:=fun hv h=>by
  rcases zBJ hv with⟨i,t,rfl,rfl⟩|⟨x,t,rfl,rfl⟩
  ·exact wpAny_pyHash_int h
  ·exact wpAny_pyHash_str h
 eqBool:=fun hu hv h=>by
  rcases zBJ hu with⟨i,t,rfl,rfl⟩|⟨x,t,rfl,rfl⟩
  ·rcases zBJ hv with⟨j,u,rfl,rfl⟩|⟨y,u,rfl,rfl⟩
   ·rw[yBZ] at h;exact Hm h
   ·rw[yBY] at h;exact SeqAt.EqAt.int_str i t y u _ _ _ _ h
  ·rcases zBJ hv with⟨j,u,rfl,rfl⟩|⟨y,u,rfl,rfl⟩
   ·rw[yBX] at h;exact SeqAt.EqAt.str_int x t j u _ _ _ _ h
   ·rw[yBW] at h;exact wpAny_eqBool_str h
 «strs» :=fun k x t v h=>by
  rcases zBJ h with⟨i,u,rfl,e⟩|⟨y,u,rfl,e⟩
  ·exact nomatch e
  ·injection e with e1 _
   subst e1
   cases v<;>rfl
theorem zLN(prog:Aj)(w:World)(i:Int)(t:Tok):(zB8 prog w).is (.inl i) (.int i t)=true:=zQZ i t
theorem zLM(prog:Aj)(w:World)(x:Str)(t:Tok):(zB8 prog w).is (.inr x) (.str x t)=true:=zQY x t
inductive V where
 |non|bl (b:Bool)|int (i:Int)|str (x:Str)|byt (b:Array UInt8)|flt (b:UInt64)|ref (a:Addr)|ty (n:String)
 deriving DecidableEq
def RelV:V->Value->Prop
 | .non,u=>u=Value.none
 | .bl b,u=>u=Eg b
 | .int i,u=> ∃t,u=L8 i t
 | .str x,u=> ∃t,u=L9 x t
 | .byt b,u=> ∃t,u=Value.bytes b t
 | .flt b,u=> ∃t,u=Mu b t
 | .ref a,u=>u=Av a
 | .ty n,u=>u=Gx n
abbrev Vals:List V->List Value->Prop:=Paired RelV
theorem Vals.length{xs:List V}{us:List Value}(r:Vals xs us):xs.length=us.length:=Ji r
theorem Vals.get: ∀{xs:List V} {us:List Value} {i:Nat} {x:V},Vals xs us->xs[i]? =some x-> ∃u,us[i]? =some u/\RelV x u
 |_,_,_,_,.nil,e=>by simp at e
 |_,_,0,_,.cons r _,e=>by simp at e;subst e;exact⟨_,rfl,r⟩
 |_,_,i+1,x,.cons _ t,e=>by
  obtain⟨u,h1,h2⟩:=Vals.get (i:=i) (x:=x) t (by simpa using e)
  exact⟨u,by simpa using h1,h2⟩
theorem Vals.set{x:V}{u:Value}(r:RelV x u): ∀{xs:List V} {us:List Value} (i:Nat),Vals xs us->Vals (xs.set i x) (us.set i u)
 |_,_,_,.nil=> .nil
 |_,_,0,.cons _ t=> .cons r t
 |_,_,i+1,.cons q t=> .cons q (Vals.set r i t)
theorem Vals.append: ∀{xs ys:List V} {us ws:List Value},Vals xs us->Vals ys ws->Vals (xs++ys) (us++ws)
 |_,_,_,_,.nil,s=>s
 |_,_,_,_,.cons r t,s=> .cons r (Vals.append t s)
theorem Vals.take: ∀{xs:List V} {us:List Value} (n:Nat),Vals xs us->Vals (xs.take n) (us.take n)
 |_,_,0,_=> .nil
 |_,_,_+1,.nil=> .nil
 |_,_,n+1,.cons r t=> .cons r (Vals.take n t)
theorem Vals.drop: ∀{xs:List V} {us:List Value} (n:Nat),Vals xs us->Vals (xs.drop n) (us.drop n)
 |_,_,0,r=>r
 |_,_,_+1,.nil=> .nil
 |_,_,n+1,.cons _ t=>Vals.drop n t
def RelO:Option V->Option Value->Prop
 |some v,some u=>RelV v u
 |none,none=>True
 |_,_=>False
def KV{κ:Type}:List (κ×V)->List (κ×Value)->Prop:=Paired fun(p:κ×V) (q:κ×Value)=>p.1=q.1/\RelV p.2 q.2
noncomputable def kV:Key->V
 | .inl i=> .int i
 | .inr x=> .str x
inductive HO where
 |lst (xs:List V)
 |tup (xs:List V)
 |dK (kvs:List (Key×V))|dT (kvs:List (List Key×V))
 |set (S:Int->Bool) (n:Nat)
 |ins (C dx:Addr) (fs:List (Str×V))
 |own (x:Addr)
 |xd (fs:List (Str×V))
 |met (f x:Addr)
 |rng (lo hi:Int)
 |frz (o:Obj) (u:HO)
 |tbl (ps:Array Value)
 |ext (φ:Heap->Prop)
abbrev Hp:=Addr->Option HO
noncomputable def upd(H:Hp)(a:Addr)(o:HO):Hp:=fun b=>if b=a then some o else H b
theorem zAG{H:Hp}{a:Addr}{o:HO}:upd H a o a=some o:=by unfold upd;rw[if_pos rfl]
theorem zAU{H:Hp}{a b:Addr}{o:HO}(h:b≠a):upd H a o b=H b:=by unfold upd;rw[if_neg h]
theorem yF5{H:Hp}{a b:Addr}{o u:HO}(h:H a=some o)(h':H b=some u)(d:o≠u):a≠b:=by intro e;subst e;rw[h] at h';exact d (B6 h')
theorem zCO{H:Hp}{a b:Addr}{o:HO}(h:H a=some o)(h':H b=none):a≠b:=by intro e;subst e;rw[h] at h';cases h'
section
variable(P:Aj)(w:World)
def zC6(H:Hp)(h:Heap)(a:Addr):HO->Prop
 | .lst xs => xs.length <= sizeLine /\ ∃ (its : List Value) (n : Nat),Vals xs its /\ h.get? a = some { cls := .type "list",data := .seq its.toArray n }
 | .tup xs => xs.length <= sizeLine /\ ∃ its : List Value,Vals xs its /\ IsTup h a its.toArray
 | .dK kvs => kvs.length <= sizeLine /\ (a == Dc) = false /\ ∃ vs,KV kvs vs /\ h.DictOf (zB8 P w) a vs
 | .dT kvs => kvs.length <= sizeLine /\ (a == Dc) = false /\ ∃ xs : List (List Key × Addr × Value),
   Paired (fun(p:List Key×V) (q:List Key×Addr×Value)=>p.1=q.1/\H q.2.1=some (.tup (p.1.map kV))/\RelV p.2 q.2.2) kvs xs∧
   ∃o es ep,h.get? a=some o/\o.ExactDict/\o.data= .dict es ep/\es.toList=xs.map (entryOfKey (tupleKind (zB8 P w)))/\(xs.map (·.1)).Nodup
 | .set S n => h.SetOf (intKind P w) a S n
 | .ins C dx fs => H dx = some (.own a) /\ fs.length <= 1000 /\ dx ≠ a /\ h.get? a = some (Ml C dx) ∧
   ∃mA,h.Ns1 dx mA/\(∀f,RelO (fs.lookup f) (mA f))/\Mm mA (fs.map (·.1))
 | .own _=> ∃o,h.get? a=some o
 | .xd fs=> ∃mA,h.Ns1 a mA/\ ∀f,RelO (fs.lookup f) (mA f)
 | .rng lo hi=> ∃t u v,h.get? a=some {cls:= .type "range",data:= .fields #[.int lo t,.int hi u,.int 1 v]}
 | .frz o u=>h.get? a=some o/\zC6 H h a u
 | .tbl ps=>h.get? a=some {cls:= .none,data:= .fields ps}
 | .met f x=>h.get? a=some (La (.ref f) (.ref x))
 | .ext φ=>φ h/\(∃o,h.get? a=some o)/\ ∀h1 h2:Heap,φ h1->(∀o,h1.get? a=some o->h2.get? a=some o)->φ h2
def HOk(H:Hp)(h:Heap):Prop:= ∀a o,H a=some o->zC6 P w H h a o
end
section
variable{P:Aj}{w:World}{H H':Hp}{h h':Heap}{a:Addr}{o:HO}
theorem zC6.lt(x:zC6 P w H h a o):a<h.objs.size:=by
 cases o with
 |lst xs=>obtain⟨_,_,_,_,e⟩:=x;exact Ae e
 |tup xs=>obtain⟨_,_,_,p⟩:=x;exact p.lt
 |dK kvs=>obtain⟨_,_,_,_,o,_,_,e,_⟩:=x;exact Ae e
 |dT kvs=>obtain⟨_,_,_,_,o,_,_,e,_⟩:=x;exact Ae e
 |set S n=>obtain⟨o,_,_,_,e,_⟩:=x;exact Ae e
 |ins C dx fs=>obtain⟨_,_,_,e,_⟩:=x;exact Ae e
 |own y=>obtain⟨_,e⟩:=x;exact Ae e
 |xd fs=>obtain⟨_,⟨_,_,_,e,_⟩,_⟩:=x;exact Ae e
 |rng lo hi=>obtain⟨_,_,_,e⟩:=x;exact Ae e
 |frz ob u=>obtain⟨e,_⟩:=x;exact Ae e
 |tbl ps=>exact Ae (show h.get? a=some _ from x)
 |met f y=>exact Ae (show h.get? a=some _ from x)
 |ext φ=>obtain⟨_,⟨_,e⟩,_⟩:=x;exact Ae e
theorem Paired.mapP{α β:Type}{F G:α->β->Prop}: ∀{l₁:List α} {l₂:List β},Paired F l₁ l₂->(∀a b,F a b->G a b)->Paired G l₁ l₂
 |_,_,.nil,_=> .nil
 |_,_,.cons r t,f=> .cons (f _ _ r) (Paired.mapP t f)
theorem zC6.stay(x:zC6 P w H h a o)(k: ∀b u,(b=a∨H b=some (.own a))->h.get? b=some u->h'.get? b=some u)
  (ho: ∀b,H b=some (.own a)->H' b=some (.own a)) (ht: ∀b xs,H b=some (.tup xs)->H' b=some (.tup xs)):zC6 P w H' h' a o:=by
 induction o with
 |lst xs=>obtain⟨z,its,n,r,e⟩:=x;exact⟨z,its,n,r,k _ _ (.inl rfl) e⟩
 |tup xs=>obtain⟨z,its,r,ob,e,c⟩:=x;exact⟨z,its,r,ob,k _ _ (.inl rfl) e,c⟩
 |dK kvs=>obtain⟨z,y,vs,r,ob,es,ep,e,c⟩:=x;exact⟨z,y,vs,r,ob,es,ep,k _ _ (.inl rfl) e,c⟩
 |dT kvs=>
  obtain⟨z,y,xs,r,ob,es,ep,e,c⟩:=x
  exact⟨z,y,xs,Paired.mapP r fun p q z=>⟨z.1,ht _ _ z.2.1,z.2.2⟩,ob,es,ep,k _ _ (.inl rfl) e,c⟩
 |set S n=>obtain⟨ob,es,ep,t,e,c⟩:=x;exact⟨ob,es,ep,t,k _ _ (.inl rfl) e,c⟩
 |ins C dx fs=>
  obtain⟨d,z,ne,e,mA,⟨od,es,ep,e2,c⟩,r⟩:=x
  exact⟨ho _ d,z,ne,k _ _ (.inl rfl) e,mA,⟨od,es,ep,k _ _ (.inr d) e2,c⟩,r⟩
 |own y=>obtain⟨ob,e⟩:=x;exact⟨ob,k _ _ (.inl rfl) e⟩
 |xd fs=>obtain⟨mA,⟨od,es,ep,e,c⟩,r⟩:=x;exact⟨mA,⟨od,es,ep,k _ _ (.inl rfl) e,c⟩,r⟩
 |rng lo hi=>obtain⟨t,u,v,e⟩:=x;exact⟨t,u,v,k _ _ (.inl rfl) e⟩
 |frz ob u ih=>obtain⟨e,q⟩:=x;exact⟨k _ _ (.inl rfl) e,ih q⟩
 |tbl ps=>
  have e:h.get? a=some {cls:= .none,data:= .fields ps}:=x
  show h'.get? a=some {cls:= .none,data:= .fields ps}
  exact k a _ (.inl rfl) e
 |met f y=>
  have e:h.get? a=some (La (.ref f) (.ref y)):=x
  show h'.get? a=some (La (.ref f) (.ref y))
  exact k a _ (.inl rfl) e
 |ext φ=>obtain⟨p,⟨o,e⟩,st⟩:=x;exact⟨st _ _ p fun o q=>k _ _ (.inl rfl) q,⟨o,k _ _ (.inl rfl) e⟩,st⟩
theorem HOk.lt(x:HOk P w H h)(e:H a=some o):a<h.objs.size:=(x a o e).lt
theorem HOk.fresh(x:HOk P w H h)(e:h.objs.size<=a):H a=none:=by
 cases q:H a with
 |none=>rfl
 |some u=>exact absurd (Al (x.lt q) e) (Bj _)
theorem HOk.kept(x:HOk P w H h)(k: ∀b u,h.get? b=some u->h'.get? b=some u):HOk P w H h':=fun a o e=>
 (x a o e).stay (fun b u _ q=>k b u q) (fun _ q=>q) fun _ _ q=>q
theorem HOk.laid(x:HOk P w H h)(k: ∀b u,h.get? b=some u->h'.get? b=some u)(hp:h.objs.size<=a)(new:zC6 P w (upd H a o) h' a o):HOk P w (upd H a o) h':=fun b u e=>by
 have hn:=x.fresh hp
 by_cases hb:b=a
 ·subst hb;rw[zAG] at e;cases e;exact new
 ·rw[zAU hb] at e
  exact(x b u e).stay (fun c v _ q=>k c v q) (fun c q=>by rw[zAU (zCO q hn)];exact q) fun c xs q=>by rw[zAU (zCO q hn)];exact q
end
def Rd(H:Hp)(a:Addr)(u:HO):Prop:=H a=some u∨ ∃o,H a=some (.frz o u)
theorem Rd.ok{P:Aj}{w:World}{H:Hp}{h:Heap}{a:Addr}{u:HO}(r:Rd H a u)(x:HOk P w H h):zC6 P w H h a u:=by
 rcases r with r|⟨o,r⟩
 ·exact x a u r
 ·obtain⟨_,q⟩:=x a _ r
  exact q
def Mut:Option HO->Prop
 |some (.lst _)=>True
 |some (.dK _)=>True
 |some (.dT _)=>True
 |some (.set _ _)=>True
 |some (.ins _ _ _)=>True
 |some (.ext _)=>True
 |_=>False
section
variable{P:Aj}{w:World}{H:Hp}{h h':Heap}{x e:Addr}{o':HO}
theorem HOk.write(ok:HOk P w H h)(mu:Mut (H x))(he:e=x∨H e=some (.own x))(k: ∀b u,b≠e->h.get? b=some u->h'.get? b=some u)(heo: ∃u,h'.get? e=some u)
  (new : zC6 P w (upd H x o') h' x o') : HOk P w (upd H x o') h' := fun b u q => by
 have m7: ∀c y,H c=some (.own y)->c≠x:=fun c y r z=>by subst z;rw[r] at mu;exact mu
 have o6: ∀c xs,H c=some (.tup xs)->c≠x:=fun c xs r z=>by subst z;rw[r] at mu;exact mu
 by_cases hb:b=x
 ·subst hb;rw[zAG] at q;cases q;exact new
 ·rw[zAU hb] at q
  by_cases hbe:b=e
  ·have q':H b=some (.own x):=by
    rcases he with z|z
    ·exact absurd (hbe.trans z) hb
    ·rw[hbe];exact z
   rw[q] at q';cases q'
   obtain⟨v,hv⟩:=heo
   exact⟨v,by rw[hbe];exact hv⟩
  ·refine (ok b u q).stay (fun c v hc r => k c v ?_ r) (fun c r => by rw [zAU (m7 c b r)];exact r) fun c xs r => by rw [zAU (o6 c xs r)];exact r
   rcases hc with rfl|hc
   ·exact hbe
   ·rintro rfl
    rcases he with z|z
    ·exact m7 c b hc z
    ·rw[hc] at z;cases z;exact hb rfl
end
structure Un(fs ex:List Addr)(H H':Hp)(h h':Heap):Prop where
 keep: ∀b o,h.get? b=some o->H b=none->b∉fs->b∉ex->h'.get? b=some o
 slot: ∀b o,h.get? b=some o->H b=none->b∈fs->b∉ex-> ∃sl,h'.get? b=some {o with slots:=sl}
 free: ∀b o,h.get? b=some o->H b=none->b∉ex->H' b=none
 there: ∀b o,h.get? b=some o->b∉ex-> ∃o',h'.get? b=some o'
 tups: ∀b xs,H b=some (.tup xs)->H' b=some (.tup xs)
 frzs: ∀b o u,H b=some (.frz o u)->H' b=some (.frz o u)
 tbls: ∀b ps,H b=some (.tbl ps)-> ∃more,H' b=some (.tbl (ps++more))
section
variable{fs fs' ex ex':List Addr}{H H1 H2:Hp}{h h1 h2 h':Heap}{a x e:Addr}{o:HO}
theorem Un.any(u:Un fs ex H H1 h h1){b:Addr}{ob:Obj}(q:h.get? b=some ob)(n:H b=none)(hx:b∉ex): ∃sl,h1.get? b=some {ob with slots:=sl}:=by
 by_cases hb:b∈fs
 ·exact u.slot b ob q n hb hx
 ·exact⟨ob.slots,u.keep b ob q n hb hx⟩
theorem Un.kept(k: ∀b u,h.get? b=some u->h'.get? b=some u):Un fs ex H H h h':=
 ⟨fun b ob q _ _ _=>k b ob q,fun b ob q _ _ _=>⟨ob.slots,k b ob q⟩,fun _ _ _ n _=>n,fun b ob q _=>⟨ob,k b ob q⟩,fun _ _ q=>q,fun _ _ _ q=>q,fun _ ps q=>⟨#[],by rw[q];simp⟩⟩
theorem Un.refl:Un fs ex H H h h:=Un.kept fun _ _ q=>q
theorem Un.laid(k: ∀b u,h.get? b=some u->h'.get? b=some u)(hp:h.objs.size<=a)(hn:H a=none):Un fs ex H (upd H a o) h h' where
 keep:=fun b u q _ _ _=>k b u q
 slot:=fun b u q _ _ _=>⟨u.slots,k b u q⟩
 free:=fun b u q n _=>by rw[zAU (Aq (Al (Ae q) hp))];exact n
 there:=fun b u q _=>⟨u,k b u q⟩
 tups:=fun b xs q=>by rw[zAU (zCO q hn)];exact q
 frzs:=fun b u xs q=>by rw[zAU (zCO q hn)];exact q
 tbls:=fun b ps q=>⟨#[],by rw[zAU (zCO q hn),q];simp⟩
theorem Un.write(mu:Mut (H x))(he:e=x∨H e=some (.own x))(k: ∀b u,b≠e->h.get? b=some u->h'.get? b=some u)(heo: ∃u,h'.get? e=some u):Un fs ex H (upd H x o) h h':=by
 have hx: ∀b,H b=none->b≠x:=fun b n z=>by subst z;rw[n] at mu;exact mu
 have hb: ∀b,H b=none->b≠e:=fun b n z=>by
  subst z
  rcases he with r|r
  ·exact hx b n r
  ·rw[n] at r;cases r
 have hm: ∀b u,H b=some u-> ¬Mut (some u)->b≠x:=fun b u q nm z=>by subst z;rw[q] at mu;exact nm mu
 refine⟨fun b u q n _ _=>k b u (hb b n) q,fun b u q n _ _=>⟨u.slots,k b u (hb b n) q⟩,fun b u q n _=>by rw[zAU (hx b n)];exact n,fun b u q _=> ?_,
  fun b xs q=>by rw[zAU (hm b _ q fun z=>z)];exact q,fun b u xs q=>by rw[zAU (hm b _ q fun z=>z)];exact q,fun b ps q=>⟨#[],by rw[zAU (hm b _ q fun z=>z),q];simp⟩⟩
 by_cases hbe:b=e
 ·subst hbe;exact heo
 ·exact⟨u,k b u hbe q⟩
end
noncomputable def trk(h:Heap)(H:Hp):List Addr:=(Ao h.objs.size).filter fun a=>(H a).isSome
noncomputable def hidT(h:Heap)(H:Hp):Heap:=W.hideAll h (trk h H)
theorem zR6(h:Heap)(H:Hp):(hidT h H).objs.size=h.objs.size:=W.hideAll_size _ _
theorem zTY{h:Heap}{H:Hp}{b:Addr}{o:Obj}(e:h.get? b=some o)(n:H b=none):(hidT h H).get? b=some o:=
 Jj _ e fun hm=>by
  have q:(H b).isSome=true:=(Em.mp hm).2
  rw[n] at q;simp at q
theorem zX3{h:Heap}{H:Hp}{b:Addr}{o:Obj}(e:(hidT h H).get? b=some o):h.get? b=some o/\H b=none:=by
 have e':h.get? b=some o:=W.of_hideAll (trk h H) e
 refine⟨e',?_⟩
 cases q:H b with
 |none=>rfl
 |some x=>
  have hm:b∈trk h H:=Em.mpr ⟨Be.mpr (Ae e'),by simp[q]⟩
  have z:(hidT h H).get? b=none:=W.hideAll_none (trk h H) hm
  rw[z] at e;cases e
structure Mod(K:A8)(mg:Str->Option Value)(base:Heap):Prop where
 kin:K.In base
 glob:base.Ns mainGlobals mg
 blt: ∃mb,base.Ns builtinsNs mb/\ ∀x:Str,x≠ "__name__" ->mb x=Ar x
 nolimit:base.NoLimit
structure Cx where
 prog:Aj
 w:World
 K:A8
 mg:Str->Option Value
 base:Heap
 A:B8
 N:List Str
 s₀:A2
 H₀:Hp
 env:Env
 outer:List Env
 stack:List Env
 ex:List Addr
 fn:Str->Bool
 calm:Bool
 pn:List (Addr×Obj)
 xe:Value->A2->Prop
noncomputable def frs(l:List Env):List Addr:=l.filterMap (·.frame)
abbrev Cx.fs(X:Cx):List Addr:=frs X.outer
def Vis(sc:Scope)(x:Str):Prop:=sc.names.lookup x=some .local∨sc.names.lookup x=some .cell∨sc.names.lookup x=some .free
def Loc(sc:Scope)(x:Str):Prop:=sc.names.lookup x=some .local∨sc.names.lookup x=some .cell
def Look(env:Env)(h:Heap)(m:Str->Option Value)(x:Str)(u:Value):Prop:=
 (env.kindOf x=some .local/\m x=some u)∨((env.kindOf x=some .cell∨env.kindOf x=some .free)/\ ∃c,env.cells.lookup x=some c/\h.IsCell c (some u))
structure Cx.Ok(X:Cx):Prop where
 mod:Mod X.K X.mg X.base
 kind:X.env.scope.kind= .function
 glob:X.env.globals=mainGlobals
 blt:X.env.builtins=builtinsNs
 above:X.s₀.heap.objs.size<=X.env.locals
 inj: ∀x y c,X.env.cells.lookup x=some c->X.env.cells.lookup y=some c->x=y
 has: ∀x,(X.env.kindOf x=some .cell∨X.env.kindOf x=some .free)-> ∃c,X.env.cells.lookup x=some c
 cab: ∀x c,X.fn x=true->X.env.cells.lookup x=some c->X.s₀.heap.objs.size<=c
 hd:X.calm=true->X.A.handled=none
 frames:X.A.frames=some X.stack
 stk:X.stack=X.outer∨(X.stack=X.env::X.outer/\X.env.frame=some X.env.locals)
 exf: ∀b∈X.ex,b≠X.env.locals/\ ∀x c,X.env.cells.lookup x=some c->c≠b
 bs: ∀b o,X.base.get? b=some o->X.s₀.heap.get? b=some o/\X.H₀ b=none
 bsz:X.base.objs.size<=X.s₀.heap.objs.size
 noex: ∀b o,X.base.get? b=some o->b∉X.ex
 exfs: ∀b∈X.ex,b∉X.fs
 funs:X.s₀.heap.FunFrames X.base X.outer
 frf: ∀b∈X.fs,X.H₀ b=none
structure Inv(X:Cx)(a6:List (Addr×Obj))(σ:List (Option V))(H:Hp)(s:A2):Prop where
 ok:X.Ok
 os:s.os=X.s₀.os
 bare:Hc s.gens
 base:Un X.fs X.ex X.H₀ H X.s₀.heap s.heap
 loc: ∃m,s.heap.Ns X.env.locals m/\ ∀(i:Nat) (x:Str) (v:V),X.N[i]? =some x->σ[i]? =some (some v)->Vis X.env.scope x-> ∃u,RelV v u/\Look X.env s.heap m x u
 cell: ∀x c,X.env.cells.lookup x=some c-> ∃v,s.heap.IsCell c v
 free:H X.env.locals=none
 freeC: ∀x c,X.env.cells.lookup x=some c->H c=none
 pin: ∀p∈X.pn++a6,s.heap.get? p.1=some p.2/\H p.1=none/\p.1≠X.env.locals/\p.1∉X.fs/\ ∀v,p.2.data≠ .cell v
 hok:HOk X.prog X.w H s.heap
 len:σ.length=X.N.length
section
variable{X:Cx}{a6:List (Addr×Obj)}{σ:List (Option V)}{H H':Hp}{s:A2}{h':Heap}
theorem Cx.Ok.nofr(ok:X.Ok){b:Addr}{o:Obj}(e:X.base.get? b=some o):b∉X.fs:=fun hb=>by
 have:=(ok.funs.mem hb).1
 rw[e] at this;cases this
theorem Inv.bs(I:Inv X a6 σ H s): ∀b o,X.base.get? b=some o->s.heap.get? b=some o/\H b=none:=fun b o e=>
 ⟨I.base.keep b o (I.ok.bs b o e).1 (I.ok.bs b o e).2 (I.ok.nofr e) (I.ok.noex b o e),I.base.free b o (I.ok.bs b o e).1 (I.ok.bs b o e).2 (I.ok.noex b o e)⟩
theorem Inv.bk(I:Inv X a6 σ H s): ∀b o,X.base.get? b=some o->s.heap.get? b=some o:=fun b o e=>(I.bs b o e).1
theorem Inv.mod(I:Inv X a6 σ H s):Mod X.K X.mg X.base:=I.ok.mod
theorem Inv.kIn(I:Inv X a6 σ H s):X.K.In s.heap:=I.ok.mod.kin.keeps I.bk
theorem Inv.lt(I:Inv X a6 σ H s):X.env.locals<s.heap.objs.size:=let ⟨_,hn,_⟩:=I.loc;hn.lt
theorem Inv.sz(I:Inv X a6 σ H s):X.s₀.heap.objs.size<=s.heap.objs.size:=Dd I.ok.above (Kc I.lt)
theorem Inv.nofs(I:Inv X a6 σ H s){a:Addr}(h:s.heap.objs.size<=a):a∉X.fs:=fun hb=>by
 obtain⟨_,o,ho,_⟩:=I.ok.funs.mem hb
 exact absurd (Al (Ae ho) (Dd I.sz h)) (Bj _)
theorem Inv.cne(I:Inv X a6 σ H s): ∀x c,X.env.cells.lookup x=some c->c≠X.env.locals:=fun x c e z=>by
 obtain⟨v,o,ho,hd⟩:=I.cell x c e
 obtain⟨m,⟨o',es,ep,ho',hd',_⟩,_⟩:=I.loc
 rw[z,ho'] at ho;cases ho;rw[hd'] at hd;cases hd
theorem Inv.funs(I:Inv X a6 σ H s):s.heap.FunFrames X.base X.outer:=by
 have all: ∀(l:List Env),(∀b∈frs l,b∈X.fs)->X.s₀.heap.FunFrames X.base l->s.heap.FunFrames X.base l:=by
  intro l
  induction l with
  |nil=>intro _ _;trivial
  |cons env r ih=>
   intro hs hl
   obtain⟨hk,⟨L,o,hf,hn,ho,hd⟩,hr⟩:=hl
   have hL:L∈X.fs:=hs L (by unfold frs;rw[Fz,hf];exact Ak)
   obtain⟨sl,e⟩:=I.base.slot L o ho (I.ok.frf L hL) hL fun z=>I.ok.exfs L z hL
   exact⟨hk,⟨L,_,hf,hn,e,hd⟩,ih (fun b hb=>hs b (by unfold frs;rw[Fz,hf];exact Ag _ hb)) hr⟩
 exact all X.outer (fun _ hb=>hb) I.ok.funs
theorem Inv.stack(I:Inv X a6 σ H s):s.heap.FunFrames X.base X.stack:=by
 rcases I.ok.stk with e|⟨e,hf⟩
 ·rw[e];exact I.funs
 ·rw[e]
  obtain⟨m,hn,_⟩:=I.loc
  refine .cons (by rw[I.ok.kind];decide) hf hn ?_ I.funs
  exact Heap.get?_none_of_le (Dd I.ok.bsz I.ok.above)
theorem Inv.stkSub(I:Inv X a6 σ H s): ∀b∈frs X.stack,b∈X.env.locals::X.fs:=fun b hb=>by
 rcases I.ok.stk with e|⟨e,hf⟩
 ·rw[e] at hb;exact Ag _ hb
 ·rw[e] at hb
  unfold frs at hb
  rw[Fz,hf] at hb
  exact hb
theorem Inv.stkFree(I:Inv X a6 σ H s): ∀b∈frs X.stack,H b=none:=fun b hb=>by
 rcases Ac.mp (I.stkSub b hb) with e|hb
 ·rw[e];exact I.free
 ·obtain⟨_,o,ho,_⟩:=I.ok.funs.mem hb
  exact I.base.free b o ho (I.ok.frf b hb) fun z=>I.ok.exfs b z hb
theorem Inv.step{g':Array GenState}{t':Nat}{d':Drawn}{ch:List Addr}(I:Inv X a6 σ H s)
  (hch: ∀b∈ch,(b∈X.ex∨X.s₀.heap.objs.size<=b)/\b≠X.env.locals/\(∀x c,X.env.cells.lookup x=some c->c≠b)/\ ∀p∈X.pn++a6,p.1≠b)
  (keep: ∀b o,b≠X.env.locals->b∉X.fs->b∉ch->s.heap.get? b=some o->H b=none->h'.get? b=some o)
  (slot: ∀b o,b≠X.env.locals->b∈X.fs->b∉ch->s.heap.get? b=some o->H b=none-> ∃sl,h'.get? b=some {o with slots:=sl}) (free: ∀b o,b∉ch->s.heap.get? b=some o->H b=none->H' b=none)
  (there: ∀b o,b∉ch->s.heap.get? b=some o-> ∃o',h'.get? b=some o')
  (tups: ∀b xs,H b=some (.tup xs)->H' b=some (.tup xs)) (frzs: ∀b o u,H b=some (.frz o u)->H' b=some (.frz o u)) (tbls: ∀b ps,H b=some (.tbl ps)-> ∃more,H' b=some (.tbl (ps++more)))
  (ns: ∀m,s.heap.Ns X.env.locals m->h'.Ns X.env.locals m) (hok:HOk X.prog X.w H' h') (hg:Hc g'):
  Inv X a6 σ H' {s with heap:=h',gens:=g',drawn:=d',toks:=t'}:=by
 have neL: ∀b o,X.s₀.heap.get? b=some o->b≠X.env.locals:=fun b o e=>Aq (Al (Ae e) I.ok.above)
 have neC: ∀b o,X.s₀.heap.get? b=some o->b∉X.ex->b∉ch:=fun b o e hx hb=>by
  rcases(hch b hb).1 with z|z
  ·exact hx z
  ·exact absurd (Al (Ae e) z) (Bj _)
 have dq: ∀x c,X.env.cells.lookup x=some c-> ∀v,s.heap.IsCell c v->h'.IsCell c v:=fun x c e v q0=>by
  obtain⟨o,ho,hd⟩:=q0
  have nch:c∉ch:=fun z=>(hch c z).2.2.1 x c e rfl
  by_cases hc:c∈X.fs
  ·obtain⟨sl,q⟩:=slot c o (I.cne x c e) hc nch ho (I.freeC x c e)
   exact⟨_,q,hd⟩
  ·exact⟨o,keep c o (I.cne x c e) hc nch ho (I.freeC x c e),hd⟩
 refine⟨I.ok,I.os,hg,⟨fun b o e n hb hx=> ?_,fun b o e n hb hx=> ?_,fun b o e n hx=> ?_,fun b o e hx=> ?_,fun b xs e=>tups b xs (I.base.tups b xs e),fun b o xs e=>frzs b o xs (I.base.frzs b o xs e),fun b ps e=> ?_⟩,?_,fun x c e=> ?_,?_,fun x c e=> ?_,fun p hp=> ?_,hok,I.len⟩
 ·exact keep b o (neL b o e) hb (neC b o e hx) (I.base.keep b o e n hb hx) (I.base.free b o e n hx)
 ·obtain⟨sl,e1⟩:=I.base.slot b o e n hb hx
  obtain⟨sl',e2⟩:=slot b _ (neL b o e) hb (neC b o e hx) e1 (I.base.free b o e n hx)
  exact⟨sl',e2⟩
 ·obtain⟨o',e1⟩:=I.base.there b o e hx
  exact free b o' (neC b o e hx) e1 (I.base.free b o e n hx)
 ·obtain⟨o',e1⟩:=I.base.there b o e hx
  exact there b o' (neC b o e hx) e1
 ·obtain⟨m1,e1⟩:=I.base.tbls b ps e
  obtain⟨m2,e2⟩:=tbls b _ e1
  exact⟨m1++m2,by rw[e2,Array.append_assoc]⟩
 ·obtain⟨m,hn,hl⟩:=I.loc
  refine⟨m,ns m hn,fun i x v e1 e2 e3=> ?_⟩
  obtain⟨u,r,l⟩:=hl i x v e1 e2 e3
  refine⟨u,r,?_⟩
  rcases l with l|⟨k,c,e,z⟩
  ·exact .inl l
  ·exact .inr ⟨k,c,e,dq x c e _ z⟩
 ·obtain⟨v,z⟩:=I.cell x c e
  exact⟨v,dq x c e v z⟩
 ·obtain⟨m,⟨o,_,_,ho,_⟩,_⟩:=I.loc
  exact free _ o (fun z=>(hch _ z).2.1 rfl) ho I.free
 ·obtain⟨v,o,ho,hd⟩:=I.cell x c e
  exact free c o (fun z=>(hch c z).2.2.1 x c e rfl) ho (I.freeC x c e)
 ·obtain⟨e,n,ne,nf,d⟩:=I.pin p hp
  have nch:p.1∉ch:=fun z=>(hch p.1 z).2.2.2 p hp rfl
  exact⟨keep p.1 p.2 ne nf nch e n,free p.1 p.2 nch e n,ne,nf,d⟩
theorem Inv.un{t':Nat}(I:Inv X a6 σ H s)(u:Un X.fs [] H H' s.heap h')(hok:HOk X.prog X.w H' h'):Inv X a6 σ H' {s with heap:=h',toks:=t'}:=by
 obtain⟨m,⟨o,es,ep,ho,r⟩,_⟩:=id I.loc
 obtain⟨sl,hL⟩:=u.any ho I.free (by simp)
 exact I.step (g':=s.gens) (d':=s.drawn) (ch:=[]) (fun _ z=>nomatch z) (fun b o _ hb _ e n=>u.keep b o e n hb (by simp)) (fun b o _ hb _ e n=>u.slot b o e n hb (by simp)) (fun b o _ e n=>u.free b o e n (by simp)) (fun b o _ e=>u.there b o e (by simp)) u.tups u.frzs u.tbls (fun m' hm=>by
  obtain⟨o',es',ep',ho',r'⟩:=hm
  rw[ho] at ho';cases ho'
  exact⟨_,es',ep',hL,r'⟩) hok I.bare
theorem Inv.call{g':Array GenState}{t':Nat}{d':Drawn}{ch:List Addr}(I:Inv X a6 σ H s)(u:Un (frs X.stack) ch H H' s.heap h')(hok:HOk X.prog X.w H' h')(hg:Hc g')
  (hch: ∀b∈ch,(b∈X.ex∨X.s₀.heap.objs.size<=b)/\b≠X.env.locals/\(∀x c,X.env.cells.lookup x=some c->c≠b)/\ ∀p∈X.pn++a6,p.1≠b):
  Inv X a6 σ H' {s with heap:=h',gens:=g',drawn:=d',toks:=t'}:=by
 obtain⟨m,⟨o,es,ep,ho,r⟩,_⟩:=id I.loc
 obtain⟨sl,hL⟩:=u.any ho I.free fun z=>(hch _ z).2.1 rfl
 exact I.step (ch:=ch) hch (fun b o hL hb hc e n=>u.keep b o e n (fun z=>(Ac.mp (I.stkSub b z)).elim hL hb) hc) (fun b o _ _ hc e n=>u.any e n hc) (fun b o hc e n=>u.free b o e n hc) (fun b o hc e=>u.there b o e hc) u.tups u.frzs u.tbls (fun m' hm=>by
  obtain⟨o',es',ep',ho',r'⟩:=hm
  rw[ho] at ho';cases ho'
  exact⟨_,es',ep',hL,r'⟩) hok hg
theorem Inv.turned{t':Nat}{it:Addr}(I:Inv X a6 σ H s)(k: ∀b o,b≠it->s.heap.get? b=some o->h'.get? b=some o)(hn:H it=none)(hL:it≠X.env.locals)
  (h1:it∈X.ex∨X.s₀.heap.objs.size<=it) (h2: ∀x c,X.env.cells.lookup x=some c->c≠it) (h3: ∀p∈X.pn++a6,p.1≠it):Inv X a6 σ H {s with heap:=h',toks:=t'}:=by
 have nit: ∀b u,H b=some u->b≠it:=fun b u e z=>by rw[z,hn] at e;cases e
 refine I.step (g':=s.gens) (d':=s.drawn) (ch:=[it]) (fun b hb=> ?_) (fun b o _ _ hc e _=>k b o (fun z=>hc (by simp[z])) e) (fun b o _ _ hc e _=>⟨o.slots,k b o (fun z=>hc (by simp[z])) e⟩) (fun _ _ _ _ n=>n)
  (fun b o hc e=>⟨o,k b o (fun z=>hc (by simp[z])) e⟩) (fun _ _ e=>e) (fun _ _ _ e=>e) (fun b ps e=>⟨#[],by rw[e];simp⟩) (fun m hm=> ?_) (fun b u e=> ?_) I.bare
 ·have e : b = it := by simpa using hb
  subst e
  exact⟨h1,hL,h2,h3⟩
 ·obtain⟨o,es,ep,ho,r⟩:=hm
  exact⟨o,es,ep,k _ o (Cc hL) ho,r⟩
 ·refine (I.hok b u e).stay (fun c v hc q => k c v ?_ q) (fun _ q => q) fun _ _ q => q
  rcases hc with z|z
  ·rw[z];exact nit b u e
  ·exact nit c _ z
theorem Inv.tok(I:Inv X a6 σ H s)(t:Nat):Inv X a6 σ H {s with toks:=t}:=I.un (h':=s.heap) (t':=t) Un.refl I.hok
theorem Inv.kept{t':Nat}(I:Inv X a6 σ H s)(k: ∀b u,s.heap.get? b=some u->h'.get? b=some u):Inv X a6 σ H {s with heap:=h',toks:=t'}:=I.un (Un.kept k) (I.hok.kept k)
theorem Inv.laid{a:Addr}{o:HO}{t':Nat}(I:Inv X a6 σ H s)(k: ∀b u,s.heap.get? b=some u->h'.get? b=some u)(hp:s.heap.objs.size<=a)(new:zC6 X.prog X.w (upd H a o) h' a o):
  Inv X a6 σ (upd H a o) {s with heap:=h',toks:=t'}:=I.un (Un.laid k hp (I.hok.fresh hp)) (I.hok.laid k hp new)
theorem Inv.write{x e:Addr}{o:HO}{t':Nat}(I:Inv X a6 σ H s)(mu:Mut (H x))(he:e=x∨H e=some (.own x))(k: ∀b u,b≠e->s.heap.get? b=some u->h'.get? b=some u)(heo: ∃u,h'.get? e=some u)
  (new:zC6 X.prog X.w (upd H x o) h' x o):Inv X a6 σ (upd H x o) {s with heap:=h',toks:=t'}:=I.un (Un.write mu he k heo) (I.hok.write mu he k heo new)
theorem Inv.weak{σ':List (Option V)}(I:Inv X a6 σ H s)(hl:σ'.length=σ.length)(w: ∀(i:Nat) v,σ'[i]? =some (some v)->σ[i]? =some (some v)):Inv X a6 σ' H s:=
 ⟨I.ok,I.os,I.bare,I.base,let ⟨m,hn,hl'⟩:=I.loc;⟨m,hn,fun i x v e1 e2 e3=>hl' i x v e1 (w i v e2) e3⟩,I.cell,I.free,I.freeC,I.pin,I.hok,hl.trans I.len⟩
theorem Inv.pins_of{iy:List (Addr×Obj)}(I:Inv X a6 σ H s)(h: ∀p∈iy,s.heap.get? p.1=some p.2/\H p.1=none/\p.1≠X.env.locals/\p.1∉X.fs/\ ∀v,p.2.data≠ .cell v):Inv X iy σ H s:=
 ⟨I.ok,I.os,I.bare,I.base,I.loc,I.cell,I.free,I.freeC,fun p hp=>(Aw.mp hp).elim (fun z=>I.pin p (Az _ z)) (h p),I.hok,I.len⟩
theorem zMT{N:List Str}(hN:N.Nodup){i j:Nat}{x:Str}(a:N[i]? =some x)(b:N[j]? =some x):i=j:=by
 obtain⟨h1,e1⟩:=A5.mp a
 obtain⟨h2,e2⟩:=A5.mp b
 exact(Kk hN).mp (e1.trans e2.symm)
theorem zJE{M:Model}{A:B8}{E:Value->A2->Prop}{i:Nat}{x:Str}{v:V}{u:Value}{Q:Unit->A2->Prop}(I:Inv X a6 σ H s)(hN:X.N.Nodup)(hi:X.N[i]? =some x)(hx:Loc X.env.scope x)(r:RelV v u)
  (h : ∀ s',Inv X a6 (σ.set i (some v)) H s' -> (∃ a,De a s.heap s'.heap /\ (a = X.env.locals ∨ X.env.cells.lookup x = some a)) -> Q () s') (hf : X.fn x = true ∨ X.env.scope.names.lookup x = some .local := by first | exact .inl rfl | exact .inr rfl | assumption) : wpAny M A (storeName X.env x u) Q E s := by
 obtain⟨m,hn,hl⟩:=id I.loc
 have pj:(X.env.scope.kind== .class || (X.env.scope.kind== .module && X.env.locals !=X.env.globals))=false:=by rw[I.ok.kind];rfl
 have hiσ:i<σ.length:=by rw[I.len];exact(A5.mp hi).1
 have cne:=I.cne
 have eu: ∀{a:Addr} {h':Heap},(∃o,s.heap.get? a=some o/\H a=none)->De a s.heap h'->HOk X.prog X.w H h':=fun{a h'} ha hs b ob e=>by
  obtain⟨_,_,bn⟩:=ha
  refine(I.hok b ob e).stay (fun c w' hc q=>(hs.2 c ?_).trans q) (fun _ q=>q) fun _ _ q=>q
  rintro rfl
  rcases hc with rfl|hc
  ·rw[bn] at e;cases e
  ·rw[bn] at hc;cases hc
 rcases hx with hk|hk
 ·refine wpAny_storeName_local hk hn (fun h' hn' hs => ?_) pj
  obtain⟨oL,_,_,hoL,_⟩:=id hn
  refine h _ ⟨I.ok,I.os,I.bare,⟨fun b o e n hb hx=> ?_,fun b o e n hb hx=> ?_,I.base.free,fun b o e hx=> ?_,I.base.tups,I.base.frzs,I.base.tbls⟩,⟨_,hn',fun j y v' e1 e2 e3=> ?_⟩,fun y c e=> ?_,I.free,I.freeC,fun p hp=> ?_,eu ⟨oL,hoL,I.free⟩ hs,by simpa using I.len⟩ ⟨_,hs,.inl rfl⟩
  ·exact(hs.2 b (Aq (Al (Ae e) I.ok.above))).trans (I.base.keep b o e n hb hx)
  ·obtain⟨sl,e1⟩:=I.base.slot b o e n hb hx
   exact⟨sl,(hs.2 b (Aq (Al (Ae e) I.ok.above))).trans e1⟩
  ·obtain⟨o',e1⟩:=I.base.there b o e hx
   exact⟨o',(hs.2 b (Aq (Al (Ae e) I.ok.above))).trans e1⟩
  ·by_cases hj:j=i
   ·subst hj
    rw[hi] at e1;cases e1
    rw[Bx hiσ] at e2
    cases e2
    exact⟨u,r,.inl ⟨hk,by simp⟩⟩
   ·rw[B0 (Cc hj)] at e2
    obtain⟨u',r',q⟩:=hl j y v' e1 e2 e3
    refine⟨u',r',?_⟩
    rcases q with⟨k,e⟩|⟨k,c,e,z⟩
    ·refine .inl ⟨k,?_⟩
     have:y≠x:=fun e=>hj (zMT hN e1 (e▸hi))
     simp[this,e]
    ·exact .inr ⟨k,c,e,z.sameBut hs (cne y c e)⟩
  ·obtain⟨w',z⟩:=I.cell y c e
   exact⟨w',z.sameBut hs (cne y c e)⟩
  ·obtain⟨e,n,ne,nf,d⟩:=I.pin p hp
   exact⟨(hs.2 p.1 ne).trans e,n,ne,nf,d⟩
 ·have hfn:X.fn x=true:=by
   rcases hf with z|z
   ·exact z
   ·rw[z] at hk;cases hk
  obtain⟨c,hc⟩:=I.ok.has x (.inl hk)
  obtain⟨w',z⟩:=I.cell x c hc
  refine wpAny_storeName_cell I.ok.kind hk hc z (fun h' hc' hs=> ?_)
  obtain⟨oc,hoc,oo⟩:=id z
  refine h {s with heap:=h'} ⟨I.ok,I.os,I.bare,⟨fun b o e n hb hx=> ?_,fun b o e n hb hx=> ?_,I.base.free,fun b o e hx=> ?_,I.base.tups,I.base.frzs,I.base.tbls⟩,⟨m,hn.sameBut hs (Cc (cne x c hc)),fun j y v' e1 e2 e3=> ?_⟩,fun y c' e=> ?_,I.free,I.freeC,fun p hp=> ?_,eu ⟨oc,hoc,I.freeC x c hc⟩ hs,by simpa using I.len⟩ ⟨c,hs,.inr hc⟩
  ·exact(hs.2 b (Aq (Al (Ae e) (I.ok.cab x c hfn hc)))).trans (I.base.keep b o e n hb hx)
  ·obtain⟨sl,e1⟩:=I.base.slot b o e n hb hx
   exact⟨sl,(hs.2 b (Aq (Al (Ae e) (I.ok.cab x c hfn hc)))).trans e1⟩
  ·obtain⟨o',e1⟩:=I.base.there b o e hx
   exact⟨o',(hs.2 b (Aq (Al (Ae e) (I.ok.cab x c hfn hc)))).trans e1⟩
  ·by_cases hj:j=i
   ·subst hj
    rw[hi] at e1;cases e1
    rw[Bx hiσ] at e2
    cases e2
    exact⟨u,r,.inr ⟨.inl hk,c,hc,hc'⟩⟩
   ·rw[B0 (Cc hj)] at e2
    obtain⟨u',r',q⟩:=hl j y v' e1 e2 e3
    refine⟨u',r',?_⟩
    rcases q with q|⟨k,c',e,z'⟩
    ·exact .inl q
    ·refine .inr ⟨k,c',e,z'.sameBut hs ?_⟩
     rintro rfl
     exact hj (zMT hN e1 (I.ok.inj _ _ _ e hc▸hi))
  ·by_cases hcc:c'=c
   ·subst hcc;exact⟨_,hc'⟩
   ·obtain⟨w2,z2⟩:=I.cell y c' e
    exact⟨w2,z2.sameBut hs hcc⟩
  ·obtain⟨e,n,ne,nf,d⟩:=I.pin p hp
   refine⟨(hs.2 p.1 ?_).trans e,n,ne,nf,d⟩
   intro q
   rw[q,hoc] at e
   have q':oc=p.2:=B6 e
   exact d w' (by rw[<- q'];exact oo)
theorem zCD{M:Model}{A:B8}{E:Value->A2->Prop}{i:Nat}{x:Str}{v:V}{u:Value}{Q:Unit->A2->Prop}(I:Inv X a6 σ H s)(hN:X.N.Nodup)(hi:X.N[i]? =some x)(hx:Loc X.env.scope x)(r:RelV v u)
  (h: ∀s',Inv X a6 (σ.set i (some v)) H s'->Q () s') (hf:X.fn x=true∨X.env.scope.names.lookup x=some .local:=by first|exact .inl rfl|exact .inr rfl|assumption):wpAny M A (storeName X.env x u) Q E s:=
 zJE I hN hi hx r (fun s' I' _=>h s' I') hf
theorem Inv.call'{s':A2}{ch:List Addr}(I:Inv X a6 σ H s)(ho:s'.os=s.os)(u:Un (frs X.stack) ch H H' s.heap s'.heap)(hok:HOk X.prog X.w H' s'.heap)(hg:Hc s'.gens)
  (hch: ∀b∈ch,(b∈X.ex∨X.s₀.heap.objs.size<=b)/\b≠X.env.locals/\(∀x c,X.env.cells.lookup x=some c->c≠b)/\ ∀p∈X.pn++a6,p.1≠b):Inv X a6 σ H' s':=by
 obtain⟨h',g',d',t',o'⟩:=s'
 have e:o'=s.os:=ho
 subst e
 exact I.call (g':=g') (t':=t') (d':=d') u hok hg hch
end
abbrev XK:=Value->Option Addr->Hp->Prop
abbrev St:=List (Option V)
abbrev VK:=V->Hp->Prop
abbrev TE:=St->Hp->VK->Prop
abbrev TT:=St->Hp->(Bool->Hp->Prop)->Prop
abbrev TA:=St->Hp->(List V->Hp->Prop)->Prop
structure Ends where
 nx:St->Hp->Prop
 rt:VK
 bk:St->Hp->Prop:=fun _ _=>False
 ct:St->Hp->Prop:=fun _ _=>False
abbrev TS:=Ends->St->Hp->Prop
def EP(X:Cx)(a6:List (Addr×Obj))(σ:St)(Q:VK)(u:Value)(s':A2):Prop:= ∃v H',Inv X a6 σ H' s'/\RelV v u/\Q v H'
def TP(X:Cx)(a6:List (Addr×Obj))(σ:St)(Q:Bool->Hp->Prop)(b:Bool)(s':A2):Prop:= ∃H',Inv X a6 σ H' s'/\Q b H'
def AP(X:Cx)(a6:List (Addr×Obj))(σ:St)(Q:List V->Hp->Prop)(us:List Value)(s':A2):Prop:= ∃vs H',Inv X a6 σ H' s'/\Vals vs us/\Q vs H'
def SP(X:Cx)(a6:List (Addr×Obj))(D:Ends)(f:Flow)(s':A2):Prop:=
 match f with
 | .next=> ∃σ' H',Inv X a6 σ' H' s'/\D.nx σ' H'
 | .brk=> ∃σ' H',Inv X a6 σ' H' s'/\D.bk σ' H'
 | .cont=> ∃σ' H',Inv X a6 σ' H' s'/\D.ct σ' H'
 | .ret u=> ∃v σ' H',Inv X a6 σ' H' s'/\RelV v u/\D.rt v H'
def PE(X:Cx)(e:Expr)(t:TE):Prop:=
 ∀(a6:List (Addr×Obj)) (s:A2) (σ:St) (H:Hp) (Q:VK),Inv X a6 σ H s->t σ H Q->wpAny (model X.prog X.w) X.A (eval e X.env) (EP X a6 σ Q) X.xe s
def PT(X:Cx)(e:Expr)(t:TT):Prop:=
 ∀(a6:List (Addr×Obj)) (s:A2) (σ:St) (H:Hp) (Q:Bool->Hp->Prop),Inv X a6 σ H s->t σ H Q->wpAny (model X.prog X.w) X.A (isTrue e X.env (eval e X.env)) (TP X a6 σ Q) X.xe s
def PW(X:Cx)(e:Expr)(t:TT):Prop:=
 ∀(b8:Sem Value) (a6:List (Addr×Obj)) (s:A2) (σ:St) (H:Hp) (Q:Bool->Hp->Prop),Inv X a6 σ H s->t σ H Q->wpAny (model X.prog X.w) X.A (isTrue e X.env b8) (TP X a6 σ Q) X.xe s
theorem PW.pt{X:Cx}{e:Expr}{t:TT}(h:PW X e t):PT X e t:=h _
def PA(X:Cx)(es:List Expr)(t:TA):Prop:=
 ∀(pos:Pos) (a6:List (Addr×Obj)) (s:A2) (σ:St) (H:Hp) (Q:List V->Hp->Prop),Inv X a6 σ H s->t σ H Q->wpAny (model X.prog X.w) X.A (spliced (Cg pos (starEach es X.env))) (AP X a6 σ Q) X.xe s
def PS(X:Cx)(st:Stmt)(t:TS):Prop:=
 ∀(a6:List (Addr×Obj)) (s:A2) (σ:St) (H:Hp) (D:Ends),Inv X a6 σ H s->t D σ H->wpAny (model X.prog X.w) X.A (exec st X.env) (SP X a6 D) X.xe s
def PSs(X:Cx)(st:List Stmt)(t:TS):Prop:=
 ∀(a6:List (Addr×Obj)) (s:A2) (σ:St) (H:Hp) (D:Ends),Inv X a6 σ H s->t D σ H->wpAny (model X.prog X.w) X.A (execs st X.env) (SP X a6 D) X.xe s
theorem thn{α:Type}{t:Sem α}{Q Q':α->A2->Prop}{M:Model}{A:B8}{E:Value->A2->Prop}{s:A2}(h:wpAny M A t Q E s)(hQ: ∀a s,Q a s->Q' a s):wpAny M A t Q' E s:=Ba h hQ fun _ _ x=>x
section
variable{X:Cx}
def tVar(i:Nat):TE:=fun σ H Q=> ∃v,σ[i]? =some (some v)/\Q v H
def tC(v:V):TE:=fun _ H Q=>Q v H
theorem zQ7{i:Nat}{x:Str}{pos:Pos}(hN:X.N[i]? =some x)(hv:Vis X.env.scope x)(hd:(x==("__debug__":Str))=false:=by decide) (hcd:(x==("__classdict__":Str))=false:=by decide):PE X (.Name x pos) (tVar i):=by
 intro a6 s σ H Q I h
 obtain⟨v,e,h⟩:=h
 obtain⟨m,hn,hl⟩:=I.loc
 obtain⟨u,r,l⟩:=hl i x v hN e hv
 have fin:EP X a6 σ Q u s:=⟨v,H,I,r,h⟩
 rcases l with⟨hk,hm⟩|⟨hk,c,hc,j6⟩
 ·exact M5 (wpAny_loadName_local I.ok.kind hk hn hm fin) hd
 ·rcases hk with hk|hk
  ·exact M5 (wpAny_loadName_cell I.ok.kind hk hc j6 fin) hd
  ·exact M5 (wpAny_loadName_free I.ok.kind hk hc j6 fin hcd) hd
theorem yAG{i j pos}:PE X (.Constant (.int i) j pos) (tC (.int i)):=fun _ _ _ H _ I h=>wpAny_Constant_int ⟨.int i,H,I.tok _,⟨_,rfl⟩,h⟩
theorem yE9{b j pos}:PE X (.Constant (.bool b) j pos) (tC (.bl b)):=fun _ _ _ H _ I h=>Constant_bool ⟨.bl b,H,I,rfl,h⟩
theorem yAF{j pos}:PE X (.Constant .none j pos) (tC .non):=fun _ _ _ H _ I h=>Constant_none ⟨.non,H,I,rfl,h⟩
theorem zUX{x j pos}:PE X (.Constant (.str x) j pos) (tC (.str x)):=fun _ _ _ H _ I h=>Calls.Constant_str ⟨.str x,H,I.tok _,⟨_,rfl⟩,h⟩
def Gl(X:Cx)(x:Str):Prop:=X.env.kindOf x=some .globalImplicit
theorem zFJ{E:Value->A2->Prop}{a6:List (Addr×Obj)}{s:A2}{σ:St}{H:Hp}{x:Str}{u:Value}{pos:Pos}{Q:Value->A2->Prop}(I:Inv X a6 σ H s)(hg:Gl X x)(hm:X.mg x=some u)(h:Q u s)
  (hd:(x==("__debug__":Str))=false:=by decide):wpAny (model X.prog X.w) X.A (eval (.Name x pos) X.env) Q E s:=
 Ge I.ok.kind hg (Calls.loadGlobal_global (by rw[I.ok.glob];exact I.mod.glob.keeps I.bk) hm h) hd
theorem zGZ{E:Value->A2->Prop}{a6:List (Addr×Obj)}{s:A2}{σ:St}{H:Hp}{x:Str}{u:Value}{pos:Pos}{Q:Value->A2->Prop}(I:Inv X a6 σ H s)(hg:Gl X x)(hm:X.mg x=none)(hv:Ar x=some u)(h:Q u s)
  (hn:x≠ "__name__":=by decide) (hd:(x==("__debug__":Str))=false:=by decide):wpAny (model X.prog X.w) X.A (eval (.Name x pos) X.env) Q E s:=by
 obtain⟨mb,h1,h2⟩:=I.mod.blt
 exact Ge I.ok.kind hg (Calls.loadGlobal_builtin (by rw[I.ok.glob];exact I.mod.glob.keeps I.bk) hm (by rw[I.ok.blt];exact h1.keeps I.bk) ((h2 x hn).trans hv) h) hd
theorem zWR{x:Str}{v:V}{u:Value}{pos:Pos}(hg:Gl X x)(hm:X.mg x=some u)(r:RelV v u)(hd:(x==("__debug__":Str))=false:=by decide):PE X (.Name x pos) (tC v):=
 fun _ _ _ H _ I h=>zFJ I hg hm ⟨v,H,I,r,h⟩ hd
theorem zWT{x:Str}{v:V}{u:Value}{pos:Pos}(hg:Gl X x)(hm:X.mg x=none)(hv:Ar x=some u)(r:RelV v u)(hn:x≠ "__name__":=by decide) (hd:(x==("__debug__":Str))=false:=by decide):PE X (.Name x pos) (tC v):=
 fun _ _ _ H _ I h=>zGZ I hg hm hv ⟨v,H,I,r,h⟩ hn hd
variable{a b:Expr}{ta tb:TE}{pos:Pos}
def tB(t:TE):TT:=fun σ H Q=>t σ H fun x H1=> ∃c,x= .bl c/\Q c H1
theorem yA1{e:Expr}{t:TE}(h:PE X e t)(he: ∀b8,isTrue e X.env b8=(do let v<- b8;standAt e.pos;J8 [v] (truthy v)):=by intro _;rfl):PT X e (tB t):=by
 intro a6 s σ H Q I hw
 refine isTrue_plain (thn (h a6 s σ H _ I hw) fun v s1 ⟨x,H1,I1,r1,q1⟩=> ?_) (he _)
 obtain⟨d,rfl,q⟩:=q1
 cases r1
 exact D5 ⟨H1,I1,q⟩
variable{tA tB':TT}{rest:List Expr}
def tAnd(t u:TT):TT:=fun σ H Q=>t σ H fun c H1=>if c=true then u σ H1 Q else Q false H1
def tOr(t u:TT):TT:=fun σ H Q=>t σ H fun c H1=>if c=true then Q true H1 else u σ H1 Q
def tNot(t:TT):TT:=fun σ H Q=>t σ H fun c H1=>Q (!c) H1
theorem zWG(ha:PT X a tA):PW X (.BoolOp .And [a] pos) tA:=by
 intro wh a6 s σ H Q I h
 refine isTrue_and (thn (ha a6 s σ H Q I h) fun c s1 e=> ?_)
 cases c with
 |true=>exact isTrue_and_nil e
 |false=>exact e
theorem zZZ(ha:PT X a tA):PW X (.BoolOp .Or [a] pos) tA:=by
 intro wh a6 s σ H Q I h
 refine isTrue_or (thn (ha a6 s σ H Q I h) fun c s1 e=> ?_)
 cases c with
 |false=>exact isTrue_or_nil e
 |true=>exact e
theorem yA0(ha:PT X a tA)(hb:PW X (.BoolOp .And (b::rest) pos) tB'):PW X (.BoolOp .And (a::b::rest) pos) (tAnd tA tB'):=by
 intro wh a6 s σ H Q I h
 refine isTrue_and (thn (ha a6 s σ H _ I h) fun c s1 ⟨H1,I1,q1⟩=> ?_)
 cases c with
 |true=>exact hb wh a6 s1 σ H1 Q I1 q1
 |false=>exact⟨H1,I1,q1⟩
theorem yE5(ha:PT X a tA)(hb:PW X (.BoolOp .Or (b::rest) pos) tB'):PW X (.BoolOp .Or (a::b::rest) pos) (tOr tA tB'):=by
 intro wh a6 s σ H Q I h
 refine isTrue_or (thn (ha a6 s σ H _ I h) fun c s1 ⟨H1,I1,q1⟩=> ?_)
 cases c with
 |true=>exact⟨H1,I1,q1⟩
 |false=>exact hb wh a6 s1 σ H1 Q I1 q1
theorem yA2(ha:PT X a tA):PT X (.UnaryOp .Not a pos) (tNot tA):=by
 intro a6 s σ H Q I h
 exact isTrue_not (ha a6 s σ H (fun c H1=>Q (!c) H1) I h)
def yDA(ta tb:TE):TE:=fun σ H Q=>ta σ H fun x H1=> ∃c,x= .bl c/\if c=true then tb σ H1 Q else Q (.bl false) H1
theorem yAE{op}{t:TE}(h:PE X a t):PE X (.BoolOp op [a] pos) t:=fun a6 s σ H Q I hw=>BoolOp_one (h a6 s σ H Q I hw)
theorem yAH(ha:PE X a ta)(hb:PE X (.BoolOp .And (b::rest) pos) tb):PE X (.BoolOp .And (a::b::rest) pos) (yDA ta tb):=by
 intro a6 s σ H Q I h
 refine BoolOp_and (thn (ha a6 s σ H _ I h) fun v s1 ⟨x,H1,I1,r1,q1⟩=> ?_)
 obtain⟨c,rfl,q1⟩:=q1
 cases r1
 refine D5 ?_
 cases c with
 |true=>exact hb a6 s1 σ H1 Q I1 q1
 |false=>exact⟨.bl false,H1,I1,rfl,q1⟩
def tIf(t:TT)(ta tb:TE):TE:=fun σ H Q=>t σ H fun c H1=>if c=true then ta σ H1 Q else tb σ H1 Q
theorem zT8{c:Expr}(hc:PT X c tA)(ha:PE X a ta)(hb:PE X b tb):PE X (.IfExp c a b pos) (tIf tA ta tb):=by
 intro a6 s σ H Q I h
 refine wpAny_IfExp (thn (hc a6 s σ H _ I h) fun d s1 ⟨H1,I1,q1⟩=> ?_)
 cases d with
 |true=>exact ha a6 s1 σ H1 Q I1 q1
 |false=>exact hb a6 s1 σ H1 Q I1 q1
end
def SqL(K:A8)(H:Hp)(a:Addr)(xs:List V):Prop:=
 Rd H a (.lst xs)∨
  ∃(o:Obj) (its:Array Value) (n:Nat),K.lookup a=some o/\o.cls= .type "list" /\o.dict=none/\o.data= .seq its n/\its.size<=sizeLine/\Vals xs its.toList
def SqT(K:A8)(H:Hp)(a:Addr)(xs:List V):Prop:=
 Rd H a (.tup xs)∨
  ∃(o:Obj) (its:Array Value) (n:Nat),K.lookup a=some o/\o.cls= .type "tuple" /\o.data= .seq its n/\its.size<=sizeLine/\Vals xs its.toList
noncomputable def absV:Value->Option V
 | .none=>some .non
 | .bool b=>some (.bl b)
 | .int i _=>some (.int i)
 | .str x _=>some (.str x)
 | .bytes b _=>some (.byt b)
 | .float b _=>some (.flt b)
 | .ref a=>some (.ref a)
 | .type n=>some (.ty n)
 |_=>none
theorem RelV.abs{x:V}{u:Value}(r:RelV x u):absV u=some x:=by
 cases x with
 |non=>cases r;rfl
 |bl _=>cases r;rfl
 |int _=>obtain⟨t,rfl⟩:=r;rfl
 |str _=>obtain⟨t,rfl⟩:=r;rfl
 |byt _=>obtain⟨t,rfl⟩:=r;rfl
 |flt _=>obtain⟨t,rfl⟩:=r;rfl
 |ref _=>cases r;rfl
 |ty _=>cases r;rfl
theorem RelV.inj{x y:V}{u:Value}(r:RelV x u)(q:RelV y u):x=y:=B6 (r.abs.symm.trans q.abs)
theorem Vals.inj: ∀{xs ys:List V} {us:List Value},Vals xs us->Vals ys us->xs=ys
 |_,_,_,.nil,.nil=>rfl
 |_,_,_,.cons r t,.cons r' t'=>by rw[r.inj r',Vals.inj t t']
section
variable{X:Cx}{a6:List (Addr×Obj)}{σ:St}{H:Hp}{s:A2}{a:Addr}{xs ys:List V}
theorem SqL.of{K:A8}(h:H a=some (.lst xs)):SqL K H a xs:= .inl (.inl h)
theorem SqT.of{K:A8}(h:H a=some (.tup xs)):SqT K H a xs:= .inl (.inl h)
theorem Inv.list(I:Inv X a6 σ H s)(h:SqL X.K H a xs): ∃its:List Value,Vals xs its/\PlainL s.heap a its.toArray/\xs.length<=sizeLine:=by
 rcases h with h|⟨o,its,n,hk,hc,hd,hs,hz,r⟩
 ·obtain⟨z,its,n,r,e⟩:=h.ok I.hok
  exact⟨its,r,⟨_,n,e,rfl,rfl,rfl⟩,z⟩
 ·refine ⟨its.toList,r,⟨o,n,I.kIn a o hk,hc,hd,by simpa using hs⟩,?_⟩
  have e:=r.length
  simp only[Dw] at e
  omega
theorem Inv.tuple(I:Inv X a6 σ H s)(h:SqT X.K H a xs): ∃its:List Value,Vals xs its/\IsTup s.heap a its.toArray/\xs.length<=sizeLine:=by
 rcases h with h|⟨o,its,n,hk,hc,hs,hz,r⟩
 ·obtain⟨z,its,r,p⟩:=h.ok I.hok
  exact⟨its,r,p,z⟩
 ·refine ⟨its.toList,r,⟨o,I.kIn a o hk,hc,n,by simpa using hs⟩,?_⟩
  have e:=r.length
  simp only[Dw] at e
  omega
theorem Inv.list_inj(I:Inv X a6 σ H s)(h:SqL X.K H a xs)(h':SqL X.K H a ys):xs=ys:=by
 obtain⟨its,r,⟨o,n,e,_,_,d⟩,_⟩:=I.list h
 obtain⟨its',r',⟨o',n',e',_,_,d'⟩,_⟩:=I.list h'
 rw[e] at e';cases e'
 rw[d] at d'
 injection d' with d1 _
 have:its=its':=by simpa using congrArg Mn d1
 subst this
 exact r.inj r'
theorem Inv.tuple_inj(I:Inv X a6 σ H s)(h:SqT X.K H a xs)(h':SqT X.K H a ys):xs=ys:=by
 obtain⟨its,r,⟨o,e,_,n,d⟩,_⟩:=I.tuple h
 obtain⟨its',r',⟨o',e',_,n',d'⟩,_⟩:=I.tuple h'
 rw[e] at e';cases e'
 rw[d] at d'
 injection d' with d1 _
 have:its=its':=by simpa using congrArg Mn d1
 subst this
 exact r.inj r'
end
abbrev Cx.wish(X:Cx)(E:Value->A2->Prop):Cx:={X with xe:=E}
abbrev Cx.nox(X:Cx):Cx:=X.wish fun _ _=>False
theorem Cx.Ok.wish{X:Cx}(ok:X.Ok)(E:Value->A2->Prop):(X.wish E).Ok:=
 ⟨ok.mod,ok.kind,ok.glob,ok.blt,ok.above,ok.inj,ok.has,ok.cab,ok.hd,ok.frames,ok.stk,ok.exf,ok.bs,ok.bsz,ok.noex,ok.exfs,ok.funs,ok.frf⟩
theorem Cx.Ok.unwish{X:Cx}{E:Value->A2->Prop}(ok:(X.wish E).Ok):X.Ok:=
 ⟨ok.mod,ok.kind,ok.glob,ok.blt,ok.above,ok.inj,ok.has,ok.cab,ok.hd,ok.frames,ok.stk,ok.exf,ok.bs,ok.bsz,ok.noex,ok.exfs,ok.funs,ok.frf⟩
section
variable{X:Cx}{a6:List (Addr×Obj)}{σ:St}{H:Hp}{s:A2}{E:Value->A2->Prop}
theorem Inv.wish(I:Inv X a6 σ H s)(E:Value->A2->Prop):Inv (X.wish E) a6 σ H s:=⟨I.ok.wish E,I.os,I.bare,I.base,I.loc,I.cell,I.free,I.freeC,I.pin,I.hok,I.len⟩
theorem Inv.unwish(I:Inv (X.wish E) a6 σ H s):Inv X a6 σ H s:=⟨I.ok.unwish,I.os,I.bare,I.base,I.loc,I.cell,I.free,I.freeC,I.pin,I.hok,I.len⟩
theorem SP.unwish{D:Ends}{f:Flow}{s':A2}(h:SP (X.wish E) a6 D f s'):SP X a6 D f s':=by
 cases f with
 |next=>obtain⟨σ',H',I,q⟩:=h;exact⟨σ',H',I.unwish,q⟩
 |brk=>obtain⟨σ',H',I,q⟩:=h;exact⟨σ',H',I.unwish,q⟩
 |cont=>obtain⟨σ',H',I,q⟩:=h;exact⟨σ',H',I.unwish,q⟩
 |ret u=>obtain⟨v,σ',H',I,r,q⟩:=h;exact⟨v,σ',H',I.unwish,r,q⟩
theorem PSs.nox{st:List Stmt}{t:TS}(h:PSs X.nox st t):PSs X st t:=fun a6 s σ H D I hw=>
 Ba (h a6 s σ H D (I.wish _) hw) (fun _ _ q=>q.unwish) fun _ _ z=>E7 z
end
section
variable{X:Cx}{st:Stmt}{rest:List Stmt}{t u:TS}{e:Expr}{te:TE}{pos:Pos}
def yD7:TS:=fun D σ H=>D.nx σ H
def tSeq(t u:TS):TS:=fun D σ H=>t {D with nx:=u D} σ H
theorem zPW:PSs X [] yD7:=fun _ _ σ H _ I h=>G0 ⟨σ,H,I,h⟩
theorem zGH(h1:PS X st t)(h2:PSs X rest u):PSs X (st::rest) (tSeq t u):=by
 intro a6 s σ H D I h
 refine wpAny_execs_cons (thn (h1 a6 s σ H {D with nx:=u D} I h) fun f s1 q=> ?_)
 cases f with
 |next=>
  obtain⟨σ',H',I',q⟩:=q
  exact h2 a6 s1 σ' H' D I' q
 |ret v=>exact q
 |brk=>exact q
 |cont=>exact q
theorem Inv.quiet{a6:List (Addr×Obj)}{σ:St}{H:Hp}{s:A2}(I:Inv X a6 σ H s):interactive X.env=false:=by simp[interactive,I.ok.kind]
def yD9(te:TE):TS:=fun D σ H=>te σ H fun _ H1=>D.nx σ H1
theorem zLF(he:PE X e te)(hs:Ec e none pos.line X.env=pure false:=by rfl):PS X (.Expr e pos) (yD9 te):=by
 intro a6 s σ H D I h
 exact wpAny_Expr_any (thn (he a6 s σ H _ I h) fun v s1 ⟨x,H1,I1,r1,q1⟩=>⟨σ,H1,I1,q1⟩) I.quiet hs
def tRet(te:TE):TS:=fun D σ H=>te σ H D.rt
theorem zPY(he:PE X e te):PS X (.Return (some e) pos) (tRet te):=by
 intro a6 s σ H D I h
 exact wpAny_Return_some (thn (he a6 s σ H _ I h) fun v s1 ⟨x,H1,I1,r1,q1⟩=>⟨x,σ,H1,I1,r1,q1⟩)
def tIfS(c:TT)(t u:TS):TS:=fun D σ H=>c σ H fun b H1=>if b=true then t D σ H1 else u D σ H1
theorem yA5{c:Expr}{a b:List Stmt}{tc:TT}(hc:PT X c tc)(ha:PSs X a t)(hb:PSs X b u):PS X (.If c a b pos) (tIfS tc t u):=by
 intro a6 s σ H D I h
 refine wpAny_If (thn (hc a6 s σ H _ I h) fun d s1 ⟨H1,I1,q1⟩=> ?_)
 cases d with
 |true=>exact ha a6 s1 σ H1 D I1 q1
 |false=>exact hb a6 s1 σ H1 D I1 q1
def zYV:TS:=fun _ _ _=>False
theorem zPX{sts:List Stmt}:PSs X sts zYV:=fun _ _ _ _ _ _ h=>h.elim
end
abbrev TG:=V->St->Hp->(St->Hp->Prop)->Prop
abbrev TGs:=List V->St->Hp->(St->Hp->Prop)->Prop
def PG(X:Cx)(bp:Expr)(t:TG):Prop:=
 ∀(a6:List (Addr×Obj)) (s:A2) (σ:St) (H:Hp) (v:V) (u:Value) (Q:St->Hp->Prop),Inv X a6 σ H s->RelV v u->t v σ H Q→
  wpAny (model X.prog X.w) X.A (assign bp X.env u) (fun _ s'=> ∃σ' H',Inv X a6 σ' H' s'/\Q σ' H') X.xe s
def PGs(X:Cx)(ts:List Expr)(t:TGs):Prop:=
 ∀(a6:List (Addr×Obj)) (s:A2) (σ:St) (H:Hp) (vs:List V) (us:List Value) (Q:St->Hp->Prop),Inv X a6 σ H s->Vals vs us->t vs σ H Q→
  wpAny (model X.prog X.w) X.A (assignInOrder ((assignEach ts X.env).map (·.2)) us) (fun _ s'=> ∃σ' H',Inv X a6 σ' H' s'/\Q σ' H') X.xe s
abbrev TSet:=V->V->V->Hp->(Hp->Prop)->Prop
def PSet(X:Cx)(t:TSet):Prop:=
 ∀(a6:List (Addr×Obj)) (s:A2) (σ:St) (H:Hp) (o i v:V) (ov iv u:Value) (Q:Hp->Prop),Inv X a6 σ H s->RelV o ov->RelV i iv->RelV v u->t o i v H Q→
  wpAny (model X.prog X.w) X.A (setItem ov iv u) (fun _ s'=> ∃H',Inv X a6 σ H' s'/\Q H') X.xe s
section
variable{X:Cx}{pos:Pos}
def zU0(i:Nat):TG:=fun v σ H Q=>Q (σ.set i (some v)) H
theorem zID{i:Nat}{x:Str}(hN:X.N.Nodup)(hi:X.N[i]? =some x)(hx:Loc X.env.scope x)(hf:X.fn x=true∨X.env.scope.names.lookup x=some .local:=by first|exact .inl rfl|exact .inr rfl|assumption):PG X (.Name x pos) (zU0 i):=by
 intro a6 s σ H v u Q I r h
 exact F2 (zCD I hN hi hx r (fun s' I'=>⟨_,H,I',h⟩) hf)
def gNil:TGs:=fun vs σ H Q=>vs=[]/\Q σ H
def yFU(t:TG)(u:TGs):TGs:=fun vs σ H Q=> ∃v r,vs=v::r/\t v σ H fun σ' H'=>u r σ' H' Q
theorem zQ6:PGs X [] gNil:=by
 intro a6 s σ H vs us Q I r h
 obtain⟨e,h⟩:=h
 subst e
 cases r
 exact F3 ⟨σ,H,I,h⟩
theorem zGI{e:Expr}{es:List Expr}{t:TG}{u:TGs}(h1:PG X e t)(h2:PGs X es u)
  (hs:(assignEach (e::es) X.env).map (·.2)=assign e X.env::(assignEach es X.env).map (·.2):=by rfl):PGs X (e::es) (yFU t u):=by
 intro a6 s σ H vs us Q I r h
 obtain⟨v,vr,e1,h⟩:=h
 subst e1
 cases r with
 |cons r rr=>
  rw[hs]
  refine Ck (thn (h1 a6 s σ H _ _ _ I r h) fun _ s1 ⟨σ1,H1,I1,q1⟩=> ?_)
  exact h2 a6 s1 σ1 H1 _ _ Q I1 rr q1
def gTup(K:A8)(n:Nat)(t:TGs):TG:=fun v σ H Q=> ∃a xs,v= .ref a/\SqT K H a xs/\xs.length=n/\t xs σ H Q
theorem yAA{es:List Expr}{k:Nat}{t:TGs}{n:Nat}(hc:X.calm=true)(h:PGs X es t)
  (hn:(assignEach es X.env).length=n:=by rfl) (hst:(assignEach es X.env).findIdx? (·.1)=none:=by rfl):PG X (.Tuple es k pos) (gTup X.K n t):=by
 intro a6 s σ H v u Q I r hw
 obtain⟨a,xs,e1,hq,hl,hw⟩:=hw
 subst e1
 cases r
 obtain⟨its,rv,ht,hz⟩:=I.tuple hq
 refine assign_Tuple_tuple (I.ok.hd hc) ht (by simp[hn,<- hl,rv.length]) hst fun h' hx=> ?_
 have I1:Inv X a6 σ H {s with heap:=h'}:=I.kept (t':=s.toks) fun b o e=>hx b o (Aq (Ae e)) e
 exact h a6 _ σ H xs _ Q I1 (by simpa using rv) hw
def gSub(to ti:TE)(t:TSet):TG:=fun v σ H Q=>to σ H fun o H1=>ti σ H1 fun i H2=>t o i v H2 fun H3=>Q σ H3
theorem yAB{o i:Expr}{to ti:TE}{t:TSet}(ho:PE X o to)(hi:PE X i ti)(hs:PSet X t)
  (ha: ∀v,assign (.Subscript o i pos) X.env v=(do
   let ov<- J8 [v] (eval o X.env)
   let iv<- J8 [v,ov] (eval i X.env)
   standAt pos
   J8 [v,ov,iv] (setItem ov iv v)
   release [v,ov,iv] []):=by intro _;rfl):PG X (.Subscript o i pos) (gSub to ti t):=by
 intro a6 s σ H v u Q I r h
 rw[ha]
 refine A0 (B7 (thn (ho a6 s σ H _ I h) fun ov s1 ⟨x,H1,I1,r1,q1⟩=> ?_))
 refine A0 (B7 (thn (hi a6 s1 σ H1 _ I1 q1) fun iv s2 ⟨y,H2,I2,r2,q2⟩=> ?_))
 refine A0 (E8 (A0 (B7 (thn (hs a6 s2 σ H2 x y v ov iv u _ I2 r1 r2 r q2) fun _ s3 ⟨H3,I3,q3⟩=> ?_))))
 exact wpAny_release ⟨σ,H3,I3,q3⟩
def tAsg(te:TE)(g:TG):TS:=fun D σ H=>te σ H fun x H1=>g x σ H1 D.nx
theorem zMN{tg e:Expr}{te:TE}{g:TG}(he:PE X e te)(hg:PG X tg g)(hs:Df [tg] e pos.line X.env=pure false:=by rfl)(hw:Dg [tg] e X.env=pure none:=by rfl)
  (h1:(assignEach [tg] X.env).map (·.2)=[assign tg X.env]:=by rfl):PS X (.Assign [tg] e pos) (tAsg te g):=by
 intro a6 s σ H D I h
 refine wpAny_Assign_stores (thn (he a6 s σ H _ I h) fun v s1 ⟨x,H1,I1,r1,q1⟩=> ?_) hs hw
 rw[h1]
 exact thn (hg a6 s1 σ H1 x v _ I1 r1 q1) fun _ s2 q=>q
theorem yA3{i:Nat}{x:Str}{e:Expr}{te:TE}{ap:Pos}(hN:X.N.Nodup)(hi:X.N[i]? =some x)(hx:Loc X.env.scope x)(he:PE X e te)(hs:Ec e (some (.Name x ap)) pos.line X.env=pure false:=by rfl)(hf:X.fn x=true∨X.env.scope.names.lookup x=some .local:=by first|exact .inl rfl|exact .inr rfl|assumption):
  PS X (.Assign [.Name x ap] e pos) (tAsg te (zU0 i)):=by
 intro a6 s σ H D I h
 refine wpAny_Assign_Name (thn (he a6 s σ H _ I h) fun v s1 ⟨y,H1,I1,r1,q1⟩=> ?_) hs
 exact zCD I1 hN hi hx r1 (fun s2 I2=>⟨_,H1,I2,q1⟩) hf
def tPar(i j:Nat)(ta:TA):TS:=fun D σ H=>ta σ H fun vs H1=> ∃v w,vs=[v,w]/\D.nx ((σ.set i (some v)).set j (some w)) H1
theorem yA4{i j:Nat}{x y:Str}{a b:Expr}{ta:TA}{px py pt:Pos}{kt k2 pt2}(hc:X.calm=true)(hN:X.N.Nodup)(hi:X.N[i]? =some x)(hj:X.N[j]? =some y)(hij:i≠j)
  (hx:X.env.scope.names.lookup x=some .local) (hy:X.env.scope.names.lookup y=some .local) (ha:PA X [a,b] ta)
  (hw:Dg [.Tuple [.Name x px,.Name y py] kt pt] (.Tuple [a,b] k2 pt2) X.env=pure (some [x,y]))
  (hs : Df [.Tuple [.Name x px,.Name y py] kt pt] (.Tuple [a,b] k2 pt2) pos.line X.env = pure false := by rfl) :
  PS X (.Assign [.Tuple [.Name x px,.Name y py] kt pt] (.Tuple [a,b] k2 pt2) pos) (tPar i j ta):=by
 intro a6 s σ H D I h
 rw[exec_Assign_arm]
 refine A0 (E8 ?_)
 rw[hs]
 refine A0 (A9 ?_)
 rw [if_neg (by decide)]
 refine A0 (Tuple_ (thn (ha _ a6 s σ H _ I h) fun us s1 ⟨vs,H1,I1,r1,q1⟩=> ?_))
 obtain⟨v,w,e1,q1⟩:=q1
 subst e1
 obtain⟨u1,u2,rfl,rv,rw'⟩: ∃u1 u2,us=[u1,u2]/\RelV v u1/\RelV w u2:=by
  cases r1 with
  |cons p q=>
   cases q with
   |cons p' q'=>
    cases q'
    exact⟨_,_,rfl,p,p'⟩
 refine C6 ?_ (by show 2<=sizeLine;decide)
 have I2:Inv X a6 σ H1 {s1 with heap:=s1.heap.push {cls:= .type "tuple",data:= .seq [u1,u2].toArray}}:=I1.kept (t':=s1.toks) fun b o e=>A1 _ e
 rw[hw]
 refine A0 (A9 ?_)
 show wpAny (model X.prog X.w) X.A (do rule "assign.swapped-stores";let items<- G1 (.ref s1.heap.objs.size) 2 none;assignInOrder [fun v=>Fp X.env y v,fun v=>Fp X.env x v] items.reverse;pure Flow.next) _ _ _
 refine A0 (F4 (A0 (Jv (items:= #[u1,u2]) (I.ok.hd hc) (G2 s1.heap _) fun h' hx'=> ?_)))
 have I3:=I2.kept (h':=h') (t':=s1.toks) fun b o e=>hx' b o (Aq (Ae e)) e
 show wpAny _ _ (assignInOrder [fun v=>Fp X.env y v,fun v=>Fp X.env x v] [u2,u1]>>=fun _=>pure Flow.next) _ _ _
 refine A0 (Ck (Fe (zCD I3 hN hj (.inl hy) rw' (fun s2 I4=> ?_) (.inr hy))))
 refine Ck (Fe (zCD I4 hN hi (.inl hx) rv (fun s3 I5=>F3 (A9 ?_)) (.inr hx)))
 rw[Cw _ _ (Cc hij)] at I5
 exact⟨_,H1,I5,q1⟩
end
section
variable{X:Cx}{pos:Pos}
def zYT(c:TT)(tb:TS):TS:=fun D σ H=> ∃W:Nat->St->Hp->Prop,(∃m,W m σ H)/\ ∀m σ H,W m σ H→
 c σ H fun b H1=>if b=true then∃N:St->Hp->Prop,(∀σ' H',N σ' H'-> ∃m',m'<m/\W m' σ' H')/\tb {D with nx:=N,ct:=N,bk:=D.nx} σ H1 else D.nx σ H1
theorem zT5{c:Expr}{body:List Stmt}{tc:TT}{tb:TS}(hp:Lb (model X.prog X.w) X.A X.env X.xe)(hc:PT X c tc)(hb:PSs X body tb):PS X (.While c body [] pos) (zYT tc tb):=by
 intro a6 s σ H D I h
 obtain⟨W,⟨m0,w0⟩,turn⟩:=h
 refine wpAny_While (codeAny_whileLoop (fun n s'=> ∃σ' H',Inv X a6 σ' H' s'/\W n σ' H') ?_ m0 ⟨σ,H,I,w0⟩)
 rintro n s1 ⟨σ1,H1,I1,w1⟩
 refine Dr hp (thn (hc a6 s1 σ1 H1 _ I1 (turn n σ1 H1 w1)) fun b s2 ⟨H2,I2,q2⟩=> ?_)
 cases b with
 |true=>
  obtain⟨N,hN,q2⟩:=q2
  rw[if_pos rfl]
  refine Dr hp (thn (hb a6 s2 σ1 H2 _ I2 q2) fun f s3 q3=> ?_)
  cases f with
  |next=>
   obtain⟨σ3,H3,I3,n3⟩:=q3
   obtain⟨m',hm,w3⟩:=hN σ3 H3 n3
   exact⟨m',hm,σ3,H3,I3,w3⟩
  |cont=>
   obtain⟨σ3,H3,I3,n3⟩:=q3
   obtain⟨m',hm,w3⟩:=hN σ3 H3 n3
   exact⟨m',hm,σ3,H3,I3,w3⟩
  |brk=>exact q3
  |ret v=>exact q3
 |false=>
  rw[if_neg Cb]
  exact G0 ⟨σ1,H2,I2,q2⟩
end
structure It where
 go:Nat->Hp->Prop
 yld:Nat->Hp->V->Hp->Prop
 stop:Nat->Hp->Prop
def FpOk(X:Cx)(a6:List (Addr×Obj))(H:Hp)(b:Addr):Prop:=
 H b=none/\b≠X.env.locals/\b∉X.fs/\(b∈X.ex∨X.s₀.heap.objs.size<=b)/\(∀x c,X.env.cells.lookup x=some c->c≠b)/\ ∀p∈X.pn++a6,p.1≠b
theorem Inv.fpOk{X:Cx}{a6:List (Addr×Obj)}{σ:St}{H H':Hp}{s:A2}{b:Addr}(I:Inv X a6 σ H s)(hb:s.heap.objs.size<=b)(hn:H' b=none):FpOk X a6 H' b:=by
 refine⟨hn,Eh (Al I.lt hb),I.nofs hb,.inr (Dd I.sz hb),fun x c e z=> ?_,fun p hp z=> ?_⟩
 ·obtain⟨v,q⟩:=I.cell x c e
  exact absurd (Al q.lt (by rw[z];exact hb)) (Bj _)
 ·exact absurd (Al (Ae (I.pin p hp).1) (by rw[z];exact hb)) (Bj _)
structure Turn(P:Aj)(w:World)(K:A8)(tg:Expr)(J:It)(fp:List Addr)(it:Addr)(tn:Nat->Heap->Prop):Prop where
 mem:it∈fp
 obj: ∀i h,tn i h-> ∀b∈fp,∃o,h.get? b=some o/\ ∀v,o.data≠ .cell v
 keep: ∀i h h',tn i h->(∀b∈fp,∀o,h.get? b=some o->h'.get? b=some o)->tn i h'
 item: ∀(X:Cx),X.prog=P->X.w=w->X.K=K->X.calm=true-> ∀(i:Nat) (a6:List (Addr×Obj)) (s:A2) (σ:St) (H:Hp) (E:Value->A2->Prop),Inv X a6 σ H s->(∀b∈fp,FpOk X a6 H b)->tn i s.heap->J.go i H→
  wpAny (model P w) X.A (pyNext (.ref it)) (fun r s1=> ∃u,r=some u∧
   wpAny (model P w) X.A (G3 tg (.ref it) u) (fun _ s2=> ∃x H',Inv X a6 σ H' s2/\RelV x u/\J.yld i H x H'/\tn (i+1) s2.heap/\ ∀b∈fp,H' b=none) E s1) E s
 done: ∀(X:Cx),X.prog=P->X.w=w->X.K=K->X.calm=true-> ∀(i:Nat) (a6:List (Addr×Obj)) (s:A2) (σ:St) (H:Hp) (E:Value->A2->Prop),Inv X a6 σ H s->(∀b∈fp,FpOk X a6 H b)->tn i s.heap->J.stop i H→
  wpAny (model P w) X.A (pyNext (.ref it)) (fun r s1=>r=none/\Inv X a6 σ H s1) E s
 self: ∀(A:B8) (i:Nat) (s:A2) (Q:Value->A2->Prop) (E:Value->A2->Prop),tn i s.heap->Q (.ref it) s->wpAny (model P w) A (pyIter (.ref it)) Q E s
abbrev TI:=St->Hp->(It->Hp->Prop)->Prop
def PIE(X:Cx)(a6:List (Addr×Obj))(σ:St)(tg:Expr)(R:It->Hp->Prop)(itv:Value)(s2:A2):Prop:=
 ∃(it:Addr) (fp:List Addr) (tn:Nat->Heap->Prop) (J:It) (H':Hp),itv= .ref it/\Inv X a6 σ H' s2/\Turn X.prog X.w X.K tg J fp it tn/\tn 0 s2.heap/\(∀b∈fp,FpOk X a6 H' b)/\R J H'
def PI(X:Cx)(tg iter:Expr)(wi:TI):Prop:=
 ∀(a6:List (Addr×Obj)) (s:A2) (σ:St) (H:Hp) (R:It->Hp->Prop),Inv X a6 σ H s->wi σ H R→
  wpAny (model X.prog X.w) X.A (eval iter X.env) (fun v s1=>wpAny (model X.prog X.w) X.A (pyIter v) (PIE X a6 σ tg R) X.xe s1) X.xe s
theorem zXT{M:Model}{A:B8}{E:Value->A2->Prop}{s:A2}{tg:Expr}{it:Addr}{u:Value}{o:Obj}{n:String}{vs:Array Value}{Q:Unit->A2->Prop}(ho:s.heap.get? it=some o)(hc:o.cls= .type n)(hd:o.data= .fields vs)
    (hn:["enumerate","zip","dict_itemiterator","dict_reverseitemiterator","odict_iterator","itertools.zip_longest","itertools.pairwise"].contains n=false) (hQ:Q () s):wpAny M A (G3 tg (.ref it) u) Q E s:=by
  unfold G3
  cases tg<;>first
    |exact A9 hQ
    |(cases u<;>first
        |exact A9 hQ
        | (refine A0 (wpAny_load ho ?_)
           rw[hc,hd]
           show wpAny M A (if(["enumerate","zip","dict_itemiterator","dict_reverseitemiterator","odict_iterator","itertools.zip_longest","itertools.pairwise"].contains n && vs[0]? ==some (rawInt _))=true then _ else _) Q E s
           rw[if_neg (by intro h;rw[hn,Bool.false_and] at h;cases h)]
           exact A9 hQ))
noncomputable def Itl(K:A8)(a:Addr):It:=
 ⟨fun i H=> ∃xs x,SqL K H a xs/\xs[i]? =some x,fun i H x H'=>H'=H/\ ∀xs,SqL K H a xs->xs[i]? =some x,fun i H=> ∃xs,SqL K H a xs/\xs.length<=i⟩
noncomputable def Itt(K:A8)(a:Addr):It:=
 ⟨fun i H=> ∃xs x,SqT K H a xs/\xs[i]? =some x,fun i H x H'=>H'=H/\ ∀xs,SqT K H a xs->xs[i]? =some x,fun i H=> ∃xs,SqT K H a xs/\xs.length<=i⟩
noncomputable def Itr(lo:Int)(n:Nat):It:=⟨fun i _=>i<n,fun i H x H'=>H'=H/\x= .int (lo+i),fun i _=>n<=i⟩
theorem zOY{P:Aj}{w:World}{K:A8}{tg:Expr}(a it:Addr):Turn P w K tg (Itl K a) [it] it (fun i h=>h.IsListIter it a i) where
 mem:=by simp
 obj:=fun i h st b hb=>by
  have e:b=it:=by simpa using hb
  subst e
  obtain⟨o,e,c,d⟩:=st
  exact⟨o,e,fun v z=>by rw[d] at z;cases z⟩
 keep:=fun i h h' st k=>st.at fun o e=>k it (by simp) o e
 item:=by
  intro X hP hw hK hc i a6 s σ H E I hf st hg
  subst hP hw hK
  obtain⟨xs,x,hq,hx⟩:=hg
  obtain⟨its,rv,p,hz⟩:=I.list hq
  obtain⟨u,hu,ru⟩:=rv.get hx
  obtain⟨f0,f1,f2,f3,f4,f5⟩:=hf it (by simp)
  refine Ht st p.isList (x:=u) (by simpa using hu) fun h' st' sb=> ?_
  have I1:Inv X a6 σ H {s with heap:=h'}:=I.turned (t':=s.toks) (fun b o hb e=>(sb.2 b hb).trans e) f0 f1 f3 f4 f5
  obtain⟨o,e,c,d⟩:=id st'
  exact⟨u,rfl,zXT (s:={s with heap:=h'}) e c d (by decide) ⟨x,H,I1,ru,⟨rfl,fun ys hy=>by rw[I.list_inj hy hq];exact hx⟩,st',fun b hb=>(hf b hb).1⟩⟩
 done:=by
  intro X hP hw hK hc i a6 s σ H E I hf st hg
  subst hP hw hK
  obtain⟨xs,hq,hx⟩:=hg
  obtain⟨its,rv,p,hz⟩:=I.list hq
  obtain⟨f0,f1,f2,f3,f4,f5⟩:=hf it (by simp)
  have hl:=rv.length
  exact Ia (I.ok.hd hc) st p.isList (by simp;omega) fun h' eb=>⟨rfl,I.turned (t':=s.toks) (fun b o hb e=>eb b o hb e) f0 f1 f3 f4 f5⟩
 self:=fun _ _ _ _ _ st h=>wpAny_pyIter_listiter st h
theorem zNH{P:Aj}{w:World}{K:A8}{tg:Expr}(a it:Addr):Turn P w K tg (Itt K a) [it] it (fun i h=>h.IsTupleIter it a i) where
 mem:=by simp
 obj:=fun i h st b hb=>by
  have e:b=it:=by simpa using hb
  subst e
  obtain⟨o,e,c,d⟩:=st
  exact⟨o,e,fun v z=>by rw[d] at z;cases z⟩
 keep:=fun i h h' st k=>st.at fun o e=>k it (by simp) o e
 item:=by
  intro X hP hw hK hc i a6 s σ H E I hf st hg
  subst hP hw hK
  obtain⟨xs,x,hq,hx⟩:=hg
  obtain⟨its,rv,p,hz⟩:=I.tuple hq
  obtain⟨u,hu,ru⟩:=rv.get hx
  obtain⟨f0,f1,f2,f3,f4,f5⟩:=hf it (by simp)
  refine wpAny_pyNext_tuple_item st (show s.heap.IsTuple a its.toArray from p) (x:=u) (by simpa using hu) fun h' st' sb=> ?_
  have I1:Inv X a6 σ H {s with heap:=h'}:=I.turned (t':=s.toks) (fun b o hb e=>(sb.2 b hb).trans e) f0 f1 f3 f4 f5
  obtain⟨o,e,c,d⟩:=id st'
  exact⟨u,rfl,zXT (s:={s with heap:=h'}) e c d (by decide) ⟨x,H,I1,ru,⟨rfl,fun ys hy=>by rw[I.tuple_inj hy hq];exact hx⟩,st',fun b hb=>(hf b hb).1⟩⟩
 done:=by
  intro X hP hw hK hc i a6 s σ H E I hf st hg
  subst hP hw hK
  obtain⟨xs,hq,hx⟩:=hg
  obtain⟨its,rv,p,hz⟩:=I.tuple hq
  obtain⟨f0,f1,f2,f3,f4,f5⟩:=hf it (by simp)
  have hl:=rv.length
  exact wpAny_pyNext_tuple_end (I.ok.hd hc) st (show s.heap.IsTuple a its.toArray from p) (by simp;omega) fun h' eb=>⟨rfl,I.turned (t':=s.toks) (fun b o hb e=>eb b o hb e) f0 f1 f3 f4 f5⟩
 self:=fun _ _ _ _ _ st h=>wpAny_pyIter_tupleiter st h
theorem zNI{P:Aj}{w:World}{K:PySem.W.Frag}{tg:Expr}(it:Addr)(lo:Int)(n:Nat):Turn P w K tg (Itr lo n) [it] it (fun i h=>IsRangeIter h it (lo+(i:Nat)*1) ((n:Int) - (i:Nat)) 1) where
 mem:=by simp
 obj:=fun i h st b hb=>by
  have e:b=it:=by simpa using hb
  subst e
  exact⟨_,st,fun v z=>by
   have z':Data.fields _=Data.cell v:=z
   cases z'⟩
 keep:=fun i h h' st k=>k it (by simp) _ st
 item:=by
  intro X hP hw hK hc i a6 s σ H E I hf st hg
  subst hP hw hK
  obtain⟨f0,f1,f2,f3,f4,f5⟩:=hf it (by simp)
  have W:=Walks.range (prog:=X.prog) (w:=X.w) (I.ok.hd hc) it lo 1 n
  refine W.item i s _ _ hg st fun v h' tk hv st' kk=> ?_
  obtain⟨t,rfl⟩:=hv
  have I1:Inv X a6 σ H {s with heap:=h',toks:=tk}:=I.turned (fun b o hb e=>kk b o (by simpa using hb) e) f0 f1 f3 f4 f5
  refine⟨_,rfl,zXT (s:={s with heap:=h',toks:=tk}) (n:= "range_iterator") st' rfl rfl (by decide) ⟨.int (lo+i),H,I1,⟨t,?_⟩,⟨rfl,rfl⟩,st',fun b hb=>(hf b hb).1⟩⟩
  rw[Int.mul_one]
 done:=by
  intro X hP hw hK hc i a6 s σ H E I hf st hg
  subst hP hw hK
  obtain⟨f0,f1,f2,f3,f4,f5⟩:=hf it (by simp)
  exact wpAny_pyNext_range_end (I.ok.hd hc) st (by have:n<=i:=hg;omega) fun h' eb=>⟨rfl,I.turned (t':=s.toks) (fun b o hb e=>eb b o hb e) f0 f1 f3 f4 f5⟩
 self:=fun _ _ _ _ _ st h=>wpAny_pyIter_rangeiter st h
section
variable{X:Cx}{tg:Expr}
def yC9(K:A8)(tl:TE):TI:=fun σ H R=>tl σ H fun x H1=> ∃a,x= .ref a/\(∃xs,SqL K H1 a xs)/\R (Itl K a) H1
def iTup(K:A8)(tl:TE):TI:=fun σ H R=>tl σ H fun x H1=> ∃a,x= .ref a/\(∃xs,SqT K H1 a xs)/\R (Itt K a) H1
theorem zWO{l:Expr}{tl:TE}(hl:PE X l tl):PI X tg l (yC9 X.K tl):=by
 intro a6 s σ H R I h
 refine thn (hl a6 s σ H _ I h) fun v s1 ⟨x,H1,I1,r1,q1⟩=> ?_
 obtain⟨a,e,⟨xs,hq⟩,q⟩:=q1
 subst e
 cases r1
 obtain⟨its,rv,p,hz⟩:=I1.list hq
 refine E9 p.isList ?_
 refine⟨s1.heap.objs.size,[s1.heap.objs.size],_,_,H1,rfl,I1.kept (t':=s1.toks) fun b o e=>A1 _ e,zOY a _,⟨_,Ai _ rfl,rfl,rfl⟩,fun b hb=> ?_,q⟩
 have e:b=s1.heap.objs.size:=by simpa using hb
 subst e
 exact I1.fpOk (Af _) (I1.hok.fresh (Af _))
theorem yA9{l:Expr}{tl:TE}(hl:PE X l tl):PI X tg l (iTup X.K tl):=by
 intro a6 s σ H R I h
 refine thn (hl a6 s σ H _ I h) fun v s1 ⟨x,H1,I1,r1,q1⟩=> ?_
 obtain⟨a,e,⟨xs,hq⟩,q⟩:=q1
 subst e
 cases r1
 obtain⟨its,rv,p,hz⟩:=I1.tuple hq
 refine Eo (show s1.heap.IsTuple a its.toArray from p) ?_
 refine⟨s1.heap.objs.size,[s1.heap.objs.size],_,_,H1,rfl,I1.kept (t':=s1.toks) fun b o e=>A1 _ e,zNH a _,⟨_,Ai _ rfl,rfl,rfl⟩,fun b hb=> ?_,q⟩
 have e:b=s1.heap.objs.size:=by simpa using hb
 subst e
 exact I1.fpOk (Af _) (I1.hok.fresh (Af _))
theorem zMK{a6:List (Addr×Obj)}{σ:St}{H:Hp}{s:A2}{R:It->Hp->Prop}{E:Value->A2->Prop}{lo hi:Int}{t u v:Tok}{tk:Nat}(I:Inv X a6 σ H s)(h1: -(2 ^ 62)<=lo)(h2:lo<2 ^ 62)(h3: -(2 ^ 62)<=hi)(h4:hi<2 ^ 62)
  (q:R (Itr lo (hi - lo).toNat) H):wpAny (model X.prog X.w) X.A (pyIter (.ref s.heap.objs.size)) (PIE X a6 σ tg R) E {s with heap:=s.heap.push {cls:= .type "range",data:= .fields #[.int lo t,.int hi u,.int 1 v]},toks:=tk}:=by
 refine wpAny_pyIter_range (Mv ..) (small_one h1 h2 h3 h4) ?_
 have I1:Inv X a6 σ H {s with heap:=s.heap.push {cls:= .type "range",data:= .fields #[.int lo t,.int hi u,.int 1 v]},toks:=tk}:=I.kept fun b o e=>A1 _ e
 refine⟨(s.heap.push {cls:= .type "range",data:= .fields #[.int lo t,.int hi u,.int 1 v]}).objs.size,[(s.heap.push {cls:= .type "range",data:= .fields #[.int lo t,.int hi u,.int 1 v]}).objs.size],_,_,H,rfl,
  I1.kept (t':=tk) fun b o e=>A1 _ e,zNI _ lo (hi - lo).toNat,?_,fun b hb=> ?_,q⟩
 ·have e1 : lo + ((0 : Nat) : Int) * 1 = lo := by simp
  have e2:(((hi - lo).toNat:Nat):Int) - ((0:Nat):Int)=Ep lo hi 1:=by rw[rangeSize_one];split<;>omega
  show IsRangeIter _ _ (lo+((0:Nat):Int)*1) ((((hi - lo).toNat:Nat):Int) - ((0:Nat):Int)) 1
  rw[e1,e2]
  exact Ai _ rfl
 ·have e : b = (s.heap.push { cls := .type "range",data := .fields #[.int lo t,.int hi u,.int 1 v] }).objs.size := by simpa using hb
  subst e
  exact I1.fpOk (Af _) (I1.hok.fresh (Af _))
def yFJ(ta:TA):TI:=fun σ H R=>ta σ H fun vs H1=> ∃j:Int,vs=[.int j]/\ -(2 ^ 62)<=j/\j<2 ^ 62/\R (Itr 0 j.toNat) H1
def yFI(ta:TA):TI:=fun σ H R=>ta σ H fun vs H1=> ∃i j:Int,vs=[.int i,.int j]/\(-(2 ^ 62)<=i/\i<2 ^ 62/\ -(2 ^ 62)<=j/\j<2 ^ 62)/\R (Itr i (j - i).toNat) H1
theorem zQ5{a:Expr}{ta:TA}{p pos:Pos}(hg:Gl X "range") (hm:X.mg "range"=none) (ha:PA X [a] ta) (hs:starEach [a] X.env=[(false,eval a X.env)]:=by rfl):PI X tg (.Call (.Name "range" p) [a] [] pos) (yFJ ta):=by
 intro a6 s σ H R I h
 refine Call_ (zGZ I hg hm boot_range (Cm (thn (ha pos a6 s σ H _ I h) fun us s1 ⟨vs,H1,I1,r1,q1⟩=> ?_) hs rfl))
 obtain⟨j,e,q1,q2,q⟩:=q1
 subst e
 cases r1 with
 |cons r rr=>
  cases rr
  obtain⟨t,rfl⟩:=r
  exact call_range_1 (zMK I1 (by omega) (by omega) q1 q2 (by simpa using q))
theorem zQ4{a b:Expr}{ta:TA}{p pos:Pos}(hg:Gl X "range") (hm:X.mg "range"=none) (ha:PA X [a,b] ta) (hs:starEach [a,b] X.env=[(false,eval a X.env),(false,eval b X.env)]:=by rfl) (hs2:starEach [b] X.env=[(false,eval b X.env)]:=by rfl):
  PI X tg (.Call (.Name "range" p) [a,b] [] pos) (yFI ta):=by
 intro a6 s σ H R I h
 refine Call_ (zGZ I hg hm boot_range (Cm (thn (ha pos a6 s σ H _ I h) fun us s1 ⟨vs,H1,I1,r1,q1⟩=> ?_) (by rw[hs,hs2]) (by rw[hs2];rfl)))
 obtain⟨i,j,e,⟨q1,q2,q3,q4⟩,q⟩:=q1
 subst e
 cases r1 with
 |cons r rr=>
  cases rr with
  |cons r' rr=>
   cases rr
   obtain⟨t,rfl⟩:=r
   obtain⟨t',rfl⟩:=r'
   exact call_range_2 (zMK I1 q1 q2 q3 q4 q)
def tFor(wi:TI)(g:TG)(tb:TS):TS:=fun D σ H=>wi σ H fun J H1=> ∃W:Nat->Nat->St->Hp->Prop,(∃m,W 0 m σ H1)/\ ∀i m σ H,W i m σ H→
 (J.stop i H/\D.nx σ H)∨(J.go i H/\ ∃N:St->Hp->Prop,(∀σ' H',N σ' H'-> ∃m',m'<m/\W (i+1) m' σ' H')/\ ∀x H',J.yld i H x H'->g x σ H' fun σ2 H2=>tb {D with nx:=N,ct:=N,bk:=D.nx} σ2 H2)
noncomputable def zJZ(fp:List Addr)(h:Heap):List (Addr×Obj):=fp.filterMap fun b=>(h.get? b).map fun o=>(b,o)
theorem zE3{fp:List Addr}{h:Heap}{b:Addr}{o:Obj}(hb:b∈fp)(e:h.get? b=some o):(b,o)∈zJZ fp h:=Gm.mpr ⟨b,hb,by rw[e];rfl⟩
theorem zQF{fp:List Addr}{h:Heap}{p:Addr×Obj}(hp:p∈zJZ fp h):p.1∈fp/\h.get? p.1=some p.2:=by
 obtain⟨b,hb,e⟩:=Gm.mp hp
 cases q:h.get? b with
 |none=>rw[q] at e;cases e
 |some o=>
  rw[q] at e
  have e':(b,o)=p:=B6 e
  subst e'
  exact⟨hb,q⟩
theorem Inv.pinned{a6:List (Addr×Obj)}{σ:St}{H:Hp}{s:A2}{fp:List Addr}(I:Inv X a6 σ H s)(hf: ∀b∈fp,FpOk X a6 H b)(ho: ∀b∈fp,∃o,s.heap.get? b=some o/\ ∀v,o.data≠ .cell v):Inv X (a6++zJZ fp s.heap) σ H s:=
 I.pins_of fun p hp=>(Aw.mp hp).elim (fun z=>I.pin p (Ax _ z)) fun z=>by
  obtain⟨hb,e⟩:=zQF z
  obtain⟨f0,f1,f2,_⟩:=hf p.1 hb
  obtain⟨o,e',d⟩:=ho p.1 hb
  rw[e] at e';cases e'
  exact⟨e,f0,f1,f2,d⟩
theorem Inv.unpinned{a6 pl:List (Addr×Obj)}{σ:St}{H:Hp}{s:A2}(I:Inv X (a6++pl) σ H s):Inv X a6 σ H s:=I.pins_of fun p hp=>I.pin p (Ax _ (Az _ hp))
theorem yA6{iter:Expr}{body:List Stmt}{wi:TI}{g:TG}{tb:TS}{pos:Pos}(hp:Lb (model X.prog X.w) X.A X.env X.xe)(hc:X.calm=true)(hi:PI X tg iter wi)(hg:PG X tg g)(hb:PSs X body tb)
  (hs : ∀ x,foldedSetIterable iter X.env x = pure x := by intro _;rfl) : PS X (.For tg iter body [] pos) (tFor wi g tb) := by
 intro a6 s σ H D I h
 refine wpAny_For (thn (hi a6 s σ H _ I h) fun v s1 h1=>thn h1 fun itv s2 h2=> ?_) hs
 obtain⟨it,fp,tn,J,H2,e,I2,T,st2,f2,W,⟨m0,w0⟩,turn⟩:=h2
 subst e
 have stat: ∀{H':Hp},(∀b∈fp,H' b=none)-> ∀b∈fp,FpOk X a6 H' b:=fun hn b hb=>⟨hn b hb,(f2 b hb).2⟩
 refine codeAny_forLoop_any (fun n s'=> ∃i σ' H',Inv X a6 σ' H' s'/\tn i s'.heap/\(∀b∈fp,H' b=none)/\W i n σ' H') ?_ m0 ⟨0,σ,H2,I2,st2,fun b hb=>(f2 b hb).1,w0⟩
 rintro n s3 ⟨i,σ3,H3,I3,st3,fr3,w3⟩
 rcases turn i n σ3 H3 w3 with⟨stop,qn⟩|⟨go,N,hN,step⟩
 ·refine Dr hp (thn (T.done X rfl rfl rfl hc i a6 s3 σ3 H3 X.xe I3 (stat fr3) st3 stop) fun r s4 ⟨hr,I4⟩ => ?_)
  subst hr
  exact G0 ⟨σ3,H3,I4,qn⟩
 ·refine Dr hp (thn (T.item X rfl rfl rfl hc i a6 s3 σ3 H3 X.xe I3 (stat fr3) st3 go) fun r s4 ⟨u,hr,h4⟩ => ?_)
  subst hr
  refine Dr hp (thn h4 fun _ s5 ⟨x,H5,I5,r5,y5,st5,fr5⟩=> ?_)
  have I5':=I5.pinned (stat fr5) (T.obj _ _ st5)
  refine Dr hp (thn (hg _ s5 σ3 H5 x u _ I5' r5 (step x H5 y5)) fun _ s6 ⟨σ6,H6,I6,q6⟩=> ?_)
  refine Dr hp (thn (hb _ s6 σ6 H6 _ I6 q6) fun f s7 q7=> ?_)
  have zDK: ∀{σ7:St} {H7:Hp},Inv X (a6++zJZ fp s5.heap) σ7 H7 s7->N σ7 H7-> ∃m,m<n/\ ∃i σ' H',Inv X a6 σ' H' s7/\tn i s7.heap/\(∀b∈fp,H' b=none)/\W i m σ' H':=fun{σ7 H7} I7 n7=>by
   obtain⟨m',hm,w7⟩:=hN σ7 H7 n7
   refine⟨m',hm,i+1,σ7,H7,I7.unpinned,T.keep _ _ _ st5 fun b hb o e=>(I7.pin (b,o) (Ax _ (Ax _ (zE3 hb e)))).1,fun b hb=> ?_,w7⟩
   obtain⟨o,e,d⟩:=T.obj _ _ st5 b hb
   exact(I7.pin (b,o) (Ax _ (Ax _ (zE3 hb e)))).2.1
  cases f with
  |next=>obtain⟨σ7,H7,I7,n7⟩:=q7;exact zDK I7 n7
  |cont=>obtain⟨σ7,H7,I7,n7⟩:=q7;exact zDK I7 n7
  |brk=>obtain⟨σ7,H7,I7,q7⟩:=q7;exact⟨σ7,H7,I7.unpinned,q7⟩
  |ret v=>obtain⟨x7,σ7,H7,I7,r7,q7⟩:=q7;exact⟨x7,σ7,H7,I7.unpinned,r7,q7⟩
end
abbrev R2:=V->V->Hp->VK->Prop
def OpR(X:Cx)(f:Value->Value->Sem Value)(r:R2):Prop:=
 ∀(a6:List (Addr×Obj)) (s:A2) (σ:St) (H:Hp) (x y:V) (v u:Value) (Q:VK),Inv X a6 σ H s->RelV x v->RelV y u->r x y H Q→
  wpAny (model X.prog X.w) X.A (f v u) (EP X a6 σ Q) X.xe s
def UnR(X:Cx)(f:Value->Sem Value)(r:V->Hp->VK->Prop):Prop:=
 ∀(a6:List (Addr×Obj)) (s:A2) (σ:St) (H:Hp) (x:V) (v:Value) (Q:VK),Inv X a6 σ H s->RelV x v->r x H Q→
  wpAny (model X.prog X.w) X.A (f v) (EP X a6 σ Q) X.xe s
def zBY(X:Cx)(f:Value)(r:List V->Hp->VK->Prop):Prop:=
 ∀(a6:List (Addr×Obj)) (s:A2) (σ:St) (H:Hp) (xs:List V) (us:List Value) (Q:VK),Inv X a6 σ H s->Vals xs us->r xs H Q→
  wpAny (model X.prog X.w) X.A (call f us) (EP X a6 σ Q) X.xe s
def tOp(r:R2)(ta tb:TE):TE:=fun σ H Q=>ta σ H fun x H1=>tb σ H1 fun y H2=>r x y H2 Q
def tUn(r:V->Hp->VK->Prop)(ta:TE):TE:=fun σ H Q=>ta σ H fun x H1=>r x H1 Q
def rI(C:Int->Int->Prop)(g:Int->Int->V):R2:=fun x y H Q=> ∃i j,x= .int i/\y= .int j/\C i j/\Q (g i j) H
def rI0(g:Int->Int->V):R2:=fun x y H Q=> ∃i j,x= .int i/\y= .int j/\Q (g i j) H
def rU(g:Int->V):V->Hp->VK->Prop:=fun x H Q=> ∃i,x= .int i/\Q (g i) H
section
variable{X:Cx}{a b c:Expr}{ta tb tc:TE}{pos:Pos}
theorem binT(ha:PE X a ta)(hb:PE X b tb){a6:List (Addr×Obj)}{s:A2}{σ:St}{H:Hp}{R:V->V->Hp->Prop}(I:Inv X a6 σ H s)
  (h:ta σ H fun x H1=>tb σ H1 fun y H2=>R x y H2) {Q:Value->A2->Prop} {f:Value->Value->Sem Value}
  (hf: ∀v u s2 x y H2,Inv X a6 σ H2 s2->RelV x v->RelV y u->R x y H2->wpAny (model X.prog X.w) X.A (f v u) Q X.xe s2):
  wpAny (model X.prog X.w) X.A (eval a X.env) (fun v s₁=>wpAny (model X.prog X.w) X.A (eval b X.env) (fun u s₂=>wpAny (model X.prog X.w) X.A (f v u) Q X.xe s₂) X.xe s₁) X.xe s:=by
 refine thn (ha a6 s σ H _ I h) fun v s1 ⟨x,H1,I1,r1,q1⟩=> ?_
 refine thn (hb a6 s1 σ H1 _ I1 q1) fun u s2 ⟨y,H2,I2,r2,q2⟩=> ?_
 exact hf v u s2 x y H2 I2 r1 r2 q2
theorem yAD{op:Operator}{r:R2}(ho:OpR X (Dh op) r)(ha:PE X a ta)(hb:PE X b tb):PE X (.BinOp a op b pos) (tOp r ta tb):=by
 intro a6 s σ H Q I h
 exact wpAny_BinOp (binT ha hb I h fun v u s2 x y H2 I2 rx ry q=>ho a6 s2 σ H2 x y v u Q I2 rx ry q)
theorem yE6{op:UnaryOp}{r:V->Hp->VK->Prop}(ho:UnR X (unaryOp op) r)(ha:PE X a ta):PE X (.UnaryOp op a pos) (tUn r ta):=by
 intro a6 s σ H Q I h
 exact UnaryOp_ (thn (ha a6 s σ H _ I h) fun v s1 ⟨x,H1,I1,r1,q1⟩=>ho a6 s1 σ H1 x v Q I1 r1 q1)
theorem opI{f:Value->Value->Sem Value}{C:Int->Int->Prop}{g:Int->Int->Int}
  (rule: ∀(i j:Int) (t u:Tok) (s:A2) (Q:Value->A2->Prop) (E:Value->A2->Prop),C i j->Q (.int (g i j) s.toks) {s with toks:=s.toks+1}->wpAny (model X.prog X.w) X.A (f (.int i t) (.int j u)) Q E s):
  OpR X f (rI C fun i j=> .int (g i j)):=by
 intro a6 s σ H x y v u Q I rx ry h
 obtain⟨i,j,rfl,rfl,hc,q⟩:=h
 obtain⟨t,rfl⟩:=rx
 obtain⟨t',rfl⟩:=ry
 exact rule i j t t' s _ _ hc ⟨.int (g i j),H,I.tok _,⟨_,rfl⟩,q⟩
theorem opI0{f:Value->Value->Sem Value}{g:Int->Int->Int}
  (rule: ∀(i j:Int) (t u:Tok) (s:A2) (Q:Value->A2->Prop) (E:Value->A2->Prop),Q (.int (g i j) s.toks) {s with toks:=s.toks+1}->wpAny (model X.prog X.w) X.A (f (.int i t) (.int j u)) Q E s):
  OpR X f (rI0 fun i j=> .int (g i j)):=by
 intro a6 s σ H x y v u Q I rx ry h
 obtain⟨i,j,rfl,rfl,q⟩:=h
 obtain⟨t,rfl⟩:=rx
 obtain⟨t',rfl⟩:=ry
 exact rule i j t t' s _ _ ⟨.int (g i j),H,I.tok _,⟨_,rfl⟩,q⟩
theorem opB0{f:Value->Value->Sem Value}{g:Int->Int->Bool}
  (rule: ∀(i j:Int) (t u:Tok) (s:A2) (Q:Value->A2->Prop) (E:Value->A2->Prop),Q (.bool (g i j)) s->wpAny (model X.prog X.w) X.A (f (.int i t) (.int j u)) Q E s):
  OpR X f (rI0 fun i j=> .bl (g i j)):=by
 intro a6 s σ H x y v u Q I rx ry h
 obtain⟨i,j,rfl,rfl,q⟩:=h
 obtain⟨t,rfl⟩:=rx
 obtain⟨t',rfl⟩:=ry
 exact rule i j t t' s _ _ ⟨.bl (g i j),H,I,rfl,q⟩
def CDiv(i j:Int):Prop:=0<j/\j<1073741824
def CPow(i j:Int):Prop:=0<=j/\j<=1000000/\i.natAbs<2 ^ 64
def CMul(i j:Int):Prop:=(-(2 ^ 64)<i/\i<2 ^ 64)∨(-(2 ^ 64)<j/\j<2 ^ 64)
theorem CMul.ok{i j:Int}(h:CMul i j):IntMulOk i j:=by
 rcases h with⟨h1,h2⟩|⟨h1,h2⟩
 ·exact .of_left (intBits_le_64 h1 h2)
 ·exact .of_right (intBits_le_64 h1 h2)
theorem yAN:OpR X (Dh .Add) (rI0 fun i j=> .int (i+j)):=opI0 fun _ _ _ _ _ _ _ q=>add_int q
theorem zG4:OpR X (Dh .Sub) (rI0 fun i j=> .int (i - j)):=opI0 fun _ _ _ _ _ _ _ q=>sub_int q
theorem yAK:OpR X (Dh .Mult) (rI CMul fun i j=> .int (i*j)):=opI fun _ _ _ _ _ _ _ hc q=>mul_int q hc.ok
theorem zLG:OpR X (Dh .FloorDiv) (rI CDiv fun i j=> .int (i/j)):=opI fun i j _ _ _ _ _ hc q=>by
 have h1:(0:Int)<j:=hc.1
 have h2:j<1073741824:=hc.2
 exact floordiv_int (by omega) (by rw[Int.fdiv_eq_ediv_of_nonneg i (by omega)];exact q) (.inl (PyProof.noPylong_small (by omega)))
theorem zDT:OpR X (Dh .Mod) (rI (fun _ j=>0<j) fun i j=> .int (i % j)):=opI fun i j _ _ _ _ _ hc q=>by
 have h1:(0:Int)<j:=hc
 exact mod_int' (by omega) (by rw[Int.fmod_eq_emod_of_nonneg i (by omega)];exact q)
theorem yAI:OpR X (Dh .Pow) (rI CPow fun i j=> .int (i ^ j.toNat)):=opI fun _ _ _ _ _ _ _ hc q=>pow_int_small hc.1 hc.2.1 hc.2.2 q
theorem unI{f:Value->Sem Value}{g:Int->Int}
  (rule: ∀(i:Int) (t:Tok) (s:A2) (Q:Value->A2->Prop) (E:Value->A2->Prop),Q (.int (g i) s.toks) {s with toks:=s.toks+1}->wpAny (model X.prog X.w) X.A (f (.int i t)) Q E s):
  UnR X f (rU fun i=> .int (g i)):=by
 intro a6 s σ H x v Q I rx h
 obtain⟨i,rfl,q⟩:=h
 obtain⟨t,rfl⟩:=rx
 exact rule i t s _ _ ⟨.int (g i),H,I.tok _,⟨_,rfl⟩,q⟩
theorem zYL:UnR X (unaryOp .USub) (rU fun i=> .int (-i)):=unI fun _ _ _ _ _ q=>neg_int q
end
section
variable{X:Cx}{a b c:Expr}{ta tb tc:TE}{pos:Pos}
theorem zN5{a6:List (Addr×Obj)}{σ:St}{H:Hp}{s:A2}{Q:VK}{k k':Bool}(I:Inv X a6 σ H s)(q:Q (.bl k) H)(e:k=k'):EP X a6 σ Q (.bool k') s:=by
 subst e
 exact⟨.bl k,H,I,rfl,q⟩
theorem zQD:OpR X (By .Lt) (rI0 fun i j=> .bl (decide (i<j))):=opB0 fun _ _ _ _ _ _ _ q=>lt_int q
theorem zQE:OpR X (By .LtE) (rI0 fun i j=> .bl (decide (i<=j))):=opB0 fun _ _ _ _ _ _ _ q=>le_int q
theorem zWX:OpR X (By .Gt) (rI0 fun i j=> .bl (decide (j<i))):=opB0 fun _ _ _ _ _ _ _ q=>gt_int q
theorem yAL:OpR X (By .GtE) (rI0 fun i j=> .bl (decide (j<=i))):=opB0 fun _ _ _ _ _ _ _ q=>ge_int q
theorem zUZ:OpR X (By .Is) (fun x y H Q=>y= .non/\Q (.bl (decide (x= .non))) H):=by
 intro a6 s σ H x y v u Q I rx ry h
 obtain⟨rfl,q⟩:=h
 cases ry
 refine is_none_gen (zN5 I q ?_)
 cases x<;>first
  |(cases rx;rfl)
  |(obtain⟨t,rfl⟩:=rx;rfl)
theorem zQC:OpR X (By .IsNot) (fun x y H Q=>y= .non/\Q (.bl (!decide (x= .non))) H):=by
 intro a6 s σ H x y v u Q I rx ry h
 obtain⟨rfl,q⟩:=h
 cases ry
 refine isnot_none_gen (zN5 I q ?_)
 cases x<;>first
  |(cases rx;rfl)
  |(obtain⟨t,rfl⟩:=rx;rfl)
theorem OpR.or{f:Value->Value->Sem Value}{r r':R2}(h:OpR X f r)(h':OpR X f r'):OpR X f (fun x y H Q=>r x y H Q∨r' x y H Q):=by
 intro a6 s σ H x y v u Q I rx ry q
 rcases q with q|q
 ·exact h a6 s σ H x y v u Q I rx ry q
 ·exact h' a6 s σ H x y v u Q I rx ry q
theorem zBH(b:Expr){op:CmpOp}(h:op≠ .In:=by decide)(h2:op≠ .NotIn:=by decide):Er op b=false:=by
 have e1:(op==CmpOp.In)=false:=by cases op<;>first|rfl|exact absurd rfl h
 have e2:(op==CmpOp.NotIn)=false:=by cases op<;>first|rfl|exact absurd rfl h2
 cases b<;>simp[Er,e1,e2]
theorem zWS{op:CmpOp}{r:R2}(ho:OpR X (By op) r)(ha:PE X a ta)(hb:PE X b tb)(hm:Er op b=false):PE X (.Compare a [op] [b] pos) (tOp r ta tb):=by
 intro a6 s σ H Q I h
 exact wpAny_Compare1 (binT ha hb I h fun v u s2 x y H2 I2 rx ry q=>ho a6 s2 σ H2 x y v u Q I2 rx ry q) hm
def zYU(t:TE):TT:=fun σ H Q=>t σ H fun x H'=> ∃k,x= .bl k/\Q k H'
theorem zWJ{op:CmpOp}{r:R2}(ho:OpR X (By op) r)(ha:PE X a ta)(hb:PE X b tb)(hm:Er op b=false):PT X (.Compare a [op] [b] pos) (zYU (tOp r ta tb)):=by
 intro a6 s σ H Q I h
 refine wpAny_isTrue_Compare1 (thn (ha a6 s σ H _ I h) fun v s1 ⟨x,H1,I1,r1,q1⟩=>thn (hb a6 s1 σ H1 _ I1 q1) fun u s2 ⟨y,H2,I2,r2,q2⟩=>
  thn (ho a6 s2 σ H2 x y v u _ I2 r1 r2 q2) fun c s3 ⟨z,H3,I3,r3,k,e,q3⟩=> ?_) hm
 subst e
 cases r3
 exact D5 ⟨H3,I3,q3⟩
def zP3(r r':R2)(ta tb tc:TE):TE:=fun σ H Q=>ta σ H fun x H1=>tb σ H1 fun y H2=>r x y H2 fun z H3=> ∃k,z= .bl k∧
 (if k=true then tc σ H3 fun w' H4=>r' y w' H4 Q else Q (.bl false) H3)
theorem zTD{op op':CmpOp}{r r':R2}(ho:OpR X (By op) r)(ho':OpR X (By op') r')(ha:PE X a ta)(hb:PE X b tb)(hc:PE X c tc)
  (hm:Lc [op,op'] [b,c]=false:=by with_unfolding_all rfl):PE X (.Compare a [op,op'] [b,c] pos) (zP3 r r' ta tb tc):=by
 intro a6 s σ H Q I h
 refine Compare_chain (thn (ha a6 s σ H _ I h) fun v s1 ⟨x,H1,I1,r1,q1⟩=>chain_link (thn (hb a6 s1 σ H1 _ I1 q1) fun u s2 ⟨y,H2,I2,r2,q2⟩=>
  thn (ho a6 s2 σ H2 x y v u _ I2 r1 r2 q2) fun d s3 ⟨z,H3,I3,r3,k,e,q3⟩=> ?_)) hm
 subst e
 cases r3
 refine D5 ?_
 cases k with
 |false=>exact ite_ff ⟨.bl false,H3,I3,rfl,q3⟩
 |true=>exact ite_tt (chain_last (thn (hc a6 s3 σ H3 _ I3 q3) fun w' s4 ⟨z',H4,I4,r4,q4⟩=>ho' a6 s4 σ H4 y z' u w' Q I4 r2 r4 q4))
theorem zT4{op op':CmpOp}{r r':R2}(ho:OpR X (By op) r)(ho':OpR X (By op') r')(ha:PE X a ta)(hb:PE X b tb)(hc:PE X c tc)
  (hm:Lc [op,op'] [b,c]=false:=by with_unfolding_all rfl):PT X (.Compare a [op,op'] [b,c] pos) (zYU (zP3 r r' ta tb tc)):=by
 intro a6 s σ H Q I h
 refine isTrue_chain (thn (ha a6 s σ H _ I h) fun v s1 ⟨x,H1,I1,r1,q1⟩=>test_link (thn (hb a6 s1 σ H1 _ I1 q1) fun u s2 ⟨y,H2,I2,r2,q2⟩=>
  thn (ho a6 s2 σ H2 x y v u _ I2 r1 r2 q2) fun d s3 ⟨z,H3,I3,r3,k,e,q3⟩=> ?_)) hm
 subst e
 cases r3
 refine D5 ?_
 cases k with
 |false=>
  obtain⟨k',e',q'⟩:=q3
  cases e'
  exact ite_ff ⟨H3,I3,q'⟩
 |true=>
  refine ite_tt (test_last (thn (hc a6 s3 σ H3 _ I3 q3) fun w' s4 ⟨z',H4,I4,r4,q4⟩=>thn (ho' a6 s4 σ H4 y z' u w' _ I4 r2 r4 q4) fun d' s5 ⟨z2,H5,I5,r5,k2,e2,q5⟩=> ?_))
  subst e2
  cases r5
  exact D5 ⟨H5,I5,q5⟩
theorem zHV:(sizeLine:Nat)<2 ^ 63:=by rw[Bb];decide
theorem zNS:OpR X (Dh .Add) (fun x y H Q=> ∃i j,x= .str i/\y= .str j/\i.length+j.length<=sizeLine/\Q (.str (i++j)) H):=by
 intro a6 s σ H x y v u Q I rx ry h
 obtain⟨i,j,rfl,rfl,hz,q⟩:=h
 obtain⟨t,rfl⟩:=rx
 obtain⟨t',rfl⟩:=ry
 exact add_str (fun t' tk=>⟨.str (i++j),H,I.tok _,⟨_,rfl⟩,q⟩) hz
theorem zHI{x:V}{us:List Value}(r:Vals [x] us): ∃u,us=[u]/\RelV x u:=by
 cases r with
 |cons r1 r2=>cases r2;exact⟨_,rfl,r1⟩
theorem zOQ{x y:V}{us:List Value}(r:Vals [x,y] us): ∃u w',us=[u,w']/\RelV x u/\RelV y w':=by
 cases r with
 |cons r1 r2=>
  cases r2 with
  |cons r3 r4=>cases r4;exact⟨_,_,rfl,r1,r3⟩
theorem zKU(hc:X.calm=true):zBY X (.builtin "max") (fun xs H Q=> ∃i j,xs=[.int i,.int j]/\Q (.int (if j>i then j else i)) H):=by
 intro a6 s σ H xs us Q I r h
 obtain⟨i,j,rfl,q⟩:=h
 obtain⟨u,w',rfl,⟨t,rfl⟩,⟨t',rfl⟩⟩:=zOQ r
 refine max_two_ints (I.ok.hd hc) fun h' tk k=>⟨_,H,I.kept k,?_,q⟩
 by_cases hj:j>i
 ·rw[if_pos hj,if_pos hj];exact⟨_,rfl⟩
 ·rw[if_neg hj,if_neg hj];exact⟨_,rfl⟩
theorem zKT(hc:X.calm=true):zBY X (.builtin "min") (fun xs H Q=> ∃i j,xs=[.int i,.int j]/\Q (.int (if j<i then j else i)) H):=by
 intro a6 s σ H xs us Q I r h
 obtain⟨i,j,rfl,q⟩:=h
 obtain⟨u,w',rfl,⟨t,rfl⟩,⟨t',rfl⟩⟩:=zOQ r
 refine min_two_ints (I.ok.hd hc) fun h' tk k=>⟨_,H,I.kept k,?_,q⟩
 by_cases hj:j<i
 ·rw[if_pos hj,if_pos hj];exact⟨_,rfl⟩
 ·rw[if_neg hj,if_neg hj];exact⟨_,rfl⟩
end
structure ObjM(h:Heap)(x dx C:Addr)(mA:Str->Option Value):Prop where
 obj:h.get? x=some (Ml C dx)
 ns:h.Ns1 dx mA
 ne:dx≠x
theorem zQU{h:Heap}{dx:Addr}{mA:Str->Option Value}(n:h.Ns1 dx mA): ∃od,h.get? dx=some od/\ ∀name,W.lookIn name od=some (mA name):=by
 obtain⟨o,es,ep,ho,hd,hk,_,hm⟩:=n
 refine⟨o,ho,fun name=> ?_⟩
 have e:=hm name
 unfold nsFind findBy at e
 rw[<- Array.find?_toList] at e
 unfold W.lookIn
 rw[hd]
 dsimp only
 split
 ·rename_i y q
  rw[q] at e
  exact congrArg some e
 ·rename_i q
  rw[q] at e
  have a:es.toList.any (·.refKey)=false:=by
   rw[List.any_eq_false]
   intro y hy
   obtain⟨z,t,p9⟩:=hk y (Array.mem_toList_iff.mp hy)
   simp[DictEntry.refKey,p9]
  have a': ¬es.toList.any (·.refKey)=true:=by rw[a];exact Cb
  rw[if_neg a']
  exact congrArg some e
theorem ObjM.look{h:Heap}{x dx C:Addr}{mA:Str->Option Value}(I:ObjM h x dx C mA): ∃od,W.InstAt h x (Ml C dx) C (some od)/\ ∀name,W.lookIn name od=some (mA name):=
 let ⟨od,ho,hl⟩:=zQU I.ns
 ⟨od,⟨I.obj,rfl,rfl,ho⟩,hl⟩
theorem RelO.some_of{v:V}{o:Option Value}(r:RelO (some v) o): ∃u,o=some u/\RelV v u:=by
 cases o with
 |none=>exact(show False from r).elim
 |some u=>exact⟨u,rfl,r⟩
section
variable{P:Aj}{w:World}{H H':Hp}{h h':Heap}{a C dx:Addr}{fs fs':List (Str×V)}
theorem zXQ(hok:HOk P w H h)(e:H a=some (.ins C dx fs)): ∃mA,ObjM h a dx C mA/\(∀f,RelO (fs.lookup f) (mA f))/\Mm mA (fs.map (·.1))/\fs.length<=1000/\H dx=some (.own a):=by
 obtain⟨d,z,ne,ob,mA,n,r,q⟩:=(show zC6 P w H h a (.ins C dx fs) from hok a _ e)
 exact⟨mA,⟨ob,n,ne⟩,r,q,z,d⟩
end
structure Cls(K:A8)(C:Addr):Prop where
 pg:W.plainGet K C Str.empty=true
 hd:W.hasDictIn K C=true
 po:W.plainOver K C=true
 sa:Kx K (.ref C) "__setattr__"=some (some (.builtin "object.__setattr__"))
theorem Cls.get{K:A8}{C:Addr}(c:Cls K C)(f:Str):W.plainGet K C f=true:=c.pg
section
variable{X:Cx}{a6:List (Addr×Obj)}{σ:St}{H:Hp}{s:A2}{A:B8}{E:Value->A2->Prop}{Q:Value->A2->Prop}{c:Value}{b:Bool}
inductive TyOf(K:A8)(H:Hp):V->Value->Prop where
 |non:TyOf K H .non (.type "NoneType")
 |bl (x:Bool):TyOf K H (.bl x) (.type "bool")
 |int (i:Int):TyOf K H (.int i) (.type "int")
 |str (x:Str):TyOf K H (.str x) (.type "str")
 |flt (x:UInt64):TyOf K H (.flt x) (.type "float")
 |lst {a:Addr} {xs:List V} (e:H a=some (.lst xs)):TyOf K H (.ref a) (.type "list")
 |frz {a:Addr} {o:Obj} {xs:List V} (e:H a=some (.frz o (.lst xs))):TyOf K H (.ref a) (.type "list")
 |tup {a:Addr} {xs:List V} (e:H a=some (.tup xs)):TyOf K H (.ref a) (.type "tuple")
 |dK {a:Addr} {kvs:List (Key×V)} (e:H a=some (.dK kvs)):TyOf K H (.ref a) (.type "dict")
 |dT {a:Addr} {kvs:List (List Key×V)} (e:H a=some (.dT kvs)):TyOf K H (.ref a) (.type "dict")
 |ins {a C dx:Addr} {fs:List (Str×V)} (e:H a=some (.ins C dx fs)) (cl:Cls K C) (ha:Kx K (.ref C) "__class__"=some (some (.builtin "object.__class__")))
   (hn:W.specialIn K (.builtin "object.__class__") "__get__"=some (some (.builtin "getset_descriptor.__get__"))) (htk:W.takesIn K (.builtin "object.__class__")=some true)
   (hm:W.mroIn K C (.type "object")=some true):TyOf K H (.ref a) (.ref C)
theorem zF2{x:V}{u t:Value}(I:Inv X a6 σ H s)(rx:RelV x u)(ty:TyOf X.K H x t)(e:Fq X.K t c=some b)(h: ∀tk,Q (.bool b) {s with toks:=tk}):
  wpAny (model X.prog X.w) A (call (.builtin "isinstance") [u,c]) Q E s:=by
 cases ty with
 |non=>cases (show u=Value.none from rx);exact D6 W.kitx_none I.kIn True.intro e (fun z=>nomatch z) h
 |bl y=>cases (show u=Eg y from rx);exact D6 W.kitx_bool I.kIn True.intro e (fun z=>nomatch z) h
 |int i=>obtain⟨t,q⟩:=(show∃t,u=L8 i t from rx);cases q;exact D6 W.kitx_int I.kIn True.intro e (fun z=>nomatch z) h
 |str y=>obtain⟨t,q⟩:=(show∃t,u=L9 y t from rx);cases q;exact D6 W.kitx_str I.kIn True.intro e (fun z=>nomatch z) h
 |flt y=>obtain⟨t,q⟩:=(show∃t,u=Mu y t from rx);cases q;exact D6 W.kitx_float I.kIn True.intro e (fun z=>nomatch z) h
 | @lst a xs ea=>
  cases (show u=Av a from rx)
  obtain⟨_,_,n,_,h1⟩:=(show zC6 X.prog X.w H s.heap a (.lst xs) from I.hok a _ ea)
  exact D6 J9 I.kIn ⟨_,h1,rfl⟩ e (fun z=>nomatch z) h
 | @frz a ob xs ea=>
  cases (show u=Av a from rx)
  obtain⟨_,_,_,n,_,h1⟩:=(show zC6 X.prog X.w H s.heap a (.frz ob (.lst xs)) from I.hok a _ ea)
  exact D6 J9 I.kIn ⟨_,h1,rfl⟩ e (fun z=>nomatch z) h
 | @tup a xs ea=>
  cases (show u=Av a from rx)
  obtain⟨_,_,_,p⟩:=(show zC6 X.prog X.w H s.heap a (.tup xs) from I.hok a _ ea)
  obtain⟨o,h1,h2,_⟩:=p
  exact D6 W.kitx_tuple I.kIn ⟨o,h1,h2⟩ e (fun z=>nomatch z) h
 | @dK a kvs ea=>
  cases (show u=Av a from rx)
  obtain⟨_,_,vs,_,p⟩:=(show zC6 X.prog X.w H s.heap a (.dK kvs) from I.hok a _ ea)
  obtain⟨o,es,ep,h1,h2,_⟩:=p
  exact D6 W.kitx_dict I.kIn ⟨o,h1,h2.1⟩ e (fun z=>nomatch z) h
 | @dT a kvs ea=>
  cases (show u=Av a from rx)
  obtain⟨_,_,xs,_,o,es,ep,h1,h2,_⟩:=(show zC6 X.prog X.w H s.heap a (.dT kvs) from I.hok a _ ea)
  exact D6 W.kitx_dict I.kIn ⟨o,h1,h2.1⟩ e (fun z=>nomatch z) h
 | @ins a C dx fs ea cl ha hn htk hm=>
  cases (show u=Av a from rx)
  obtain⟨mA,O,_⟩:=zXQ I.hok ea
  obtain⟨od,J,_⟩:=O.look
  exact D6 (W.kitx_own (cl.get _) cl.hd ha hn htk hm) I.kIn J e (fun z=>nomatch z) h
end
structure Room(k:Nat)(A:B8):Prop where
 hd:A.handled=none
 dp:A.depth+3*k+5<Gr
 un:A.units+16*k+200<cLine
theorem Room.mono{j k:Nat}{A:B8}(r:Room k A)(h:j<=k):Room j A:=⟨r.hd,by have:=r.dp;omega,by have:=r.un;omega⟩
theorem Room.deeper{k:Nat}{A:B8}(r:Room (k+1) A)(env:Env):Room k (A.deeper env):=
 ⟨r.hd,by have:=r.dp;show A.depth+1+3*k+5<_;omega,by have:=r.un;show A.units+3+16*k+200<_;omega⟩
theorem Room.depth{k:Nat}{A:B8}(r:Room k A):A.depth<Gr:=by have:=r.dp;omega
theorem Room.units{k:Nat}{A:B8}(r:Room k A):A.units+64<cLine:=by have:=r.un;omega
def tNil:TA:=fun _ H Q=>Q [] H
def zNJ(ta:TE)(tr:TA):TA:=fun σ H Q=>ta σ H fun x H1=>tr σ H1 fun xs H2=>Q (x::xs) H2
section
variable{X:Cx}{e:Expr}{es:List Expr}{te:TE}{t:TA}{pos:Pos}
theorem zBT:PA X [] tNil:=fun _ _ _ _ H Q I h=>F5 ⟨[],H,I,.nil,h⟩
theorem zAQ(ha:PE X e te)(hr:PA X es t)(hs:starEach (e::es) X.env=(false,eval e X.env)::starEach es X.env:=by rfl):PA X (e::es) (zNJ te t):=by
 intro pos a6 s σ H Q I h
 rw[hs]
 show wpAny _ _ (spliced ((false,eval e X.env)::Cg pos (starEach es X.env))) _ _ s
 refine E3 (thn (ha a6 s σ H _ I h) fun u s1 ⟨x,H1,I1,r1,q1⟩=> ?_)
 exact thn (hr pos a6 s1 σ H1 _ I1 q1) fun us s2 ⟨xs,H2,I2,r2,q2⟩=>⟨x::xs,H2,I2,.cons r1 r2,q2⟩
def tTup(t:TA):TE:=fun σ H Q=>t σ H fun xs H1=>xs.length<=sizeLine/\ ∀p,H1 p=none->Q (.ref p) (upd H1 p (.tup xs))
def tLst(t:TA):TE:=fun σ H Q=>t σ H fun xs H1=>xs.length<=sizeLine/\ ∀p,H1 p=none->Q (.ref p) (upd H1 p (.lst xs))
theorem zUW{x1}(h:PA X es t):PE X (.Tuple es x1 pos) (tTup t):=by
 intro a6 s σ H Q I hq
 refine wpAny_Tuple_spliced (thn (h pos a6 s σ H _ I hq) fun us s1 ⟨xs,H1,I1,r,z,q⟩=>⟨by rw[<- r.length];exact z,?_⟩)
 have hf:H1 s1.heap.objs.size=none:=I1.hok.fresh (Af _)
 refine⟨.ref s1.heap.objs.size,upd H1 s1.heap.objs.size (.tup xs),I1.laid (t':=s1.toks) (fun b u e=>A1 _ e) (Af _) ?_,rfl,q _ hf⟩
 exact⟨z,us,r,⟨_,Ai _ rfl,rfl,_,rfl⟩⟩
theorem zUY(h:PA X es t):PE X (.List es pos) (tLst t):=by
 intro a6 s σ H Q I hq
 refine wpAny_List_spliced (thn (h pos a6 s σ H _ I hq) fun us s1 ⟨xs,H1,I1,r,z,q⟩=>⟨by rw[<- r.length];exact z,?_⟩)
 have hf:H1 s1.heap.objs.size=none:=I1.hok.fresh (Af _)
 refine⟨.ref s1.heap.objs.size,upd H1 s1.heap.objs.size (.lst xs),I1.laid (t':=s1.toks) (fun b u e=>A1 _ e) (Af _) ?_,rfl,q _ hf⟩
 exact⟨z,us,0,r,Ai _ rfl⟩
end
abbrev Sp:=List V->Hp->VK->XK->Prop
abbrev CXT:=List Env->Hp->A2->XK->Value->A2->Prop
structure Env0(P:Aj)(w:World)(K:A8)(mg:Str->Option Value)(base:Heap)(A:B8)(outer:List Env)(s:A2)(H:Hp):Prop where
 frames:A.frames=some outer
 mod:Mod K mg base
 bs: ∀b o,base.get? b=some o->s.heap.get? b=some o/\H b=none
 bsz:base.objs.size<=s.heap.objs.size
 funs:s.heap.FunFrames base outer
 frf: ∀b∈frs outer,H b=none
 hok:HOk P w H s.heap
 bare:Hc s.gens
def CE(outer:List Env)(P:Aj)(w:World)(H:Hp)(s:A2)(Q:VK)(u:Value)(s':A2):Prop:=
 ∃v H',s'.os=s.os/\Hc s'.gens/\Un (frs outer) [] H H' s.heap s'.heap/\HOk P w H' s'.heap/\RelV v u/\Q v H'
def CR(CX:CXT)(outer:List Env)(P:Aj)(w:World)(H:Hp)(s:A2)(Q:VK)(E:XK)(r:Result)(s':A2):Prop:=
 match r with
 | .ok (.ret u)=>CE outer P w H s Q u s'
 | .ok _=>False
 | .error e=>CX outer H s E e s'
structure FnOk(P:Aj)(w:World)(K:A8)(mg:Str->Option Value)(base:Heap)(CX:CXT)(k:Nat)(f:Addr)(fd:C2)(ps:List Str)(sp:Sp):Prop where
 len: ∀vs H Q E,sp vs H Q E->vs.length=ps.length
 run: ∀(A:B8) (outer:List Env) (s:A2) (H:Hp) (args:Args) (us:List Value) (vs:List V) (Q:VK) (E:XK),Room k A->Env0 P w K mg base A outer s H->Jw s fd args (ps.zip us)->Vals vs us->sp vs H Q E→
  Gs (model P w) A (.call (.ref f) args) (CR CX outer P w H s Q E) s
section
variable{X:Cx}{a6:List (Addr×Obj)}{σ:St}{H:Hp}{s s':A2}
theorem Inv.env0(I:Inv X a6 σ H s):Env0 X.prog X.w X.K X.mg X.base X.A X.stack s H:=
 ⟨I.ok.frames,I.ok.mod,I.bs,Dd I.ok.bsz I.sz,I.stack,I.stkFree,I.hok,I.bare⟩
theorem Inv.after{Q:VK}{u:Value}(I:Inv X a6 σ H s)(h:CE X.stack X.prog X.w H s Q u s'):EP X a6 σ Q u s':=by
 obtain⟨v,H',os,bare,un,hok,r,q⟩:=h
 obtain⟨hh,g,d,t,os'⟩:=s'
 obtain rfl:os'=s.os:=os
 exact⟨v,H',I.call (h':=hh) (g':=g) (d':=d) (t':=t) (ch:=[]) un hok bare (fun b z=>absurd z (by simp)),r,q⟩
end
def zSS(sp:Sp)(dvs:List V)(E:XK)(t:TA):TE:=fun σ H Q=>t σ H fun vs H1=>sp (vs++dvs) H1 Q E
def zFY(K:A8)(fd:C2)(ps:List Str)(ds:List Value):Prop:=
 ∀(s:A2) (us:List Value),K.In s.heap->(us++ds).length=ps.length->Jw s fd ⟨us,[]⟩ (ps.zip (us++ds))
theorem zFY.all{K:A8}{fd:C2}{ps:List Str}(h: ∀us:List Value,us.length=ps.length->bindArgs fd ⟨us,[]⟩=pure (ps.zip us)):zFY K fd ps []:=fun s us _ hl=>by
 rw[Bi] at hl⊢
 exact .of_eq (h us hl)
def zS5(CX:CXT)(X:Cx)(E:XK):Prop:= ∀(a6:List (Addr×Obj)) (σ:St) (H:Hp) (s:A2) (e:Value) (s':A2),Inv X a6 σ H s->CX X.stack H s E e s'->X.xe e s'
section
variable{X:Cx}{CX:CXT}{k:Nat}{f C:Addr}{fd:C2}{ps:List Str}{sp:Sp}{dvs:List V}{ds:List Value}{E:XK}{x m:Str}{p pos ai:Pos}{e o:Expr}{es:List Expr}{ta:TE}{t:TA}
theorem zPG{a6:List (Addr×Obj)}{σ:St}{H:Hp}{s:A2}{Q:VK}{us:List Value}{vs:List V}(F:FnOk X.prog X.w X.K X.mg X.base CX k f fd ps sp)(hr:Room k X.A)(hb:zFY X.K fd ps ds)(hd:Vals dvs ds)(hx:zS5 CX X E)
  (I:Inv X a6 σ H s) (r:Vals vs us) (h:sp (vs++dvs) H Q E):wpAny (model X.prog X.w) X.A (call (.ref f) us) (EP X a6 σ Q) X.xe s:=by
 have r2:Vals (vs++dvs) (us++ds):=r.append hd
 have hl:(us++ds).length=ps.length:=by rw[<- r2.length];exact F.len _ _ _ _ h
 refine Jx (Fg (F.run X.A X.stack s H ⟨us,[]⟩ (us++ds) (vs++dvs) Q E hr I.env0 (hb s us I.kIn hl) r2 h) fun r s' hq=> ?_)
 cases r with
 |error e=>exact hx a6 σ H s e s' I hq
 |ok fl=>
  cases fl with
  |ret u=>exact I.after hq
  |next=>exact E7 hq
  |brk=>exact E7 hq
  |cont=>exact E7 hq
theorem zQ8(F:FnOk X.prog X.w X.K X.mg X.base CX k f fd ps sp)(hr:Room k X.A)(hg:Gl X x)(hm:X.mg x=some (.ref f))(hk:Dx X.K (.ref f)=true)(hb:zFY X.K fd ps ds)(hd:Vals dvs ds)(hx:zS5 CX X E)
  (ha:PA X (e::es) t) (hdb:(x==("__debug__":Str))=false:=by decide) (he:starEach (e::es) X.env=(false,eval e X.env)::starEach es X.env:=by rfl) (hpl:(Cg pos (starEach es X.env)).any (·.1)=false:=by rfl):
  PE X (.Call (.Name x p) (e::es) [] pos) (zSS sp dvs E t):=by
 intro a6 s σ H Q I h
 refine Cn (zFJ I hg hm ?_ hdb)
 refine Fh (h₀:=X.base) I.ok.mod.kin hk (thn (ha pos a6 s σ H _ I h) fun us s1 ⟨vs,H1,I1,r,q⟩=>⟨I1.kIn,?_⟩) he hpl
 exact zPG F hr hb hd hx I1 r q
end
structure zAD(N P:List Str)(sc:Scope):Prop where
 kind:sc.kind= .function
 co:sc.isCoroutine=false
 gen:sc.isGenerator=false
 nd:N.Nodup
 pre:N.take P.length=P
 par: ∀x∈P,sc.names.lookup x=some .local∨sc.names.lookup x=some .cell
 nofree: ∀y∈sc.names,y.2≠ .free
theorem zL2{kindOf:Str->Option NameKind}{x:Str}: ∀{binds:List (Str×Value)} {m:Str->Option Value},(∀v,(x,v)∉binds)->bindL kindOf binds m x=m x
 | [],_,_ => rfl
 | (n,v) :: r,m,h => by
  unfold bindL
  rw[zL2 fun w hw=>h w (Ag _ hw)]
  split
  ·have : x ≠ n := by rintro rfl;exact h v Ak
   simp[this]
  ·rfl
theorem zL4{kindOf:Str->Option NameKind}{x:Str}: ∀{binds:List (Str×Value)} {m:Str->Option Value},(∀v,(x,v)∉binds)->bindC kindOf binds m x=m x
 | [],_,_ => rfl
 | (n,v) :: r,m,h => by
  unfold bindC
  rw[zL4 fun w hw=>h w (Ag _ hw)]
  split
  ·rfl
  ·have : x ≠ n := by rintro rfl;exact h v Ak
   simp[this]
theorem zL3{kindOf:Str->Option NameKind}{x:Str}{v:Value}: ∀{P:List Str} {vs:List Value} {i:Nat} {m:Str->Option Value},P.Nodup->P[i]? =some x->vs[i]? =some v->kindOf x=some .local→
  bindL kindOf (P.zip vs) m x=some v
 |[],_,_,_,_,h,_,_=>by simp at h
 |_::_,[],_,_,_,_,h,_=>by simp at h
 |p::P,w::vs,0,m,nd,h1,h2,hk=>by
  simp at h1 h2;subst h1;subst h2
  show bindL kindOf ((p,w)::P.zip vs) m p=_
  unfold bindL
  rw[zL2 fun v hv=>(Bv.mp nd).1 (G4 hv).1,if_pos hk]
  simp
 |p::P,w::vs,i+1,m,nd,h1,h2,hk=>by
  show bindL kindOf ((p,w)::P.zip vs) m x=_
  unfold bindL
  exact zL3 (i:=i) (Bv.mp nd).2 (by simpa using h1) (by simpa using h2) hk
theorem zL5{kindOf:Str->Option NameKind}{x:Str}{v:Value}: ∀{P:List Str} {vs:List Value} {i:Nat} {m:Str->Option Value},P.Nodup->P[i]? =some x->vs[i]? =some v->kindOf x≠some .local→
  bindC kindOf (P.zip vs) m x=some v
 |[],_,_,_,_,h,_,_=>by simp at h
 |_::_,[],_,_,_,_,h,_=>by simp at h
 |p::P,w::vs,0,m,nd,h1,h2,hk=>by
  simp at h1 h2;subst h1;subst h2
  show bindC kindOf ((p,w)::P.zip vs) m p=_
  unfold bindC
  rw[zL4 fun v hv=>(Bv.mp nd).1 (G4 hv).1,if_neg hk]
  simp
 |p::P,w::vs,i+1,m,nd,h1,h2,hk=>by
  show bindC kindOf ((p,w)::P.zip vs) m x=_
  unfold bindC
  exact zL5 (i:=i) (Bv.mp nd).2 (by simpa using h1) (by simpa using h2) hk
noncomputable def start(N:List Str)(vs:List V):St:=vs.map some++Aa (N.length - vs.length) none
noncomputable def cxOf(CX:CXT)(P:Aj)(w:World)(K:A8)(mg:Str->Option Value)(base:Heap)(N:List Str)(qual:Str)(scope:Scope)(f:Addr)(cd:Value)(A:B8)(outer:List Env)(s:A2)(H:Hp)(E:XK):Cx where
 prog:=P
 w:=w
 K:=K
 mg:=mg
 base:=base
 A:=A.deeper (envOfC qual scope s.heap.objs.size f cd)
 N:=N
 s₀:=s
 H₀:=H
 env:=envOfC qual scope s.heap.objs.size f cd
 outer:=outer
 stack:=envOfC qual scope s.heap.objs.size f cd::outer
 ex:=[]
 calm:=true
 fn:=fun _=>true
 pn:=[]
 xe:=fun e s'=>wpAny (model P w) (A.deeper (envOfC qual scope s.heap.objs.size f cd)) (leaving (envOfC qual scope s.heap.objs.size f cd) e) (fun _ s''=>CX outer H s E e s'') (fun e' s''=>CX outer H s E e' s'') s'
theorem zN7{sc:Scope}{n:Nat}{x:Str}(h:sc.names.lookup x=some .cell): ∃c,(cellsFrom n sc.names []).lookup x=some c:=by
 have q:=Hn sc.names n [] (.inl h)
 exact Option.isSome_iff_exists.mp q
theorem zKC{CX:CXT}{P:Aj}{w:World}{K:A8}{mg:Str->Option Value}{base:Heap}{N ps:List Str}{qual:Str}{scope:Scope}{f:Addr}{cd:Value}{A:B8}{outer:List Env}{s s1:A2}{H:Hp}{E:XK}{us:List Value}{vs:List V}
  (S:zAD N ps scope) (hd:A.handled=none) (e0:Env0 P w K mg base A outer s H) (hl:vs.length=ps.length) (r:Vals vs us)
  (x : InCallC s s.heap.objs.size (bindL (envOfC qual scope s.heap.objs.size f cd).kindOf (ps.zip us) fun _ => none) (cellsFrom (s.heap.objs.size + 1) scope.names []) (bindC (envOfC qual scope s.heap.objs.size f cd).kindOf (ps.zip us) fun _ => none) s1) :
  Inv (cxOf CX P w K mg base N qual scope f cd A outer s H E) [] (start N vs) H s1:=by
 have hpl:ps.length<=N.length:=by have:=congrArg List.length S.pre;rw[Bw] at this;omega
 obtain⟨h1,tk,rfl,hk⟩:=x.done
 have noA: ∀b:Addr,b∉(cxOf CX P w K mg base N qual scope f cd A outer s H E).ex:=fun b z=>absurd (show b∈([]:List Addr) from z) (by simp)
 refine⟨⟨e0.mod,S.kind,rfl,rfl,Af _,fun y z c h1 h2=> ?_,fun y hy=> ?_,fun y c _ h=> ?_,fun _=>hd,Around.frames_deeper e0.frames,.inr ⟨rfl,rfl⟩,fun b z=>absurd z (noA b),e0.bs,e0.bsz,fun b _ _=>noA b,fun b z=>absurd z (noA b),e0.funs,e0.frf⟩,
  rfl,e0.bare,Un.kept hk,⟨_,x.toInCall.ns,fun i y v h1 h2 h3=> ?_⟩,fun y c h=>⟨_,x.cell y c h⟩,e0.hok.fresh (Af _),fun y c h=> ?_,fun p hp=>absurd (show p∈([]:List (Addr×Obj)) from hp) (by simp),e0.hok.kept hk,?_⟩
 ·exact name_of_addr x.apart (Bu h1) (Bu h2)
 ·have hy:scope.names.lookup y=some .cell∨scope.names.lookup y=some .free:=hy
  rcases hy with hy|hy
  ·exact zN7 hy
  ·exact absurd rfl (S.nofree _ (Bu hy))
 ·exact Kc (x.above y c (Bu h))
 ·have hi:i<vs.length:=by
   unfold start at h2
   by_cases hi:i<vs.length
   ·exact hi
   ·rw [Ap (by simpa using hi)] at h2
    rw[C7] at h2
    split at h2<;>cases h2
  have ha:vs[i]? =some v:=by
   unfold start at h2
   rw[A6 (by simpa using hi),C8] at h2
   cases e:vs[i]? with
   |none=>rw[e] at h2;cases h2
   |some a=>rw[e] at h2;cases h2;rfl
  obtain⟨u,hu,rv⟩:=r.get ha
  have hp:ps[i]? =some y:=by rw[<- S.pre,Bz (by omega)];exact h1
  have ndP:ps.Nodup:=by rw[<- S.pre];exact S.nd.sublist (List.take_sublist _ _)
  refine⟨u,rv,?_⟩
  rcases S.par y (Cq hp) with k|k
  ·exact .inl ⟨k,zL3 ndP hp hu k⟩
  ·obtain⟨c,e⟩:=zN7 (n:=s.heap.objs.size+1) k
   refine .inr ⟨.inl k,c,e,?_⟩
   have q:=x.cell y c e
   rw[zL5 ndP hp hu (by show scope.names.lookup y≠_;rw[k];decide)] at q
   exact q
 ·exact e0.hok.fresh (Kc (x.above y c (Bu h)))
 ·unfold start
  show _=N.length
  rw[Bf,Bo,Fi]
  omega
theorem zXX{CX:CXT}{P:Aj}{w:World}{K:A8}{mg:Str->Option Value}{base:Heap}{k:Nat}{f:Addr}{name qual:Str}{params:Arguments}{body:List Stmt}{scope:Scope}{dV kV doc pm cdv ct oc:Value}{an od:Option Addr}
  {osl:Array (Option Value)} {N ps:List Str} {sp:Sp} (lk:K.lookup f=some ⟨oc,od,.func (Fj name qual params body scope dV kV doc pm an cdv ct),osl⟩) (hcd:Go K cdv qual=true) (S:zAD N ps scope)
  (len: ∀vs H Q E,sp vs H Q E->vs.length=ps.length)
  (aj: ∀(A:B8) (outer:List Env) (s:A2) (H:Hp) (vs:List V) (Q:VK) (E:XK),Room k (A.deeper (envOfC qual scope s.heap.objs.size f cdv))->sp vs H Q E→
   ∃t,PSs (cxOf CX P w K mg base N qual scope f cdv A outer s H E) body t/\t {nx:=fun _ H'=>Q .non H',rt:=Q} (start N vs) H):
  FnOk P w K mg base CX (k+1) f (Fj name qual params body scope dV kV doc pm an cdv ct) ps sp:=by
 refine⟨len,fun A outer s H args us vs Q E hr e0 hb r hsp=> ?_⟩
 have hl:=len _ _ _ _ hsp
 have KX:K.In s.heap:=e0.mod.kin.keeps fun b o e=>(e0.bs b o e).1
 have lim:s.heap.NoLimit:=e0.mod.nolimit.keeps fun b o e=>(e0.bs b o e).1
 have gf: ∀y∈ps.zip us,scope.names.lookup y.1=some .local∨(scope.names.lookup y.1=some .cell/\((cellsFrom (s.heap.objs.size+1) scope.names []).lookup y.1).isSome=true):=fun⟨n,v⟩ hy=>by
  rcases S.par n (G4 hy).1 with q|q
  ·exact .inl q
  ·exact .inr ⟨q,Hn _ _ _ (.inl q)⟩
 refine Ib hr.depth (KX _ _ lk) rfl S.co S.gen rfl (W.codeRec_of KX hcd) (hb _ _ _ _ ?_)
 refine Gf S.kind gf fun env he s1 x=> ?_
 subst he
 refine⟨lim.keeps x.toInCall.keep,codeAny_func ?_⟩
 obtain⟨t,ht,hq⟩:=aj A outer s H vs Q E (hr.deeper _) hsp
 have I:Inv (cxOf CX P w K mg base N qual scope f cdv A outer s H E) [] (start N vs) H s1:=zKC S hr.hd e0 hl r x
 refine Ba (ht [] s1 (start N vs) H _ I hq) (fun fl s' hs=> ?_) fun e s' hs=>hs
 have fin: ∀{σ':St} {H':Hp} {v:V} {u:Value},Inv (cxOf CX P w K mg base N qual scope f cdv A outer s H E) [] σ' H' s'->RelV v u->Q v H'->CE outer P w H s Q u s':=
  fun{σ' H' v u} J rv q=>⟨v,H',J.os,J.bare,J.base,J.hok,rv,q⟩
 cases fl with
 |ret u=>
  obtain⟨v,σ',H',J,rv,q⟩:=hs
  exact fin J rv q
 |next=>
  obtain⟨σ',H',J,q⟩:=hs
  exact fin (v:=V.non) (u:=Value.none) J rfl q
 |brk=>
  obtain⟨_,_,_,q⟩:=hs
  exact E7 q
 |cont=>
  obtain⟨_,_,_,q⟩:=hs
  exact E7 q
section
variable{X:Cx}{x:Str}{p pos:Pos}{e:Expr}{es:List Expr}{t:TA}{id T:String}{r:List V->Hp->VK->Prop}
def tCB(r:List V->Hp->VK->Prop)(t:TA):TE:=fun σ H Q=>t σ H fun vs H1=>r vs H1 Q
theorem zIE(hc:zBY X (.builtin id) r)(hg:Gl X x)(hm:X.mg x=none)(hv:Ar x=some (.builtin id))(ha:PA X (e::es) t)(hn:x≠ "__name__":=by decide) (hdb:(x==("__debug__":Str))=false:=by decide)
  (he:starEach (e::es) X.env=(false,eval e X.env)::starEach es X.env:=by rfl) (hpl:(Cg pos (starEach es X.env)).any (·.1)=false:=by rfl):PE X (.Call (.Name x p) (e::es) [] pos) (tCB r t):=by
 intro a6 s σ H Q I h
 refine Cn (zGZ I hg hm hv ?_ hn hdb)
 exact PyProof.Rows.callWith_builtin1 (thn (ha pos a6 s σ H _ I h) fun us s1 ⟨vs,H1,I1,r1,q1⟩=>hc a6 s1 σ H1 vs us Q I1 r1 q1) he hpl
theorem zD8(hc:zBY X (.type T) r)(hg:Gl X x)(hm:X.mg x=none)(hv:Ar x=some (.type T))(ha:PA X (e::es) t)(hn:x≠ "__name__":=by decide) (hdb:(x==("__debug__":Str))=false:=by decide)
  (he:starEach (e::es) X.env=(false,eval e X.env)::starEach es X.env:=by rfl) (hpl:(Cg pos (starEach es X.env)).any (·.1)=false:=by rfl):PE X (.Call (.Name x p) (e::es) [] pos) (tCB r t):=by
 intro a6 s σ H Q I h
 refine Cn (zGZ I hg hm hv ?_ hn hdb)
 exact Cm (thn (ha pos a6 s σ H _ I h) fun us s1 ⟨vs,H1,I1,r1,q1⟩=>hc a6 s1 σ H1 vs us Q I1 r1 q1) he hpl
end
end L2
namespace HT
open PySem PyProof.Rows
section
variable{prog:Aj}{w:World}{A:B8}{E:Value->A2->Prop}{s:A2}
theorem zY1{t b:Addr}{vs ws:List Value}{Q:Value->A2->Prop}(ht:IsTup s.heap t vs.toArray)(hb:IsTup s.heap b ws.toArray)(hv:vs≠[])
  (h1:ws=[]->Q (.ref t) s) (h2:ws≠[]->Q (.ref s.heap.objs.size) {s with heap:=s.heap.push {cls:= .type "tuple",data:= .seq (vs++ws).toArray}})
  (hsz:vs.length+ws.length<=sizeLine):wpAny (model prog w) A (Dh .Add (.ref t) (.ref b)) Q E s:=by
 obtain⟨⟨cls,dd,data,sl⟩,ho,hc,n,hd⟩:=id ht
 obtain⟨⟨mz,dd2,data2,sl2⟩,ho2,hc2,n2,hd2⟩:=id hb
 simp only at hc hd hc2 hd2
 subst hc hd hc2 hd2
 have e:vs.toArray++ws.toArray=(vs++ws).toArray:=by simp
 by_cases hw:ws=[]
 ·exact Ic ⟨_,ho,rfl⟩ ⟨_,ho2,rfl⟩ Ho Jk F0 Es (Ei _ _)
   (tuple_addW1 t b vs.toArray ws.toArray n n2 dd dd2 sl sl2 (by simpa using hv) (by simp[hw])) ⟨ho,ho2,h1 hw⟩
 ·refine Ic ⟨_,ho,rfl⟩ ⟨_,ho2,rfl⟩ Ho Jk F0 Es (Ei _ _)
   (tuple_addW2 t b vs.toArray ws.toArray n n2 dd dd2 sl sl2 (by simpa using hv) (by simpa using hw) (by rw[Ad,Ad];exact hsz)) ⟨ho,ho2,?_⟩
  rw[e]
  exact h2 hw
noncomputable def sIx(n d:Nat):Option Int->Nat
 |none=>d
 |some v=>if v<0 then(v+(n:Int)).toNat else min v.toNat n
theorem zMI(n d:Nat):sIx n d none=d:=rfl
theorem zPB(n d k:Nat):sIx n d (some (k:Int))=min k n:=by
 show(if(k:Int)<0 then((k:Int)+(n:Int)).toNat else min (k:Int).toNat n)=min k n
 rw[if_neg (by omega),F6]
theorem zZH(n d:Nat)(hd:d<=n)(o:Option Int):sIx n d o<=n:=by
 cases o with
 |none=>exact hd
 |some v=>
  show(if v<0 then(v+(n:Int)).toNat else min v.toNat n)<=n
  by_cases hv:v<0
  ·rw[if_pos hv];omega
  ·rw[if_neg hv];exact Nat.min_le_right _ _
theorem zRQ(v:Int)(n d:Nat):(if v<0 then max (v+(n:Int)) 0 else min v (n:Int))=((sIx n d (some v):Nat):Int):=by
 show(if v<0 then max (v+(n:Int)) 0 else min v (n:Int))=(((if v<0 then(v+(n:Int)).toNat else min v.toNat n):Nat):Int)
 by_cases hv:v<0
 ·simp only[if_pos hv];omega
 ·simp only[if_neg hv];omega
theorem zOA(lo hi:Option Int)(n:Nat):Ed lo hi 1 (n:Int)=(((sIx n 0 lo:Nat):Int),((sIx n n hi:Nat):Int)):=by
 have h1: ¬((1:Int)<0):=by omega
 unfold Ed
 simp only[h1,if_false]
 refine Prod.ext ?_ ?_
 ·cases lo with
  |none=>rfl
  |some v=>exact zRQ v n 0
 ·cases hi with
  |none=>rfl
  |some v=>exact zRQ v n n
theorem zNQ(i j:Nat):Dk (i:Int) (j:Int) 1=j - i:=by
 unfold Dk
 have h1:(1:Int)>0:=by omega
 simp only[h1,if_true,Int.ediv_one]
 split<;>omega
theorem zHK{v:Value}{o:Option Int}{Q:Option Int->A2->Prop}(p:IsPart v o)(h:Q o s):wpAny (model prog w) A (Ky v) Q E s:=by
 cases p with
 |none=>exact slicePart_none h
 |int i t=>exact slicePart_int h
theorem zDO{sl:Addr}{vl vu:Value}{lo hi:Option Int}{n:Nat}{Q:Int×Int×Nat->A2->Prop}(hs:s.heap.IsSliceOf sl vl vu .none)(pl:IsPart vl lo)(pu:IsPart vu hi)
  (h:Q (((sIx n 0 lo:Nat):Int),1,sIx n n hi - sIx n 0 lo) s):wpAny (model prog w) A (Gg (.ref sl) (pure (n:Int))) Q E s:=by
 obtain⟨os,hos,hcs,hds⟩:=id hs
 unfold Gg Lw
 refine A0 (A0 (Co hos hds (x:=vl) rfl (A0 (Co hos hds (x:=vu) rfl (A0 (Co hos hds (x:= .none) rfl (A9 ?_)))))))
 refine A0 (slicePart_none ?_)
 show wpAny _ _ (if((1:Int)==0)=true then _ else _) _ _ s
 rw[if_neg (by decide)]
 refine A0 (zHK pl (A0 (zHK pu (A0 (A9 ?_)))))
 show wpAny _ _ (match Ed lo hi 1 (n:Int) with|(lo,hi)=>pure (lo,(1:Int),Dk lo hi 1)) _ _ s
 rw[zOA lo hi n]
 show wpAny _ _ (pure (((sIx n 0 lo:Nat):Int),(1:Int),Dk ((sIx n 0 lo:Nat):Int) ((sIx n n hi:Nat):Int) 1)) _ _ s
 rw[zNQ]
 exact A9 h
theorem zT6(xs:Array Value)(i k:Nat):((Ao k).filterMap fun(m:Nat)=>xs[((i:Int)+(m:Int)*1).toNat]?).toArray=((xs.toList.drop i).take k).toArray:=by
 have e:(fun(m:Nat)=>xs[((i:Int)+(m:Int)*1).toNat]?)=fun m=>xs[i+m]? :=by
  funext m
  have:((i:Int)+(m:Int)*1).toNat=i+m:=by omega
  rw[this]
 rw[e]
 have:=pick_run xs i k
 rw[List.filterMap_map] at this
 have e2:((fun x=>xs[x]?)∘fun x=>i+x)=fun m=>xs[i+m]? :=rfl
 rw[e2] at this
 rw[this]
theorem zFK{t sl:Addr}{items:Array Value}{vl vu:Value}{lo hi:Option Int}{Q:Value->A2->Prop}(ht:IsTup s.heap t items)(hs:s.heap.IsSliceOf sl vl vu .none)(pl:IsPart vl lo)(pu:IsPart vu hi)
  (hw: ¬(sIx items.size 0 lo=0/\sIx items.size items.size hi=items.size))
  (h:Q (.ref s.heap.objs.size) {s with heap:=s.heap.push {cls:= .type "tuple",data:= .seq ((items.toList.drop (sIx items.size 0 lo)).take (sIx items.size items.size hi - sIx items.size 0 lo)).toArray}})
  (hsz:items.size<=sizeLine):wpAny (model prog w) A (Hd (.ref t) (.ref sl)) Q E s:=by
 have ar:sizeOk (.seq ((items.toList.drop (sIx items.size 0 lo)).take (sIx items.size items.size hi - sIx items.size 0 lo)).toArray):=by
  show((items.toList.drop (sIx items.size 0 lo)).take (sIx items.size items.size hi - sIx items.size 0 lo)).toArray.size<=sizeLine
  rw[Ad,Bw,Kl,Dw]
  omega
 have hj:sIx items.size items.size hi<=items.size:=zZH _ _ (Af _) hi
 obtain⟨os,hos,hcs,hds⟩:=id hs
 have hTs:s.TypeIs (.ref sl) "slice":=⟨os,hos,hcs⟩
 unfold Hd
 try with_reducible refine B7 ?_
 first|refine A0 (A9 ?_)|skip
 refine A0 (Gy ht.typeIs (by decide) ?_)
 refine A0 (C9 (name:=As "__getitem__") ht.typeIs Ct
  (Cr Ct ht.typeIs entry_tuple_getitem ?_ (args_tuple_getitem _ _)))
 show wpAny _ _ (Gh (.ref t)>>=_) _ _ s
 refine A0 (tupleItemsOf_ ht ?_)
 refine A0 (Gp hTs ?_)
 rw[if_pos (by decide)]
 refine A0 (zDO hs pl pu ?_)
 have hno: ¬((((sIx items.size 0 lo:Nat):Int)==0 && (1:Int)==1 && (sIx items.size items.size hi - sIx items.size 0 lo)==items.size)=true):=by
  intro q
  rw[A3,A3] at q
  have q1:((sIx items.size 0 lo:Nat):Int)=0:=eq_of_beq q.1.1
  have q2:sIx items.size items.size hi - sIx items.size 0 lo=items.size:=eq_of_beq q.2
  exact hw ⟨by omega,by omega⟩
 show wpAny _ _ (if(((sIx items.size 0 lo:Nat):Int)==0 && (1:Int)==1 && (sIx items.size items.size hi - sIx items.size 0 lo)==items.size)=true then _ else _) _ _ s
 rw[if_neg hno,zT6]
 first
  |exact A0 (m:=Ds _) (C6 (A9 ⟨_,rfl,A9 h⟩) ar)
  |exact A0 (m:=Ds _) (C6 (A0 (A9 (A9 ⟨_,rfl,A9 h⟩))) ar)
  |exact A0 (A0 (m:=Ds _) (C6 (A9 (A9 ⟨_,rfl,A9 h⟩)) ar))
  |exact A0 (A0 (m:=Ds _) (C6 (A9 ⟨_,rfl,A9 h⟩) ar))
end
end HT
namespace L2
open PySem PySem.Spec PyProof.Rows
abbrev TO:=St->Hp->(Option Int->Hp->Prop)->Prop
def PO(X:Cx)(e:Option Expr)(t:TO):Prop:=
 ∀(a6:List (Addr×Obj)) (s:A2) (σ:St) (H:Hp) (Q:Option Int->Hp->Prop),Inv X a6 σ H s->t σ H Q→
  wpAny (model X.prog X.w) X.A (evalPart e X.env) (fun u s'=> ∃o H',Inv X a6 σ H' s'/\IsPart u o/\Q o H') X.xe s
def zW3:TO:=fun _ H Q=>Q none H
def yD5(t:TE):TO:=fun σ H Q=>t σ H fun x H1=> ∃i,x= .int i/\Q (some i) H1
section
variable{X:Cx}{e:Expr}{te:TE}{lo hi:Option Expr}{tl th:TO}{pos p2:Pos}
theorem zWN:PO X none zW3:=by
 intro a6 s σ H Q I h
 rw[evalPart_none]
 exact A9 ⟨none,H,I,.none,h⟩
theorem zWM(h:PE X e te):PO X (some e) (yD5 te):=by
 intro a6 s σ H Q I hw
 rw[evalPart_some]
 refine thn (h a6 s σ H _ I hw) fun u s1 ⟨x,H1,I1,r1,q1⟩=> ?_
 obtain⟨i,rfl,q⟩:=q1
 obtain⟨t,rfl⟩:=r1
 exact⟨some i,H1,I1,.int i t,q⟩
def SlR(X:Cx)(r:V->Option Int->Option Int->Hp->VK->Prop):Prop:=
 ∀(a6:List (Addr×Obj)) (s:A2) (σ:St) (H:Hp) (x:V) (v vl vu:Value) (lo hi:Option Int) (sl:Addr) (Q:VK),Inv X a6 σ H s->RelV x v->s.heap.IsSliceOf sl vl vu .none->IsPart vl lo->IsPart vu hi->r x lo hi H Q→
  ∃T id,typeLookup (.type T) "__getitem__"=pure (some (.builtin id))/\s.TypeIs v T/\wpAny (model X.prog X.w) X.A (Hd v (.ref sl)) (EP X a6 σ Q) X.xe s
theorem SlR.or{r r':V->Option Int->Option Int->Hp->VK->Prop}(h:SlR X r)(h':SlR X r'):SlR X (fun x lo hi H Q=>r x lo hi H Q∨r' x lo hi H Q):=by
 intro a6 s σ H x v vl vu lo hi sl Q I rx hs pl pu q
 rcases q with q|q
 ·exact h a6 s σ H x v vl vu lo hi sl Q I rx hs pl pu q
 ·exact h' a6 s σ H x v vl vu lo hi sl Q I rx hs pl pu q
def tSl(r:V->Option Int->Option Int->Hp->VK->Prop)(te:TE)(tl th:TO):TE:=fun σ H Q=>te σ H fun x H1=>tl σ H1 fun l H2=>th σ H2 fun u H3=>r x l u H3 Q
theorem zT7{r:V->Option Int->Option Int->Hp->VK->Prop}(hr:SlR X r)(he:PE X e te)(hl:PO X lo tl)(hu:PO X hi th):PE X (.Subscript e (.Slice lo hi none p2) pos) (tSl r te tl th):=by
 intro a6 s σ H Q I h
 refine Subscript_ (thn (he a6 s σ H _ I h) fun v s1 ⟨x,H1,I1,r1,q1⟩=> ?_)
 refine wpAny_Slice (thn (hl a6 s1 σ H1 _ I1 q1) fun vl s2 ⟨l,H2,I2,pl,q2⟩=>thn (hu a6 s2 σ H2 _ I2 q2) fun vu s3 ⟨u,H3,I3,pu,q3⟩=> ?_)
 rw[evalPart_none]
 refine A9 ?_
 have I4:Inv X a6 σ H3 {s3 with heap:=s3.heap.push {cls:= .type "slice",data:= .fields #[vl,vu,.none]}}:=I3.kept (t':=s3.toks) fun b ob q=>A1 _ q
 obtain⟨T,id,hT,ht,hg⟩:=hr a6 {s3 with heap:=s3.heap.push {cls:= .type "slice",data:= .fields #[vl,vu,.none]}} σ H3 x v vl vu l u s3.heap.objs.size Q I4 r1 (Mz ..) pl pu q3
 show wpAny (model X.prog X.w) X.A (subscriptTail e (.Slice lo hi none p2) v (.ref s3.heap.objs.size)) (EP X a6 σ Q) X.xe {s3 with heap:=s3.heap.push {cls:= .type "slice",data:= .fields #[vl,vu,.none]}}
 exact Mc (ops:=[.ref s3.heap.objs.size,v]) ht hT hg (by with_unfolding_all rfl)
noncomputable def cutV(xs:List V)(lo hi:Option Int):List V:=(xs.drop (HT.sIx xs.length 0 lo)).take (HT.sIx xs.length xs.length hi - HT.sIx xs.length 0 lo)
theorem zHB(xs:List V)(lo hi:Option Int):(cutV xs lo hi).length<=xs.length:=by
 unfold cutV
 rw[Bw,Kl]
 omega
def rSlT(K:A8):V->Option Int->Option Int->Hp->VK->Prop:=fun x lo hi H Q=> ∃a xs,x= .ref a/\SqT K H a xs∧
 ¬(HT.sIx xs.length 0 lo=0/\HT.sIx xs.length xs.length hi=xs.length)/\ ∀p,H p=none->Q (.ref p) (upd H p (.tup (cutV xs lo hi)))
theorem zYY:SlR X (rSlT X.K):=by
 intro a6 s σ H x v vl vu lo hi sl Q I rx hs pl pu h
 obtain⟨a,xs,rfl,hx,hw,q⟩:=h
 cases rx
 obtain⟨its,r,ht,hz⟩:=I.tuple hx
 have aa:its.toArray.size=xs.length:=by rw[Ad];exact r.length.symm
 refine⟨"tuple",_,PyProof.Rows.slot_tuple_getitem.lookup,ht.typeIs,?_⟩
 refine HT.zFK ht hs pl pu (by rw[aa];exact hw) ?_ (by rw[aa];exact hz)
 rw[aa]
 refine⟨.ref s.heap.objs.size,_,I.laid (t':=s.toks) (o:= .tup (cutV xs lo hi)) (fun b ob q=>A1 _ q) (Af _) ?_,rfl,q _ (I.hok.fresh (Af _))⟩
 exact⟨Dd (zHB xs lo hi) hz,_,(r.drop (HT.sIx xs.length 0 lo)).take (HT.sIx xs.length xs.length hi - HT.sIx xs.length 0 lo),G2 _ _⟩
theorem Vals.nil_iff{xs:List V}{us:List Value}(r:Vals xs us):us=[]↔xs=[]:=by
 cases r with
 |nil=>simp
 |cons _ _=>simp
end
noncomputable def ixN(n:Nat)(i:Int):Option Nat:=if 0<=i then(if i<n then some i.toNat else none) else if -(n:Int)<=i then some (i+n).toNat else none
noncomputable def atI{α:Type}(xs:List α)(i:Int):Option α:=(ixN xs.length i).bind fun j=>xs[j]?
theorem zR0{n:Nat}{i:Int}{j:Nat}(h:ixN n i=some j):seqIndex? i n=some j/\j<n/\ -(n:Int)<=i/\i<n:=by
 unfold ixN at h
 by_cases h0:0<=i
 ·rw[if_pos h0] at h
  by_cases h1:i<n
  ·rw[if_pos h1] at h
   have e:i.toNat=j:=B6 h
   exact⟨by rw[Ld h0 h1,e],by omega,by omega,h1⟩
  ·rw[if_neg h1] at h;cases h
 ·rw[if_neg h0] at h
  by_cases h1: -(n:Int)<=i
  ·rw[if_pos h1] at h
   have e:(i+n).toNat=j:=B6 h
   exact⟨by rw[Ke (by omega) h1,e],by omega,h1,by omega⟩
  ·rw[if_neg h1] at h;cases h
theorem zLZ{α:Type}{xs:List α}{i:Int}{v:α}(h:atI xs i=some v): ∃j,seqIndex? i xs.length=some j/\xs[j]? =some v/\j<xs.length/\ -(xs.length:Int)<=i/\i<xs.length:=by
 unfold atI at h
 cases e:ixN xs.length i with
 |none=>rw[e] at h;cases h
 |some j=>
  rw[e] at h
  obtain⟨h1,h2,h3,h4⟩:=zR0 e
  exact⟨j,h1,h,h2,h3,h4⟩
theorem zGL{α:Type}(xs:List α)(v:α):atI (xs++[v]) (-1)=some v:=by
 have hl:(xs++[v]).length=xs.length+1:=by simp
 have e:ixN (xs++[v]).length (-1)=some xs.length:=by
  unfold ixN
  rw[hl,if_neg (by decide),if_pos (by omega)]
  congr 1
  omega
 unfold atI
 rw[e]
 show(xs++[v])[xs.length]? =some v
 simp
def zM0(b:Expr):Prop:= ∀o i,subscripted b false o i=operate [o,i] (Hd o i)
def IxR(X:Cx)(r:R2):Prop:=
 ∀(value slice:Expr) (a6:List (Addr×Obj)) (s:A2) (σ:St) (H:Hp) (x y:V) (v u:Value) (Q:VK),Inv X a6 σ H s->RelV x v->RelV y u->r x y H Q→
  subscripted slice false v u=operate [v,u] (Hd v u)->wpAny (model X.prog X.w) X.A (subscriptTail value slice v u) (EP X a6 σ Q) X.xe s
def MtR(X:Cx)(id:String)(r:V->List V->Hp->VK->Prop):Prop:=
 ∀(a6:List (Addr×Obj)) (s:A2) (σ:St) (H:Hp) (x:V) (xs:List V) (v:Value) (us:List Value) (Q:VK),Inv X a6 σ H s->RelV x v->Vals xs us->r x xs H Q→
  wpAny (model X.prog X.w) X.A (call (.builtin id) (v::us)) (EP X a6 σ Q) X.xe s
section
variable{X:Cx}{a b:Expr}{ta tb:TE}{pos:Pos}
theorem IxR.or{r r':R2}(h:IxR X r)(h':IxR X r'):IxR X (fun x y H Q=>r x y H Q∨r' x y H Q):=by
 intro value slice a6 s σ H x y v u Q I rx ry q hs
 rcases q with q|q
 ·exact h value slice a6 s σ H x y v u Q I rx ry q hs
 ·exact h' value slice a6 s σ H x y v u Q I rx ry q hs
theorem yE7{r:R2}(hr:IxR X r)(ha:PE X a ta)(hb:PE X b tb)(hs:zM0 b):PE X (.Subscript a b pos) (tOp r ta tb):=by
 intro a6 s σ H Q I h
 exact Subscript_ (binT ha hb I h fun v u s2 x y H2 I2 rx ry q=>hr a b a6 s2 σ H2 x y v u Q I2 rx ry q (hs _ _))
def rIxL(K:A8):R2:=fun x y H Q=> ∃p xs i v,x= .ref p/\y= .int i/\SqL K H p xs/\atI xs i=some v/\Q v H
def rIxT(K:A8):R2:=fun x y H Q=> ∃p xs i v,x= .ref p/\y= .int i/\SqT K H p xs/\atI xs i=some v/\Q v H
def rIxS:R2:=fun x y H Q=> ∃z i c,x= .str z/\y= .int i/\z.length<=sizeLine/\atI z.cps.toList i=some c/\Q (.str ⟨#[c]⟩) H
theorem zXN:IxR X (rIxL X.K):=by
 intro value slice a6 s σ H x y v u Q I rx ry h hs
 obtain⟨p,xs,i,z,rfl,rfl,hq,he,q⟩:=h
 cases rx
 obtain⟨t,rfl⟩:=ry
 obtain⟨its,r,pl,hz⟩:=I.list hq
 obtain⟨j,h1,h2,h3,h4,h5⟩:=zLZ he
 obtain⟨w,ew,rw'⟩:=r.get h2
 have hl:=r.length
 have hn:=zHV
 have fin:EP X a6 σ Q w s:=⟨z,H,I,rw',q⟩
 by_cases h0:0<=i
 ·have hj:i.toNat=j:=by
   rw[Ld h0 h5] at h1
   exact B6 h1
  exact item_listR pl.isList h0 (by omega) (by rw[hj];simpa using ew) fin hs
 ·have hj:(i+(its.toArray.size:Int)).toNat=j:=by
   rw[Ke (by omega) h4] at h1
   rw[Ad,<- hl]
   exact B6 h1
  exact Hu (x:=w) pl.isList.typeIs slot_list_getitem.lookup
   (wpAny_getItem_list_neg (Q:=fun r s'=>r=w/\EP X a6 σ Q r s') pl.isList (by omega) (by rw[Ad]<;>omega) (by omega) (by rw[hj];simpa using ew) ⟨rfl,fin⟩) hs
theorem yC4:IxR X (rIxT X.K):=by
 intro value slice a6 s σ H x y v u Q I rx ry h hs
 obtain⟨p,xs,i,z,rfl,rfl,hq,he,q⟩:=h
 cases rx
 obtain⟨t,rfl⟩:=ry
 obtain⟨its,r,pl,hz⟩:=I.tuple hq
 obtain⟨j,h1,h2,h3,h4,h5⟩:=zLZ he
 obtain⟨w,ew,rw'⟩:=r.get h2
 have hl:=r.length
 have hn:=zHV
 have fin:EP X a6 σ Q w s:=⟨z,H,I,rw',q⟩
 exact Hu (x:=w) pl.typeIs slot_tuple_getitem.lookup
  (getItem_tuple (j:=j) (Q:=fun r s'=>r=w/\EP X a6 σ Q r s') pl (by omega) (by omega) (by rw[Ad,<- hl];exact h1) (by simpa using ew) ⟨rfl,fin⟩) hs
theorem yC5:IxR X rIxS:=by
 intro value slice a6 s σ H x y v u Q I rx ry h hs
 obtain⟨z,i,c,rfl,rfl,hz,he,q⟩:=h
 obtain⟨t,rfl⟩:=rx
 obtain⟨t',rfl⟩:=ry
 obtain⟨j,h1,h2,h3,h4,h5⟩:=zLZ he
 have hl:z.cps.toList.length=z.length:=by simp[Str.length]
 rw[hl] at h1 h4 h5
 have hn:=zHV
 exact Mc (typeIs_str s z t) slot_str_getitem.lookup (getItem_str (c:=c) (by
  have e1:decide (i< -(2 ^ 63:Int))=false:=decide_eq_false (by omega)
  have e2:decide (i≥2 ^ 63)=false:=decide_eq_false (by omega)
  rw[e1,e2,Md]) (by rw[h1];simpa using h2) ⟨.str ⟨#[c]⟩,H,I.tok _,⟨_,rfl⟩,q⟩) hs
def rIx(K:A8):R2:=fun x y H Q=>rIxL K x y H Q∨rIxT K x y H Q∨rIxS x y H Q
theorem yC6:IxR X (rIx X.K):=zXN.or (yC4.or yC5)
theorem zO1(its:List Value)(n j:Nat)(u:Value):Cu (·.setIfInBounds j u) {cls:= .type "list",data:= .seq its.toArray n}={cls:= .type "list",data:= .seq (its.set j u).toArray n}:=by simp[Cu]
theorem Inv.lst{a6:List (Addr×Obj)}{σ:St}{H:Hp}{s:A2}{p:Addr}{xs:List V}(I:Inv X a6 σ H s)(h:H p=some (.lst xs)):
  ∃(its:List Value) (n:Nat),Vals xs its/\s.heap.get? p=some {cls:= .type "list",data:= .seq its.toArray n}/\xs.length<=sizeLine:=by
 obtain⟨z,its,n,r,e⟩:=I.hok p _ h
 exact⟨its,n,r,e,z⟩
theorem Inv.lstUpd{a6:List (Addr×Obj)}{σ:St}{H:Hp}{s:A2}{p:Addr}{xs ys:List V}{its its':List Value}{n n':Nat}{f:Obj->Obj}(I:Inv X a6 σ H s)(h:H p=some (.lst xs))
  (ho:s.heap.get? p=some {cls:= .type "list",data:= .seq its.toArray n}) (hf:f {cls:= .type "list",data:= .seq its.toArray n}={cls:= .type "list",data:= .seq its'.toArray n'}) (r:Vals ys its') (hz:ys.length<=sizeLine) (t:Nat):
  Inv X a6 σ (upd H p (.lst ys)) {s with heap:=s.heap.update p f,toks:=t}:=by
 have e:(s.heap.update p f).get? p=some {cls:= .type "list",data:= .seq its'.toArray n'}:=by rw[Ie f ho (by rw[hf]<;>rfl),hf]
 refine I.write (x:=p) (e:=p) (by rw[h];trivial) (.inl rfl) (fun b u hb q=>(Hv _ _ (Cc hb)).trans q) ⟨_,e⟩ ?_
 exact⟨hz,its',n',r,e⟩
def yDW:V->V->V->Hp->(Hp->Prop)->Prop:=fun o i v H Q=> ∃p xs k j,o= .ref p/\i= .int k/\H p=some (.lst xs)/\ixN xs.length k=some j/\Q (upd H p (.lst (xs.set j v)))
theorem zSW:PSet X yDW:=by
 intro a6 s σ H o i v ov iv u Q I ro ri rv h
 obtain⟨p,xs,k,j,rfl,rfl,hp,hj,q⟩:=h
 cases ro
 obtain⟨t,rfl⟩:=ri
 obtain⟨its,n,r,ho,hz⟩:=I.lst hp
 obtain⟨h1,h2,h3,h4⟩:=zR0 hj
 have hl:=r.length
 have hn:=zHV
 have I':Inv X a6 σ (upd H p (.lst (xs.set j v))) {s with heap:=s.heap.update p (Cu (·.setIfInBounds j u))}:=
  I.lstUpd hp ho (zO1 its n j u) (r.set rv j) (by rw[B9];exact hz) s.toks
 by_cases h0:0<=k
 ·have hk:k.toNat=j:=by
   rw[Ld h0 h4] at h1
   exact B6 h1
  exact W.ki_setAt ho h0 (by omega) (by rw[Ad,<- hl];exact h4) (by rw[hk];exact⟨_,I',q⟩)
 ·have hk:(k+(its.toArray.size:Int)).toNat=j:=by
   rw[Ke (by omega) h3] at h1
   rw[Ad,<- hl]
   exact B6 h1
  exact W.ki_setBack ho (by omega) (by rw[Ad,<- hl];exact h3) (by omega) (by rw[hk];exact⟨_,I',q⟩)
theorem zJJ(lo hi:Option Int)(n:Nat):(F7 lo hi none n).1=((HT.sIx n 0 lo:Nat):Int)/\(F7 lo hi none n).2.1=((HT.sIx n n hi:Nat):Int)/\(F7 lo hi none n).2.2=1:=by
 refine⟨?_,?_,rfl⟩
 ·cases lo with
  |none=>simp[F7,HT.sIx]
  |some i=>
   simp only[F7,HT.sIx,Km,show(1:Int)>0 by decide,if_true]
   by_cases h:i<0
   ·simp only[h,if_true]<;>omega
   ·simp only[h,if_false]<;>omega
 ·cases hi with
  |none=>simp[F7,HT.sIx]
  |some i=>
   simp only[F7,HT.sIx,Km,show(1:Int)>0 by decide,if_true]
   by_cases h:i<0
   ·simp only[h,if_true]<;>omega
   ·simp only[h,if_false]<;>omega
theorem zIA(its:List Value)(lo hi:Option Int):slicePick its.toArray lo hi none=((its.drop (HT.sIx its.length 0 lo)).take (HT.sIx its.length its.length hi - HT.sIx its.length 0 lo)).toArray:=by
 obtain⟨h1,h2,h3⟩:=zJJ lo hi its.toArray.size
 unfold slicePick
 rw[h1,h2,h3]
 simp only[sliceRange_one,pick_run,Ad]<;>rfl
def rSlL(K:A8):V->Option Int->Option Int->Hp->VK->Prop:=fun x lo hi H Q=> ∃a xs,x= .ref a/\SqL K H a xs/\ ∀p,H p=none->Q (.ref p) (upd H p (.lst (cutV xs lo hi)))
theorem zW7:SlR X (rSlL X.K):=by
 intro a6 s σ H x v vl vu lo hi sl Q I rx hs pl pu h
 obtain⟨a,xs,rfl,hx,q⟩:=h
 cases rx
 obtain⟨its,r,ht,hz⟩:=I.list hx
 have aa:=r.length
 refine⟨"list",_,slot_list_getitem.lookup,ht.isList.typeIs,?_⟩
 refine wpAny_getItem_list_slice ht.isList hs pl pu .none (by simp) ?_ (by rw[Ad]<;>omega)
 rw[zIA,<- aa]
 refine⟨.ref s.heap.objs.size,_,I.laid (t':=s.toks) (o:= .lst (cutV xs lo hi)) (fun b ob q=>A1 _ q) (Af _) ?_,rfl,q _ (I.hok.fresh (Af _))⟩
 exact⟨Dd (zHB xs lo hi) hz,_,0,(r.drop (HT.sIx xs.length 0 lo)).take (HT.sIx xs.length xs.length hi - HT.sIx xs.length 0 lo),Ai _ rfl⟩
theorem zKX:zBY X (.builtin "len") (fun xs H Q=> ∃p ys,xs=[.ref p]/\(SqL X.K H p ys∨SqT X.K H p ys)/\Q (.int ys.length) H):=by
 intro a6 s σ H xs us Q I r h
 obtain⟨p,ys,rfl,hq,q⟩:=h
 obtain⟨u,rfl,rx⟩:=zHI r
 cases rx
 have hn:=zHV
 rcases hq with hq|hq
 ·obtain⟨its,r',pl,hz⟩:=I.list hq
  have aa:=r'.length
  exact Calls.call_len_list pl.isList (by simp only[Ad]<;>omega) ⟨.int ys.length,H,I.tok _,⟨s.toks+1,by rw[Ad,aa]⟩,q⟩
 ·obtain⟨its,r',pl,hz⟩:=I.tuple hq
  have aa:=r'.length
  exact len_tuple pl (by simp only[Ad]<;>omega) ⟨.int ys.length,H,I.tok _,⟨s.toks+1,by rw[Ad,aa]⟩,q⟩
theorem zKW:zBY X (.builtin "len") (fun xs H Q=> ∃z,xs=[.str z]/\z.length<=sizeLine/\Q (.int z.length) H):=by
 intro a6 s σ H xs us Q I r h
 obtain⟨z,rfl,hz,q⟩:=h
 obtain⟨u,rfl,t,rfl⟩:=zHI r
 have hn:=zHV
 exact len_str (by omega) ⟨.int z.length,H,I.tok _,⟨_,rfl⟩,q⟩
theorem zBY.or{f:Value}{r r':List V->Hp->VK->Prop}(h:zBY X f r)(h':zBY X f r'):zBY X f (fun xs H Q=>r xs H Q∨r' xs H Q):=by
 intro a6 s σ H xs us Q I rs q
 rcases q with q|q
 ·exact h a6 s σ H xs us Q I rs q
 ·exact h' a6 s σ H xs us Q I rs q
theorem zKV:zBY X (.type "list") (fun xs H Q=> ∃p ys,xs=[.ref p]/\(SqL X.K H p ys∨SqT X.K H p ys)/\ ∀l,H l=none->Q (.ref l) (upd H l (.lst ys))):=by
 intro a6 s σ H xs us Q I r h
 obtain⟨p,ys,rfl,hq,q⟩:=h
 obtain⟨u,rfl,rx⟩:=zHI r
 cases rx
 have fin: ∀(its:List Value),Vals ys its->ys.length<=sizeLine-> ∀(h':Heap) (c':Nat),(∀b o',s.heap.get? b=some o'->h'.get? b=some o')→
   h'.get? s.heap.objs.size=some {cls:= .type "list",dict:=none,data:= .seq its.toArray c',slots:= #[]}->EP X a6 σ Q (.ref s.heap.objs.size) {s with heap:=h'}:=fun its r' hz h' c' kp e=>
  ⟨.ref s.heap.objs.size,_,I.laid (t':=s.toks) kp (Af _) (show zC6 X.prog X.w _ h' _ (.lst ys) from⟨hz,its,c',r',e⟩),rfl,q _ (I.hok.fresh (Af _))⟩
 rcases hq with hq|hq
 ·obtain⟨its,r',pl,hz⟩:=I.list hq
  have aa:=r'.length
  obtain⟨o,ho,hc,n,hd⟩:=pl.isList
  exact call_list_seq p (.inl rfl) ho hc hd (fun h' c' kp e=>fin its r' hz h' c' kp e) (by simp only[Ad]<;>omega)
 ·obtain⟨its,r',pl,hz⟩:=I.tuple hq
  have aa:=r'.length
  obtain⟨o,ho,hc,n,hd⟩:=pl
  exact call_list_seq p (.inr rfl) ho hc hd (fun h' c' kp e=>fin its r' hz h' c' kp e) (by simp only[Ad]<;>omega)
theorem zIU:zBY X (.type "tuple") (fun xs H Q=> ∃p ys,xs=[.ref p]/\((SqL X.K H p ys/\ ∀l,H l=none->Q (.ref l) (upd H l (.tup ys)))∨(SqT X.K H p ys/\Q (.ref p) H))):=by
 intro a6 s σ H xs us Q I r h
 obtain⟨p,ys,rfl,h⟩:=h
 obtain⟨u,rfl,rx⟩:=zHI r
 cases rx
 rcases h with⟨hq,q⟩|⟨hq,q⟩
 ·obtain⟨its,r',pl,hz⟩:=I.list hq
  have aa:=r'.length
  refine call_tuple_list pl.isList (fun h' kp=> ?_) (by simp only[Ad]<;>omega)
  have I1:Inv X a6 σ H {s with heap:=h'}:=I.kept (t':=s.toks) kp
  have I2:Inv X a6 σ (upd H h'.objs.size (.tup ys)) {s with heap:=h'.push {cls:= .type "tuple",data:= .seq its.toArray}}:=
   I1.laid (t':=s.toks) (fun b o e=>A1 _ e) (Af _) (show zC6 X.prog X.w _ _ _ (.tup ys) from⟨hz,its,r',G2 _ _⟩)
  exact⟨.ref h'.objs.size,_,I2,rfl,q _ (I1.hok.fresh (Af _))⟩
 ·obtain⟨its,r',pl,hz⟩:=I.tuple hq
  exact call_tuple_same pl ⟨.ref p,H,I,rfl,q⟩
def tyV(K:A8)(T:String)(x:V)(H:Hp):Prop:=match x with
 | .str _ => T = "str"
 | .int _ => T = "int"
 | .ref p => (T = "list" /\ ∃ xs,SqL K H p xs) ∨ (T = "tuple" /\ ∃ o,K.lookup p = some o /\ o.cls = .type "tuple" /\ o.dict = none) ∨
   (T= "dict" /\((∃kvs,H p=some (.dK kvs))∨ ∃kvs,H p=some (.dT kvs)))∨(T= "set" /\ ∃S n,H p=some (.set S n))
 |_=>False
theorem zYN{a6:List (Addr×Obj)}{σ:St}{H:Hp}{s:A2}{T:String}{x:V}{v:Value}(I:Inv X a6 σ H s)(r:RelV x v)(ty:tyV X.K T x H):
  s.TypeIs v T/\ ∀a,v= .ref a-> ∃ob,s.heap.get? a=some ob/\ob.dict=none:=by
 cases x with
 |str z=>
  obtain⟨t,rfl⟩:=r
  cases (show T= "str" from ty)
  exact⟨typeIs_str s z t,fun _ e=>nomatch e⟩
 |int i=>
  obtain⟨t,rfl⟩:=r
  cases (show T= "int" from ty)
  exact⟨Ir s i t,fun _ e=>nomatch e⟩
 |ref p=>
  cases r
  rcases ty with⟨rfl,xs,hq⟩|⟨rfl,o,hk,hc,hd⟩|⟨rfl,hk⟩|⟨rfl,S,n,hk⟩
  ·obtain⟨its,_,pl,_⟩:=I.list hq
   refine⟨pl.isList.typeIs,fun a e=> ?_⟩
   cases e
   obtain⟨o,n,e,c,hd,_⟩:=pl
   exact⟨o,e,hd⟩
  ·refine ⟨⟨o,I.kIn p o hk,hc⟩,fun a e => ?_⟩
   cases e
   exact⟨o,I.kIn _ o hk,hd⟩
  ·have z: ∃o,s.heap.get? p=some o/\o.ExactDict:=by
    rcases hk with⟨kvs,hk⟩|⟨kvs,hk⟩
    ·obtain⟨_,_,_,_,o,_,_,e,ex,_⟩:=I.hok p _ hk
     exact⟨o,e,ex⟩
    ·obtain⟨_,_,_,_,o,_,_,e,ex,_⟩:=I.hok p _ hk
     exact⟨o,e,ex⟩
   obtain⟨o,e,ex⟩:=z
   refine⟨⟨o,e,ex.1⟩,fun a e2=> ?_⟩
   cases e2
   exact⟨o,e,ex.2.1⟩
  ·obtain⟨o,_,_,_,e,ex,_⟩:=I.hok p _ hk
   refine⟨⟨o,e,ex.1⟩,fun a e2=> ?_⟩
   cases e2
   exact⟨o,e,ex.2.1⟩
 |_=>exact E7 ty
def tBM(K:A8)(T:String)(r:V->List V->Hp->VK->Prop)(to:TE)(t:TA):TE:=fun σ H Q=>to σ H fun x H1=>tyV K T x H1/\t σ H1 fun xs H2=>r x xs H2 Q
variable{o e:Expr}{es:List Expr}{to:TE}{t:TA}{name:Str}{ai a8:Pos}{T id:String}{r:V->List V->Hp->VK->Prop}
theorem yE8(pa:PlainAttrs T)(slot:Slot T name id)(hty:Kf (.builtin id)=pure (.type "method_descriptor")) (hm:MtR X id r) (ho:PE X o to) (ha:PA X (e::es) t)
  (bo : Ea o name X.env (eval o X.env) = eval o X.env := by rfl)
  (cy : ((Cg a8 (starEach (e :: es) X.env)).all (fun x => !x.1) && (Fs a8 (Dy [] X.env)).all (fun x => x.1.isSome)
   && decide ((e::es).length+([]:List F8).length+(if([]:List F8).isEmpty then 0 else 1)<30))=true:=by rfl)
  (bh:(ai.endLine==a8.line)=true:=by rfl) (hs:starEach (e::es) X.env=(false,eval e X.env)::starEach es X.env:=by rfl) (aq:(Cg a8 (starEach es X.env)).any (·.1)=false:=by rfl):
  PE X (.Call (.Attribute o name ai) (e::es) [] a8) (tBM X.K T r to t):=by
 intro a6 s σ H Q I h
 refine wpAny_Call_method_late bo cy bh rfl (thn (ho a6 s σ H _ I h) fun v s1 ⟨x,H1,I1,r1,ty,q1⟩=> ?_)
 obtain⟨h1,h2⟩:=zYN I1 r1 ty
 refine⟨T,id,pa,slot,hty,h1,h2,?_⟩
 have hA:=ha a8 a6 s1 σ H1 _ I1 q1
 rw[hs] at hA⊢
 refine E2 (by show(false || (Cg a8 (starEach es X.env)).any (·.1))=false;rw[aq]<;>rfl) (Dq ?_)
 exact thn hA fun us s2 ⟨vs,H2,I2,r2,q2⟩=>hm a6 s2 σ H2 x vs v us Q I2 r1 r2 q2
end
def MtM(X:Cx)(id:String)(r:V->List V->Hp->VK->Prop):Prop:=
 ∀(a6:List (Addr×Obj)) (s:A2) (σ:St) (H:Hp) (x:V) (xs:List V) (v:Value) (us:List Value) (Q:VK),Inv X a6 σ H s->RelV x v->Vals xs us->r x xs H Q→
  wpAny (model X.prog X.w) X.A (call (.builtin id) (v::us)) (EP X a6 σ Q) X.xe s
theorem Vals.one: ∀{x:V} {us:List Value},Vals [x] us-> ∃u,us=[u]/\RelV x u
 |_,_,.cons r .nil=>⟨_,rfl,r⟩
theorem Vals.eraseIdx: ∀{xs:List V} {us:List Value} (i:Nat),Vals xs us->Vals (xs.eraseIdx i) (us.eraseIdx i)
 |_,_,_,.nil=> .nil
 |_,_,0,.cons _ t=>t
 |_,_,i+1,.cons r t=> .cons r (Vals.eraseIdx i t)
section
variable{X:Cx}{a6:List (Addr×Obj)}{σ:St}{H:Hp}{s:A2}{l b:Addr}{xs ys zs:List V}
theorem Inv.lset{its its':List Value}{n:Nat}{f:Array Value->Array Value}{t':Nat}(I:Inv X a6 σ H s)(hH:H l=some (.lst xs))
  (e:s.heap.get? l=some {cls:= .type "list",data:= .seq its.toArray n}) (hf:f its.toArray=its'.toArray) (hv:Vals ys its') (hz:ys.length<=sizeLine):
  Inv X a6 σ (upd H l (.lst ys)) {s with heap:=s.heap.update l (Cu f),toks:=t'}:=by
 have q:=PySem.IsL.update e f
 rw[hf] at q
 refine I.write (x:=l) (e:=l) (by rw[hH];exact trivial) (.inl rfl) (fun b' u hb hu=>(Hv s.heap (Cu f) (Cc hb)).trans hu) ⟨_,q⟩ ?_
 exact⟨hz,its',_,hv,q⟩
theorem Inv.lnew{its:List Value}{t':Nat}(I:Inv X a6 σ H s)(hv:Vals ys its)(hz:ys.length<=sizeLine):
  Inv X a6 σ (upd H s.heap.objs.size (.lst ys)) {s with heap:=s.heap.push {cls:= .type "list",data:= .seq its.toArray},toks:=t'}:=
 I.laid (fun _ _ q=>A1 _ q) (Af _) ⟨hz,its,0,hv,Ai _ rfl⟩
theorem Inv.fresh(I:Inv X a6 σ H s):H s.heap.objs.size=none:=I.hok.fresh (Af _)
theorem Inv.lstM(I:Inv X a6 σ H s)(hH:H l=some (.lst xs)):xs.length<=sizeLine/\ ∃(its:List Value) (n:Nat),Vals xs its/\xs.length=its.length/\s.heap.get? l=some {cls:= .type "list",data:= .seq its.toArray n}:=by
 obtain⟨z,its,n,r,e⟩:=I.hok l _ hH
 exact⟨z,its,n,r,r.length,e⟩
theorem zTO{n:Nat}(h:n<=sizeLine):Dt n=false:=by
 unfold Dt
 exact decide_eq_false (by omega)
end
section
variable{X:Cx}
def zPS:V->List V->Hp->VK->Prop:=fun x vs H Q=> ∃l xs y,x= .ref l/\vs=[y]/\H l=some (.lst xs)/\xs.length<sizeLine/\Q .non (upd H l (.lst (xs++[y])))
theorem zBB:MtM X "list.append" zPS:=by
 intro a6 s σ H x vs v us Q I rx rv h
 obtain⟨l,xs,y,rfl,rfl,hH,hz,q⟩:=h
 cases rx
 obtain⟨u,rfl,ru⟩:=rv.one
 obtain⟨z,its,n,r,hl,e⟩:=I.lstM hH
 refine Du F.slot_list_append ⟨_,e,rfl⟩ F.entry_list_append (F.args_list_append_2 _ _) (PySem.list_append l its.toArray n u (by rw[Ad];omega)) ⟨e,?_⟩
 refine⟨.non,_,I.lset (its':=its++[u]) hH e (by simp) (r.append (.cons ru .nil)) ?_,rfl,q⟩
 rw[Bf,Fk]
 omega
end
section
variable{prog:Aj}{w:World}{A:B8}{E:Value->A2->Prop}{s:A2}
set_option maxRecDepth 100000 in
end
section
variable{κ:Type}[DecidableEq κ]
noncomputable def valV(kvs:List (κ×V))(k:κ):Option V:=(kvs.find? fun kv=>decide (kv.1=k)).map (·.2)
noncomputable def putK(kvs:List (κ×V))(k:κ)(v:V):List (κ×V):=
 if(kvs.any fun kv=>decide (kv.1=k))=true then kvs.map (fun kv=>if kv.1=k then(kv.1,v) else kv) else kvs++[(k,v)]
theorem zGE{p:κ×V}{r:List (κ×V)}{k:κ}(e:p.1=k):valV (p::r) k=some p.2:=by simp[valV,E5,e]
theorem zEV{p:κ×V}{r:List (κ×V)}{k:κ}(e: ¬p.1=k):valV (p::r) k=valV r k:=by simp[valV,E5,e]
theorem zI6(k:κ): ∀kvs:List (κ×V),(kvs.any fun kv=>decide (kv.1=k))=(valV kvs k).isSome
 |[]=>rfl
 |p::r=>by
  rw[Ft]
  by_cases e:p.1=k
  ·simp only[zGE e,decide_eq_true e,Bool.true_or,Jl]
  ·rw[zEV e,decide_eq_false e,Me];exact zI6 k r
theorem zGY(kvs:List (κ×V))(k:κ)(v:V):(putK kvs k v).length<=kvs.length+1:=by
 unfold putK
 split
 ·rw[Bo];omega
 ·rw[Bf,Bg,Ig];omega
theorem zT3{kvs:List (κ×V)}{k:κ}(v:V)(h:valV kvs k=none):putK kvs k v=kvs++[(k,v)]:=by
 unfold putK
 rw[zI6,h]
 exact if_neg (by decide)
theorem RelO.isSome_eq{o:Option V}{u:Option Value}(r:RelO o u):o.isSome=u.isSome:=by
 cases o with
 |none=>cases u with
  |none=>rfl
  |some _=>exact(show False from r).elim
 |some _=>cases u with
  |none=>exact(show False from r).elim
  |some _=>rfl
theorem RelO.getD{o:Option V}{u:Option Value}{d:V}{d':Value}(r:RelO o u)(rd:RelV d d'):RelV (o.getD d) (u.getD d'):=by
 cases o with
 |none=>cases u with
  |none=>exact rd
  |some _=>exact(show False from r).elim
 |some _=>cases u with
  |none=>exact(show False from r).elim
  |some _=>exact r
theorem KV.val{kvs:List (κ×V)}{vs:List (κ×Value)}(r:KV kvs vs)(k:κ):RelO (valV kvs k) (Jy vs k):=by
 unfold KV at r
 induction r with
 | nil => exact True.intro
 | @cons p q ps qs h t ih=>
  obtain⟨h1,h2⟩:=h
  by_cases e:p.1=k
  ·have e':q.1=k:=h1.symm.trans e
   have b:Jy (q::qs) k=some q.2:=by simp[Jy,E5,e']
   rw[zGE e,b];exact h2
  ·have e' : ¬ q.1 = k := fun z => e (h1.trans z)
   have b:Jy (q::qs) k=Jy qs k:=by simp[Jy,E5,e']
   rw[zEV e,b];exact ih
theorem KV.any{kvs:List (κ×V)}{vs:List (κ×Value)}(r:KV kvs vs)(k:κ):(kvs.any fun kv=>decide (kv.1=k))=vs.any fun kv=>decide (kv.1=k):=by
 unfold KV at r
 induction r with
 |nil=>rfl
 |cons h t ih=>rw[Ft,Ft,ih,h.1]
theorem KV.repl{kvs:List (κ×V)}{vs:List (κ×Value)}(r:KV kvs vs)(k:κ){y:V}{u:Value}(ry:RelV y u):
  KV (kvs.map fun kv=>if kv.1=k then(kv.1,y) else kv) (vs.map fun kv=>if kv.1=k then(kv.1,u) else kv):=by
 unfold KV at r⊢
 induction r with
 |nil=>exact .nil
 | @cons p q ps qs h t ih=>
  rw[An,An]
  refine .cons ?_ ih
  obtain⟨h1,h2⟩:=h
  by_cases e:p.1=k
  ·rw[if_pos e,if_pos (h1.symm.trans e)];exact⟨h1,ry⟩
  ·rw[if_neg e,if_neg (fun z=>e (h1.trans z))];exact⟨h1,h2⟩
theorem KV.put{kvs:List (κ×V)}{vs:List (κ×Value)}(r:KV kvs vs)(k:κ){y:V}{u:Value}(ry:RelV y u):KV (putK kvs k y) (Mo vs k u):=by
 unfold putK Mo
 rw[r.any k]
 by_cases e:(vs.any fun kv=>decide (kv.1=k))=true
 ·rw[if_pos e,if_pos e];exact r.repl k ry
 ·rw[if_neg e,if_neg e];exact Mw r ⟨rfl,ry⟩
theorem KV.length{kvs:List (κ×V)}{vs:List (κ×Value)}(r:KV kvs vs):kvs.length=vs.length:=Ji r
end
theorem zO3{P:Aj}{w:World}{k:Key}{u:Value}(r:RelV (kV k) u):(zB8 P w).is k u=true:=by
 cases k with
 |inl i=>obtain⟨t,e⟩:=(show∃t,u=L8 i t from r);subst e;exact zLN P w i t
 |inr x=>obtain⟨t,e⟩:=(show∃t,u=L9 x t from r);subst e;exact zLM P w x t
theorem zK9{P:Aj}{w:World}: ∀{ks:List Key} {us:List Value},Vals (ks.map kV) us->ItemsAre (zB8 P w) ks us
 |[],_,r=>by rw[Cs] at r;cases r;exact .nil
 |k::ks,_,r=>by
  rw[An] at r
  cases r with
  |cons h t=>exact .cons (zO3 h) (zK9 t)
abbrev KT(H:Hp):List (List Key×V)->List (List Key×Addr×Value)->Prop:=Paired fun p q=>p.1=q.1/\H q.2.1=some (.tup (p.1.map kV))/\RelV p.2 q.2.2
theorem KT.val{H:Hp}{kvs:List (List Key×V)}{xs:List (List Key×Addr×Value)}(r:KT H kvs xs)(k:List Key):RelO (valV kvs k) ((atKey xs k).map (·.2)):=by
 induction r with
 | nil => exact True.intro
 | @cons p q ps qs h t ih=>
  obtain⟨h1,_,h2⟩:=h
  by_cases e:p.1=k
  ·have e':q.1=k:=h1.symm.trans e
   have b:atKey (q::qs) k=some q.2:=by simp[atKey,E5,e']
   rw[zGE e,b];exact h2
  ·have e' : ¬ q.1 = k := fun z => e (h1.trans z)
   have b:atKey (q::qs) k=atKey qs k:=by simp[atKey,E5,e']
   rw[zEV e,b];exact ih
theorem KT.repl{H:Hp}{kvs:List (List Key×V)}{xs:List (List Key×Addr×Value)}(r:KT H kvs xs)(k:List Key){y:V}{u:Value}(ry:RelV y u):
  KT H (kvs.map fun kv=>if kv.1=k then(kv.1,y) else kv) (xs.map (putAt k u)):=by
 induction r with
 |nil=>exact .nil
 | @cons p q ps qs h t ih=>
  rw[An,An]
  refine .cons ?_ ih
  obtain⟨h1,h2,h3⟩:=h
  unfold putAt
  by_cases e:p.1=k
  ·rw[if_pos e,if_pos (h1.symm.trans e)];exact⟨h1,h2,ry⟩
  ·rw[if_neg e,if_neg (fun z=>e (h1.trans z))];exact⟨h1,h2,h3⟩
theorem KT.put{H:Hp}{kvs:List (List Key×V)}{xs:List (List Key×Addr×Value)}(r:KT H kvs xs)(k:List Key){b:Addr}{y:V}{u:Value}(hb:H b=some (.tup (k.map kV)))(ry:RelV y u):
  KT H (putK kvs k y) (storedH xs k b u):=by
 have e:(kvs.any fun kv=>decide (kv.1=k))=(atKey xs k).isSome:=by rw[zI6,(r.val k).isSome_eq,Option.isSome_map]
 unfold putK storedH
 rw[e]
 by_cases q:(atKey xs k).isSome=true
 ·rw[if_pos q,if_pos q];exact r.repl k ry
 ·rw[if_neg q,if_neg q];exact Mw r ⟨rfl,hb,ry⟩
theorem KT.keeps{H H':Hp}{kvs:List (List Key×V)}{xs:List (List Key×Addr×Value)}(r:KT H kvs xs)(ht: ∀b ys,H b=some (.tup ys)->H' b=some (.tup ys)):KT H' kvs xs:=
 Paired.mapP r fun _ _ z=>⟨z.1,ht _ _ z.2.1,z.2.2⟩
section
variable{P:Aj}{w:World}{H:Hp}{h:Heap}{a:Addr}
theorem zZN{u:HO}(ok:HOk P w H h)(e:Rd H a u):zC6 P w H h a u:=e.ok ok
theorem zO6{kvs:List (Key×V)}(ok:HOk P w H h)(e:Rd H a (.dK kvs)):kvs.length<=sizeLine/\(a==Dc)=false/\ ∃vs,KV kvs vs/\h.DictOf (zB8 P w) a vs:=
 show zC6 P w H h a (.dK kvs) from zZN ok e
theorem yFY{kvs:List (Key×V)}(ok:HOk P w H h)(e:H a=some (.dK kvs)):kvs.length<=sizeLine/\(a==Dc)=false/\ ∃vs,KV kvs vs/\h.DictOf (zB8 P w) a vs:=zO6 ok (.inl e)
theorem zK7{ks:List Key}(ok:HOk P w H h)(e:H a=some (.tup (ks.map kV))):(tupleKind (zB8 P w)).is h ks a:=by
 obtain⟨_,its,r,o,h1,h2,n,h3⟩:=(show zC6 P w H h a (.tup (ks.map kV)) from ok a _ e)
 exact⟨o,its.toArray,n,h1,h2,h3,by simpa using zK9 r⟩
theorem zO5{kvs:List (List Key×V)}(ok:HOk P w H h)(e:Rd H a (.dT kvs)):kvs.length<=sizeLine/\(a==Dc)=false∧
  ∃xs,KT H kvs xs/\h.DictOfH (tupleKind (zB8 P w)) a xs:=by
 obtain⟨z,y,xs,r,o,es,ep,h1,h2,h3,h4,h5⟩:=(show zC6 P w H h a (.dT kvs) from zZN ok e)
 refine⟨z,y,xs,r,o,es,ep,h1,h2,h3,h4,fun x hx=> ?_,h5⟩
 have all: ∀{l:List (List Key×V)} {m:List (List Key×Addr×Value)},KT H l m-> ∀x∈m,(tupleKind (zB8 P w)).is h x.1 x.2.1:=by
  intro l m q
  induction q with
  | nil => intro x hx;exact nomatch hx
  | @cons p q ps qs hq t ih=>
   intro x hx
   rcases Ac.mp hx with e|hx
   ·subst e
    exact zK7 ok (by rw[<- hq.1];exact hq.2.1)
   ·exact ih x hx
 exact all r x hx
theorem yFX{kvs:List (List Key×V)}(ok:HOk P w H h)(e:H a=some (.dT kvs)):kvs.length<=sizeLine/\(a==Dc)=false∧
  ∃xs,KT H kvs xs/\h.DictOfH (tupleKind (zB8 P w)) a xs:=zO5 ok (.inl e)
end
def DGet(H:Hp)(a:Addr)(y:V)(r:Option V):Prop:=
 (∃kvs k,Rd H a (.dK kvs)/\y=kV k/\r=valV kvs k)∨ ∃kvs k b,Rd H a (.dT kvs)/\y= .ref b/\H b=some (.tup (k.map kV))/\r=valV kvs k
def DPut(H:Hp)(a:Addr)(y v:V)(H':Hp):Prop:=
 (∃kvs k,H a=some (.dK kvs)/\y=kV k/\kvs.length<sizeLine/\H'=upd H a (.dK (putK kvs k v)))∨
 ∃kvs k b,H a=some (.dT kvs)/\y= .ref b/\H b=some (.tup (k.map kV))/\kvs.length<sizeLine/\H'=upd H a (.dT (putK kvs k v))
theorem DGet.k{H:Hp}{a:Addr}{kvs:List (Key×V)}{k:Key}(e:H a=some (.dK kvs)):DGet H a (kV k) (valV kvs k):= .inl ⟨kvs,k,.inl e,rfl,rfl⟩
theorem DPut.k{H:Hp}{a:Addr}{kvs:List (Key×V)}{k:Key}{v:V}(e:H a=some (.dK kvs))(hl:kvs.length<sizeLine):DPut H a (kV k) v (upd H a (.dK (putK kvs k v))):= .inl ⟨kvs,k,e,rfl,hl,rfl⟩
section
variable{X:Cx}{a6:List (Addr×Obj)}{σ:St}{H:Hp}{s:A2}{a:Addr}{y v:V}{u r:Value}{o:Option V}{A:B8}{E:Value->A2->Prop}
theorem Inv.big(I:Inv X a6 σ H s):Dc<s.heap.objs.size:=by
 have h:mainGlobals<s.heap.objs.size:=(I.mod.glob.keeps I.bk).lt
 exact Kg (by decide) h
theorem zRN{Q:Value->A2->Prop}(hu:A.units+1<cLine)(I:Inv X a6 σ H s)(g:DGet H a y (some v))(ry:RelV y u)(h: ∀w' s',Inv X a6 σ H s'->RelV v w'->Q w' s'):
  wpAny (model X.prog X.w) A (Hd (.ref a) u) Q E s:=by
 rcases g with⟨kvs,k,e,ey,l⟩|⟨kvs,k,b,e,ey,eb,l⟩
 ·subst ey
  obtain⟨z,hd,vs,rel,dd⟩:=zO6 I.hok e
  obtain⟨w',hw,rw'⟩:=RelO.some_of (v:=v) (o:=Jy vs k) (by rw[l];exact rel.val k)
  exact wpAny_getItem_of (zO3 ry) dd.mapOf hw (h w' _ (I.tok _) rw')
 ·subst ey
  cases (show u=Av b from ry)
  obtain⟨z,hd,xs,rel,dd⟩:=zO5 I.hok e
  obtain⟨w',hw,rw'⟩:=RelO.some_of (v:=v) (o:=(atKey xs k).map (·.2)) (by rw[l];exact rel.val k)
  obtain⟨p,hp,hp2⟩:=Option.map_eq_some_iff.mp hw
  refine wpAny_getItem_heap (Et hu) (zK7 I.hok eb) dd hp ?_
  rw[hp2]
  exact h w' _ (I.tok _) rw'
theorem zRL{h':Heap}{t':Nat}{ob:HO}(I:Inv X a6 σ H s)(mu:Mut (H a))(hs:De a s.heap h')(he: ∃q,h'.get? a=some q)(new:zC6 X.prog X.w (upd H a ob) h' a ob):
  Inv X a6 σ (upd H a ob) {s with heap:=h',toks:=t'}:=
 I.write (x:=a) (e:=a) mu (.inl rfl) (fun b q hb z=>(hs.2 b hb).trans z) he new
theorem zVJ{P:Aj}{w:World}{H':Hp}{h':Heap}{kvs:List (Key×V)}{vs:List (Key×Value)}(z:kvs.length<=sizeLine)(hd:(a==Dc)=false)(rel:KV kvs vs)(dd:h'.DictOf (zB8 P w) a vs):
  zC6 P w H' h' a (.dK kvs):=⟨z,hd,vs,rel,dd⟩
theorem zRM{H':Hp}{Q:Unit->A2->Prop}(hu:A.units+1<cLine)(I:Inv X a6 σ H s)(g:DPut H a y v H')(ry:RelV y u)(rv:RelV v r)(h: ∀s',Inv X a6 σ H' s'->Q () s'):
  wpAny (model X.prog X.w) A (setItem (.ref a) u r) Q E s:=by
 rcases g with⟨kvs,k,e,ey,l,eH⟩|⟨kvs,k,b,e,ey,eb,l,eH⟩
 ·subst ey eH
  obtain⟨z,hd,vs,rel,dd⟩:=yFY I.hok e
  have hz:vs.length<=sizeLine:=by rw[<- rel.length];exact z
  have hl:(putK kvs k v).length<=sizeLine:=by have:=zGY kvs k v;omega
  refine wpAny_setItem_pairs (hsz:=hz) (zO3 ry) dd fun h' dd' hs=>h _ ?_
  have he: ∃q,h'.get? a=some q:=let ⟨q,_,_,hq,_⟩:=dd';⟨q,hq⟩
  exact zRL I (by rw[e];exact True.intro) hs he (zVJ hl hd (rel.put k rv) dd')
 ·subst ey eH
  cases (show u=Av b from ry)
  obtain⟨z,hd,xs,rel,dd⟩:=yFX I.hok e
  have hz:xs.length<=sizeLine:=by rw[<- Ji rel];exact z
  have hl:(putK kvs k v).length<=sizeLine:=by have:=zGY kvs k v;omega
  refine wpAny_setItem_heap (hsz:=hz) (Et hu) (zK7 I.hok eb) dd fun h' dd' hs=>h _ ?_
  obtain⟨q,es,ep,hq,h2,h3,h4,_,h5⟩:=dd'
  refine zRL I (by rw[e];exact True.intro) hs ⟨q,hq⟩ ⟨hl,hd,_,(rel.put k eb rv).keeps fun c ys ec=> ?_,q,es,ep,hq,h2,h3,h4,h5⟩
  rw[zAU (yF5 ec e (fun z=>nomatch z))]
  exact ec
end
theorem zLT{X:Cx}{a6:List (Addr×Obj)}{σ:St}{H:Hp}{s:A2}{a:Addr}{y:V}{o:Option V}(I:Inv X a6 σ H s)(g:DGet H a y o):s.TypeIs (.ref a) "dict":=by
 rcases g with⟨kvs,k,e,_,_⟩|⟨kvs,k,b,e,_,_,_⟩
 ·obtain⟨_,_,vs,_,dd⟩:=zO6 I.hok e
  exact dd.typeIs
 ·obtain⟨_,_,xs,_,dd⟩:=zO5 I.hok e
  exact dd.typeIs
def yDU(td ty tv:TE):TS:=fun D σ H=>tv σ H fun v H1=>td σ H1 fun x H2=>ty σ H2 fun y H3=> ∃a H4,x= .ref a/\DPut H3 a y v H4/\D.nx σ H4
section
variable{X:Cx}{o i e value:Expr}{pos ap da:Pos}{td ty tv:TE}
theorem zWL(hu:X.A.units+1<cLine)(ho:PE X o td)(hi:PE X i ty)(hv:PE X value tv)(hs:Ec value (some (.Subscript o i ap)) pos.line X.env=pure false):
  PS X (.Assign [.Subscript o i ap] value pos) (yDU td ty tv):=by
 intro a6 s σ H D I h
 refine wpAny_Assign_Subscript (thn (hv a6 s σ H _ I h) fun r s1 ⟨v,H1,I1,rv,q1⟩=>thn (ho a6 s1 σ H1 _ I1 q1) fun u s2 ⟨x,H2,I2,rx,q2⟩=>thn (hi a6 s2 σ H2 _ I2 q2) fun iv s3 ⟨y,H3,I3,ry,a,H4,ex,g,q3⟩=> ?_) hs
 subst ex
 obtain rfl:u=Av a:=rx
 exact zRM hu I3 g ry rv fun s4 I4=>⟨σ,H4,I4,q3⟩
end
theorem zU4{P:Aj}{w:World}{H:Hp}(h:Heap)(hb:Dc<h.objs.size):zC6 P w H (h.push {cls:= .type "dict",data:= .dict #[]}) h.objs.size (.dK []):=
 ⟨Cv _,beq_eq_false_iff_ne.mpr (Cc (Aq hb)),[],.nil,Le h⟩
def zYW:TE:=fun _ H Q=> ∀p,H p=none->Q (.ref p) (upd H p (.dK []))
section
variable{X:Cx}{pos:Pos}
theorem zTA:PE X (.Dict [] [] pos) zYW:=fun a6 s σ H Q I h=>
 wpAny_Dict_empty ⟨.ref s.heap.objs.size,_,I.laid (a:=s.heap.objs.size) (o:= .dK []) (t':=s.toks) (fun _ _ q=>A1 _ q) (Af _) (zU4 s.heap I.big),rfl,h _ (I.hok.fresh (Af _))⟩
end
noncomputable def zK5(kvs more:List (Key×V)):List (Key×V):=more.foldl (fun acc kv=>putK acc kv.1 kv.2) kvs
theorem KV.merge: ∀{more:List (Key×V)} {rs:List (Key×Value)} {kvs:List (Key×V)} {vs:List (Key×Value)},KV more rs->KV kvs vs->KV (zK5 kvs more) (merged vs rs):=by
 intro more rs kvs vs r
 unfold KV at r
 induction r generalizing kvs vs with
 | nil => intro q;exact q
 | @cons p q ps qs h t ih=>
  intro r0
  have e:KV (putK kvs p.1 p.2) (Mo vs q.1 q.2):=by
   have:=r0.put p.1 h.2
   rw[<- h.1];exact this
  exact ih e
structure M1(X:Cx)(o:Expr)(m:Str)(ai:Pos)(e:Expr)(a8:Pos):Prop where
 base:Ea o m X.env (eval o X.env)=eval o X.env
 few:((Cg a8 (starEach [e] X.env)).all (fun x=> !x.1) && (Fs a8 (Dy [] X.env)).all (fun x=>x.1.isSome)
  && decide (([e]:List Expr).length+([]:List F8).length+(if([]:List F8).isEmpty then 0 else 1)<30))=true
 line:(ai.endLine==a8.line)=true
 trees:Cg a8 (starEach [e] X.env)=[(false,eval e X.env)]
structure M2(X:Cx)(o:Expr)(m:Str)(ai:Pos)(e f:Expr)(a8:Pos):Prop where
 base:Ea o m X.env (eval o X.env)=eval o X.env
 few:((Cg a8 (starEach [e,f] X.env)).all (fun x=> !x.1) && (Fs a8 (Dy [] X.env)).all (fun x=>x.1.isSome)
  && decide (([e,f]:List Expr).length+([]:List F8).length+(if([]:List F8).isEmpty then 0 else 1)<30))=true
 line:(ai.endLine==a8.line)=true
 trees:Cg a8 (starEach [e,f] X.env)=[(false,eval e X.env),(false,eval f X.env)]
def IsD(H:Hp)(a:Addr):Prop:=(∃kvs,Rd H a (.dK kvs))∨ ∃kvs,Rd H a (.dT kvs)
theorem zV9{X:Cx}{a6:List (Addr×Obj)}{σ:St}{H:Hp}{s:A2}{a:Addr}(I:Inv X a6 σ H s)(d:IsD H a):
  s.TypeIs (.ref a) "dict" /\(∀b,Av a= .ref b-> ∃ob,s.heap.get? b=some ob/\ob.dict=none)/\(a==Dc)=false:=by
 rcases d with⟨kvs,e⟩|⟨kvs,e⟩
 ·obtain⟨_,hd,vs,_,dd⟩:=zO6 I.hok e
  refine⟨dd.typeIs,fun b q=> ?_,hd⟩
  cases q
  obtain⟨ob,_,_,h1,h2,_⟩:=dd
  exact⟨ob,h1,h2.2.1⟩
 ·obtain⟨_,hd,xs,_,dd⟩:=zO5 I.hok e
  refine⟨dd.typeIs,fun b q=> ?_,hd⟩
  cases q
  obtain⟨ob,_,_,h1,h2,_⟩:=dd
  exact⟨ob,h1,h2.2.1⟩
section
variable{X:Cx}{a6:List (Addr×Obj)}{σ:St}{H:Hp}{s:A2}{a:Addr}{y d:V}{u r:Value}{o:Option V}{A:B8}{E:Value->A2->Prop}
theorem yCF{Q:Value->A2->Prop}(hu:A.units+1<cLine)(I:Inv X a6 σ H s)(g:DGet H a y o)(ry:RelV y u)(h: ∀w' s',Inv X a6 σ H s'->RelV (o.getD .non) w'->Q w' s'):
  wpAny (model X.prog X.w) A (call (.builtin "dict.get") [.ref a,u]) Q E s:=by
 rcases g with⟨kvs,k,e,ey,l⟩|⟨kvs,k,b,e,ey,eb,l⟩
 ·subst ey
  obtain⟨z,hd,vs,rel,dd⟩:=zO6 I.hok e
  refine Ih Ch dd.typeIs D9 (Eu _ _) (meets_dict_get (zB8 X.prog X.w) a (zO3 ry) hd) ⟨_,dd.mapOf,h _ _ (I.tok _) ?_⟩
  rw[l]
  exact(rel.val k).getD rfl
 ·subst ey
  cases (show u=Av b from ry)
  obtain⟨z,hd,xs,rel,dd⟩:=zO5 I.hok e
  refine Ih Ch dd.typeIs D9 (Eu _ _) (meetsH_dict_get (tupleKind (zB8 X.prog X.w)) a b hd) ⟨Et hu,k,xs,zK7 I.hok eb,dd,h _ _ (I.tok _) ?_⟩
  rw[l]
  exact(rel.val k).getD rfl
theorem yCE{Q:Value->A2->Prop}(hu:A.units+1<cLine)(I:Inv X a6 σ H s)(g:DGet H a y o)(ry:RelV y u)(rd:RelV d r)(h: ∀w' s',Inv X a6 σ H s'->RelV (o.getD d) w'->Q w' s'):
  wpAny (model X.prog X.w) A (call (.builtin "dict.get") [.ref a,u,r]) Q E s:=by
 rcases g with⟨kvs,k,e,ey,l⟩|⟨kvs,k,b,e,ey,eb,l⟩
 ·subst ey
  obtain⟨z,hd,vs,rel,dd⟩:=zO6 I.hok e
  refine Ih Ch dd.typeIs D9 (He _ _ _) (meets_dict_get_default (zB8 X.prog X.w) a (zO3 ry) hd r) ⟨_,dd.mapOf,h _ _ (I.tok _) ?_⟩
  rw[l]
  exact(rel.val k).getD rd
 ·subst ey
  cases (show u=Av b from ry)
  obtain⟨z,hd,xs,rel,dd⟩:=zO5 I.hok e
  refine Ih Ch dd.typeIs D9 (He _ _ _) (meetsH_dict_get_default (tupleKind (zB8 X.prog X.w)) a b hd r) ⟨Et hu,k,xs,zK7 I.hok eb,dd,h _ _ (I.tok _) ?_⟩
  rw[l]
  exact(rel.val k).getD rd
end
def zYX(td ty tx:TE):TE:=fun σ H Q=>td σ H fun x H1=> ∃a,x= .ref a/\IsD H1 a/\ty σ H1 fun y H2=>tx σ H2 fun z H3=> ∃o,DGet H3 a y o/\Q (o.getD z) H3
section
variable{X:Cx}{o e f:Expr}{ai a8:Pos}{td ty tx:TE}
theorem zTB(hu:X.A.units+1<cLine)(ho:PE X o td)(he:PE X e ty)(hf:PE X f tx)(m:M2 X o "get" ai e f a8):PE X (.Call (.Attribute o "get" ai) [e,f] [] a8) (zYX td ty tx):=by
 intro a6 s σ H Q I h
 refine Jz m.base m.few m.line Hf Ch Ii (thn (ho a6 s σ H _ I h) fun u s1 ⟨x,H1,I1,rx,a,ex,d,q1⟩=> ?_)
 subst ex
 obtain rfl:u=Av a:=rx
 obtain⟨t1,t2,_⟩:=zV9 I1 d
 refine⟨t1,t2,?_⟩
 rw[m.trees]
 refine E2 rfl (Dq (E3 (thn (he a6 s1 σ H1 _ I1 q1) fun iv s2 ⟨y,H2,I2,ry,q2⟩=>
  E3 (thn (hf a6 s2 σ H2 _ I2 q2) fun fv s3 ⟨z,H3,I3,rz,ov,g,q3⟩=>F5 ?_))))
 exact yCE hu I3 g ry rz fun w' s4 I4 rw'=>⟨_,H3,I4,rw',q3⟩
end
end L2
namespace Att
open PySem PySem.W PySem.Calls PyProof.Rows
theorem zH2{P:L7}{h:Heap}: ∀(ns:List Int) (vs:List Value),WellAll P h vs (ns.map WData.int)->Mf vs ns:=by
 intro ns
 induction ns with
 |nil=>
  intro vs w
  rw[Cs] at w
  cases w
  exact .nil
 |cons n ns ih=>
  intro vs w
  rw[An] at w
  cases w with
  |cons a b=>
   cases a
   exact .cons _ _ (ih _ b)
theorem zP6{l:OpenLaw}{n:Nat}(hn:l.most=some n){P:L7}{h:Heap}{args:List WData}{vals:List Value}
  (hpre:l.row.toRowW.claim.pre args=true) (hwl:WellAll P h vals args):
  ∃a vs ns,vals=[Av a]/\args=[WData.list (ns.map WData.int)]/\h.get? a=some {cls:= .type "list",data:= .seq vs.toArray}/\Mf vs ns/\ns.length<=n:=by
 have hsh:WShape.hasAll [] args [.list .int]=true:=(pre_splitW hpre).1
 have hc:l.pre.holds [] {args:=args}=true:=(pre_splitW hpre).2
 obtain⟨d,r,rfl,h1,h2⟩:=hasAllW_cons hsh
 obtain rfl:=hasAllW_nil h2
 obtain⟨xs,rfl,h3⟩:=hasW_list h1
 obtain⟨ns,rfl⟩:=items_int h3
 have aa:ns.length<=n:=by
  unfold OpenLaw.pre at hc
  have h4:(WTm.not (.lt (.lit (.int (n:Int))) (.len (.arg 0)))).holds [] {args:=[.list (ns.map .int)]}=true:=by
   have h4:=(holds_andW hc).1
   rw[hn] at h4
   exact h4
  have h5:=condW_of h4 (w_not (w_lt w_lit (w_len_list (w_arg rfl))))
  rw[Bo] at h5
  refine Nat.le_of_not_lt fun q=> ?_
  have q':(n:Int)<((ns.length:Nat):Int):=by omega
  first
   |(rw[decide_eq_true q'] at h5;exact absurd h5 (by decide))
   |(simp at h5;omega)
 cases hwl with
 |cons w1 w2=>
  cases w2
  cases w1 with
  |list ho je=>exact⟨_,_,ns,rfl,rfl,ho,zH2 ns _ je,aa⟩
theorem zQ1(l:OpenLaw)(args:List WData):l.row.toRowW.claim.post args (.bool true) args=true:=
 postW_of (r:=l.row.toRowW) (X:=(true==true))
  (show N0 [] (.bool true) .bool=true by first|rfl|decide|simp[N0,WShape.arms,WShape.armsAll])
  (show(WTm.eq .res (.lit (.bool true))).value [] {args:=args,res:=some (.bool true),after:=args}=some (.bool (true==true)) from w_eq_bool (w_res rfl) w_lit) rfl
theorem zLY{l:OpenLaw}{n:Nat}{q:Aj}{loose:List Str}{XP:(Str->Option Value)->Heap->Prop}{YP:World->Heap->Prop}{d:DefRec}
  (hn:l.most=some n) (hdf:d.params.defaults=[])
  (call: ∀(w:World) (s₀ s₁:A2) (mg mb:Str->Option Value) (fa:Addr) (o:Obj) (pm cd doc:Value) (a:Addr) (vs:List Value) (ns:List Int),
   Ground q loose [] XP w s₀ mg mb s₁.heap->YP w s₁.heap→
   s₁.heap.get? fa=some o->o.data= .func (docDef d.name d.params d.body d.scope pm cd doc)->s₁.heap.CodeRec cd d.name->mg d.name=some (.ref fa)→
   s₁.heap.get? a=some {cls:= .type "list",data:= .seq vs.toArray}->Mf vs ns->ns.length<=n->s₁.gens= #[]→
   Gs (model l.prog w) Ja (.call (.ref fa) ⟨[.ref a],[]⟩) (fun r s'=>r= .ok (.ret (.bool true))/\OldK s₁.heap s'.heap/\s'.os=s₁.os/\Hc s'.gens) s₁):
  WalkO q loose XP YP l.row.toRowW d [] (fun f vs=>M6 f vs):=by
 intro w s₀ s₁ mg mb G Y fa o pm cd doc dV kV ho hd hcd hD hmg hg args vals as hpre hlay hrd hwl hlo
 obtain rfl:dV= .none:=Dflts.none hD hdf
 obtain rfl:kV= .none:=Dflts.noKw hD
 obtain⟨a,vs,ns,rfl,rfl,hobj,hints,aa⟩:=zP6 hn hpre hwl
 refine enter_call (Fg (call w s₀ s₁ mg mb fa o pm cd doc a vs ns G Y ho (fd_plain hd) hcd hmg hobj hints aa hg) fun r s' hq=> ?_)
 obtain⟨rfl,h2,h3,h4⟩:=hq
 exact⟨.inl ⟨.bool true,.bool true,[],rfl,fun _=>rfl,.bool true,zQ1 l _,fun _=>⟨K0,fun _ hm=>(nomatch hm)⟩⟩,h2,h3,h4⟩
end Att
namespace L2
open PySem PySem.Spec PyProof.Rows
theorem zJA: ∀{vs:List Value} {ns:List Int},Mf vs ns->Vals (ns.map V.int) vs
 |_,_,.nil=> .nil
 |_,_,.cons n t h=> .cons ⟨t,rfl⟩ (zJA h)
def Only(H:Hp):Prop:= ∀b,H b=none∨ ∃o xs,H b=some (.frz o (.lst xs))
theorem zTR{P:Aj}{w:World}{K:A8}{mg mb:Str->Option Value}{CX:CXT}{k:Nat}{fa a:Addr}{fd:C2}{x:Str}{sp:Sp}{s₁:A2}{vs:List Value}{ns:List Int}
  (KX:K.In s₁.heap) (hns:s₁.heap.Ns mainGlobals mg) (hb:s₁.heap.Ns builtinsNs mb) (hbb: ∀x:Str,x≠ "__name__" ->mb x=Ar x) (p7:s₁.heap.NoLimit) (hg:s₁.gens= #[])
  (ha:s₁.heap.get? a=some {cls:= .type "list",data:= .seq vs.toArray}) (hi:Mf vs ns) (hl:ns.length<=sizeLine) (hr:Room k Ja)
  (F: ∀base:Heap,K.In base->base.Ns mainGlobals mg->FnOk P w K mg base CX k fa fd [x] sp) (mx: ∀(s:A2) (u:Value),Jw s fd ⟨[u],[]⟩ [(x,u)])
  (hsp : ∀ H : Hp,Only H -> SqL K H a (ns.map V.int) -> sp [.ref a] H (fun v _ => v = .bl true) fun _ _ _ => False)
  (hCX : ∀ H e s',CX [] H s₁ (fun _ _ _ => False) e s' -> False) :
  Gs (model P w) Ja (.call (.ref fa) ⟨[.ref a],[]⟩) (fun r s'=>r= .ok (.ret (.bool true))/\OldK s₁.heap s'.heap/\s'.os=s₁.os/\Hc s'.gens) s₁:=by
 have rv:=zJA hi
 have o7:=hi.length
 have my: ∀H:Hp,Only H->SqL K H a (ns.map V.int)->HOk P w H s₁.heap->(∀b,H b≠none->b=a)->(H a≠none->K.lookup a=none)→
   Gs (model P w) Ja (.call (.ref fa) ⟨[.ref a],[]⟩) (fun r s'=>r= .ok (.ret (.bool true))/\OldK s₁.heap s'.heap/\s'.os=s₁.os/\Hc s'.gens) s₁:=by
  intro H hO hS hok hA hK
  have f9: ∀{b:Addr} {o:Obj},s₁.heap.get? b=some o->H b=none->(hidT s₁.heap H).get? b=some o:=fun e n=>zTY e n
  have noA: ∀{b:Addr} {o:Obj} {es:Array Hz} {ep:Nat},s₁.heap.get? b=some o->o.data= .dict es ep->H b=none:=fun{b o es ep} e d=>by
   cases q:H b with
   | none => rfl
   |some u=>
    have e':b=a:=hA b (by rw[q];simp)
    subst e'
    rw[ha] at e;cases e
    have d':Data.seq vs.toArray _=Data.dict es ep:=d
    cases d'
  have nsK: ∀{b:Addr} {m:Str->Option Value},s₁.heap.Ns b m->(hidT s₁.heap H).Ns b m:=fun{b m} ⟨o,es,ep,e,d,r⟩=>⟨o,es,ep,f9 e (noA e d),d,r⟩
  have hKb:K.In (hidT s₁.heap H):=fun b o e=>f9 (KX b o e) (by
   cases q:H b with
   | none => rfl
   |some u=>
    have e':b=a:=hA b (by rw[q];simp)
    subst e'
    rw[hK (by rw[q];simp)] at e;cases e)
  have hM:Mod K mg (hidT s₁.heap H):=⟨hKb,nsK hns,⟨mb,nsK hb,hbb⟩,let ⟨mc,h1,h2⟩:=p7;⟨mc,nsK h1,h2⟩⟩
  have e0:Env0 P w K mg (hidT s₁.heap H) Ja [] s₁ H:=⟨rfl,hM,fun b o e=>zX3 e,Nat.le_of_eq (zR6 _ _),trivial,fun b hb=>absurd (show b∈([]:List Addr) from hb) (by simp),hok,.of_eq hg⟩
  refine Fg ((F _ hKb (nsK hns)).run Ja [] s₁ H ⟨[.ref a],[]⟩ [.ref a] [.ref a] _ _ hr e0 (mx s₁ (.ref a)) (.cons rfl .nil) (hsp H hO hS)) fun r s' h=> ?_
  cases r with
  | error e => exact (hCX H e s' h).elim
  |ok fl=>
   cases fl with
   | next => exact E7 h
   | brk => exact E7 h
   | cont => exact E7 h
   |ret u=>
    obtain⟨v,H',os,bare,un,on,r',q⟩:=h
    have q':v= .bl true:=q
    subst q'
    obtain rfl:u=Eg true:=r'
    refine⟨rfl,OldK.of_keep fun b o e=> ?_,os,bare⟩
    cases q:H b with
    | none => exact un.keep b o e q (by intro z;exact absurd (show b ∈ ([] : List Addr) from z) (by simp)) (by simp)
    |some u=>
     rcases hO b with z|⟨ob,xs,z⟩
     ·rw[q] at z;cases z
     ·have z2:=un.frzs b ob _ z
      obtain⟨e1,_⟩:=hok b _ z
      obtain⟨e2,_⟩:=on b _ z2
      rw[e] at e1;cases e1
      exact e2
 cases hk:K.lookup a with
 |some o=>
  have e:=KX a o hk
  rw[ha] at e
  cases e
  refine my (fun _=>none) (fun _=> .inl rfl) (.inr ⟨_,vs.toArray,_,hk,rfl,rfl,rfl,by rw[Ad,o7];exact hl,by simpa using rv⟩) (fun b u z=>by have z':(none:Option HO)=some u:=z;cases z') (fun b z=>absurd rfl z) fun z=>absurd rfl z
 |none=>
  refine my (fun b=>if b=a then some (.frz {cls:= .type "list",data:= .seq vs.toArray} (.lst (ns.map V.int))) else none) (fun b=> ?_) (.inl (.inr ⟨{cls:= .type "list",data:= .seq vs.toArray},if_pos rfl⟩)) (fun b u z=> ?_) (fun b z=> ?_) fun _=>hk
  ·by_cases hb:b=a
   ·exact .inr ⟨_,_,if_pos hb⟩
   ·exact .inl (if_neg hb)
  ·by_cases hb:b=a
   ·have z':=(if_pos hb).symm.trans z
    cases z'
    subst hb
    exact⟨ha,by rw[Bo];exact hl,vs,_,rv,ha⟩
   ·have z':=(if_neg hb).symm.trans z
    cases z'
  ·by_cases hb:b=a
   ·exact hb
   ·exact absurd (if_neg hb) z
theorem zVP{l:Mp}{n k:Nat}{q:Aj}{loose:List Str}{XP:(Str->Option Value)->Heap->Prop}{YP:World->Heap->Prop}{d:DefRec}{K:L7->A8}{CX:World->CXT}{sp:World->Sp}{x:Str}
  (hn:l.most=some n) (hn2:n<=sizeLine) (hdf:d.params.defaults=[]) (hr:Room k Ja)
  (hY: ∀(w:World) (h:Heap),YP w h->(K w.params).In h)
  (F: ∀(w:World) (mg:Str->Option Value) (fa:Addr) (h:Heap),(K w.params).In h->h.Ns mainGlobals mg->mg d.name=some (.ref fa)→
   ∃fd:C2,(∀(s:A2) (u:Value),Jw s fd ⟨[u],[]⟩ [(x,u)])∧
    ∀base:Heap,(K w.params).In base->base.Ns mainGlobals mg->FnOk l.prog w (K w.params) mg base (CX w) k fa fd [x] (sp w))
  (hsp: ∀(w:World) (H:Hp) (a:Addr) (ns:List Int),ns.length<=n->Only H->SqL (K w.params) H a (ns.map V.int)->sp w [.ref a] H (fun v _=>v= .bl true) fun _ _ _=>False)
  (hCX: ∀(w:World) (H:Hp) (s:A2) (e:Value) (s':A2),CX w [] H s (fun _ _ _=>False) e s'->False):
  W.WalkO q loose XP YP l.row.toRowW d [] (fun f vs=>M6 f vs):=by
 refine Att.zLY hn hdf fun w s₀ s₁ mg mb fa o pm cd doc a vs ns G Y ho hd hcd hmg hobj hints aa hg=> ?_
 have KX:=hY w _ Y
 obtain⟨fd,hb,hF⟩:=F w mg fa _ KX G.T.g hmg
 exact zTR KX G.T.g G.T.b G.T.builtins G.T.nolimit hg hobj hints (Dd aa hn2) hr hF hb (fun H hO hS=>hsp w H a ns aa hO hS) fun H e s'=>hCX w H s₁ e s'
theorem zS9{l:Mp}{n k:Nat}{q:Aj}{loose:List Str}{XP:(Str->Option Value)->Heap->Prop}{YP:World->Heap->Prop}{d:DefRec}{K:L7->A8}{CX:CXT}{sp:A8->Sp}{x:Str}
  (hn:l.most=some n) (hn2:n<=sizeLine) (hdf:d.params.defaults=[]) (hr:Room k Ja)
  (hY: ∀(w:World) (h:Heap),YP w h->(K w.params).In h)
  (F: ∀(w:World) (mg:Str->Option Value) (fa:Addr) (h:Heap),(K w.params).In h->h.Ns mainGlobals mg->mg d.name=some (.ref fa)→
   ∃fd:C2,(∀(s:A2) (u:Value),Jw s fd ⟨[u],[]⟩ [(x,u)])∧
    ∀base:Heap,(K w.params).In base->base.Ns mainGlobals mg->FnOk l.prog w (K w.params) mg base CX k fa fd [x] (sp (K w.params)))
  (hsp: ∀(K:A8) (H:Hp) (a:Addr) (ns:List Int),ns.length<=n->Only H->SqL K H a (ns.map V.int)->sp K [.ref a] H (fun v _=>v= .bl true) fun _ _ _=>False)
  (hCX: ∀(H:Hp) (s:A2) (e:Value) (s':A2),CX [] H s (fun _ _ _=>False) e s'->False):
  W.WalkO q loose XP YP l.row.toRowW d [] (fun f vs=>M6 f vs):=
 zVP (K:=K) (CX:=fun _=>CX) (sp:=fun w=>sp (K w.params)) hn hn2 hdf hr hY F (fun w H a ns h1 h2 h3=>hsp (K w.params) H a ns h1 h2 h3) fun _ H s e s'=>hCX H s e s'
noncomputable def zBP(s:Stmt):Arguments:=match s with
 | .FunctionDef _ a _ _ _ _ _ _ _ _=>a
 |_=>{posonlyargs:=[],args:=[],vararg:=none,kwonlyargs:=[],kw_defaults:=[],kwarg:=none,defaults:=[]}
noncomputable def zB0(s:Stmt):List Stmt:=match s with
 | .FunctionDef _ _ b _ _ _ _ _ _ _=>b
 |_=>[]
noncomputable def zA4(s:Stmt):Scope:=match s with
 | .FunctionDef _ _ _ _ _ _ sc _ _ _=>sc
 |_=>{kind:= .function,names:=[],isGenerator:=false,isCoroutine:=false}
abbrev CX0:CXT:=fun _ _ _ _ _ _=>False
abbrev E0:XK:=fun _ _ _=>False
theorem zTH{X:Cx}:zS5 CX0 X E0:=fun _ _ _ _ _ _ _ h=>h.elim
structure Fun(K:A8)(x qual:Str)(st:Stmt)(f:Addr)(fd:C2):Prop where
 ex: ∃(oc:Value) (od:Option Addr) (kV doc pm:Value) (an:Option Addr) (cdv ct:Value) (osl:Array (Option Value)),
  fd=Fj x qual (zBP st) (zB0 st) (zA4 st) .none kV doc pm an cdv ct/\K.lookup f=some ⟨oc,od,.func fd,osl⟩/\Go K cdv qual=true
 kp:Dx K (.ref f)=true
section
variable{P:Aj}{w:World}{K:A8}{mg:Str->Option Value}{base:Heap}
theorem Fun.ok{x qual:Str}{st:Stmt}{f:Addr}{fd:C2}{N ps:List Str}{k:Nat}{sp:Sp}(F:Fun K x qual st f fd)(S:zAD N ps (zA4 st))(len: ∀vs H Q E,sp vs H Q E->vs.length=ps.length)
  (aj: ∀(cdv:Value) (A:B8) (outer:List Env) (s:A2) (H:Hp) (vs:List V) (Q:VK) (E:XK),Room k (A.deeper (envOfC qual (zA4 st) s.heap.objs.size f cdv))->sp vs H Q E→
   ∃t,PSs (cxOf CX0 P w K mg base N qual (zA4 st) f cdv A outer s H E).nox (zB0 st) t/\t {nx:=fun _ H'=>Q .non H',rt:=Q} (start N vs) H):FnOk P w K mg base CX0 (k+1) f fd ps sp:=by
 obtain⟨oc,od,kV,doc,pm,an,cdv,ct,osl,rfl,lk,hcd⟩:=F.ex
 refine zXX lk hcd S len fun A outer s H vs Q E hr hsp=> ?_
 obtain⟨t,h,q⟩:=aj cdv A outer s H vs Q E hr hsp
 exact⟨t,h.nox,q⟩
theorem Fun.binds{x qual:Str}{st:Stmt}{f:Addr}{fd:C2}{ps:List Str}(F:Fun K x qual st f fd)
  (h: ∀(kV doc pm:Value) (an:Option Addr) (cdv ct:Value) (us:List Value),us.length=ps.length->bindArgs (Fj x qual (zBP st) (zB0 st) (zA4 st) .none kV doc pm an cdv ct) ⟨us,[]⟩=pure (ps.zip us)):zFY K fd ps []:=by
 obtain⟨oc,od,kV,doc,pm,an,cdv,ct,osl,rfl,lk,hcd⟩:=F.ex
 exact .all (h kV doc pm an cdv ct)
theorem zN4{x qual:Str}{st:Stmt}{f:Addr}{oc:Value}{od an:Option Addr}{osl:Array (Option Value)}{kV doc pm cdv ct:Value}(l:K.lookup f=some ⟨oc,od,.func (Fj x qual (zBP st) (zB0 st) (zA4 st) .none kV doc pm an cdv ct),osl⟩)
  (c:Go K cdv qual=true) (k:Dx K (.ref f)=true):Fun K x qual st f (Fj x qual (zBP st) (zB0 st) (zA4 st) .none kV doc pm an cdv ct):=⟨⟨oc,od,kV,doc,pm,an,cdv,ct,osl,rfl,l,c⟩,k⟩
end
theorem zXS{A:B8}{k:Nat}(hr:Room k A):A.units+1<cLine:=Nat.lt_of_le_of_lt (Nat.add_le_add_left (by decide:1<=64) _) hr.units
section
variable{X:Cx}
theorem pv(i:Nat){x:Str}{pos:Pos}(hN:X.N[i]? =some x:=by rfl)(hv:Vis X.env.scope x:=by first|exact J1 rfl|exact J2 (J1 rfl)|exact J2 (J2 rfl))(hd:(x==("__debug__":Str))=false:=by decide)
  (hcd:(x==("__classdict__":Str))=false:=by decide):PE X (.Name x pos) (tVar i):=zQ7 hN hv hd hcd
end
theorem iteF{A B:Prop}(h:B):if false=true then A else B:=by
 rw[if_neg Cb]
 exact h
theorem iteT{A B:Prop}(h:A):if true=true then A else B:=by
 rw[if_pos rfl]
 exact h
def Same(H H':Hp):Prop:= ∀b o,H b=some o->H' b=some o
theorem Same.refl(H:Hp):Same H H:=fun _ _ h=>h
theorem Same.trans{H H1 H2:Hp}(a:Same H H1)(b:Same H1 H2):Same H H2:=fun c o h=>b c o (a c o h)
theorem Same.seq{K:A8}{H H':Hp}{a:Addr}{xs:List V}(e:Same H H')(h:SqL K H a xs):SqL K H' a xs:=by
 rcases h with(h|⟨o,h⟩)|h
 ·exact .inl (.inl (e _ _ h))
 ·exact .inl (.inr ⟨o,e _ _ h⟩)
 ·exact .inr h
theorem zLU{env:Env}{f:Str×NameKind->List (Str×Addr)->Sem (ForInStep (List (Str×Addr)))}
  (hf : ∀ n k r,f (n,k) r = if (k == Ay) = true then (cellOf env n >>= fun c => pure (Cz ((n,c) :: r))) else pure (Cz r)) :
  ∀(names:List (Str×NameKind)) (cs:List (Str×Addr)),(∀y∈names,y.2= .free-> ∃c,env.cells.lookup y.1=some c)→
   ∃cl,forIn names cs f=(pure cl:Sem (List (Str×Addr)))/\(∀x c,cl.lookup x=some c->cs.lookup x=some c∨env.cells.lookup x=some c)∧
    (∀x c,cs.lookup x=some c-> ∃c',cl.lookup x=some c')/\ ∀x,(x,Ay)∈names-> ∃c,cl.lookup x=some c
 | [],cs,_ => ⟨cs,rfl,fun _ _ e => .inl e,fun _ c e => ⟨c,e⟩,fun _ h => nomatch h⟩
 | (n,k) :: r,cs,h => by
  have hr: ∀y∈r,y.2= .free-> ∃c,env.cells.lookup y.1=some c:=fun y hy=>h y (Ag _ hy)
  by_cases hk:k= .free
  ·subst hk
   obtain⟨c,hc⟩:=h (n,.free) Ak rfl
   have hc:env.cells.lookup n=some c:=hc
   obtain⟨cl,e1,e2,e3,e4⟩:=zLU hf r ((n,c)::cs) hr
   refine⟨cl,?_,fun x c' e=> ?_,fun x c' e=> ?_,fun x hx=> ?_⟩
   ·rw [G5,hf,if_pos (show (Ay == Ay) = true by decide)]
    have ec:cellOf env n=pure c:=by unfold cellOf;rw[hc]
    rw[ec,pure_bind,pure_bind]
    exact e1
   ·rcases e2 x c' e with q|q
    ·by_cases hx:x=n
     ·subst hx
      rw[Ci] at q
      cases q
      exact .inr hc
     ·rw[Bm,beq_eq_false_iff_ne.mpr hx] at q
      exact .inl q
    ·exact .inr q
   ·by_cases hx:x=n
    ·subst hx
     exact e3 x c (Ci ..)
    ·refine e3 x c' ?_
     rw[Bm,beq_eq_false_iff_ne.mpr hx]
     exact e
   ·rcases Ac.mp hx with q|q
    ·cases q
     exact e3 n c (Ci ..)
    ·exact e4 x q
  ·obtain⟨cl,e1,e2,e3,e4⟩:=zLU hf r cs hr
   refine⟨cl,?_,e2,e3,fun x hx=> ?_⟩
   ·have hb : ¬ (k == Ay) = true := by simpa using hk
    rw[G5,hf,if_neg hb,pure_bind]
    exact e1
   ·rcases Ac.mp hx with q|q
    ·cases q
     exact absurd rfl hk
    ·exact e4 x q
theorem zRP{env:Env}{scope:Scope}(h: ∀y∈scope.names,y.2= .free-> ∃c,env.cells.lookup y.1=some c):
  ∃cl,closureFor scope env=pure cl/\(∀x c,cl.lookup x=some c->env.cells.lookup x=some c)/\ ∀x,(x,Ay)∈scope.names-> ∃c,cl.lookup x=some c:=by
 simp only[closureFor]
 obtain⟨cl,e1,e2,_,e4⟩:=zLU (env:=env) (f:=fun x r=>match x with
  |(name,kind)=>if(kind==Ay)=true then(cellOf env name>>=fun c=>pure (Cz ((name,c)::r))) else pure (Cz r)) (fun _ _ _=>rfl) scope.names [] h
 refine⟨cl,?_,fun x c e=> ?_,e4⟩
 ·first
   |exact e1
   |(refine Eq.trans (congrArg (fun m=>m>>=pure) e1) ?_;exact pure_bind _ _)
 ·rcases e2 x c e with q|q
  ·cases q
  ·exact q
noncomputable def caps(ix:List Nat)(σ:St):St:=ix.map fun i=>(σ[i]?).join
def PTs(Y:Cx)(ifs:List Expr)(tt:TT):Prop:=
 ∀(a6:List (Addr×Obj)) (s:A2) (σ:St) (H:Hp) (Q:Bool->Hp->Prop),Inv Y a6 σ H s->tt σ H Q→
  wpAny (model Y.prog Y.w) Y.A (forIn ifs true fun c r=>if r=true then do let ok<- isTrue c Y.env (eval c Y.env);pure (Cz ok) else pure (Cz r)) (TP Y a6 σ Q) Y.xe s
def tYes:TT:=fun _ H Q=>Q true H
theorem zWI{Y:Cx}:PTs Y [] tYes:=fun _ _ _ H _ I h=>wpAny_tests_nil ⟨H,I,h⟩
theorem zWH{Y:Cx}{c:Expr}{tt:TT}(h:PT Y c tt):PTs Y [c] tt:=fun a6 s σ H Q I hw=>wpAny_tests_one (h a6 s σ H Q I hw)
structure Blk(Y:Cx)(tg:Expr)(ifs:List Expr)(elt:Expr)(g:TG)(tt:TT)(te:TE):Prop where
 tg:PG Y tg g
 ts:PTs Y ifs tt
 el:PE Y elt te
theorem zRO{prog:Aj}{w:World}{A:B8}{s:A2}{elt bp iter:Expr}{ifs:List Expr}{scope:Scope}{pos:Pos}{it acc:Value}{env:Env}{R:Result->A2->Prop}(I:Nat->A2->Prop)
  (turn : ∀ n s,I n s -> wpAny (model prog w) A (pyNext it) (fun r s₁ => match r with
   | none => R (.ok .next) s₁
   | some v => wpAny (model prog w) A (G3 bp it v) (fun _ s₀ => wpAny (model prog w) A (assign bp env v) (fun _ s₂ =>
     wpAny (model prog w) A (forIn ifs true fun c r=>if r=true then do let ok<- isTrue c env (eval c env);pure (Cz ok) else pure (Cz r)) (fun ok s₃=>if ok=true then wpAny (model prog w) A (eval elt env) (fun x s₄=>
      wpAny (model prog w) A (call (.builtin "list.append") [acc,x]) (fun _ s₅=> ∃m,m<n/\I m s₅) (fun _ _=>False) s₄) (fun _ _=>False) s₃
      else∃m,m<n/\I m s₃) (fun _ _=>False) s₂)
     (fun _ _=>False) s₀) (fun _ _=>False) s₁) (fun _ _=>False) s)
  (n:Nat) (h:I n s):Gs (model prog w) A (.compLoop (.ListComp elt [⟨bp,iter,ifs,0⟩] scope pos) 0 it acc env) R s:=by
 refine codeAny_loop rfl I (fun n s hI=> ?_) n h
 show wpAny _ A ((compTurn (.ListComp elt [⟨bp,iter,ifs,0⟩] scope pos) 0 it acc env).onRaise (fun x=>do noteFrame x env;theTreesLotGoes x)) _ _ s
 refine wpAny_noted ?_
 rw[compTurn_list]
 refine A0 (E8 (A0 (Ba (turn n s hI) (fun r s₁ h₁=> ?_) fun _ _ h'=>h'.elim)))
 cases r with
 |none=>exact A9 h₁
 |some v=>
  refine A0 (Ba h₁ (fun _ s₀ h₀'=> ?_) fun _ _ h'=>h'.elim)
  refine A0 (Ba h₀' (fun _ s₂ h₂=> ?_) fun _ _ h'=>h'.elim)
  refine A0 (Ba h₂ (fun okb s₃ h₃=> ?_) fun _ _ h'=>h'.elim)
  cases okb with
  |false=>exact A9 ⟨rfl,h₃⟩
  |true=>exact A0 (A0 (Ba h₃ (fun x s₄ h₄=>A0 (Ba h₄ (fun _ s₅ h₅=>A9 (A9 ⟨rfl,h₅⟩)) fun _ _ h'=>h'.elim)) fun _ _ h'=>h'.elim))
section
variable{X:Cx}{a6:List (Addr×Obj)}{σ:St}{H H':Hp}{s s1 s':A2}{h'':Heap}
theorem Inv.offNew{σ':St}{H1:Hp}(I1:Inv X a6 σ H1 s1)(I':Inv X a6 σ' H' s')(hn:H' s1.heap.objs.size=none)(sb: ∀b o,b≠s1.heap.objs.size->s'.heap.get? b=some o->h''.get? b=some o):
  Inv X a6 σ' H' {s' with heap:=h''}:=
 I'.turned (t':=s'.toks) (it:=s1.heap.objs.size) sb hn (Eh I1.lt) (.inr I1.sz)
  (fun x c e z => by
   obtain⟨v,q⟩:=I1.cell x c e
   have:=q.lt
   rw[z] at this
   exact Bj _ this)
  fun p hp z=>by
   have:=Ae (I1.pin p hp).1
   rw[z] at this
   exact Bj _ this
end
def yCP(D:Addr)(ix:List Nat)(nl:Nat)(J:It)(g:TG)(tt:TT)(te:TE)(σ:St)(H0:Hp)(Q:Hp->Prop):Prop:=
 ∃W:Nat->Nat->List V->Hp->Prop,(∃m,W 0 m [] (upd H0 D (.lst [])))/\ ∀i m acc H1,W i m acc H1→
  (J.stop i H1/\Q H1)∨
  (J.go i H1/\ ∃N:List V->Hp->Prop,(∀aw H',N aw H'-> ∃m',m'<m/\W (i+1) m' aw H')∧
   ∀x H2,J.yld i H1 x H2->g x (caps ix σ++Aa nl none) H2 fun σ2 H3=>σ2.take ix.length=caps ix σ∧
    tt σ2 H3 fun b H4=>if b=true then te σ2 H4 fun v H5=>H5 D=some (.lst acc)/\acc.length<sizeLine/\N (acc++[v]) (upd H5 D (.lst (acc++[v]))) else N acc H4)
theorem zG3{env:Env}{x:Str}: ∀{l:List (Str×NameKind)},l.lookup x=some .free→
  (l.map fun (n,k) => if (k == Ay && env.scope.kind == .function && env.kindOf n == some .cell) then (n,Bk) else (n,k)).lookup x = some .cell ∨
  (l.map fun (n,k) => if (k == Ay && env.scope.kind == .function && env.kindOf n == some .cell) then (n,Bk) else (n,k)).lookup x = some .free
 | [],h => by cases h
 | (n,k) :: r,h => by
  show Jb x ((if(k==Ay && env.scope.kind== .function && env.kindOf n==some .cell)=true then(n,Bk) else(n,k))::_)=some .cell∨Jb x ((if(k==Ay && env.scope.kind== .function && env.kindOf n==some .cell)=true then(n,Bk) else(n,k))::_)=some .free
  by_cases hx:x=n
  ·subst hx
   rw[Ci] at h
   cases h
   by_cases hc:(Ay==Ay && env.scope.kind== .function && env.kindOf x==some .cell)=true
   ·left
    rw[if_pos hc,Ci]
   ·right
    rw[if_neg hc,Ci]
  ·have hb:(x==n)=false:=beq_eq_false_iff_ne.mpr hx
   simp only[Bm,hb] at h
   have ih:=zG3 (env:=env) h
   by_cases hc:(k==Ay && env.scope.kind== .function && env.kindOf n==some .cell)=true
   ·rw[if_pos hc]
    simp only[Bm,hb]
    exact ih
   ·rw[if_neg hc]
    simp only[Bm,hb]
    exact ih
def zSR(ix:List Nat)(nl:Nat)(wi:TI)(g:TG)(tt:TT)(te:TE):TE:=fun σ H Q=>wi σ H fun J H0=> ∀D,H0 D=none->yCP D ix nl J g tt te σ H0 fun H'=>Q (.ref D) H'
mutual
inductive Dp(K:A8)(H:Hp):V->J3->Prop
 |non:Dp K H .non .none
 |bl (b:Bool):Dp K H (.bl b) (.bool b)
 |int (i:Int):Dp K H (.int i) (.int i)
 |str (x:Str):Dp K H (.str x) (.str x)
 |lst {a:Addr} {xs:List V} {ds:List J3}:SqL K H a xs->zM1 K H xs ds->Dp K H (.ref a) (.list ds)
 |tup {a:Addr} {xs:List V} {ds:List J3}:SqT K H a xs->zM1 K H xs ds->Dp K H (.ref a) (.tuple ds)
inductive zM1(K:A8)(H:Hp):List V->List J3->Prop
 |nil:zM1 K H [] []
 |cons {v:V} {vs:List V} {d:J3} {ds:List J3}:Dp K H v d->zM1 K H vs ds->zM1 K H (v::vs) (d::ds)
end
section
variable{X:Cx}{a6:List (Addr×Obj)}{σ:St}{H:Hp}{s:A2}
mutual
theorem Inv.reads(I:Inv X a6 σ H s): ∀{v:V} {d:J3} {u:Value},Dp X.K H v d->RelV v u-> ∃as,Reads s.heap u d as
 |_,_,_,.non,r=>by cases r;exact⟨_,.none⟩
 |_,_,_,.bl b,r=>by cases r;exact⟨_,.bool b⟩
 |_,_,_,.int i,r=>by obtain⟨t,rfl⟩:=r;exact⟨_,.int i t⟩
 |_,_,_,.str x,r=>by obtain⟨t,rfl⟩:=r;exact⟨_,.str x t⟩
 |_,_,_,.lst q all,r=>by
  cases r
  obtain⟨its,rv,⟨o,n,e,c,_,d⟩,_⟩:=I.list q
  obtain⟨as,h⟩:=Inv.readsAll I all rv
  exact⟨_,.list e c d (by simpa using h)⟩
 |_,_,_,.tup q all,r=>by
  cases r
  obtain⟨its,rv,⟨o,e,c,n,d⟩,_⟩:=I.tuple q
  obtain⟨as,h⟩:=Inv.readsAll I all rv
  exact⟨_,.tuple e c d (by simpa using h)⟩
theorem Inv.readsAll(I:Inv X a6 σ H s): ∀{vs:List V} {ds:List J3} {us:List Value},zM1 X.K H vs ds->Vals vs us-> ∃as,ReadsAll s.heap us ds as
 | _,_,_,.nil,r => by cases r;exact ⟨_,.nil⟩
 | _,_,_,.cons h t,r => by
  cases r with
  |cons r1 r2=>
   obtain⟨as,h1⟩:=Inv.reads I h r1
   obtain⟨bs,h2⟩:=Inv.readsAll I t r2
   exact⟨_,.cons h1 h2⟩
end
end
def rEqD(K:A8):R2:=fun x y H Q=> ∃d e,Dp K H x d/\Dp K H y e/\D0 d=true/\D0 e=true/\Q (.bl (Fw d e)) H
def rNeD(K:A8):R2:=fun x y H Q=> ∃d e,Dp K H x d/\Dp K H y e/\D0 d=true/\D0 e=true/\Q (.bl (!PyData.eqv d e)) H
section
variable{X:Cx}
theorem yAM(hu:X.A.units+64<cLine):OpR X (By .Eq) (rEqD X.K):=by
 intro a6 s σ H x y v u Q I rx ry h
 obtain⟨d,e,hd,he,sd,se,q⟩:=h
 obtain⟨as,h1⟩:=I.reads hd rx
 obtain⟨bs,h2⟩:=I.reads he ry
 exact eq_dataH h1 h2 sd se hu (zN5 I q rfl)
theorem yAJ(hu:X.A.units+64<cLine):OpR X (By .NotEq) (rNeD X.K):=by
 intro a6 s σ H x y v u Q I rx ry h
 obtain⟨d,e,hd,he,sd,se,q⟩:=h
 obtain⟨as,h1⟩:=I.reads hd rx
 obtain⟨bs,h2⟩:=I.reads he ry
 exact ne_dataH h1 h2 sd se hu (zN5 I q rfl)
def rngP(p:Addr)(a b c:Int):Heap->Prop:=fun h=> ∃t u v,IsRange h p a b c t u v
inductive zOC:List Hz->List (Str×V)->Prop
 |nil:zOC [] []
 |cons {e:Hz} {es:List Hz} {x:Str} {t:Tok} {v:V} {D:List (Str×V)}:e.key= .str x t->RelV v e.val->zOC es D->zOC (e::es) ((x,v)::D)
def KTab(K:A8)(a:Addr)(D:List (Str×V)):Prop:=
 (a==Dc)=false/\ ∃o es ep,K.lookup a=some o/\o.ExactDict/\o.data= .dict es ep/\zOC es.toList D
theorem zOC.rows{es:List Hz}{D:List (Str×V)}(h:zOC es D):KTD.Rows RelV es D:=by
 induction h with
 |nil=>exact .nil
 |cons h1 h2 _ ih=>exact .cons h1 h2 ih
theorem zMX{A:B8}{E:Value->A2->Prop}{s:A2}{K:A8}{prog:Aj}{w:World}{a:Addr}{D:List (Str×V)}{k:Str}{tk:Tok}{Q:Option Value->A2->Prop}(hK:K.In s.heap)(T:KTab K a D)
  (h1: ∀d v,Dm k D=some d->RelV d v->Q (some v) {s with toks:=s.toks+1}) (h2:Dm k D=none->Q none {s with toks:=s.toks+1}):
  wpAny (model prog w) A (dictGet a (.str k tk)) Q E s:=by
 obtain⟨_,o,es,ep,ho,hc,hd,hr⟩:=T
 have ho:=hK _ _ ho
 have hr:=hr.rows
 unfold dictGet
 try with_reducible refine B7 ?_
 refine A0 (wpAny_pyHash_str (A0 (KTD.kt_dictFind_strs (s:={s with toks:=s.toks+1}) ho hd (by obtain⟨l⟩:=es;simpa using hr.exact) ?_)))
 have hq:Q (findBy (fun k v=>v.isStr k) es k) {s with toks:=s.toks+1}:=by
  have hf:findBy (fun k v=>v.isStr k) es k=(es.toList.find? fun e=>e.key.isStr k).map (·.val):=by
   obtain⟨l⟩:=es
   simp[findBy]
  rw[hf]
  cases hat:Dm k D with
  |some d=>obtain⟨v,hv,hfl⟩:=hr.find_some hat;rw[hv];exact h1 d v hat hfl
  |none=>rw[hr.find_none hat];exact h2 hat
 rw[findBy_of_findIdx?] at hq
 cases hi:es.findIdx? fun e=>e.key.isStr k with
 |none=>rw[hi] at hq;exact A9 hq
 |some i=>rw[hi] at hq;exact A0 (wpAny_dictEntries (s:={s with toks:=s.toks+1}) ho hd (A9 hq))
theorem zXO:IxR X (fun x y H Q=> ∃a k D v,x= .ref a/\y= .str k/\KTab X.K a D/\Dm k D=some v/\Q v H):=by
 intro value slice a6 s σ H x y v u Q I rx ry h hs
 obtain⟨a,k,D,d,rfl,rfl,T,hk,q⟩:=h
 cases rx
 obtain⟨t,rfl⟩:=ry
 have hT:s.TypeIs (.ref a) "dict":=by
  obtain⟨_,o,es,ep,ho,hc,_⟩:=T
  exact⟨o,I.kIn _ _ ho,hc.1⟩
 have main:wpAny (model X.prog X.w) X.A (Hd (.ref a) (.str k t)) (EP X a6 σ Q) X.xe s:=by
  unfold Hd
  try with_reducible refine B7 ?_
  refine A0 (Gy hT (by decide) ?_)
  refine A0 (C9 (name:=As "__getitem__") hT Gu
   (Cr Gu hT PySem.F.entry_dict_getitem ?_ (PySem.F.args_dict_getitem_2 _ _)))
  show wpAny _ _ (dictGet a (.str k t)>>=_) _ _ s
  exact A0 (zMX I.kIn T (fun d' v' ha hv=>A9 ⟨v',rfl,A9 (by
   rw[hk] at ha;cases ha
   exact⟨d,H,I.tok _,hv,q⟩)⟩) fun hn=>by rw[hk] at hn;cases hn)
 exact Mc hT PySem.F.slot_dict_getitem.lookup main hs
end
section
variable{prog:Aj}{w:World}{A:B8}{E:Value->A2->Prop}{s:A2}
theorem zKP{it t:Addr}{items:Array Value}(hne:t≠it): ∀(n i:Nat) (s:A2) (Q:List Value->A2->Prop),s.heap.IsListIter it t i->s.heap.IsList t items->i+n<=items.size→
  (∀h',h'.IsListIter it t (i+n)->De it s.heap h'->Q ((items.toList.drop i).take n) {s with heap:=h'})->wpAny (model prog w) A (draw (.ref it) n) Q E s
 |0,i,s,Q,hit,_,_,hQ=>by
  show wpAny _ _ (pure []) Q E s
  exact A9 (by simpa using hQ s.heap hit (Heap.SameBut.refl ..))
 |n+1,i,s,Q,hit,ht,hle,hQ=>by
  have hlt:i<items.size:=by omega
  show wpAny _ _ (pyNext (.ref it)>>=_) Q E s
  refine A0 (Ht hit ht (x:=items[i]) (by simp[hlt]) fun h₁ hit₁ hs₁=> ?_)
  refine A0 (B7 (zKP hne n (i+1) _ _ hit₁ (ht.extBut hs₁.extBut hne) (by omega) fun h₂ hit₂ hs₂=>A9 ?_))
  have hd:items.toList.drop i=items[i]::items.toList.drop (i+1):=by simp[Dn,hlt]
  have:=hQ h₂ (by rw[show i+(n+1)=i+1+n by omega];exact hit₂) (hs₁.trans hs₂)
  rw[hd,List.take_succ_cons] at this
  exact this
theorem zGA{t:Addr}{items:Array Value}{Q:List Value->A2->Prop}(hh:A.handled=none)(ht:s.heap.IsList t items)
  (hQ: ∀h',G6 s.heap.objs.size s.heap h'->Q items.toList {s with heap:=h'}):wpAny (model prog w) A (G1 (.ref t) items.size none) Q E s:=by
 have hlt:t≠s.heap.objs.size:=by obtain⟨o,ho,_⟩:=ht;exact Aq (Ae ho)
 unfold G1
 refine A0 ?_
 ·unfold notIterableAtAll
  refine A0 (wpAny_specialOf ht.typeIs PySem.F.slot_list_iter.lookup ?_)
  refine A9 ?_
  simp only[Di,if_false]
  refine A0 (B7 (E9 ht ?_))
  have htp:(s.heap.push {cls:= .type "list_iterator",data:= .fields #[.ref t,.int 0 0]}).IsList t items:=by
   obtain⟨o,ho,r⟩:=ht
   exact⟨o,A1 _ ho,r⟩
  refine A0 (B7 (zKP hlt items.size 0 _ _ ⟨_,Ai _ rfl,rfl,rfl⟩ htp (by omega) fun h₁ hit₁ hs₁=> ?_))
  have je:List.take items.size (List.drop 0 items.toList)=items.toList:=by rw[J4];exact Bq (by simp)
  rw[je]
  rw[if_neg (by simp)]
  have ht₁:h₁.IsList t items:=htp.extBut hs₁.extBut hlt
  refine A0 (B7 (Ia hh hit₁ ht₁ (by simp) fun h₂ he₂=> ?_))
  simp only[Option.isSome_none,Di,if_false]
  refine A9 (hQ h₂ fun b o hb e=>he₂ b o hb (hs₁.extBut b o hb (A1 _ e)))
theorem zFW{env:Env}{iq:List Expr}{x1}{pos:Pos}{t:Addr}{items:Array Value}{Q:Unit->A2->Prop}(hh:A.handled=none)(ht:s.heap.IsList t items)
  (hn:(assignEach iq env).length=items.size) (mj:(assignEach iq env).findIdx? (·.1)=none)
  (h: ∀h',G6 s.heap.objs.size s.heap h'->wpAny (model prog w) A (assignInOrder ((assignEach iq env).map (·.2)) items.toList) Q E {s with heap:=h'}):
  wpAny (model prog w) A (assign (.Tuple iq x1 pos) env (.ref t)) Q E s:=by
 rw[assign_Tuple]
 refine A0 (E8 ?_)
 unfold unpack
 rw[hn,mj]
 exact A0 (B7 (zGA hh ht h))
end
section
variable{X:Cx}{pos:Pos}
def gLst(K:A8)(n:Nat)(t:TGs):TG:=fun v σ H Q=> ∃a xs,v= .ref a/\SqL K H a xs/\xs.length=n/\t xs σ H Q
theorem yAC{es:List Expr}{k:Nat}{t:TGs}{n:Nat}(hc:X.calm=true)(h:PGs X es t)
  (hn:(assignEach es X.env).length=n:=by rfl) (hst:(assignEach es X.env).findIdx? (·.1)=none:=by rfl):PG X (.Tuple es k pos) (gLst X.K n t):=by
 intro a6 s σ H v u Q I r hw
 obtain⟨a,xs,e1,hq,hl,hw⟩:=hw
 subst e1
 cases r
 obtain⟨its,rv,ht,hz⟩:=I.list hq
 refine zFW (I.ok.hd hc) ht.isList (by simp[hn,<- hl,rv.length]) hst fun h' hx=> ?_
 have I1:Inv X a6 σ H {s with heap:=h'}:=I.kept (t':=s.toks) fun b o e=>hx b o (Aq (Ae e)) e
 exact h a6 _ σ H xs _ Q I1 (by simpa using rv) hw
def FnAt(X:Cx)(f:Addr)(sp:Sp):Prop:= ∃(k:Nat) (fd:C2) (ps:List Str),FnOk X.prog X.w X.K X.mg X.base CX0 k f fd ps sp/\Room k X.A/\Dx X.K (.ref f)=true/\zFY X.K fd ps []
def zUE(X:Cx)(tf:TE)(t:TA):TE:=fun σ H Q=>tf σ H fun x H1=> ∃f sp,x= .ref f/\FnAt X f sp/\t σ H1 fun vs H2=>sp vs H2 Q E0
theorem zTF{x:Str}{p pos:Pos}{e:Expr}{es:List Expr}{tf:TE}{t:TA}(hf:PE X (.Name x p) tf)(ha:PA X (e::es) t)
  (he:starEach (e::es) X.env=(false,eval e X.env)::starEach es X.env:=by rfl) (hpl:(Cg pos (starEach es X.env)).any (·.1)=false:=by rfl):
  PE X (.Call (.Name x p) (e::es) [] pos) (zUE X tf t):=by
 intro a6 s σ H Q I h
 refine Cn (thn (hf a6 s σ H _ I h) fun u s1 ⟨x,H1,I1,rx,f,sp,ex,F,q⟩=> ?_)
 subst ex
 obtain rfl:u=Av f:=rx
 obtain⟨k,fd,ps,F,hr,hk,hb⟩:=F
 refine Fh (h₀:=X.base) I.ok.mod.kin hk (thn (ha pos a6 s1 σ H1 _ I1 q) fun us s2 ⟨vs,H2,I2,r,q2⟩=>⟨I2.kIn,?_⟩) he hpl
 refine zPG (dvs:=[]) (ds:=[]) F hr hb .nil zTH I2 r ?_
 rw[Bi]
 exact q2
end
section
variable{X:Cx}{K:A8}
theorem yFC(h:X.K=K):zBY X (.type "list") (fun xs H Q=> ∃p ys,xs=[.ref p]/\(SqL K H p ys∨SqT K H p ys)/\ ∀l,H l=none->Q (.ref l) (upd H l (.lst ys))):=by subst h;exact zKV
theorem yC0(h:X.K=K):zBY X (.type "tuple") (fun xs H Q=> ∃p ys,xs=[.ref p]/\((SqL K H p ys/\ ∀l,H l=none->Q (.ref l) (upd H l (.tup ys)))∨(SqT K H p ys/\Q (.ref p) H))):=by subst h;exact zIU
theorem kEqD(h:X.K=K)(hu:X.A.units+64<cLine):OpR X (By .Eq) (rEqD K):=by subst h;exact yAM hu
theorem kNeD(h:X.K=K)(hu:X.A.units+64<cLine):OpR X (By .NotEq) (rNeD K):=by subst h;exact yAJ hu
theorem yBV(h:X.K=K){es:List Expr}{k:Nat}{t:TGs}{n:Nat}{pos:Pos}(hc:X.calm=true)(hg:PGs X es t)(hn:(assignEach es X.env).length=n:=by rfl)(hst:(assignEach es X.env).findIdx? (·.1)=none:=by rfl):PG X (.Tuple es k pos) (gTup K n t):=by subst h;exact yAA hc hg hn hst
theorem yFB(h:X.K=K){es:List Expr}{k:Nat}{t:TGs}{n:Nat}{pos:Pos}(hc:X.calm=true)(hg:PGs X es t)(hn:(assignEach es X.env).length=n:=by rfl)(hst:(assignEach es X.env).findIdx? (·.1)=none:=by rfl):PG X (.Tuple es k pos) (gLst K n t):=by subst h;exact yAC hc hg hn hst
theorem zV8(h:X.K=K){tg l:Expr}{tl:TE}(hl:PE X l tl):PI X tg l (yC9 K tl):=by subst h;exact zWO hl
theorem yBT(h:X.K=K){tg l:Expr}{tl:TE}(hl:PE X l tl):PI X tg l (iTup K tl):=by subst h;exact yA9 hl
theorem kBm(h:X.K=K){o e:Expr}{es:List Expr}{to:TE}{t:TA}{name:Str}{ai a8:Pos}{T id:String}{r:V->List V->Hp->VK->Prop}(pa:PlainAttrs T)(slot:Slot T name id)(hty:Kf (.builtin id)=pure (.type "method_descriptor")) (hm:MtR X id r) (ho:PE X o to) (ha:PA X (e::es) t)
  (bo : Ea o name X.env (eval o X.env) = eval o X.env := by rfl)
  (cy : ((Cg a8 (starEach (e :: es) X.env)).all (fun x => !x.1) && (Fs a8 (Dy [] X.env)).all (fun x => x.1.isSome)
   && decide ((e::es).length+([]:List F8).length+(if([]:List F8).isEmpty then 0 else 1)<30))=true:=by rfl)
  (bh:(ai.endLine==a8.line)=true:=by rfl) (hs:starEach (e::es) X.env=(false,eval e X.env)::starEach es X.env:=by rfl) (aq:(Cg a8 (starEach es X.env)).any (·.1)=false:=by rfl):
  PE X (.Call (.Attribute o name ai) (e::es) [] a8) (tBM K T r to t):=by
 subst h;exact yE8 pa slot hty hm ho ha bo cy bh hs aq
end
theorem yCJ:Ar "len"=some (.builtin "len"):=by decide+kernel
theorem zVL:Ar "min"=some (.builtin "min"):=by decide+kernel
theorem zVM:Ar "max"=some (.builtin "max"):=by decide+kernel
theorem zS0:Ar "sorted"=some (.builtin "sorted"):=by decide+kernel
theorem zAK:Ar "isinstance"=some (.builtin "isinstance"):=by decide+kernel
theorem zFV:Ar "list"=some (.type "list"):=by decide+kernel
theorem zCY:Ar "tuple"=some (.type "tuple"):=by decide+kernel
theorem zU6:Ar "range"=some (.type "range"):=by decide+kernel
theorem zY3:Ar "bool"=some (.type "bool"):=by decide+kernel
theorem yCK:Ar "int"=some (.type "int"):=by decide+kernel
theorem yCI:Ar "str"=some (.type "str"):=by decide+kernel
structure Def(P:Aj)(w:World)(K:A8)(mg:Str->Option Value)(base:Heap)(x:Str)(k:Nat)(ps:List Str)(sp:Sp)(f:Addr):Prop where
 at_:mg x=some (.ref f)
 ok: ∃fd,FnOk P w K mg base CX0 k f fd ps sp/\zFY K fd ps []
 kp:Dx K (.ref f)=true
section
variable{X:Cx}{x:Str}{k j:Nat}{ps:List Str}{sp:Sp}{f:Addr}{p pos:Pos}{e:Expr}{es:List Expr}{t:TA}
theorem zMP(D:Def X.prog X.w X.K X.mg X.base x k ps sp f)(hr:Room j X.A)(hk:k<=j)(hg:Gl X x)(ha:PA X (e::es) t)(hdb:(x==("__debug__":Str))=false:=by decide)
  (he:starEach (e::es) X.env=(false,eval e X.env)::starEach es X.env:=by rfl) (hpl:(Cg pos (starEach es X.env)).any (·.1)=false:=by rfl):
  PE X (.Call (.Name x p) (e::es) [] pos) (zSS sp [] E0 t):=by
 obtain⟨fd,F,B⟩:=D.ok
 exact zQ8 F (hr.mono hk) hg D.at_ D.kp B .nil zTH ha hdb he hpl
theorem Def.fnAt(D:Def X.prog X.w X.K X.mg X.base x k ps sp f)(hr:Room j X.A)(hk:k<=j):FnAt X f sp:=by
 obtain⟨fd,F,B⟩:=D.ok
 exact⟨k,fd,ps,F,hr.mono hk,D.kp,B⟩
end
theorem zA5{H:Hp}{p:Addr}{o:HO}(hp:H p=none):Same H (upd H p o):=fun b o' e=>by
 rw[zAU (zCO e hp)]
 exact e
theorem zLA(ns:List Int):D0 (.list (ns.map K1))=true:=by
 have h1:E1 (.list (ns.map K1))=true:=by simp only[E1,canLayAll_ints]
 have h2:Fl (.list (ns.map K1))<=64:=by
  simp only[Fl,depthAll_ints]
  decide
 unfold D0
 rw[h1,decide_eq_true h2]
 rfl
inductive Dat where
 |non|bl (b:Bool)|int (i:Int)|str (x:Str)|ty (n:String)|fn (x:Str)|tup (ds:List Dat)|lst (ds:List Dat)|dct (ks:List Key) (ds:List Dat)|exn (x:Str)
def FzL(K:A8)(H:Hp)(a:Addr)(xs:List V):Prop:=
 (∃o,H a=some (.frz o (.lst xs)))∨
  ∃(o:Obj) (its:Array Value) (n:Nat),K.lookup a=some o/\o.cls= .type "list" /\o.dict=none/\o.data= .seq its n/\its.size<=sizeLine/\Vals xs its.toList
theorem FzL.sq{K:A8}{H:Hp}{a:Addr}{xs:List V}(h:FzL K H a xs):SqL K H a xs:=by
 rcases h with⟨o,h⟩|h
 ·exact .inl (.inr ⟨o,h⟩)
 ·exact .inr h
def zUA(h:Heap)(a C:Addr):Prop:= ∃o vs,h.get? a=some o/\o.cls= .ref C/\o.data= .fields vs
mutual
inductive Rep(K:A8)(N:Addr->Prop)(H:Hp):(Addr->Prop)->V->Dat->Prop
 |non {M:Addr->Prop}:Rep K N H M .non .non
 |bl {M:Addr->Prop} (b:Bool):Rep K N H M (.bl b) (.bl b)
 |int {M:Addr->Prop} (i:Int):Rep K N H M (.int i) (.int i)
 |str {M:Addr->Prop} (x:Str):Rep K N H M (.str x) (.str x)
 |ty {M:Addr->Prop} (n:String):Rep K N H M (.ty n) (.ty n)
 |fn {M:Addr->Prop} {a:Addr} {x:Str}:E4 K mainGlobals x=some (some (.ref a))->Rep K N H M (.ref a) (.fn x)
 |tup {M:Addr->Prop} {a:Addr} {xs:List V} {ds:List Dat}:SqT K H a xs->RepA K N H xs ds->Rep K N H M (.ref a) (.tup ds)
 |lst {M:Addr->Prop} {a:Addr} {xs:List V} {ds:List Dat}:H a=some (.lst xs)-> ¬M a->RepA K N H xs ds->Rep K N H M (.ref a) (.lst ds)
 |fzl {M:Addr->Prop} {a:Addr} {xs:List V} {ds:List Dat}:FzL K H a xs->RepA K N H xs ds->Rep K N H M (.ref a) (.lst ds)
 |dct {M:Addr->Prop} {a:Addr} {kvs:List (Key×V)} {ds:List Dat}:H a=some (.dK kvs)-> ¬M a->RepA K N H (kvs.map Cy) ds->Rep K N H M (.ref a) (.dct (kvs.map Ca) ds)
 |ktb {M:Addr->Prop} {a:Addr} {D:List (Str×V)} {ds:List Dat}:KTab K a D->RepA K N H (D.map Cy) ds->Rep K N H M (.ref a) (.dct (D.map fun p=> .inr p.1) ds)
 |exn {M:Addr->Prop} {a C:Addr} {x:Str} {φ:Heap->Prop}:E4 K mainGlobals x=some (some (.ref C))->H a=some (.ext φ)->(∀h,φ h->zUA h a C)->Rep K N H M (.ref a) (.exn x)
inductive RepA(K:A8)(N:Addr->Prop)(H:Hp):List V->List Dat->Prop
 |nil:RepA K N H [] []
 |cons {v:V} {vs:List V} {d:Dat} {ds:List Dat}:Rep K N H N v d->RepA K N H vs ds->RepA K N H (v::vs) (d::ds)
end
def Hard:HO->Prop
 | .tup _=>True
 | .frz _ _=>True
 | .ext _=>True
 |_=>False
def Fr(P:Addr->Prop)(H H':Hp):Prop:= ∀b o,H b=some o->(P b->Hard o)->H' b=some o
theorem Fr.refl(P:Addr->Prop)(H:Hp):Fr P H H:=fun _ _ h _=>h
theorem Fr.trans{P:Addr->Prop}{H H1 H2:Hp}(a:Fr P H H1)(b:Fr P H1 H2):Fr P H H2:=fun c o h n=>b c o (a c o h n) n
theorem Fr.mono{P P':Addr->Prop}{H H':Hp}(a:Fr P H H')(h: ∀b,P b->P' b):Fr P' H H':=fun c o e n=>a c o e fun z=>n (h c z)
theorem Same.fr{P:Addr->Prop}{H H':Hp}(a:Same H H'):Fr P H H':=fun c o h _=>a c o h
section
variable{K:A8}{N N' M M' P:Addr->Prop}{H H':Hp}
theorem Fr.tup(f:Fr P H H'){a:Addr}{xs:List V}(h:SqT K H a xs):SqT K H' a xs:=by
 rcases h with(h|⟨o,h⟩)|h
 ·exact .inl (.inl (f _ _ h fun _=>trivial))
 ·exact .inl (.inr ⟨o,f _ _ h fun _=>trivial⟩)
 ·exact .inr h
theorem Fr.fzl(f:Fr P H H'){a:Addr}{xs:List V}(h:FzL K H a xs):FzL K H' a xs:=by
 rcases h with⟨o,h⟩|h
 ·exact .inl ⟨o,f _ _ h fun _=>trivial⟩
 ·exact .inr h
mutual
theorem Rep.fr(f:Fr P H H')(hN: ∀a,P a->N a): ∀{M:Addr->Prop} {v:V} {d:Dat},(∀a,P a->M a)->Rep K N H M v d->Rep K N H' M v d
 |_,_,_,_,.non=> .non
 |_,_,_,_,.bl b=> .bl b
 |_,_,_,_,.int i=> .int i
 |_,_,_,_,.str x=> .str x
 |_,_,_,_,.ty n=> .ty n
 |_,_,_,_,.fn h=> .fn h
 |_,_,_,_,.tup q r=> .tup (f.tup q) (RepA.fr f hN r)
 |_,_,_,hM,.lst q n r=> .lst (f _ _ q fun z=>absurd (hM _ z) n) n (RepA.fr f hN r)
 |_,_,_,_,.fzl q r=> .fzl (f.fzl q) (RepA.fr f hN r)
 |_,_,_,hM,.dct q n r=> .dct (f _ _ q fun z=>absurd (hM _ z) n) n (RepA.fr f hN r)
 |_,_,_,_,.ktb q r=> .ktb q (RepA.fr f hN r)
 |_,_,_,_,.exn p q r=> .exn p (f _ _ q fun _=>trivial) r
theorem RepA.fr(f:Fr P H H')(hN: ∀a,P a->N a): ∀{vs:List V} {ds:List Dat},RepA K N H vs ds->RepA K N H' vs ds
 |_,_,.nil=> .nil
 |_,_,.cons h t=> .cons (Rep.fr f hN hN h) (RepA.fr f hN t)
end
mutual
theorem Rep.mono(hN: ∀a,N' a->N a): ∀{M M':Addr->Prop} {v:V} {d:Dat},(∀a,M' a->M a)->Rep K N H M v d->Rep K N' H M' v d
 |_,_,_,_,_,.non=> .non
 |_,_,_,_,_,.bl b=> .bl b
 |_,_,_,_,_,.int i=> .int i
 |_,_,_,_,_,.str x=> .str x
 |_,_,_,_,_,.ty n=> .ty n
 |_,_,_,_,_,.fn h=> .fn h
 |_,_,_,_,_,.tup q r=> .tup q (RepA.mono hN r)
 |_,_,_,_,hM,.lst q n r=> .lst q (fun z=>n (hM _ z)) (RepA.mono hN r)
 |_,_,_,_,_,.fzl q r=> .fzl q (RepA.mono hN r)
 |_,_,_,_,hM,.dct q n r=> .dct q (fun z=>n (hM _ z)) (RepA.mono hN r)
 |_,_,_,_,_,.ktb q r=> .ktb q (RepA.mono hN r)
 |_,_,_,_,_,.exn p q r=> .exn p q r
theorem RepA.mono(hN: ∀a,N' a->N a): ∀{vs:List V} {ds:List Dat},RepA K N H vs ds->RepA K N' H vs ds
 |_,_,.nil=> .nil
 |_,_,.cons h t=> .cons (Rep.mono hN hN h) (RepA.mono hN t)
end
theorem Rep.same(f:Same H H'){v:V}{d:Dat}(h:Rep K N H M v d):Rep K N H' M v d:=h.fr f.fr (fun _ z=>z.elim) (P:=fun _=>False) fun _ z=>z.elim
theorem RepA.same(f:Same H H'){vs:List V}{ds:List Dat}(h:RepA K N H vs ds):RepA K N H' vs ds:=h.fr f.fr (P:=fun _=>False) fun _ z=>z.elim
theorem RepA.length: ∀{vs:List V} {ds:List Dat},RepA K N H vs ds->vs.length=ds.length
 |_,_,.nil=>rfl
 |_,_,.cons _ t=>congrArg (· +1) (RepA.length t)
theorem RepA.append: ∀{vs ws:List V} {ds es:List Dat},RepA K N H vs ds->RepA K N H ws es->RepA K N H (vs++ws) (ds++es)
 |_,_,_,_,.nil,s=>s
 |_,_,_,_,.cons h t,s=> .cons h (RepA.append t s)
theorem RepA.get: ∀{vs:List V} {ds:List Dat} {i:Nat} {d:Dat},RepA K N H vs ds->ds[i]? =some d-> ∃v,vs[i]? =some v/\Rep K N H N v d
 |_,_,_,_,.nil,e=>by simp at e
 |_,_,0,_,.cons r _,e=>by simp at e;subst e;exact⟨_,rfl,r⟩
 |_,_,i+1,x,.cons _ t,e=>by
  obtain⟨u,h1,h2⟩:=RepA.get (i:=i) (d:=x) t (by simpa using e)
  exact⟨u,by simpa using h1,h2⟩
theorem RepA.take: ∀{vs:List V} {ds:List Dat} (n:Nat),RepA K N H vs ds->RepA K N H (vs.take n) (ds.take n)
 |_,_,0,_=> .nil
 |_,_,_+1,.nil=> .nil
 |_,_,n+1,.cons r t=> .cons r (RepA.take n t)
theorem RepA.drop: ∀{vs:List V} {ds:List Dat} (n:Nat),RepA K N H vs ds->RepA K N H (vs.drop n) (ds.drop n)
 |_,_,0,r=>r
 |_,_,_+1,.nil=> .nil
 |_,_,n+1,.cons _ t=>RepA.drop n t
theorem RepA.set{v:V}{d:Dat}(h:Rep K N H N v d): ∀{vs:List V} {ds:List Dat} (i:Nat),RepA K N H vs ds->RepA K N H (vs.set i v) (ds.set i d)
 |_,_,_,.nil=> .nil
 |_,_,0,.cons _ t=> .cons h t
 |_,_,i+1,.cons q t=> .cons q (RepA.set h i t)
theorem RepA.snoc{vs:List V}{ds:List Dat}{v:V}{d:Dat}(r:RepA K N H vs ds)(h:Rep K N H N v d):RepA K N H (vs++[v]) (ds++[d]):=r.append (.cons h .nil)
end
mutual
def Dat.isD:Dat->Bool
 | .non=>true
 | .bl _=>true
 | .int _=>true
 | .str _=>true
 | .ty _=>false
 | .fn _=>false
 | .tup ds=>isDs ds
 | .lst ds=>isDs ds
 | .dct _ _=>false
 | .exn _=>false
def isDs:List Dat->Bool
 |[]=>true
 |d::ds=>d.isD && isDs ds
end
mutual
def Dat.pd:Dat->J3
 | .non=> .none
 | .bl b=> .bool b
 | .int i=> .int i
 | .str x=> .str x
 | .ty _=> .none
 | .fn _=> .none
 | .tup ds=> .tuple (pds ds)
 | .lst ds=> .list (pds ds)
 | .dct _ _=> .none
 | .exn _=> .none
def pds:List Dat->List J3
 |[]=>[]
 |d::ds=>d.pd::pds ds
end
mutual
def Dat.hard:Dat->Bool
 | .tup ds=>zGD ds
 | .lst _=>false
 | .dct _ _=>false
 |_=>true
def zGD:List Dat->Bool
 |[]=>true
 |d::ds=>d.hard && zGD ds
end
section
variable{K:A8}{N:Addr->Prop}{H:Hp}
mutual
theorem Rep.dp: ∀{M:Addr->Prop} {v:V} {d:Dat},Rep K N H M v d->d.isD=true->Dp K H v d.pd
 |_,_,_,.non,_=> .non
 |_,_,_,.bl b,_=> .bl b
 |_,_,_,.int i,_=> .int i
 |_,_,_,.str x,_=> .str x
 |_,_,_,.ty n,h=>by simp[Dat.isD] at h
 |_,_,_,.fn _,h=>by simp[Dat.isD] at h
 |_,_,_,.tup q r,h=> .tup q (RepA.dp r (by simpa[Dat.isD] using h))
 |_,_,_,.lst q n r,h=> .lst (SqL.of q) (RepA.dp r (by simpa[Dat.isD] using h))
 |_,_,_,.fzl q r,h=> .lst q.sq (RepA.dp r (by simpa[Dat.isD] using h))
 |_,_,_,.dct _ _ _,h=>by simp[Dat.isD] at h
 |_,_,_,.ktb _ _,h=>by simp[Dat.isD] at h
 |_,_,_,.exn _ _ _,h=>by simp[Dat.isD] at h
theorem RepA.dp: ∀{vs:List V} {ds:List Dat},RepA K N H vs ds->isDs ds=true->zM1 K H vs (pds ds)
 |_,_,.nil,_=> .nil
 |_,_,.cons h t,e=> .cons (Rep.dp h (by simp[isDs] at e;exact e.1)) (RepA.dp t (by simp[isDs] at e;exact e.2))
end
mutual
theorem Rep.hard{N':Addr->Prop}: ∀{M M':Addr->Prop} {v:V} {d:Dat},Rep K N H M v d->d.hard=true->Rep K N' H M' v d
 |_,_,_,_,.non,_=> .non
 |_,_,_,_,.bl b,_=> .bl b
 |_,_,_,_,.int i,_=> .int i
 |_,_,_,_,.str x,_=> .str x
 |_,_,_,_,.ty n,h=> .ty n
 |_,_,_,_,.fn q,h=> .fn q
 |_,_,_,_,.tup q r,h=> .tup q (RepA.hard r (by simpa[Dat.hard] using h))
 |_,_,_,_,.lst q n r,h=>by simp[Dat.hard] at h
 |_,_,_,_,.fzl q r,h=>by simp[Dat.hard] at h
 |_,_,_,_,.dct _ _ _,h=>by simp[Dat.hard] at h
 |_,_,_,_,.ktb _ _,h=>by simp[Dat.hard] at h
 |_,_,_,_,.exn p q r,_=> .exn p q r
theorem RepA.hard{N':Addr->Prop}: ∀{vs:List V} {ds:List Dat},RepA K N H vs ds->zGD ds=true->RepA K N' H vs ds
 |_,_,.nil,_=> .nil
 |_,_,.cons h t,e=> .cons (Rep.hard h (by simp[zGD] at e;exact e.1)) (RepA.hard t (by simp[zGD] at e;exact e.2))
end
end
inductive Sl where
 |no|va (d:Dat)|ow (d:Dat)
abbrev Ev:=List Sl
structure Bs where
 Z:Addr->Prop
 P:Addr->Prop
 H0:Hp
 mu:Nat->Option Addr
 kp:List (V×Dat)
def Nn(B:Bs)(O:Nat->Option Addr):Addr->Prop:=fun a=>B.Z a∨ ∃i,O i=some a
def OA(O:Nat->Option Addr):Addr->Prop:=fun a=> ∃i,O i=some a
inductive Own(K:A8)(N:Addr->Prop)(H:Hp)(a:Addr):Dat->Prop
 |lst {xs:List V} {ds:List Dat}:H a=some (.lst xs)->RepA K N H xs ds->Own K N H a (.lst ds)
 |dct {kvs:List (Key×V)} {ds:List Dat}:H a=some (.dK kvs)->RepA K N H (kvs.map Cy) ds->Own K N H a (.dct (kvs.map Ca) ds)
theorem Own.fr{K:A8}{N P:Addr->Prop}{H H':Hp}{a:Addr}{d:Dat}(f:Fr P H H')(hN: ∀a,P a->N a)(ha: ¬P a):Own K N H a d->Own K N H' a d
 | .lst q r=> .lst (f _ _ q fun z=>absurd z ha) (r.fr f hN)
 | .dct q r=> .dct (f _ _ q fun z=>absurd z ha) (r.fr f hN)
theorem Own.mono{K:A8}{N N':Addr->Prop}{H:Hp}{a:Addr}{d:Dat}(h: ∀b,N' b->N b):Own K N H a d->Own K N' H a d
 | .lst q r=> .lst q (r.mono h)
 | .dct q r=> .dct q (r.mono h)
theorem Own.soft{K:A8}{N:Addr->Prop}{H:Hp}{a:Addr}{d:Dat}(h:Own K N H a d): ∃o,H a=some o/\¬Hard o:=by
 cases h with
 |lst q _=>exact⟨_,q,fun z=>z⟩
 |dct q _=>exact⟨_,q,fun z=>z⟩
theorem Own.rep{K:A8}{N M:Addr->Prop}{H:Hp}{a:Addr}{d:Dat}(h:Own K N H a d)(hM: ¬M a):Rep K N H M (.ref a) d:=by
 cases h with
 |lst q r=>exact .lst q hM r
 |dct q r=>exact .dct q hM r
structure Sta(K:A8)(ml:List Nat)(B:Bs)(O:Nat->Option Addr)(H:Hp)(σ:St)(δ:Ev):Prop where
 len:σ.length=δ.length
 va: ∀(i:Nat) (d:Dat),δ[i]? =some (Sl.va d)-> ∃v,σ[i]? =some (some v)/\Rep K (Nn B O) H (Nn B O) v d
 ow: ∀(i:Nat) (d:Dat),δ[i]? =some (Sl.ow d)-> ∃a,O i=some a/\σ[i]? =some (some (.ref a))/\Own K (Nn B O) H a d
 dom: ∀(i:Nat) a,O i=some a-> ∃d,δ[i]? =some (Sl.ow d)
 inj: ∀i j a,O i=some a->O j=some a->i=j
 old: ∀i a,O i=some a-> ¬B.Z a/\(B.P a∨B.H0 a=none)
 zin: ∀a,B.Z a-> ∃o,H a=some o
 frm:Fr B.P B.H0 H
 par:(∀i a,B.mu i=some a->i∈ml)/\ ∀i∈ml,O i=B.mu i
 pin: ∀a,B.P a-> ∃o,H a=some o
 kep: ∀p∈B.kp,Rep K (Nn B O) H (Nn B O) p.1 p.2
section
variable{K:A8}{ml:List Nat}{B:Bs}{O:Nat->Option Addr}{H H':Hp}{σ:St}{δ δ':Ev}
theorem Sta.nin(S:Sta K ml B O H σ δ){a:Addr}(h:Nn B O a): ∃o,H a=some o:=by
 rcases h with h|⟨i,h⟩
 ·exact S.zin a h
 ·obtain⟨d,e⟩:=S.dom i a h
  obtain⟨a',e1,_,w⟩:=S.ow i d e
  rw[h] at e1
  cases e1
  obtain⟨o,q,_⟩:=w.soft
  exact⟨o,q⟩
theorem Sta.new(S:Sta K ml B O H σ δ){a:Addr}(h:H a=none): ¬Nn B O a:=fun z=>by
 obtain⟨o,q⟩:=S.nin z
 rw[h] at q
 cases q
theorem Sta.same(S:Sta K ml B O H σ δ)(f:Same H H'):Sta K ml B O H' σ δ where
 len:=S.len
 va:=fun i d e=>let ⟨v,a,b⟩:=S.va i d e;⟨v,a,b.same f⟩
 ow:=fun i d e=>let ⟨a,b,c,w⟩:=S.ow i d e;⟨a,b,c,w.fr (P:=fun _=>False) f.fr (fun _ z=>z.elim) fun z=>z⟩
 dom:=S.dom
 inj:=S.inj
 old:=S.old
 zin:=fun a h=>let ⟨o,q⟩:=S.zin a h;⟨o,f _ _ q⟩
 frm:=S.frm.trans f.fr
 par:=S.par
 pin:=fun a h=>let ⟨o,q⟩:=S.pin a h;⟨o,f _ _ q⟩
 kep:=fun p h=>(S.kep p h).same f
theorem Sta.fresh(S:Sta K ml B O H σ δ){a:Addr}(h:H a=none):B.H0 a=none:=by
 cases q:B.H0 a with
 | none => rfl
 |some o=>
  by_cases hp:B.P a
  ·obtain⟨o',e⟩:=S.pin a hp
   rw[h] at e
   cases e
  ·have := S.frm a o q fun z => absurd z hp
   rw[h] at this
   cases this
def Bs.add(B:Bs)(p:Addr):Bs:={B with Z:=fun a=>B.Z a∨a=p}
theorem zGX{p:Addr}: ∀a,Nn B O a->Nn (B.add p) O a:=fun a h=>by
 rcases h with h|h
 ·exact .inl (.inl h)
 ·exact .inr h
mutual
theorem Rep.away{p:Addr}(hp:H p=none)(N N':Addr->Prop)(hN: ∀a,N' a->N a∨a=p): ∀{M M':Addr->Prop} {v:V} {d:Dat},(∀a,M' a->M a∨a=p)->Rep K N H M v d->Rep K N' H M' v d
 |_,_,_,_,_,.non=> .non
 |_,_,_,_,_,.bl b=> .bl b
 |_,_,_,_,_,.int i=> .int i
 |_,_,_,_,_,.str x=> .str x
 |_,_,_,_,_,.ty n=> .ty n
 |_,_,_,_,_,.fn h=> .fn h
 |_,_,_,_,_,.tup q r=> .tup q (RepA.away hp N N' hN r)
 |_,_,_,_,hM,.lst q n r=> .lst q (fun z=>by rcases hM _ z with z|z;exact n z;rw[z,hp] at q;cases q) (RepA.away hp N N' hN r)
 |_,_,_,_,_,.fzl q r=> .fzl q (RepA.away hp N N' hN r)
 |_,_,_,_,hM,.dct q n r=> .dct q (fun z=>by rcases hM _ z with z|z;exact n z;rw[z,hp] at q;cases q) (RepA.away hp N N' hN r)
 |_,_,_,_,_,.ktb q r=> .ktb q (RepA.away hp N N' hN r)
 |_,_,_,_,_,.exn p q r=> .exn p q r
theorem RepA.away{p:Addr}(hp:H p=none)(N N':Addr->Prop)(hN: ∀a,N' a->N a∨a=p): ∀{vs:List V} {ds:List Dat},RepA K N H vs ds->RepA K N' H vs ds
 |_,_,.nil=> .nil
 |_,_,.cons h t=> .cons (Rep.away hp N N' hN hN h) (RepA.away hp N N' hN t)
end
theorem zDU{p:Addr}: ∀a,Nn (B.add p) O a->Nn B O a∨a=p:=fun a h=>by
 rcases h with(h|h)|h
 ·exact .inl (.inl h)
 ·exact .inr h
 ·exact .inl (.inr h)
theorem Sta.laid(S:Sta K ml B O H σ δ){p:Addr}{o:HO}(hp:H p=none):Sta K ml (B.add p) O (upd H p o) σ δ where
 len:=S.len
 va:=fun i d e=>let ⟨v,a,b⟩:=S.va i d e;⟨v,a,(b.away hp _ _ zDU zDU).same (zA5 hp)⟩
 ow:=fun i d e=>by
  obtain⟨a,b,c,w⟩:=S.ow i d e
  refine⟨a,b,c,?_⟩
  have hne: ∀o,H a=some o->upd H p o=upd H p o:=fun _ _=>rfl
  cases w with
  |lst q r=>exact .lst (zA5 hp _ _ q) ((r.away hp _ _ zDU).same (zA5 hp))
  |dct q r=>exact .dct (zA5 hp _ _ q) ((r.away hp _ _ zDU).same (zA5 hp))
 dom:=S.dom
 inj:=S.inj
 old:=fun i a h=>by
  refine⟨fun z=> ?_,(S.old i a h).2⟩
  rcases z with z|z
  ·exact(S.old i a h).1 z
  ·obtain⟨o,q⟩:=S.nin (.inr ⟨i,h⟩)
   rw[z,hp] at q
   cases q
 zin:=fun a h=>by
  rcases h with h|h
  ·obtain⟨o,q⟩:=S.zin a h
   exact⟨o,zA5 hp _ _ q⟩
  ·exact⟨_,by rw[h];exact zAG⟩
 frm:=S.frm.trans (zA5 hp).fr
 par:=S.par
 pin:=fun a h=>let ⟨o,q⟩:=S.pin a h;⟨o,zA5 hp _ _ q⟩
 kep:=fun p h=>((S.kep p h).away hp _ _ zDU zDU).same (zA5 hp)
theorem zK2{i:Nat}{o:Option Addr}: ∀a,Nn B (fun j=>if j=i then none else O j) a->Nn B O a:=fun a h=>by
 rcases h with h|⟨j,h⟩
 ·exact .inl h
 ·refine .inr ⟨j,?_⟩
  by_cases hj:j=i
  ·simp[hj] at h
  ·simpa[hj] using h
theorem zFG{α:Type}{l:List α}{i j:Nat}{x y:α}(h:(l.set i x)[j]? =some y):(j=i/\y=x/\i<l.length)∨(j≠i/\l[j]? =some y):=by
 by_cases hj:j=i
 ·subst hj
  rw[List.getElem?_set_self'] at h
  cases q:l[j]? with
  |none=>rw[q] at h;cases h
  |some z=>
   rw[q] at h
   cases h
   exact .inl ⟨rfl,rfl,(A5.mp q).1⟩
 ·rw[B0 (Cc hj)] at h
  exact .inr ⟨hj,h⟩
theorem Sta.setVa(S:Sta K ml B O H σ δ){i:Nat}{v:V}{d:Dat}(hm:i∉ml)(h:Rep K (Nn B O) H (Nn B O) v d):Sta K ml B (fun j=>if j=i then none else O j) H (σ.set i (some v)) (δ.set i (.va d)) where
 len:=by rw[B9,B9,S.len]
 va:=fun j e q=>by
  rcases zFG q with⟨rfl,z,hl⟩|⟨hj,q⟩
  ·cases z
   exact⟨v,by rw[Bx (by rw[S.len];exact hl)],h.mono (zK2 (o:=none)) (zK2 (o:=none))⟩
  ·obtain⟨u,e1,r⟩:=S.va j e q
   exact⟨u,by rw[B0 (Cc hj)];exact e1,r.mono (zK2 (o:=none)) (zK2 (o:=none))⟩
 ow:=fun j e q=>by
  rcases zFG q with⟨rfl,z,hl⟩|⟨hj,q⟩
  ·cases z
  ·obtain⟨a,e1,e2,w⟩:=S.ow j e q
   exact⟨a,by simpa[hj] using e1,by rw[B0 (Cc hj)];exact e2,w.mono (zK2 (o:=none))⟩
 dom:=fun j a e=>by
  by_cases hj:j=i
  ·simp[hj] at e
  ·obtain ⟨d,q⟩ := S.dom j a (by simpa [hj] using e)
   exact⟨d,by rw[B0 (Cc hj)];exact q⟩
 inj:=fun j k a e1 e2=>by
  by_cases hj:j=i
  ·simp[hj] at e1
  ·by_cases hk:k=i
   ·simp[hk] at e2
   ·exact S.inj j k a (by simpa[hj] using e1) (by simpa[hk] using e2)
 old:=fun j a e=>by
  by_cases hj:j=i
  ·simp[hj] at e
  ·exact S.old j a (by simpa[hj] using e)
 zin:=S.zin
 frm:=S.frm
 par:=⟨S.par.1,fun j hj=>by
  have hne:j≠i:=fun z=>hm (z▸hj)
  have h2:O j=B.mu j:=S.par.2 j hj
  simpa[hne] using h2⟩
 pin:=S.pin
 kep:=fun p hp=>(S.kep p hp).mono (zK2 (o:=none)) (zK2 (o:=none))
theorem zHS{i:Nat}{p:Addr}: ∀a,Nn B (fun j=>if j=i then some p else O j) a->Nn (B.add p) O a:=fun a h=>by
 rcases h with h|⟨j,h⟩
 ·exact .inl (.inl h)
 ·by_cases hj:j=i
  ·simp[hj] at h
   exact .inl (.inr h.symm)
  ·exact .inr ⟨j,by simpa[hj] using h⟩
theorem Sta.setOw{p:Addr}(S:Sta K ml (B.add p) O H σ δ){i:Nat}{d:Dat}(hm:i∉ml)(hl:i<δ.length)(hz: ¬B.Z p)(h0:B.H0 p=none)(h:Own K (Nn (B.add p) O) H p d):
  Sta K ml B (fun j=>if j=i then some p else O j) H (σ.set i (some (.ref p))) (δ.set i (.ow d)) where
 len:=by rw[B9,B9,S.len]
 va := fun j e q => by
  rcases zFG q with⟨rfl,z,_⟩|⟨hj,q⟩
  ·cases z
  ·obtain⟨u,e1,r⟩:=S.va j e q
   exact⟨u,by rw[B0 (Cc hj)];exact e1,r.mono zHS zHS⟩
 ow := fun j e q => by
  rcases zFG q with⟨rfl,z,hl⟩|⟨hj,q⟩
  ·cases z
   exact⟨p,by simp,by rw[Bx (by rw[S.len];exact hl)],h.mono zHS⟩
  ·obtain⟨a,e1,e2,w⟩:=S.ow j e q
   exact⟨a,by simpa[hj] using e1,by rw[B0 (Cc hj)];exact e2,w.mono zHS⟩
 dom:=fun j a e=>by
  by_cases hj:j=i
  ·subst hj
   exact⟨d,by rw[Bx hl]⟩
  ·obtain ⟨d,q⟩ := S.dom j a (by simpa [hj] using e)
   exact⟨d,by rw[B0 (Cc hj)];exact q⟩
 inj:=fun j k a e1 e2=>by
  by_cases hj:j=i
  ·by_cases hk:k=i
   ·rw[hj,hk]
   ·simp[hj] at e1
    simp[hk] at e2
    exact absurd (.inr e1.symm) (S.old k a e2).1
  ·by_cases hk:k=i
   ·simp[hk] at e2
    simp[hj] at e1
    exact absurd (.inr e2.symm) (S.old j a e1).1
   ·exact S.inj j k a (by simpa[hj] using e1) (by simpa[hk] using e2)
 old:=fun j a e=>by
  by_cases hj:j=i
  ·simp[hj] at e
   subst e
   exact⟨hz,.inr h0⟩
  ·have := S.old j a (by simpa [hj] using e)
   exact⟨fun z=>this.1 (.inl z),this.2⟩
 zin:=fun a h=>S.zin a (.inl h)
 frm:=S.frm
 par:=⟨S.par.1,fun j hj=>by
  have hne:j≠i:=fun z=>hm (z▸hj)
  have h2:O j=B.mu j:=S.par.2 j hj
  simpa[hne] using h2⟩
 pin:=S.pin
 kep:=fun p hp=>(S.kep p hp).mono zHS zHS
theorem Sta.wrote(S:Sta K ml B O H σ δ){i:Nat}{a:Addr}{d:Dat}{o:HO}(e:O i=some a)(ho: ¬Hard o)(h:Own K (Nn B O) (upd H a o) a d):Sta K ml B O (upd H a o) σ (δ.set i (.ow d)):=by
 have hf:Fr (fun b=>b=a) H (upd H a o):=fun b u q n=>by
  by_cases hb:b=a
  ·subst hb
   obtain⟨d',q'⟩:=S.dom i b e
   obtain⟨a',e1,_,w⟩:=S.ow i d' q'
   rw[e] at e1
   cases e1
   obtain⟨u',q1,hh⟩:=w.soft
   rw[q] at q1
   cases q1
   exact absurd (n rfl) hh
  ·rw[zAU hb]
   exact q
 have hN: ∀b,b=a->Nn B O b:=fun b z=> .inr ⟨i,z▸e⟩
 have hin: ∀b,(∃u,H b=some u)-> ∃u,upd H a o b=some u:=fun b q0=>by
  obtain⟨u,q⟩:=q0
  by_cases hb:b=a
  ·exact ⟨o,by rw [hb];exact zAG⟩
  ·exact ⟨u,by rw [zAU hb];exact q⟩
 refine⟨by rw[B9,S.len],fun j d' q=> ?_,fun j d' q=> ?_,fun j b q=> ?_,S.inj,S.old,fun b h=>hin b (S.zin b h),?_,S.par,fun b h=>hin b (S.pin b h),fun p hp=>(S.kep p hp).fr hf hN hN⟩
 ·rcases zFG q with⟨_,z,_⟩|⟨hj,q⟩
  ·cases z
  ·obtain⟨v,e1,r⟩:=S.va j d' q
   exact⟨v,e1,r.fr hf hN hN⟩
 ·rcases zFG q with⟨rfl,z,hl⟩|⟨hj,q⟩
  ·cases z
   obtain⟨d0,q0⟩:=S.dom j a e
   obtain⟨a',e1,e2,_⟩:=S.ow j d0 q0
   rw[e] at e1
   cases e1
   exact⟨a,e,e2,h⟩
  ·obtain⟨a',e1,e2,w⟩:=S.ow j d' q
   exact⟨a',e1,e2,w.fr hf hN fun z=>hj (S.inj j i a (z▸e1) e)⟩
 ·by_cases hj:j=i
  ·subst hj
   obtain⟨d0,q0⟩:=S.dom j b q
   exact⟨d,by rw[Bx (A5.mp q0).1]⟩
  ·obtain⟨d0,q0⟩:=S.dom j b q
   exact⟨d0,by rw[B0 (Cc hj)];exact q0⟩
 ·intro b u q n
  have h1:=S.frm b u q n
  by_cases hb:b=a
  ·subst hb
   rcases(S.old i b e).2 with z|z
   ·obtain⟨d',q'⟩:=S.dom i b e
    obtain⟨a',e1,_,w⟩:=S.ow i d' q'
    rw[e] at e1
    cases e1
    obtain⟨u',q1,hh⟩:=w.soft
    rw[h1] at q1
    cases q1
    exact absurd (n z) hh
   ·rw[q] at z
    cases z
  ·rw[zAU hb]
   exact h1
theorem Sta.keepV(S:Sta K ml B O H σ δ){ps:List (V×Dat)}(h: ∀p∈ps,Rep K (Nn B O) H (Nn B O) p.1 p.2):Sta K ml {B with kp:=ps++B.kp} O H σ δ:=
 ⟨S.len,S.va,S.ow,S.dom,S.inj,S.old,S.zin,S.frm,S.par,S.pin,fun p hp=>(Aw.mp hp).elim (h p) (S.kep p)⟩
theorem Sta.unkeep{ps:List (V×Dat)}(S:Sta K ml {B with kp:=ps++B.kp} O H σ δ):Sta K ml B O H σ δ:=
 ⟨S.len,S.va,S.ow,S.dom,S.inj,S.old,S.zin,S.frm,S.par,S.pin,fun p hp=>S.kep p (Ax _ hp)⟩
end
def rz(B:Bs):Addr->Prop:=fun a=>B.Z a∨ ∃i,B.mu i=some a
def av(B:Bs)(O:Nat->Option Addr)(b:Bool):Addr->Prop:=if b then Nn B O else fun a=>Nn B O a/\rz B a
def at_(B:Bs)(O:Nat->Option Addr)(b:Bool):Addr->Prop:=if b then Nn B O else fun _=>False
theorem yCM{B:Bs}{O:Nat->Option Addr}{b:Bool}: ∀a,at_ B O b a->av B O b a:=fun a h=>by
 cases b with
 |true=>exact h
 |false=>exact h.elim
theorem zY7{B:Bs}{O:Nat->Option Addr}{b c:Bool}(h:b=true->c=true): ∀a,at_ B O b a->at_ B O c a:=fun a z=>by
 cases b with
 |true=>rw[h rfl];exact z
 |false=>exact z.elim
theorem Sta.rzn{K:A8}{ml:List Nat}{B:Bs}{O:Nat->Option Addr}{H:Hp}{σ:St}{δ:Ev}(S:Sta K ml B O H σ δ): ∀a,rz B a->Nn B O a:=fun a h=>by
 rcases h with h|⟨i,h⟩
 ·exact .inl h
 ·exact .inr ⟨i,(S.par.2 i (S.par.1 i a h)).trans h⟩
theorem Sta.rza{K:A8}{ml:List Nat}{B:Bs}{O:Nat->Option Addr}{H:Hp}{σ:St}{δ:Ev}(S:Sta K ml B O H σ δ){b:Bool}: ∀a,rz B a->av B O b a:=fun a h=>by
 cases b with
 |true=>exact S.rzn a h
 |false=>exact⟨S.rzn a h,h⟩
theorem zHH{B:Bs}{O:Nat->Option Addr}{b c:Bool}(h:b=true->c=true): ∀a,av B O b a->av B O c a:=fun a z=>by
 cases b with
 |true=>rw[h rfl];exact z
 |false=>cases c with
  |true=>exact z.1
  |false=>exact z
structure Res(K:A8)(ml:List Nat)(B:Bs)(O:Nat->Option Addr)(H:Hp)(σ:St)(pu bt bi:Bool)(H':Hp)(δ':Ev)(v:V)(d:Dat):Prop where
 sta:Sta K ml B O H' σ δ'
 frm:Fr (OA O) H H'
 pur:pu=true->Same H H'
 rep:Rep K (av B O bi) H' (at_ B O bt) v d
abbrev VF:=Ev->Option (Dat×Ev)
def TV(K:A8)(ml:List Nat)(pu bt bi:Bool)(f:VF):TE:=fun σ H Q=> ∃B O δ d δ',Sta K ml B O H σ δ/\f δ=some (d,δ')/\ ∀v H',Res K ml B O H σ pu bt bi H' δ' v d->Q v H'
theorem PE.imp{X:Cx}{e:Expr}{t u:TE}(h:PE X e t)(k: ∀σ H Q,u σ H Q->t σ H Q):PE X e u:=fun a6 s σ H Q I w=>h a6 s σ H Q I (k σ H Q w)
theorem PT.imp{X:Cx}{e:Expr}{t u:TT}(h:PT X e t)(k: ∀σ H Q,u σ H Q->t σ H Q):PT X e u:=fun a6 s σ H Q I w=>h a6 s σ H Q I (k σ H Q w)
theorem PW.imp{X:Cx}{e:Expr}{t u:TT}(h:PW X e t)(k: ∀σ H Q,u σ H Q->t σ H Q):PW X e u:=fun b8 a6 s σ H Q I w=>h b8 a6 s σ H Q I (k σ H Q w)
theorem PA.imp{X:Cx}{e:List Expr}{t u:TA}(h:PA X e t)(k: ∀σ H Q,u σ H Q->t σ H Q):PA X e u:=fun pos a6 s σ H Q I w=>h pos a6 s σ H Q I (k σ H Q w)
theorem PS.imp{X:Cx}{e:Stmt}{t u:TS}(h:PS X e t)(k: ∀D σ H,u D σ H->t D σ H):PS X e u:=fun a6 s σ H D I w=>h a6 s σ H D I (k D σ H w)
theorem PSs.imp{X:Cx}{e:List Stmt}{t u:TS}(h:PSs X e t)(k: ∀D σ H,u D σ H->t D σ H):PSs X e u:=fun a6 s σ H D I w=>h a6 s σ H D I (k D σ H w)
section
variable{X:Cx}{K:A8}{ml:List Nat}{e a b c:Expr}{pa ta ia pb tb ib pc tc ic:Bool}{fa fb fc:VF}{r:R2}{o:Dat->Dat->Option Dat}{B:Bs}{O:Nat->Option Addr}{H H1 H':Hp}{σ:St}{δ δ':Ev}{v:V}{d:Dat}
noncomputable def fC(d:Dat):VF:=fun δ=>some (d,δ)
theorem Res.refl{pu bt bi:Bool}(S:Sta K ml B O H σ δ)(h:Rep K (av B O bi) H (at_ B O bt) v d):Res K ml B O H σ pu bt bi H δ v d:=⟨S,Fr.refl _ _,fun _=>Same.refl _,h⟩
theorem ve_c(h:PE X e (tC v))(hr: ∀N H M,Rep K N H M v d):PE X e (TV K ml true true true (fC d)):=h.imp fun σ H Q q0=>by
 obtain⟨B,O,δ,d',δ',S,q,k⟩:=q0
 cases q
 exact k v H (Res.refl S (hr _ _ _))
theorem zA1{i j pos}:PE X (.Constant (.int i) j pos) (TV K ml true true true (fC (.int i))):=ve_c yAG fun _ _ _=> .int i
theorem zDR{i j pos}:PE X (.Constant (.bool i) j pos) (TV K ml true true true (fC (.bl i))):=ve_c yE9 fun _ _ _=> .bl i
theorem zBV{j pos}:PE X (.Constant .none j pos) (TV K ml true true true (fC .non)):=ve_c yAF fun _ _ _=> .non
theorem zAE{i j pos}:PE X (.Constant (.str i) j pos) (TV K ml true true true (fC (.str i))):=ve_c zUX fun _ _ _=> .str i
noncomputable def fV(i:Nat):VF:=fun δ=>match δ[i]? with
 |some (.va d)=>some (d,δ)
 |_=>none
noncomputable def fO(i:Nat):VF:=fun δ=>match δ[i]? with
 |some (.va d)=>some (d,δ)
 |some (.ow d)=>some (d,δ)
 |_=>none
theorem zYH{i:Nat}(h:PE X e (tVar i)):PE X e (TV K ml true true true (fV i)):=h.imp fun σ H Q q0=>by
 obtain⟨B,O,δ,d',δ',S,q,k⟩:=q0
 unfold fV at q
 split at q
 ·rename_i d hd
  cases q
  obtain⟨v,e1,r⟩:=S.va i _ hd
  exact⟨v,e1,k v H (Res.refl S r)⟩
 ·cases q
theorem zYI{i:Nat}(h:PE X e (tVar i)):PE X e (TV K ml true false true (fO i)):=h.imp fun σ H Q q0=>by
 obtain⟨B,O,δ,d',δ',S,q,k⟩:=q0
 unfold fO at q
 split at q
 ·rename_i d hd
  cases q
  obtain⟨v,e1,r⟩:=S.va i _ hd
  exact⟨v,e1,k v H (Res.refl S (r.mono (fun _ z=>z) fun a z=>z.elim))⟩
 ·rename_i d hd
  cases q
  obtain⟨a,e1,e2,w⟩:=S.ow i _ hd
  exact⟨.ref a,e2,k _ H (Res.refl S (w.rep fun z=>z))⟩
 ·cases q
theorem Res.live{H2:Hp}{v2:V}{d2:Dat}(R2:Res K ml B O H1 σ pb tb ib H2 δ' v2 d2)(hs:(pb || (ta && ia))=true)(h:Rep K (av B O ia) H1 (at_ B O ta) v d):Rep K (av B O ia) H2 (at_ B O ta) v d:=by
 cases pb with
 |true=>exact h.same (R2.pur rfl)
 |false=>
  have hs:(ta && ia)=true:=by simpa using hs
  obtain⟨h1,h2⟩:=(A3 _ _).mp hs
  subst h1 h2
  exact h.fr R2.frm (fun a z=> .inr z) fun a z=> .inr z
noncomputable def f2(o:Dat->Dat->Option Dat)(fa fb:VF):VF:=fun δ=>(fa δ).bind fun p=>(fb p.2).bind fun q=>(o p.1 q.1).map fun c=>(c,q.2)
theorem zH8{δ2:Ev}(h:f2 o fa fb δ=some (d,δ2)): ∃x δ1 y,fa δ=some (x,δ1)/\fb δ1=some (y,δ2)/\o x y=some d:=by
 unfold f2 at h
 cases h1:fa δ with
 | none => rw [h1] at h;cases h
 |some p=>
  rw[h1] at h
  cases h2:fb p.2 with
  | none => simp [h2] at h
  |some q=>
   simp only[A7,h2] at h
   cases h3:o p.1 q.1 with
   |none=>rw[h3] at h;cases h
   |some c=>
    rw[h3] at h
    cases h
    exact⟨p.1,p.2,q.1,rfl,h2,h3⟩
def OpS(K:A8)(r:R2)(o:Dat->Dat->Option Dat):Prop:= ∀(H:Hp) (N N' M M':Addr->Prop) (x y:V) (d e c:Dat) (Q:VK),Rep K N H M x d->Rep K N' H M' y e->o d e=some c->(∀v,(∀H' N M,Rep K N H' M v c)->Q v H)->r x y H Q
def OpC(K:A8)(r:R2)(o:Dat->Dat->Option Dat):Prop:= ∀(H:Hp) (N M M':Addr->Prop) (x y:V) (d e c:Dat) (Q:VK),Rep K N H M x d->Rep K N H M' y e->o d e=some c→
 (∀v H',Same H H'->(∀M,(∀a,M a-> ∃o,H a=some o)->Rep K N H' M v c)->Q v H')->r x y H Q
def OpI(K:A8)(r:R2)(o:Dat->Dat->Option Dat):Prop:= ∀(H:Hp) (N N' M M':Addr->Prop) (x y:V) (d e c:Dat) (Q:VK),Rep K N H M x d->Rep K N' H M' y e->o d e=some c->(∀v,Rep K N H N v c->Q v H)->r x y H Q
theorem zOT(ho:OpS K r o)(hs:(pb || (ta && ia))=true){Q:VK}(h:TV K ml (pa && pb) true true (f2 o fa fb) σ H Q):tOp r (TV K ml pa ta ia fa) (TV K ml pb tb ib fb) σ H Q:=by
 obtain⟨B,O,δ,d,δ2,S,q,k⟩:=h
 obtain⟨x,δ1,y,h1,h2,h3⟩:=zH8 q
 refine⟨B,O,δ,x,δ1,S,h1,fun v1 H1 R1=>⟨B,O,δ1,y,δ2,R1.sta,h2,fun v2 H2 R2=> ?_⟩⟩
 exact ho H2 _ _ _ _ v1 v2 x y d Q (R2.live hs R1.rep) R2.rep h3 fun v hv=>k v H2 ⟨R2.sta,R1.frm.trans R2.frm,fun z=>by
  obtain⟨z1,z2⟩:=(A3 _ _).mp z
  exact(R1.pur z1).trans (R2.pur z2),hv _ _ _⟩
theorem zYQ(ho:OpC K r o)(hs:(pb || (ta && ia))=true){Q:VK}(h:TV K ml (pa && pb) true (ia && ib) (f2 o fa fb) σ H Q):tOp r (TV K ml pa ta ia fa) (TV K ml pb tb ib fb) σ H Q:=by
 obtain⟨B,O,δ,d,δ2,S,q,k⟩:=h
 obtain⟨x,δ1,y,h1,h2,h3⟩:=zH8 q
 refine⟨B,O,δ,x,δ1,S,h1,fun v1 H1 R1=>⟨B,O,δ1,y,δ2,R1.sta,h2,fun v2 H2 R2=> ?_⟩⟩
 have g1: ∀a,av B O (ia && ib) a->av B O ia a:=zHH fun z=>((A3 _ _).mp z).1
 have g2: ∀a,av B O (ia && ib) a->av B O ib a:=zHH fun z=>((A3 _ _).mp z).2
 refine ho H2 (av B O (ia && ib)) _ _ v1 v2 x y d Q ((R2.live hs R1.rep).mono g1 fun _ z=>z) (R2.rep.mono g2 fun _ z=>z) h3 fun v H3 s3 hv=>k v H3 ⟨R2.sta.same s3,(R1.frm.trans R2.frm).trans s3.fr,fun z=> ?_,hv _ fun a z=>R2.sta.nin z⟩
 obtain⟨z1,z2⟩:=(A3 _ _).mp z
 exact((R1.pur z1).trans (R2.pur z2)).trans s3
theorem zYP(ho:OpI K r o)(hs:(pb || (ta && ia))=true){Q:VK}(h:TV K ml (pa && pb) ia ia (f2 o fa fb) σ H Q):tOp r (TV K ml pa ta ia fa) (TV K ml pb tb ib fb) σ H Q:=by
 obtain⟨B,O,δ,d,δ2,S,q,k⟩:=h
 obtain⟨x,δ1,y,h1,h2,h3⟩:=zH8 q
 refine⟨B,O,δ,x,δ1,S,h1,fun v1 H1 R1=>⟨B,O,δ1,y,δ2,R1.sta,h2,fun v2 H2 R2=> ?_⟩⟩
 exact ho H2 _ _ _ _ v1 v2 x y d Q (R2.live hs R1.rep) R2.rep h3 fun v hv=>k v H2 ⟨R2.sta,R1.frm.trans R2.frm,fun z=>by
  obtain⟨z1,z2⟩:=(A3 _ _).mp z
  exact(R1.pur z1).trans (R2.pur z2),hv.mono (fun _ z=>z) yCM⟩
theorem zCT{op:Operator}{pos:Pos}(ho:OpR X (Dh op) r)(hv:OpS K r o)(ha:PE X a (TV K ml pa ta ia fa))(hb:PE X b (TV K ml pb tb ib fb))(hs:(pb || (ta && ia))=true:=by rfl):PE X (.BinOp a op b pos) (TV K ml (pa && pb) true true (f2 o fa fb)):=
 (yAD ho ha hb).imp fun _ _ _ h=>zOT hv hs h
theorem zAT{op:Operator}{pos:Pos}(ho:OpR X (Dh op) r)(hv:OpC K r o)(ha:PE X a (TV K ml pa ta ia fa))(hb:PE X b (TV K ml pb tb ib fb))(hs:(pb || (ta && ia))=true:=by rfl):PE X (.BinOp a op b pos) (TV K ml (pa && pb) true (ia && ib) (f2 o fa fb)):=
 (yAD ho ha hb).imp fun _ _ _ h=>zYQ hv hs h
theorem zDN{op:CmpOp}{pos:Pos}(ho:OpR X (By op) r)(hv:OpS K r o)(ha:PE X a (TV K ml pa ta ia fa))(hb:PE X b (TV K ml pb tb ib fb))(hm:Er op b=false)(hs:(pb || (ta && ia))=true:=by rfl):PE X (.Compare a [op] [b] pos) (TV K ml (pa && pb) true true (f2 o fa fb)):=
 (zWS ho ha hb hm).imp fun _ _ _ h=>zOT hv hs h
theorem yD1{pos:Pos}(ho:IxR X r)(hv:OpI K r o)(ha:PE X a (TV K ml pa ta ia fa))(hb:PE X b (TV K ml pb tb ib fb))(hx:zM0 b)(hs:(pb || (ta && ia))=true:=by rfl):PE X (.Subscript a b pos) (TV K ml (pa && pb) ia ia (f2 o fa fb)):=
 (yE7 ho ha hb hx).imp fun _ _ _ h=>zYP hv hs h
noncomputable def oI(C:Int->Int->Bool)(g:Int->Int->Dat):Dat->Dat->Option Dat
 | .int i,.int j=>if C i j=true then some (g i j) else none
 |_,_=>none
theorem zV4{C:Int->Int->Bool}{g:Int->Int->Dat}{d e c:Dat}(h:oI C g d e=some c): ∃i j,d= .int i/\e= .int j/\C i j=true/\c=g i j:=by
 unfold oI at h
 split at h
 ·split at h
  ·rename_i hc
   cases h
   exact⟨_,_,rfl,rfl,hc,rfl⟩
  ·cases h
 ·cases h
theorem zTJ{C:Int->Int->Prop}{C':Int->Int->Bool}{g:Int->Int->V}{g':Int->Int->Dat}(hC: ∀i j,C' i j=true->C i j)(hg: ∀i j N H M,Rep K N H M (g i j) (g' i j)):OpS K (rI C g) (oI C' g'):=by
 intro H N N' M M' x y d e c Q hx hy h k
 obtain⟨i,j,rfl,rfl,hc,rfl⟩:=zV4 h
 cases hx
 cases hy
 exact⟨_,_,rfl,rfl,hC _ _ hc,k _ fun _ _ _=>hg ..⟩
theorem zK0{g:Int->Int->V}{g':Int->Int->Dat}(hg: ∀i j N H M,Rep K N H M (g i j) (g' i j)):OpS K (rI0 g) (oI (fun _ _=>true) g'):=by
 intro H N N' M M' x y d e c Q hx hy h k
 obtain⟨i,j,rfl,rfl,hc,rfl⟩:=zV4 h
 cases hx
 cases hy
 exact⟨_,_,rfl,rfl,k _ fun _ _ _=>hg ..⟩
noncomputable def cMul(i j:Int):Bool:=(decide (-18446744073709551616<i) && decide (i<18446744073709551616)) || (decide (-18446744073709551616<j) && decide (j<18446744073709551616))
noncomputable def cDiv(i j:Int):Bool:=decide (0<j) && decide (j<1073741824)
noncomputable def cPow(i j:Int):Bool:=decide (0<=j) && decide (j<=1000000) && decide (i.natAbs<18446744073709551616)
noncomputable abbrev oSub:=oI (fun _ _=>true) fun i j=> .int (i - j)
noncomputable abbrev oMul:=oI cMul fun i j=> .int (i*j)
noncomputable abbrev zQJ:=oI cDiv fun i j=> .int (i/j)
noncomputable abbrev oMod:=oI (fun _ j=>decide (0<j)) fun i j=> .int (i % j)
noncomputable abbrev oPow:=oI cPow fun i j=> .int (i ^ j.toNat)
noncomputable abbrev oLt:=oI (fun _ _=>true) fun i j=> .bl (decide (i<j))
noncomputable abbrev oLe:=oI (fun _ _=>true) fun i j=> .bl (decide (i<=j))
noncomputable abbrev oGt:=oI (fun _ _=>true) fun i j=> .bl (decide (j<i))
noncomputable abbrev oGe:=oI (fun _ _=>true) fun i j=> .bl (decide (j<=i))
theorem zJO:OpS K (rI0 fun i j=> .int (i - j)) oSub:=zK0 fun i j _ _ _=> .int _
theorem yDL:OpS K (rI CMul fun i j=> .int (i*j)) oMul:=zTJ (fun i j h=>by
 have p:(2:Int) ^ 64=18446744073709551616:=by decide
 unfold CMul
 rw[p]
 simpa[cMul] using h) fun i j _ _ _=> .int _
theorem zPA:OpS K (rI CDiv fun i j=> .int (i/j)) zQJ:=zTJ (fun i j h=>by show 0<j/\j<1073741824;simpa[cDiv] using h) fun i j _ _ _=> .int _
theorem zGT:OpS K (rI (fun _ j=>0<j) fun i j=> .int (i % j)) oMod:=zTJ (fun i j h=>by simpa using h) fun i j _ _ _=> .int _
theorem yDK:OpS K (rI CPow fun i j=> .int (i ^ j.toNat)) oPow:=zTJ (fun i j h=>by
 have p:(2:Nat) ^ 64=18446744073709551616:=by decide
 unfold CPow
 rw[p]
 simpa[cPow,and_assoc] using h) fun i j _ _ _=> .int _
theorem s_lt:OpS K (rI0 fun i j=> .bl (decide (i<j))) oLt:=zK0 fun i j _ _ _=> .bl _
theorem s_le:OpS K (rI0 fun i j=> .bl (decide (i<=j))) oLe:=zK0 fun i j _ _ _=> .bl _
theorem s_gt:OpS K (rI0 fun i j=> .bl (decide (j<i))) oGt:=zK0 fun i j _ _ _=> .bl _
theorem s_ge:OpS K (rI0 fun i j=> .bl (decide (j<=i))) oGe:=zK0 fun i j _ _ _=> .bl _
noncomputable def okD(d:Dat):Bool:=d.isD && D0 d.pd
noncomputable def eqD(d e:Dat):Bool:=Fw d.pd e.pd
noncomputable def oEq(d e:Dat):Option Dat:=if(okD d && okD e)=true then some (.bl (eqD d e)) else none
noncomputable def oNe(d e:Dat):Option Dat:=if(okD d && okD e)=true then some (.bl (!eqD d e)) else none
theorem s_eq:OpS K (rEqD K) oEq:=by
 intro H N N' M M' x y d e c Q hx hy h k
 unfold oEq at h
 split at h
 ·rename_i hh
  cases h
  simp only[okD,A3] at hh
  exact⟨d.pd,e.pd,hx.dp hh.1.1,hy.dp hh.2.1,hh.1.2,hh.2.2,k _ fun _ _ _=> .bl _⟩
 ·cases h
theorem s_ne:OpS K (rNeD K) oNe:=by
 intro H N N' M M' x y d e c Q hx hy h k
 unfold oNe at h
 split at h
 ·rename_i hh
  cases h
  simp only[okD,A3] at hh
  exact⟨d.pd,e.pd,hx.dp hh.1.1,hy.dp hh.2.1,hh.1.2,hh.2.2,k _ fun _ _ _=> .bl _⟩
 ·cases h
noncomputable def isN:Dat->Bool
 | .non=>true
 |_=>false
noncomputable def oIsN:Dat->Dat->Option Dat
 |d,.non=>some (.bl (isN d))
 |_,_=>none
noncomputable def zK1:Dat->Dat->Option Dat
 |d,.non=>some (.bl (!isN d))
 |_,_=>none
theorem zPK{N M:Addr->Prop}(h:Rep K N H M v d):decide (v=V.non)=isN d:=by
 cases h<;>simp[isN]
theorem zZE:OpS K (fun x y H Q=>y= .non/\Q (.bl (decide (x= .non))) H) oIsN:=by
  intro H N N' M M' x y d e c Q hx hy h k
  cases hy<;>first
    | (cases h
       refine⟨rfl,?_⟩
       rw[zPK hx]
       exact k _ fun _ _ _=> .bl _)
    |(simp[oIsN] at h)
theorem zUM:OpS K (fun x y H Q=>y= .non/\Q (.bl (!decide (x= .non))) H) zK1:=by
  intro H N N' M M' x y d e c Q hx hy h k
  cases hy<;>first
    | (cases h
       refine⟨rfl,?_⟩
       rw[zPK hx]
       exact k _ fun _ _ _=> .bl _)
    |(simp[zK1] at h)
noncomputable def seqD:Dat->Option (List Dat)
 | .tup ds=>some ds
 | .lst ds=>some ds
 |_=>none
theorem Rep.seq{N M:Addr->Prop}{ds:List Dat}(h:Rep K N H M v d)(e:seqD d=some ds): ∃a xs,v= .ref a/\(SqL K H a xs∨SqT K H a xs)/\RepA K N H xs ds:=by
 cases h<;>first
  |(cases e;rename_i q r;exact⟨_,_,rfl,.inr q,r⟩)
  |(cases e;rename_i q n r;exact⟨_,_,rfl,.inl (SqL.of q),r⟩)
  |(cases e;rename_i q r;exact⟨_,_,rfl,.inl q.sq,r⟩)
  |cases e
theorem zY8{N:Addr->Prop}{xs:List V}{ds:List Dat}{i:Int}(r:RepA K N H xs ds)(h:atI ds i=some d): ∃v,atI xs i=some v/\Rep K N H N v d:=by
 unfold atI at h⊢
 rw[r.length]
 cases hi:ixN ds.length i with
 |none=>rw[hi] at h;cases h
 |some j=>
  rw[hi] at h
  exact r.get h
end
section
variable{X:Cx}{K:A8}{ml:List Nat}{e a b c:Expr}{es:List Expr}{pa ta ia pb tb ib pc tc ic pu bt bi ps bs:Bool}{fa fb fc:VF}{r r':R2}{o o':Dat->Dat->Option Dat}{B:Bs}{O:Nat->Option Addr}{H H1 H':Hp}{σ:St}{δ δ':Ev}{v:V}{d:Dat}{p:Addr}{pos:Pos}
theorem Sta.unadd(S:Sta K ml (B.add p) O H σ δ):Sta K ml B O H σ δ where
 len:=S.len
 va:=fun i d e=>let ⟨v,a,b⟩:=S.va i d e;⟨v,a,b.mono zGX zGX⟩
 ow:=fun i d e=>let ⟨a,b,c,w⟩:=S.ow i d e;⟨a,b,c,w.mono zGX⟩
 dom:=S.dom
 inj:=S.inj
 old:=fun i a h=>⟨fun z=>(S.old i a h).1 (.inl z),(S.old i a h).2⟩
 zin:=fun a h=>S.zin a (.inl h)
 frm:=S.frm
 par:=S.par
 pin:=S.pin
 kep:=fun p h=>(S.kep p h).mono zGX zGX
structure ResN(K:A8)(ml:List Nat)(B:Bs)(O:Nat->Option Addr)(H:Hp)(σ:St)(pu:Bool)(H':Hp)(δ':Ev)(p:Addr)(d:Dat):Prop where
 sta:Sta K ml (B.add p) O H' σ δ'
 frm:Fr (OA O) H H'
 pur:pu=true->Same H H'
 own:Own K (Nn (B.add p) O) H' p d
 nz: ¬Nn B O p
 h0:B.H0 p=none
def TN(K:A8)(ml:List Nat)(pu:Bool)(f:VF):TE:=fun σ H Q=> ∃B O δ d δ',Sta K ml B O H σ δ/\f δ=some (d,δ')/\ ∀p H',ResN K ml B O H σ pu H' δ' p d->Q (.ref p) H'
theorem zAJ{f:VF}(h:PE X e (TN K ml pu f)):PE X e (TV K ml pu true true f):=h.imp fun σ H Q ⟨B,O,δ,d,δ',S,q,k⟩=>
 ⟨B,O,δ,d,δ',S,q,fun p H' R=>k _ H' ⟨R.sta.unadd,R.frm,R.pur,(R.own.mono zGX).rep R.nz⟩⟩
theorem mkN{xs:List V}{ds:List Dat}(S:Sta K ml B O H1 σ δ')(f:Fr (OA O) H H1)(s:pu=true->Same H H1)(hp:H1 p=none)(r:RepA K (Nn B O) H1 xs ds):ResN K ml B O H σ pu (upd H1 p (.lst xs)) δ' p (.lst ds):=
 ⟨S.laid hp,f.trans (zA5 hp).fr,fun z=>(s z).trans (zA5 hp),.lst zAG ((r.away hp _ _ zDU).same (zA5 hp)),S.new hp,S.fresh hp⟩
theorem mkD(S:Sta K ml B O H1 σ δ')(f:Fr (OA O) H H1)(s:pu=true->Same H H1)(hp:H1 p=none):ResN K ml B O H σ pu (upd H1 p (.dK [])) δ' p (.dct [] []):=
 ⟨S.laid hp,f.trans (zA5 hp).fr,fun z=>(s z).trans (zA5 hp),.dct (kvs:=[]) zAG .nil,S.new hp,S.fresh hp⟩
theorem zSE:PE X (.Dict [] [] pos) (TN K ml true (fC (.dct [] []))):=zTA.imp fun σ H Q q0=>by
 obtain⟨B,O,δ,d,δ',S,q,k⟩:=q0
 cases q
 exact fun p hp=>k p _ (mkD S (Fr.refl _ _) (fun _=>Same.refl _) hp)
abbrev VFs:=Ev->Option (List Dat×Ev)
structure ResA(K:A8)(ml:List Nat)(B:Bs)(O:Nat->Option Addr)(H:Hp)(σ:St)(pu b:Bool)(H':Hp)(δ':Ev)(vs:List V)(ds:List Dat):Prop where
 sta:Sta K ml B O H' σ δ'
 frm:Fr (OA O) H H'
 pur:pu=true->Same H H'
 rep:RepA K (av B O b) H' vs ds
def TAV(K:A8)(ml:List Nat)(pu b:Bool)(f:VFs):TA:=fun σ H Q=> ∃B O δ d δ',Sta K ml B O H σ δ/\f δ=some (d,δ')/\ ∀vs H',ResA K ml B O H σ pu b H' δ' vs d->Q vs H'
noncomputable def fNil:VFs:=fun δ=>some ([],δ)
noncomputable def zA3(fa:VF)(fs:VFs):VFs:=fun δ=>(fa δ).bind fun p=>(fs p.2).map fun q=>(p.1::q.1,q.2)
theorem zKK{fs:VFs}{ds:List Dat}(h:zA3 fa fs δ=some (ds,δ')): ∃x δ1 xs,fa δ=some (x,δ1)/\fs δ1=some (xs,δ')/\ds=x::xs:=by
 unfold zA3 at h
 cases h1:fa δ with
 | none => rw [h1] at h;cases h
 |some p=>
  rw[h1] at h
  cases h2:fs p.2 with
  |none=>simp[h2] at h
  |some q=>
   simp only[A7,h2] at h
   cases h
   exact⟨p.1,p.2,q.1,rfl,h2,rfl⟩
theorem zA7:PA X [] (TAV K ml true true fNil):=zBT.imp fun σ H Q q0=>by
 obtain⟨B,O,δ,d,δ',S,q,k⟩:=q0
 cases q
 exact k [] H ⟨S,Fr.refl _ _,fun _=>Same.refl _,.nil⟩
theorem zA0{fs:VFs}(ha:PE X a (TV K ml pa ta ia fa))(hr:PA X es (TAV K ml ps bs fs))(hs:starEach (a::es) X.env=(false,eval a X.env)::starEach es X.env:=by rfl)(hl:(ps || (ta && ia))=true:=by rfl)(ht:ta=true:=by rfl):
  PA X (a::es) (TAV K ml (pa && ps) (ta && ia && bs) (zA3 fa fs)):=(zAQ ha hr hs).imp fun σ H Q ⟨B,O,δ,d,δ2,S,q,k⟩=>by
 obtain⟨x,δ1,xs,h1,h2,rfl⟩:=zKK q
 refine⟨B,O,δ,x,δ1,S,h1,fun v1 H1 R1=>⟨B,O,δ1,xs,δ2,R1.sta,h2,fun vs H2 R2=>k _ H2 ⟨R2.sta,R1.frm.trans R2.frm,fun z=> ?_,?_⟩⟩⟩
 ·obtain⟨z1,z2⟩:=(A3 _ _).mp z
  exact(R1.pur z1).trans (R2.pur z2)
 ·have g : ∀ c,((ta && ia && bs) = true -> c = true) -> ∀ a,av B O (ta && ia && bs) a -> av B O c a := fun c h => zHH h
  have g1:=g ta fun z=>by simp only[A3] at z;exact z.1.1
  have g2:=g ia fun z=>by simp only[A3] at z;exact z.1.2
  have g3:=g bs fun z=>by simp only[A3] at z;exact z.2
  refine .cons ?_ (R2.rep.mono g3)
  have h:Rep K (av B O ia) H2 (at_ B O ta) v1 x:=by
   cases ps with
   |true=>exact R1.rep.same (R2.pur rfl)
   |false=>
    have hs:(ta && ia)=true:=by simpa using hl
    obtain⟨h1,h2⟩:=(A3 _ _).mp hs
    subst h1 h2
    exact R1.rep.fr R2.frm (fun a z=> .inr z) fun a z=> .inr z
  subst ht
  exact h.mono g2 g1
theorem Sta.lone(S:Sta K ml B O H σ δ){i:Nat}{x:Dat}(hm:i∉ml)(h:fO i δ=some (x,δ')):δ'=δ/\ ∃v,σ[i]? =some (some v)/\Rep K (av B O false) H (av B O false) v x:=by
 unfold fO at h
 split at h
 ·rename_i d hd
  cases h
  obtain⟨v,e1,r⟩:=S.va i _ hd
  exact⟨rfl,v,e1,r.mono (fun a z=>z.1) fun a z=>z.1⟩
 ·rename_i d hd
  cases h
  obtain⟨a,e1,e2,w⟩:=S.ow i _ hd
  refine⟨rfl,.ref a,e2,(w.mono fun a z=>z.1).rep fun z=> ?_⟩
  rcases z.2 with z|⟨j,z⟩
  ·exact(S.old i a e1).1 z
  ·have hj:=S.par.1 j a z
   have:i=j:=S.inj i j a e1 ((S.par.2 j hj).trans z)
   exact hm (this▸hj)
 ·cases h
theorem zI7{i:Nat}{fs:VFs}(ha:PE X a (tVar i))(hr:PA X es (TAV K ml ps bs fs))(hs:starEach (a::es) X.env=(false,eval a X.env)::starEach es X.env:=by rfl)(hl:ps=true:=by rfl)(hm:i∉ml:=by decide):
  PA X (a::es) (TAV K ml ps false (zA3 (fO i) fs)):=(zAQ ha hr hs).imp fun σ H Q ⟨B,O,δ,d,δ2,S,q,k⟩=>by
 obtain⟨x,δ1,xs,h1,h2,rfl⟩:=zKK q
 obtain⟨rfl,v,e1,r⟩:=S.lone hm h1
 exact⟨v,e1,B,O,δ1,xs,δ2,S,h2,fun vs H2 R2=>k _ H2 ⟨R2.sta,R2.frm,R2.pur,.cons (r.same (R2.pur hl)) (R2.rep.mono (zHH (b:=false) fun z=>nomatch z))⟩⟩
noncomputable def fTup(fs:VFs):VF:=fun δ=>(fs δ).bind fun p=>if p.1.length<=16777216 then some (.tup p.1,p.2) else none
noncomputable def fLst(fs:VFs):VF:=fun δ=>(fs δ).bind fun p=>if p.1.length<=16777216 then some (.lst p.1,p.2) else none
theorem zIN{fs:VFs}{g:List Dat->Dat}(h:((fs δ).bind fun p=>if p.1.length<=16777216 then some (g p.1,p.2) else none)=some (d,δ')): ∃ds,fs δ=some (ds,δ')/\ds.length<=16777216/\d=g ds:=by
 cases h1:fs δ with
 | none => rw [h1] at h;cases h
 |some p=>
  rw[h1] at h
  have h:(if p.1.length<=16777216 then some (g p.1,p.2) else none)=some (d,δ'):=h
  split at h
  ·cases h
   exact⟨p.1,rfl,by assumption,rfl⟩
  ·cases h
theorem zAS{x1}{fs:VFs}(h:PA X es (TAV K ml pu bs fs)):PE X (.Tuple es x1 pos) (TV K ml pu true bs (fTup fs)):=(zUW h).imp fun σ H Q q0=>by
 obtain⟨B,O,δ,d,δ',S,q,k⟩:=q0
 obtain⟨ds,h1,hl,rfl⟩:=zIN (g:=Dat.tup) q
 refine⟨B,O,δ,ds,δ',S,h1,fun vs H1 R=>⟨by rw[R.rep.length,Bb];exact hl,fun p hp=>k _ _ ⟨R.sta.same (zA5 hp),R.frm.trans (zA5 hp).fr,fun z=>(R.pur z).trans (zA5 hp),.tup (SqT.of zAG) (R.rep.same (zA5 hp))⟩⟩⟩
theorem zYK{fs:VFs}(h:PA X es (TAV K ml pu bs fs)):PE X (.List es pos) (TV K ml pu true bs (fLst fs)):=(zUY h).imp fun σ H Q q0=>by
 obtain⟨B,O,δ,d,δ',S,q,k⟩:=q0
 obtain⟨ds,h1,hl,rfl⟩:=zIN (g:=Dat.lst) q
 refine⟨B,O,δ,ds,δ',S,h1,fun vs H1 R=>⟨by rw[R.rep.length,Bb];exact hl,fun p hp=>k _ _ ⟨R.sta.same (zA5 hp),R.frm.trans (zA5 hp).fr,fun z=>(R.pur z).trans (zA5 hp),.lst zAG (R.sta.new hp) (R.rep.same (zA5 hp))⟩⟩⟩
theorem zAP{fs:VFs}(h:PA X es (TAV K ml pu true fs)):PE X (.List es pos) (TN K ml pu (fLst fs)):=(zUY h).imp fun σ H Q q0=>by
 obtain⟨B,O,δ,d,δ',S,q,k⟩:=q0
 obtain⟨ds,h1,hl,rfl⟩:=zIN (g:=Dat.lst) q
 exact⟨B,O,δ,ds,δ',S,h1,fun vs H1 R=>⟨by rw[R.rep.length,Bb];exact hl,fun p hp=>k p _ (mkN R.sta R.frm R.pur hp R.rep)⟩⟩
abbrev VB:=Ev->Option (Bool×Ev)
structure ResB(K:A8)(ml:List Nat)(B:Bs)(O:Nat->Option Addr)(H:Hp)(σ:St)(pu:Bool)(H':Hp)(δ':Ev):Prop where
 sta:Sta K ml B O H' σ δ'
 frm:Fr (OA O) H H'
 pur:pu=true->Same H H'
def TB(K:A8)(ml:List Nat)(pu:Bool)(f:VB):TT:=fun σ H Q=> ∃B O δ k δ',Sta K ml B O H σ δ/\f δ=some (k,δ')/\ ∀H',ResB K ml B O H σ pu H' δ'->Q k H'
noncomputable def fB(f:VF):VB:=fun δ=>(f δ).bind fun p=>match p.1 with
 | .bl k=>some (k,p.2)
 |_=>none
theorem yCA{f:VF}{k:Bool}(h:fB f δ=some (k,δ')):f δ=some (.bl k,δ'):=by
 unfold fB at h
 cases h1:f δ with
 | none => rw [h1] at h;cases h
 |some p=>
  obtain⟨x,δ1⟩:=p
  rw[h1] at h
  cases x<;>first
   |(cases h;rfl)
   |cases h
theorem zL9{f:VF}{t:TE}(ht: ∀σ H Q,TV K ml pu bt bi f σ H Q->t σ H Q){Q:Bool->Hp->Prop}(h:TB K ml pu (fB f) σ H Q):t σ H fun x H'=> ∃k,x= .bl k/\Q k H':=by
 obtain⟨B,O,δ,k,δ',S,q,w⟩:=h
 refine ht σ H _ ⟨B,O,δ,.bl k,δ',S,yCA q,fun v H' R=>⟨k,?_,w H' ⟨R.sta,R.frm,R.pur⟩⟩⟩
 cases R.rep
 rfl
theorem zAY{op:CmpOp}(ho:OpR X (By op) r)(hv:OpS K r o)(ha:PE X a (TV K ml pa ta ia fa))(hb:PE X b (TV K ml pb tb ib fb))(hm:Er op b=false)(hs:(pb || (ta && ia))=true:=by rfl):PT X (.Compare a [op] [b] pos) (TB K ml (pa && pb) (fB (f2 o fa fb))):=
 (zWJ ho ha hb hm).imp fun _ _ _ h=>zL9 (fun _ _ _=>zOT hv hs) h
theorem zCK{f:VF}(h:PE X e (TV K ml pu bt bi f))(he: ∀b8,isTrue e X.env b8=(do let v<- b8;standAt e.pos;J8 [v] (truthy v)):=by intro _;rfl):PT X e (TB K ml pu (fB f)):=
 (yA1 h he).imp fun _ _ _ h=>zL9 (fun _ _ _ z=>z) h
noncomputable def bAnd(x y:VB):VB:=fun δ=>(x δ).bind fun p=>if p.1=true then y p.2 else some (false,p.2)
noncomputable def bOr(x y:VB):VB:=fun δ=>(x δ).bind fun p=>if p.1=true then some (true,p.2) else y p.2
noncomputable def bNot(x:VB):VB:=fun δ=>(x δ).map fun p=>(!p.1,p.2)
theorem ResB.refl(S:Sta K ml B O H σ δ):ResB K ml B O H σ pu H δ:=⟨S,Fr.refl _ _,fun _=>Same.refl _⟩
theorem zYS{x y:VB}{Q:Bool->Hp->Prop}(h:TB K ml (pa && pb) (bAnd x y) σ H Q):tAnd (TB K ml pa x) (TB K ml pb y) σ H Q:=by
 obtain⟨B,O,δ,k,δ',S,q,w⟩:=h
 unfold bAnd at q
 cases h1:x δ with
 | none => rw [h1] at q;cases q
 |some p=>
  obtain⟨kk,δ1⟩:=p
  rw[h1] at q
  refine⟨B,O,δ,kk,δ1,S,h1,fun H1 R1=> ?_⟩
  cases kk with
  |true=>
   have q:y δ1=some (k,δ'):=q
   exact iteT ⟨B,O,δ1,k,δ',R1.sta,q,fun H2 R2=>w H2 ⟨R2.sta,R1.frm.trans R2.frm,fun z=>by
    obtain⟨z1,z2⟩:=(A3 _ _).mp z
    exact(R1.pur z1).trans (R2.pur z2)⟩⟩
  |false=>
   have q:some (false,δ1)=some (k,δ'):=q
   cases q
   exact iteF (w H1 ⟨R1.sta,R1.frm,fun z=>R1.pur ((A3 _ _).mp z).1⟩)
theorem yD4{x y:VB}{Q:Bool->Hp->Prop}(h:TB K ml (pa && pb) (bOr x y) σ H Q):tOr (TB K ml pa x) (TB K ml pb y) σ H Q:=by
 obtain⟨B,O,δ,k,δ',S,q,w⟩:=h
 unfold bOr at q
 cases h1:x δ with
 | none => rw [h1] at q;cases q
 |some p=>
  obtain⟨kk,δ1⟩:=p
  rw[h1] at q
  refine⟨B,O,δ,kk,δ1,S,h1,fun H1 R1=> ?_⟩
  cases kk with
  |false=>
   have q:y δ1=some (k,δ'):=q
   exact iteF ⟨B,O,δ1,k,δ',R1.sta,q,fun H2 R2=>w H2 ⟨R2.sta,R1.frm.trans R2.frm,fun z=>by
    obtain⟨z1,z2⟩:=(A3 _ _).mp z
    exact(R1.pur z1).trans (R2.pur z2)⟩⟩
  |true=>
   have q:some (true,δ1)=some (k,δ'):=q
   cases q
   exact iteT (w H1 ⟨R1.sta,R1.frm,fun z=>R1.pur ((A3 _ _).mp z).1⟩)
theorem zCS{x:VB}(h:PT X a (TB K ml pu x)):PT X (.UnaryOp .Not a pos) (TB K ml pu (bNot x)):=(yA2 h).imp fun σ H Q q0=>by
 obtain⟨B,O,δ,k,δ',S,q,w⟩:=q0
 unfold bNot at q
 cases h1:x δ with
 |none=>rw[h1] at q;cases q
 |some p=>
  rw[h1] at q
  cases q
  exact⟨B,O,δ,p.1,p.2,S,h1,w⟩
theorem zL8{x:VB}(h:PT X a (TB K ml pu x)):PW X (.BoolOp .And [a] pos) (TB K ml pu x):=zWG h
theorem zES{x:VB}(h:PT X a (TB K ml pu x)):PW X (.BoolOp .Or [a] pos) (TB K ml pu x):=zZZ h
theorem zOI{x y:VB}(ha:PT X a (TB K ml pa x))(hb:PW X (.BoolOp .And (b::es) pos) (TB K ml pb y)):PW X (.BoolOp .And (a::b::es) pos) (TB K ml (pa && pb) (bAnd x y)):=(yA0 ha hb).imp fun _ _ _ h=>zYS h
theorem zI3{x y:VB}(ha:PT X a (TB K ml pa x))(hb:PW X (.BoolOp .Or (b::es) pos) (TB K ml pb y)):PW X (.BoolOp .Or (a::b::es) pos) (TB K ml (pa && pb) (bOr x y)):=(yE5 ha hb).imp fun _ _ _ h=>yD4 h
theorem vt_w{x:VB}(h:PW X e (TB K ml pu x)):PT X e (TB K ml pu x):=h.pt
noncomputable def fAnd(x y:VF):VF:=fun δ=>(x δ).bind fun p=>match p.1 with
 | .bl true=>y p.2
 | .bl false=>some (.bl false,p.2)
 |_=>none
theorem zGP{op}{f:VF}(h:PE X a (TV K ml pu bt bi f)):PE X (.BoolOp op [a] pos) (TV K ml pu bt bi f):=yAE h
theorem zEU(ha:PE X a (TV K ml pa ta ia fa))(hb:PE X (.BoolOp .And (b::es) pos) (TV K ml pb tb ib fb)):PE X (.BoolOp .And (a::b::es) pos) (TV K ml (pa && pb) tb ib (fAnd fa fb)):=(yAH ha hb).imp fun σ H Q q0=>by
 obtain⟨B,O,δ,d,δ',S,q,k⟩:=q0
 unfold fAnd at q
 cases h1:fa δ with
 | none => rw [h1] at q;cases q
 |some p=>
  obtain⟨x,δ1⟩:=p
  rw[h1] at q
  refine⟨B,O,δ,x,δ1,S,h1,fun v1 H1 R1=> ?_⟩
  cases x with
  |bl kk=>
   have e1:v1= .bl kk:=by cases R1.rep;rfl
   refine⟨kk,e1,?_⟩
   cases kk with
   |true=>
    exact iteT ⟨B,O,δ1,d,δ',R1.sta,q,fun v2 H2 R2=>k v2 H2 ⟨R2.sta,R1.frm.trans R2.frm,fun z=>by
     obtain⟨z1,z2⟩:=(A3 _ _).mp z
     exact(R1.pur z1).trans (R2.pur z2),R2.rep⟩⟩
   |false=>
    cases q
    exact iteF (k _ H1 ⟨R1.sta,R1.frm,fun z=>R1.pur ((A3 _ _).mp z).1,.bl _⟩)
  |_=>cases q
noncomputable def fIf(t:VB)(x y:VF):VF:=fun δ=>(t δ).bind fun p=>if p.1=true then x p.2 else y p.2
theorem zGQ{t:VB}(ht:PT X c (TB K ml pc t))(ha:PE X a (TV K ml pa ta ia fa))(hb:PE X b (TV K ml pb tb ib fb)):PE X (.IfExp c a b pos) (TV K ml (pc && pa && pb) (ta && tb) (ia && ib) (fIf t fa fb)):=(zT8 ht ha hb).imp fun σ H Q q0=>by
 obtain⟨B,O,δ,d,δ',S,q,k⟩:=q0
 unfold fIf at q
 cases h1:t δ with
 | none => rw [h1] at q;cases q
 |some p=>
  obtain⟨kk,δ1⟩:=p
  rw[h1] at q
  refine⟨B,O,δ,kk,δ1,S,h1,fun H1 R1=> ?_⟩
  have g1: ∀c,((ta && tb)=true->c=true)-> ∀a,at_ B O (ta && tb) a->at_ B O c a:=fun c h=>zY7 h
  have g2: ∀c,((ia && ib)=true->c=true)-> ∀a,av B O (ia && ib) a->av B O c a:=fun c h=>zHH h
  cases kk with
  |true=>
   exact iteT ⟨B,O,δ1,d,δ',R1.sta,q,fun v2 H2 R2=>k v2 H2 ⟨R2.sta,R1.frm.trans R2.frm,fun z=>by
    simp only[A3] at z
    exact(R1.pur z.1.1).trans (R2.pur z.1.2),R2.rep.mono (g2 _ fun z=>((A3 _ _).mp z).1) (g1 _ fun z=>((A3 _ _).mp z).1)⟩⟩
  |false=>
   exact iteF ⟨B,O,δ1,d,δ',R1.sta,q,fun v2 H2 R2=>k v2 H2 ⟨R2.sta,R1.frm.trans R2.frm,fun z=>by
    simp only[A3] at z
    exact(R1.pur z.1.1).trans (R2.pur z.2),R2.rep.mono (g2 _ fun z=>((A3 _ _).mp z).2) (g1 _ fun z=>((A3 _ _).mp z).2)⟩⟩
noncomputable def f3(o o':Dat->Dat->Option Dat)(fa fb fc:VF):VF:=fun δ=>(fa δ).bind fun p=>(fb p.2).bind fun q=>(o p.1 q.1).bind fun z=>match z with
 | .bl true=>(fc q.2).bind fun s=>(o' q.1 s.1).map fun u=>(u,s.2)
 | .bl false=>some (.bl false,q.2)
 |_=>none
theorem zMD(ho:OpS K r o)(ho':OpS K r' o')(hs:(pb || (ta && ia))=true)(hs':(pc || (tb && ib))=true){Q:VK}(h:TV K ml (pa && pb && pc) true true (f3 o o' fa fb fc) σ H Q):zP3 r r' (TV K ml pa ta ia fa) (TV K ml pb tb ib fb) (TV K ml pc tc ic fc) σ H Q:=by
 obtain⟨B,O,δ,d,δ3,S,q,k⟩:=h
 unfold f3 at q
 cases h1:fa δ with
 | none => rw [h1] at q;cases q
 |some p=>
  obtain⟨x,δ1⟩:=p
  rw[h1] at q
  cases h2:fb δ1 with
  | none => simp [h2] at q
  |some p2=>
   obtain⟨y,δ2⟩:=p2
   simp only[A7,h2] at q
   refine⟨B,O,δ,x,δ1,S,h1,fun v1 H1 R1=>⟨B,O,δ1,y,δ2,R1.sta,h2,fun v2 H2 R2=> ?_⟩⟩
   cases h3:o x y with
   | none => rw [h3] at q;cases q
   |some z=>
    rw[h3] at q
    refine ho H2 _ _ _ _ v1 v2 x y z _ (R2.live hs R1.rep) R2.rep h3 fun v hv=> ?_
    have hv := hv (fun _ => none) (fun _ => True) fun _ => True
    cases z with
    |bl kk=>
     have e1:v= .bl kk:=by cases hv;rfl
     refine⟨kk,e1,?_⟩
     cases kk with
     |false=>
      cases q
      exact iteF (k _ H2 ⟨R2.sta,R1.frm.trans R2.frm,fun z=>by
       simp only[A3] at z
       exact(R1.pur z.1.1).trans (R2.pur z.1.2),.bl _⟩)
     |true=>
      have q:((fc δ2).bind fun s=>(o' y s.1).map fun u=>(u,s.2))=some (d,δ3):=q
      cases h4:fc δ2 with
      | none => rw [h4] at q;cases q
      |some p4=>
       obtain⟨z4,δ4⟩:=p4
       rw[h4] at q
       have q:((o' y z4).map fun u=>(u,δ4))=some (d,δ3):=q
       cases h5:o' y z4 with
       | none => rw [h5] at q;cases q
       |some u=>
        rw[h5] at q
        cases q
        refine iteT ⟨B,O,δ2,z4,_,R2.sta,h4,fun v4 H4 R4=> ?_⟩
        exact ho' H4 _ _ _ _ v2 v4 y z4 d Q (R4.live hs' R2.rep) R4.rep h5 fun v hv=>k v H4 ⟨R4.sta,(R1.frm.trans R2.frm).trans R4.frm,fun z=>by
         simp only[A3] at z
         exact((R1.pur z.1.1).trans (R2.pur z.1.2)).trans (R4.pur z.2),hv _ _ _⟩
    |_=>cases q
theorem zSH{op op':CmpOp}(ho:OpR X (By op) r)(ho':OpR X (By op') r')(hv:OpS K r o)(hv':OpS K r' o')(ha:PE X a (TV K ml pa ta ia fa))(hb:PE X b (TV K ml pb tb ib fb))(hc:PE X c (TV K ml pc tc ic fc))
  (hm:Lc [op,op'] [b,c]=false:=by with_unfolding_all rfl) (hs:(pb || (ta && ia))=true:=by rfl) (hs':(pc || (tb && ib))=true:=by rfl):PE X (.Compare a [op,op'] [b,c] pos) (TV K ml (pa && pb && pc) true true (f3 o o' fa fb fc)):=
 (zTD ho ho' ha hb hc hm).imp fun _ _ _ h=>zMD hv hv' hs hs' h
theorem zM8{op op':CmpOp}(ho:OpR X (By op) r)(ho':OpR X (By op') r')(hv:OpS K r o)(hv':OpS K r' o')(ha:PE X a (TV K ml pa ta ia fa))(hb:PE X b (TV K ml pb tb ib fb))(hc:PE X c (TV K ml pc tc ic fc))
  (hm:Lc [op,op'] [b,c]=false:=by with_unfolding_all rfl) (hs:(pb || (ta && ia))=true:=by rfl) (hs':(pc || (tb && ib))=true:=by rfl):PT X (.Compare a [op,op'] [b,c] pos) (TB K ml (pa && pb && pc) (fB (f3 o o' fa fb fc))):=
 (zT4 ho ho' ha hb hc hm).imp fun _ _ _ h=>zL9 (fun _ _ _=>zMD hv hv' hs hs') h
end
section
variable{X:Cx}{K:A8}{ml:List Nat}{e a b c:Expr}{es:List Expr}{pa ta ia pb tb ib pc tc ic pu bt bi ps bs:Bool}{fa fb fc:VF}{B:Bs}{O:Nat->Option Addr}{H H1 H':Hp}{σ:St}{δ δ':Ev}{v:V}{d:Dat}{p:Addr}{pos:Pos}
noncomputable def f1(o:Dat->Option Dat)(fa:VF):VF:=fun δ=>(fa δ).bind fun p=>(o p.1).map fun c=>(c,p.2)
theorem zKM{o:Dat->Option Dat}(h:f1 o fa δ=some (d,δ')): ∃x,fa δ=some (x,δ')/\o x=some d:=by
 unfold f1 at h
 cases h1:fa δ with
 | none => rw [h1] at h;cases h
 |some p=>
  rw[h1] at h
  have h:((o p.1).map fun c=>(c,p.2))=some (d,δ'):=h
  cases h3:o p.1 with
  |none=>rw[h3] at h;cases h
  |some c=>
   rw[h3] at h
   cases h
   exact⟨p.1,rfl,h3⟩
abbrev RC:=List V->Hp->VK->Prop
def CalS(K:A8)(r:RC)(o:Dat->Option Dat):Prop:= ∀(H:Hp) (N M:Addr->Prop) (x:V) (d c:Dat) (Q:VK),Rep K N H M x d->o d=some c->(∀v,(∀H' N M,Rep K N H' M v c)->Q v H)->r [x] H Q
def CalC(K:A8)(r:RC)(o:Dat->Option Dat):Prop:= ∀(H:Hp) (N M:Addr->Prop) (x:V) (d c:Dat) (Q:VK),Rep K N H M x d->o d=some c→
 (∀v H',Same H H'->(∀M,(∀a,M a-> ∃o,H a=some o)->Rep K N H' M v c)->Q v H')->r [x] H Q
def CalN(K:A8)(r:RC)(o:Dat->Option Dat):Prop:= ∀(H:Hp) (N M:Addr->Prop) (x:V) (d c:Dat) (Q:VK),Rep K N H M x d->o d=some c→
 (∀p xs ds,H p=none->RepA K N H xs ds->c= .lst ds->Q (.ref p) (upd H p (.lst xs)))->r [x] H Q
def zM2(K:A8)(r:RC)(o:Dat->Dat->Option Dat):Prop:= ∀(H:Hp) (N N' M M':Addr->Prop) (x y:V) (d e c:Dat) (Q:VK),Rep K N H M x d->Rep K N' H M' y e->o d e=some c->(∀v,(∀H' N M,Rep K N H' M v c)->Q v H)->r [x,y] H Q
theorem zOW{r:RC}{o:Dat->Option Dat}(ho:CalS K r o){Q:VK}(h:TV K ml pa true true (f1 o fa) σ H Q):tCB r (zNJ (TV K ml pa ta ia fa) tNil) σ H Q:=by
 obtain⟨B,O,δ,d,δ',S,q,k⟩:=h
 obtain⟨x,h1,h2⟩:=zKM q
 exact⟨B,O,δ,x,δ',S,h1,fun v1 H1 R1=>ho H1 _ _ v1 x d Q R1.rep h2 fun v hv=>k v H1 ⟨R1.sta,R1.frm,R1.pur,hv _ _ _⟩⟩
theorem zOX{r:RC}{o:Dat->Option Dat}(ho:CalC K r o){Q:VK}(h:TV K ml pa true ia (f1 o fa) σ H Q):tCB r (zNJ (TV K ml pa ta ia fa) tNil) σ H Q:=by
 obtain⟨B,O,δ,d,δ',S,q,k⟩:=h
 obtain⟨x,h1,h2⟩:=zKM q
 exact⟨B,O,δ,x,δ',S,h1,fun v1 H1 R1=>ho H1 _ _ v1 x d Q R1.rep h2 fun v H2 s2 hv=>k v H2 ⟨R1.sta.same s2,R1.frm.trans s2.fr,fun z=>(R1.pur z).trans s2,hv _ fun a z=>R1.sta.nin z⟩⟩
theorem zJB{r:RC}{o:Dat->Option Dat}(ho:CalN K r o){Q:VK}(h:TN K ml pa (f1 o fa) σ H Q):tCB r (zNJ (TV K ml pa ta true fa) tNil) σ H Q:=by
 obtain⟨B,O,δ,d,δ',S,q,k⟩:=h
 obtain⟨x,h1,h2⟩:=zKM q
 refine⟨B,O,δ,x,δ',S,h1,fun v1 H1 R1=>ho H1 _ _ v1 x d Q R1.rep h2 fun p xs ds hp hr he=> ?_⟩
 subst he
 exact k p _ (mkN R1.sta R1.frm R1.pur hp hr)
theorem zOV{r:RC}{o:Dat->Dat->Option Dat}(ho:zM2 K r o)(hs:(pb || (ta && ia))=true){Q:VK}(h:TV K ml (pa && pb) true true (f2 o fa fb) σ H Q):tCB r (zNJ (TV K ml pa ta ia fa) (zNJ (TV K ml pb tb ib fb) tNil)) σ H Q:=by
 obtain⟨B,O,δ,d,δ2,S,q,k⟩:=h
 obtain⟨x,δ1,y,h1,h2,h3⟩:=zH8 q
 refine⟨B,O,δ,x,δ1,S,h1,fun v1 H1 R1=>⟨B,O,δ1,y,δ2,R1.sta,h2,fun v2 H2 R2=> ?_⟩⟩
 exact ho H2 _ _ _ _ v1 v2 x y d Q (R2.live hs R1.rep) R2.rep h3 fun v hv=>k v H2 ⟨R2.sta,R1.frm.trans R2.frm,fun z=>by
  obtain⟨z1,z2⟩:=(A3 _ _).mp z
  exact(R1.pur z1).trans (R2.pur z2),hv _ _ _⟩
section
variable{x:Str}{p':Pos}{id T:String}{r:RC}
theorem zW2{o:Dat->Option Dat}(hc:zBY X (.builtin id) r)(ho:CalS K r o)(hg:Gl X x)(hm:X.mg x=none)(hv:Ar x=some (.builtin id))(ha:PE X a (TV K ml pa ta ia fa))(hn:x≠ "__name__":=by decide) (hdb:(x==("__debug__":Str))=false:=by decide)
  (he:starEach (a::[]) X.env=(false,eval a X.env)::starEach [] X.env:=by rfl):PE X (.Call (.Name x p') [a] [] pos) (TV K ml pa true true (f1 o fa)):=
 (zIE hc hg hm hv (zAQ ha zBT he) hn hdb he).imp fun _ _ _ h=>zOW ho h
theorem zD7{o:Dat->Dat->Option Dat}(hc:zBY X (.builtin id) r)(ho:zM2 K r o)(hg:Gl X x)(hm:X.mg x=none)(hv:Ar x=some (.builtin id))(ha:PE X a (TV K ml pa ta ia fa))(hb:PE X b (TV K ml pb tb ib fb))(hn:x≠ "__name__":=by decide) (hdb:(x==("__debug__":Str))=false:=by decide)
  (he:starEach (a::[b]) X.env=(false,eval a X.env)::starEach [b] X.env:=by rfl) (he2:starEach (b::[]) X.env=(false,eval b X.env)::starEach [] X.env:=by rfl) (hpl:(Cg pos (starEach [b] X.env)).any (·.1)=false:=by rfl) (hs:(pb || (ta && ia))=true:=by rfl):
  PE X (.Call (.Name x p') [a,b] [] pos) (TV K ml (pa && pb) true true (f2 o fa fb)):=
 (zIE hc hg hm hv (zAQ ha (zAQ hb zBT he2) he) hn hdb he hpl).imp fun _ _ _ h=>zOV ho hs h
theorem zOP{o:Dat->Option Dat}(hc:zBY X (.type T) r)(ho:CalC K r o)(hg:Gl X x)(hm:X.mg x=none)(hv:Ar x=some (.type T))(ha:PE X a (TV K ml pa ta ia fa))(hn:x≠ "__name__":=by decide) (hdb:(x==("__debug__":Str))=false:=by decide)
  (he:starEach (a::[]) X.env=(false,eval a X.env)::starEach [] X.env:=by rfl):PE X (.Call (.Name x p') [a] [] pos) (TV K ml pa true ia (f1 o fa)):=
 (zD8 hc hg hm hv (zAQ ha zBT he) hn hdb he).imp fun _ _ _ h=>zOX ho h
theorem zVX{o:Dat->Option Dat}(hc:zBY X (.type T) r)(ho:CalN K r o)(hg:Gl X x)(hm:X.mg x=none)(hv:Ar x=some (.type T))(ha:PE X a (TV K ml pa ta true fa))(hn:x≠ "__name__":=by decide) (hdb:(x==("__debug__":Str))=false:=by decide)
  (he:starEach (a::[]) X.env=(false,eval a X.env)::starEach [] X.env:=by rfl):PE X (.Call (.Name x p') [a] [] pos) (TN K ml pa (f1 o fa)):=
 (zD8 hc hg hm hv (zAQ ha zBT he) hn hdb he).imp fun _ _ _ h=>zJB ho h
theorem yCZ{o:Dat->Option Dat}(hc:zBY X (.builtin id) r)(ho:CalN K r o)(hg:Gl X x)(hm:X.mg x=none)(hv:Ar x=some (.builtin id))(ha:PE X a (TV K ml pa ta true fa))(hn:x≠ "__name__":=by decide) (hdb:(x==("__debug__":Str))=false:=by decide)
  (he:starEach (a::[]) X.env=(false,eval a X.env)::starEach [] X.env:=by rfl):PE X (.Call (.Name x p') [a] [] pos) (TN K ml pa (f1 o fa)):=
 (zIE hc hg hm hv (zAQ ha zBT he) hn hdb he).imp fun _ _ _ h=>zJB ho h
end
noncomputable def oLen:Dat->Option Dat
 | .tup ds=>some (.int ds.length)
 | .lst ds=>some (.int ds.length)
 | .str z=>if z.length<=16777216 then some (.int z.length) else none
 |_=>none
def rLen(K:A8):RC:=fun xs H Q=>(∃p ys,xs=[.ref p]/\(SqL K H p ys∨SqT K H p ys)/\Q (.int ys.length) H)∨ ∃z,xs=[.str z]/\z.length<=sizeLine/\Q (.int z.length) H
theorem yFD(h:X.K=K):zBY X (.builtin "len") (rLen K):=by subst h;exact zKX.or zKW
theorem yDM:CalS K (rLen K) oLen:=by
  intro H N M x d c Q hx h k
  cases d<;>first
    | (rename_i ds
       obtain⟨a,xs,rfl,sq,r⟩:=hx.seq rfl
       cases h
       refine .inl ⟨a,xs,rfl,sq,?_⟩
       rw[r.length]
       exact k _ fun _ _ _=> .int _)
    | (cases hx
       simp only[oLen] at h
       split at h
       · cases h
         exact .inr ⟨_,rfl,by rw[Bb];assumption,k _ fun _ _ _=> .int _⟩
       · cases h)
    |cases h
noncomputable def zNT(d:Dat):Option Dat:=(seqD d).map Dat.lst
noncomputable def zG5(d:Dat):Option Dat:=(seqD d).map Dat.tup
def zML(K:A8):RC:=fun xs H Q=> ∃p ys,xs=[.ref p]/\(SqL K H p ys∨SqT K H p ys)/\ ∀l,H l=none->Q (.ref l) (upd H l (.lst ys))
def zPQ(K:A8):RC:=fun xs H Q=> ∃p ys,xs=[.ref p]/\((SqL K H p ys/\ ∀l,H l=none->Q (.ref l) (upd H l (.tup ys)))∨(SqT K H p ys/\Q (.ref p) H))
theorem zN1(h:X.K=K):zBY X (.type "list") (zML K):=yFC h
theorem zH1(h:X.K=K):zBY X (.type "tuple") (zPQ K):=yC0 h
theorem zME{d:Dat}{g:List Dat->Dat}{c:Dat}(h:(seqD d).map g=some c): ∃ds,seqD d=some ds/\c=g ds:=by
 cases h1:seqD d with
 |none=>rw[h1] at h;cases h
 |some ds=>rw[h1] at h;cases h;exact⟨ds,rfl,rfl⟩
theorem zEC:CalN K (zML K) zNT:=by
 intro H N M x d c Q hx h k
 obtain⟨ds,h1,rfl⟩:=zME h
 obtain⟨a,xs,rfl,sq,r⟩:=hx.seq h1
 exact⟨a,xs,rfl,sq,fun l hl=>k l xs ds hl r rfl⟩
theorem zHF:CalC K (zPQ K) zG5:=by
 intro H N M x d c Q hx h k
 obtain⟨ds,h1,rfl⟩:=zME h
 obtain⟨a,xs,rfl,sq,r⟩:=hx.seq h1
 rcases sq with sq|sq
 ·exact⟨a,xs,rfl,.inl ⟨sq,fun l hl=>k _ _ (zA5 hl) fun M hM=> .tup (SqT.of zAG) (r.same (zA5 hl))⟩⟩
 ·exact⟨a,xs,rfl,.inr ⟨sq,k _ _ (Same.refl _) fun M hM=> .tup sq r⟩⟩
noncomputable def o2I(g:Int->Int->Int):Dat->Dat->Option Dat
 | .int i,.int j=>some (.int (g i j))
 |_,_=>none
theorem zUN{g:Int->Int->Int}:zM2 K (fun xs H Q=> ∃i j,xs=[.int i,.int j]/\Q (.int (g i j)) H) (o2I g):=by
 intro H N N' M M' x y d e c Q hx hy h k
 unfold o2I at h
 split at h
 ·cases h
  cases hx
  cases hy
  exact⟨_,_,rfl,k _ fun _ _ _=> .int _⟩
 ·cases h
noncomputable abbrev oMax:=o2I fun i j=>if j>i then j else i
noncomputable abbrev oMin:=o2I fun i j=>if j<i then j else i
theorem zZD:zM2 K (fun xs H Q=> ∃i j,xs=[.int i,.int j]/\Q (.int (if j>i then j else i)) H) oMax:=zUN
theorem zZC:zM2 K (fun xs H Q=> ∃i j,xs=[.int i,.int j]/\Q (.int (if j<i then j else i)) H) oMin:=zUN
noncomputable def tyD:Dat->Option String
 | .non=>some "NoneType"
 | .bl _=>some "bool"
 | .int _=>some "int"
 | .str _=>some "str"
 | .tup _=>some "tuple"
 | .lst _=>some "list"
 |_=>none
noncomputable def isiT(t n:String):Option Bool:=if((Gx t)==(Gx n))=true then some true else if W.kitMeta n=true then(PySem.fastBuiltinMro t).map (·.contains (.type n)) else none
theorem zXP{t n:String}{k:Bool}(h:isiT t n=some k):Fq K (.type t) (.type n)=some k:=h
noncomputable def oIsi:Dat->Dat->Option Dat
 |d,.ty n=>(tyD d).bind fun t=>(isiT t n).map Dat.bl
 |_,_=>none
def rIsi(K:A8):RC:=fun xs H Q=> ∃x n d N M t k,xs=[x,.ty n]/\Rep K N H M x d/\tyD d=some t/\isiT t n=some k/\Q (.bl k) H
theorem zRV:zBY X (.builtin "isinstance") (rIsi X.K):=by
 intro a6 s σ H xs us Q I r h
 obtain⟨x,n,d,N,M,t,k,rfl,hx,ht,hk,q⟩:=h
 obtain⟨u,c,rfl,rx,rc⟩:=zOQ r
 cases (show c=Gx n from rc)
 have e:=zXP (K:=X.K) hk
 have fin: ∀tk,EP X a6 σ Q (.bool k) {s with toks:=tk}:=fun tk=>⟨.bl k,H,I.tok tk,rfl,q⟩
 cases hx with
 |non=>cases ht;exact zF2 I rx (.non) e fin
 |bl y=>cases ht;exact zF2 I rx (.bl y) e fin
 |int i=>cases ht;exact zF2 I rx (.int i) e fin
 |str y=>cases ht;exact zF2 I rx (.str y) e fin
 |ty n=>cases ht
 |fn _=>cases ht
 |dct _ _ _=>cases ht
 |ktb _ _=>cases ht
 |exn _ _ _=>cases ht
 |tup q _=>
  cases ht
  cases rx
  obtain⟨its,_,⟨o,h1,h2,_⟩,_⟩:=I.tuple q
  exact D6 W.kitx_tuple I.kIn ⟨o,h1,h2⟩ e (fun z=>nomatch z) fin
 |lst q _ _=>
  cases ht
  cases rx
  obtain⟨its,_,⟨o,n,h1,h2,_⟩,_⟩:=I.list (SqL.of q)
  exact D6 J9 I.kIn ⟨o,h1,h2⟩ e (fun z=>nomatch z) fin
 |fzl q _=>
  cases ht
  cases rx
  obtain⟨its,_,⟨o,n,h1,h2,_⟩,_⟩:=I.list q.sq
  exact D6 J9 I.kIn ⟨o,h1,h2⟩ e (fun z=>nomatch z) fin
theorem kIsi(h:X.K=K):zBY X (.builtin "isinstance") (rIsi K):=by subst h;exact zRV
theorem yDN:zM2 K (rIsi K) oIsi:=by
  intro H N N' M M' x y d e c Q hx hy h k
  cases hy<;>first
    | (simp only [oIsi] at h
       cases h1:tyD d with
       | none => rw [h1] at h;cases h
       |some t=>
         rw[h1] at h
         rename_i n
         have h:(isiT t n).map Dat.bl=some c:=h
         cases h2:isiT t n with
         | none => rw [h2] at h;cases h
         |some kk=>
           rw[h2] at h
           cases h
           exact⟨x,n,d,N,M,t,kk,rfl,hx,h1,h2,k _ fun _ _ _=> .bl _⟩)
    |cases h
noncomputable def oNeg:Dat->Option Dat
 | .int i=>some (.int (-i))
 |_=>none
theorem zET(ha:PE X a (TV K ml pa ta ia fa)):PE X (.UnaryOp .USub a pos) (TV K ml pa true true (f1 oNeg fa)):=(yE6 zYL ha).imp fun σ H Q q0=>by
 obtain⟨B,O,δ,d,δ',S,q,k⟩:=q0
 obtain⟨x,h1,h2⟩:=zKM q
 refine⟨B,O,δ,x,δ',S,h1,fun v1 H1 R1=> ?_⟩
 cases x with
 |int i=>
  cases h2
  have e1:v1= .int i:=by cases R1.rep;rfl
  exact⟨i,e1,k _ H1 ⟨R1.sta,R1.frm,R1.pur,.int _⟩⟩
 |_=>cases h2
abbrev VP:=Ev->Option (Option Int×Ev)
def TPO(K:A8)(ml:List Nat)(pu:Bool)(f:VP):TO:=fun σ H Q=> ∃B O δ k δ',Sta K ml B O H σ δ/\f δ=some (k,δ')/\ ∀H',ResB K ml B O H σ pu H' δ'->Q k H'
noncomputable def pNo:VP:=fun δ=>some (none,δ)
noncomputable def pSo(f:VF):VP:=fun δ=>(f δ).bind fun p=>match p.1 with
 | .int i=>some (some i,p.2)
 |_=>none
theorem PO.imp{e:Option Expr}{t u:TO}(h:PO X e t)(k: ∀σ H Q,u σ H Q->t σ H Q):PO X e u:=fun a6 s σ H Q I w=>h a6 s σ H Q I (k σ H Q w)
theorem zJ7:PO X none (TPO K ml true pNo):=zWN.imp fun σ H Q q0=>by
 obtain⟨B,O,δ,d,δ',S,q,k⟩:=q0
 cases q
 exact k H (ResB.refl S)
theorem zJ6(h:PE X a (TV K ml pa ta ia fa)):PO X (some a) (TPO K ml pa (pSo fa)):=(zWM h).imp fun σ H Q q0=>by
 obtain⟨B,O,δ,d,δ',S,q,k⟩:=q0
 unfold pSo at q
 cases h1:fa δ with
 | none => rw [h1] at q;cases q
 |some p=>
  obtain⟨x,δ1⟩:=p
  rw[h1] at q
  refine⟨B,O,δ,x,δ1,S,h1,fun v1 H1 R1=> ?_⟩
  cases x with
  |int i=>
   have e1:v1= .int i:=by cases R1.rep;rfl
   cases q
   exact⟨i,e1,k H1 ⟨R1.sta,R1.frm,R1.pur⟩⟩
  |_=>cases q
noncomputable def cutD(ds:List Dat)(lo hi:Option Int):List Dat:=(ds.drop (HT.sIx ds.length 0 lo)).take (HT.sIx ds.length ds.length hi - HT.sIx ds.length 0 lo)
theorem zIR{N:Addr->Prop}{xs:List V}{ds:List Dat}(r:RepA K N H xs ds)(lo hi:Option Int):RepA K N H (cutV xs lo hi) (cutD ds lo hi):=by
 unfold cutV cutD
 rw[r.length]
 exact(r.drop _).take _
noncomputable def oSl(d:Dat)(lo hi:Option Int):Option Dat:=match d with
 | .lst ds=>some (.lst (cutD ds lo hi))
 | .tup ds=>some (.tup (cutD ds lo hi))
 |_=>none
noncomputable def fSl(fa:VF)(fl fh:VP):VF:=fun δ=>(fa δ).bind fun p=>(fl p.2).bind fun l=>(fh l.2).bind fun u=>(oSl p.1 l.1 u.1).map fun c=>(c,u.2)
theorem zP0{prog:Aj}{w:World}{A:B8}{E:Value->A2->Prop}{s:A2}{t sl:Addr}{items:Array Value}{vl vu:Value}{lo hi:Option Int}{Q:Value->A2->Prop}(ht:IsTup s.heap t items)(hs:s.heap.IsSliceOf sl vl vu .none)(pl:IsPart vl lo)
  (pu:IsPart vu hi) (h1:HT.sIx items.size 0 lo=0) (h2:HT.sIx items.size items.size hi=items.size) (h:Q (.ref t) s):wpAny (model prog w) A (Hd (.ref t) (.ref sl)) Q E s:=by
 obtain⟨os,hos,hcs,hds⟩:=id hs
 have hT:s.TypeIs (.ref sl) "slice":=⟨os,hos,hcs⟩
 unfold Hd
 try with_reducible refine B7 ?_
 first|refine A0 (A9 ?_)|skip
 refine A0 (Gy ht.typeIs (by decide) ?_)
 refine A0 (C9 (name:=As "__getitem__") ht.typeIs Ct
  (Cr Ct ht.typeIs PyProof.Rows.entry_tuple_getitem ?_ (PyProof.Rows.args_tuple_getitem _ _)))
 show wpAny _ _ (Gh (.ref t)>>=_) _ _ s
 refine A0 (PyProof.Rows.tupleItemsOf_ ht ?_)
 refine A0 (Gp hT ?_)
 rw[if_pos (by decide)]
 refine A0 (HT.zDO hs pl pu ?_)
 rw[h1,h2]
 show wpAny _ _ (if((((0:Nat):Int)==0 && (1:Int)==1 && (items.size - 0)==items.size)=true) then _ else _) _ _ s
 rw[if_pos (by simp)]
 refine A0 (m:=Lv _) (A0 (Gp ht.typeIs (A9 ?_)))
 rw[if_pos (by decide)]
 exact A0 (F4 (A9 ⟨_,rfl,A9 h⟩))
def rSlW(K:A8):V->Option Int->Option Int->Hp->VK->Prop:=fun x lo hi H Q=> ∃a xs,x= .ref a/\SqT K H a xs/\(HT.sIx xs.length 0 lo=0/\HT.sIx xs.length xs.length hi=xs.length)/\Q (.ref a) H
theorem zW6:SlR X (rSlW X.K):=by
 intro a6 s σ H x v vl vu lo hi sl Q I rx hs pl pu h
 obtain⟨a,xs,rfl,hx,hw,q⟩:=h
 cases rx
 obtain⟨its,r,ht,hz⟩:=I.tuple hx
 have aa:its.toArray.size=xs.length:=by rw[Ad];exact r.length.symm
 refine⟨"tuple",_,PyProof.Rows.slot_tuple_getitem.lookup,ht.typeIs,?_⟩
 exact zP0 ht hs pl pu (by rw[aa];exact hw.1) (by rw[aa];exact hw.2) ⟨.ref a,H,I,rfl,q⟩
def rSl(K:A8):V->Option Int->Option Int->Hp->VK->Prop:=fun x lo hi H Q=>(rSlT K x lo hi H Q∨rSlL K x lo hi H Q)∨rSlW K x lo hi H Q
theorem kSl(h:X.K=K):SlR X (rSl K):=by subst h;exact(zYY.or zW7).or zW6
theorem zXY{fl fh:VP}(h:fSl fa fl fh δ=some (d,δ')): ∃x δ1 l δ2 u,fa δ=some (x,δ1)/\fl δ1=some (l,δ2)/\fh δ2=some (u,δ')/\oSl x l u=some d:=by
 unfold fSl at h
 cases h1:fa δ with
 | none => rw [h1] at h;cases h
 |some p=>
  rw[h1] at h
  cases h2:fl p.2 with
  | none => simp [h2] at h
  |some q=>
   simp only[A7,h2] at h
   cases h3:fh q.2 with
   | none => simp [h3] at h
   |some s=>
    simp only[A7,h3] at h
    cases h4:oSl p.1 q.1 s.1 with
    |none=>rw[h4] at h;cases h
    |some c=>
     rw[h4] at h
     cases h
     exact⟨p.1,p.2,q.1,q.2,s.1,rfl,h2,h3,h4⟩
theorem zJ8{lo hi:Option Expr}{p2:Pos}{fl fh:VP}(hK:X.K=K)(ha:PE X a (TV K ml pa ta ia fa))(hl:PO X lo (TPO K ml pb fl))(hh:PO X hi (TPO K ml pc fh))(hs:(pb && pc || (ta && ia))=true:=by rfl):
  PE X (.Subscript a (.Slice lo hi none p2) pos) (TV K ml (pa && pb && pc) true ia (fSl fa fl fh)) := (zT7 (kSl hK) ha hl hh).imp fun σ H Q ⟨B,O,δ,d,δ3,S,q,k⟩ => by
 obtain⟨x,δ1,l,δ2,u,h1,h2,h3,h4⟩:=zXY q
 refine⟨B,O,δ,x,δ1,S,h1,fun v1 H1 R1=>⟨B,O,δ1,l,δ2,R1.sta,h2,fun H2 R2=>⟨B,O,δ2,u,δ3,R2.sta,h3,fun H3 R3=> ?_⟩⟩⟩
 have hx:Rep K (av B O ia) H3 (at_ B O ta) v1 x:=by
  rcases(Ew _ _).mp hs with z|z
  ·obtain⟨z1,z2⟩:=(A3 _ _).mp z
   exact(R1.rep.same (R2.pur z1)).same (R3.pur z2)
  ·obtain⟨z1,z2⟩:=(A3 _ _).mp z
   subst z1 z2
   exact(R1.rep.fr R2.frm (fun a z=> .inr z) fun a z=> .inr z).fr R3.frm (fun a z=> .inr z) fun a z=> .inr z
 have gb:(pa && pb && pc)=true->Same H H3:=fun z=>by
  simp only[A3] at z
  exact((R1.pur z.1.1).trans (R2.pur z.1.2)).trans (R3.pur z.2)
 have hfr:=(R1.frm.trans R2.frm).trans R3.frm
 cases x with
 |lst ds=>
  cases h4
  obtain⟨a,xs,rfl,sq,r⟩:=hx.seq rfl
  rcases sq with sq|sq
  ·exact .inl (.inr ⟨a,xs,rfl,sq,fun p hp => k _ _ ⟨R3.sta.same (zA5 hp),hfr.trans (zA5 hp).fr,fun z => (gb z).trans (zA5 hp),.lst zAG (R3.sta.new hp) ((zIR r l u).same (zA5 hp))⟩⟩)
  ·cases hx with
   | lst q n r' => exact .inl (.inr ⟨a,_,rfl,SqL.of q,fun p hp => k _ _ ⟨R3.sta.same (zA5 hp),hfr.trans (zA5 hp).fr,fun z => (gb z).trans (zA5 hp),.lst zAG (R3.sta.new hp) ((zIR r' l u).same (zA5 hp))⟩⟩)
   | fzl q r' => exact .inl (.inr ⟨a,_,rfl,q.sq,fun p hp => k _ _ ⟨R3.sta.same (zA5 hp),hfr.trans (zA5 hp).fr,fun z => (gb z).trans (zA5 hp),.lst zAG (R3.sta.new hp) ((zIR r' l u).same (zA5 hp))⟩⟩)
 |tup ds=>
  cases h4
  cases hx with
  |tup q r'=>
   by_cases hw:HT.sIx ds.length 0 l=0/\HT.sIx ds.length ds.length u=ds.length
   ·refine .inr ⟨_,_,rfl,q,by rw [r'.length];exact hw,k _ _ ⟨R3.sta,hfr,gb,?_⟩⟩
    have e:cutD ds l u=ds:=by
     unfold cutD
     rw[hw.1,hw.2]
     simp
    rw[e]
    exact .tup q r'
   ·exact .inl (.inl ⟨_,_,rfl,q,by rw[r'.length];exact hw,fun p hp=>k _ _ ⟨R3.sta.same (zA5 hp),hfr.trans (zA5 hp).fr,fun z=>(gb z).trans (zA5 hp),.tup (SqT.of zAG) ((zIR r' l u).same (zA5 hp))⟩⟩)
 |_=>cases h4
end
inductive Ou where
 |nx (δ:Ev)|rt (d:Dat) (δ:Ev)|bk (δ:Ev)|ct (δ:Ev)
abbrev VS:=Ev->Option Ou
def Post(K:A8)(ml:List Nat)(B:Bs)(D:Ends):Ou->Prop
 | .nx δ'=> ∀σ' H' O',Sta K ml B O' H' σ' δ'->D.nx σ' H'
 | .rt d δ'=> ∀v σ' H' O',Sta K ml B O' H' σ' δ'->Rep K (rz B) H' (rz B) v d->D.rt v H'
 | .bk δ'=> ∀σ' H' O',Sta K ml B O' H' σ' δ'->D.bk σ' H'
 | .ct δ'=> ∀σ' H' O',Sta K ml B O' H' σ' δ'->D.ct σ' H'
def TSt(K:A8)(ml:List Nat)(g:VS):TS:=fun D σ H=> ∃B O δ o,Sta K ml B O H σ δ/\g δ=some o/\Post K ml B D o
section
variable{X:Cx}{K:A8}{ml:List Nat}{e a b c:Expr}{es:List Expr}{pa ta ia pb tb ib pc tc ic pu bt bi ps bs:Bool}{fa fb fc f:VF}{B B':Bs}{O:Nat->Option Addr}{H H1 H':Hp}{σ:St}{δ δ':Ev}{v:V}{d:Dat}{p:Addr}{pos:Pos}{st:Stmt}{rest:List Stmt}{g g':VS}
noncomputable def sNil:VS:=fun δ=>some (.nx δ)
noncomputable def sSeq(g g':VS):VS:=fun δ=>(g δ).bind fun o=>match o with
 | .nx δ'=>g' δ'
 |o=>some o
theorem zAH:PSs X [] (TSt K ml sNil):=zPW.imp fun D σ H q0=>by
 obtain⟨B,O,δ,o,S,q,k⟩:=q0
 cases q
 exact k σ H O S
theorem zA2(h1:PS X st (TSt K ml g))(h2:PSs X rest (TSt K ml g')):PSs X (st::rest) (TSt K ml (sSeq g g')):=(zGH h1 h2).imp fun D σ H q0=>by
 obtain⟨B,O,δ,o,S,q,k⟩:=q0
 unfold sSeq at q
 cases h1:g δ with
 |none=>rw[h1] at q;cases q
 |some z=>
  rw[h1] at q
  refine⟨B,O,δ,z,S,h1,?_⟩
  cases z with
  |nx δ1=>exact fun σ' H' O' S'=>⟨B,O',δ1,o,S',q,k⟩
  |rt d δ1=>cases q;exact k
  |bk δ1=>cases q;exact k
  |ct δ1=>cases q;exact k
theorem zA6(h1:PS X st (TSt K ml g)):PSs X [st] (TSt K ml g):=(zGH h1 zPW).imp fun D σ H ⟨B,O,δ,o,S,q,k⟩=>⟨B,O,δ,o,S,q,by cases o<;>exact k⟩
noncomputable def sRet(f:VF):VS:=fun δ=>(f δ).map fun p=> .rt p.1 p.2
theorem zAC(h:PE X e (TV K ml pu bt bi f))(ht:bt=true:=by rfl):PS X (.Return (some e) pos) (TSt K ml (sRet f)):=(zPY h).imp fun D σ H q0=>by
 obtain⟨B,O,δ,o,S,q,k⟩:=q0
 unfold sRet at q
 cases h1:f δ with
 |none=>rw[h1] at q;cases q
 |some p=>
  rw[h1] at q
  cases q
  subst ht
  exact⟨B,O,δ,p.1,p.2,S,h1,fun v H' R=>k v σ H' O R.sta (R.rep.mono R.sta.rza R.sta.rzn)⟩
theorem zVU{i:Nat}(h:PE X e (tVar i))(hm:i∉ml:=by decide):PS X (.Return (some e) pos) (TSt K ml (sRet (fO i))):=(zPY h).imp fun D σ H q0=>by
 obtain⟨B,O,δ,o,S,q,k⟩:=q0
 unfold sRet at q
 cases h1:fO i δ with
 |none=>rw[h1] at q;cases q
 |some p=>
  obtain⟨x,δ1⟩:=p
  rw[h1] at q
  cases q
  obtain⟨rfl,v,e1,r⟩:=S.lone hm h1
  exact⟨v,e1,k v σ H O S (r.mono S.rza S.rza)⟩
noncomputable def zPC(f:VF):VS:=fun δ=>(f δ).map fun p=> .nx p.2
theorem zOK(h:PE X e (TV K ml pu bt bi f))(hs:Ec e none pos.line X.env=pure false:=by rfl):PS X (.Expr e pos) (TSt K ml (zPC f)):=(zLF h hs).imp fun D σ H q0=>by
 obtain⟨B,O,δ,o,S,q,k⟩:=q0
 unfold zPC at q
 cases h1:f δ with
 |none=>rw[h1] at q;cases q
 |some p=>
  rw[h1] at q
  cases q
  exact⟨B,O,δ,p.1,p.2,S,h1,fun v H' R=>k σ H' O R.sta⟩
noncomputable def sIf(t:VB)(g g':VS):VS:=fun δ=>(t δ).bind fun p=>if p.1=true then g p.2 else g' p.2
theorem zB7{x y:List Stmt}{t:VB}(ht:PT X c (TB K ml pc t))(ha:PSs X x (TSt K ml g))(hb:PSs X y (TSt K ml g')):PS X (.If c x y pos) (TSt K ml (sIf t g g')):=(yA5 ht ha hb).imp fun D σ H q0=>by
 obtain⟨B,O,δ,o,S,q,k⟩:=q0
 unfold sIf at q
 cases h1:t δ with
 |none=>rw[h1] at q;cases q
 |some p=>
  obtain⟨kk,δ1⟩:=p
  rw[h1] at q
  refine⟨B,O,δ,kk,δ1,S,h1,fun H1 R1=> ?_⟩
  cases kk with
  |true=>exact iteT ⟨B,O,δ1,o,R1.sta,q,k⟩
  |false=>exact iteF ⟨B,O,δ1,o,R1.sta,q,k⟩
abbrev VX:=Ev->Option (Sl×Ev)
inductive St1(K:A8)(B:Bs)(O:Nat->Option Addr)(H:Hp):Bs->V->Sl->Prop
 |va {v:V} {d:Dat}:St1 K B O H {B with kp:=[(v,d)]++B.kp} v (.va d)
 |ol {p:Addr} {xs:List V} {ds:List Dat}:H p=some (.lst xs)->xs.length=ds.length-> ¬Nn B O p->B.H0 p=none->St1 K B O H {B.add p with kp:=xs.zip ds++B.kp} (.ref p) (.ow (.lst ds))
 |od {p:Addr} {kvs:List (Key×V)} {ds:List Dat}:H p=some (.dK kvs)->kvs.length=ds.length-> ¬Nn B O p->B.H0 p=none->St1 K B O H {B.add p with kp:=(kvs.map Cy).zip ds++B.kp} (.ref p) (.ow (.dct (kvs.map Ca) ds))
theorem St1.fr{s:Sl}(h:St1 K B O H B' v s)(f:Fr (OA O) H H'):St1 K B O H' B' v s:=by
 cases h with
 |va=>exact .va
 |ol q l n z=>exact .ol (f _ _ q fun w=>absurd (.inr w) n) l n z
 |od q l n z=>exact .od (f _ _ q fun w=>absurd (.inr w) n) l n z
def TX(K:A8)(ml:List Nat)(f:VX):TE:=fun σ H Q=> ∃B O δ s δ',Sta K ml B O H σ δ/\f δ=some (s,δ')/\ ∀v H' B',Sta K ml B' O H' σ δ'->St1 K B O H' B' v s->Fr (OA O) H H'->Q v H'
noncomputable def xV(f:VF):VX:=fun δ=>(f δ).map fun p=>(.va p.1,p.2)
noncomputable def xO(f:VF):VX:=fun δ=>(f δ).map fun p=>(.ow p.1,p.2)
theorem zC4(h:PE X e (TV K ml pu true true f)):PE X e (TX K ml (xV f)):=h.imp fun σ H Q q0=>by
 obtain⟨B,O,δ,o,δ',S,q,k⟩:=q0
 unfold xV at q
 cases h1:f δ with
 | none => rw [h1] at q;cases q
 |some p=>
  rw[h1] at q
  cases q
  exact⟨B,O,δ,p.1,p.2,S,h1,fun v H' R=>k v H' _ (R.sta.keepV (ps:=[(v,p.1)]) fun z hz=>by
   rw[Ah.mp hz]
   exact R.rep) .va R.frm⟩
theorem zFC{N:Addr->Prop}: ∀{xs:List V} {ds:List Dat},RepA K N H xs ds-> ∀z∈xs.zip ds,Rep K N H N z.1 z.2
 |_,_,.nil,z,hz=>nomatch hz
 |_,_,.cons h t,z,hz=>by
  rcases Ac.mp hz with e|e
  ·rw[e];exact h
  ·exact zFC t z e
theorem zFH{N:Addr->Prop}: ∀{xs:List V} {ds:List Dat},xs.length=ds.length->(∀z∈xs.zip ds,Rep K N H N z.1 z.2)->RepA K N H xs ds
 |[],[],_,_=> .nil
 |x::xs,d::ds,hl,h=> .cons (h (x,d) (Ak ..)) (zFH (by simpa using hl) fun z hz=>h z (Ag _ hz))
theorem zFE(h:PE X e (TN K ml pu f)):PE X e (TX K ml (xO f)):=h.imp fun σ H Q q0=>by
 obtain⟨B,O,δ,o,δ',S,q,k⟩:=q0
 unfold xO at q
 cases h1:f δ with
 |none=>rw[h1] at q;cases q
 |some p=>
  obtain⟨d,δ1⟩:=p
  rw[h1] at q
  cases q
  refine⟨B,O,δ,d,δ1,S,h1,fun p H' R=> ?_⟩
  have w:=R.own
  cases w with
  |lst q r=>exact k _ H' _ (R.sta.keepV (zFC r)) (.ol q r.length R.nz R.h0) R.frm
  |dct q r=>exact k _ H' _ (R.sta.keepV (zFC r)) (.od q (by simpa using r.length) R.nz R.h0) R.frm
theorem St1.bind{O':Nat->Option Addr}{s:Sl}{i:Nat}(h:St1 K B O H' B' v s)(S:Sta K ml B' O' H' σ δ)(hm:i∉ml)(hl:i<δ.length): ∃O'',Sta K ml B O'' H' (σ.set i (some v)) (δ.set i s):=by
 cases h with
 |va=>
  refine⟨_,Sta.unkeep (ps:=_) (S.setVa hm (S.kep _ (Az _ (Ah.mpr rfl))))⟩
 |ol q l n z=>
  refine⟨_,Sta.setOw (Sta.unkeep (B:=B.add _) S) hm hl (fun w=>n (.inl w)) z (.lst q (zFH l fun z hz=>S.kep z (Az _ hz)))⟩
 |od q l n z=>
  refine⟨_,Sta.setOw (Sta.unkeep (B:=B.add _) S) hm hl (fun w=>n (.inl w)) z (.dct q (zFH (by simpa using l) fun z hz=>S.kep z (Az _ hz)))⟩
noncomputable def sSet(i:Nat)(x:VX):VS:=fun δ=>(x δ).bind fun p=>if i<p.2.length then some (.nx (p.2.set i p.1)) else none
theorem zAZ{i:Nat}{y:Str}{x:VX}{ap:Pos}(hN:X.N.Nodup)(he:PE X e (TX K ml x))(hi:X.N[i]? =some y:=by rfl)(hx:Loc X.env.scope y:=by first|exact .inl rfl|exact .inr rfl)(hm:i∉ml:=by decide)(hs:Ec e (some (.Name y ap)) pos.line X.env=pure false:=by rfl)
  (hf : X.fn y = true ∨ X.env.scope.names.lookup y = some .local := by first | exact .inl rfl | exact .inr rfl | assumption) : PS X (.Assign [.Name y ap] e pos) (TSt K ml (sSet i x)) := (yA3 hN hi hx he hs hf).imp fun D σ H ⟨B,O,δ,o,S,q,k⟩ => by
 unfold sSet at q
 cases h1:x δ with
 | none => rw [h1] at q;cases q
 |some p=>
  obtain⟨s,δ1⟩:=p
  rw[h1] at q
  have q:(if i<δ1.length then some (Ou.nx (δ1.set i s)) else none)=some o:=q
  split at q
  ·rename_i hl
   cases q
   refine⟨B,O,δ,s,δ1,S,h1,fun v H' B' S' h' f'=> ?_⟩
   obtain⟨O'',S''⟩:=h'.bind S' hm hl
   exact k _ _ _ S''
  ·cases q
noncomputable def zSY(i j:Nat)(x y:VX):VS:=fun δ=>(x δ).bind fun p=>(y p.2).bind fun q=>if i<q.2.length/\j<q.2.length then some (.nx ((q.2.set j q.1).set i p.1)) else none
theorem zVW{i j:Nat}{y z:Str}{fx fy:VX}{px py pt:Pos}{kt k2 pt2}(hc:X.calm=true)(hN:X.N.Nodup)(hi:X.N[i]? =some y)(hj:X.N[j]? =some z)(hij:i≠j)
  (hx:X.env.scope.names.lookup y=some .local) (hy:X.env.scope.names.lookup z=some .local) (ha:PE X a (TX K ml fx)) (hb:PE X b (TX K ml fy))
  (hw : Dg [.Tuple [.Name y px,.Name z py] kt pt] (.Tuple [a,b] k2 pt2) X.env = pure (some [y,z])) (hmi : i ∉ ml := by decide) (hmj : j ∉ ml := by decide)
  (hs : Df [.Tuple [.Name y px,.Name z py] kt pt] (.Tuple [a,b] k2 pt2) pos.line X.env = pure false := by rfl)
  (he : starEach (a :: [b]) X.env = (false,eval a X.env) :: starEach [b] X.env := by rfl) (he2 : starEach (b :: []) X.env = (false,eval b X.env) :: starEach [] X.env := by rfl) :
  PS X (.Assign [.Tuple [.Name y px,.Name z py] kt pt] (.Tuple [a,b] k2 pt2) pos) (TSt K ml (zSY i j fx fy)):=(yA4 hc hN hi hj hij hx hy (zAQ ha (zAQ hb zBT he2) he) hw hs).imp fun D σ H ⟨B,O,δ,o,S,q,k⟩=>by
 unfold zSY at q
 cases h1:fx δ with
 | none => rw [h1] at q;cases q
 |some p=>
  obtain⟨s,δ1⟩:=p
  rw[h1] at q
  cases h2:fy δ1 with
  | none => simp [h2] at q
  |some p2=>
   obtain⟨s2,δ2⟩:=p2
   simp only[A7,h2] at q
   split at q
   ·rename_i hl
    cases q
    refine⟨B,O,δ,s,δ1,S,h1,fun v H1 B1 S1 w1 f1=>⟨B1,O,δ1,s2,δ2,S1,h2,fun v2 H2 B2 S2 w2 f2=>⟨v,v2,rfl,?_⟩⟩⟩
    obtain⟨O3,S3⟩:=w2.bind S2 hmj hl.2
    obtain⟨O4,S4⟩:=(w1.fr f2).bind S3 hmi (by rw[B9];exact hl.1)
    rw[Cw _ _ (Cc hij)] at S4
    exact k _ _ _ S4
   ·cases q
abbrev VG:=Dat->Ev->Option Ev
def TGV(K:A8)(ml:List Nat)(h:VG):TG:=fun v σ H Q=> ∃B O δ d δ',Sta K ml B O H σ δ/\Rep K (Nn B O) H (Nn B O) v d/\h d δ=some δ'/\ ∀σ' O',Sta K ml B O' H σ' δ'->(∀i∈ml,σ'[i]? =σ[i]?)->Q σ' H
theorem PG.imp{t u:TG}(h:PG X e t)(k: ∀v σ H Q,u v σ H Q->t v σ H Q):PG X e u:=fun a6 s σ H v w Q I r z=>h a6 s σ H v w Q I r (k v σ H Q z)
theorem PGs.imp{t u:TGs}(h:PGs X es t)(k: ∀v σ H Q,u v σ H Q->t v σ H Q):PGs X es u:=fun a6 s σ H v w Q I r z=>h a6 s σ H v w Q I r (k v σ H Q z)
theorem PG.or{t u:TG}(h:PG X e t)(h':PG X e u):PG X e (fun v σ H Q=>t v σ H Q∨u v σ H Q):=fun a6 s σ H v w Q I r z=>by
 rcases z with z|z
 ·exact h a6 s σ H v w Q I r z
 ·exact h' a6 s σ H v w Q I r z
noncomputable def gN(i:Nat):VG:=fun d δ=>some (δ.set i (.va d))
theorem zAN{i:Nat}{x:Str}(hN:X.N.Nodup)(hi:X.N[i]? =some x:=by rfl)(hx:Loc X.env.scope x:=by first|exact .inl rfl|exact .inr rfl)(hm:i∉ml:=by decide)(hf:X.fn x=true∨X.env.scope.names.lookup x=some .local:=by first|exact .inl rfl|exact .inr rfl|assumption):PG X (.Name x pos) (TGV K ml (gN i)):=
 (zID hN hi hx hf).imp fun v σ H Q q0 => by
  obtain⟨B,O,δ,d,δ',S,r,q,k⟩:=q0
  cases q
  exact k _ _ (S.setVa hm r) fun j hj=>B0 fun(z:i=j)=>hm (z▸hj)
abbrev VGs:=List Dat->Ev->Option Ev
def TGVs(K:A8)(ml:List Nat)(h:VGs):TGs:=fun vs σ H Q=> ∃B O δ ds δ',Sta K ml B O H σ δ/\RepA K (Nn B O) H vs ds/\h ds δ=some δ'/\ ∀σ' O',Sta K ml B O' H σ' δ'->(∀i∈ml,σ'[i]? =σ[i]?)->Q σ' H
noncomputable def zDV:VGs:=fun ds δ=>match ds with
 |[]=>some δ
 |_=>none
noncomputable def zB2(g:VG)(gs:VGs):VGs:=fun ds δ=>match ds with
 |d::r=>(g d δ).bind fun δ1=>gs r δ1
 |[]=>none
theorem zCH:PGs X [] (TGVs K ml zDV):=zQ6.imp fun vs σ H Q q0=>by
 obtain⟨B,O,δ,ds,δ',S,r,q,k⟩:=q0
 cases r with
 |nil=>cases q;exact⟨rfl,k _ _ S fun _ _=>rfl⟩
 |cons _ _=>cases q
theorem zAW{g:VG}{gs:VGs}(h1:PG X e (TGV K ml g))(h2:PGs X es (TGVs K ml gs))(hs:(assignEach (e::es) X.env).map (·.2)=assign e X.env::(assignEach es X.env).map (·.2):=by rfl):PGs X (e::es) (TGVs K ml (zB2 g gs)):=
 (zGI h1 h2 hs).imp fun vs σ H Q q0 => by
  obtain⟨B,O,δ,ds,δ',S,r,q,k⟩:=q0
  cases r with
  | nil => cases q
  | @cons v vs d ds h t=>
   have q:((g d δ).bind fun δ1=>gs ds δ1)=some δ':=q
   cases h1:g d δ with
   |none=>rw[h1] at q;cases q
   |some δ1=>
    rw[h1] at q
    have S0:=S.keepV (zFC t)
    exact⟨v,vs,rfl,_,O,δ,d,δ1,S0,h,h1,fun σ1 O1 S1 m1=>⟨B,O1,δ1,ds,δ',S1.unkeep,zFH t.length fun z hz=>S1.kep z (Az _ hz),q,fun σ2 O2 S2 m2=>k σ2 O2 S2 fun i hi=>(m2 i hi).trans (m1 i hi)⟩⟩
noncomputable def gTp(n:Nat)(gs:VGs):VG:=fun d δ=>(seqD d).bind fun ds=>if ds.length=n then gs ds δ else none
theorem zDM{gs:VGs}{k n:Nat}(hK:X.K=K)(hc:X.calm=true)(h:PGs X es (TGVs K ml gs))(hn:(assignEach es X.env).length=n:=by rfl)(hst:(assignEach es X.env).findIdx? (·.1)=none:=by rfl):PG X (.Tuple es k pos) (TGV K ml (gTp n gs)):=
 ((yBV (K := K) hK hc h hn hst).or (yFB (K := K) hK hc h hn hst)).imp fun v σ H Q q0 => by
  obtain⟨B,O,δ,d,δ',S,r,q,k⟩:=q0
  unfold gTp at q
  cases h1:seqD d with
  | none => rw [h1] at q;cases q
  |some ds=>
   rw[h1] at q
   have q:(if ds.length=n then gs ds δ else none)=some δ':=q
   split at q
   ·rename_i hl
    obtain⟨a,xs,rfl,sq,ra⟩:=r.seq h1
    have fin:TGVs K ml gs xs σ H Q:=⟨B,O,δ,ds,δ',S,ra,q,k⟩
    rcases sq with sq|sq
    ·exact .inr ⟨a,xs,rfl,sq,ra.length.trans hl,fin⟩
    ·exact .inl ⟨a,xs,rfl,sq,ra.length.trans hl,fin⟩
   ·cases q
noncomputable def sAsg(f:VF)(g:VG):VS:=fun δ=>(f δ).bind fun p=>(g p.1 p.2).map Ou.nx
theorem zJ5{tg:Expr}{gg:VG}(he:PE X e (TV K ml pu true true f))(hg:PG X tg (TGV K ml gg))(hs:Df [tg] e pos.line X.env=pure false:=by rfl)(hw:Dg [tg] e X.env=pure none:=by rfl)
  (h1 : (assignEach [tg] X.env).map (·.2) = [assign tg X.env] := by rfl) : PS X (.Assign [tg] e pos) (TSt K ml (sAsg f gg)) := (zMN he hg hs hw h1).imp fun D σ H ⟨B,O,δ,o,S,q,k⟩ => by
 unfold sAsg at q
 cases h1:f δ with
 | none => rw [h1] at q;cases q
 |some p=>
  obtain⟨d,δ1⟩:=p
  rw[h1] at q
  have q:(gg d δ1).map Ou.nx=some o:=q
  cases h2:gg d δ1 with
  |none=>rw[h2] at q;cases q
  |some δ2=>
   rw[h2] at q
   cases q
   exact⟨B,O,δ,d,δ1,S,h1,fun v H' R=>⟨B,O,δ1,d,δ2,R.sta,R.rep,h2,fun σ' O' S' _=>k σ' H' O' S'⟩⟩
def MuV(K:A8)(r:V->List V->Hp->VK->Prop)(m:List Dat->List Dat->Option (List Dat)):Prop:= ∀(H:Hp) (N:Addr->Prop) (l:Addr) (xs vs:List V) (ds es ds':List Dat) (Q:VK),
 H l=some (.lst xs)->N l->RepA K N H xs ds->RepA K N H vs es->m ds es=some ds'->(∀v xs',RepA K N H xs' ds'->Q v (upd H l (.lst xs')))->r (.ref l) vs H Q
noncomputable def ownL(δ:Ev)(i:Nat):Option (List Dat):=match δ[i]? with
 |some (.ow (.lst ds))=>some ds
 |_=>none
noncomputable def sMut(i:Nat)(m:List Dat->List Dat->Option (List Dat))(fs:VFs):VS:=fun δ=>(ownL δ i).bind fun _=>(fs δ).bind fun p=>(ownL p.2 i).bind fun ds=>(m ds p.1).map fun ds'=> .nx (p.2.set i (.ow (.lst ds')))
theorem zEY{i:Nat}{ds:List Dat}(h:ownL δ i=some ds):δ[i]? =some (.ow (.lst ds)):=by
 unfold ownL at h
 split at h
 ·cases h;assumption
 ·cases h
theorem zGV{N:Addr->Prop}{l:Addr}{o:HO}{xs:List V}{ds ys:List Dat}{zs:List V}(ho:H l=some (.lst zs))(hN:N l)(h:RepA K N H xs ds):RepA K N (upd H l o) xs ds:=
 h.fr (P:=fun b=>b=l) (fun b u q n=>by
  by_cases hb:b=l
  ·subst hb
   rw[ho] at q
   cases q
   exact absurd (n rfl) fun z=>z
  ·rw[zAU hb]
   exact q) fun a z=>z▸hN
theorem zCF{i:Nat}{x:Str}{name:Str}{ai a8 fu:Pos}{id:String}{r:V->List V->Hp->VK->Prop}{m:List Dat->List Dat->Option (List Dat)}{fs:VFs}(hK:X.K=K)(slot:Slot "list" name id) (hty:Kf (.builtin id)=pure (.type "method_descriptor")) (hm:MtR X id r) (hmu:MuV K r m)
  (ho:PE X (.Name x fu) (tVar i)) (ha:PA X (e::es) (TAV K ml pu true fs))
  (bo : Ea (.Name x fu) name X.env (eval (.Name x fu) X.env) = eval (.Name x fu) X.env := by rfl)
  (cy : ((Cg a8 (starEach (e :: es) X.env)).all (fun x => !x.1) && (Fs a8 (Dy [] X.env)).all (fun x => x.1.isSome)
   && decide ((e :: es).length + ([] : List F8).length + (if ([] : List F8).isEmpty then 0 else 1) < 30)) = true := by rfl)
  (bh : (ai.endLine == a8.line) = true := by rfl) (hs : starEach (e :: es) X.env = (false,eval e X.env) :: starEach es X.env := by rfl) (aq : (Cg a8 (starEach es X.env)).any (·.1) = false := by rfl)
  (hsw : Ec (.Call (.Attribute (.Name x fu) name ai) (e :: es) [] a8) none pos.line X.env = pure false := by rfl) :
  PS X (.Expr (.Call (.Attribute (.Name x fu) name ai) (e::es) [] a8) pos) (TSt K ml (sMut i m fs)):=
 (zLF (kBm (K := K) hK Ex slot hty hm ho ha bo cy bh hs aq) hsw).imp fun D σ H q0 => by
  obtain⟨B,O,δ,o,S,q,k⟩:=q0
  unfold sMut at q
  cases h0:ownL δ i with
  | none => rw [h0] at q;cases q
  |some ds0=>
   rw[h0] at q
   have q : ((fs δ).bind fun p => (ownL p.2 i).bind fun ds => (m ds p.1).map fun ds' => Ou.nx (p.2.set i (.ow (.lst ds')))) = some o := q
   cases h1:fs δ with
   | none => rw [h1] at q;cases q
   |some p=>
    obtain⟨es',δ1⟩:=p
    rw[h1] at q
    have q:((ownL δ1 i).bind fun ds=>(m ds es').map fun ds'=>Ou.nx (δ1.set i (.ow (.lst ds'))))=some o:=q
    cases h2:ownL δ1 i with
    | none => rw [h2] at q;cases q
    |some ds=>
     rw[h2] at q
     have q:((m ds es').map fun ds'=>Ou.nx (δ1.set i (.ow (.lst ds'))))=some o:=q
     cases h3:m ds es' with
     | none => rw [h3] at q;cases q
     |some ds'=>
      rw[h3] at q
      cases q
      obtain⟨l,e1,e2,w⟩:=S.ow i _ (zEY h0)
      cases w with
      |lst hl0 _=>
       refine⟨.ref l,e2,.inl ⟨rfl,_,SqL.of hl0⟩,B,O,δ,es',δ1,S,h1,fun vs H1 R=> ?_⟩
       obtain⟨l',e3,_,w1⟩:=R.sta.ow i _ (zEY h2)
       rw[e1] at e3
       cases e3
       cases w1 with
       |lst hl1 r1=>
        refine hmu H1 (Nn B O) l _ vs ds es' ds' _ hl1 (.inr ⟨i,e1⟩) r1 R.rep h3 fun v xs' r2=> ?_
        exact k σ _ O (R.sta.wrote e1 (fun z=>z) (.lst zAG (zGV (ys:=[]) hl1 (.inr ⟨i,e1⟩) r2)))
noncomputable def mApp:List Dat->List Dat->Option (List Dat)
 |ds,[d]=>if ds.length<16777216 then some (ds++[d]) else none
 |_,_=>none
theorem zD9:MuV K zPS mApp:=by
 intro H N l xs vs ds es ds' Q hl hN rx re h k
 cases re with
 | nil => cases h
 | @cons v vs d es hd t=>
  cases t with
  | cons _ _ => cases h
  |nil=>
   simp only[mApp] at h
   split at h
   ·rename_i hz
    cases h
    exact⟨l,xs,v,rfl,rfl,hl,by rw[rx.length,Bb];exact hz,k _ _ (rx.snoc hd)⟩
   ·cases h
end
section
variable{X:Cx}{K:A8}{ml:List Nat}{e a b c:Expr}{es:List Expr}{pa ta ia pb tb ib pc tc ic pu bt bi ps bs:Bool}{fa fb fc f:VF}{B B':Bs}{O:Nat->Option Addr}{H H1 H':Hp}{σ:St}{δ δ':Ev}{v:V}{d:Dat}{p:Addr}{pos:Pos}{st:Stmt}{rest:List Stmt}{g g':VS}
noncomputable def zDK(nxt:VS):Ou->Option Ou
 | .nx δ=>nxt δ
 | .ct δ=>nxt δ
 | .bk δ=>some (.nx δ)
 | .rt d δ=>some (.rt d δ)
noncomputable def zBG(t:VB)(g:VS):Nat->VS
 |0=>fun _=>none
 |n+1=>fun δ=>(t δ).bind fun p=>if p.1=true then(g p.2).bind (zDK (zBG t g n)) else some (.nx p.2)
theorem zEG{t:VB}: ∀{n:Nat} {δ:Ev} {o:Ou},zBG t g n δ=some o->zBG t g (n+1) δ=some o
 | 0,_,_,h => by cases h
 | n + 1,δ,o,h => by
  dsimp only[zBG] at h
  show((t δ).bind fun p=>if p.1=true then(g p.2).bind (zDK (zBG t g (n+1))) else some (.nx p.2))=some o
  cases h1:t δ with
  | none => rw [h1] at h;cases h
  |some p=>
   rw[h1] at h
   obtain⟨kk,δ1⟩:=p
   cases kk with
   | false => exact h
   |true=>
    have h:(g δ1).bind (zDK (zBG t g n))=some o:=h
    show(g δ1).bind (zDK (zBG t g (n+1)))=some o
    cases h2:g δ1 with
    |none=>rw[h2] at h;cases h
    |some z=>
     rw[h2] at h
     cases z with
     |nx δ2=>exact zEG (n:=n) h
     |ct δ2=>exact zEG (n:=n) h
     |bk δ2=>exact h
     |rt d δ2=>exact h
theorem zFD{t:VB}{n:Nat}{o:Ou}(h:zBG t g n δ=some o): ∀k,zBG t g (n+k) δ=some o
 |0=>h
 |k+1=>zEG (zFD h k)
theorem zNG{t:VB}{n m:Nat}{o o':Ou}(h:zBG t g n δ=some o)(h':zBG t g m δ=some o'):o=o':=by
 have e1:=zFD h m
 have e2:=zFD h' n
 rw[Kh] at e2
 rw[e1] at e2
 exact B6 e2
open Classical in
noncomputable def zGU(t:VB)(g:VS):VS:=fun δ=>if h: ∃o n,zBG t g n δ=some o then some (Classical.choose h) else none
theorem zJP{t:VB}{n:Nat}{o:Ou}(h:zBG t g n δ=some o):zGU t g δ=some o:=by
 have hx: ∃o n,zBG t g n δ=some o:=⟨o,n,h⟩
 unfold zGU
 rw[dif_pos hx]
 obtain⟨m,hm⟩:=Ij hx
 rw[zNG hm h]
theorem zNM{t:VB}{o:Ou}(h:zGU t g δ=some o): ∃n,zBG t g n δ=some o:=by
 unfold zGU at h
 split at h
 ·rename_i hx
  cases h
  exact Ij hx
 ·cases h
theorem zM9{body:List Stmt}{t:VB}(hp:Lb (model X.prog X.w) X.A X.env X.xe)(hc:PT X c (TB K ml pc t))(hb:PSs X body (TSt K ml g)):PS X (.While c body [] pos) (TSt K ml (zGU t g)):=(zT5 hp hc hb).imp fun D σ H q0=>by
 obtain⟨B,O,δ,o,S,q,k⟩:=q0
 obtain⟨n,hn⟩:=zNM q
 refine⟨fun m σ H=> ∃O δ,Sta K ml B O H σ δ/\zBG t g m δ=some o,⟨n,O,δ,S,hn⟩,?_⟩
 rintro m σ H ⟨O,δ,S,hm⟩
 cases m with
 | zero => cases hm
 |succ m=>
  dsimp only[zBG] at hm
  cases h1:t δ with
  | none => rw [h1] at hm;cases hm
  |some p=>
   obtain⟨kk,δ1⟩:=p
   rw[h1] at hm
   refine⟨B,O,δ,kk,δ1,S,h1,fun H1 R1=> ?_⟩
   cases kk with
   |false=>
    have hm:some (Ou.nx δ1)=some o:=hm
    cases hm
    exact iteF (k σ H1 O R1.sta)
   |true=>
    have hm:(g δ1).bind (zDK (zBG t g m))=some o:=hm
    cases h2:g δ1 with
    |none=>rw[h2] at hm;cases hm
    |some z=>
     rw[h2] at hm
     refine iteT ⟨fun σ' H'=> ∃O δ,Sta K ml B O H' σ' δ/\zBG t g m δ=some o,fun σ' H' w=>⟨m,Nat.lt_succ_self _,w⟩,B,O,δ1,z,R1.sta,h2,?_⟩
     cases z with
     |nx δ2=>exact fun σ' H' O' S'=>⟨O',δ2,S',hm⟩
     |ct δ2=>exact fun σ' H' O' S'=>⟨O',δ2,S',hm⟩
     |bk δ2=>cases hm;exact fun σ' H' O' S'=>k σ' H' O' S'
     |rt d δ2=>cases hm;exact fun v σ' H' O' S' r=>k v σ' H' O' S' r
def Walk(K:A8)(J:It)(kps:List (V×Dat))(ds:List Dat):Prop:= ∀(N:Addr->Prop) (H:Hp),(∀p∈kps,Rep K N H N p.1 p.2)→
 (∀(i:Nat) (d:Dat),ds[i]? =some d->J.go i H/\ ∀x H',J.yld i H x H'->Same H H'/\Rep K N H' N x d)/\J.stop ds.length H
abbrev VI:=Ev->Option (List Dat×Ev)
def TIV(K:A8)(ml:List Nat)(pu:Bool)(f:VI):TI:=fun σ H R=> ∃B O δ ds δ',Sta K ml B O H σ δ/\f δ=some (ds,δ')∧
 ∀J kps H',Sta K ml {B with kp:=kps++B.kp} O H' σ δ'->Fr (OA O) H H'->(pu=true->Same H H')->Walk K J kps ds->R J H'
theorem PI.imp{tg:Expr}{t u:TI}(h:PI X tg e t)(k: ∀σ H R,u σ H R->t σ H R):PI X tg e u:=fun a6 s σ H R I w=>h a6 s σ H R I (k σ H R w)
theorem PI.or{tg:Expr}{t u:TI}(h:PI X tg e t)(h':PI X tg e u):PI X tg e (fun σ H R=>t σ H R∨u σ H R):=fun a6 s σ H R I z=>by
 rcases z with z|z
 ·exact h a6 s σ H R I z
 ·exact h' a6 s σ H R I z
noncomputable def iSeq(f:VF):VI:=fun δ=>(f δ).bind fun p=>(seqD p.1).map fun ds=>(ds,p.2)
theorem zSA{a:Addr}{ds:List Dat}:Walk K (Itl K a) [(.ref a,.lst ds)] ds:=by
 intro N H h
 have r:=h _ (Ah.mpr rfl)
 have fin: ∀xs,SqL K H a xs->RepA K N H xs ds->(∀(i:Nat) (d:Dat),ds[i]? =some d->(Itl K a).go i H/\ ∀x H',(Itl K a).yld i H x H'->Same H H'/\Rep K N H' N x d)/\(Itl K a).stop ds.length H:=fun xs sq r=>by
  refine⟨fun i d e=> ?_,xs,sq,by rw[r.length];exact Af _⟩
  obtain⟨x,e1,r1⟩:=r.get e
  refine⟨⟨xs,x,sq,e1⟩,fun y H' hy=> ?_⟩
  obtain⟨e2,e3⟩:=hy
  subst e2
  have:=e3 xs sq
  rw[e1] at this
  cases this
  exact⟨Same.refl _,r1⟩
 cases r with
 |lst q n r=>exact fin _ (SqL.of q) r
 |fzl q r=>exact fin _ q.sq r
theorem zS8{a:Addr}{ds:List Dat}:Walk K (Itt K a) [(.ref a,.tup ds)] ds:=by
 intro N H h
 have r:=h _ (Ah.mpr rfl)
 cases r with
 |tup sq r=>
  refine⟨fun i d e=> ?_,_,sq,by rw[r.length];exact Af _⟩
  obtain⟨x,e1,r1⟩:=r.get e
  refine⟨⟨_,x,sq,e1⟩,fun y H' hy=> ?_⟩
  obtain⟨e2,e3⟩:=hy
  subst e2
  have:=e3 _ sq
  rw[e1] at this
  cases this
  exact⟨Same.refl _,r1⟩
theorem zFZ{tg:Expr}(hK:X.K=K)(h:PE X e (TV K ml pu true true f)):PI X tg e (TIV K ml pu (iSeq f)):=((zV8 (K:=K) hK h).or (yBT (K:=K) hK h)).imp fun σ H R q0=>by
 obtain⟨B,O,δ,ds,δ',S,q,k⟩:=q0
 unfold iSeq at q
 cases h1:f δ with
 | none => rw [h1] at q;cases q
 |some p=>
  obtain⟨x,δ1⟩:=p
  rw[h1] at q
  cases x with
  |lst ds'=>
   cases q
   refine .inl ⟨B,O,δ,_,δ1,S,h1,fun v H1 R1=> ?_⟩
   obtain⟨a,xs,rfl,sq,r⟩:=R1.rep.seq rfl
   refine⟨a,rfl,?_,k _ [(.ref a,.lst ds)] H1 (R1.sta.keepV fun p hp=>by rw[Ah.mp hp];exact R1.rep) R1.frm R1.pur zSA⟩
   have r:=R1.rep
   cases r with
   |lst q _ _=>exact⟨_,SqL.of q⟩
   |fzl q _=>exact⟨_,q.sq⟩
  |tup ds'=>
   cases q
   refine .inr ⟨B,O,δ,_,δ1,S,h1,fun v H1 R1=> ?_⟩
   obtain⟨a,xs,rfl,sq,r⟩:=R1.rep.seq rfl
   refine⟨a,rfl,?_,k _ [(.ref a,.tup ds)] H1 (R1.sta.keepV fun p hp=>by rw[Ah.mp hp];exact R1.rep) R1.frm R1.pur zS8⟩
   have r:=R1.rep
   cases r with
   |tup q _=>exact⟨_,q⟩
  |_=>cases q
noncomputable def rngD(lo:Int)(n:Nat):List Dat:=(Ao n).map fun k:Nat=> .int (lo+k)
noncomputable def iR1(f:VF):VI:=fun δ=>(f δ).bind fun p=>match p.1 with
 | .int j=>if -4611686018427387904<=j/\j<4611686018427387904 then some (rngD 0 j.toNat,p.2) else none
 |_=>none
noncomputable def iR2(f g:VF):VI:=fun δ=>(f δ).bind fun p=>(g p.2).bind fun q=>match p.1,q.1 with
 | .int i,.int j=>if(-4611686018427387904<=i/\i<4611686018427387904)/\ -4611686018427387904<=j/\j<4611686018427387904 then some (rngD i (j - i).toNat,q.2) else none
 |_,_=>none
theorem zT0{lo:Int}{n i:Nat}{d:Dat}(h:(rngD lo n)[i]? =some d):i<n/\d= .int (lo+i):=by
 unfold rngD at h
 rw[C8] at h
 cases h1:(Ao n)[i]? with
 |none=>rw[h1] at h;cases h
 |some k=>
  rw[h1] at h
  cases h
  have:=A5.mp h1
  obtain⟨hl,e⟩:=this
  rw[F9] at hl
  rw[List.getElem_range] at e
  subst e
  exact⟨hl,rfl⟩
theorem zM6{lo:Int}{n:Nat}:Walk K (Itr lo n) [] (rngD lo n):=by
 intro N H _
 refine⟨fun i d e=> ?_,by simp[Itr,rngD]⟩
 obtain⟨hl,rfl⟩:=zT0 e
 refine⟨hl,fun x H' hy=> ?_⟩
 obtain⟨rfl,rfl⟩:=hy
 exact⟨Same.refl _,.int _⟩
theorem zDQ{tg:Expr}{p':Pos}(hg:Gl X "range") (hm:X.mg "range"=none) (h:PE X a (TV K ml pa ta ia fa)) (hs:starEach [a] X.env=[(false,eval a X.env)]:=by rfl) (hs1:starEach (a::[]) X.env=(false,eval a X.env)::starEach [] X.env:=by rfl):
  PI X tg (.Call (.Name "range" p') [a] [] pos) (TIV K ml pa (iR1 fa)):=(zQ5 hg hm (zAQ h zBT hs1) hs).imp fun σ H R ⟨B,O,δ,ds,δ',S,q,k⟩=>by
 unfold iR1 at q
 cases h1:fa δ with
 | none => rw [h1] at q;cases q
 |some p=>
  obtain⟨x,δ1⟩:=p
  rw[h1] at q
  cases x with
  |int j=>
   have q:(if -4611686018427387904<=j/\j<4611686018427387904 then some (rngD 0 j.toNat,δ1) else none)=some (ds,δ'):=q
   split at q
   ·rename_i hj
    cases q
    have p62:(2:Int) ^ 62=4611686018427387904:=by decide
    refine⟨B,O,δ,_,_,S,h1,fun v H1 R1=>⟨j,?_,by rw[p62];exact hj.1,by rw[p62];exact hj.2,k _ [] H1 (R1.sta.keepV fun _ z=>nomatch z) R1.frm R1.pur zM6⟩⟩
    have r:=R1.rep
    cases r
    rfl
   ·cases q
  |_=>cases q
theorem zOO{tg:Expr}{p':Pos}(hg:Gl X "range") (hm:X.mg "range"=none) (h:PE X a (TV K ml pa ta ia fa)) (h':PE X b (TV K ml pb tb ib fb)) (hs:starEach [a,b] X.env=[(false,eval a X.env),(false,eval b X.env)]:=by rfl) (hs2:starEach [b] X.env=[(false,eval b X.env)]:=by rfl)
  (he : starEach (a :: [b]) X.env = (false,eval a X.env) :: starEach [b] X.env := by rfl) (he2 : starEach (b :: []) X.env = (false,eval b X.env) :: starEach [] X.env := by rfl) :
  PI X tg (.Call (.Name "range" p') [a,b] [] pos) (TIV K ml (pa && pb) (iR2 fa fb)) := (zQ4 hg hm (zAQ h (zAQ h' zBT he2) he) hs hs2).imp fun σ H R ⟨B,O,δ,ds,δ',S,q,k⟩ => by
 unfold iR2 at q
 cases h1:fa δ with
 | none => rw [h1] at q;cases q
 |some p=>
  obtain⟨x,δ1⟩:=p
  rw[h1] at q
  cases h2:fb δ1 with
  | none => simp [h2] at q
  |some p2=>
   obtain⟨y,δ2⟩:=p2
   simp only[A7,h2] at q
   cases x with
   |int i=>
    cases y with
    |int j=>
     have q:(if(-4611686018427387904<=i/\i<4611686018427387904)/\ -4611686018427387904<=j/\j<4611686018427387904 then some (rngD i (j - i).toNat,δ2) else none)=some (ds,δ'):=q
     split at q
     ·rename_i hj
      cases q
      have p62:(2:Int) ^ 62=4611686018427387904:=by decide
      refine⟨B,O,δ,_,_,S,h1,fun v H1 R1=>⟨B,O,δ1,_,_,R1.sta,h2,fun v2 H2 R2=>⟨i,j,?_,by rw[p62];exact⟨hj.1.1,hj.1.2,hj.2.1,hj.2.2⟩,k _ [] H2 (R2.sta.keepV fun _ z=>nomatch z) (R1.frm.trans R2.frm) (fun z=>by
       obtain⟨z1,z2⟩:=(A3 _ _).mp z
       exact(R1.pur z1).trans (R2.pur z2)) zM6⟩⟩⟩
      have r1:=R1.rep
      have r2:=R2.rep
      cases r1
      cases r2
      rfl
     ·cases q
    |_=>cases q
   |_=>cases q
noncomputable def forV(gg:VG)(s:VS):List Dat->VS
 |[]=>fun δ=>some (.nx δ)
 |d::r=>fun δ=>(gg d δ).bind fun δ1=>(s δ1).bind (zDK (forV gg s r))
noncomputable def sFor(fi:VI)(gg:VG)(s:VS):VS:=fun δ=>(fi δ).bind fun p=>forV gg s p.1 p.2
theorem zGN{tg iter:Expr}{body:List Stmt}{fi:VI}{gg:VG}(hp:Lb (model X.prog X.w) X.A X.env X.xe)(hc:X.calm=true)(hi:PI X tg iter (TIV K ml pu fi))(hg:PG X tg (TGV K ml gg))(hb:PSs X body (TSt K ml g))
  (hs : ∀ x,foldedSetIterable iter X.env x = pure x := by intro _;rfl) : PS X (.For tg iter body [] pos) (TSt K ml (sFor fi gg g)) := (yA6 hp hc hi hg hb hs).imp fun D σ H ⟨B,O,δ,o,S,q,k⟩ => by
 unfold sFor at q
 cases h1:fi δ with
 | none => rw [h1] at q;cases q
 |some p=>
  obtain⟨ds,δ1⟩:=p
  rw[h1] at q
  have q:forV gg g ds δ1=some o:=q
  refine⟨B,O,δ,ds,δ1,S,h1,fun J kps H1 S1 _ _ wk=> ?_⟩
  refine⟨fun i m σ H=>m=ds.length - i/\i<=ds.length/\ ∃O δ,Sta K ml {B with kp:=kps++B.kp} O H σ δ/\forV gg g (ds.drop i) δ=some o,⟨ds.length,rfl,Cv _,O,δ1,S1,q⟩,?_⟩
  rintro i m σ H ⟨rfl,hi,O,δ,S,hf⟩
  have w:=wk (Nn B O) H fun p hp=>S.kep p (Az _ hp)
  by_cases hlt:i<ds.length
  ·obtain ⟨go,yl⟩ := w.1 i ds[i] (by simp [hlt])
   rw[Dn hlt] at hf
   refine .inr ⟨go,fun σ' H'=> ∃O δ,Sta K ml {B with kp:=kps++B.kp} O H' σ' δ/\forV gg g (ds.drop (i+1)) δ=some o,fun σ' H' w'=>⟨ds.length - (i+1),by omega,rfl,hlt,w'⟩,fun x H' hy=> ?_⟩
   obtain⟨sm,rx⟩:=yl x H' hy
   have hf:((gg ds[i] δ).bind fun δ1=>(g δ1).bind (zDK (forV gg g (ds.drop (i+1)))))=some o:=hf
   cases h2:gg ds[i] δ with
   | none => rw [h2] at hf;cases hf
   |some δ2=>
    rw[h2] at hf
    have hf:(g δ2).bind (zDK (forV gg g (ds.drop (i+1))))=some o:=hf
    refine⟨_,O,δ,ds[i],δ2,S.same sm,rx,h2,fun σ2 O2 S2 _=> ?_⟩
    cases h3:g δ2 with
    |none=>rw[h3] at hf;cases hf
    |some z=>
     rw[h3] at hf
     refine⟨_,O2,δ2,z,S2,h3,?_⟩
     cases z with
     |nx δ3=>exact fun σ' H' O' S'=>⟨O',δ3,S',hf⟩
     |ct δ3=>exact fun σ' H' O' S'=>⟨O',δ3,S',hf⟩
     |bk δ3=>cases hf;exact fun σ' H' O' S'=>k σ' H' O' S'.unkeep
     |rt d δ3=>cases hf;exact fun v σ' H' O' S' r=>k v σ' H' O' S'.unkeep r
  ·have e : i = ds.length := by omega
   subst e
   rw[Fm] at hf
   cases hf
   exact .inl ⟨w.2,k σ H O S.unkeep⟩
end
section
variable{X:Cx}{K:A8}{ml:List Nat}{e a b c:Expr}{es:List Expr}{pa ta ia pb tb ib pc tc ic pu bt bi ps bs:Bool}{fa fb fc f:VF}{B B':Bs}{O:Nat->Option Addr}{H H1 H':Hp}{σ:St}{δ δ':Ev}{v:V}{d:Dat}{p:Addr}{pos:Pos}{st:Stmt}{rest:List Stmt}{g g':VS}
theorem Sta.call{P:Addr->Prop}(S:Sta K ml B O H σ δ)(hl:δ'.length=δ.length)(h: ∀i:Nat,(δ'[i]? =δ[i]? /\ ∀a,O i=some a-> ¬P a)∨ ∃a d',O i=some a/\δ'[i]? =some (Sl.ow d')/\Own K (Nn B O) H' a d')
  (f:Fr P H H') (hP: ∀a,P a->OA O a):Sta K ml B O H' σ δ' where
 len:=by rw[hl,S.len]
 va := fun i d e => by
  rcases h i with⟨e1,_⟩|⟨a,d',_,e1,_⟩
  ·rw[e1] at e
   obtain⟨v,e2,r⟩:=S.va i d e
   exact⟨v,e2,r.fr f (fun a z=> .inr (hP a z)) fun a z=> .inr (hP a z)⟩
  ·rw[e1] at e
   cases e
 ow := fun i d e => by
  rcases h i with⟨e1,n⟩|⟨a,d',e2,e1,w⟩
  ·rw[e1] at e
   obtain⟨a,e2,e3,w⟩:=S.ow i d e
   exact⟨a,e2,e3,w.fr f (fun a z=> .inr (hP a z)) (n a e2)⟩
  ·rw[e1] at e
   cases e
   obtain⟨d0,q0⟩:=S.dom i a e2
   obtain⟨a',e3,e4,_⟩:=S.ow i d0 q0
   rw[e2] at e3
   cases e3
   exact⟨a,e2,e4,w⟩
 dom:=fun i a e=>by
  rcases h i with⟨e1,n⟩|⟨a,d',e2,e1,w⟩
  ·obtain⟨d0,q0⟩:=S.dom i a e
   exact⟨d0,e1.trans q0⟩
  ·exact⟨d',e1⟩
 inj:=S.inj
 old:=S.old
 zin:=fun a h'=>by
  obtain⟨o,q⟩:=S.zin a h'
  exact⟨o,f a o q fun z=>by
   obtain⟨i,e⟩:=hP a z
   exact absurd h' (S.old i a e).1⟩
 frm:=fun b o q n=>by
  have h1:=S.frm b o q n
  refine f b o h1 fun z=> ?_
  obtain⟨i,e⟩:=hP b z
  rcases(S.old i b e).2 with w|w
  ·exact n w
  ·rw[q] at w;cases w
 par:=S.par
 pin:=fun a h'=>by
  obtain⟨o,q⟩:=S.pin a h'
  by_cases z:P a
  ·obtain⟨i,e⟩:=hP a z
   rcases h i with⟨_,n⟩|⟨a',d',e2,e1,w⟩
   ·exact absurd z (n a e)
   ·rw[e] at e2
    cases e2
    obtain⟨o,q,_⟩:=w.soft
    exact⟨o,q⟩
  ·exact⟨o,f a o q fun y=>absurd y z⟩
 kep:=fun p hp=>(S.kep p hp).fr f (fun a z=> .inr (hP a z)) fun a z=> .inr (hP a z)
abbrev VFun:=List Dat->Option (Dat×List Dat)
def argP(ml:List Nat)(vs:List V):Addr->Prop:=fun a=> ∃i∈ml,vs[i]? =some (.ref a)
def Zp(Z:Addr->Prop)(ml:List Nat)(vs:List V):Addr->Prop:=fun a=>Z a∨argP ml vs a
structure zYA(K:A8)(ml:List Nat)(Z:Addr->Prop)(H:Hp)(vs:List V)(ds:List Dat):Prop where
 len:vs.length=ds.length
 mem: ∀i∈ml,i<ds.length
 va: ∀(i:Nat) (d:Dat),i∉ml->ds[i]? =some d-> ∃v,vs[i]? =some v/\Rep K (Zp Z ml vs) H (Zp Z ml vs) v d
 ow: ∀(i:Nat) (d:Dat),i∈ml->ds[i]? =some d-> ∃a,vs[i]? =some (.ref a)/\Own K (Zp Z ml vs) H a d/\¬Z a
 inj: ∀(i j:Nat) (a:Addr),i∈ml->j∈ml->vs[i]? =some (.ref a)->vs[j]? =some (.ref a)->i=j
 zin: ∀a,Z a-> ∃o,H a=some o
def spV(K:A8)(ml:List Nat)(n:Nat)(F:VFun):Sp:=fun vs H Q _=> ∃(Z:Addr->Prop) (ds:List Dat) (r:Dat) (os:List Dat),ds.length=n/\zYA K ml Z H vs ds/\F ds=some (r,os)∧
 ∀v H',Fr (argP ml vs) H H'->(∀(k i:Nat) (a:Addr) (o:Dat),ml[k]? =some i->vs[i]? =some (.ref a)->os[k]? =some o->Own K (Zp Z ml vs) H' a o)->Rep K (Zp Z ml vs) H' (Zp Z ml vs) v r->Q v H'
noncomputable def envD(ml:List Nat)(n:Nat)(ds:List Dat):Ev:=ds.mapIdx (fun i d=>if i∈ml then Sl.ow d else Sl.va d)++Aa (n - ds.length) Sl.no
noncomputable def outs(ml:List Nat)(δ:Ev):Option (List Dat):=ml.mapM fun(i:Nat)=>match(δ[i]? :Option Sl) with
 |some (Sl.ow d)=>some d
 |_=>none
noncomputable def runV(n:Nat)(ml:List Nat)(g:VS):VFun:=fun ds=>(g (envD ml n ds)).bind fun o=>match o with
 | .rt d δ=>(outs ml δ).map fun os=>(d,os)
 | .nx δ=>(outs ml δ).map fun os=>(.non,os)
 |_=>none
theorem zMR: ∀{ml:List Nat} {δ:Ev} {os:List Dat},outs ml δ=some os-> ∀(k i:Nat) (o:Dat),ml[k]? =some i->os[k]? =some o->δ[i]? =some (.ow o)
 | [],_,_,h,k,i,o,e1,e2 => by simp at e1
 | j :: ml,δ,os,h,k,i,o,e1,e2 => by
  unfold outs at h
  rw[Lx] at h
  split at h
  ·rename_i d hd
   cases h2:(ml.mapM fun(i:Nat)=>match(δ[i]? :Option Sl) with
    |some (Sl.ow d)=>some d
    |_=>none:Option (List Dat)) with
   | none => rw [h2] at h;cases h
   |some os2=>
    rw[h2] at h
    cases h
    cases k with
    |zero=>
     cases e1
     cases e2
     exact hd
    |succ k=>exact zMR (ml:=ml) h2 k i o (by simpa using e1) (by simpa using e2)
  ·cases h
theorem zJF{N:List Str}{Z:Addr->Prop}{vs:List V}{ds:List Dat}(A:zYA K ml Z H vs ds)(hn:ds.length<=N.length):
  ∃mu:Nat->Option Addr,(∀i a,mu i=some a↔i∈ml/\vs[i]? =some (.ref a))/\Sta K ml ⟨Z,argP ml vs,H,mu,[]⟩ mu H (start N vs) (envD ml N.length ds):=by
 classical
 let mu : Nat -> Option Addr := fun i => if i ∈ ml then (match vs[i]? with
  | some (.ref a) => some a
  | _ => none) else none
 have hmu: ∀i a,mu i=some a↔i∈ml/\vs[i]? =some (.ref a):=fun i a=>by
  show(if i∈ml then(match vs[i]? with
   | some (.ref a) => some a
   | _ => none) else none) = some a ↔ _
  by_cases hi:i∈ml
  ·rw[if_pos hi]
   constructor
   ·intro h
    split at h
    ·rename_i b hb
     cases h
     exact⟨hi,hb⟩
    ·cases h
   ·rintro ⟨_,h⟩
    rw[h]
  ·rw[if_neg hi]
   exact⟨(fun h=>nomatch h),fun h=>absurd h.1 hi⟩
 have hN: ∀a,Nn ⟨Z,argP ml vs,H,mu,[]⟩ mu a->Zp Z ml vs a:=fun a h=>by
  rcases h with h|⟨i,h⟩
  ·exact .inl h
  ·exact .inr ⟨i,(hmu i a).mp h⟩
 have fw: ∀(i:Nat) (s:Sl),(envD ml N.length ds)[i]? =some s->(∃d,ds[i]? =some d/\s=if i∈ml then .ow d else .va d)∨s= .no:=fun i s h=>by
  unfold envD at h
  by_cases hi:i<ds.length
  ·rw [A6 (by simpa using hi),Iv] at h
   cases q:ds[i]? with
   |none=>rw[q] at h;cases h
   |some d=>rw[q] at h;cases h;exact .inl ⟨d,rfl,rfl⟩
  ·rw [Ap (by simpa using hi),C7] at h
   split at h
   ·cases h;exact .inr rfl
   ·cases h
 have hst: ∀(i:Nat) (v:V),vs[i]? =some v->(start N vs)[i]? =some (some v):=fun i v h=>by
  unfold start
  have hi:i<vs.length:=(A5.mp h).1
  rw[A6 (by simpa using hi),C8,h]
  rfl
 refine⟨mu,hmu,?_,fun i d q=> ?_,fun i d q=> ?_,fun i a q=> ?_,fun i j a q1 q2=> ?_,fun i a q=> ?_,A.zin,Fr.refl _ _,⟨fun i a q=>((hmu i a).mp q).1,fun i _=>rfl⟩,fun a q=> ?_,fun p hp=>nomatch hp⟩
 ·unfold start envD
  have:=A.len
  simp
  omega
 ·rcases fw i _ q with⟨e,h1,h2⟩|h
  ·by_cases hi:i∈ml
   ·rw[if_pos hi] at h2;cases h2
   ·rw[if_neg hi] at h2
    cases h2
    obtain⟨v,e1,r⟩:=A.va i d hi h1
    exact⟨v,hst i v e1,r.mono hN hN⟩
  ·cases h
 ·rcases fw i _ q with⟨e,h1,h2⟩|h
  ·by_cases hi:i∈ml
   ·rw[if_pos hi] at h2
    cases h2
    obtain⟨a,e1,w,_⟩:=A.ow i d hi h1
    exact⟨a,(hmu i a).mpr ⟨hi,e1⟩,hst i _ e1,w.mono hN⟩
   ·rw[if_neg hi] at h2;cases h2
  ·cases h
 ·obtain⟨hi,e1⟩:=(hmu i a).mp q
  have hl:=A.mem i hi
  refine⟨ds[i],?_⟩
  unfold envD
  rw[A6 (by simpa using hl),Iv]
  simp[hl,hi]
 ·exact A.inj i j a ((hmu i a).mp q1).1 ((hmu j a).mp q2).1 ((hmu i a).mp q1).2 ((hmu j a).mp q2).2
 ·obtain⟨hi,e1⟩:=(hmu i a).mp q
  refine⟨fun z=> ?_,.inl ⟨i,hi,e1⟩⟩
  obtain⟨a',e2,_,n⟩:=A.ow i (ds[i]'(A.mem i hi)) hi (by simp[A.mem i hi])
  rw[e1] at e2
  cases e2
  exact n z
 ·obtain⟨i,hi,e1⟩:=q
  obtain⟨a',e2,w,n⟩:=A.ow i (ds[i]'(A.mem i hi)) hi (by simp[A.mem i hi])
  rw[e1] at e2
  cases e2
  obtain⟨o,q,_⟩:=w.soft
  exact⟨o,q⟩
theorem zY4{N ps:List Str}{vs:List V}{Q:VK}{E:XK}(hps:ps.length<=N.length)(h:spV K ml ps.length (runV N.length ml g) vs H Q E):TSt K ml g {nx:=fun _ H'=>Q .non H',rt:=Q} (start N vs) H:=by
 obtain⟨Z,ds,r,os,hn,AV,hF,k⟩:=h
 obtain⟨mu,hmu,S0⟩:=zJF (N:=N) AV (by rw[hn];exact hps)
 unfold runV at hF
 cases h1:g (envD ml N.length ds) with
 | none => rw [h1] at hF;cases hF
 |some o=>
  rw[h1] at hF
  refine⟨_,mu,_,o,S0,h1,?_⟩
  have fin: ∀(δ':Ev) (v:V) (σ':St) (H':Hp) (O':Nat->Option Addr),outs ml δ'=some os->Sta K ml ⟨Z,argP ml vs,H,mu,[]⟩ O' H' σ' δ'->Rep K (rz ⟨Z,argP ml vs,H,mu,[]⟩) H' (rz ⟨Z,argP ml vs,H,mu,[]⟩) v r->Q v H':=fun δ' v σ' H' O' ho S' hr'=>by
   have hz: ∀a,Zp Z ml vs a->rz ⟨Z,argP ml vs,H,mu,[]⟩ a:=fun a h=>by
    rcases h with h|⟨i,hi,e⟩
    ·exact .inl h
    ·exact .inr ⟨i,(hmu i a).mpr ⟨hi,e⟩⟩
   refine k v H' S'.frm (fun kk i a o e1 e2 e3=> ?_) (hr'.mono hz hz)
   have hd:=zMR ho kk i o e1 e3
   obtain⟨a',e4,_,w⟩:=S'.ow i o hd
   have hi:i∈ml:=Cq e1
   have:=(S'.par.2 i hi).trans ((hmu i a).mpr ⟨hi,e2⟩)
   rw[this] at e4
   cases e4
   refine w.mono fun b hb=> ?_
   rcases hb with hb|⟨j,hj,e5⟩
   ·exact .inl hb
   ·exact .inr ⟨j,(S'.par.2 j hj).trans ((hmu j b).mpr ⟨hj,e5⟩)⟩
  cases o with
  |rt d δ'=>
   have hF:(outs ml δ').map (fun os=>(d,os))=some (r,os):=hF
   cases h2:outs ml δ' with
   |none=>rw[h2] at hF;cases hF
   |some os'=>
    rw[h2] at hF
    cases hF
    exact fun v σ' H' O' S' hr'=>fin δ' v σ' H' O' h2 S' hr'
  |nx δ'=>
   have hF:(outs ml δ').map (fun os=>(Dat.non,os))=some (r,os):=hF
   cases h2:outs ml δ' with
   |none=>rw[h2] at hF;cases hF
   |some os'=>
    rw[h2] at hF
    cases hF
    exact fun σ' H' O' S'=>fin δ' .non σ' H' O' h2 S' .non
  |bk δ'=>cases hF
  |ct δ'=>cases hF
theorem Fun.okV{P:Aj}{w:World}{mg:Str->Option Value}{base:Heap}{x qual:Str}{st:Stmt}{f:Addr}{fd:C2}{N ps:List Str}{k:Nat}(F:Fun K x qual st f fd)(S:zAD N ps (zA4 st))(hps:ps.length<=N.length)
  (aj: ∀(cdv:Value) (A:B8) (outer:List Env) (s:A2) (H:Hp) (E:XK),Room k (A.deeper (envOfC qual (zA4 st) s.heap.objs.size f cdv))→
   PSs (cxOf CX0 P w K mg base N qual (zA4 st) f cdv A outer s H E).nox (zB0 st) (TSt K ml g)):FnOk P w K mg base CX0 (k+1) f fd ps (spV K ml ps.length (runV N.length ml g)):=by
 refine F.ok S (fun vs H Q E h=> ?_) (fun cdv A outer s H vs Q E hr h=>⟨_,aj cdv A outer s H E hr,zY4 hps h⟩)
 obtain⟨Z,ds,r,os,hn,AV,_⟩:=h
 rw[AV.len,hn]
inductive AV where
 |d (d:Dat)|o (j:Nat)
inductive RepG(K:A8)(N:Addr->Prop)(H:Hp)(σ:St):List V->List AV->Prop
 |nil:RepG K N H σ [] []
 |d {v:V} {vs:List V} {d:Dat} {as:List AV}:Rep K N H N v d->RepG K N H σ vs as->RepG K N H σ (v::vs) (.d d::as)
 |o {v:V} {vs:List V} {j:Nat} {as:List AV}:σ[j]? =some (some v)->RepG K N H σ vs as->RepG K N H σ (v::vs) (.o j::as)
abbrev VFg:=Ev->Option (List AV×Ev)
structure ResG(K:A8)(ml:List Nat)(B:Bs)(O:Nat->Option Addr)(H:Hp)(σ:St)(pu:Bool)(H':Hp)(δ':Ev)(vs:List V)(as:List AV):Prop where
 sta:Sta K ml B O H' σ δ'
 frm:Fr (OA O) H H'
 pur:pu=true->Same H H'
 rep:RepG K (Nn B O) H' σ vs as
def TAG(K:A8)(ml:List Nat)(pu:Bool)(f:VFg):TA:=fun σ H Q=> ∃B O δ as δ',Sta K ml B O H σ δ/\f δ=some (as,δ')/\ ∀vs H',ResG K ml B O H σ pu H' δ' vs as->Q vs H'
noncomputable def aNil:VFg:=fun δ=>some ([],δ)
noncomputable def aE(f:VF)(fs:VFg):VFg:=fun δ=>(f δ).bind fun p=>(fs p.2).map fun q=>(.d p.1::q.1,q.2)
noncomputable def slot(δ:Ev)(j:Nat):Option Dat:=match δ[j]? with
 |some (.va d)=>some d
 |some (.ow d)=>some d
 |_=>none
noncomputable def aO(j:Nat)(fs:VFg):VFg:=fun δ=>(slot δ j).bind fun _=>(fs δ).map fun q=>(.o j::q.1,q.2)
theorem zAA:PA X [] (TAG K ml true aNil):=zBT.imp fun σ H Q q0=>by
 obtain⟨B,O,δ,d,δ',S,q,k⟩:=q0
 cases q
 exact k [] H ⟨S,Fr.refl _ _,fun _=>Same.refl _,.nil⟩
theorem zA8{fs:VFg}(ha:PE X a (TV K ml pa true true fa))(hr:PA X es (TAG K ml ps fs))(hs:starEach (a::es) X.env=(false,eval a X.env)::starEach es X.env:=by rfl):PA X (a::es) (TAG K ml (pa && ps) (aE fa fs)):=(zAQ ha hr hs).imp fun σ H Q q0=>by
 obtain⟨B,O,δ,as,δ2,S,q,k⟩:=q0
 unfold aE at q
 cases h1:fa δ with
 | none => rw [h1] at q;cases q
 |some p=>
  obtain⟨x,δ1⟩:=p
  rw[h1] at q
  have q:((fs δ1).map fun q=>(AV.d x::q.1,q.2))=some (as,δ2):=q
  cases h2:fs δ1 with
  |none=>rw[h2] at q;cases q
  |some p2=>
   rw[h2] at q
   cases q
   refine⟨B,O,δ,x,δ1,S,h1,fun v1 H1 R1=>⟨B,O,δ1,_,_,R1.sta,h2,fun vs H2 R2=>k _ H2 ⟨R2.sta,R1.frm.trans R2.frm,fun z=> ?_,.d (R1.rep.fr R2.frm (fun a z=> .inr z) fun a z=> .inr z) R2.rep⟩⟩⟩
   obtain⟨z1,z2⟩:=(A3 _ _).mp z
   exact(R1.pur z1).trans (R2.pur z2)
theorem zJI{j:Nat}{d:Dat}(h:slot δ j=some d):δ[j]? =some (.va d)∨δ[j]? =some (.ow d):=by
 unfold slot at h
 split at h
 ·cases h;exact .inl (by assumption)
 ·cases h;exact .inr (by assumption)
 ·cases h
theorem Sta.slot(S:Sta K ml B O H σ δ){j:Nat}{d:Dat}(h:slot δ j=some d): ∃v,σ[j]? =some (some v):=by
 rcases zJI h with h|h
 ·obtain⟨v,e,_⟩:=S.va j d h
  exact⟨v,e⟩
 ·obtain⟨a,_,e,_⟩:=S.ow j d h
  exact⟨_,e⟩
theorem zBA{fs:VFg}{j:Nat}(ha:PE X a (tVar j))(hr:PA X es (TAG K ml ps fs))(hs:starEach (a::es) X.env=(false,eval a X.env)::starEach es X.env:=by rfl):PA X (a::es) (TAG K ml ps (aO j fs)):=(zAQ ha hr hs).imp fun σ H Q q0=>by
 obtain⟨B,O,δ,as,δ2,S,q,k⟩:=q0
 unfold aO at q
 cases h1:slot δ j with
 | none => rw [h1] at q;cases q
 |some d=>
  rw[h1] at q
  have q:((fs δ).map fun q=>(AV.o j::q.1,q.2))=some (as,δ2):=q
  cases h2:fs δ with
  |none=>rw[h2] at q;cases q
  |some p2=>
   rw[h2] at q
   cases q
   obtain⟨v,e⟩:=S.slot h1
   exact⟨v,e,B,O,δ,_,_,S,h2,fun vs H2 R2=>k _ H2 ⟨R2.sta,R2.frm,R2.pur,.o e R2.rep⟩⟩
theorem RepG.length: ∀{N:Addr->Prop} {vs:List V} {as:List AV},RepG K N H σ vs as->vs.length=as.length
 |_,_,_,.nil=>rfl
 |_,_,_,.d _ t=>congrArg (· +1) (RepG.length t)
 |_,_,_,.o _ t=>congrArg (· +1) (RepG.length t)
theorem RepG.getD: ∀{N:Addr->Prop} {vs:List V} {as:List AV} {i:Nat} {d:Dat},RepG K N H σ vs as->as[i]? =some (.d d)-> ∃v,vs[i]? =some v/\Rep K N H N v d
 |_,_,_,_,_,.nil,e=>by simp at e
 |_,_,_,0,_,.d h _,e=>by simp at e;subst e;exact⟨_,rfl,h⟩
 |_,_,_,0,_,.o h _,e=>by simp at e
 |_,_,_,i+1,_,.d _ t,e=>by
  obtain⟨u,h1,h2⟩:=RepG.getD (i:=i) t (by simpa using e)
  exact⟨u,by simpa using h1,h2⟩
 |_,_,_,i+1,_,.o _ t,e=>by
  obtain⟨u,h1,h2⟩:=RepG.getD (i:=i) t (by simpa using e)
  exact⟨u,by simpa using h1,h2⟩
theorem RepG.getO: ∀{N:Addr->Prop} {vs:List V} {as:List AV} {i j:Nat},RepG K N H σ vs as->as[i]? =some (.o j)-> ∃v,vs[i]? =some v/\σ[j]? =some (some v)
 |_,_,_,_,_,.nil,e=>by simp at e
 |_,_,_,0,_,.d h _,e=>by simp at e
 |_,_,_,0,_,.o h _,e=>by simp at e;subst e;exact⟨_,rfl,h⟩
 |_,_,_,i+1,_,.d _ t,e=>by
  obtain⟨u,h1,h2⟩:=RepG.getO (i:=i) t (by simpa using e)
  exact⟨u,by simpa using h1,h2⟩
 |_,_,_,i+1,_,.o _ t,e=>by
  obtain⟨u,h1,h2⟩:=RepG.getO (i:=i) t (by simpa using e)
  exact⟨u,by simpa using h1,h2⟩
noncomputable def argD(δ:Ev):AV->Option Dat
 | .d d=>some d
 | .o j=>slot δ j
noncomputable def zEQ(δ:Ev):List AV->Option (List Dat)
 |[]=>some []
 |a::as=>(argD δ a).bind fun d=>(zEQ δ as).map fun ds=>d::ds
theorem zL7: ∀{as:List AV} {ds:List Dat},zEQ δ as=some ds->as.length=ds.length/\ ∀(i:Nat) (d:Dat),ds[i]? =some d-> ∃a,as[i]? =some a/\argD δ a=some d
 | [],ds,h => by cases h;exact ⟨rfl,fun i d e => by simp at e⟩
 | a :: as,ds,h => by
  unfold zEQ at h
  cases h1:argD δ a with
  | none => rw [h1] at h;cases h
  |some d=>
   rw[h1] at h
   cases h2:zEQ δ as with
   | none => simp [h2] at h
   |some ds'=>
    simp only[A7,h2] at h
    cases h
    obtain⟨l,g⟩:=zL7 h2
    refine⟨by simp[l],fun i e he=> ?_⟩
    cases i with
    |zero=>cases he;exact⟨a,rfl,h1⟩
    |succ i=>
     obtain⟨b,e1,e2⟩:=g i e (by simpa using he)
     exact⟨b,by simpa using e1,e2⟩
noncomputable def jsOf:List AV->List Nat
 |[]=>[]
 | .d _::as=>jsOf as
 | .o j::as=>j::jsOf as
theorem zHW: ∀{as:List AV} {i j:Nat},as[i]? =some (.o j)->j∈jsOf as
 |[],_,_,e=>by simp at e
 | .d _::as,0,j,e=>by simp at e
 | .o k::as,0,j,e=>by simp at e;subst e;exact Ak
 | .d _::as,i+1,j,e=>zHW (as:=as) (i:=i) (by simpa using e)
 | .o k::as,i+1,j,e=>Ag _ (zHW (as:=as) (i:=i) (by simpa using e))
theorem zTU: ∀{as:List AV} {j:Nat},j∈jsOf as-> ∃i:Nat,as[i]? =some (AV.o j)
 | [],_,h => nomatch h
 | .d _ :: as,j,h => by
  obtain⟨i,e⟩:=zTU (as:=as) h
  exact⟨i+1,by simpa using e⟩
 | .o k :: as,j,h => by
  rcases Ac.mp h with e|e
  ·exact ⟨0,by rw [e];rfl⟩
  ·obtain⟨i,e⟩:=zTU (as:=as) e
   exact⟨i+1,by simpa using e⟩
theorem zN2: ∀{as:List AV} {i k j:Nat},(jsOf as).Nodup->as[i]? =some (.o j)->as[k]? =some (.o j)->i=k
 |[],_,_,_,_,e,_=>by simp at e
 | .d _::as,0,_,j,_,e,_=>by simp at e
 | .d _::as,_+1,0,j,_,_,e=>by simp at e
 | .d _::as,i+1,k+1,j,n,e1,e2=>congrArg (· +1) (zN2 (as:=as) n (by simpa using e1) (by simpa using e2))
 | .o x::as,0,0,j,_,_,_=>rfl
 | .o x::as,0,k+1,j,n,e1,e2=>by
  simp at e1
  subst e1
  have h:as[k]? =some (.o x):=by simpa using e2
  exact absurd (zHW h) (Bv.mp n).1
 | .o x::as,i+1,0,j,n,e1,e2=>by
  simp at e2
  subst e2
  have h:as[i]? =some (.o x):=by simpa using e1
  exact absurd (zHW h) (Bv.mp n).1
 | .o x::as,i+1,k+1,j,n,e1,e2=>congrArg (· +1) (zN2 (as:=as) (Bv.mp n).2 (by simpa using e1) (by simpa using e2))
noncomputable def zTP(δ:Ev)(as:List AV)(i:Nat):Bool:=match as[i]? with
 |some (.o j)=>match δ[j]? with
  |some (.ow _)=>true
  |_=>false
 |_=>false
noncomputable def zER(mF:List Nat):List AV->Nat->Bool
 |[],_=>true
 | .d _::as,i=>zER mF as (i+1)
 | .o _::as,i=>decide (i∈mF) && zER mF as (i+1)
theorem zFA{mF:List Nat}: ∀{as:List AV} {k i j:Nat},zER mF as k=true->as[i]? =some (.o j)->k+i∈mF
 |[],_,_,_,_,e=>by simp at e
 | .d _::as,k,0,j,h,e=>by simp at e
 | .o _::as,k,0,j,h,e=>by
  simp only[zER,A3,decide_eq_true_eq] at h
  exact h.1
 | .d _::as,k,i+1,j,h,e=>by
  have:=zFA (as:=as) (k:=k+1) (i:=i) (j:=j) h (by simpa using e)
  rwa[show k+(i+1)=k+1+i by omega]
 | .o _::as,k,i+1,j,h,e=>by
  simp only[zER,A3] at h
  have:=zFA (as:=as) (k:=k+1) (i:=i) (j:=j) h.2 (by simpa using e)
  rwa[show k+(i+1)=k+1+i by omega]
noncomputable def zF1:Dat->Bool
 | .lst ds=>zGD ds
 | .dct _ ds=>zGD ds
 |_=>false
theorem Own.kids{N N':Addr->Prop}{a:Addr}(w:Own K N H a d)(h:zF1 d=true):Own K N' H a d:=by
 cases w with
 |lst q r=>exact .lst q (r.hard h)
 |dct q r=>exact .dct q (r.hard h)
noncomputable def putO(as:List AV):List Nat->List Dat->Ev->Ev
 |i::is,o::os,δ=>match as[i]? with
  |some (.o j)=>putO as is os (δ.set j (.ow o))
  |_=>putO as is os δ
 |_,_,δ=>δ
theorem zGG{as:List AV}: ∀{is:List Nat} {os:List Dat} {δ:Ev},(putO as is os δ).length=δ.length
 |[],_,_=>rfl
 |_::_,[],_=>rfl
 |i::is,o::os,δ=>by
  unfold putO
  split
  ·rw[zGG,B9]
  ·rw[zGG]
theorem zIC{as:List AV}: ∀{is:List Nat} {os:List Dat} {δ:Ev} (j:Nat),is.length=os.length->j<δ.length→
  (∃(k i:Nat) (o:Dat),is[k]? =some i/\os[k]? =some o/\as[i]? =some (AV.o j)/\(putO as is os δ)[j]? =some (Sl.ow o))∨((∀i∈is,as[i]? ≠some (AV.o j))/\(putO as is os δ)[j]? =δ[j]?)
 | [],[],δ,j,_,_ => .inr ⟨(fun i h => nomatch h),rfl⟩
 | i :: is,o :: os,δ,j,hl,hj => by
  unfold putO
  split
  ·rename_i j0 e0
   rcases zIC (is:=is) (os:=os) (δ:=δ.set j0 (.ow o)) j (by simpa using hl) (by rw[B9];exact hj) with⟨k,i',o',h1,h2,h3,h4⟩|⟨h1,h2⟩
   ·exact .inl ⟨k + 1,i',o',by simpa using h1,by simpa using h2,h3,h4⟩
   ·by_cases hjj:j=j0
    ·subst hjj
     rw[Bx hj] at h2
     exact .inl ⟨0,i,o,rfl,rfl,e0,h2⟩
    ·rw[B0 (Cc hjj)] at h2
     refine .inr ⟨fun i' hi'=> ?_,h2⟩
     rcases Ac.mp hi' with z|z
     ·rw[z,e0]
      intro w
      cases w
      exact hjj rfl
     ·exact h1 i' z
  ·rename_i hn
   rcases zIC (is:=is) (os:=os) (δ:=δ) j (by simpa using hl) hj with⟨k,i',o',h1,h2,h3,h4⟩|⟨h1,h2⟩
   ·exact .inl ⟨k + 1,i',o',by simpa using h1,by simpa using h2,h3,h4⟩
   ·refine .inr ⟨fun i' hi' => ?_,h2⟩
    rcases Ac.mp hi' with z|z
    ·rw[z]
     exact fun w=>hn j w
    ·exact h1 i' z
noncomputable def zF7(mF:List Nat)(as:List AV)(δ:Ev):Bool:=mF.all (zTP δ as) && decide (jsOf as).Nodup
noncomputable def zED(mF:List Nat)(as:List AV)(r:Dat)(os:List Dat):Bool:=(zER mF as 0 || r.hard) && (zER mF as 0 || os.all zF1) && decide (mF.length=os.length)
noncomputable def zAF(n:Nat)(mF:List Nat)(F:VFun)(fs:VFg):VF:=fun δ=>(fs δ).bind fun p=>(zEQ p.2 p.1).bind fun ds=>if ds.length=n/\zF7 mF p.1 p.2=true then(F ds).bind fun q=>if zED mF p.1 q.1 q.2=true then some (q.1,putO p.1 mF q.2 p.2) else none else none
theorem zFF{n:Nat}{mF:List Nat}{F:VFun}{fs:VFg}{Q:VK}(h:TV K ml (ps && mF.isEmpty) true true (zAF n mF F fs) σ H Q):zSS (spV K mF n F) [] E0 (TAG K ml ps fs) σ H Q:=by
 obtain⟨B,O,δ,d,δ2,S,q,k⟩:=h
 unfold zAF at q
 cases h1:fs δ with
 | none => rw [h1] at q;cases q
 |some p=>
  obtain⟨as,δ1⟩:=p
  rw[h1] at q
  have q : ((zEQ δ1 as).bind fun ds => if ds.length = n /\ zF7 mF as δ1 = true then (F ds).bind fun q => if zED mF as q.1 q.2 = true then some (q.1,putO as mF q.2 δ1) else none else none) = some (d,δ2) := q
  cases h2:zEQ δ1 as with
  | none => rw [h2] at q;cases q
  |some ds=>
   rw[h2] at q
   have q : (if ds.length = n /\ zF7 mF as δ1 = true then (F ds).bind fun q => if zED mF as q.1 q.2 = true then some (q.1,putO as mF q.2 δ1) else none else none) = some (d,δ2) := q
   split at q
   ·rename_i hc
    cases h3:F ds with
    | none => rw [h3] at q;cases q
    |some z=>
     obtain⟨r,os⟩:=z
     rw[h3] at q
     have q:(if zED mF as r os=true then some (r,putO as mF os δ1) else none)=some (d,δ2):=q
     split at q
     ·rename_i hb
      cases q
      obtain⟨hn,hc⟩:=hc
      simp only[zF7,A3,decide_eq_true_eq,Br] at hc
      simp only[zED,A3,decide_eq_true_eq] at hb
      obtain⟨hmu,hnd⟩:=hc
      obtain⟨⟨oj,p8⟩,aa⟩:=hb
      refine⟨B,O,δ,as,δ1,S,h1,fun vs H1 R=> ?_⟩
      show spV K mF n F (vs++[]) H1 Q E0
      rw[Bi]
      obtain⟨hal,hag⟩:=zL7 h2
      have hm: ∀i∈mF,∃j a x,as[i]? =some (.o j)/\δ1[j]? =some (.ow x)/\O j=some a/\vs[i]? =some (.ref a)/\Own K (Nn B O) H1 a x:=fun i hi=>by
       have:=hmu i hi
       unfold zTP at this
       split at this
       ·rename_i j ej
        split at this
        ·rename_i x ex
         obtain⟨a,e1,e2,w⟩:=R.sta.ow j x ex
         obtain⟨v,e3,e4⟩:=R.rep.getO ej
         rw[e2] at e4
         cases e4
         exact⟨j,a,x,ej,ex,e1,e3,w⟩
        ·cases this
       ·cases this
      have hP: ∀a,argP mF vs a-> ∃i j,i∈mF/\as[i]? =some (.o j)/\O j=some a:=fun a q0=>by
       obtain⟨i,hi,e⟩:=q0
       obtain⟨j,a',x,e1,_,e2,e3,_⟩:=hm i hi
       rw[e] at e3
       cases e3
       exact⟨i,j,hi,e1,e2⟩
      have hPO: ∀a,argP mF vs a->OA O a:=fun a h=>by
       obtain⟨i,j,_,_,e⟩:=hP a h
       exact⟨j,e⟩
      have hZp: ∀a,Zp (fun a=>Nn B O a/\ ∀j∈jsOf as,O j≠some a) mF vs a->Nn B O a:=fun a h=>by
       rcases h with h|h
       ·exact h.1
       ·exact .inr (hPO a h)
      refine⟨fun a=>Nn B O a/\ ∀j∈jsOf as,O j≠some a,ds,_,os,hn,⟨by rw[<- hal,R.rep.length],fun i hi=> ?_,fun i x hi e=> ?_,fun i x hi e=> ?_,fun i j a hi hj e1 e2=> ?_,fun a h=>R.sta.nin h.1⟩,h3,fun v H2 f2 w2 r2=> ?_⟩
      ·obtain⟨j,a,x,e1,_⟩:=hm i hi
       rw[<- hal]
       exact(A5.mp e1).1
      ·obtain⟨a,e1,e2⟩:=hag i x e
       cases a with
       |d y=>
        cases e2
        obtain⟨v,e3,r⟩:=R.rep.getD e1
        exact⟨v,e3,r.mono hZp hZp⟩
       |o j=>
        obtain⟨v,e3,e4⟩:=R.rep.getO e1
        refine⟨v,e3,?_⟩
        rcases zJI e2 with e5|e5
        ·obtain⟨v',e6,r⟩:=R.sta.va j x e5
         rw[e4] at e6
         cases e6
         exact r.mono hZp hZp
        ·obtain⟨a,e7,e6,w⟩:=R.sta.ow j x e5
         rw[e4] at e6
         cases e6
         refine(w.mono hZp).rep fun z=> ?_
         rcases z with z|z
         ·exact z.2 j (zHW e1) e7
         ·obtain⟨i',j',hi',e8,e9⟩:=hP a z
          have:j=j':=R.sta.inj j j' a e7 e9
          subst this
          have:=zN2 hnd e1 e8
          subst this
          exact hi hi'
      ·obtain⟨a,e1,e2⟩:=hag i x e
       obtain⟨j,b,y,e3,e4,e5,e6,w⟩:=hm i hi
       rw[e3] at e1
       cases e1
       have e7 : slot δ1 j = some y := by unfold slot;rw [e4]
       have e2:slot δ1 j=some x:=e2
       rw[e7] at e2
       cases e2
       exact⟨b,e6,w.mono hZp,fun z=>z.2 j (zHW e3) e5⟩
      ·obtain⟨j1,b1,_,e3,_,e4,e5,_⟩:=hm i hi
       obtain⟨j2,b2,_,e6,_,e7,e8,_⟩:=hm j hj
       rw[e1] at e5
       cases e5
       rw[e2] at e8
       cases e8
       have:j1=j2:=R.sta.inj j1 j2 a e4 e7
       subst this
       exact zN2 hnd e3 e6
      ·have S2:Sta K ml B O H2 σ (putO as mF os δ1):=by
        refine R.sta.call zGG (fun j=> ?_) f2 hPO
        by_cases hj:j<δ1.length
        ·rcases zIC (as:=as) (is:=mF) (os:=os) (δ:=δ1) j aa hj with⟨kk,i,o,e1,e2,e3,e4⟩|⟨e1,e2⟩
         ·obtain⟨j',a,x,e5,_,e6,e7,_⟩:=hm i (Cq e1)
          rw[e3] at e5
          cases e5
          have w:=w2 kk i a o e1 e7 e2
          refine .inr ⟨a,o,e6,e4,?_⟩
          rcases(Ew _ _).mp p8 with z|z
          ·refine w.mono fun b hb => ?_
           by_cases hjs: ∃j'∈jsOf as,O j'=some b
           ·obtain⟨j',hj',e8⟩:=hjs
            obtain⟨i',e9⟩:=zTU hj'
            have hi':=zFA z e9
            rw[Ff] at hi'
            obtain⟨j'',a'',_,e10,_,e11,e12,_⟩:=hm i' hi'
            rw[e9] at e10
            cases e10
            rw[e8] at e11
            cases e11
            exact .inr ⟨i',hi',e12⟩
           ·exact .inl ⟨hb,fun j' hj' e=>hjs ⟨j',hj',e⟩⟩
          ·exact w.kids (Br.mp z o (Cq e2))
         ·refine .inl ⟨e2,fun a ea hPa => ?_⟩
          obtain⟨i,j',hi,e3,e4⟩:=hP a hPa
          have:j=j':=R.sta.inj j j' a ea e4
          subst this
          exact e1 i hi e3
        ·refine .inl ⟨?_,fun a ea => ?_⟩
         ·rw [Bp (by rw [zGG];omega),Bp (by omega)]
         ·obtain⟨x,ex⟩:=R.sta.dom j a ea
          exact absurd (A5.mp ex).1 hj
       refine k v H2 ⟨S2,R.frm.trans (f2.mono hPO),fun z=> ?_,?_⟩
       ·obtain⟨z1,z2⟩:=(A3 _ _).mp z
        refine(R.pur z1).trans fun b o e=>f2 b o e fun w=> ?_
        obtain⟨i,hi,_⟩:=w
        rw[Kn.mp z2] at hi
        cases hi
       ·rcases(Ew _ _).mp oj with z|z
        ·have hN : ∀ a,Nn B O a -> Zp (fun a => Nn B O a /\ ∀ j ∈ jsOf as,O j ≠ some a) mF vs a := fun b hb => by
          by_cases hjs: ∃j'∈jsOf as,O j'=some b
          ·obtain⟨j',hj',e8⟩:=hjs
           obtain⟨i',e9⟩:=zTU hj'
           have hi':=zFA z e9
           rw[Ff] at hi'
           obtain⟨j'',a'',_,e10,_,e11,e12,_⟩:=hm i' hi'
           rw[e9] at e10
           cases e10
           rw[e8] at e11
           cases e11
           exact .inr ⟨i',hi',e12⟩
          ·exact .inl ⟨hb,fun j' hj' e=>hjs ⟨j',hj',e⟩⟩
         exact r2.mono hN hN
        ·exact r2.hard z
     ·cases q
   ·cases q
theorem zW1{x:Str}{kk j n:Nat}{qs:List Str}{mF:List Nat}{F:VFun}{ff:Addr}{p':Pos}{fs:VFg}(hK:X.K=K)(D:Def X.prog X.w K X.mg X.base x kk qs (spV K mF n F) ff)(hr:Room j X.A)(hk:kk<=j)(hg:Gl X x)(ha:PA X (e::es) (TAG K ml ps fs))(hdb:(x==("__debug__":Str))=false:=by decide)
  (he:starEach (e::es) X.env=(false,eval e X.env)::starEach es X.env:=by rfl) (hpl:(Cg pos (starEach es X.env)).any (·.1)=false:=by rfl):
  PE X (.Call (.Name x p') (e::es) [] pos) (TV K ml (ps && mF.isEmpty) true true (zAF n mF F fs)):=by
 subst hK
 exact(zMP D hr hk hg ha hdb he hpl).imp fun _ _ _ h=>zFF h
end
section
variable{X:Cx}{K:A8}{ml:List Nat}{e a b c:Expr}{es:List Expr}{pi pt pe pu bt bi ps bs:Bool}{f:VF}{B B':Bs}{O:Nat->Option Addr}{H H0 H1 H':Hp}{σ:St}{δ δ':Ev}{v:V}{d:Dat}{p:Addr}{pos:Pos}{ix:List Nat}{nl:Nat}
noncomputable def zB9(ix:List Nat)(δ:Ev):Ev:=ix.map fun i=>(δ[i]?).getD .no
noncomputable def nos(nl:Nat):Ev:=Aa nl Sl.no
noncomputable def zBX(n nl:Nat)(gg:VG)(tb:VB)(fe:VF):List Dat->List Dat->Ev->Option (List Dat×Ev)
 |[],acc,δ=>some (acc,δ)
 |d::r,acc,δ=>(gg d (δ++nos nl)).bind fun δ1=>(tb δ1).bind fun p=>if p.1=true then(fe p.2).bind fun q=>if acc.length<16777216 then zBX n nl gg tb fe r (acc++[q.1]) (q.2.take n) else none else zBX n nl gg tb fe r acc (p.2.take n)
noncomputable def zCN:List Nat->Ev->Ev->Ev
 |i::is,s::ss,δ=>match s with
  | .ow d=>zCN is ss (δ.set i (.ow d))
  |_=>zCN is ss δ
 |_,_,δ=>δ
noncomputable def zC8(ix:List Nat)(nl:Nat)(fi:VI)(gg:VG)(tb:VB)(fe:VF):VF:=fun δ=>(fi δ).bind fun p=>(zBX ix.length nl gg tb fe p.1 [] (zB9 ix p.2)).map fun q=>(.lst q.1,zCN ix q.2 p.2)
noncomputable def bYes:VB:=fun δ=>some (true,δ)
theorem zE0: ∀{ix:List Nat} {ss δ:Ev},(zCN ix ss δ).length=δ.length
 |[],_,_=>rfl
 |_::_,[],_=>rfl
 |i::is,s::ss,δ=>by
  cases s<;>simp only[zCN]<;>rw[zE0]<;>try rw[B9]
theorem zE1: ∀{ix:List Nat} {ss δ:Ev} (i:Nat),i<δ.length->ix.length=ss.length→
  (∃(j:Nat) (d:Dat),ix[j]? =some i/\ss[j]? =some (Sl.ow d)/\(zCN ix ss δ)[i]? =some (Sl.ow d))∨((∀(j:Nat) (d:Dat),ix[j]? =some i->ss[j]? ≠some (Sl.ow d))/\(zCN ix ss δ)[i]? =δ[i]?)
 | [],ss,δ,i,hi,hl => .inr ⟨(fun j d h => by simp at h),rfl⟩
 | k :: is,[],δ,i,hi,hl => by cases hl
 | k :: is,s :: ss,δ,i,hi,hl => by
  have hl2:is.length=ss.length:=by simpa using hl
  cases s with
  |ow d=>
   simp only[zCN]
   rcases zE1 (ix:=is) (ss:=ss) (δ:=δ.set k (.ow d)) i (by rw[B9];exact hi) hl2 with⟨j,d',h1,h2,h3⟩|⟨h1,h2⟩
   ·exact .inl ⟨j + 1,d',by simpa using h1,by simpa using h2,h3⟩
   ·by_cases hk:i=k
    ·subst hk
     rw[Bx hi] at h2
     exact .inl ⟨0,d,rfl,rfl,h2⟩
    ·rw[B0 (Cc hk)] at h2
     refine .inr ⟨fun j d' e=> ?_,h2⟩
     cases j with
     |zero=>cases e;exact absurd rfl hk
     |succ j=>simpa using h1 j d' (by simpa using e)
  |va d=>
   simp only[zCN]
   rcases zE1 (ix:=is) (ss:=ss) (δ:=δ) i hi hl2 with⟨j,d',h1,h2,h3⟩|⟨h1,h2⟩
   ·exact .inl ⟨j + 1,d',by simpa using h1,by simpa using h2,h3⟩
   ·refine .inr ⟨fun j d' e => ?_,h2⟩
    cases j with
    |zero=>simp
    |succ j=>simpa using h1 j d' (by simpa using e)
  |no=>
   simp only[zCN]
   rcases zE1 (ix:=is) (ss:=ss) (δ:=δ) i hi hl2 with⟨j,d',h1,h2,h3⟩|⟨h1,h2⟩
   ·exact .inl ⟨j + 1,d',by simpa using h1,by simpa using h2,h3⟩
   ·refine .inr ⟨fun j d' e => ?_,h2⟩
    cases j with
    |zero=>simp
    |succ j=>simpa using h1 j d' (by simpa using e)
noncomputable def Oc(ix:List Nat)(O:Nat->Option Addr):Nat->Option Addr:=fun j=>(ix[j]?).bind O
noncomputable def Bc(ix:List Nat)(B:Bs)(O:Nat->Option Addr)(H0:Hp)(D:Addr)(kp:List (V×Dat)):Bs:=
 ⟨fun a=>(B.Z a∨a=D)∨ ∃i,O i=some a/\i∉ix,OA (Oc ix O),H0,Oc ix O,kp⟩
theorem zLK{D:Addr}{kp:List (V×Dat)}: ∀a,Nn (Bc ix B O H0 D kp) (Oc ix O) a->Nn B O a∨a=D:=fun a h=>by
 rcases h with((h|h)|⟨i,h,_⟩)|⟨j,h⟩
 ·exact .inl (.inl h)
 ·exact .inr h
 ·exact .inl (.inr ⟨i,h⟩)
 ·unfold Oc at h
  cases q:ix[j]? with
  |none=>rw[q] at h;cases h
  |some i=>rw[q] at h;exact .inl (.inr ⟨i,h⟩)
theorem zHT{D:Addr}{kp:List (V×Dat)}: ∀a,Nn (B.add D) O a->Nn (Bc ix B O H0 D kp) (Oc ix O) a:=fun a h=>by
 rcases h with h|⟨i,h⟩
 ·exact .inl (.inl h)
 ·by_cases hi:i∈ix
  ·obtain⟨j,hj⟩:=Ik.mp hi
   exact .inr ⟨j,by unfold Oc;rw[hj];exact h⟩
  ·exact .inl (.inr ⟨i,h,hi⟩)
theorem Sta.withKp{kp:List (V×Dat)}(S:Sta K ml B O H σ δ)(h: ∀p∈kp,Rep K (Nn B O) H (Nn B O) p.1 p.2):Sta K ml {B with kp:=kp} O H σ δ:=
 ⟨S.len,S.va,S.ow,S.dom,S.inj,S.old,S.zin,S.frm,S.par,S.pin,h⟩
theorem Sta.writeZ{D:Addr}{o:HO}{acc:List V}(S:Sta K ml B O H σ δ)(hD:B.Z D)(hl:H D=some (.lst acc))(h0:B.H0 D=none):Sta K ml B O (upd H D o) σ δ:=by
 have hf:Fr (fun b=>b=D) H (upd H D o):=fun b u q n=>by
  by_cases hb:b=D
  ·subst hb
   rw[hl] at q
   cases q
   exact absurd (n rfl) fun z=>z
  ·rw[zAU hb]
   exact q
 have hN: ∀b,b=D->Nn B O b:=fun b z=> .inl (z▸hD)
 have hin: ∀b,(∃u,H b=some u)-> ∃u,upd H D o b=some u:=fun b q0=>by
  obtain⟨u,q⟩:=q0
  by_cases hb:b=D
  ·exact⟨o,by rw[hb];exact zAG⟩
  ·exact⟨u,by rw[zAU hb];exact q⟩
 refine⟨S.len,fun i d q=> ?_,fun i d q=> ?_,S.dom,S.inj,S.old,fun b h=>hin b (S.zin b h),fun b u q n=> ?_,S.par,fun b h=>hin b (S.pin b h),fun p hp=>(S.kep p hp).fr hf hN hN⟩
 ·obtain⟨v,e,r⟩:=S.va i d q
  exact⟨v,e,r.fr hf hN hN⟩
 ·obtain⟨a,e,e2,w⟩:=S.ow i d q
  exact⟨a,e,e2,w.fr hf hN fun z=>(S.old i a e).1 (z▸hD)⟩
 ·have hb : b ≠ D := fun z => by rw [z,h0] at q;cases q
  rw[zAU hb]
  exact S.frm b u q n
theorem zKS{j:Nat}{s:Sl}(h:(zB9 ix δ++nos nl)[j]? =some s):(∃i,ix[j]? =some i/\s=(δ[i]?).getD .no)∨s= .no:=by
 unfold zB9 nos at h
 by_cases hj:j<ix.length
 ·rw [A6 (by simpa using hj),C8] at h
  cases q:ix[j]? with
  |none=>rw[q] at h;cases h
  |some i=>rw[q] at h;cases h;exact .inl ⟨i,rfl,rfl⟩
 ·rw [Ap (by simpa using hj),C7] at h
  split at h
  ·cases h;exact .inr rfl
  ·cases h
theorem zN8{i j:Nat}{v:V}(hi:ix[j]? =some i)(h:σ[i]? =some (some v)):(caps ix σ++Aa nl none)[j]? =some (some v):=by
 have hj:j<ix.length:=(A5.mp hi).1
 unfold caps
 rw[A6 (by simpa using hj),C8,hi]
 show some ((σ[i]?).join)=_
 rw[h]
 rfl
theorem Sta.inner{D:Addr}(S:Sta K ml B O H0 σ δ)(hD:H0 D=none)(hnd:ix.Nodup){kps:List (V×Dat)}(hk: ∀p∈kps,Rep K (Nn B O) H0 (Nn B O) p.1 p.2):
  Sta K (Ao ix.length) (Bc ix B O H0 D kps) (Oc ix O) (upd H0 D (.lst [])) (caps ix σ++Aa nl none) (zB9 ix δ++nos nl) where
 len:=by simp[caps,zB9,nos]
 va := fun j d e => by
  rcases zKS e with⟨i,hi,q⟩|q
  ·have q:δ[i]? =some (.va d):=by
    cases w:δ[i]? with
    |none=>rw[w] at q;cases q
    |some s=>rw[w] at q;rw[show s= .va d from q.symm]
   obtain⟨v,e1,r⟩:=S.va i d q
   exact⟨v,zN8 hi e1,(r.away hD _ _ zLK zLK).same (zA5 hD)⟩
  ·cases q
 ow := fun j d e => by
  rcases zKS e with⟨i,hi,q⟩|q
  ·have q:δ[i]? =some (.ow d):=by
    cases w:δ[i]? with
    |none=>rw[w] at q;cases q
    |some s=>rw[w] at q;rw[show s= .ow d from q.symm]
   obtain⟨a,e1,e2,w⟩:=S.ow i d q
   refine⟨a,by unfold Oc;rw[hi];exact e1,zN8 hi e2,?_⟩
   cases w with
   |lst q' r=>exact .lst (zA5 hD _ _ q') ((r.away hD _ _ zLK).same (zA5 hD))
   |dct q' r=>exact .dct (zA5 hD _ _ q') ((r.away hD _ _ zLK).same (zA5 hD))
  ·cases q
 dom:=fun j a e=>by
  unfold Oc at e
  cases hi:ix[j]? with
  | none => rw [hi] at e;cases e
  |some i=>
   rw[hi] at e
   obtain⟨d,q⟩:=S.dom i a e
   refine⟨d,?_⟩
   have hj:j<ix.length:=(A5.mp hi).1
   unfold zB9
   rw[A6 (by simpa using hj),C8,hi]
   show some ((δ[i]?).getD .no)=_
   rw[q]
   rfl
 inj:=fun j k a e1 e2=>by
  unfold Oc at e1 e2
  cases hi:ix[j]? with
  | none => rw [hi] at e1;cases e1
  |some i=>
   cases hk:ix[k]? with
   |none=>rw[hk] at e2;cases e2
   |some i'=>
    rw[hi] at e1
    rw[hk] at e2
    have:i=i':=S.inj i i' a e1 e2
    subst this
    obtain⟨l1,q1⟩:=A5.mp hi
    obtain⟨l2,q2⟩:=A5.mp hk
    exact(Kk hnd).mp (q1.trans q2.symm)
 old:=fun j a e=>by
  have e':=e
  unfold Oc at e'
  cases hi:ix[j]? with
  | none => rw [hi] at e';cases e'
  |some i=>
   rw[hi] at e'
   refine⟨fun z=> ?_,.inl ⟨j,e⟩⟩
   rcases z with(z|z)|⟨i',z,n⟩
   ·exact(S.old i a e').1 z
   ·obtain⟨o,q⟩:=S.nin (.inr ⟨i,e'⟩)
    rw[z,hD] at q
    cases q
   ·have:i=i':=S.inj i i' a e' z
    subst this
    exact n (Cq hi)
 zin:=fun a h=>by
  rcases h with(h|h)|⟨i,h,_⟩
  ·obtain⟨o,q⟩:=S.zin a h
   exact⟨o,zA5 hD _ _ q⟩
  ·exact ⟨_,by rw [h];exact zAG⟩
  ·obtain⟨o,q⟩:=S.nin (.inr ⟨i,h⟩)
   exact⟨o,zA5 hD _ _ q⟩
 frm:=(zA5 hD).fr
 par:=⟨fun j a e=>by
  have e:(ix[j]?).bind O=some a:=e
  cases hi:ix[j]? with
  |none=>rw[hi] at e;cases e
  |some i=>exact Be.mpr (A5.mp hi).1,fun j _=>rfl⟩
 pin:=fun a q0=>by
  obtain⟨j,e⟩:=q0
  unfold Oc at e
  cases hi:ix[j]? with
  |none=>rw[hi] at e;cases e
  |some i=>
   rw[hi] at e
   obtain⟨o,q⟩:=S.nin (.inr ⟨i,e⟩)
   exact⟨o,zA5 hD _ _ q⟩
 kep:=fun p hp=>((hk p hp).away hD _ _ zLK zLK).same (zA5 hD)
theorem Sta.turn{O':Nat->Option Addr}{σ':St}{n:Nat}{m:St}(S:Sta K (Ao n) B O' H σ' δ)(hmu: ∀j,n<=j->B.mu j=none)(hm:m.length=n)(hσ:σ'.take n=m)(hn:n<=δ.length):Sta K (Ao n) B B.mu H (m++Aa nl none) (δ.take n++nos nl):=by
 have hO: ∀j,j<n->O' j=B.mu j:=fun j hj=>S.par.2 j (Be.mpr hj)
 have hle: ∀j a,B.mu j=some a->O' j=some a:=fun j a e=>by rw[hO j (Be.mp (S.par.1 j a e))];exact e
 have hN: ∀a,Nn B B.mu a->Nn B O' a:=fun a h=>by
  rcases h with h|⟨j,h⟩
  ·exact .inl h
  ·exact .inr ⟨j,hle j a h⟩
 have hg: ∀(j:Nat) (s:Sl),(δ.take n++nos nl)[j]? =some s->(j<n/\δ[j]? =some s)∨s= .no:=fun j s h=>by
  have hl:(δ.take n).length=n:=by rw[Bw];omega
  by_cases hj:j<n
  ·rw [A6 (by rw [hl];exact hj),Bz hj] at h
   exact .inl ⟨hj,h⟩
  ·unfold nos at h
   rw[Ap (by rw[hl];omega),C7] at h
   split at h
   ·cases h;exact .inr rfl
   ·cases h
 have hs: ∀(j:Nat) (v:V),j<n->σ'[j]? =some (some v)->(m++Aa nl none)[j]? =some (some v):=fun j v hj e=>by
  rw[A6 (by rw[hm];exact hj),<- hσ,Bz hj]
  exact e
 refine⟨?_,fun j d e=> ?_,fun j d e=> ?_,fun j a e=> ?_,fun j k a e1 e2=>S.inj j k a (hle j a e1) (hle k a e2),fun j a e=>S.old j a (hle j a e),S.zin,S.frm,⟨S.par.1,fun j _=>rfl⟩,S.pin,fun p hp=>(S.kep p hp).mono hN hN⟩
 ·simp[hm,nos,Bw]
  omega
 ·rcases hg j _ e with⟨hj,e⟩|e
  ·obtain⟨v,e1,r⟩:=S.va j d e
   exact⟨v,hs j v hj e1,r.mono hN hN⟩
  ·cases e
 ·rcases hg j _ e with⟨hj,e⟩|e
  ·obtain⟨a,e1,e2,w⟩:=S.ow j d e
   exact⟨a,(hO j hj)▸e1,hs j _ hj e2,w.mono hN⟩
  ·cases e
 ·have hj:=Be.mp (S.par.1 j a e)
  obtain⟨d,q⟩:=S.dom j a (hle j a e)
  refine⟨d,?_⟩
  rw[A6 (by rw[Bw];omega),Bz hj]
  exact q
theorem zCX(ix:List Nat)(σ:St):(caps ix σ).length=ix.length:=by simp[caps]
theorem zJC{σ':St}(hl:ix.length<=σ'.length)(h: ∀i∈Ao ix.length,σ'[i]? =(caps ix σ++Aa nl none)[i]?):σ'.take ix.length=caps ix σ:=by
 refine K2 fun j=> ?_
 by_cases hj:j<ix.length
 ·rw[Bz hj,h j (Be.mpr hj),A6 (by rw[zCX];exact hj)]
 ·rw[Bp (by rw[Bw];omega),Bp (by rw[zCX];omega)]
theorem zOU{fi:VI}{gg:VG}{tb:VB}{fe:VF}(hnd:ix.Nodup){Q:VK}(h:TN K ml (pi && pt && pe) (zC8 ix nl fi gg tb fe) σ H Q):
  zSR ix nl (TIV K ml pi fi) (TGV K (Ao ix.length) gg) (TB K (Ao ix.length) pt tb) (TV K (Ao ix.length) pe true true fe) σ H Q:=by
 obtain⟨B,O,δ,d,δ2,S,q,k⟩:=h
 unfold zC8 at q
 cases h1:fi δ with
 | none => rw [h1] at q;cases q
 |some p=>
  obtain⟨ds,δ1⟩:=p
  rw[h1] at q
  have q : ((zBX ix.length nl gg tb fe ds [] (zB9 ix δ1)).map fun q => (Dat.lst q.1,zCN ix q.2 δ1)) = some (d,δ2) := q
  cases h2:zBX ix.length nl gg tb fe ds [] (zB9 ix δ1) with
  | none => rw [h2] at q;cases q
  |some z=>
   obtain⟨res,δf⟩:=z
   rw[h2] at q
   cases q
   refine⟨B,O,δ,ds,δ1,S,h1,fun J kps H0 S0 f0 p0 wk D hD=> ?_⟩
   have hDO : ∀ j,Oc ix O j ≠ some D := fun j e => by
    unfold Oc at e
    cases hi:ix[j]? with
    | none => rw [hi] at e;cases e
    |some i=>
     rw[hi] at e
     obtain⟨o,q⟩:=S0.nin (.inr ⟨i,e⟩)
     rw[hD] at q
     cases q
   have gc : ∀ kp j,ix.length <= j -> (Bc ix B O H0 D kp).mu j = none := fun kp j hj => by
    show(ix[j]?).bind O=none
    rw[Bp hj]
    rfl
   refine⟨fun i m acc H1=>m=ds.length - i/\i<=ds.length/\ ∃(ah:List Dat) (δc:Ev),δc.length=ix.length/\acc.length=ah.length∧
     Sta K (Ao ix.length) (Bc ix B O H0 D (kps++acc.zip ah)) (Oc ix O) H1 (caps ix σ++Aa nl none) (δc++nos nl)/\H1 D=some (.lst acc)/\((pt && pe)=true->Same H0 H1)∧
     zBX ix.length nl gg tb fe (ds.drop i) ah δc=some (res,δf),
    ⟨ds.length,rfl,Cv _,[],zB9 ix δ1,by simp [zB9],rfl,by
     rw[K3,Bi]
     exact S0.unkeep.inner hD hnd fun p hp=>S0.kep p (Az _ hp),zAG,fun _=>zA5 hD,h2⟩,?_⟩
   rintro i m acc H1 ⟨rfl,hi,ah,δc,hlc,au,S1,hD1,cv,hc⟩
   have w := wk (Nn (Bc ix B O H0 D (kps ++ acc.zip ah)) (Oc ix O)) H1 fun p hp => S1.kep p (Az _ hp)
   by_cases hlt:i<ds.length
   ·obtain ⟨go,yl⟩ := w.1 i ds[i] (by simp [hlt])
    rw[Dn hlt] at hc
    simp only[zBX] at hc
    cases g1:gg ds[i] (δc++nos nl) with
    | none => rw [g1] at hc;cases hc
    |some δ3=>
     rw[g1] at hc
     simp only[A7] at hc
     cases g2:tb δ3 with
     | none => rw [g2] at hc;cases hc
     |some z=>
      obtain⟨kk,δ4⟩:=z
      rw[g2] at hc
      simp only[A7] at hc
      refine .inr ⟨go,fun aw H'=> ∃(ah:List Dat) (δc:Ev),δc.length=ix.length/\aw.length=ah.length∧
       Sta K (Ao ix.length) (Bc ix B O H0 D (kps++aw.zip ah)) (Oc ix O) H' (caps ix σ++Aa nl none) (δc++nos nl)/\H' D=some (.lst aw)/\((pt && pe)=true->Same H0 H')∧
       zBX ix.length nl gg tb fe (ds.drop (i + 1)) ah δc = some (res,δf),fun aw H' w' => ⟨ds.length - (i + 1),by omega,rfl,hlt,w'⟩,fun x H2 hy => ?_⟩
      obtain⟨sm,rx⟩:=yl x H2 hy
      refine⟨_,_,_,ds[i],δ3,S1.same sm,rx,g1,fun σ3 O3 S3 m3=> ?_⟩
      have ln3:ix.length<=σ3.length:=by
       by_cases hz:ix.length=0
       ·omega
       ·have hj : ix.length - 1 < ix.length := by omega
        have:=m3 (ix.length - 1) (Be.mpr hj)
        have hs:(caps ix σ++Aa nl none)[ix.length - 1]? ≠none:=by
         rw [A6 (by rw [zCX];exact hj)]
         simp[caps,hj]
        rw[<- this] at hs
        have p5:ix.length - 1<σ3.length:=Ko fun z=>hs (Gv.mpr z)
        omega
      have hσ3:=zJC ln3 m3
      refine⟨hσ3,_,_,δ3,kk,δ4,S3,g2,fun H4 R4=> ?_⟩
      have hD4 : H4 D = some (.lst acc) := R4.frm _ _ (sm _ _ hD1) fun z => by
       obtain⟨j,e⟩:=z
       have:=(R4.sta.old j D e).1
       exact absurd (.inl (.inr rfl)) this
      have ln4 : ix.length <= δ4.length := by rw [<- R4.sta.len];exact ln3
      cases kk with
      |false=>
       rw[if_neg Cb] at hc
       refine iteF ⟨ah,δ4.take ix.length,by rw[Bw];omega,au,R4.sta.turn (gc _) (zCX ix σ) hσ3 ln4,hD4,fun z=> ?_,hc⟩
       exact((cv z).trans sm).trans (R4.pur ((A3 _ _).mp z).1)
      |true=>
       rw[if_pos rfl] at hc
       cases g3:fe δ4 with
       | none => rw [g3] at hc;cases hc
       |some z=>
        obtain⟨dv,δ5⟩:=z
        rw[g3] at hc
        simp only[A7] at hc
        split at hc
        ·rename_i hz
         refine iteT ⟨_,_,δ4,dv,δ5,R4.sta,g3,fun v H5 R5=> ?_⟩
         have hD5:H5 D=some (.lst acc):=R5.frm _ _ hD4 fun z=>by
          obtain⟨j,e⟩:=z
          have:=(R5.sta.old j D e).1
          exact absurd (.inl (.inr rfl)) this
         have ln5:ix.length<=δ5.length:=by rw[<- R5.sta.len];exact ln3
         have S6:=R5.sta.turn (nl:=nl) (gc _) (zCX ix σ) hσ3 ln5
         have hv:Rep K (Nn (Bc ix B O H0 D (kps++acc.zip ah)) (Oc ix O)) H5 (Nn (Bc ix B O H0 D (kps++acc.zip ah)) (Oc ix O)) v dv:=by
          have hN: ∀a,Nn (Bc ix B O H0 D (kps++acc.zip ah)) (Oc ix O) a->av (Bc ix B O H0 D (kps++acc.zip ah)) O3 true a:=fun a h=>by
           rcases h with h|⟨j,h⟩
           ·exact .inl h
           ·refine .inr ⟨j,?_⟩
            have hj:j∈Ao ix.length:=R5.sta.par.1 j a h
            rw[R5.sta.par.2 j hj]
            exact h
          exact R5.rep.mono hN hN
         have S7:=S6.withKp (kp:=kps++(acc++[v]).zip (ah++[dv])) fun p hp=>by
          rw[Lf au,<- Eb] at hp
          rcases Aw.mp hp with z|z
          ·exact S6.kep p z
          ·rw[Ah.mp (show p∈[(v,dv)] from z)]
           exact hv
         refine⟨hD5,by rw[au,Bb];exact hz,ah++[dv],δ5.take ix.length,by rw[Bw];omega,by simp[au],?_,zAG,fun z=> ?_,hc⟩
         ·exact S7.writeZ (.inl (.inr rfl)) hD5 hD
         ·intro b o e
          have hb:b≠D:=fun z=>by rw[z,hD] at e;cases e
          rw[zAU hb]
          obtain⟨z1,z2⟩:=(A3 _ _).mp z
          exact(((cv z).trans sm).trans ((R4.pur z1).trans (R5.pur z2))) b o e
        ·cases hc
   ·have e : i = ds.length := by omega
    subst e
    rw[Fm] at hc
    cases hc
    refine .inl ⟨w.2,k D H1 ?_⟩
    have fP:Fr (OA (Oc ix O)) H0 H1:=S1.frm
    have hPO: ∀a,OA (Oc ix O) a->OA O a:=fun a q0=>by
     obtain⟨j,e⟩:=q0
     unfold Oc at e
     cases hi:ix[j]? with
     | none => rw [hi] at e;cases e
     | some i => rw [hi] at e;exact ⟨i,e⟩
    have SL:=S0.unkeep.laid (o:= .lst acc) hD
    have fL:Fr (OA (Oc ix O)) (upd H0 D (.lst acc)) H1:=fun b o e n=>by
     by_cases hb:b=D
     ·subst hb
      rw[zAG] at e
      cases e
      exact hD1
     ·rw[zAU hb] at e
      exact fP b o e n
    refine⟨SL.call (zE0) (fun i=> ?_) fL hPO,f0.trans (fP.mono hPO),fun z=> ?_,.lst hD1 (zFH au fun p hp=>(S1.kep p (Ax _ hp)).mono zHT zHT),S0.unkeep.new hD,S0.fresh hD⟩
    ·by_cases gd:i<δ1.length
     ·rcases zE1 (ix:=ix) (ss:=δf) (δ:=δ1) i gd hlc.symm with⟨j,x,e1,e2,e3⟩|⟨e1,e2⟩
      ·have e4:(δf++nos nl)[j]? =some (.ow x):=by
        rw[A6 (A5.mp e2).1]
        exact e2
       obtain⟨a,e5,_,w⟩:=S1.ow j x e4
       refine .inr ⟨a,x,?_,e3,w.mono zHT⟩
       unfold Oc at e5
       rw[e1] at e5
       exact e5
      ·refine .inl ⟨e2,fun a ea ⟨j,ej⟩ => ?_⟩
       obtain⟨x,ex⟩:=S1.dom j a ej
       unfold Oc at ej
       cases hi:ix[j]? with
       |none=>rw[hi] at ej;cases ej
       |some i'=>
        rw[hi] at ej
        have:i=i':=S0.inj i i' a ea ej
        subst this
        have hj:j<δf.length:=by rw[hlc];exact(A5.mp hi).1
        rw[A6 hj] at ex
        exact e1 j x hi ex
     ·refine .inl ⟨?_,fun a ea => ?_⟩
      ·rw [Bp (by rw [zE0];omega),Bp (by omega)]
      ·obtain⟨x,ex⟩:=S0.dom i a ea
       exact absurd (A5.mp ex).1 gd
    ·simp only[A3] at z
     exact(p0 z.1.1).trans (cv (by simp[z.1.2,z.2]))
theorem zYR{Q:Bool->Hp->Prop}(h:TB K ml true bYes σ H Q):tYes σ H Q:=by
 obtain⟨B,O,δ,k,δ',S,q,w⟩:=h
 cases q
 exact w H (ResB.refl S)
theorem zMB{Y:Cx}{t:VB}(h:PT Y c (TB K ml pt t)):PTs Y [c] (TB K ml pt t):=zWH h
theorem zEB{Y:Cx}:PTs Y [] (TB K ml true bYes):=fun a6 s σ H Q I hw=>zWI a6 s σ H Q I (zYR hw)
theorem zYO{Q:VK}{o:Bool}(h:TX K ml (if o then xO f else xV f) σ H Q):TN K ml pu f σ H Q:=by
 obtain⟨B,O,δ,s,δ',S,q,k⟩:=h
 have e: ∃d,f δ=some (d,δ')/\s=if o then .ow d else .va d:=by
  cases o with
  |true=>
   have q:(f δ).map (fun p=>(Sl.ow p.1,p.2))=some (s,δ'):=q
   cases h1:f δ with
   |none=>rw[h1] at q;cases q
   |some p=>rw[h1] at q;cases q;exact⟨p.1,rfl,rfl⟩
  |false=>
   have q:(f δ).map (fun p=>(Sl.va p.1,p.2))=some (s,δ'):=q
   cases h1:f δ with
   |none=>rw[h1] at q;cases q
   |some p=>rw[h1] at q;cases q;exact⟨p.1,rfl,rfl⟩
 obtain⟨d,h1,hs⟩:=e
 refine⟨B,O,δ,d,δ',S,h1,fun p H' R=> ?_⟩
 cases o with
 |true=>
  cases hs
  have w:=R.own
  cases w with
  |lst q1 r=>exact k _ H' _ (R.sta.keepV (zFC r)) (.ol q1 r.length R.nz R.h0) R.frm
  |dct q1 r=>exact k _ H' _ (R.sta.keepV (zFC r)) (.od q1 (by simpa using r.length) R.nz R.h0) R.frm
 |false=>
  cases hs
  exact k _ H' _ (R.sta.unadd.keepV (ps:=[(.ref p,d)]) fun z hz=>by
   rw[Ah.mp hz]
   exact(R.own.mono zGX).rep R.nz) .va R.frm
theorem zUD{i:Nat}{x:VX}{te:TE}(hte: ∀σ H Q,TX K ml x σ H Q->te σ H Q)(hm:i∉ml){D:Ends}(h:TSt K ml (sSet i x) D σ H):tAsg te (zU0 i) D σ H:=by
 obtain⟨B,O,δ,o,S,q,k⟩:=h
 unfold sSet at q
 cases h1:x δ with
 | none => rw [h1] at q;cases q
 |some p=>
  obtain⟨s,δ1⟩:=p
  rw[h1] at q
  have q:(if i<δ1.length then some (Ou.nx (δ1.set i s)) else none)=some o:=q
  split at q
  ·rename_i hl
   cases q
   refine hte _ _ _ ⟨B,O,δ,s,δ1,S,h1,fun v H' B' S' h' f'=> ?_⟩
   obtain⟨O'',S''⟩:=h'.bind S' hm hl
   exact k _ _ _ S''
  ·cases q
end
abbrev DefV(P:Aj)(w:World)(K:A8)(mg:Str->Option Value)(base:Heap)(x:Str)(k:Nat)(ps:List Str)(mF:List Nat)(F:VFun)(f:Addr):Prop:=Def P w K mg base x k ps (spV K mF ps.length F) f
section
variable{X:Cx}{K:A8}{ml:List Nat}{e a b c:Expr}{es:List Expr}{pa ta ia pb tb ib pc tc ic pu bt bi ps bs:Bool}{fa fb fc f:VF}{B B':Bs}{O:Nat->Option Addr}{H H0 H1 H':Hp}{σ:St}{δ δ':Ev}{v:V}{d:Dat}{p:Addr}{pos:Pos}
theorem zAI{x:Str}(hg:Gl X x)(h: ∃u v,X.mg x=some u/\RelV v u/\ ∀N H M,Rep K N H M v d)(hd:(x==("__debug__":Str))=false:=by decide):PE X (.Name x pos) (TV K ml true true true (fC d)):=by
 obtain⟨u,v,h1,h2,h3⟩:=h
 exact ve_c (zWR hg h1 h2 hd) h3
def zZT(K:A8):R2:=fun x y H Q=> ∃a b xs ys,x= .ref a/\y= .ref b/\SqT K H a xs/\SqT K H b ys/\xs.length+ys.length<=sizeLine∧
 (xs=[]->Q (.ref b) H)/\(xs≠[]->ys=[]->Q (.ref a) H)/\(xs≠[]->ys≠[]-> ∀p,H p=none->Q (.ref p) (upd H p (.tup (xs++ys))))
theorem zWZ:OpR X (Dh .Add) (zZT X.K):=by
 intro a6 s σ H x y v u Q I rx ry h
 obtain⟨a,b,xs,ys,rfl,rfl,ha,hb,hz,q0,q1,q2⟩:=h
 cases rx
 cases ry
 obtain⟨its,r1,p1,_⟩:=I.tuple ha
 obtain⟨cw,r2,p2,_⟩:=I.tuple hb
 by_cases hx:xs=[]
 ·subst hx
  have e0:its=[]:=r1.nil_iff.mpr rfl
  subst e0
  obtain⟨⟨cls,dd,data,sl⟩,ho,hc,n,hd⟩:=id p1
  obtain⟨⟨mz,dd2,data2,sl2⟩,ho2,hc2,n2,hd2⟩:=id p2
  simp only at hc hd hc2 hd2
  subst hc hd hc2 hd2
  exact Ic ⟨_,ho,rfl⟩ ⟨_,ho2,rfl⟩ Ho Jk F0 Es (Ei _ _)
   (tuple_addW0 a b _ cw.toArray n n2 dd dd2 sl sl2 (by simp)) ⟨ho,ho2,⟨.ref b,H,I,rfl,q0 rfl⟩⟩
 ·refine HT.zY1 p1 p2 (fun z => hx (r1.nil_iff.mp z)) (fun z => ⟨.ref a,H,I,rfl,q1 hx (r2.nil_iff.mp z)⟩) (fun z => ?_) (by rw [<- r1.length,<- r2.length];exact hz)
  refine⟨.ref s.heap.objs.size,_,I.laid (t':=s.toks) (o:= .tup (xs++ys)) (fun b ob q=>A1 _ q) (Af _) ?_,rfl,q2 hx (fun w=>z (r2.nil_iff.mpr w)) _ (I.hok.fresh (Af _))⟩
  exact⟨by rw[Bf];exact hz,_,r1.append r2,G2 _ _⟩
def zZS(K:A8):R2:=fun x y H Q=> ∃l b xs zs,x= .ref l/\y= .ref b/\SqL K H l xs/\SqL K H b zs/\xs.length+zs.length<=sizeLine/\ ∀p,H p=none->Q (.ref p) (upd H p (.lst (xs++zs)))
theorem zWY:OpR X (Dh .Add) (zZS X.K):=by
 intro a6 s σ H x y v u Q I rx ry h
 obtain⟨l,b,xs,zs,rfl,rfl,hH,hB,hz,q⟩:=h
 cases rx
 cases ry
 obtain⟨its,r,p1,_⟩:=I.list hH
 obtain⟨cw,r2,p2,_⟩:=I.list hB
 obtain⟨⟨cls,dd,data,sl⟩,n,ho,hc,_,hd⟩:=id p1
 obtain⟨⟨mz,dd2,data2,sl2⟩,n2,ho2,hc2,_,hd2⟩:=id p2
 simp only at hc hd hc2 hd2
 subst hc hd hc2 hd2
 have ea:its.toArray++cw.toArray=(its++cw).toArray:=by simp
 have hl:=r.length
 have hl2:=r2.length
 refine Ic ⟨_,ho,rfl⟩ ⟨_,ho2,rfl⟩ noFill_list_add seq_list_add PySem.F.slot_list_add PySem.F.entry_list_add (PySem.F.args_list_add_2 _ _) (list_addW l b its.toArray cw.toArray n n2 dd dd2 sl sl2 (by rw[Ad,Ad,<- hl,<- hl2];exact hz)) ⟨ho,ho2,?_⟩
 rw[ea]
 exact⟨.ref _,_,I.lnew (t':=s.toks) (r.append r2) (by rw[Bf];omega),rfl,q _ I.fresh⟩
def zZR(K:A8):R2:=fun x y H Q=>((rI0 (fun i j=> .int (i+j)) x y H Q∨zZT K x y H Q)∨zZS K x y H Q)∨ ∃i j,x= .str i/\y= .str j/\i.length+j.length<=sizeLine/\Q (.str (i++j)) H
theorem zCM(h:X.K=K):OpR X (Dh .Add) (zZR K):=by subst h;exact((yAN.or zWZ).or zWY).or zNS
noncomputable def zBL:Dat->Dat->Option Dat
 | .int i,.int j=>some (.int (i+j))
 | .tup ds,.tup es=>if ds.length+es.length<=16777216 then some (.tup (ds++es)) else none
 | .lst ds,.lst es=>if ds.length+es.length<=16777216 then some (.lst (ds++es)) else none
 | .str x,.str y=>if x.length+y.length<=16777216 then some (.str (x++y)) else none
 |_,_=>none
theorem Rep.tupE{N M:Addr->Prop}{ds:List Dat}(h:Rep K N H M v (.tup ds)): ∃a xs,v= .ref a/\SqT K H a xs/\RepA K N H xs ds:=by
 cases h with
 |tup q r=>exact⟨_,_,rfl,q,r⟩
theorem Rep.lstE{N M:Addr->Prop}{ds:List Dat}(h:Rep K N H M v (.lst ds)): ∃a xs,v= .ref a/\SqL K H a xs/\RepA K N H xs ds:=by
 cases h with
 |lst q n r=>exact⟨_,_,rfl,SqL.of q,r⟩
 |fzl q r=>exact⟨_,_,rfl,q.sq,r⟩
theorem zBO:OpC K (zZR K) zBL:=by
 intro H N M M' x y d e c Q hx hy h k
 cases d with
 |int i=>
  cases e with
  |int j=>
   cases h
   cases hx
   cases hy
   exact .inl (.inl (.inl ⟨_,_,rfl,rfl,k _ _ (Same.refl _) fun _ _=> .int _⟩))
  | _ => cases h
 |str i=>
  cases e with
  |str j=>
   simp only[zBL] at h
   split at h
   ·cases h
    cases hx
    cases hy
    exact .inr ⟨_,_,rfl,rfl,by rw[Bb];assumption,k _ _ (Same.refl _) fun _ _=> .str _⟩
   ·cases h
  | _ => cases h
 |tup ds=>
  cases e with
  |tup es=>
   simp only[zBL] at h
   split at h
   ·rename_i hz
    cases h
    obtain⟨a,xs,rfl,q1,r1⟩:=hx.tupE
    obtain⟨b,ys,rfl,q2,r2⟩:=hy.tupE
    refine .inl (.inl (.inr ⟨a,b,xs,ys,rfl,rfl,q1,q2,by rw[r1.length,r2.length,Bb];exact hz,fun z=> ?_,fun z1 z2=> ?_,fun z1 z2 p hp=> ?_⟩))
    ·subst z
     have:ds=[]:=Dz.mp r1.length.symm
     subst this
     exact k _ _ (Same.refl _) fun M hM=> .tup q2 r2
    ·subst z2
     have:es=[]:=Dz.mp r2.length.symm
     subst this
     rw[Bi] at k
     exact k _ _ (Same.refl _) fun M hM=> .tup q1 r1
    ·exact k _ _ (zA5 hp) fun M hM => .tup (SqT.of zAG) ((r1.append r2).same (zA5 hp))
   ·cases h
  | _ => cases h
 |lst ds=>
  cases e with
  |lst es=>
   simp only[zBL] at h
   split at h
   ·rename_i hz
    cases h
    obtain⟨a,xs,rfl,q1,r1⟩:=hx.lstE
    obtain⟨b,ys,rfl,q2,r2⟩:=hy.lstE
    exact .inl (.inr ⟨a,b,xs,ys,rfl,rfl,q1,q2,by rw[r1.length,r2.length,Bb];exact hz,fun p hp=>k _ _ (zA5 hp) fun M hM=> .lst zAG (fun z=>by
     obtain⟨o,q⟩:=hM _ z
     rw[hp] at q
     cases q) ((r1.append r2).same (zA5 hp))⟩)
   ·cases h
  |_=>cases h
 |_=>cases h
def zUR:A8->R2:=fun _=>rI CMul fun i j=> .int (i*j)
theorem zK8(h:X.K=K):OpR X (Dh .Mult) (zUR K):=yAK
noncomputable abbrev zHR:=oMul
theorem zHG:OpC K (zUR K) zHR:=by
 intro H N M M' x y d e c Q hx hy h k
 exact yDL H N N M M' x y d e c Q hx hy h fun v hv=>k v H (Same.refl _) fun M _=>hv _ _ _
noncomputable def keyD:Dat->Option Key
 | .int i=>some (.inl i)
 | .str x=>some (.inr x)
 |_=>none
theorem Rep.key{N M:Addr->Prop}{k:Key}(h:Rep K N H M v d)(e:keyD d=some k):v=kV k:=by
 cases h<;>first
  |(cases e;rfl)
  |cases e
noncomputable def zBI(ks:List Key)(ds:List Dat)(k:Key):Option Dat:=match ks,ds with
 |k'::ks,d::ds=>if k'=k then some d else zBI ks ds k
 |_,_=>none
theorem zGJ{N:Addr->Prop}{k:Key}: ∀{kvs:List (Key×V)} {ds:List Dat},RepA K N H (kvs.map Cy) ds→
  (∃v d,valV kvs k=some v/\zBI (kvs.map Ca) ds k=some d/\Rep K N H N v d)∨(valV kvs k=none/\zBI (kvs.map Ca) ds k=none)
 | [],_,.nil => .inr ⟨rfl,rfl⟩
 | (k',v) :: kvs,_,.cons h t => by
  by_cases hk:k'=k
  ·refine .inl ⟨v,_,zGE (p:=(k',v)) hk,?_,h⟩
   simp[zBI,hk]
  ·rcases zGJ (k:=k) t with⟨v',d',h1,h2,h3⟩|⟨h1,h2⟩
   ·exact .inl ⟨v',d',(zEV (p:=(k',v)) hk).trans h1,by simpa[zBI,hk] using h2,h3⟩
   ·exact .inr ⟨(zEV (p:=(k',v)) hk).trans h1,by simpa[zBI,hk] using h2⟩
theorem yFE(hu:X.A.units+1<cLine):IxR X (fun x y H Q=> ∃a v,x= .ref a/\DGet H a y (some v)/\Q v H):=by
 intro value slice a6 s σ H x y v u Q I rx ry h hs
 obtain⟨a,w,rfl,g,q⟩:=h
 cases rx
 exact Mc (zLT I g) PySem.F.slot_dict_getitem.lookup (zRN hu I g ry fun w' s3 I3 rw'=>⟨w,H,I3,rw',q⟩) hs
def rIxA(K:A8):R2:=fun x y H Q=>(rIx K x y H Q∨ ∃a v,x= .ref a/\DGet H a y (some v)/\Q v H)∨ ∃a k D v,x= .ref a/\y= .str k/\KTab K a D/\Dm k D=some v/\Q v H
theorem kIxA(h:X.K=K)(hu:X.A.units+1<cLine):IxR X (rIxA K):=by subst h;exact(yC6.or (yFE hu)).or zXO
noncomputable def oIxA:Dat->Dat->Option Dat
 | .tup ds,.int i=>atI ds i
 | .lst ds,.int i=>atI ds i
 | .dct ks ds,e=>(keyD e).bind (zBI ks ds)
 | .str z,.int i=>if z.length<=16777216 then(atI z.cps.toList i).map fun c=> .str ⟨#[c]⟩ else none
 |_,_=>none
theorem zHA{N:Addr->Prop}{k:Str}: ∀{D:List (Str×V)} {ds:List Dat},RepA K N H (D.map Cy) ds→
  (∃ v d,Dm k D = some v /\ zBI (D.map fun p => .inr p.1) ds (.inr k) = some d /\ Rep K N H N v d) ∨ (Dm k D = none /\ zBI (D.map fun p => .inr p.1) ds (.inr k) = none)
 | [],_,.nil => .inr ⟨rfl,rfl⟩
 | (k',v) :: D,_,.cons h t => by
  by_cases hk:k'=k
  ·subst hk
   exact .inl ⟨v,_,by simp[Dm],by simp[zBI],h⟩
  ·have hk2 : ¬ k = k' := fun z => hk z.symm
   rcases zHA (k:=k) t with⟨v',d',h1,h2,h3⟩|⟨h1,h2⟩
   ·exact .inl ⟨v',d',by simpa[Dm,hk,hk2] using h1,by simpa[zBI,hk] using h2,h3⟩
   ·exact .inr ⟨by simpa[Dm,hk,hk2] using h1,by simpa[zBI,hk] using h2⟩
theorem zMV{i:Int}: ∀{D:List (Str×V)} {ds:List Dat},zBI (D.map fun p=> .inr p.1) ds (.inl i)=none
 |[],_=>by simp[zBI]
 |_::_,[]=>by simp[zBI]
 |p::D,d::ds=>by simpa[zBI] using zMV (D:=D) (ds:=ds)
theorem yFH:OpI K (rIxA K) oIxA:=by
 intro H N N' M M' x y d e c Q hx hy h k
 have seq : ∀ ds i,seqD d = some ds -> e = .int i -> atI ds i = some c -> rIxA K x y H Q := fun ds i h1 h2 h3 => by
  subst h2
  cases hy
  obtain⟨a,xs,rfl,sq,r⟩:=hx.seq h1
  obtain⟨v,hv,rv⟩:=zY8 r h3
  rcases sq with sq|sq
  ·exact .inl (.inl (.inl ⟨a,xs,i,v,rfl,rfl,sq,hv,k v rv⟩))
  ·exact .inl (.inl (.inr (.inl ⟨a,xs,i,v,rfl,rfl,sq,hv,k v rv⟩)))
 cases d with
 |tup ds=>
  cases e with
  | int i => exact seq ds i rfl rfl h
  | _ => cases h
 |lst ds=>
  cases e with
  | int i => exact seq ds i rfl rfl h
  | _ => cases h
 |str z=>
  cases e with
  |int i=>
   simp only[oIxA] at h
   split at h
   ·cases hc:atI z.cps.toList i with
    | none => rw [hc] at h;cases h
    |some ch=>
     rw[hc] at h
     cases h
     cases hx
     cases hy
     exact .inl (.inl (.inr (.inr ⟨z,i,ch,rfl,rfl,by rw[Bb];assumption,hc,k _ (.str _)⟩)))
   ·cases h
  | _ => cases h
 |dct ks ds=>
  simp only[oIxA] at h
  cases hk:keyD e with
  | none => rw [hk] at h;cases h
  |some kk=>
   rw[hk] at h
   have h:zBI ks ds kk=some c:=h
   have ey:=hy.key hk
   subst ey
   cases hx with
   |dct q n r=>
    rcases zGJ (k:=kk) r with⟨v,d',h1,h2,h3⟩|⟨h1,h2⟩
    ·rw[h] at h2
     cases h2
     exact .inl (.inr ⟨_,v,rfl,h1▸DGet.k q,k v h3⟩)
    ·rw[h] at h2;cases h2
   |ktb T r=>
    cases kk with
    | inl i => rw [zMV] at h;cases h
    |inr x=>
     rcases zHA (k:=x) r with⟨v,d',h1,h2,h3⟩|⟨h1,h2⟩
     ·rw[h] at h2
      cases h2
      exact .inr ⟨_,x,_,v,rfl,rfl,T,h1,k v h3⟩
     ·rw[h] at h2;cases h2
 |_=>cases h
noncomputable def ownD(δ:Ev)(i:Nat):Option (List Key×List Dat):=match δ[i]? with
 |some (.ow (.dct ks ds))=>some (ks,ds)
 |_=>none
theorem zEZ{i:Nat}{ks:List Key}{ds:List Dat}(h:ownD δ i=some (ks,ds)):δ[i]? =some (.ow (.dct ks ds)):=by
 unfold ownD at h
 split at h
 ·cases h;assumption
 ·cases h
noncomputable def zN6(i:Nat)(fk fx:VF):VF:=fun δ=>(ownD δ i).bind fun _=>(fk δ).bind fun p=>(fx p.2).bind fun q=>(keyD p.1).bind fun k=>(ownD q.2 i).map fun z=>((zBI z.1 z.2 k).getD q.1,q.2)
theorem zSG{i:Nat}{fk fx:VF}{ai a8:Pos}(hu:X.A.units+1<cLine)(ho:PE X a (tVar i))(hk:PE X b (TV K ml pa ta ia fk))(hx:PE X c (TV K ml pb true true fx))(m:M2 X a "get" ai b c a8):
  PE X (.Call (.Attribute a "get" ai) [b,c] [] a8) (TV K ml (pa && pb) true true (zN6 i fk fx)) := (zTB hu ho hk hx m).imp fun σ H Q ⟨B,O,δ,d,δ3,S,q,k⟩ => by
 unfold zN6 at q
 cases h0:ownD δ i with
 | none => rw [h0] at q;cases q
 |some z0=>
  obtain⟨ks0,ds0⟩:=z0
  rw[h0] at q
  cases h1:fk δ with
  | none => simp [h1] at q
  |some p1=>
   obtain⟨y,δ1⟩:=p1
   simp only[A7,h1] at q
   cases h2:fx δ1 with
   | none => simp [h2] at q
   |some p2=>
    obtain⟨z,δ2⟩:=p2
    simp only[A7,h2] at q
    cases h3:keyD y with
    | none => simp [h3] at q
    |some kk=>
     simp only[A7,h3] at q
     cases h4:ownD δ2 i with
     | none => simp [h4] at q
     |some zz=>
      obtain⟨ks,ds⟩:=zz
      simp only[h4] at q
      cases q
      obtain⟨l,e1,e2,w⟩:=S.ow i _ (zEZ h0)
      refine⟨.ref l,e2,l,rfl,?_,B,O,δ,y,δ1,S,h1,fun v1 H1 R1=>⟨B,O,δ1,z,_,R1.sta,h2,fun v2 H2 R2=> ?_⟩⟩
      ·generalize hw:Dat.dct ks0 ds0=dd at w
       cases w with
       |lst _ _=>cases hw
       |dct q _=>exact .inl ⟨_,.inl q⟩
      ·have ey:=R1.rep.key h3
       subst ey
       obtain⟨l',e3,_,w2⟩:=R2.sta.ow i _ (zEZ h4)
       rw[e1] at e3
       cases e3
       have fin: ∀o,Rep K (Nn B O) H2 (Nn B O) (o:V) ((zBI ks ds kk).getD z)->Q o H2:=fun o ho=>k o H2 ⟨R2.sta,R1.frm.trans R2.frm,fun z=>by
        obtain⟨z1,z2⟩:=(A3 _ _).mp z
        exact(R1.pur z1).trans (R2.pur z2),ho⟩
       generalize hw:Dat.dct ks ds=dd at w2
       cases w2 with
       |lst _ _=>cases hw
       |dct q r=>
        cases hw
        refine⟨_,DGet.k q,fin _ ?_⟩
        rcases zGJ (k:=kk) r with⟨v,d',g1,g2,g3⟩|⟨g1,g2⟩
        ·rw[g1,g2];exact g3
        ·rw[g1,g2];exact R2.rep
noncomputable def zDE:List Key->List Dat->Key->Dat->List Key×List Dat
 |k'::ks,d::ds,k,v=>if k'=k then(k'::ks,v::ds) else let r:=zDE ks ds k v;(k'::r.1,d::r.2)
 |_,_,k,v=>([k],[v])
noncomputable def zPD(i:Nat)(fk fv:VF):VS:=fun δ=>(fv δ).bind fun p=>(ownD p.2 i).bind fun _=>(fk p.2).bind fun q=>(keyD q.1).bind fun k=>(ownD q.2 i).bind fun z=>if z.1.length<16777216/\z.1.Nodup then some (.nx (q.2.set i (.ow (let r:=zDE z.1 z.2 k p.1;.dct r.1 r.2)))) else none
theorem zJV{N:Addr->Prop}{k:Key}{v:V}(h:Rep K N H N v d): ∀{kvs:List (Key×V)} {ds:List Dat},(kvs.map Ca).Nodup->RepA K N H (kvs.map Cy) ds→
  (putK kvs k v).map Ca=(zDE (kvs.map Ca) ds k d).1/\RepA K N H ((putK kvs k v).map Cy) (zDE (kvs.map Ca) ds k d).2
 | [],_,_,.nil => ⟨rfl,.cons h .nil⟩
 | (k',u) :: kvs,_,nd,.cons hu t => by
  obtain⟨n1,n2⟩:=Bv.mp nd
  by_cases hk:k'=k
  ·subst hk
   have e:putK ((k',u)::kvs) k' v=(k',v)::kvs:=by
    unfold putK
    rw[if_pos (by simp)]
    simp only[An,if_true]
    congr 1
    refine(G7 fun p hp=> ?_).trans (List.map_id _)
    have:p.1≠k':=fun z=>n1 (C3.mpr ⟨p,hp,z⟩)
    simp[this]
   rw[e]
   exact⟨by simp[zDE],by simpa[zDE] using RepA.cons h t⟩
  ·obtain⟨h1,h2⟩:=zJV (k:=k) h n2 t
   have e:putK ((k',u)::kvs) k v=(k',u)::putK kvs k v:=by
    unfold putK
    simp only[Ft,hk,decide_false,Me]
    split
    ·simp[hk]
    ·rfl
   rw[e]
   exact⟨by simpa[zDE,hk] using h1,by simpa[zDE,hk] using RepA.cons hu h2⟩
theorem zJT{N:Addr->Prop}{l:Addr}{o:HO}{xs:List V}{ds:List Dat}{kvs:List (Key×V)}(ho:H l=some (.dK kvs))(hN:N l)(h:RepA K N H xs ds):RepA K N (upd H l o) xs ds:=
 h.fr (P:=fun b=>b=l) (fun b u q n=>by
  by_cases hb:b=l
  ·subst hb
   rw[ho] at q
   cases q
   exact absurd (n rfl) fun z=>z
  ·rw[zAU hb]
   exact q) fun a z=>z▸hN
theorem zOL{i:Nat}{fk fv:VF}{ap:Pos}(hu:X.A.units+1<cLine)(ho:PE X a (tVar i))(hk:PE X b (TV K ml pa ta ia fk))(hv:PE X c (TV K ml pb true true fv))(hs:Ec c (some (.Subscript a b ap)) pos.line X.env=pure false):
  PS X (.Assign [.Subscript a b ap] c pos) (TSt K ml (zPD i fk fv)) := (zWL hu ho hk hv hs).imp fun D σ H ⟨B,O,δ,o,S,q,k⟩ => by
 unfold zPD at q
 cases h1:fv δ with
 | none => rw [h1] at q;cases q
 |some p1=>
  obtain⟨z,δ1⟩:=p1
  rw[h1] at q
  have q : ((ownD δ1 i).bind fun _ => (fk δ1).bind fun q => (keyD q.1).bind fun k => (ownD q.2 i).bind fun z_1 => if z_1.1.length < 16777216 /\ z_1.1.Nodup then some (Ou.nx (q.2.set i (.ow (let r := zDE z_1.1 z_1.2 k z;.dct r.1 r.2)))) else none) = some o := q
  cases h0:ownD δ1 i with
  | none => rw [h0] at q;cases q
  |some z0=>
  obtain⟨ks0,ds0⟩:=z0
  rw[h0] at q
  cases h2:fk δ1 with
  | none => simp [h2] at q
  |some p2=>
   obtain⟨y,δ2⟩:=p2
   simp only[A7,h2] at q
   cases h3:keyD y with
   | none => simp [h3] at q
   |some kk=>
    simp only[A7,h3] at q
    cases h4:ownD δ2 i with
    | none => simp [h4] at q
    |some zz=>
     obtain⟨ks,ds⟩:=zz
     simp only[h4,A7] at q
     split at q
     ·rename_i hz
      cases q
      refine⟨B,O,δ,z,δ1,S,h1,fun v1 H1 R1=> ?_⟩
      obtain⟨l,e1,e2,_⟩:=R1.sta.ow i _ (zEZ h0)
      refine⟨.ref l,e2,B,O,δ1,y,δ2,R1.sta,h2,fun v2 H2 R2=> ?_⟩
      have ey:=R2.rep.key h3
      subst ey
      obtain⟨l',e3,_,w2⟩:=R2.sta.ow i _ (zEZ h4)
      rw[e1] at e3
      cases e3
      generalize hw:Dat.dct ks ds=dd at w2
      cases w2 with
      |lst _ _=>cases hw
      |dct qd r=>
       cases hw
       have rv:=R1.rep.fr R2.frm (fun a z=> .inr z) fun a z=> .inr z
       obtain⟨g1,g2⟩:=zJV (k:=kk) rv hz.2 r
       refine⟨l,_,rfl,DPut.k qd (by rw[Bb];simpa using hz.1),k σ _ O (R2.sta.wrote e1 (fun z=>z) ?_)⟩
       have w:Own K (Nn B O) (upd H2 l (.dK (putK _ kk v1))) l (.dct ((putK _ kk v1).map Ca) _):= .dct zAG (zJT qd (.inr ⟨i,e1⟩) g2)
       rw[g1] at w
       exact w
     ·cases q
end
section
variable{X:Cx}{K:A8}{ml:List Nat}{e a b c:Expr}{es:List Expr}{pa ta ia pb tb ib pc tc ic pu bt bi ps bs:Bool}{fa fb fc f:VF}{B B':Bs}{O:Nat->Option Addr}{H H0 H1 H':Hp}{σ:St}{δ δ':Ev}{v:V}{d:Dat}{p:Addr}{pos:Pos}
def yD6(i j k:Nat)(ta:TA):TS:=fun D σ H=>ta σ H fun vs H1=> ∃v w u,vs=[v,w,u]/\D.nx (((σ.set i (some v)).set j (some w)).set k (some u)) H1
theorem zWK{i j k:Nat}{x y z:Str}{a b c:Expr}{ta:TA}{px py pz pt:Pos}{kt k2 pt2}(hc:X.calm=true)(hN:X.N.Nodup)(hi:X.N[i]? =some x)(hj:X.N[j]? =some y)(hk:X.N[k]? =some z)(hij:i≠j)(hik:i≠k)(hjk:j≠k)
  (hx:X.env.scope.names.lookup x=some .local) (hy:X.env.scope.names.lookup y=some .local) (hz:X.env.scope.names.lookup z=some .local) (ha:PA X [a,b,c] ta)
  (hw:Dg [.Tuple [.Name x px,.Name y py,.Name z pz] kt pt] (.Tuple [a,b,c] k2 pt2) X.env=pure (some [x,y,z]))
  (hs : Df [.Tuple [.Name x px,.Name y py,.Name z pz] kt pt] (.Tuple [a,b,c] k2 pt2) pos.line X.env = pure false := by rfl) :
  PS X (.Assign [.Tuple [.Name x px,.Name y py,.Name z pz] kt pt] (.Tuple [a,b,c] k2 pt2) pos) (yD6 i j k ta):=by
 intro a6 s σ H D I h
 rw[exec_Assign_arm]
 refine A0 (E8 ?_)
 rw[hs]
 refine A0 (A9 ?_)
 rw [if_neg (by decide)]
 refine A0 (Tuple_ (thn (ha _ a6 s σ H _ I h) fun us s1 ⟨vs,H1,I1,r1,q1⟩=> ?_))
 obtain⟨v,w,u,e1,q1⟩:=q1
 subst e1
 obtain⟨u1,u2,u3,rfl,rv,rw',ru⟩: ∃u1 u2 u3,us=[u1,u2,u3]/\RelV v u1/\RelV w u2/\RelV u u3:=by
  cases r1 with
  |cons p q=>
   cases q with
   |cons p' q'=>
    cases q' with
    |cons p'' q''=>
     cases q''
     exact⟨_,_,_,rfl,p,p',p''⟩
 refine C6 ?_ (by show 3<=sizeLine;decide)
 have I2:Inv X a6 σ H1 {s1 with heap:=s1.heap.push {cls:= .type "tuple",data:= .seq [u1,u2,u3].toArray}}:=I1.kept (t':=s1.toks) fun b o e=>A1 _ e
 rw[hw]
 refine A0 (A9 ?_)
 show wpAny (model X.prog X.w) X.A (do rule "assign.swapped-stores";let items<- G1 (.ref s1.heap.objs.size) 3 none;assignInOrder [fun v=>Fp X.env z v,fun v=>Fp X.env y v,fun v=>Fp X.env x v] items.reverse;pure Flow.next) _ _ _
 refine A0 (F4 (A0 (Jv (items:= #[u1,u2,u3]) (I.ok.hd hc) (G2 s1.heap _) fun h' hx'=> ?_)))
 have I3:=I2.kept (h':=h') (t':=s1.toks) fun b o e=>hx' b o (Aq (Ae e)) e
 show wpAny _ _ (assignInOrder [fun v=>Fp X.env z v,fun v=>Fp X.env y v,fun v=>Fp X.env x v] [u3,u2,u1]>>=fun _=>pure Flow.next) _ _ _
 refine A0 (Ck (Fe (zCD I3 hN hk (.inl hz) ru (fun s2 I4=> ?_) (.inr hz))))
 refine Ck (Fe (zCD I4 hN hj (.inl hy) rw' (fun s3 I5=> ?_) (.inr hy)))
 refine Ck (Fe (zCD I5 hN hi (.inl hx) rv (fun s4 I6=>F3 (A9 ?_)) (.inr hx)))
 rw[Cw _ _ (Cc hij),Cw _ _ (Cc hik),Cw _ _ (Cc hjk)] at I6
 exact⟨_,H1,I6,q1⟩
noncomputable def zLB(i j k:Nat)(x y z:VX):VS:=fun δ=>(x δ).bind fun p=>(y p.2).bind fun q=>(z q.2).bind fun r=>if i<r.2.length/\j<r.2.length/\k<r.2.length then some (.nx (((r.2.set k r.1).set j q.1).set i p.1)) else none
theorem zJQ{i j k:Nat}{x y z:VX}{o:Ou}(h:zLB i j k x y z δ=some o): ∃s1 δ1 s2 δ2 s3 δ3,x δ=some (s1,δ1)/\y δ1=some (s2,δ2)/\z δ2=some (s3,δ3)/\(i<δ3.length/\j<δ3.length/\k<δ3.length)/\o= .nx (((δ3.set k s3).set j s2).set i s1):=by
 unfold zLB at h
 cases h1:x δ with
 | none => rw [h1] at h;cases h
 |some p=>
  rw[h1] at h
  cases h2:y p.2 with
  | none => simp [h2] at h
  |some q=>
   simp only[A7,h2] at h
   cases h3:z q.2 with
   | none => simp [h3] at h
   |some r=>
    simp only[A7,h3] at h
    split at h
    ·cases h
     exact⟨p.1,p.2,q.1,q.2,r.1,r.2,rfl,h2,h3,by assumption,rfl⟩
    ·cases h
theorem zVV{i j k:Nat}{x y z:Str}{fx fy fz:VX}{px py pz pt:Pos}{kt k2 pt2}(hc:X.calm=true)(hN:X.N.Nodup)(hi:X.N[i]? =some x)(hj:X.N[j]? =some y)(hk:X.N[k]? =some z)(hij:i≠j)(hik:i≠k)(hjk:j≠k)
  (hx:X.env.scope.names.lookup x=some .local) (hy:X.env.scope.names.lookup y=some .local) (hz:X.env.scope.names.lookup z=some .local) (ha:PE X a (TX K ml fx)) (hb:PE X b (TX K ml fy)) (hcc:PE X c (TX K ml fz))
  (hw:Dg [.Tuple [.Name x px,.Name y py,.Name z pz] kt pt] (.Tuple [a,b,c] k2 pt2) X.env=pure (some [x,y,z])) (hmi:i∉ml:=by decide) (hmj:j∉ml:=by decide) (hmk:k∉ml:=by decide)
  (hs:Df [.Tuple [.Name x px,.Name y py,.Name z pz] kt pt] (.Tuple [a,b,c] k2 pt2) pos.line X.env=pure false:=by rfl)
  (he:starEach (a::[b,c]) X.env=(false,eval a X.env)::starEach [b,c] X.env:=by rfl) (he2:starEach (b::[c]) X.env=(false,eval b X.env)::starEach [c] X.env:=by rfl) (he3:starEach (c::[]) X.env=(false,eval c X.env)::starEach [] X.env:=by rfl):
  PS X (.Assign [.Tuple [.Name x px,.Name y py,.Name z pz] kt pt] (.Tuple [a,b,c] k2 pt2) pos) (TSt K ml (zLB i j k fx fy fz)):=(zWK hc hN hi hj hk hij hik hjk hx hy hz (zAQ ha (zAQ hb (zAQ hcc zBT he3) he2) he) hw hs).imp fun D σ H ⟨B,O,δ,o,S,q,k⟩=>by
 obtain⟨s1,δ1,s2,δ2,s3,δ3,h1,h2,h3,hl,rfl⟩:=zJQ q
 refine⟨B,O,δ,s1,δ1,S,h1,fun v H1 B1 S1 w1 f1=>⟨B1,O,δ1,s2,δ2,S1,h2,fun v2 H2 B2 S2 w2 f2=>⟨B2,O,δ2,s3,δ3,S2,h3,fun v3 H3 B3 S3 w3 f3=>⟨v,v2,v3,rfl,?_⟩⟩⟩⟩
 obtain⟨O4,S4⟩:=w3.bind S3 hmk hl.2.2
 obtain⟨O5,S5⟩:=(w2.fr f3).bind S4 hmj (by rw[B9];exact hl.2.1)
 obtain⟨O6,S6⟩:=((w1.fr f2).fr f3).bind S5 hmi (by rw[B9,B9];exact hl.1)
 rw[Cw _ _ (Cc hij),Cw _ _ (Cc hik),Cw _ _ (Cc hjk)] at S6
 exact k _ _ _ S6
theorem zVT{i j k:Nat}{x y z:Str}{fx fy fz:VX}{px py pz pt:Pos}{kt k2 pt2}(hK:X.K=K)(hc:X.calm=true)(hN:X.N.Nodup)(hi:X.N[i]? =some x)(hj:X.N[j]? =some y)(hk:X.N[k]? =some z)(hij:i≠j)(hik:i≠k)(hjk:j≠k)
  (hx:Loc X.env.scope x) (hy:Loc X.env.scope y) (hz:Loc X.env.scope z) (ha:PE X a (TX K ml fx)) (hb:PE X b (TX K ml fy)) (hcc:PE X c (TX K ml fz))
  (hmi:i∉ml:=by decide) (hmj:j∉ml:=by decide) (hmk:k∉ml:=by decide)
  (hs:Df [.Tuple [.Name x px,.Name y py,.Name z pz] kt pt] (.Tuple [a,b,c] k2 pt2) pos.line X.env=pure false:=by rfl)
  (hw:Dg [.Tuple [.Name x px,.Name y py,.Name z pz] kt pt] (.Tuple [a,b,c] k2 pt2) X.env=pure none:=by rfl)
  (hn:(assignEach [.Name x px,.Name y py,.Name z pz] X.env).length=3:=by rfl) (hst:(assignEach [.Name x px,.Name y py,.Name z pz] X.env).findIdx? (·.1)=none:=by rfl)
  (g1:(assignEach [.Name x px,.Name y py,.Name z pz] X.env).map (·.2)=assign (.Name x px) X.env::(assignEach [.Name y py,.Name z pz] X.env).map (·.2):=by rfl)
  (g2:(assignEach [.Name y py,.Name z pz] X.env).map (·.2)=assign (.Name y py) X.env::(assignEach [.Name z pz] X.env).map (·.2):=by rfl)
  (g3:(assignEach [.Name z pz] X.env).map (·.2)=assign (.Name z pz) X.env::(assignEach [] X.env).map (·.2):=by rfl)
  (fx':X.fn x=true∨X.env.scope.names.lookup x=some .local:=by first|exact .inl rfl|exact .inr rfl|assumption) (fy':X.fn y=true∨X.env.scope.names.lookup y=some .local:=by first|exact .inl rfl|exact .inr rfl|assumption) (fz':X.fn z=true∨X.env.scope.names.lookup z=some .local:=by first|exact .inl rfl|exact .inr rfl|assumption)
  (h1:(assignEach [.Tuple [.Name x px,.Name y py,.Name z pz] kt pt] X.env).map (·.2)=[assign (.Tuple [.Name x px,.Name y py,.Name z pz] kt pt) X.env]:=by rfl)
  (he:starEach (a::[b,c]) X.env=(false,eval a X.env)::starEach [b,c] X.env:=by rfl) (he2:starEach (b::[c]) X.env=(false,eval b X.env)::starEach [c] X.env:=by rfl) (he3:starEach (c::[]) X.env=(false,eval c X.env)::starEach [] X.env:=by rfl):
  PS X (.Assign [.Tuple [.Name x px,.Name y py,.Name z pz] kt pt] (.Tuple [a,b,c] k2 pt2) pos) (TSt K ml (zLB i j k fx fy fz)):=
 (zMN (zUW (zAQ ha (zAQ hb (zAQ hcc zBT he3) he2) he)) (yBV (K := K) hK hc (zGI (zID hN hi hx fx') (zGI (zID hN hj hy fy') (zGI (zID hN hk hz fz') zQ6 g3) g2) g1) hn hst) hs hw h1).imp fun D σ H q0 => by
  obtain⟨B,O,δ,o,S,q,k⟩:=q0
  obtain⟨s1,δ1,s2,δ2,s3,δ3,h1,h2,h3,hl,rfl⟩:=zJQ q
  refine⟨B,O,δ,s1,δ1,S,h1,fun v H1 B1 S1 w1 f1=>⟨B1,O,δ1,s2,δ2,S1,h2,fun v2 H2 B2 S2 w2 f2=>⟨B2,O,δ2,s3,δ3,S2,h3,fun v3 H3 B3 S3 w3 f3=>⟨(by show 3<=sizeLine;decide),fun p hp=>⟨p,_,rfl,SqT.of zAG,rfl,v,_,rfl,v2,_,rfl,v3,_,rfl,rfl,?_⟩⟩⟩⟩⟩
  have f4:Fr (OA O) H3 (upd H3 p (.tup [v,v2,v3])):=(zA5 hp).fr
  obtain⟨O4,S4⟩:=(w3.fr f4).bind (S3.same (zA5 hp)) hmk hl.2.2
  obtain⟨O5,S5⟩:=((w2.fr f3).fr f4).bind S4 hmj (by rw[B9];exact hl.2.1)
  obtain⟨O6,S6⟩:=(((w1.fr f2).fr f3).fr f4).bind S5 hmi (by rw[B9,B9];exact hl.1)
  rw[Cw _ _ (Cc hij),Cw _ _ (Cc hik),Cw _ _ (Cc hjk)] at S6
  exact k _ _ _ S6
noncomputable def zSX(i:Nat)(fi fv:VF):VS:=fun δ=>(fv δ).bind fun p=>(ownL p.2 i).bind fun _=>(fi p.2).bind fun q=>(ownL q.2 i).bind fun ds=>match q.1 with
 | .int k=>(ixN ds.length k).map fun j=> .nx (q.2.set i (.ow (.lst (ds.set j p.1))))
 |_=>none
theorem zYF{i:Nat}{fi fv:VF}{ap:Pos}(hK:X.K=K)(ho:PE X a (tVar i))(hi:PE X b (TV K ml pa ta ia fi))(hv:PE X c (TV K ml pb true true fv))
  (ha: ∀v,assign (.Subscript a b ap) X.env v=(do
   let ov<- J8 [v] (eval a X.env)
   let iv<- J8 [v,ov] (eval b X.env)
   standAt ap
   J8 [v,ov,iv] (setItem ov iv v)
   release [v,ov,iv] []):=by intro _;rfl)
  (hs : Df [.Subscript a b ap] c pos.line X.env = pure false := by rfl) (hw : Dg [.Subscript a b ap] c X.env = pure none := by rfl)
  (h1 : (assignEach [.Subscript a b ap] X.env).map (·.2) = [assign (.Subscript a b ap) X.env] := by rfl) : PS X (.Assign [.Subscript a b ap] c pos) (TSt K ml (zSX i fi fv)) :=
 (zMN hv (yAB ho hi zSW ha) hs hw h1).imp fun D σ H q0 => by
  obtain⟨B,O,δ,o,S,q,k⟩:=q0
  unfold zSX at q
  cases h1:fv δ with
  | none => rw [h1] at q;cases q
  |some p1=>
   obtain⟨z,δ1⟩:=p1
   rw[h1] at q
   cases h0:ownL δ1 i with
   | none => simp [h0] at q
   |some ds0=>
    simp only[A7,h0] at q
    cases h2:fi δ1 with
    | none => simp [h2] at q
    |some p2=>
     obtain⟨y,δ2⟩:=p2
     simp only[A7,h2] at q
     cases h4:ownL δ2 i with
     | none => simp [h4] at q
     |some ds=>
      simp only[h4,A7] at q
      cases y with
      |int kk=>
       have q:((ixN ds.length kk).map fun j=>Ou.nx (δ2.set i (.ow (.lst (ds.set j z)))))=some o:=q
       cases h5:ixN ds.length kk with
       | none => rw [h5] at q;cases q
       |some j=>
        rw[h5] at q
        cases q
        refine⟨B,O,δ,z,δ1,S,h1,fun v1 H1 R1=> ?_⟩
        obtain⟨l,e1,e2,_⟩:=R1.sta.ow i _ (zEY h0)
        refine⟨.ref l,e2,B,O,δ1,_,δ2,R1.sta,h2,fun v2 H2 R2=> ?_⟩
        have ey:v2= .int kk:=by
         have r:=R2.rep
         cases r
         rfl
        subst ey
        obtain⟨l',e3,_,w2⟩:=R2.sta.ow i _ (zEY h4)
        rw[e1] at e3
        cases e3
        cases w2 with
        |lst hl r=>
         have rv:=R1.rep.fr R2.frm (fun a z=> .inr z) fun a z=> .inr z
         refine⟨l,_,kk,j,rfl,rfl,hl,by rw[r.length];exact h5,k σ _ O (R2.sta.wrote e1 (fun z=>z) (.lst zAG (zGV (ys:=[]) hl (.inr ⟨i,e1⟩) (r.set rv j))))⟩
      |_=>cases q
end
section
variable{prog:Aj}{w:World}{A:B8}{E:Value->A2->Prop}{s:A2}
theorem zF0{it t:Addr}{i:Nat}{items:Array Value}{x:Value}{Q:Value->A2->Prop}(hit:s.heap.IsTupleIter it t i)(ht:s.heap.IsTuple t items)(hx:items[i]? =some x)
  (hQ: ∀h',h'.IsTupleIter it t (i+1)->De it s.heap h'->Q x {s with heap:=h'}):wpAny (model prog w) A (B5 (.ref it)) Q E s:=by
 obtain⟨oi,g1,c1,d1⟩:=id hit
 obtain⟨ot,g2,_,nt,d2⟩:=ht
 unfold B5
 refine A0 (C9 (name:=As "__next__") hit.typeIs Db (Cr Db hit.typeIs G8 ?_ (Fu _)))
 show wpAny _ _ (field (Av it) 0>>=_) _ _ s
 refine A0 (Co g1 d1 (x:= .ref t) rfl ?_)
 show wpAny _ _ (if(Av t== .none)=true then _ else _) _ _ s
 rw[if_neg (show¬(Av t==Value.none)=true from Cb)]
 show wpAny _ _ (field (Av it) 1>>=_) _ _ s
 refine A0 (Co g1 d1 (x:= .int i 0) rfl ?_)
 show wpAny _ _ (seqItems? (Av t)>>=_) _ _ s
 refine A0 (D4 g2 d2 ?_)
 simp only[hx,F6]
 refine A0 (wpAny_setField g1 d1 (by simp) (A9 ⟨x,rfl,A9 (hQ _ ⟨_,Ie _ g1 (Obj.isFreed_of_fields (Jm d1 _)),(Obj.cls_mapFields ..).trans c1,?_⟩ (Jd ..))⟩))
 rw[Jm d1]
 simp[rawInt]
theorem zG6{it t:Addr}{i:Nat}{items:Array Value}{Q:Value->A2->Prop}(hh:A.handled=none)(hit:s.heap.IsTupleIter it t i)(ht:s.heap.IsTuple t items)(hx:items[i]? =none)
  (hE: ∀h' e,G6 it s.heap h'->(∃o,h'.get? e=some o/\o.cls= .type "StopIteration")->E (.ref e) {s with heap:=h'}):wpAny (model prog w) A (B5 (.ref it)) Q E s:=by
 obtain⟨oi,g1,c1,d1⟩:=id hit
 obtain⟨ot,g2,_,nt,d2⟩:=ht
 unfold B5
 refine A0 (C9 (name:=As "__next__") hit.typeIs Db (Cr Db hit.typeIs G8 ?_ (Fu _)))
 show wpAny _ _ (field (Av it) 0>>=_) _ _ s
 refine A0 (Co g1 d1 (x:= .ref t) rfl ?_)
 show wpAny _ _ (if(Av t== .none)=true then _ else _) _ _ s
 rw[if_neg (show¬(Av t==Value.none)=true from Cb)]
 show wpAny _ _ (field (Av it) 1>>=_) _ _ s
 refine A0 (Co g1 d1 (x:= .int i 0) rfl ?_)
 show wpAny _ _ (seqItems? (Av t)>>=_) _ _ s
 refine A0 (D4 g2 d2 ?_)
 simp only[hx,F6]
 refine A0 (F4 (A0 (wpAny_setField g1 d1 (by simp) ?_)))
 show wpAny _ _ (newExc (Gx "StopIteration") []>>=_) _ _ _
 refine A0 ?_
 unfold newExc newTuple
 refine A0 (C6 ?_ (by size_fits))
 refine A0 (m:=firstArgMember _ _) (wpAny_of_eq (a:=Value.none) (by first|rfl|(unfold firstArgMember;rfl)) (C6 ?_ (by size_fits)))
 unfold raiseNew
 refine A0 (wpAny_handled ?_)
 first|rw[hh]|rw[show A.in1.handled=none from hh]
 refine A0 (A9 (wpAny_throw (hE _ _ (((Jd ..).extBut.push _).push _) ⟨_,Ai _ rfl,rfl⟩)))
end
theorem zRK{prog:Aj}{w:World}{A:B8}(hh:A.handled=none)(it t:Addr)(hne:t≠it)(items:Array Value):
  Draws prog w A it [it,t] items.size (fun i v=>items[i]? =some v) (fun i h=>h.IsTupleIter it t i/\h.IsTuple t items) where
 live:=fun _ _ st=>let ⟨o,ho,_⟩:=st.1;⟨o,ho⟩
 frame:=fun _ _ _ st hk=>⟨st.1.at fun o e=>hk it (by simp) o e,by obtain⟨o,ho,r⟩:=st.2;exact⟨o,hk t (by simp) o ho,r⟩⟩
 item:=fun i s Q E hi st hQ=>zF0 st.1 st.2 (x:=items[i]) (by simp[hi]) fun h' a b=>hQ _ h' s.toks (by simp[hi]) ⟨a,st.2.extBut b.extBut hne⟩ b
 done:=fun s Q E st hE=>zG6 hh st.1 st.2 (by simp) hE
section
variable{X:Cx}{a6:List (Addr×Obj)}{σ:St}{H:Hp}{s:A2}{h':Heap}
theorem Inv.turnedL{t':Nat}{fp:List Addr}(I:Inv X a6 σ H s)(k: ∀b o,b∉fp->s.heap.get? b=some o->h'.get? b=some o)(there: ∀b∈fp,∃o,h'.get? b=some o)(hf: ∀b∈fp,FpOk X a6 H b):Inv X a6 σ H {s with heap:=h',toks:=t'}:=by
 have nit: ∀b u,H b=some u->b∉fp:=fun b u e z=>by rw[(hf b z).1] at e;cases e
 have hL:X.env.locals∉fp:=fun z=>(hf _ z).2.1 rfl
 refine I.step (g':=s.gens) (d':=s.drawn) (ch:=fp) (fun b hb=> ?_) (fun b o _ _ hc e _=>k b o hc e) (fun b o _ _ hc e _=>⟨o.slots,k b o hc e⟩) (fun _ _ _ _ n=>n)
  (fun b o hc e=>⟨o,k b o hc e⟩) (fun _ _ e=>e) (fun _ _ _ e=>e) (fun b ps e=>⟨#[],by rw[e];simp⟩) (fun m hm=> ?_) (fun b u e=> ?_) I.bare
 ·obtain⟨_,f1,f2,f3,f4,f5⟩:=hf b hb
  exact⟨f3,f1,f4,f5⟩
 ·obtain⟨o,es,ep,ho,r⟩:=hm
  exact⟨o,es,ep,k _ o hL ho,r⟩
 ·refine (I.hok b u e).stay (fun c v hc q => k c v ?_ q) (fun _ q => q) fun _ _ q => q
  rcases hc with z|z
  ·rw[z];exact nit b u e
  ·exact nit c _ z
end
section
variable{X:Cx}{a6:List (Addr×Obj)}{σ:St}{H:Hp}{s:A2}{h':Heap}
theorem Inv.turnedL'{t':Nat}{fp:List Addr}(I:Inv X a6 σ H s)(k: ∀b o,b∉fp->s.heap.get? b=some o->h'.get? b=some o)(hf: ∀b∈fp,FpOk X a6 H b):Inv X a6 σ H {s with heap:=h',toks:=t'}:=by
 have nit: ∀b u,H b=some u->b∉fp:=fun b u e z=>by rw[(hf b z).1] at e;cases e
 have hL:X.env.locals∉fp:=fun z=>(hf _ z).2.1 rfl
 refine I.step (g':=s.gens) (d':=s.drawn) (ch:=fp) (fun b hb=> ?_) (fun b o _ _ hc e _=>k b o hc e) (fun b o _ _ hc e _=>⟨o.slots,k b o hc e⟩) (fun _ _ _ _ n=>n)
  (fun b o hc e=>⟨o,k b o hc e⟩) (fun _ _ e=>e) (fun _ _ _ e=>e) (fun b ps e=>⟨#[],by rw[e];simp⟩) (fun m hm=> ?_) (fun b u e=> ?_) I.bare
 ·obtain⟨_,f1,f2,f3,f4,f5⟩:=hf b hb
  exact⟨f3,f1,f4,f5⟩
 ·obtain⟨o,es,ep,ho,r⟩:=hm
  exact⟨o,es,ep,k _ o hL ho,r⟩
 ·refine (I.hok b u e).stay (fun c v hc q => k c v ?_ q) (fun _ q => q) fun _ _ q => q
  rcases hc with z|z
  ·rw[z];exact nit b u e
  ·exact nit c _ z
end
def SqA(K:A8)(tup:Bool)(H:Hp)(a:Addr)(xs:List V):Prop:=if tup=true then SqT K H a xs else SqL K H a xs
def Src(tup:Bool)(h:Heap)(a:Addr)(items:Array Value):Prop:=if tup=true then h.IsTuple a items else h.IsList a items
def IsIt(tup:Bool)(h:Heap)(it a:Addr)(i:Nat):Prop:=if tup=true then h.IsTupleIter it a i else h.IsListIter it a i
theorem zVI{prog:Aj}{w:World}{A:B8}(hh:A.handled=none)(tup:Bool)(it t:Addr)(hne:t≠it)(items:Array Value):
  Draws prog w A it [it,t] items.size (fun i v=>items[i]? =some v) (fun i h=>IsIt tup h it t i/\Src tup h t items):=by
 cases tup with
 |true=>exact zRK hh it t hne items
 |false=>exact Draws.list hh it t hne items
theorem Src.lt{tup:Bool}{h:Heap}{a:Addr}{items:Array Value}(s:Src tup h a items):a<h.objs.size:=by
 cases tup with
 |true=>obtain⟨o,e,_⟩:=s;exact Ae e
 |false=>obtain⟨o,e,_⟩:=s;exact Ae e
theorem Inv.srcA{X:Cx}{a6:List (Addr×Obj)}{σ:St}{H:Hp}{s:A2}{a:Addr}{xs:List V}{tup:Bool}(I:Inv X a6 σ H s)(h:SqA X.K tup H a xs): ∃its:List Value,Vals xs its/\Src tup s.heap a its.toArray/\xs.length<=sizeLine:=by
 cases tup with
 |true=>
  obtain⟨its,r,p,z⟩:=I.tuple h
  exact⟨its,r,p,z⟩
 |false=>
  obtain⟨its,r,p,z⟩:=I.list h
  exact⟨its,r,p.isList,z⟩
theorem Inv.sq_inj{X:Cx}{a6:List (Addr×Obj)}{σ:St}{H:Hp}{s:A2}{a:Addr}{xs ys:List V}{tup:Bool}(I:Inv X a6 σ H s)(h:SqA X.K tup H a xs)(h':SqA X.K tup H a ys):xs=ys:=by
 cases tup with
 |true=>exact I.tuple_inj h h'
 |false=>exact I.list_inj h h'
theorem IsIt.at{tup:Bool}{h h':Heap}{it a:Addr}{i:Nat}(st:IsIt tup h it a i)(k: ∀o,h.get? it=some o->h'.get? it=some o):IsIt tup h' it a i:=by
 cases tup with
 |true=>exact Heap.IsTupleIter.at st k
 |false=>exact Heap.IsListIter.at st k
theorem IsIt.obj{tup:Bool}{h:Heap}{it a:Addr}{i:Nat}(st:IsIt tup h it a i): ∃o,h.get? it=some o/\ ∀v,o.data≠ .cell v:=by
 cases tup with
 |true=>
  obtain⟨o,e,c,d⟩:=st
  exact⟨o,e,fun v z=>by rw[d] at z;cases z⟩
 |false=>
  obtain⟨o,e,c,d⟩:=st
  exact⟨o,e,fun v z=>by rw[d] at z;cases z⟩
noncomputable def Ite(K:A8)(tup:Bool)(a:Addr):It:=
 ⟨fun i H=> ∃xs x,SqA K tup H a xs/\xs[i]? =some x,fun i H v H'=> ∃p x,(∀xs,SqA K tup H a xs->xs[i]? =some x)/\H p=none/\H'=upd H p (.tup [.int i,x])/\v= .ref p,fun i H=> ∃xs,SqA K tup H a xs/\xs.length=i⟩
theorem zOZ{P:Aj}{w:World}{K:A8}{es:List Expr}{k:Nat}{pos:Pos}(tup:Bool)(a e it:Addr)(hei:e≠it)(hae:a≠e)(hai:a≠it):
  Turn P w K (.Tuple es k pos) (Ite K tup a) [e,it] e (fun i h=>(∃old,IsEnum h e it i old)/\IsIt tup h it a i) where
 mem := by simp
 obj := fun i h st b hb => by
  obtain⟨⟨old,he⟩,hi⟩:=st
  rcases Ac.mp hb with z|z
  ·subst z
   exact⟨_,he,fun v z=>by cases z⟩
  ·have:=Ah.mp z
   subst this
   exact hi.obj
 keep:=fun i h h' st kk=>by
  obtain⟨⟨old,he⟩,hi⟩:=st
  exact⟨⟨old,kk e (by simp) _ he⟩,hi.at fun o q=>kk it (by simp) o q⟩
 item:=by
  intro X hP hw hK hc i a6 s σ H E I hf st hg
  subst hP hw hK
  obtain⟨⟨old,he⟩,hi⟩:=st
  obtain⟨xs,x,hq,hx⟩:=hg
  obtain⟨its,rv,src,hz⟩:=I.srcA hq
  have hlt:i<its.toArray.size:=by
   have:=(A5.mp hx).1
   have:=rv.length
   simp only[Ad]
   omega
  have hh:X.A.in1.handled=none:=I.ok.hd hc
  refine wpAny_pyNext_enum_itemD (zVI hh tup it a hai its.toArray) he ⟨hi,src⟩ hlt hei (by simp[hei,Cc hae]) fun u h1 tk hu ho st1 ht hsz hk=>⟨_,rfl,?_⟩
  refine wpAny_letOwnedTupleGo_enum (s:={s with heap:=h1,toks:=tk+1}) ho fun h2 he2 sb2=> ?_
  have sb2:De e h1 h2:=sb2
  obtain⟨u',hu',ru⟩:=rv.get hx
  have hu:its.toArray[i]? =some u:=hu
  rw[List.getElem?_toArray,hu'] at hu
  have hu:=B6 hu
  subst hu
  have kk: ∀b o,b∉[e,it]->s.heap.get? b=some o->h2.get? b=some o:=fun b o hb q=>by
   have h1b:b≠e:=fun z=>hb (by simp[z])
   have h2b:b≠it:=fun z=>hb (by simp[z])
   exact(sb2.2 b h1b).trans (hk b o h1b h2b q)
  have dw:h2.get? s.heap.objs.size=some {cls:= .type "tuple",data:= .seq #[.int i tk,u']}:=(sb2.2 _ (Eh (Ae he))).trans ht
  have bn:H s.heap.objs.size=none:=I.hok.fresh (Af _)
  have im: ∀b∈[e,it],b<s.heap.objs.size:=fun b hb=>by
   rcases Ac.mp hb with z|z
   ·rw[z];exact Ae he
   ·rw[Ah.mp z]
    obtain⟨o,q,_⟩:=hi.obj
    exact Ae q
  have I0:Inv X a6 σ (upd H s.heap.objs.size (.tup [.int i,x])) {s with heap:=s.heap.push {cls:= .type "tuple",data:= .seq #[.int i tk,u']},toks:=tk}:=
   I.laid (fun b o q=>A1 _ q) (Af _) ⟨by show 2<=sizeLine;decide,[.int i tk,u'],.cons ⟨tk,rfl⟩ (.cons ru .nil),G2 _ _⟩
  have I1:Inv X a6 σ (upd H s.heap.objs.size (.tup [.int i,x])) {s with heap:=h2,toks:=tk+1}:=by
   refine Inv.turnedL (s:={s with heap:=s.heap.push {cls:= .type "tuple",data:= .seq #[.int i tk,u']},toks:=tk}) (h':=h2) (t':=tk+1) (fp:=[e,it]) I0 (fun b o hb q=> ?_) (fun b hb=> ?_) fun b hb=>⟨by rw[zAU (Aq (im b hb))];exact(hf b hb).1,(hf b hb).2⟩
   ·by_cases hbn:b=s.heap.objs.size
    ·subst hbn
     have q:(s.heap.push {cls:= .type "tuple",data:= .seq #[.int i tk,u']}).get? s.heap.objs.size=some o:=q
     rw[Ai _ rfl] at q
     cases q
     exact dw
    ·exact kk b o hb ((Fa _ _ _ hbn).symm.trans q)
   ·rcases Ac.mp hb with z|z
    ·rw[z];exact⟨_,he2⟩
    ·rw[Ah.mp z]
     obtain⟨o,q,_⟩:=st1.1.obj
     exact⟨o,(sb2.2 it (Cc hei)).trans q⟩
  refine⟨.ref s.heap.objs.size,upd H s.heap.objs.size (.tup [.int i,x]),?_,rfl,⟨_,x,fun ys hy=>by rw[I.sq_inj hy hq];exact hx,bn,rfl,rfl⟩,⟨⟨_,by simpa using he2⟩,st1.1.at fun o q=>(sb2.2 it (Cc hei)).trans q⟩,fun b hb=> ?_⟩
  ·exact I1
  ·rw[zAU (Aq (im b hb))]
   exact(hf b hb).1
 done:=by
  intro X hP hw hK hc i a6 s σ H E I hf st hg
  subst hP hw hK
  obtain⟨⟨old,he⟩,hi⟩:=st
  obtain⟨xs,hq,hx⟩:=hg
  obtain⟨its,rv,src,hz⟩:=I.srcA hq
  have hh:X.A.in1.handled=none:=I.ok.hd hc
  have hn:its.toArray.size=i:=by rw[Ad,<- rv.length];exact hx
  refine wpAny_pyNext_enum_endD (zVI hh tup it a hai its.toArray) he ⟨by rw[hn];exact hi,src⟩ fun h1 xb=>⟨rfl,?_⟩
  obtain⟨f0,f1,f2,f3,f4,f5⟩:=hf it (by simp)
  exact I.turned (t':=s.toks) (fun b o hb q=>xb b o hb q) f0 f1 f3 f4 f5
 self:=fun _ i _ _ _ st h=>K4 st.1.choose_spec h
theorem zRI(a:Addr)(items:Array Value)(n:Nat)(dd:Option Addr)(sl:Array (Option Value)):
  Meets (D3.«enumerate.__new__» ⟨[.type "enumerate",.ref a],[]⟩) (fun _ R s=>s.heap.get? a=some {cls:= .type "tuple",dict:=dd,data:= .seq items n,slots:=sl}∧
   R (.ok (.ret (.ref (s.heap.push {cls:= .type "tuple_iterator",data:= .fields #[.ref a,.int 0 0]}).objs.size)))
    {s with heap:=(s.heap.push {cls:= .type "tuple_iterator",data:= .fields #[.ref a,.int 0 0]}).push {cls:= .type "enumerate",data:= .fields #[.none,.bool false,.ref s.heap.objs.size,rawInt 0,.none,.none]}}):=by
 refine .of_wp fun prog w A R s h=> ?_
 obtain⟨hp,g,d,tk,os⟩:=s
 obtain⟨ha,h⟩:=h
 have hs:=sub_enumerate
 have hT:Heap.IsTuple (Lg ⟨hp,g,d,tk,os⟩) a items:=⟨_,ha,rfl,n,rfl⟩
 wp_walk using Bt ha
 refine wpAny_stack_any fun st=>A9 ?_
 split
 ·rename_i c _ _ _ _ _
  cases (c==Gx "enumerate")<;>(wp_walk using Bt ha,Eo hT;exact⟨_,rfl,h⟩)
 ·wp_walk using Bt ha,Eo hT
  exact⟨_,rfl,h⟩
theorem zO8{prog:Aj}{w:World}{A:B8}{E:Value->A2->Prop}{s:A2}{a:Addr}{items:Array Value}{tup:Bool}{Q:Value->A2->Prop}(hs:Src tup s.heap a items)
  (h: ∀h',IsEnum h' (s.heap.objs.size+1) s.heap.objs.size 0 .none->IsIt tup h' s.heap.objs.size a 0->(∀b o,s.heap.get? b=some o->h'.get? b=some o)->Q (.ref (s.heap.objs.size+1)) {s with heap:=h'}):
  wpAny (model prog w) A (call (.type "enumerate") [.ref a]) Q E s:=by
 cases tup with
 |false=>exact call_enumerate_list hs fun h' a1 a2 _ a4=>h h' a1 a2 a4
 |true=>
  obtain⟨⟨cc,dd,dt,sl⟩,g1,hc,n,hd⟩:=hs
  replace hc:cc= .type "tuple":=hc
  replace hd:dt= .seq items n:=hd
  subst hc hd
  have hz:(s.heap.push {cls:= .type "tuple_iterator",data:= .fields #[.ref a,.int 0 0]}).objs.size=s.heap.objs.size+1:=Cj ..
  refine callType_new F.called_enumerate (by decide) (F.typeCall_enumerate_1 _) (F.newCall_enumerate_1 _) (fun obj=>F.args_object_init_2 obj _) F.entry_enumerate_new (zRI a items n dd sl) ⟨g1,?_⟩
  show _/\_
  rw[hz]
  have he:=Ai (s.heap.push {cls:= .type "tuple_iterator",data:= .fields #[.ref a,.int 0 0]}) (o:={cls:= .type "enumerate",data:= .fields #[.none,.bool false,.ref s.heap.objs.size,rawInt 0,.none,.none]}) rfl
  rw[hz] at he
  exact⟨⟨_,he,rfl⟩,h _ he ⟨_,A1 _ (Ai _ rfl),rfl,rfl⟩ fun b o x=>A1 _ (A1 _ x)⟩
theorem zL0:Ar "enumerate"=some (.type "enumerate"):=by decide+kernel
theorem yCH:Ar "zip"=some (.type "zip"):=by decide+kernel
section
variable{X:Cx}{K:A8}{ml:List Nat}{l:Expr}{pu:Bool}{f:VF}{p pos da:Pos}{es:List Expr}{tk:Nat}{δ:Ev}
def iEnu(K:A8)(tl:TE):TI:=fun σ H R=>tl σ H fun x H1=> ∃a tup,x= .ref a/\(∃xs,SqA K tup H1 a xs)/\R (Ite K tup a) H1
theorem zWP{tl:TE}(hg:Gl X "enumerate") (hm:X.mg "enumerate"=none) (hl:PE X l tl) (he:starEach (l::[]) X.env=(false,eval l X.env)::starEach [] X.env:=by rfl):
  PI X (.Tuple es tk da) (.Call (.Name "enumerate" p) [l] [] pos) (iEnu X.K tl):=by
 intro a6 s σ H R I h
 refine Cn (zGZ I hg hm zL0 ?_ (by decide) (by decide))
 refine Cm (thn (zAQ hl zBT he pos a6 s σ H (fun vs H1=>match vs with
  | [x] => ∃ a tup,x = .ref a /\ (∃ xs,SqA X.K tup H1 a xs) /\ R (Ite X.K tup a) H1
  | _ => False) I h) fun us s1 ⟨vs,H1,I1,r1,q1⟩ => ?_) he (by rfl)
 match vs,r1,q1 with
 |[x],r1,q1=>
  obtain⟨a,tup,rfl,⟨xs,hq⟩,hR⟩:=q1
  obtain⟨u,rfl,ru⟩:=zHI r1
  cases ru
  obtain⟨its,rv,src,_⟩:=I1.srcA hq
  refine zO8 src fun h' he' hi' kp=> ?_
  have I2:Inv X a6 σ H1 {s1 with heap:=h'}:=I1.kept (t':=s1.toks) kp
  have hn: ∀b,s1.heap.objs.size<=b->H1 b=none:=fun b hb=>I1.hok.fresh hb
  refine K4 he' ⟨s1.heap.objs.size+1,[s1.heap.objs.size+1,s1.heap.objs.size],_,Ite X.K tup a,H1,rfl,I2,zOZ tup a (s1.heap.objs.size+1) s1.heap.objs.size (Nat.succ_ne_self _) (fun z=> ?_) (fun z=> ?_),⟨⟨_,he'⟩,hi'⟩,fun b hb=> ?_,hR⟩
  ·have:=src.lt
   rw[z] at this
   exact absurd this (Nat.not_lt_of_le (Fb _))
  ·have:=src.lt
   rw[z] at this
   exact absurd this (Bj _)
  ·have hb':s1.heap.objs.size<=b:=by
    rcases Ac.mp hb with z|z
    ·rw[z];exact Fb _
    ·rw[Ah.mp z];exact Af _
   exact I1.fpOk hb' (hn b hb')
theorem yBU(h:X.K=K){tl:TE}(hg:Gl X "enumerate") (hm:X.mg "enumerate"=none) (hl:PE X l tl) (he:starEach (l::[]) X.env=(false,eval l X.env)::starEach [] X.env:=by rfl):
  PI X (.Tuple es tk da) (.Call (.Name "enumerate" p) [l] [] pos) (iEnu K tl):=by subst h;exact zWP hg hm hl he
noncomputable def enuD:Nat->List Dat->List Dat
 |_,[]=>[]
 |i,d::ds=> .tup [.int i,d]::enuD (i+1) ds
noncomputable def zKD(f:VF):VI:=fun δ=>(f δ).bind fun p=>(seqD p.1).map fun ds=>(enuD 0 ds,p.2)
theorem zIQ: ∀{ds:List Dat} {n i:Nat} {d:Dat},(enuD n ds)[i]? =some d-> ∃x,ds[i]? =some x/\d= .tup [.int (n+i:Nat),x]
 |[],_,_,_,h=>by simp[enuD] at h
 |x::ds,n,0,d,h=>by simp[enuD] at h;exact⟨x,rfl,h.symm⟩
 |x::ds,n,i+1,d,h=>by
  have h:(enuD (n+1) ds)[i]? =some d:=by simpa[enuD] using h
  obtain⟨y,h1,h2⟩:=zIQ h
  exact⟨y,by simpa using h1,by rw[h2,show n+1+i=n+(i+1) by omega]⟩
theorem zIP: ∀(ds:List Dat) (n:Nat),(enuD n ds).length=ds.length
 |[],_=>rfl
 |_::ds,n=>congrArg (· +1) (zIP ds (n+1))
theorem zJ4{a:Addr}{tup:Bool}{ds:List Dat}:Walk K (Ite K tup a) [(.ref a,if tup=true then .tup ds else .lst ds)] (enuD 0 ds):=by
 intro N H h
 have r:=h _ (Ah.mpr rfl)
 have fin: ∀xs,SqA K tup H a xs->RepA K N H xs ds->(∀(i:Nat) (d:Dat),(enuD 0 ds)[i]? =some d->(Ite K tup a).go i H/\ ∀x H',(Ite K tup a).yld i H x H'->Same H H'/\Rep K N H' N x d)/\(Ite K tup a).stop (enuD 0 ds).length H:=fun xs sq r=>by
  refine⟨fun i d e=> ?_,xs,sq,by rw[r.length,zIP]⟩
  obtain⟨z,e1,rfl⟩:=zIQ e
  obtain⟨x,e2,r1⟩:=r.get e1
  refine⟨⟨xs,x,sq,e2⟩,fun y H' hy=> ?_⟩
  obtain⟨p,x',e3,hp,rfl,rfl⟩:=hy
  have:=e3 xs sq
  rw[e2] at this
  cases this
  refine⟨zA5 hp,.tup (SqT.of zAG) (.cons ?_ (.cons (r1.same (zA5 hp)) .nil))⟩
  rw[Ff]
  exact .int _
 cases tup with
 |true=>
  have r:Rep K N H N (.ref a) (.tup ds):=r
  cases r with
  |tup sq r=>exact fin _ sq r
 |false=>
  have r:Rep K N H N (.ref a) (.lst ds):=r
  cases r with
  |lst q n r=>exact fin _ (SqL.of q) r
  |fzl q r=>exact fin _ q.sq r
theorem zI5(hK:X.K=K)(hg:Gl X "enumerate") (hm:X.mg "enumerate"=none) (h:PE X l (TV K ml pu true true f)) (he:starEach (l::[]) X.env=(false,eval l X.env)::starEach [] X.env:=by rfl):
  PI X (.Tuple es tk da) (.Call (.Name "enumerate" p) [l] [] pos) (TIV K ml pu (zKD f)):=(yBU (K:=K) hK hg hm h he).imp fun σ H R ⟨B,O,δ,ds,δ',S,q,k⟩=>by
 unfold zKD at q
 cases h1:f δ with
 | none => rw [h1] at q;cases q
 |some p=>
  obtain⟨x,δ1⟩:=p
  rw[h1] at q
  refine⟨B,O,δ,x,δ1,S,h1,fun v H1 R1=> ?_⟩
  cases x with
  |lst ds'=>
   cases q
   obtain⟨a,xs,rfl,sq,r⟩:=R1.rep.lstE
   exact⟨a,false,rfl,⟨xs,sq⟩,k _ [(.ref a,.lst ds')] H1 (R1.sta.keepV fun p hp=>by rw[Ah.mp hp];exact R1.rep) R1.frm R1.pur (zJ4 (tup:=false))⟩
  |tup ds'=>
   cases q
   obtain⟨a,xs,rfl,sq,r⟩:=R1.rep.tupE
   exact⟨a,true,rfl,⟨xs,sq⟩,k _ [(.ref a,.tup ds')] H1 (R1.sta.keepV fun p hp=>by rw[Ah.mp hp];exact R1.rep) R1.frm R1.pur (zJ4 (tup:=true))⟩
  |_=>cases q
end
section
variable{prog:Aj}{w:World}{A:B8}{E:Value->A2->Prop}{s:A2}
theorem IsIt.ext{tup:Bool}{h h':Heap}{it a b:Addr}{i:Nat}(x:IsIt tup h it a i)(hs:G6 b h h')(hne:it≠b):IsIt tup h' it a i:=x.at fun o e=>hs _ _ hne e
theorem Src.ext{tup:Bool}{h h':Heap}{a b:Addr}{xs:Array Value}(x:Src tup h a xs)(hs:G6 b h h')(hne:a≠b):Src tup h' a xs:=by
 cases tup with
 |true=>obtain⟨o,e,r⟩:=x;exact⟨o,hs _ _ hne e,r⟩
 |false=>obtain⟨o,e,r⟩:=x;exact⟨o,hs _ _ hne e,r⟩
theorem zFI{tup:Bool}{it a:Addr}{i:Nat}{xs:Array Value}{x:Value}{Q:Value->A2->Prop}(hi:IsIt tup s.heap it a i)(hs:Src tup s.heap a xs)(hx:xs[i]? =some x)
  (hQ: ∀h',IsIt tup h' it a (i+1)->De it s.heap h'->Q x {s with heap:=h'}):wpAny (model prog w) A (B5 (.ref it)) Q E s:=by
 cases tup with
 |true=>exact zF0 hi hs hx hQ
 |false=>exact wpAny_nextOf_list_item hi hs hx hQ
theorem zK3{tup:Bool}{it a:Addr}{i:Nat}{xs:Array Value}{Q:Value->A2->Prop}(hh:A.handled=none)(hi:IsIt tup s.heap it a i)(hs:Src tup s.heap a xs)(hx:xs[i]? =none)
  (hE: ∀h' e,G6 it s.heap h'->(∃o,h'.get? e=some o/\o.cls= .type "StopIteration")->E (.ref e) {s with heap:=h'}):wpAny (model prog w) A (B5 (.ref it)) Q E s:=by
 cases tup with
 |true=>exact zG6 hh hi hs hx hE
 |false=>exact wpAny_nextOf_list_end hh hi hs hx hE
structure ZSt(t1 t2:Bool)(h:Heap)(z p q i1 i2 a b:Addr)(k:Nat)(f0:Value):Prop where
 zip:IsZip h z p q f0
 its:IsPair h p (.ref i1) (.ref i2)
 res: ∃u v,IsPair h q u v
 one:IsIt t1 h i1 a k
 two:IsIt t2 h i2 b k
theorem zOF{t1 t2:Bool}{z p q i1 i2 a b:Addr}{k:Nat}{xs ys:Array Value}{x y:Value}{Q:Value->A2->Prop}(D:Iu z p q i1 i2 a b)(S:ZSt t1 t2 s.heap z p q i1 i2 a b k .none)
  (s1:Src t1 s.heap a xs) (s2:Src t2 s.heap b ys) (hx:xs[k]? =some x) (hy:ys[k]? =some y)
  (hQ: ∀h',ZSt t1 t2 h' z p q i1 i2 a b (k+1) (rawInt s.heap.objs.size)->IsPair h' s.heap.objs.size x y->h'.objs.size=s.heap.objs.size+1→
   (∀c o,c≠z->c≠q->c≠i1->c≠i2->s.heap.get? c=some o->h'.get? c=some o)->Q (.ref s.heap.objs.size) {s with heap:=h'}):
  wpAny (model prog w) A (D3.«zip.__next__» ⟨[.ref z],[]⟩) (fun fin s'=> ∃v,fin= .done (.ret v)/\Q v s') E s:=by
 obtain⟨gz,gi,⟨u,v,gr⟩,g1,g2⟩:=S
 show wpAny _ _ (field (Av z) 2>>=_) _ _ _
 refine A0 (Co gz rfl (x:= .bool false) rfl ?_)
 show wpAny _ _ (field (Av z) 3>>=_) _ _ _
 refine A0 (Co gz rfl (x:= .ref p) rfl (A0 (D4 gi rfl ?_)))
 show wpAny _ _ (Ce (Av z)>>=_) _ _ _
 refine A0 ?_
 (unfold Ce)
 refine A0 (Co gz rfl (x:= .none) rfl (A9 ?_))
 simp only[if_true]
 refine A0 (F4 (A0 (Co gz rfl (x:= .ref q) rfl (A0 (Dj gz (by simp) fun ha za ba=>A0 ?_)))))
 have za:IsZip ha z p q .ellipsis:=za
 simp only[Lh,Kq,J5,G5]
 refine A0 (A0 (Hg ?_))
 show wpAny _ _ (B5 (Av i1)>>=_) _ _ _
 refine A0 (zFI (g1.ext ba.extBut D.i1z) (s1.ext ba.extBut D.l1z) hx fun hb n1 bb=>A9 ?_)
 have rb:IsPair hb q u v:=bb.extBut _ _ D.TOi1 (ba.extBut _ _ D.TOz gr)
 refine A0 (D4 rb rfl (A0 (Fn rb fun hc rc bc=>A0 (Li (A9 ?_)))))
 have rc:IsPair hc q x v:=rc
 refine A0 (A0 (Hg ?_))
 show wpAny _ _ (B5 (Av i2)>>=_) _ _ _
 refine A0 (zFI (((g2.ext ba.extBut D.i2z).ext bb.extBut D.i12.symm).ext bc.extBut D.TOi2.symm) (((s2.ext ba.extBut D.l2z).ext bb.extBut D.l2i1).ext bc.extBut D.l2TO) hy fun hd n2 bd=>A9 ?_)
 have rd:IsPair hd q x v:=bd.extBut _ _ D.TOi2 rc
 refine A0 (D4 rd rfl (A0 (Fn rd fun he re be=>A0 (Li (A9 (A9 ?_))))))
 have re:IsPair he q x y:=re
 refine A0 (D4 re rfl (A0 (wpAny_newTuple ?_)))
 have size:he.objs.size=s.heap.objs.size:=by rw[be.1,bd.1,bc.1,bb.1,ba.1]
 have ze:IsZip he z p q .ellipsis:=be.extBut _ _ D.TOz.symm (bd.extBut _ _ D.i2z.symm (bc.extBut _ _ D.TOz.symm (bb.extBut _ _ D.i1z.symm za)))
 have ke: ∀c o,c≠z->c≠q->c≠i1->c≠i2->s.heap.get? c=some o->he.get? c=some o:=fun c o c1 c2 c3 c4 g=>be.extBut _ _ c2 (bd.extBut _ _ c4 (bc.extBut _ _ c2 (bb.extBut _ _ c3 (ba.extBut _ _ c1 g))))
 have e1:IsIt t1 he i1 a (k+1):=((n1.ext bc.extBut D.TOi1.symm).ext bd.extBut D.i12).ext be.extBut D.TOi1.symm
 have e2:IsIt t2 he i2 b (k+1):=n2.ext be.extBut D.TOi2.symm
 have ie:IsPair he p (.ref i1) (.ref i2):=ke _ _ D.TIz D.TITO D.TIi1 D.TIi2 gi
 have zlt:z<he.objs.size:=Ae ze
 show wpAny _ _ (Ee (Av z) (.ref he.objs.size)>>=_) _ _ _
 refine A0 ?_
 (unfold Ee)
 have zf:IsZip (he.push {cls:= .type "tuple",data:= .seq #[x,y]}) z p q .ellipsis:=A1 _ ze
 refine A0 (Dj zf (by simp) fun hg zg bg=> ?_)
 have zg:IsZip hg z p q (rawInt he.objs.size):=zg
 refine Dj zg (by simp) fun hk zk bk=> ?_
 have zk:IsZip hk z p q (rawInt he.objs.size):=zk
 have up: ∀c o,c≠z->he.get? c=some o->hk.get? c=some o:=fun c o c1 g=>bk.extBut _ _ c1 (bg.extBut _ _ c1 (A1 _ g))
 have tk:IsPair hk he.objs.size x y:=bk.extBut _ _ (Eh zlt) (bg.extBut _ _ (Eh zlt) (Ai _ rfl))
 have szk:hk.objs.size=he.objs.size+1:=by rw[bk.1,bg.1,Cj]
 rw[size] at zk tk szk
 refine A9 ⟨_,rfl,?_⟩
 show Q (.ref he.objs.size) _
 rw[size]
 exact hQ hk ⟨zk,up _ _ D.TIz ie,⟨x,y,up _ _ D.TOz re⟩,e1.at fun o g=>up _ o D.i1z g,e2.at fun o g=>up _ o D.i2z g⟩ tk szk fun c o c1 c2 c3 c4 g=>up c o c1 (ke c o c1 c2 c3 c4 g)
theorem zS7{t1 t2:Bool}{z p q i1 i2 a b:Addr}{k:Nat}{xs ys:Array Value}{Q:Fin->A2->Prop}(hh:A.handled=none)(D:Iu z p q i1 i2 a b)(S:ZSt t1 t2 s.heap z p q i1 i2 a b k .none)
  (s1:Src t1 s.heap a xs) (s2:Src t2 s.heap b ys) (gk:xs[k]? =none∨ys[k]? =none)
  (hE: ∀h' e,(∀c o,c≠z->c≠q->c≠i1->c≠i2->s.heap.get? c=some o->h'.get? c=some o)->(∃o,h'.get? e=some o/\o.cls= .type "StopIteration")->E (.ref e) {s with heap:=h'}):
  wpAny (model prog w) A (D3.«zip.__next__» ⟨[.ref z],[]⟩) Q E s:=by
 obtain⟨gz,gi,⟨u,v,gr⟩,g1,g2⟩:=S
 show wpAny _ _ (field (Av z) 2>>=_) _ _ _
 refine A0 (Co gz rfl (x:= .bool false) rfl ?_)
 show wpAny _ _ (field (Av z) 3>>=_) _ _ _
 refine A0 (Co gz rfl (x:= .ref p) rfl (A0 (D4 gi rfl ?_)))
 show wpAny _ _ (Ce (Av z)>>=_) _ _ _
 refine A0 ?_
 (unfold Ce)
 refine A0 (Co gz rfl (x:= .none) rfl (A9 ?_))
 simp only[if_true]
 refine A0 (F4 (A0 (Co gz rfl (x:= .ref q) rfl (A0 (Dj gz (by simp) fun ha za ba=>A0 ?_)))))
 have za:IsZip ha z p q .ellipsis:=za
 simp only[Lh,Kq,J5,G5]
 refine A0 (A0 (Hg ?_))
 show wpAny _ _ (B5 (Av i1)>>=_) _ _ _
 cases hx:xs[k]? with
 |none=>
  refine A0 (zK3 hh (g1.ext ba.extBut D.i1z) (s1.ext ba.extBut D.l1z) hx fun hb e bb ⟨oe,ge,ce⟩=> ?_)
  have zb:IsZip hb z p q .ellipsis:=bb _ _ D.i1z.symm za
  have ne:e≠z:=fun w=>by subst w;rw[zb] at ge;cases ge;simp at ce
  exact Dj zb (by simp) fun hc _ bc=>hE hc e (fun c o c1 _ c3 _ g=>bc.extBut _ _ c1 (bb _ _ c3 (ba.extBut _ _ c1 g))) ⟨oe,bc.extBut _ _ ne ge,ce⟩
 |some x=>
  have hy:ys[k]? =none:=gk.resolve_left fun w=>by rw[hx] at w;cases w
  refine A0 (zFI (g1.ext ba.extBut D.i1z) (s1.ext ba.extBut D.l1z) hx fun hb n1 bb=>A9 ?_)
  have rb:IsPair hb q u v:=bb.extBut _ _ D.TOi1 (ba.extBut _ _ D.TOz gr)
  refine A0 (D4 rb rfl (A0 (Fn rb fun hc rc bc=>A0 (Li (A9 (A0 (A0 (Hg ?_))))))))
  show wpAny _ _ (B5 (Av i2)>>=_) _ _ _
  refine A0 (zK3 hh (((g2.ext ba.extBut D.i2z).ext bb.extBut D.i12.symm).ext bc.extBut D.TOi2.symm) (((s2.ext ba.extBut D.l2z).ext bb.extBut D.l2i1).ext bc.extBut D.l2TO) hy fun hd e bd ⟨oe,ge,ce⟩=> ?_)
  have zd:IsZip hd z p q .ellipsis:=bd _ _ D.i2z.symm (bc.extBut _ _ D.TOz.symm (bb.extBut _ _ D.i1z.symm za))
  have ne:e≠z:=fun w=>by subst w;rw[zd] at ge;cases ge;simp at ce
  exact Dj zd (by simp) fun hf _ bf=>hE hf e (fun c o c1 c2 c3 c4 g=>bf.extBut _ _ c1 (bd _ _ c4 (bc.extBut _ _ c2 (bb.extBut _ _ c3 (ba.extBut _ _ c1 g))))) ⟨oe,bf.extBut _ _ ne ge,ce⟩
theorem zNW{t1 t2:Bool}{z p q i1 i2 a b:Addr}{k:Nat}{xs ys:Array Value}{x y:Value}{Q:Option Value->A2->Prop}(D:Iu z p q i1 i2 a b)(S:ZSt t1 t2 s.heap z p q i1 i2 a b k .none)
  (s1:Src t1 s.heap a xs) (s2:Src t2 s.heap b ys) (hx:xs[k]? =some x) (hy:ys[k]? =some y)
  (hQ: ∀h',ZSt t1 t2 h' z p q i1 i2 a b (k+1) (rawInt s.heap.objs.size)->IsPair h' s.heap.objs.size x y->h'.objs.size=s.heap.objs.size+1→
   (∀c o,c≠z->c≠q->c≠i1->c≠i2->s.heap.get? c=some o->h'.get? c=some o)->Q (some (.ref s.heap.objs.size)) {s with heap:=h'}):wpAny (model prog w) A (pyNext (.ref z)) Q E s:=by
 have ty:s.TypeIs (.ref z) "zip":=⟨_,S.zip,rfl⟩
 (unfold pyNext)
 exact A0 (Hh (C9 (name:=As "__next__") ty G9 (Cr G9 ty Kr (zOF D S s1 s2 hx hy fun h' a1 a2 a3 a4=>A9 (hQ h' a1 a2 a3 a4)) (K5 _))))
theorem zQM{t1 t2:Bool}{z p q i1 i2 a b:Addr}{k:Nat}{xs ys:Array Value}{Q:Option Value->A2->Prop}(hh:A.handled=none)(D:Iu z p q i1 i2 a b)(S:ZSt t1 t2 s.heap z p q i1 i2 a b k .none)
  (s1:Src t1 s.heap a xs) (s2:Src t2 s.heap b ys) (gk:xs[k]? =none∨ys[k]? =none)
  (hQ: ∀h',(∀c o,c≠z->c≠q->c≠i1->c≠i2->s.heap.get? c=some o->h'.get? c=some o)->Q none {s with heap:=h'}):wpAny (model prog w) A (pyNext (.ref z)) Q E s:=by
 have ty:s.TypeIs (.ref z) "zip":=⟨_,S.zip,rfl⟩
 (unfold pyNext)
 refine A0 (Hh (C9 (name:=As "__next__") ty G9 (Cr G9 ty Kr (zS7 hh D S s1 s2 gk fun h' e kk ⟨o,ge,ce⟩=> ?_) (K5 _))))
 exact A0 (wpAny_isInstance (T:= "StopIteration") (b:=true) ⟨o,ge,ce⟩ isSubtype_stop (A9 (hQ _ kk)))
end
noncomputable def yFF(tup:Bool):String:=if tup=true then "tuple_iterator" else "list_iterator"
noncomputable abbrev zO(tup:Bool)(a:Addr):Obj:={cls:= .type (yFF tup),data:= .fields #[.ref a,.int 0 0]}
theorem yC7{prog:Aj}{w:World}{A:B8}{E:Value->A2->Prop}{s:A2}{tup:Bool}{a:Addr}{xs:Array Value}{Q:Value->A2->Prop}(h:Src tup s.heap a xs)(hQ:Q (.ref s.heap.objs.size) {s with heap:=s.heap.push (zO tup a)}):
  wpAny (model prog w) A (pyIter (.ref a)) Q E s:=by
 cases tup with
 |true=>exact Eo h hQ
 |false=>exact E9 h hQ
theorem Src.push{tup:Bool}{h:Heap}{a:Addr}{xs:Array Value}(x:Src tup h a xs)(o:Obj):Src tup (h.push o) a xs:=by
 cases tup with
 |true=>obtain⟨o,e,r⟩:=x;exact⟨o,A1 _ e,r⟩
 |false=>obtain⟨o,e,r⟩:=x;exact⟨o,A1 _ e,r⟩
theorem zS6(t1 t2:Bool)(a b:Addr)(xs ys:Array Value):
  Meets (D3.«zip.__new__» ⟨[.type "zip",.ref a,.ref b],[]⟩) (fun _ R s=>Src t1 s.heap a xs/\Src t2 s.heap b ys/\ ∀h1 h2 h3 h4 h5,h1=s.heap.push (zO t1 a)->h2=h1.push (zO t2 b)->h3=h2.push {cls:= .type "tuple",data:= .seq #[.ref s.heap.objs.size,.ref h1.objs.size]}→
   h4=h3.push {cls:= .type "tuple",data:= .seq #[.none,.none]}->h5=h4.push {cls:= .type "zip",data:= .fields #[.none,.bool false,.bool false,.ref h2.objs.size,.ref h3.objs.size]}->R (.ok (.ret (.ref h4.objs.size))) {s with heap:=h5}):=by
 refine .of_wp fun prog w A R s h=> ?_
 obtain⟨hp,g,d,tk,os⟩:=s
 obtain⟨g1,g2,h⟩:=h
 have hs:=sub_zip
 have k1:Src t1 (Lg ⟨hp,g,d,tk,os⟩) a xs:=g1
 have k2:Src t2 (Lg ⟨hp.push (zO t1 a),g,d,tk,os⟩) b ys:=Src.push g2 _
 wp_walk using yC7 k1,yC7 k2
 exact⟨_,rfl,h _ _ _ _ _ rfl rfl rfl rfl rfl⟩
theorem zRU{prog:Aj}{w:World}{A:B8}{E:Value->A2->Prop}{s:A2}{t1 t2:Bool}{a b:Addr}{xs ys:Array Value}{Q:Value->A2->Prop}(g1:Src t1 s.heap a xs)(g2:Src t2 s.heap b ys)
  (h: ∀h',ZSt t1 t2 h' (s.heap.objs.size+4) (s.heap.objs.size+2) (s.heap.objs.size+3) s.heap.objs.size (s.heap.objs.size+1) a b 0 .none->(∀c o,s.heap.get? c=some o->h'.get? c=some o)->Q (.ref (s.heap.objs.size+4)) {s with heap:=h'}):
  wpAny (model prog w) A (call (.type "zip") [.ref a,.ref b]) Q E s:=by
 refine callType_new F.called_zip (by decide) (F.typeCall_zip_2 _ _) (F.newCall_zip_2 _ _) (fun obj=>F.args_object_init_3 obj _ _) F.entry_zip_new (zS6 t1 t2 a b xs ys) ⟨g1,g2,?_⟩
 rintro h1 h2 h3 h4 h5 e1 e2 e3 e4 e5
 have z1:h1.objs.size=s.heap.objs.size+1:=by rw[e1,Cj]
 have z2:h2.objs.size=s.heap.objs.size+2:=by rw[e2,Cj,z1]
 have z3:h3.objs.size=s.heap.objs.size+3:=by rw[e3,Cj,z2]
 have z4:h4.objs.size=s.heap.objs.size+4:=by rw[e4,Cj,z3]
 have u4: ∀c o,h4.get? c=some o->h5.get? c=some o:=fun c o q=>by rw[e5];exact A1 _ q
 have u3: ∀c o,h3.get? c=some o->h5.get? c=some o:=fun c o q=>u4 c o (by rw[e4];exact A1 _ q)
 have u2: ∀c o,h2.get? c=some o->h5.get? c=some o:=fun c o q=>u3 c o (by rw[e3];exact A1 _ q)
 have u1: ∀c o,h1.get? c=some o->h5.get? c=some o:=fun c o q=>u2 c o (by rw[e2];exact A1 _ q)
 have u0: ∀c o,s.heap.get? c=some o->h5.get? c=some o:=fun c o q=>u1 c o (by rw[e1];exact A1 _ q)
 have o5:h5.get? h4.objs.size=some {cls:= .type "zip",data:= .fields #[.none,.bool false,.bool false,.ref h2.objs.size,.ref h3.objs.size]}:=by rw[e5];exact Ai _ rfl
 have o4:h5.get? h3.objs.size=some {cls:= .type "tuple",data:= .seq #[.none,.none]}:=u4 _ _ (by rw[e4];exact Ai _ rfl)
 have o3:h5.get? h2.objs.size=some {cls:= .type "tuple",data:= .seq #[.ref s.heap.objs.size,.ref h1.objs.size]}:=u3 _ _ (by rw[e3];exact Ai _ rfl)
 have o2:h5.get? h1.objs.size=some (zO t2 b):=u2 _ _ (by rw[e2];exact Ai _ rfl)
 have o1:h5.get? s.heap.objs.size=some (zO t1 a):=u1 _ _ (by rw[e1];exact Ai _ rfl)
 show _/\_
 rw[z2,z3,z4] at o5
 rw[z3] at o4
 rw[z1,z2] at o3
 rw[z1] at o2
 rw[z4]
 refine⟨⟨_,o5,rfl⟩,h _ ⟨o5,o3,⟨_,_,o4⟩,?_,?_⟩ u0⟩
 ·cases t1 with
  |true=>exact⟨_,o1,rfl,rfl⟩
  |false=>exact⟨_,o1,rfl,rfl⟩
 ·cases t2 with
  |true=>exact⟨_,o2,rfl,rfl⟩
  |false=>exact⟨_,o2,rfl,rfl⟩
theorem zYB(n a b:Nat)(ha:a<n)(hb:b<n):Iu (n+4) (n+2) (n+3) n (n+1) a b:=by
 have f: ∀x y:Nat,x<y∨y<x->x≠y:=fun x y h=>by omega
 exact⟨f _ _ (by omega),f _ _ (by omega),f _ _ (by omega),f _ _ (by omega),f _ _ (by omega),f _ _ (by omega),f _ _ (by omega),f _ _ (by omega),f _ _ (by omega),f _ _ (by omega),f _ _ (by omega),f _ _ (by omega),f _ _ (by omega),f _ _ (by omega),f _ _ (by omega),f _ _ (by omega),f _ _ (by omega),f _ _ (by omega)⟩
noncomputable def Itz(K:A8)(t1 t2:Bool)(a b:Addr):It:=
  ⟨fun i H => ∃ xs ys x y,SqA K t1 H a xs /\ SqA K t2 H b ys /\ xs[i]? = some x /\ ys[i]? = some y,
   fun i H v H'=> ∃p x y,(∀xs,SqA K t1 H a xs->xs[i]? =some x)/\(∀ys,SqA K t2 H b ys->ys[i]? =some y)/\H p=none/\H'=upd H p (.tup [x,y])/\v= .ref p,
   fun i H=> ∃xs ys,SqA K t1 H a xs/\SqA K t2 H b ys/\(xs.length<=i∨ys.length<=i)⟩
theorem zSN{P:Aj}{w:World}{K:A8}{es:List Expr}{k:Nat}{pos:Pos}(t1 t2:Bool)(z p q i1 i2 a b:Addr)(D:Iu z p q i1 i2 a b):
  Turn P w K (.Tuple es k pos) (Itz K t1 t2 a b) [z,p,q,i1,i2] z (fun i h=>ZSt t1 t2 h z p q i1 i2 a b i .none) where
 mem := by simp
 obj := fun i h st c hc => by
  simp only[Ac,Am,or_false] at hc
  rcases hc with rfl|rfl|rfl|rfl|rfl
  ·exact ⟨_,st.zip,fun v e => by cases e⟩
  ·exact ⟨_,st.its,fun v e => by cases e⟩
  ·obtain⟨u,v,g⟩:=st.res
   exact⟨_,g,fun v e=>by cases e⟩
  ·exact st.one.obj
  ·exact st.two.obj
 keep:=fun i h h' st kk=>by
  obtain⟨u,v,g⟩:=st.res
  exact⟨kk z (by simp) _ st.zip,kk p (by simp) _ st.its,⟨u,v,kk q (by simp) _ g⟩,st.one.at fun o e=>kk i1 (by simp) o e,st.two.at fun o e=>kk i2 (by simp) o e⟩
 item:=by
  intro X hP hw hK hc i a6 s σ H E I hf st hg
  subst hP hw hK
  obtain⟨xs,ys,x,y,hq1,hq2,hx,hy⟩:=hg
  obtain⟨us,r1,g1,_⟩:=I.srcA hq1
  obtain⟨vs,r2,g2,_⟩:=I.srcA hq2
  obtain⟨u,hu,ru⟩:=r1.get hx
  obtain⟨v,hv,rv⟩:=r2.get hy
  refine zNW D st g1 g2 (by simpa using hu) (by simpa using hv) fun h1 st1 hp hsz hk=>⟨_,rfl,?_⟩
  refine wpAny_letOwnedTupleGo_zip (s:={s with heap:=h1}) st1.zip fun h2 z2 sb=> ?_
  have sb:De z h1 h2:=sb
  have lt: ∀c∈[z,p,q,i1,i2],c<s.heap.objs.size:=fun c hc=>by
   simp only[Ac,Am,or_false] at hc
   rcases hc with rfl|rfl|rfl|rfl|rfl
   ·exact Ae st.zip
   ·exact Ae st.its
   ·obtain⟨u,v,g⟩:=st.res
    exact Ae g
   ·obtain⟨o,e,_⟩:=st.one.obj
    exact Ae e
   ·obtain⟨o,e,_⟩:=st.two.obj
    exact Ae e
  have up: ∀c o,c≠z->h1.get? c=some o->h2.get? c=some o:=fun c o hcz e=>(sb.2 c hcz).trans e
  have st2:ZSt t1 t2 h2 z p q i1 i2 a b (i+1) .none:=by
   obtain⟨u',v',g⟩:=st1.res
   exact⟨z2,up _ _ D.TIz st1.its,⟨u',v',up _ _ D.TOz g⟩,st1.one.at fun o e=>up _ o D.i1z e,st1.two.at fun o e=>up _ o D.i2z e⟩
  have dw:h2.get? s.heap.objs.size=some {cls:= .type "tuple",data:= .seq #[u,v]}:=up _ _ (Eh (lt z (by simp))) hp
  have bn:H s.heap.objs.size=none:=I.hok.fresh (Af _)
  have I0:Inv X a6 σ (upd H s.heap.objs.size (.tup [x,y])) {s with heap:=s.heap.push {cls:= .type "tuple",data:= .seq #[u,v]},toks:=s.toks}:=
   I.laid (fun c o e=>A1 _ e) (Af _) ⟨by show 2<=sizeLine;decide,[u,v],.cons ru (.cons rv .nil),G2 _ _⟩
  have I1:Inv X a6 σ (upd H s.heap.objs.size (.tup [x,y])) {s with heap:=h2,toks:=s.toks}:=by
   refine Inv.turnedL (s:={s with heap:=s.heap.push {cls:= .type "tuple",data:= .seq #[u,v]},toks:=s.toks}) (h':=h2) (t':=s.toks) (fp:=[z,p,q,i1,i2]) I0 (fun c o hc e=> ?_) (fun c hc=> ?_) fun c hc=>⟨by rw[zAU (Aq (lt c hc))];exact(hf c hc).1,(hf c hc).2⟩
   ·by_cases hcn:c=s.heap.objs.size
    ·subst hcn
     have e:(s.heap.push {cls:= .type "tuple",data:= .seq #[u,v]}).get? s.heap.objs.size=some o:=e
     rw[Ai _ rfl] at e
     cases e
     exact dw
    ·have e':=(Fa _ _ _ hcn).symm.trans e
     exact up c o (fun w=>hc (by simp[w])) (hk c o (fun w=>hc (by simp[w])) (fun w=>hc (by simp[w])) (fun w=>hc (by simp[w])) (fun w=>hc (by simp[w])) e')
   ·simp only[Ac,Am,or_false] at hc
    rcases hc with rfl|rfl|rfl|rfl|rfl
    ·exact⟨_,st2.zip⟩
    ·exact⟨_,st2.its⟩
    ·obtain⟨u,v,g⟩:=st2.res
     exact⟨_,g⟩
    ·obtain⟨o,e,_⟩:=st2.one.obj
     exact⟨o,e⟩
    ·obtain⟨o,e,_⟩:=st2.two.obj
     exact⟨o,e⟩
  exact⟨.ref s.heap.objs.size,_,I1,rfl,⟨_,x,y,fun zs hz=>by rw[I.sq_inj hz hq1];exact hx,fun zs hz=>by rw[I.sq_inj hz hq2];exact hy,bn,rfl,rfl⟩,st2,fun c hc=>by
   rw[zAU (Aq (lt c hc))]
   exact(hf c hc).1⟩
 done:=by
  intro X hP hw hK hc i a6 s σ H E I hf st hg
  subst hP hw hK
  obtain⟨xs,ys,hq1,hq2,gk⟩:=hg
  obtain⟨us,r1,g1,_⟩:=I.srcA hq1
  obtain⟨vs,r2,g2,_⟩:=I.srcA hq2
  have l1:=r1.length
  have l2:=r2.length
  have he:us.toArray[i]? =none∨vs.toArray[i]? =none:=by
   rcases gk with z|z
   ·exact .inl (by simp;omega)
   ·exact .inr (by simp;omega)
  refine zQM (I.ok.hd hc) D st g1 g2 he fun h1 hk=>⟨rfl,?_⟩
  have fq: ∀c∈[z,q,i1,i2],c∈[z,p,q,i1,i2]:=fun c hc=>by
   simp only[Ac,Am,or_false] at hc⊢
   rcases hc with w|w|w|w<;>simp[w]
  have I':=Inv.turnedL' (s:=s) (h':=h1) (t':=s.toks) (fp:=[z,q,i1,i2]) I (fun c o hc e=>hk c o (fun w=>hc (by simp[w])) (fun w=>hc (by simp[w])) (fun w=>hc (by simp[w])) (fun w=>hc (by simp[w])) e) fun c hc=>hf c (fq c hc)
  exact I'
 self:=fun _ i _ _ _ st h=>wpAny_pyIter_zip st.zip h
section
variable{X:Cx}{K:A8}{ml:List Nat}{l m:Expr}{pa ta ia pb tb ib:Bool}{f g:VF}{p pos da:Pos}{es:List Expr}{tk:Nat}{δ:Ev}
def iZp(K:A8)(tl tm:TE):TI:=fun σ H R=>tl σ H fun x H1=>tm σ H1 fun y H2=> ∃a b t1 t2,x= .ref a/\y= .ref b/\(∃xs,SqA K t1 H2 a xs)/\(∃ys,SqA K t2 H2 b ys)/\R (Itz K t1 t2 a b) H2
theorem yA8{tl tm:TE}(hg:Gl X "zip") (hm:X.mg "zip"=none) (hl:PE X l tl) (hr:PE X m tm) (he:starEach (l::[m]) X.env=(false,eval l X.env)::starEach [m] X.env:=by rfl) (he2:starEach (m::[]) X.env=(false,eval m X.env)::starEach [] X.env:=by rfl)
  (hpl : (Cg pos (starEach [m] X.env)).any (·.1) = false := by rfl) : PI X (.Tuple es tk da) (.Call (.Name "zip" p) [l,m] [] pos) (iZp X.K tl tm) := by
 intro a6 s σ H R I h
 refine Cn (zGZ I hg hm yCH ?_ (by decide) (by decide))
 refine Cm (thn (zAQ hl (zAQ hr zBT he2) he pos a6 s σ H (fun vs H1=>match vs with
  |[x,y]=> ∃a b t1 t2,x= .ref a/\y= .ref b/\(∃xs,SqA X.K t1 H1 a xs)/\(∃ys,SqA X.K t2 H1 b ys)/\R (Itz X.K t1 t2 a b) H1
  |_=>False) I h) fun us s1 ⟨vs,H1,I1,r1,q1⟩=> ?_) he hpl
 match vs,r1,q1 with
 |[x,y],r1,q1=>
  obtain⟨a,b,t1,t2,rfl,rfl,⟨xs,hq1⟩,⟨ys,hq2⟩,hR⟩:=q1
  obtain⟨u,v,rfl,ru,rv⟩:=zOQ r1
  cases ru
  cases rv
  obtain⟨us,w1,g1,_⟩:=I1.srcA hq1
  obtain⟨vs,w2,g2,_⟩:=I1.srcA hq2
  refine zRU g1 g2 fun h' st kp=> ?_
  have I2:Inv X a6 σ H1 {s1 with heap:=h'}:=I1.kept (t':=s1.toks) kp
  have ha:=g1.lt
  have hb:=g2.lt
  have D:Iu (s1.heap.objs.size+4) (s1.heap.objs.size+2) (s1.heap.objs.size+3) s1.heap.objs.size (s1.heap.objs.size+1) a b:=by exact zYB _ a b ha hb
  refine wpAny_pyIter_zip st.zip ⟨s1.heap.objs.size+4,[s1.heap.objs.size+4,s1.heap.objs.size+2,s1.heap.objs.size+3,s1.heap.objs.size,s1.heap.objs.size+1],_,Itz X.K t1 t2 a b,H1,rfl,I2,zSN t1 t2 _ _ _ _ _ a b D,st,fun c hc=> ?_,hR⟩
  have hc':s1.heap.objs.size<=c:=by
   simp only[Ac,Am,or_false] at hc
   rcases hc with w|w|w|w|w<;>rw[w]<;>first|exact Nat.le_add_right _ _|exact Af _
  exact I1.fpOk hc' (I1.hok.fresh hc')
theorem yFA(h:X.K=K){tl tm:TE}(hg:Gl X "zip") (hm:X.mg "zip"=none) (hl:PE X l tl) (hr:PE X m tm) (he:starEach (l::[m]) X.env=(false,eval l X.env)::starEach [m] X.env:=by rfl) (he2:starEach (m::[]) X.env=(false,eval m X.env)::starEach [] X.env:=by rfl)
  (hpl:(Cg pos (starEach [m] X.env)).any (·.1)=false:=by rfl):PI X (.Tuple es tk da) (.Call (.Name "zip" p) [l,m] [] pos) (iZp K tl tm):=by subst h;exact yA8 hg hm hl hr he he2 hpl
noncomputable def zipD:List Dat->List Dat->List Dat
 |d::ds,e::es=> .tup [d,e]::zipD ds es
 |_,_=>[]
noncomputable def iZip(f g:VF):VI:=fun δ=>(f δ).bind fun p=>(g p.2).bind fun q=>(seqD p.1).bind fun ds=>(seqD q.1).map fun es=>(zipD ds es,q.2)
theorem zM4: ∀{ds es:List Dat} {i:Nat} {d:Dat},(zipD ds es)[i]? =some d-> ∃x y,ds[i]? =some x/\es[i]? =some y/\d= .tup [x,y]
 |[],_,_,_,h=>by simp[zipD] at h
 |_::_,[],_,_,h=>by simp[zipD] at h
 |x::ds,y::es,0,d,h=>by simp[zipD] at h;exact⟨x,y,rfl,rfl,h.symm⟩
 |x::ds,y::es,i+1,d,h=>by
  obtain⟨x',y',h1,h2,h3⟩:=zM4 (ds:=ds) (es:=es) (i:=i) (d:=d) (by simpa[zipD] using h)
  exact⟨x',y',by simpa using h1,by simpa using h2,h3⟩
theorem zM3: ∀{ds es:List Dat},ds.length<=(zipD ds es).length∨es.length<=(zipD ds es).length
 |[],_=> .inl (Cv _)
 |_::_,[]=> .inr (Cv _)
 |x::ds,y::es=>by
  rcases zM3 (ds:=ds) (es:=es) with h|h
  ·exact .inl (Ks h)
  ·exact .inr (Ks h)
noncomputable def yFG:Dat->Bool
 | .tup _=>true
 |_=>false
theorem Rep.sqA{N M:Addr->Prop}{H:Hp}{v:V}{d:Dat}{ds:List Dat}(h:Rep K N H M v d)(e:seqD d=some ds): ∃a tup xs,v= .ref a/\SqA K tup H a xs/\RepA K N H xs ds/\tup=yFG d:=by
  cases d<;>first
    | (cases e
       obtain⟨a,xs,h1,h2,h3⟩:=h.tupE
       exact⟨a,true,xs,h1,h2,h3,rfl⟩)
    | (cases e
       obtain⟨a,xs,h1,h2,h3⟩:=h.lstE
       exact⟨a,false,xs,h1,h2,h3,rfl⟩)
    |cases e
theorem zUC(hK:X.K=K)(hg:Gl X "zip") (hm:X.mg "zip"=none) (h:PE X l (TV K ml pa true true f)) (h':PE X m (TV K ml pb true true g)) (he:starEach (l::[m]) X.env=(false,eval l X.env)::starEach [m] X.env:=by rfl) (he2:starEach (m::[]) X.env=(false,eval m X.env)::starEach [] X.env:=by rfl)
  (hpl : (Cg pos (starEach [m] X.env)).any (·.1) = false := by rfl) : PI X (.Tuple es tk da) (.Call (.Name "zip" p) [l,m] [] pos) (TIV K ml (pa && pb) (iZip f g)) := (yFA (K := K) hK hg hm h h' he he2 hpl).imp fun σ H R ⟨B,O,δ,ds,δ2,S,q,k⟩ => by
 unfold iZip at q
 cases h1:f δ with
 | none => rw [h1] at q;cases q
 |some p1=>
  obtain⟨x,δ1⟩:=p1
  rw[h1] at q
  cases h2:g δ1 with
  | none => simp [h2] at q
  |some p2=>
   obtain⟨y,δ3⟩:=p2
   simp only[A7,h2] at q
   cases h3:seqD x with
   | none => rw [h3] at q;cases q
   |some xs=>
    rw[h3] at q
    have q:(seqD y).map (fun es=>(zipD xs es,δ3))=some (ds,δ2):=q
    cases h4:seqD y with
    | none => rw [h4] at q;cases q
    |some ys=>
     rw[h4] at q
     cases q
     refine⟨B,O,δ,x,δ1,S,h1,fun v1 H1 R1=>⟨B,O,δ1,y,_,R1.sta,h2,fun v2 H2 R2=> ?_⟩⟩
     have r1:=R1.rep.fr R2.frm (fun a z=> .inr z) fun a z=> .inr z
     obtain⟨a,t1,us,e1,q1,w1,et1⟩:=r1.sqA h3
     obtain⟨b,t2,vs,e2,q2,w2,et2⟩:=R2.rep.sqA h4
     refine⟨a,b,t1,t2,e1,e2,⟨us,q1⟩,⟨vs,q2⟩,k _ [(v1,x),(v2,y)] H2 (R2.sta.keepV fun z hz=> ?_) (R1.frm.trans R2.frm) (fun z=> ?_) ?_⟩
     ·simp only[Ac,Am,or_false] at hz
      rcases hz with rfl|rfl
      ·exact r1
      ·exact R2.rep
     ·obtain⟨z1,z2⟩:=(A3 _ _).mp z
      exact(R1.pur z1).trans (R2.pur z2)
     ·intro N H h
      obtain⟨a',t1',us',f1,f2,f3,f4⟩:=(h (v1,x) (by simp)).sqA h3
      obtain⟨b',t2',vs',g1,g2,g3,g4⟩:=(h (v2,y) (by simp)).sqA h4
      have f1:v1= .ref a':=f1
      have g1:v2= .ref b':=g1
      rw[e1] at f1
      rw[e2] at g1
      cases f1
      cases g1
      have:t1'=t1:=f4.trans et1.symm
      subst this
      have:t2'=t2:=g4.trans et2.symm
      subst this
      refine⟨fun i d e=> ?_,us',vs',f2,g2,?_⟩
      ·obtain⟨dx,dy,hx,hy,rfl⟩:=zM4 e
       obtain⟨ux,ex,rx⟩:=f3.get hx
       obtain⟨uy,ey,ry⟩:=g3.get hy
       refine⟨⟨us',vs',ux,uy,f2,g2,ex,ey⟩,fun z H' hz=> ?_⟩
       obtain⟨pp,x',y',c1,c2,hp,rfl,rfl⟩:=hz
       have d1:=c1 us' f2
       have d2:=c2 vs' g2
       rw[ex] at d1
       rw[ey] at d2
       cases d1
       cases d2
       exact⟨zA5 hp,.tup (SqT.of zAG) (.cons (rx.same (zA5 hp)) (.cons (ry.same (zA5 hp)) .nil))⟩
      ·rcases zM3 (ds:=xs) (es:=ys) with w|w
       ·exact .inl (by rw[f3.length];exact w)
       ·exact .inr (by rw[g3.length];exact w)
end
end L2
namespace L2
open PySem PySem.Spec PyProof.Rows PySem.W
section
variable{prog:Aj}{w:World}{A:B8}{E:Value->A2->Prop}{s:A2}
theorem zNK{t:Addr}{items:Array Value}{Q:List Value->A2->Prop}(hh:A.handled=none)(ht:IsTup s.heap t items)(h1:1<=items.size)(hz:items.size<=16777216)
  (hQ: ∀(x:Value) (hb:Heap) (tk:Nat),items[0]? =some x->(∀b o,s.heap.get? b=some o->hb.get? b=some o)->Q [x,.ref hb.objs.size] {s with heap:=hb.push {cls:= .type "list",data:= .seq (items.toList.drop 1).toArray},toks:=tk}):
  wpAny (model prog w) A (G1 (.ref t) 2 (some 1)) Q E s:=by
 have hne:t≠s.heap.objs.size:=by obtain⟨o,e,_⟩:=ht;exact Aq (Ae e)
 (unfold G1)
 refine A0 ?_
 (unfold notIterableAtAll)
 refine A0 (wpAny_specialOf ht.typeIs slot_tuple_iter.lookup (A9 ?_))
 simp only[Di,if_false]
 refine A0 (B7 (iter_tuple ht (A0 (B7 (draw_tuple hne 1 0 _ _ ⟨_,Ai _ rfl,rfl,rfl⟩ (ht.push _) (by omega) fun ha ia ba=> ?_)))))
 have ta:IsTup ha t items:=(ht.push _).extBut ba.extBut hne
 have ia:ha.IsTupleIter s.heap.objs.size t 1:=ia
 obtain⟨oi,gi,_⟩:=id ia
 obtain⟨ot,gt,_⟩:=id ta
 have hsz:ha.objs.size=s.heap.objs.size+1:=by rw[ba.1,Cj]
 have o8:((items.toList.drop 0).take 1).length=1:=by simp;omega
 rw[if_neg (show¬((items.toList.drop 0).take 1).length<1 by rw[o8];exact Bj _)]
 refine A0 (B7 (kun_collect (s:={s with heap:=ha}) (T:= "tuple_iterator") (.inr (.inr (.inr rfl))) (Walks.tuple (A:=A.in1) hh s.heap.objs.size t hne items) (fun j u st=>st.1.typeIs) (k:=1) h1 ⟨ia,ta⟩ (Ae gi) (Ae gt) (fun hb tk kb=> ?_) (by rw[Bb];exact hz)))
 have qb:(items.toList.drop 1).length=items.size - 1:=by simp
 show wpAny _ _ (if(items.toList.drop 1).length<2 - 1 - 1 then _ else _) _ _ _
 rw[if_neg (Il _)]
 show wpAny _ _ (newList ((items.toList.drop 1).take ((items.toList.drop 1).length - (2 - 1 - 1)))>>=fun d=>pure ((items.toList.drop 0).take 1++[d]++(items.toList.drop 1).drop ((items.toList.drop 1).length - (2 - 1 - 1)))) _ _ _
 have e1:(items.toList.drop 1).take ((items.toList.drop 1).length - (2 - 1 - 1))=items.toList.drop 1:=Bq (Af _)
 have e2:(items.toList.drop 1).drop ((items.toList.drop 1).length - (2 - 1 - 1))=[]:=Fm
 rw[e1,e2]
 refine A0 (C6 (A9 ?_) (by show _<=sizeLine;rw[Bb];simp;omega))
 obtain⟨x,hx⟩: ∃x,items[0]? =some x:=⟨items[0],by simp[show 0<items.size by omega]⟩
 have e3:(items.toList.drop 0).take 1=[x]:=by
  rw[J4]
  have:items.toList[0]? =some x:=by simpa using hx
  cases hl:items.toList with
  |nil=>rw[hl] at this;cases this
  |cons y r=>rw[hl] at this;cases this;rfl
 rw[e3]
 have keep: ∀b o,s.heap.get? b=some o->hb.get? b=some o:=fun b o e=>kb b o (Aq (Ae e)) (ba.extBut b o (Aq (Ae e)) (A1 _ e))
 exact hQ x hb tk hx keep
end
section
variable{X:Cx}{K:A8}{ml:List Nat}{e a b c:Expr}{es:List Expr}{pa ta ia pb tb ib pc tc ic pu bt bi ps bs:Bool}{fa fb fc f:VF}{B B':Bs}{O:Nat->Option Addr}{H H0 H1 H':Hp}{σ:St}{δ δ':Ev}{v:V}{d:Dat}{p:Addr}{pos:Pos}
def yFT(K:A8)(i j:Nat):TG:=fun v σ H Q=> ∃a x xs,v= .ref a/\SqT K H a (x::xs)/\ ∀p,H p=none->Q ((σ.set i (some x)).set j (some (.ref p))) (upd H p (.lst xs))
theorem zWQ{i j:Nat}{x y:Str}{px py ps tp:Pos}{k:Nat}(hc:X.calm=true)(hN:X.N.Nodup)(hi:X.N[i]? =some x)(hj:X.N[j]? =some y)(hx:Loc X.env.scope x)(hy:Loc X.env.scope y)
  (fx:X.fn x=true∨X.env.scope.names.lookup x=some .local) (fy:X.fn y=true∨X.env.scope.names.lookup y=some .local)
  (hl:(assignEach [.Name x px,.Starred (.Name y py) ps] X.env).map (·.2)=[assign (.Name x px) X.env,assign (.Name y py) X.env]) (hn:(assignEach [.Name x px,.Starred (.Name y py) ps] X.env).length=2) (hst:(assignEach [.Name x px,.Starred (.Name y py) ps] X.env).findIdx? (·.1)=some 1):
  PG X (.Tuple [.Name x px,.Starred (.Name y py) ps] k tp) (yFT X.K i j):=by
 intro a6 s σ H v u Q I r hw
 obtain⟨a,z,zs,e1,hq,q⟩:=hw
 subst e1
 cases r
 obtain⟨its,rv,ht,hz⟩:=I.tuple hq
 rw[assign_Tuple]
 refine A0 (E8 ?_)
 (unfold unpack)
 rw[hn,hst]
 have aa:=rv.length
 rw[Bg] at aa
 have hz':its.length<=16777216:=by rw[<- Bb,<- aa];exact hz
 refine A0 (B7 (zNK (I.ok.hd hc) ht (by rw[Ad];omega) (by rw[Ad];exact hz') fun u hb tk hu kp=> ?_))
 rw[hl]
 cases rv with
 | @cons _ w _ ws rz rzs=>
  have hu:some w=some u:=by simpa using hu
  cases hu
  have I1:Inv X a6 σ H {s with heap:=hb,toks:=tk}:=I.kept kp
  have I2:=Inv.lnew (s:={s with heap:=hb,toks:=tk}) (t':=tk) I1 rzs (by rw[Bb];simp only[Bg] at hz' aa;have:=rzs.length;omega)
  refine Ck (F2 (zCD I2 hN hi hx rz (fun s3 I3=> ?_) fx))
  refine Ck (F2 (zCD I3 hN hj hy (v:= .ref hb.objs.size) rfl (fun s4 I4=>F3 ⟨_,_,I4,q _ (I1.hok.fresh (Af _))⟩) fy))
noncomputable def zNN(i j:Nat)(f:VF):VS:=fun δ=>(f δ).bind fun p=>match p.1 with
 | .tup (d::ds)=>some (.nx ((p.2.set i (.va d)).set j (.va (.lst ds))))
 |_=>none
theorem zOJ{i j:Nat}{x y:Str}{px py sp tp:Pos}{k:Nat}(hK:X.K=K)(hc:X.calm=true)(hN:X.N.Nodup)(hi:X.N[i]? =some x)(hj:X.N[j]? =some y)(hij:i≠j)(hx:Loc X.env.scope x)(hy:Loc X.env.scope y)(he:PE X e (TV K ml pu true true f))
  (hmi : i ∉ ml := by decide) (hmj : j ∉ ml := by decide)
  (fx : X.fn x = true ∨ X.env.scope.names.lookup x = some .local := by first | exact .inl rfl | exact .inr rfl | assumption) (fy : X.fn y = true ∨ X.env.scope.names.lookup y = some .local := by first | exact .inl rfl | exact .inr rfl | assumption)
  (hl : (assignEach [.Name x px,.Starred (.Name y py) sp] X.env).map (·.2) = [assign (.Name x px) X.env,assign (.Name y py) X.env] := by rfl) (hn : (assignEach [.Name x px,.Starred (.Name y py) sp] X.env).length = 2 := by rfl) (hst : (assignEach [.Name x px,.Starred (.Name y py) sp] X.env).findIdx? (·.1) = some 1 := by rfl)
  (hs : Df [.Tuple [.Name x px,.Starred (.Name y py) sp] k tp] e pos.line X.env = pure false := by rfl) (hw : Dg [.Tuple [.Name x px,.Starred (.Name y py) sp] k tp] e X.env = pure none := by rfl)
  (h1 : (assignEach [.Tuple [.Name x px,.Starred (.Name y py) sp] k tp] X.env).map (·.2) = [assign (.Tuple [.Name x px,.Starred (.Name y py) sp] k tp) X.env] := by rfl) :
  PS X (.Assign [.Tuple [.Name x px,.Starred (.Name y py) sp] k tp] e pos) (TSt K ml (zNN i j f)):=by
 subst hK
 refine(zMN he (zWQ hc hN hi hj hx hy fx fy hl hn hst) hs hw h1).imp fun D σ H ⟨B,O,δ,o,S,q,k⟩=> ?_
 unfold zNN at q
 cases h1:f δ with
 | none => rw [h1] at q;cases q
 |some p1=>
  obtain⟨z,δ1⟩:=p1
  rw[h1] at q
  refine⟨B,O,δ,z,δ1,S,h1,fun v H1 R=> ?_⟩
  cases z with
  |tup ds=>
   cases ds with
   | nil => cases q
   |cons d ds=>
    cases q
    obtain⟨a,xs,rfl,sq,r⟩:=R.rep.tupE
    cases r with
    | @cons v0 vs _ _ r1 r2=>
     refine⟨a,v0,vs,rfl,sq,fun p hp=> ?_⟩
     have S1:=(R.sta.same (zA5 (o:= .lst vs) hp)).setVa hmi (r1.same (zA5 (o:= .lst vs) hp))
     have N1: ∀c,Nn B (fun j=>if j=i then none else O j) c->Nn B O c:=zK2 (o:=none)
     refine k _ _ _ (S1.setVa hmj (.lst zAG (fun z=>R.sta.new hp (N1 _ z)) ((r2.same (zA5 hp)).mono N1)))
  |_=>cases q
end
end L2
namespace L2
open PySem PySem.Spec PyProof.Rows
section
variable{X:Cx}{K:A8}{ml:List Nat}{e a b c:Expr}{es:List Expr}{pa ta ia pb tb ib pc tc ic pu bt bi ps bs:Bool}{fa fb fc f:VF}{B B':Bs}{O:Nat->Option Addr}{H H0 H1 H':Hp}{σ:St}{δ δ':Ev}{v:V}{d:Dat}{p:Addr}{pos:Pos}
def rInD(K:A8)(neg:Bool):R2:=fun x y H Q=> ∃d e ds,Dp K H x d/\Dp K H y e/\(e= .list ds∨e= .tuple ds)/\D0 d=true/\D0 e=true/\Q (.bl (if neg then !ds.any (fun z=>Fw z d) else ds.any fun z=>Fw z d)) H
theorem zG0{d:J3}(h:D0 d=true):d.canLay0=true/\d.depth<=64:=by
 unfold D0 at h
 simp only[A3,decide_eq_true_eq] at h
 exact h
theorem zV0(neg:Bool)(hu:X.A.units+64<cLine):OpR X (By (if neg then .NotIn else .In)) (rInD X.K neg):=by
 intro a6 s σ H x y v u Q I rx ry h
 obtain⟨d,e,ds,hd,he,hk,sd,se,q⟩:=h
 obtain⟨as,h1⟩:=I.reads hd rx
 obtain⟨bs,h2⟩:=I.reads he ry
 obtain⟨c1,d1⟩:=zG0 sd
 obtain⟨c2,d2⟩:=zG0 se
 have fin: ∀k,(k=if neg then !ds.any (fun z=>Fw z d) else ds.any fun z=>Fw z d)->EP X a6 σ Q (.bool k) s:=fun k hk=>by subst hk;exact⟨.bl _,H,I,rfl,q⟩
 rcases hk with rfl|rfl
 ·have hc : Fc ds = true := by simpa [E1] using c2
  have jd:D7 ds<=63:=by simp only[Fl] at d2;omega
  have hm:X.A.units+1+min (D7 ds) d.depth<cLine:=by have:=Lj (D7 ds) d.depth;omega
  cases neg with
  |false=>exact SeqAt.in_list_reads h2 h1 hc c1 hm (fin _ rfl)
  |true=>exact SeqAt.notIn_list_reads h2 h1 hc c1 hm (fin _ rfl)
 ·have hc : Fc ds = true := by simpa [E1] using c2
  have jd:D7 ds<=63:=by simp only[Fl] at d2;omega
  have hm:X.A.units+1+min (D7 ds) d.depth<cLine:=by have:=Lj (D7 ds) d.depth;omega
  cases neg with
  |false=>exact SeqAt.in_tuple_reads h2 h1 hc c1 hm (fin _ rfl)
  |true=>exact SeqAt.notIn_tuple_reads h2 h1 hc c1 hm (fin _ rfl)
theorem kInD(h:X.K=K)(hu:X.A.units+64<cLine):OpR X (By .In) (rInD K false):=by subst h;exact zV0 false hu
theorem zII(h:X.K=K)(hu:X.A.units+64<cLine):OpR X (By .NotIn) (rInD K true):=by subst h;exact zV0 true hu
noncomputable def inE(d:Dat)(ds:List Dat):Bool:=(pds ds).any fun z=>Fw z d.pd
noncomputable def oInD(neg:Bool)(d e:Dat):Option Dat:=(seqD e).bind fun ds=>if(okD d && okD e)=true then some (.bl (if neg then !inE d ds else inE d ds)) else none
theorem zCW{neg:Bool}:OpS K (rInD K neg) (oInD neg):=by
 intro H N N' M M' x y d e c Q hx hy h k
 unfold oInD at h
 cases hs:seqD e with
 | none => rw [hs] at h;cases h
 |some ds=>
  rw[hs] at h
  have h:(if(okD d && okD e)=true then some (Dat.bl (if neg then !inE d ds else inE d ds)) else none)=some c:=h
  split at h
  ·rename_i hh
   cases h
   simp only[okD,A3] at hh
   refine⟨d.pd,e.pd,pds ds,hx.dp hh.1.1,hy.dp hh.2.1,?_,hh.1.2,hh.2.2,k _ fun _ _ _=> .bl _⟩
   cases e<;>first
    |(cases hs;exact .inr rfl)
    |(cases hs;exact .inl rfl)
    |cases hs
  ·cases h
def yD8(K:A8)(td ty:TE):TE:=fun σ H Q=>td σ H fun x H1=> ∃a,x= .ref a/\((IsD H1 a/\ty σ H1 fun y H2=> ∃o,DGet H2 a y o/\Q (o.getD .non) H2)∨ ∃D,KTab K a D/\ty σ H1 fun y H2=> ∃k,y= .str k/\Q ((Dm k D).getD .non) H2)
theorem zT9{ai a8:Pos}{td ty:TE}(hu:X.A.units+1<cLine)(ho:PE X a td)(he:PE X e ty)(m:M1 X a "get" ai e a8):PE X (.Call (.Attribute a "get" ai) [e] [] a8) (yD8 X.K td ty):=by
 intro a6 s σ H Q I h
 refine Jz m.base m.few m.line Hf Ch Ii (thn (ho a6 s σ H _ I h) fun u s1 ⟨x,H1,I1,rx,l,ex,q1⟩=> ?_)
 subst ex
 obtain rfl:u=Av l:=rx
 rcases q1 with⟨hd,q1⟩|⟨D,T,q1⟩
 ·obtain⟨t1,t2,_⟩:=zV9 I1 hd
  refine⟨t1,t2,?_⟩
  rw[m.trees]
  refine E2 rfl (Dq (E3 (thn (he a6 s1 σ H1 _ I1 q1) fun iv s2 ⟨y,H2,I2,ry,ov,g,q2⟩=>F5 ?_)))
  exact yCF hu I2 g ry fun w' s3 I3 rw'=>⟨_,H2,I3,rw',q2⟩
 ·obtain⟨og,o,qh,ep,hk,hex,ao,_⟩:=id T
  refine⟨⟨o,I1.kIn _ _ hk,hex.1⟩,fun b q=> ?_,?_⟩
  ·cases q
   exact⟨o,I1.kIn _ _ hk,hex.2.1⟩
  rw[m.trees]
  refine E2 rfl (Dq (E3 (thn (he a6 s1 σ H1 _ I1 q1) fun iv s2 ⟨y,H2,I2,ry,k,ey,q2⟩=>F5 ?_)))
  subst ey
  obtain⟨t,rfl⟩:=ry
  have hT:s2.TypeIs (.ref l) "dict":=⟨o,I2.kIn _ _ hk,hex.1⟩
  refine Cr Ch hT D9 ?_ (Eu _ _)
  show wpAny _ _ (dictGet l (.str k t)>>=_) _ _ s2
  refine A0 (zMX I2.kIn T (fun d' v' ha hv=>A9 ⟨v',rfl,?_⟩) fun hn=> ?_)
  ·rw[ha] at q2
   exact⟨d',H2,I2.tok _,hv,q2⟩
  ·rw[hn] at q2
   show wpAny _ _ (Je l (.str k t)>>=_) _ _ _
   unfold Je
   rw[if_neg (by rw[og];exact Cb)]
   exact A0 (A9 (A9 ⟨.none,rfl,.non,H2,I2.tok _,rfl,q2⟩))
noncomputable def yBL:Dat->Dat->Option Dat
 | .dct ks ds,.str x=>some ((zBI ks ds (.inr x)).getD .non)
 |_,_=>none
theorem zW0{ai a8:Pos}(hK:X.K=K)(hu:X.A.units+1<cLine)(ha:PE X a (TV K ml pa ta ia fa))(hb:PE X b (TV K ml pb tb ib fb))(m:M1 X a "get" ai b a8) (hs:(pb || (ta && ia))=true:=by rfl):
  PE X (.Call (.Attribute a "get" ai) [b] [] a8) (TV K ml (pa && pb) ia ia (f2 yBL fa fb)):=by
 subst hK
 refine(zT9 hu ha hb m).imp fun σ H Q ⟨B,O,δ,d,δ2,S,q,k⟩=> ?_
 obtain⟨x,δ1,y,h1,h2,h3⟩:=zH8 q
 refine⟨B,O,δ,x,δ1,S,h1,fun v1 H1 R1=> ?_⟩
 have fin : ∀ v2 H2 (R2 : Res X.K ml B O H1 σ pb tb ib H2 δ2 v2 y) o,Rep X.K (av B O ia) H2 (av B O ia) o d -> Q o H2 := fun v2 H2 R2 o ho => k o H2 ⟨R2.sta,R1.frm.trans R2.frm,fun z => by
  obtain⟨z1,z2⟩:=(A3 _ _).mp z
  exact(R1.pur z1).trans (R2.pur z2),ho.mono (fun _ z=>z) yCM⟩
 cases x with
 |dct ks ds=>
  cases y with
  |str z=>
   cases h3
   generalize hx:Dat.dct ks ds=dd at R1
   have r1:=R1.rep
   cases r1 with
   | @dct _ l kvs ds' qd n r=>
    cases hx
    refine⟨l,rfl,.inl ⟨.inl ⟨_,.inl qd⟩,B,O,δ1,_,δ2,R1.sta,h2,fun v2 H2 R2=> ?_⟩⟩
    have r2:=R2.rep
    cases r2
    have h4:H2 l=some (.dK kvs)/\RepA X.K (av B O ia) H2 (kvs.map Cy) ds:=by
     cases pb with
     |true=>exact⟨R2.pur rfl _ _ qd,r.same (R2.pur rfl)⟩
     |false=>
      have hs:(ta && ia)=true:=by simpa using hs
      obtain⟨z1,z2⟩:=(A3 _ _).mp hs
      subst z1 z2
      exact⟨R2.frm _ _ qd fun w=>absurd (.inr w) n,r.fr R2.frm fun a z=> .inr z⟩
    refine⟨_,DGet.k (k:= .inr z) h4.1,fin _ _ R2 _ ?_⟩
    rcases zGJ (k:= .inr z) h4.2 with⟨v,d',g1,g2,g3⟩|⟨g1,g2⟩
    ·rw[g1,g2];exact g3
    ·rw[g1,g2];exact .non
   | @ktb _ l D ds' T r=>
    cases hx
    refine⟨l,rfl,.inr ⟨D,T,B,O,δ1,_,δ2,R1.sta,h2,fun v2 H2 R2=> ?_⟩⟩
    have r2:=R2.rep
    cases r2
    refine⟨z,rfl,fin _ _ R2 _ ?_⟩
    have r':RepA X.K (av B O ia) H2 (D.map Cy) ds:=by
     cases pb with
     |true=>exact r.same (R2.pur rfl)
     |false=>
      have hs:(ta && ia)=true:=by simpa using hs
      obtain⟨z1,z2⟩:=(A3 _ _).mp hs
      subst z1 z2
      exact r.fr R2.frm fun a z=> .inr z
    rcases zHA (k:=z) r' with⟨v,d',g1,g2,g3⟩|⟨g1,g2⟩
    ·rw[g1,g2];exact g3
    ·rw[g1,g2];exact .non
   |_=>cases hx
  |_=>cases h3
 |_=>cases h3
end
theorem zVN:Ar "all"=some (.builtin "all"):=by decide+kernel
theorem zY2:Ar "dict"=some (.type "dict"):=by decide+kernel
section
variable{X:Cx}{K:A8}{ml:List Nat}{e a b c:Expr}{es:List Expr}{pa ta ia pb tb ib pc tc ic pu bt bi ps bs:Bool}{fa fb fc f:VF}{B B':Bs}{O:Nat->Option Addr}{H H0 H1 H':Hp}{σ:St}{δ δ':Ev}{v:V}{d:Dat}{p:Addr}{pos:Pos}
theorem zY5{ks:List Bool}{us:List Value}(r:Vals (ks.map V.bl) us){i:Nat}{u:Value}(h:us[i]? =some u): ∃k,ks[i]? =some k/\u= .bool k:=by
 have hl:=r.length
 rw[Bo] at hl
 have hi:i<us.length:=(A5.mp h).1
 have e:(ks.map V.bl)[i]? =some (.bl ks[i]):=by simp[hl▸hi]
 obtain⟨w,h1,h2⟩:=r.get e
 rw[h] at h1
 cases h1
 exact⟨ks[i],by simp[hl▸hi],h2⟩
theorem zPP{ks:List Bool}:(Ao ks.length).all (fun i=>(ks[i]?).getD true)=ks.all id:=by
 induction ks with
 |nil=>rfl
 |cons k ks ih=>
  rw[Bg,Hw,Mg,Mq,Mg,<- ih]
  rfl
def zT2(K:A8)(g:List Bool->Bool):RC:=fun xs H Q=> ∃p ks,xs=[.ref p]/\SqL K H p (ks.map V.bl)/\Q (.bl (g ks)) H
theorem zSO{prog:Aj}{w:World}{A:B8}{ks:List Bool}{us:List Value}(r:Vals (ks.map V.bl) us):TruthOf prog w A (fun i v=>us.toArray[i]? =some v) fun i=>(ks[i]?).getD true:=by
 intro i v s Q E hP hQ
 obtain⟨k,h1,rfl⟩:=zY5 r (by simpa using hP)
 have hQ:Q ((ks[i]?).getD true) s:=hQ
 rw[h1] at hQ
 exact D5 hQ
theorem zRX(hc:X.calm=true):zBY X (.builtin "all") (zT2 X.K fun ks=>ks.all id):=by
 intro a6 s σ H xs us Q I r h
 obtain⟨l,ks,rfl,hq,q⟩:=h
 obtain⟨u,rfl,rx⟩:=zHI r
 cases rx
 obtain⟨its,rv,pl,hz⟩:=I.list hq
 have hl:=pl.isList
 have hne:l≠s.heap.objs.size:=by obtain⟨o,g,_⟩:=hl;exact Aq (Ae g)
 have aa:=rv.length
 rw[Bo] at aa
 refine call_all_walk (E9 hl ⟨_,_,_,_,_,_,_,rfl,Walks.list (show X.A.in1.handled=none from I.ok.hd hc) s.heap.objs.size l hne its.toArray,⟨⟨_,Ai _ rfl,rfl,rfl⟩,?_⟩,zSO rv,fun h' tk hk=> ?_⟩)
 ·obtain⟨o,g,r⟩:=hl
  exact⟨o,A1 _ g,r⟩
 ·rw[Ad,<- aa,zPP]
  exact⟨.bl _,H,I.kept (t':=tk) fun b o g=>hk b o (by simp;exact Aq (Ae g)) (A1 _ g),rfl,q⟩
theorem kAll(h:X.K=K)(hc:X.calm=true):zBY X (.builtin "all") (zT2 K fun ks=>ks.all id):=by subst h;exact zRX hc
noncomputable def blsD:List Dat->Option (List Bool)
 |[]=>some []
 | .bl k::ds=>(blsD ds).map fun ks=>k::ks
 |_=>none
theorem zS1{N:Addr->Prop}: ∀{xs:List V} {ds:List Dat} {ks:List Bool},RepA K N H xs ds->blsD ds=some ks->xs=ks.map V.bl
 | _,_,_,.nil,h => by cases h;rfl
 | _,_,_,@RepA.cons _ _ _ v vs d ds h t,e => by
  cases d with
  |bl k=>
   cases h
   have e:(blsD ds).map (fun ks=>k::ks)=some _:=e
   cases h2:blsD ds with
   |none=>rw[h2] at e;cases e
   |some ks'=>
    rw[h2] at e
    cases e
    rw[zS1 t h2,An]
  |_=>cases e
noncomputable def zX6(g:List Bool->Bool):Dat->Option Dat
 | .lst ds=>(blsD ds).map fun ks=> .bl (g ks)
 |_=>none
noncomputable abbrev oAll:=zX6 fun ks=>ks.all id
theorem zZF{g:List Bool->Bool}:CalS K (zT2 K g) (zX6 g):=by
 intro H N M x d c Q hx h k
 cases d with
 |lst ds=>
  have h:(blsD ds).map (fun ks=>Dat.bl (g ks))=some c:=h
  cases h1:blsD ds with
  |none=>rw[h1] at h;cases h
  |some ks=>
   rw[h1] at h
   cases h
   obtain⟨a,xs,rfl,sq,r⟩:=hx.lstE
   have:=zS1 r h1
   subst this
   exact⟨a,ks,rfl,sq,k _ fun _ _ _=> .bl _⟩
 |_=>cases h
theorem zZG:CalS K (zT2 K fun ks=>ks.all id) oAll:=zZF
noncomputable def zF4:List Dat->Option (List Int)
 |[]=>some []
 | .int i::ds=>(zF4 ds).map fun ns=>i::ns
 |_=>none
theorem zIJ{N:Addr->Prop}: ∀{xs:List V} {ds:List Dat} {ns:List Int},RepA K N H xs ds->zF4 ds=some ns->xs=ns.map V.int
 | _,_,_,.nil,h => by cases h;rfl
 | _,_,_,@RepA.cons _ _ _ v vs d ds h t,e => by
  cases d with
  |int k=>
   cases h
   have e:(zF4 ds).map (fun ks=>k::ks)=some _:=e
   cases h2:zF4 ds with
   |none=>rw[h2] at e;cases e
   |some ks'=>
    rw[h2] at e
    cases e
    rw[zIJ t h2,An]
  |_=>cases e
theorem zMJ{N:Addr->Prop}: ∀ns:List Int,RepA K N H (ns.map V.int) (ns.map Dat.int)
 |[]=> .nil
 |i::ns=> .cons (.int i) (zMJ ns)
theorem rngI{a:Int}{n:Nat}{acc:Array Value}(h:ItemsOf (fun i v=> ∃t,v= .int (a+i*1) t) acc n):Vals ((Ao n).map fun i:Nat=>V.int (a+i)) acc.toList:=by
 obtain⟨h1,h2⟩:=h
 have go: ∀(m:Nat) (us:List Value),us.length=m-> ∀k:Nat,(∀(i:Nat) (v:Value),us[i]? =some v-> ∃t,v= .int (a+((k+i:Nat):Int)*1) t)->Vals ((Ao m).map fun i:Nat=>V.int (a+((k+i:Nat):Int))) us:=by
  intro m
  induction m with
  | zero => intro us hl k _;rw [Dz.mp hl];exact .nil
  |succ m ih=>
   intro us hl k hu
   cases us with
   | nil => cases hl
   |cons u us=>
    rw[Hw,An,Ki]
    obtain⟨t,ht⟩:=hu 0 u rfl
    refine .cons ⟨t,by rw[ht];simp⟩ ?_
    have:=ih us (by simpa using hl) (k+1) fun i v e=>by
     obtain⟨t,h⟩:=hu (i+1) v (by simpa using e)
     exact⟨t,by rw[h,show k+(i+1)=k+1+i by omega]⟩
    have e:((fun i:Nat=>V.int (a+((k+i:Nat):Int)))∘Nat.succ)=fun i:Nat=>V.int (a+((k+1+i:Nat):Int)):=by
     funext i
     simp only[Mh,Nat.succ_eq_add_one]
     rw[show k+(i+1)=k+1+i by omega]
    rw[e]
    exact this
 have:=go n acc.toList (by simpa using h1) 0 fun i v e=>by
  have:=h2 i v (by simpa using e)
  simpa using this
 simpa using this
theorem zLW:zBY X (.type "range") (fun xs H Q=> ∃j,xs=[.int j]/\ ∀p,H p=none->Q (.ref p) (upd H p (.ext (rngP p 0 j 1)))):=by
 intro a6 s σ H xs us Q I r h
 obtain⟨j,rfl,q⟩:=h
 obtain⟨u,rfl,t,rfl⟩:=zHI r
 refine call_range_1 ?_
 have hn:=I.hok.fresh (Af s.heap.objs.size)
 refine⟨.ref s.heap.objs.size,_,I.laid (a:=s.heap.objs.size) (o:= .ext (rngP s.heap.objs.size 0 j 1)) (t':=s.toks+1+1) (fun _ _ z=>A1 _ z) (Af _) ?_,rfl,q _ hn⟩
 exact⟨⟨_,_,_,Mv ..⟩,⟨_,Ai _ rfl⟩,fun h1 h2 ⟨t,u,v,z⟩ k=>⟨t,u,v,k _ z⟩⟩
theorem zIV(hc:X.calm=true):zBY X (.type "list") (fun xs H Q=> ∃(p:Addr) (j:Int),xs=[.ref p]/\H p=some (.ext (rngP p 0 j 1))/\(0<=j/\j<=16777216)/\ ∀l,H l=none->Q (.ref l) (upd H l (.lst ((Ao j.toNat).map fun i:Nat=>V.int (0+i))))):=by
 intro a6 s σ H xs us Q I r h
 obtain⟨p,j,rfl,hp,hj,q⟩:=h
 obtain⟨u,rfl,rx⟩:=zHI r
 cases rx
 obtain⟨⟨t,u,v,z⟩,_⟩:=I.hok p _ hp
 have hn:Ep 0 j 1=(j.toNat:Int):=by
  unfold Ep
  rw[if_pos (by decide)]
  split
  ·rw[Int.ediv_one]
   omega
  ·omega
 have p62:(2:Int) ^ 62=4611686018427387904:=by decide
 have p24:(2:Nat) ^ 24=16777216:=by decide
 have sm:Mx 0 j 1=true:=small_one (a:=0) (b:=j) (by rw[p62];decide) (by rw[p62];decide) (by rw[p62];omega) (by rw[p62];omega)
 refine call_list_range (I.ok.hd hc) z sm hn (by rw[p24];omega) fun h' tk acc c kp hS hI=> ?_
 have rv:=rngI hI
 refine⟨.ref s.heap.objs.size,_,I.laid (a:=s.heap.objs.size) (o:= .lst ((Ao j.toNat).map fun i:Nat=>V.int (0+i))) (t':=tk) kp (Af _) ⟨?_,acc.toList,c,rv,by simpa using hS⟩,rfl,q _ (I.hok.fresh (Af _))⟩
 rw[Bo,F9,Bb]
 omega
noncomputable def zFU(f:VF):VF:=fun δ=>(f δ).bind fun p=>match p.1 with
 | .int j=>if 0<=j/\j<=16777216 then some (.lst (rngD 0 j.toNat),p.2) else none
 |_=>none
theorem zWA{N:Addr->Prop}(lo:Int)(n:Nat):RepA K N H ((Ao n).map fun i:Nat=>V.int (lo+i)) (rngD lo n):=by
 unfold rngD
 induction (Ao n) with
 |nil=>exact .nil
 |cons x xs ih=>exact .cons (.int _) ih
theorem zOM{p1 p2 jc:Pos}(hc:X.calm=true)(hg:Gl X "list") (hm:X.mg "list"=none) (hv:Ar "list"=some (.type "list")) (hg2:Gl X "range") (hm2:X.mg "range"=none) (hv2:Ar "range"=some (.type "range")) (ha:PE X a (TV K ml pa ta ia fa))
  (he : starEach (a :: []) X.env = (false,eval a X.env) :: starEach [] X.env := by rfl) (he2 : starEach (.Call (.Name "range" p2) [a] [] jc :: []) X.env = (false,eval (.Call (.Name "range" p2) [a] [] jc) X.env) :: starEach [] X.env := by rfl) :
  PE X (.Call (.Name "list" p1) [.Call (.Name "range" p2) [a] [] jc] [] pos) (TN K ml pa (zFU fa)):=
 (zD8 (zIV hc) hg hm hv (zAQ (zD8 zLW hg2 hm2 hv2 (zAQ ha zBT he) (by decide) (by decide) he) zBT he2) (by decide) (by decide) he2).imp fun σ H Q q0 => by
  obtain⟨B,O,δ,d,δ',S,q,k⟩:=q0
  unfold zFU at q
  cases h1:fa δ with
  | none => rw [h1] at q;cases q
  |some p1=>
   obtain⟨x,δ1⟩:=p1
   rw[h1] at q
   cases x with
   |int j=>
    have q:(if 0<=j/\j<=16777216 then some (Dat.lst (rngD 0 j.toNat),δ1) else none)=some (d,δ'):=q
    split at q
    ·rename_i hj
     cases q
     refine⟨B,O,δ,_,_,S,h1,fun v1 H1 R1=> ?_⟩
     have r1:=R1.rep
     cases r1
     refine⟨j,rfl,fun p hp=>⟨p,j,rfl,zAG,hj,fun l hl=> ?_⟩⟩
     have sm:Same H1 (upd H1 p (.ext (rngP p 0 j 1))):=zA5 hp
     exact k l _ (mkN (R1.sta.same sm) (R1.frm.trans sm.fr) (fun z=>(R1.pur z).trans sm) hl (zWA 0 j.toNat))
    ·cases q
   |_=>cases q
end
section
variable{X:Cx}{K:A8}{ml:List Nat}{e a b c:Expr}{es:List Expr}{pa ta ia pb tb ib pc tc ic pu bt bi ps bs:Bool}{fa fb fc f:VF}{B B':Bs}{O:Nat->Option Addr}{H H0 H1 H':Hp}{σ:St}{δ δ':Ev}{v:V}{d:Dat}{p:Addr}{pos:Pos}
noncomputable def posI(n:Int):List Int->Option Nat
 |[]=>none
 |i::ns=>if i=n then some 0 else(posI n ns).map (· +1)
theorem zJW{n:Int}: ∀{ns:List Int} {j:Nat},posI n ns=some j->ns[j]? =some n/\ ∀m,m<j->ns[m]? ≠some n
 | [],_,h => by cases h
 | i :: ns,j,h => by
  unfold posI at h
  split at h
  ·rename_i hi
   cases h
   exact⟨by rw[hi];rfl,fun m hm=>absurd hm (Il _)⟩
  ·rename_i hi
   cases h1:posI n ns with
   |none=>rw[h1] at h;cases h
   |some k=>
    rw[h1] at h
    cases h
    obtain⟨h2,h3⟩:=zJW h1
    refine⟨by simpa using h2,fun m hm=> ?_⟩
    cases m with
    |zero=>simpa using hi
    |succ m=>simpa using h3 m (Hx hm)
theorem zMC{ns:List Int}{us:List Value}(r:Vals (ns.map V.int) us){m:Nat}{u:Value}(h:us[m]? =some u): ∃i t,ns[m]? =some i/\u= .int i t:=by
 have hl:=r.length
 rw[Bo] at hl
 have hm:m<us.length:=(A5.mp h).1
 have e:(ns.map V.int)[m]? =some (.int ns[m]):=by simp[hl▸hm]
 obtain⟨u',e1,t,e2⟩:=r.get e
 rw[h] at e1
 cases e1
 exact⟨ns[m],t,by simp[hl▸hm],e2⟩
noncomputable def zKA(n:Int):Value->Bool
 | .int i _=>i==n
 |_=>false
theorem zVB{ns:List Int}{its:List Value}{n:Int}{j:Nat}(r:Vals (ns.map V.int) its)(h:posI n ns=some j):
  ∃hj:j<its.toArray.size,zKA n its.toArray[j]=true/\(∀m (hm:m<its.toArray.size),m<j->zKA n its.toArray[m]=false):=by
 obtain⟨h1,h2⟩:=zJW h
 have hl:=r.length
 rw[Bo] at hl
 have hj:j<ns.length:=(A5.mp h1).1
 have at_: ∀(m:Nat) (hm:m<its.toArray.size),∃i t,ns[m]? =some i/\its.toArray[m]= .int i t:=fun m hm=>by
  have hm':m<its.length:=by simpa using hm
  exact zMC r (u:=its.toArray[m]) (by simp[hm'])
 refine⟨by simpa[<- hl] using hj,?_,fun m hm hmj=> ?_⟩
 ·obtain ⟨i,t',e1,e2⟩ := at_ j (by simpa [<- hl] using hj)
  rw[h1] at e1
  cases e1
  rw[e2]
  simp[zKA]
 ·obtain⟨i,t',e1,e2⟩:=at_ m hm
  have:=h2 m hmj
  rw[e1] at this
  rw[e2]
  exact beq_eq_false_iff_ne.mpr fun z=>this (by rw[z])
theorem zVA{ns:List Int}{its:List Value}(r:Vals (ns.map V.int) its){y:Value}(hy:y∈its.toArray): ∃i t,y= .int i t:=by
 obtain⟨m,hm,rfl⟩:=Array.mem_iff_getElem.mp hy
 have hm':m<its.length:=by simpa using hm
 obtain⟨i,t,_,e⟩:=zMC r (m:=m) (u:=its.toArray[m]) (by simp[hm'])
 exact⟨i,t,e⟩
def zUT(K:A8):V->List V->Hp->VK->Prop:=fun x vs H Q=> ∃(l:Addr) (ns:List Int) (n:Int) (j:Nat),x= .ref l/\vs=[.int n]/\SqL K H l (ns.map V.int)/\posI n ns=some j/\Q (.int j) H
theorem zQQ:MtM X "list.index" (zUT X.K):=by
 intro a6 s σ H x vs v us Q I rx rv h
 obtain⟨l,ns,n,j,rfl,rfl,hq,hj,q⟩:=h
 cases rx
 obtain⟨u,rfl,t,rfl⟩:=rv.one
 obtain⟨its,r,⟨o,c,e,hc,hd,ao⟩,hz⟩:=I.list hq
 obtain⟨cls,dd,data,sl⟩:=o
 simp only at hc hd ao
 subst hc hd ao
 obtain⟨hjs,h1,h2⟩:=zVB r hj
 have hl:=r.length
 refine Du K6 ⟨_,e,rfl⟩ Jn (Jf _ _) (Jo l its.toArray c none sl (.int n t) (zKA n) j hjs (by
  have h3:its.length<=16777216:=by rw[<- hl,<- Bb];exact hz
  have h4:j<its.length:=by simpa using hjs
  omega) h1 h2) ⟨e,?_,?_⟩
 ·intro y hy
  obtain⟨i,t',rfl⟩:=zVA r hy
  exact SeqAt.EqAt.int_int i t' n t
 ·exact⟨.int j,H,I.tok _,⟨_,rfl⟩,q⟩
theorem yC2(h:X.K=K):MtM X "list.index" (zUT K):=by subst h;exact zQQ
noncomputable def zQI:Dat->Dat->Option Dat
 | .lst ds,.int n=>(zF4 ds).bind fun ns=>(posI n ns).map fun j=> .int j
 |_,_=>none
theorem zSF{ai a8:Pos}(hK:X.K=K)(ha:PE X a (TV K ml pa ta ia fa))(hb:PE X b (TV K ml pb tb ib fb))
  (bo : Ea a "index" X.env (eval a X.env) = eval a X.env := by rfl)
  (cy : ((Cg a8 (starEach (b :: []) X.env)).all (fun x => !x.1) && (Fs a8 (Dy [] X.env)).all (fun x => x.1.isSome)
   && decide ((b :: ([] : List Expr)).length + ([] : List F8).length + (if ([] : List F8).isEmpty then 0 else 1) < 30)) = true := by rfl)
  (bh : (ai.endLine == a8.line) = true := by rfl) (hs : starEach (b :: []) X.env = (false,eval b X.env) :: starEach [] X.env := by rfl) (aq : (Cg a8 (starEach [] X.env)).any (·.1) = false := by rfl) (hl : (pb || (ta && ia)) = true := by rfl) :
  PE X (.Call (.Attribute a "index" ai) [b] [] a8) (TV K ml (pa && pb) true true (f2 zQI fa fb)):=
 (kBm (K := K) hK Ex Hi Hj (yC2 hK) ha (zAQ hb zBT hs) bo cy bh hs aq).imp fun σ H Q q0 => by
  obtain⟨B,O,δ,d,δ2,S,q,k⟩:=q0
  obtain⟨x,δ1,y,h1,h2,h3⟩:=zH8 q
  refine⟨B,O,δ,x,δ1,S,h1,fun v1 H1 R1=> ?_⟩
  cases x with
  |lst ds=>
   cases y with
   |int n=>
    have h3:((zF4 ds).bind fun ns=>(posI n ns).map fun j=>Dat.int j)=some d:=h3
    cases h4:zF4 ds with
    | none => rw [h4] at h3;cases h3
    |some ns=>
     rw[h4] at h3
     have h3:(posI n ns).map (fun j=>Dat.int j)=some d:=h3
     cases h5:posI n ns with
     | none => rw [h5] at h3;cases h3
     |some j=>
      rw[h5] at h3
      cases h3
      obtain⟨l,xs,rfl,sq,_⟩:=R1.rep.lstE
      refine⟨.inl ⟨rfl,xs,sq⟩,B,O,δ1,_,δ2,R1.sta,h2,fun v2 H2 R2=> ?_⟩
      have r2:=R2.rep
      cases r2
      obtain⟨l',xs',e1,sq',r'⟩:=(R2.live hl R1.rep).lstE
      cases e1
      have:=zIJ r' h4
      subst this
      exact⟨l,ns,n,j,rfl,rfl,sq',h5,k _ H2 ⟨R2.sta,R1.frm.trans R2.frm,fun z=>by
       obtain⟨z1,z2⟩:=(A3 _ _).mp z
       exact(R1.pur z1).trans (R2.pur z2),.int _⟩⟩
   |_=>cases h3
  |_=>cases h3
def zPR:V->List V->Hp->VK->Prop:=fun x vs H Q=> ∃(l:Addr) (ns:List Int) (n:Int) (j:Nat),x= .ref l/\vs=[.int n]/\H l=some (.lst (ns.map V.int))/\posI n ns=some j/\Q .non (upd H l (.lst ((ns.eraseIdx j).map V.int)))
theorem zKN{α β:Type}(g:α->β): ∀(l:List α) (j:Nat),(l.map g).eraseIdx j=(l.eraseIdx j).map g
 |[],_=>by simp
 |_::_,0=>by simp
 |x::l,j+1=>by simp[zKN g l j]
theorem zQO:MtM X "list.remove" zPR:=by
 intro a6 s σ H x vs v us Q I rx rv h
 obtain⟨l,ns,n,j,rfl,rfl,hH,hj,q⟩:=h
 cases rx
 obtain⟨u,rfl,t,rfl⟩:=rv.one
 obtain⟨z,its,c,r,hl,e⟩:=I.lstM hH
 obtain⟨hjs,h1,h2⟩:=zVB r hj
 refine Du F.slot_list_remove ⟨_,e,rfl⟩ F.entry_list_remove (F.args_list_remove_2 _ _) (MeetsSeq.list_remove l its.toArray c (.int n t) (zKA n) (fun y hy=> ?_) j hjs h1 h2 (by rw[Ad,<- hl];exact z)) ⟨e,?_⟩
 ·obtain⟨i,t',rfl⟩:=zVA r hy
  exact Ms i n t' t
 ·have hlj : j < its.length := by simpa using hjs
  refine⟨.non,_,I.lset (its':=its.eraseIdx j) hH e (by simp[Array.eraseIdxIfInBounds,hlj]) (ys:=(ns.eraseIdx j).map V.int) ?_ ?_,rfl,q⟩
  ·have:=Vals.eraseIdx j r
   rwa[zKN] at this
  ·rw[Bo]
   have h1:=List.length_eraseIdx_le ns j
   rw[Bo] at z
   omega
noncomputable def mRem:List Dat->List Dat->Option (List Dat)
 |ds,[.int n]=>(zF4 ds).bind fun ns=>(posI n ns).map fun j=>(ns.eraseIdx j).map Dat.int
 |_,_=>none
theorem yBP:MuV K zPR mRem:=by
 intro H N l xs vs ds es ds' Q hl hN rx re h k
 cases re with
 | nil => cases h
 | @cons v vs d es hd t=>
  cases t with
  | cons _ _ => cases d <;> cases h
  |nil=>
   cases d with
   |int n=>
    cases hd
    have h:((zF4 ds).bind fun ns=>(posI n ns).map fun j=>(ns.eraseIdx j).map Dat.int)=some ds':=h
    cases h4:zF4 ds with
    | none => rw [h4] at h;cases h
    |some ns=>
     rw[h4] at h
     have h:(posI n ns).map (fun j=>(ns.eraseIdx j).map Dat.int)=some ds':=h
     cases h5:posI n ns with
     |none=>rw[h5] at h;cases h
     |some j=>
      rw[h5] at h
      cases h
      have:=zIJ rx h4
      subst this
      exact⟨l,ns,n,j,rfl,rfl,hl,h5,k _ _ (zMJ _)⟩
   |_=>cases h
end
section
variable{X:Cx}{K:A8}{ml:List Nat}{e:Expr}{es:List Expr}{pu bt bi bs:Bool}{f:VF}{fs:VFs}
theorem zA9(h:PE X e (TV K ml pu bt bi f))(hb:(bt && bi)=true:=by rfl):PE X e (TV K ml pu true true f):=by
 obtain⟨h1,h2⟩:=(A3 _ _).mp hb
 subst h1 h2
 exact h
theorem zVZ(h:PE X e (TV K ml pu bt bi f))(hb:bi=true:=by rfl):PE X e (TV K ml pu bt true f):=by
 subst hb
 exact h
theorem zAB(h:PA X es (TAV K ml pu bs fs))(hb:bs=true:=by rfl):PA X es (TAV K ml pu true fs):=by
 subst hb
 exact h
theorem zI4{st:Stmt}:PS X st (TSt K ml fun _=>none):=fun _ _ _ _ _ _ ⟨_,_,_,_,_,q,_⟩=>nomatch q
variable{a b c:Expr}{pa ta ia pb tb ib pc tc ic:Bool}{fa fb fc:VF}{pos:Pos}{δ:Ev}
end
section
variable{X:Cx}{K:A8}{ml:List Nat}{e a b c:Expr}{pa ta ia pb tb ib pu:Bool}{fa fb fc f:VF}{B:Bs}{O:Nat->Option Addr}{H H':Hp}{σ:St}{δ δ':Ev}{v:V}{d:Dat}{p:Addr}{pos:Pos}{ks:List (Option Expr)}{vs:List Expr}
theorem zK4: ∀{more acc:List (Key×V)},((acc++more).map Ca).Nodup->zK5 acc more=acc++more
 | [],acc,_ => by simp [zK5]
 | (k,v) :: more,acc,nd => by
  have hk: ∀q∈acc,q.1≠k:=fun q hq z=>by
   rw[Ey,An] at nd
   exact(List.nodup_append.mp nd).2.2 q.1 (List.mem_map_of_mem hq) k (by simp) z
  have hn:valV acc k=none:=by
   unfold valV
   rw[List.find?_eq_none.mpr fun q hq=>by simpa using hk q hq]
   rfl
  show zK5 (putK acc k v) more=_
  rw[zT3 v hn,zK4 (by simpa using nd)]
  simp
end
theorem zHE: ∀(names:List (Str×NameKind)) (n:Nat) (acc:List (Str×Addr)),cellsFrom n names acc=cellsFrom n names []++acc
 | [],_,_ => rfl
 | (x,k) :: r,n,acc => by
  unfold cellsFrom
  split
  ·rw[zHE r (n+1) ((x,n)::acc),zHE r (n+1) [(x,n)]]
   simp
  ·exact zHE r n acc
theorem zRS: ∀{names:List (Str×NameKind)} {n:Nat} {x:Str} {c:Addr},(x,c)∈cellsFrom n names []->(x,Bk)∈names
 | [],_,_,_,h => nomatch h
 | (y,k) :: r,n,x,c,h => by
  unfold cellsFrom at h
  split at h
  ·rename_i hk
   rw[zHE] at h
   rcases Aw.mp h with h|h
   ·exact Ag _ (zRS h)
   ·cases Ah.mp h
    rw[show k=Bk from beq_iff_eq.mp hk]
    exact Ak
  ·exact Ag _ (zRS h)
theorem zRT: ∀{names:List (Str×NameKind)} {n:Nat} {x:Str},(x,Bk)∈names-> ∃c,(x,c)∈cellsFrom n names []
 | (y,k) :: r,n,x,h => by
  unfold cellsFrom
  rcases Ac.mp h with e|h
  ·cases e
   rw[if_pos (by decide),zHE]
   exact⟨n,Ax _ (Ah.mpr rfl)⟩
  ·split
   ·rw[zHE]
    obtain⟨c,hc⟩:=zRT (n:=n+1) h
    exact⟨c,Az _ hc⟩
   ·exact zRT h
theorem zHU: ∀{l:List (Str×Addr)} {x:Str} {c:Addr},(x,c)∈l-> ∃c',l.lookup x=some c'
 | (y,d) :: r,x,c,h => by
  rw[Bm]
  cases hb:x==y with
  | true => exact ⟨d,rfl⟩
  |false=>
   rcases Ac.mp h with e|h
   ·cases e
    simp at hb
   ·exact zHU h
theorem zC9: ∀{l m:List (Str×Addr)} {x:Str} {c:Addr},(l++m).lookup x=some c->l.lookup x=some c∨(l.lookup x=none/\m.lookup x=some c)
 |[],_,_,_,h=> .inr ⟨rfl,h⟩
 |(y,d)::r,m,x,c,h=>by
  rw[Hq,Bm] at h
  rw[Bm]
  cases hb:x==y with
  |true=>rw[hb] at h;exact .inl h
  |false=>rw[hb] at h;exact zC9 h
theorem zFX: ∀{l m:List (Str×Addr)} {x:Str},l.lookup x=none->(l++m).lookup x=m.lookup x
 |[],_,_,_=>rfl
 |(y,d)::r,m,x,h=>by
  rw[Bm] at h
  rw[Hq,Bm]
  cases hb:x==y with
  |true=>rw[hb] at h;cases h
  |false=>rw[hb] at h;exact zFX h
theorem zLL{M:Model}{A:B8}{E:Value->A2->Prop}{s:A2}{scope:Scope}{globals:Addr}{f8:List (Str×Addr)}{qual:Str}{outer:Env}{Q:Env->A2->Prop}
  (hQ:Q (newEnv scope s.heap.objs.size globals (cellsFrom (s.heap.objs.size+1) scope.names f8) qual none .none (some outer) builtinsNs) {s with heap:=Lk (s.heap.push {cls:= .type "dict",data:= .dict #[]}) scope.names}):
  wpAny M A (J6 scope globals f8 [] qual none .none (some outer)) Q E s:=by
 simp only[J6,Jl,if_true]
 refine A0 (wpAny_alloc ?_)
 refine A0 (wpAny_layCells _ (fun name kind cells=>by cases hkc:kind==Bk<;>simp[hkc]) _ _ _ _ ?_)
 rw[show({s with heap:=s.heap.push {cls:= .type "dict",data:= .dict #[]}}:A2).heap.objs.size=s.heap.objs.size+1 from Cj ..]
 rw[J5]
 exact A0 (A9 (A9 hQ))
theorem zEK: ∀{l m:List (Str×Addr)} {x:Str} {c:Addr},l.lookup x=some c->(l++m).lookup x=some c
 |(y,d)::r,m,x,c,h=>by
  rw[Bm] at h
  rw[Hq,Bm]
  cases hb:x==y with
  |true=>rw[hb] at h;exact h
  |false=>rw[hb] at h;exact zEK h
structure zJ1(X:Cx)(N':List Str)(ix:List Nat)(scope:Scope):Prop where
 kind:scope.kind= .function
 cel: ∀y∈scope.names,y.2= .cell->scope.names.lookup y.1=some .cell
 names: ∀y∈scope.names,y.2= .local->scope.names.lookup y.1=some .local
 free: ∀y∈scope.names,y.2= .free->X.env.kindOf y.1=some .cell∨X.env.kindOf y.1=some .free
 nd:N'.Nodup
 cap: ∀j,j<ix.length->N'[j]? =(ix[j]?).bind fun i=>X.N[i]?
 capf: ∀x∈N'.take ix.length,scope.names.lookup x=some .free
noncomputable def zC0(X:Cx)(N':List Str)(scope:Scope)(cl:List (Str×Addr))(s1:A2)(H1:Hp)(fp:List Addr):Cx:=
 {X with N:=N',s₀:=s1,H₀:=H1,env:=compEnvC scope cl s1.heap.objs.size X.env,outer:=X.stack,stack:=X.stack,ex:=fp,fn:=fun x=>scope.names.lookup x==some Bk,pn:=[],xe:=fun _ _=>False}
theorem zDS{env:Env}{x:Str}: ∀{l:List (Str×NameKind)},
  ((l.map fun (n,k) => if (k == Ay && env.scope.kind == .function && env.kindOf n == some .cell) then (n,Bk) else (n,k)).lookup x = some .cell ∨
  (l.map fun (n,k) => if (k == Ay && env.scope.kind == .function && env.kindOf n == some .cell) then (n,Bk) else (n,k)).lookup x = some .free) -> (x,Ay) ∈ l ∨ (x,Bk) ∈ l
 | [],h => by rcases h with z | z <;> cases z
 | (n,k) :: r,h => by
  have h:Jb x ((if(k==Ay && env.scope.kind== .function && env.kindOf n==some .cell)=true then(n,Bk) else(n,k))::r.map fun(n,k)=>if(k==Ay && env.scope.kind== .function && env.kindOf n==some .cell) then(n,Bk) else(n,k))=some .cell∨
   Jb x ((if(k==Ay && env.scope.kind== .function && env.kindOf n==some .cell)=true then(n,Bk) else(n,k))::r.map fun(n,k)=>if(k==Ay && env.scope.kind== .function && env.kindOf n==some .cell) then(n,Bk) else(n,k))=some .free:=h
  by_cases hc:(k==Ay && env.scope.kind== .function && env.kindOf n==some .cell)=true
  ·rw[if_pos hc] at h
   by_cases hx:x=n
   ·subst hx
    have hk:k= .free:=by
     simp only[A3] at hc
     exact beq_iff_eq.mp hc.1.1
    subst hk
    exact .inl Ak
   ·have hb:(x==n)=false:=beq_eq_false_iff_ne.mpr hx
    simp only[Bm,hb] at h
    rcases zDS (env:=env) h with z|z
    ·exact .inl (Ag _ z)
    ·exact .inr (Ag _ z)
  ·rw[if_neg hc] at h
   by_cases hx:x=n
   ·subst hx
    rw[Ci] at h
    rcases h with z|z
    ·cases z;exact .inr Ak
    ·cases z;exact .inl Ak
   ·have hb:(x==n)=false:=beq_eq_false_iff_ne.mpr hx
    simp only[Bm,hb] at h
    rcases zDS (env:=env) h with z|z
    ·exact .inl (Ag _ z)
    ·exact .inr (Ag _ z)
theorem zI0{X:Cx}{a6:List (Addr×Obj)}{σ:St}{H2:Hp}{s2:A2}{E:Value->A2->Prop}{tg iter elt:Expr}{ifs:List Expr}{scope:Scope}{pos:Pos}{N':List Str}{ix:List Nat}{nl:Nat}{g:TG}{tt:TT}{te:TE}
  {cl:List (Str×Addr)} {J:It} {fp:List Addr} {it:Addr} {tn:Nat->Heap->Prop} {Q:V->Hp->Prop} {RR:Value->Addr->Result->A2->Prop}
  (hc:X.calm=true) (S:zJ1 X N' ix scope) (hnl:N'.length=ix.length+nl)
  (dz: ∀x c,cl.lookup x=some c->X.env.cells.lookup x=some c) (mv: ∀x,(x,Ay)∈scope.names-> ∃c,cl.lookup x=some c)
  (blk: ∀(cl:List (Str×Addr)) (s1:A2) (H1:Hp) (fp:List Addr),Blk (zC0 X N' scope cl s1 H1 fp) tg ifs elt g tt te)
  (I2:Inv X a6 σ H2 s2) (T:Turn X.prog X.w X.K tg J fp it tn) (st2:tn 0 s2.heap) (f2: ∀b∈fp,FpOk X a6 H2 b)
  (h : ∀ D,H2 D = none -> yCP D ix nl J g tt te σ H2 fun H' => Q (.ref D) H')
  (fin: ∀(D C:Addr) (s':A2) (H':Hp),Inv X a6 σ H' s'->(∃m,s'.heap.Ns C m)->C≠X.env.locals->(∀x c,X.env.cells.lookup x=some c->c≠C)→
   (∀(σ':St) (s'':A2) (h'':Heap),Inv X a6 σ' H' s''->De C s''.heap h''->Inv X a6 σ' H' {s'' with heap:=h''})->Q (.ref D) H'->RR (.ref D) C (.ok .next) s'):
  wpAny (model X.prog X.w) X.A (newList []) (fun acc s₃=>wpAny (model X.prog X.w) X.A (J6 scope X.env.globals cl [] X.env.qual none .none (some X.env)) (fun nb s₄=>
   Gs (model X.prog X.w) X.A (.compStart (.ListComp elt [⟨tg,iter,ifs,0⟩] scope pos) 0 (.ref it) acc {nb with scope:=relabel scope X.env}) (RR acc nb.locals) s₄) E s₃) E s2:=by
 refine C6 (zLL ?_)
 dsimp only
 have I1:Inv X a6 σ (upd H2 s2.heap.objs.size (.lst [])) {s2 with heap:=s2.heap.push {cls:= .type "list",dict:=none,data:= .seq ([]:List Value).toArray}}:=
  I2.lnew (t':=s2.toks) (ys:=[]) (its:=[]) .nil (Cv _)
 have hDn:H2 s2.heap.objs.size=none:=I2.hok.fresh (Af _)
 obtain⟨W,⟨m0,w0⟩,turn⟩:=h _ hDn
 generalize hs1:({s2 with heap:=s2.heap.push {cls:= .type "list",dict:=none,data:= .seq ([]:List Value).toArray}}:A2)=s1 at I1
 have gj:s2.heap.push {cls:= .type "list",dict:=none,data:= .seq ([]:List Value).toArray}=s1.heap:=by rw[<- hs1]
 rw[gj]
 have old: ∀b o,s1.heap.get? b=some o->(Lk (s1.heap.push {cls:= .type "dict",data:= .dict #[]}) scope.names).get? b=some o:=fun b o e=>pushCells_keeps _ _ _ _ (A1 _ e)
 have hns₁:(Lk (s1.heap.push {cls:= .type "dict",data:= .dict #[]}) scope.names).Ns s1.heap.objs.size (fun _=>none):=(Heap.Ns.new s1.heap (.type "dict")).keeps fun b o e=>pushCells_keeps _ _ _ _ e
 have okc:=cellsFrom_ok scope.names (s1.heap.push {cls:= .type "dict",data:= .dict #[]}) (s1.heap.objs.size+1) [] ⟨fun _ _ hm=>(nomatch hm),K0⟩ (by rw[Cj];exact Af _)
 rw[Cj] at okc
 generalize hz1:Lk (s1.heap.push {cls:= .type "dict",data:= .dict #[]}) scope.names=h₁ at old hns₁ okc
 rw[zHE]
 generalize hnc:cellsFrom (s1.heap.objs.size+1) scope.names []=nc at okc
 have ncm: ∀x c,nc.lookup x=some c->(x,Bk)∈scope.names/\h₁.IsCell c none/\s1.heap.objs.size+1<=c:=fun x c e=>by
  have hm:=Bu e
  exact⟨zRS (n:=s1.heap.objs.size+1) (by rw[hnc];exact hm),okc.empty x c hm⟩
 have nch: ∀x,(x,Bk)∈scope.names-> ∃c,nc.lookup x=some c:=fun x h=>by
  obtain⟨c,hc⟩:=zRT (n:=s1.heap.objs.size+1) h
  rw[hnc] at hc
  exact zHU hc
 have jg: ∀b∈fp,b<s2.heap.objs.size:=fun b hb=>by
  obtain⟨o,e,_⟩:=T.obj _ _ st2 b hb
  exact Ae e
 have mi:s1.heap.objs.size=s2.heap.objs.size+1:=by rw[<- gj,Cj]
 have nq: ∀b o,s2.heap.get? b=some o->s1.heap.get? b=some o:=fun b o e=>by rw[<- gj];exact A1 _ e
 have gm: ∀x c,cl.lookup x=some c->c<s1.heap.objs.size:=fun x c e=>by
  obtain⟨v,q⟩:=I1.cell x c (dz x c e)
  exact q.lt
 have qf: ∀b∈frs X.stack,b<s1.heap.objs.size:=fun b hb=>by
  obtain⟨_,o,ho,_⟩:=(I1.stack).mem hb
  exact Ae ho
 have okY:(zC0 X N' scope (nc++cl) s1 (upd H2 s2.heap.objs.size (.lst [])) fp).Ok:=by
  refine⟨I1.ok.mod,S.kind,I1.ok.glob,I1.ok.blt,Af _,fun x y c e1 e2=> ?_,fun x hx=> ?_,fun x c hf e=> ?_,I1.ok.hd,I1.ok.frames,.inl rfl,fun b hb=>⟨?_,fun x c e=> ?_⟩,fun b o e=> ?_,
   Dd I1.ok.bsz I1.sz,fun b o e hb=> ?_,fun b hb hb2=> ?_,I1.stack,I1.stkFree⟩
  ·rcases zC9 e1 with n1|⟨_,o1⟩
   ·rcases zC9 e2 with n2|⟨_,o2⟩
    ·exact PySem.name_of_addr okc.apart (Bu n1) (Bu n2)
    ·exact absurd (Al (gm y c o2) (Fd (ncm x c n1).2.2)) (Bj _)
   ·rcases zC9 e2 with n2|⟨_,o2⟩
    ·exact absurd (Al (gm x c o1) (Fd (ncm y c n2).2.2)) (Bj _)
    ·exact I1.ok.inj x y c (dz x c o1) (dz y c o2)
  ·cases q:nc.lookup x with
   | some c => exact ⟨c,zEK q⟩
   |none=>
    rcases zDS hx with h|h
    ·obtain⟨c,hc⟩:=mv x h
     exact⟨c,(zFX q).trans hc⟩
    ·obtain⟨c,hc⟩:=nch x h
     rw[q] at hc
     cases hc
  ·have hx:(x,Bk)∈scope.names:=Bu (beq_iff_eq.mp hf)
   obtain⟨c',hc'⟩:=nch x hx
   have:=zEK (m:=cl) hc'
   have e:(nc++cl).lookup x=some c:=e
   rw[this] at e
   cases e
   exact Fd (ncm x c hc').2.2
  ·exact Aq (Al (jg b hb) (by show s2.heap.objs.size <= s1.heap.objs.size;rw [mi];exact Fb _))
  ·rcases zC9 e with n1|⟨_,o1⟩
   ·have h1:=jg b hb
    have h2:=(ncm x c n1).2.2
    rw[mi] at h2
    exact fun z=>absurd (z▸h2) (Nat.not_le_of_lt (Al h1 (Dd (Fb _) (Fb _))))
   ·exact(f2 b hb).2.2.2.2.1 x c (dz x c o1)
  ·exact I1.bs b o e
  ·have:=(f2 b hb)
   obtain⟨o',e',_⟩:=T.obj _ _ st2 b hb
   have hlt:=Al (Ae e) I1.ok.bsz
   rcases this.2.2.2.1 with z|z
   ·exact I1.ok.noex b o e z
   ·exact absurd (Al hlt z) (Bj _)
  ·rcases Ac.mp (I1.stkSub b hb2) with z|z
   ·exact(f2 b hb).2.1 z
   ·exact(f2 b hb).2.2.1 z
 have j5 : (caps ix σ ++ Aa nl none).length = N'.length := by rw [Bf,Fi,hnl];simp [caps]
 have IY:Inv (zC0 X N' scope (nc++cl) s1 (upd H2 s2.heap.objs.size (.lst [])) fp) [] (caps ix σ++Aa nl none) (upd H2 s2.heap.objs.size (.lst [])) {s2 with heap:=h₁}:=by
  refine⟨okY,?_,I2.bare,Un.kept old,⟨_,hns₁,fun j x v e1 e2 e3=> ?_⟩,fun x c e=> ?_,I1.hok.fresh (Af _),fun x c e=> ?_,fun p hp=>absurd (show p∈([]:List (Addr×Obj)) from hp) (by simp),I1.hok.kept old,j5⟩
  ·show s2.os=s1.os
   rw[<- hs1]
  ·have hj:j<ix.length:=by
    by_cases hj:j<ix.length
    ·exact hj
    ·exfalso
     have hl:(caps ix σ).length=ix.length:=by simp[caps]
     rw[Ap (by rw[hl];omega),C7] at e2
     split at e2<;>cases e2
   have hl:(caps ix σ).length=ix.length:=by simp[caps]
   rw [A6 (by rw [hl];exact hj)] at e2
   have hci:=S.cap j hj
   obtain⟨i,hi⟩: ∃i,ix[j]? =some i:=⟨ix[j],by simp[hj]⟩
   rw[hi] at hci
   have hNi:X.N[i]? =some x:=by
    have:N'[j]? =X.N[i]? :=hci
    rw[<- this];exact e1
   have hσ:σ[i]? =some (some v):=by
    unfold caps at e2
    rw[C8,hi] at e2
    have e2':(σ[i]?).join=some v:=by simpa using e2
    cases q:σ[i]? with
    | none => rw [q] at e2';cases e2'
    | some o => rw [q] at e2';rw [show o = some v from e2']
   have hfl:scope.names.lookup x=some .free:=S.capf x (by
    rw[Ik]
    exact⟨j,by rw[Bz hj];exact e1⟩)
   have bn:(x,Ay)∈scope.names:=Bu hfl
   have hpk:X.env.kindOf x=some .cell∨X.env.kindOf x=some .free:=by exact S.free (x,.free) bn rfl
   have oa:Vis X.env.scope x:=by
    rcases hpk with z|z
    ·exact .inr (.inl z)
    ·exact .inr (.inr z)
   obtain⟨m,hn,p6⟩:=I1.loc
   obtain⟨u,ru,l⟩:=p6 i x v hNi hσ oa
   refine⟨u,ru,?_⟩
   rcases l with⟨hk,_⟩|⟨hk,c,ec,z⟩
   ·rcases hpk with q|q<;>rw[hk] at q<;>cases q
   ·obtain⟨c',hc'⟩:=mv x bn
    have:c'=c:=by
     have:=dz x c' hc'
     rw[ec] at this;exact(B6 this).symm
    subst this
    have oq:nc.lookup x=none:=by
     cases q:nc.lookup x with
     |none=>rfl
     |some d=>
      have:=S.cel (x,.cell) (ncm x d q).1 rfl
      rw[hfl] at this
      cases this
    refine .inr ⟨zG3 hfl,c',(zFX oq).trans hc',?_⟩
    ·obtain⟨o,ho,hd⟩:=z
     exact⟨o,old _ _ ho,hd⟩
  ·rcases zC9 e with n1|⟨_,o1⟩
   ·exact⟨none,(ncm x c n1).2.1⟩
   ·obtain⟨v,o,ho,hd⟩:=I1.cell x c (dz x c o1)
    exact⟨v,o,old _ _ ho,hd⟩
  ·rcases zC9 e with n1|⟨_,o1⟩
   ·exact I1.hok.fresh (Fd (ncm x c n1).2.2)
   ·exact I1.freeC x c (dz x c o1)
 have back: ∀{pY:List (Addr×Obj)} {σ':St} {H':Hp} {s':A2},Inv (zC0 X N' scope (nc++cl) s1 (upd H2 s2.heap.objs.size (.lst [])) fp) pY σ' H' s'->Inv X a6 σ H' s':=fun{pY σ' H' s'} J'=>
  I1.call' J'.os J'.base J'.hok J'.bare fun b hb=>⟨(f2 b hb).2.2.2.1,(f2 b hb).2.1,(f2 b hb).2.2.2.2.1,(f2 b hb).2.2.2.2.2⟩
 have stat: ∀{H':Hp} {pY:List (Addr×Obj)},(∀b∈fp,H' b=none)->pY=[]-> ∀b∈fp,FpOk (zC0 X N' scope (nc++cl) s1 (upd H2 s2.heap.objs.size (.lst [])) fp) pY H' b:=fun{H' pY} hn hp b hb=>by
  subst hp
  refine⟨hn b hb,(okY.exf b hb).1,okY.exfs b hb,.inl hb,(okY.exf b hb).2,fun p hp=>absurd (show p∈([]:List (Addr×Obj)) from hp) (by simp)⟩
 have st1:tn 0 h₁:=T.keep 0 s2.heap h₁ st2 fun b hb o e=>old b o (nq b o e)
 have fr1: ∀b∈fp,(upd H2 s2.heap.objs.size (.lst [])) b=none:=fun b hb=>by
  rw[zAU (Aq (jg b hb))]
  exact(f2 b hb).1
 have loop: ∀s₃:A2,s₃={s2 with heap:=h₁}→
   Gs (model X.prog X.w) X.A (.compLoop (.ListComp elt [⟨tg,iter,ifs,0⟩] scope pos) 0 (.ref it) (.ref s2.heap.objs.size) (compEnvC scope (nc++cl) s1.heap.objs.size X.env)) (RR (.ref s2.heap.objs.size) s1.heap.objs.size) s₃:=by
  rintro s₃ rfl
  refine zRO (fun n s'=> ∃i σ' H' acc,Inv (zC0 X N' scope (nc++cl) s1 (upd H2 s2.heap.objs.size (.lst [])) fp) [] σ' H' s'/\σ'.take ix.length=caps ix σ/\tn i s'.heap/\(∀b∈fp,H' b=none)/\W i n acc H') ?_ m0
   ⟨0,_,_,[],IY,by rw [Cd (by simp [caps])];exact Bq (by simp [caps]),st1,fr1,w0⟩
  rintro n s' ⟨i,σ',H',acc,J',hσ,st',fr',w'⟩
  have Jc:Inv (zC0 X N' scope (nc++cl) s1 (upd H2 s2.heap.objs.size (.lst [])) fp) [] (caps ix σ++Aa nl none) H' s':=by
   refine J'.weak (by rw[j5];exact J'.len.symm) fun j v e=> ?_
   have hl:(caps ix σ).length=ix.length:=by simp[caps]
   by_cases hj:j<ix.length
   ·rw [A6 (by rw [hl];exact hj),<- hσ,Bz hj] at e
    exact e
   ·rw [Ap (by rw [hl];omega),C7] at e
    split at e<;>cases e
  rcases turn i n acc H' w' with⟨stop,q⟩|⟨go,N,hN,step⟩
  ·refine Ba (T.done (zC0 X N' scope (nc ++ cl) s1 (upd H2 s2.heap.objs.size (.lst [])) fp) rfl rfl rfl hc i [] s' _ H' (fun _ _ => False) Jc (stat fr' rfl) st' stop) (fun r s4 ⟨hr,I4⟩ => ?_) fun _ _ z => z
   subst hr
   have IX:=back I4
   obtain⟨m,hm,_⟩:=I4.loc
   exact fin _ _ s4 H' IX ⟨m,hm⟩ (Eh I1.lt) (fun x c e z=>by
    obtain⟨v,q⟩:=I1.cell x c e
    have:=q.lt
    rw[z] at this
    exact Bj _ this) (fun σ'' s'' h'' I'' sb=>Inv.offNew I1 I'' I4.free fun b o hb e=>(sb.2 b hb).trans e) q
  ·refine Ba (T.item (zC0 X N' scope (nc ++ cl) s1 (upd H2 s2.heap.objs.size (.lst [])) fp) rfl rfl rfl hc i [] s' _ H' (fun _ _ => False) Jc (stat fr' rfl) st' go) (fun r s4 ⟨u,hr,h4⟩ => ?_) fun _ _ z => z
   subst hr
   refine Ba h4 (fun _ s5 ⟨x,H5,I5,r5,y5,st5,fr5⟩=> ?_) fun _ _ z=>z
   have I5':=I5.pinned (stat fr5 rfl) (T.obj _ _ st5)
   obtain⟨btg,bts,bel⟩:=blk (nc++cl) s1 (upd H2 s2.heap.objs.size (.lst [])) fp
   refine Ba (btg _ s5 _ H5 x u _ I5' r5 (step x H5 y5)) (fun _ s6 ⟨σ6,H6,I6,hσ6,q6⟩=> ?_) fun _ _ z=>z
   have zDK: ∀{H7:Hp} {s7:A2} {aw:List V},Inv (zC0 X N' scope (nc++cl) s1 (upd H2 s2.heap.objs.size (.lst [])) fp) ([]++zJZ fp s5.heap) σ6 H7 s7->N aw H7→
     ∃m,m<n/\ ∃i σ' H' acc,Inv (zC0 X N' scope (nc++cl) s1 (upd H2 s2.heap.objs.size (.lst [])) fp) [] σ' H' s7/\σ'.take ix.length=caps ix σ/\tn i s7.heap/\(∀b∈fp,H' b=none)/\W i m acc H':=fun{H7 s7 aw} I7 n7=>by
    obtain⟨m',hm,w7⟩:=hN aw H7 n7
    refine⟨m',hm,i+1,σ6,H7,aw,I7.unpinned,hσ6,T.keep _ _ _ st5 fun b hb o e=>(I7.pin (b,o) (Ax _ (Ax _ (zE3 hb e)))).1,fun b hb=> ?_,w7⟩
    obtain⟨o,e,d⟩:=T.obj _ _ st5 b hb
    exact(I7.pin (b,o) (Ax _ (Ax _ (zE3 hb e)))).2.1
   refine Ba (bts _ s6 σ6 H6 _ I6 q6) (fun okb s7 ⟨H7,I7,q7⟩=> ?_) fun _ _ z=>z
   cases okb with
   | false => exact zDK I7 q7
   |true=>
    refine Ba (bel _ s7 σ6 H7 _ I7 q7) (fun v s8 ⟨y,H8,I8,r8,hD8,hz8,n8⟩=> ?_) fun _ _ z=>z
    refine Ba (zBB (X:=zC0 X N' scope (nc++cl) s1 (upd H2 s2.heap.objs.size (.lst [])) fp) _ s8 σ6 H8 (.ref s2.heap.objs.size) [y] (.ref s2.heap.objs.size) [v] (fun _ H9=>N (acc++[y]) H9) I8 rfl (.cons r8 .nil)
     ⟨s2.heap.objs.size,acc,y,rfl,rfl,hD8,hz8,n8⟩) (fun _ s9 ⟨_,H9,I9,_,n9⟩=>zDK I9 n9) fun _ _ z=>z
 have he:({newEnv scope s1.heap.objs.size X.env.globals (nc++cl) X.env.qual none .none (some X.env) builtinsNs with scope:=relabel scope X.env}:Env)=compEnvC scope (nc++cl) s1.heap.objs.size X.env:=rfl
 exact codeAny_compStart_list (loop _ rfl) (T.self _ 0 _ _ _ st1 (loop _ rfl))
theorem zTC{X:Cx}{tg iter elt:Expr}{ifs:List Expr}{scope:Scope}{pos:Pos}{N':List Str}{ix:List Nat}{nl:Nat}{wi:TI}{g:TG}{tt:TT}{te:TE}
  (hc:X.calm=true) (S:zJ1 X N' ix scope) (hnl:N'.length=ix.length+nl) (hi:PI X tg iter wi)
  (blk: ∀(cl:List (Str×Addr)) (s1:A2) (H1:Hp) (fp:List Addr),Blk (zC0 X N' scope cl s1 H1 fp) tg ifs elt g tt te)
  (hs: ∀x,foldedSetIterable iter X.env x=pure x:=by intro _;rfl):PE X (.ListComp elt [⟨tg,iter,ifs,0⟩] scope pos) (zSR ix nl wi g tt te):=by
 intro a6 s σ H Q I h
 rw[eval_ListComp]
 obtain⟨cl,e1,e2,e3⟩:=zRP (env:=X.env) (scope:=scope) fun y hy hf=>I.ok.has y.1 (S.free y hy hf)
 refine Gz (use:=none) (cl:=cl) rfl hs e1 S.kind S.names (Ba (hi a6 s σ H _ I h) (fun xv s₁ h₁=>Ba h₁ (fun itv s₂ h₂=> ?_) fun _ _ e=>e) fun _ _ e=>e)
 obtain⟨it,fp,tn,J,H2,e,I2,T,st2,f2,q⟩:=h₂
 subst e
 refine zI0 (Q:=Q) (RR:=fun acc C=>compPost (model X.prog X.w) X.A X.xe none (EP X a6 σ Q) acc C) hc S hnl e2 e3 blk I2 T st2 f2 q ?_
 intro D C s' H' I' hm hC1 hC2 hb hq
 obtain⟨m,hm⟩:=hm
 exact⟨m,hm,fun h'' sb=>⟨.ref D,H',hb σ s' h'' I' sb,rfl,hq⟩⟩
section
variable{X:Cx}{K:A8}{ml:List Nat}{pi pt pe pu:Bool}{pos:Pos}{ix:List Nat}{nl:Nat}{f:VF}
noncomputable def zKQ(N N':List Str)(ix:List Nat)(names:List (Str×NameKind))(k:Str->Option NameKind):Bool:=
 names.all (fun y=>y.2 != .cell || names.lookup y.1==some .cell) && (names.all (fun y=>y.2 != .local || names.lookup y.1==some .local) && (names.all (fun y=>y.2 != .free || (k y.1==some .cell || k y.1==some .free)) &&
  (decide N'.Nodup && ((Ao ix.length).all (fun j=>N'[j]? ==(ix[j]?).bind fun i=>N[i]?) && (N'.take ix.length).all fun x=>names.lookup x==some .free))))
theorem zDA{N':List Str}{scope:Scope}(hk:scope.kind= .function)(h:zKQ X.N N' ix scope.names X.env.kindOf=true):zJ1 X N' ix scope:=by
 unfold zKQ at h
 simp only[A3,Br,Ew,bne_iff_ne,beq_iff_eq,decide_eq_true_eq,Be] at h
 obtain⟨h1,h2,h3,h4,h5,h6⟩:=h
 exact⟨hk,fun y hy e=>(h1 y hy).resolve_left fun z=>z e,fun y hy e=>(h2 y hy).resolve_left fun z=>z e,fun y hy e=>(h3 y hy).resolve_left fun z=>z e,h4,h5,h6⟩
abbrev BlkC(X:Cx)(K:A8)(N':List Str)(ix:List Nat)(scope:Scope)(tg:Expr)(ifs:List Expr)(elt:Expr)(gg:VG)(pt:Bool)(tb:VB)(pe:Bool)(fe:VF):Prop:=N'.Nodup-> ∀(cl:List (Str×Addr)) (s1:A2) (H1:Hp) (fp:List Addr),Blk (zC0 X N' scope cl s1 H1 fp) tg ifs elt (TGV K (Ao ix.length) gg) (TB K (Ao ix.length) pt tb) (TV K (Ao ix.length) pe true true fe)
theorem zBZ{tg iter elt:Expr}{ifs:List Expr}{scope:Scope}{fi:VI}{gg:VG}{tb:VB}{fe:VF}(N':List Str)(ix:List Nat)(nl:Nat)(hi:PI X tg iter (TIV K ml pi fi))(blk:BlkC X K N' ix scope tg ifs elt gg pt tb pe fe)(hc:X.calm=true:=by rfl)(hk:scope.kind= .function:=by rfl)(hok:zKQ X.N N' ix scope.names X.env.kindOf=true:=by rfl)(hnl:N'.length=ix.length+nl:=by rfl)(hnd:ix.Nodup:=by decide)
  (hs: ∀x,foldedSetIterable iter X.env x=pure x:=by intro _;rfl):PE X (.ListComp elt [⟨tg,iter,ifs,0⟩] scope pos) (TN K ml (pi && pt && pe) (zC8 ix nl fi gg tb fe)):=
 (zTC hc (zDA hk hok) hnl hi (blk (zDA hk hok).nd) hs).imp fun _ _ _ h=>zOU hnd h
theorem zMM{i:Nat}{y:Str}{py db:Pos}{tg iter elt:Expr}{ifs:List Expr}{scope:Scope}{N':List Str}{wi:TI}{g:TG}{tt:TT}{te:TE}
  (hN:X.N.Nodup) (hi':X.N[i]? =some y) (hy:X.env.scope.names.lookup y=some .local)
  (hc:X.calm=true) (S:zJ1 X N' ix scope) (hnl:N'.length=ix.length+nl) (hi:PI X tg iter wi)
  (blk: ∀(cl:List (Str×Addr)) (s1:A2) (H1:Hp) (fp:List Addr),Blk (zC0 X N' scope cl s1 H1 fp) tg ifs elt g tt te)
  (hsw:Ec (.ListComp elt [⟨tg,iter,ifs,0⟩] scope pos) (some (.Name y py)) db.line X.env=pure true:=by rfl)
  (hs: ∀x,foldedSetIterable iter X.env x=pure x:=by intro _;rfl):PS X (.Assign [.Name y py] (.ListComp elt [⟨tg,iter,ifs,0⟩] scope pos) db) (tAsg (zSR ix nl wi g tt te) (zU0 i)):=by
 intro a6 s σ H D I h
 rw[exec_Assign_Name_used _ _ _ _ hsw]
 refine A0 (E8 (A0 ?_))
 show wpAny _ X.A (do let _<- comprehension (.ListComp elt [⟨tg,iter,ifs,0⟩] scope pos) scope X.env _ (newList []) false (eval iter X.env) (some (assign (.Name y py) X.env))) _ _ s
 obtain⟨cl,e1,e2,e3⟩:=zRP (env:=X.env) (scope:=scope) fun y hy hf=>I.ok.has y.1 (S.free y hy hf)
 refine A0 (Ba (Gz (use:=some (assign (.Name y py) X.env)) (cl:=cl) (Q:=fun _ s'=>SP X a6 D .next s') rfl hs e1 S.kind S.names
  (Ba (hi a6 s σ H _ I h) (fun xv s₁ h₁=>Ba h₁ (fun itv s₂ h₂=> ?_) fun _ _ e=>e) fun _ _ e=>e)) (fun _ s' hq=>A9 (A9 hq)) fun _ _ e=>e)
 obtain⟨it,fp,tn,J,H2,e,I2,T,st2,f2,q⟩:=h₂
 subst e
 refine zI0 (Q:=fun v H'=>D.nx (σ.set i (some v)) H') (RR:=fun acc C=>compPost (model X.prog X.w) X.A X.xe (some (assign (.Name y py) X.env)) (fun _ s'=>SP X a6 D .next s') acc C) hc S hnl e2 e3 blk I2 T st2 f2 q ?_
 intro Dl C s' H' I' hm hC1 hC2 hb hq
 obtain⟨m,hm⟩:=hm
 show wpAny _ X.A (assign (.Name y py) X.env (.ref Dl)) _ _ _
 refine F2 (zJE I' hN hi' (.inl hy) (v:= .ref Dl) rfl (fun s'' I'' ⟨a,hsb,ha⟩=> ?_) (.inr hy))
 have hCa:C≠a:=by
  rcases ha with z|z
  ·rw[z];exact hC1
  ·exact Cc (hC2 y a z)
 exact⟨m,hm.sameBut hsb hCa,fun h'' sb=>⟨_,H',hb _ s'' h'' I'' sb,hq⟩⟩
theorem zSD{i:Nat}{y:Str}{py db:Pos}{tg iter elt:Expr}{ifs:List Expr}{scope:Scope}{fi:VI}{gg:VG}{tb:VB}{fe:VF}(o:Bool)(hN:X.N.Nodup)(N':List Str)(ix:List Nat)(nl:Nat)(hi:PI X tg iter (TIV K ml pi fi))(blk:BlkC X K N' ix scope tg ifs elt gg pt tb pe fe)(hi':X.N[i]? =some y:=by rfl)(hy:X.env.scope.names.lookup y=some .local:=by rfl)
  (hc:X.calm=true:=by rfl) (hk:scope.kind= .function:=by rfl) (hok:zKQ X.N N' ix scope.names X.env.kindOf=true:=by rfl) (hnl:N'.length=ix.length+nl:=by rfl) (hnd:ix.Nodup:=by decide) (hm:i∉ml:=by decide)
  (hsw:Ec (.ListComp elt [⟨tg,iter,ifs,0⟩] scope pos) (some (.Name y py)) db.line X.env=pure true:=by rfl)
  (hs: ∀x,foldedSetIterable iter X.env x=pure x:=by intro _;rfl):PS X (.Assign [.Name y py] (.ListComp elt [⟨tg,iter,ifs,0⟩] scope pos) db) (TSt K ml (sSet i (if o then xO (zC8 ix nl fi gg tb fe) else xV (zC8 ix nl fi gg tb fe)))):=
 (zMM hN hi' hy hc (zDA hk hok) hnl hi (blk (zDA hk hok).nd) hsw hs).imp fun D σ H h=>zUD (fun σ H Q z=>zOU hnd (zYO (pu:=pi && pt && pe) z)) hm h
end
section
variable{X:Cx}{K:A8}{ml:List Nat}{e a b c:Expr}{es:List Expr}{pi pt pe pu bt bi ps bs:Bool}{f:VF}{B B':Bs}{O:Nat->Option Addr}{H H0 H1 H':Hp}{σ:St}{δ δ':Ev}{v:V}{d:Dat}{p:Addr}{pos:Pos}{ix:List Nat}{nl:Nat}
def yGF(K:A8)(N:Addr->Prop)(J:It)(H:Hp)(ds:List Dat):Prop:= ∃xs:List V,RepA K N H xs ds/\ ∀H2,Same H H2->(∀(i:Nat) (x:V),xs[i]? =some x->J.go i H2/\ ∀y H3,J.yld i H2 y H3->H3=H2/\y=x)/\J.stop xs.length H2
def TIVp(K:A8)(ml:List Nat)(f:VI):TI:=fun σ H R=> ∃B O δ ds δ',Sta K ml B O H σ δ/\f δ=some (ds,δ')/\ ∀J H',Sta K ml B O H' σ δ'->Same H H'->yGF K (Nn B O) J H' ds->R J H'
theorem zSM{fi:VI}{gg:VG}{tb:VB}{fe:VF}(hnd:ix.Nodup){Q:VK}(h:TN K ml true (zC8 ix nl fi gg tb fe) σ H Q):
  zSR ix nl (TIVp K ml fi) (TGV K (Ao ix.length) gg) (TB K (Ao ix.length) true tb) (TV K (Ao ix.length) true true true fe) σ H Q:=by
 obtain⟨B,O,δ,d,δ2,S,q,k⟩:=h
 unfold zC8 at q
 cases h1:fi δ with
 | none => rw [h1] at q;cases q
 |some p=>
  obtain⟨ds,δ1⟩:=p
  rw[h1] at q
  have q : ((zBX ix.length nl gg tb fe ds [] (zB9 ix δ1)).map fun q => (Dat.lst q.1,zCN ix q.2 δ1)) = some (d,δ2) := q
  cases h2:zBX ix.length nl gg tb fe ds [] (zB9 ix δ1) with
  | none => rw [h2] at q;cases q
  |some z=>
   obtain⟨res,δf⟩:=z
   rw[h2] at q
   cases q
   refine⟨B,O,δ,ds,δ1,S,h1,fun J H0 S0 p0 wk D hD=> ?_⟩
   obtain⟨els,rel,wk⟩:=wk
   have hDO : ∀ j,Oc ix O j ≠ some D := fun j e => by
    unfold Oc at e
    cases hi:ix[j]? with
    | none => rw [hi] at e;cases e
    |some i=>
     rw[hi] at e
     obtain⟨o,q⟩:=S0.nin (.inr ⟨i,e⟩)
     rw[hD] at q
     cases q
   have gc : ∀ kp j,ix.length <= j -> (Bc ix B O H0 D kp).mu j = none := fun kp j hj => by
    show(ix[j]?).bind O=none
    rw[Bp hj]
    rfl
   refine⟨fun i m acc H1=>m=ds.length - i/\i<=ds.length/\ ∃(ah:List Dat) (δc:Ev),δc.length=ix.length/\acc.length=ah.length∧
     Sta K (Ao ix.length) (Bc ix B O H0 D (acc.zip ah)) (Oc ix O) H1 (caps ix σ++Aa nl none) (δc++nos nl)/\H1 D=some (.lst acc)/\Same H0 H1∧
     zBX ix.length nl gg tb fe (ds.drop i) ah δc=some (res,δf),
    ⟨ds.length,rfl,Cv _,[],zB9 ix δ1,by simp [zB9],rfl,by
     rw[K3]
     exact S0.inner hD hnd fun p hp=>(nomatch hp),zAG,zA5 hD,h2⟩,?_⟩
   rintro i m acc H1 ⟨rfl,hi,ah,δc,hlc,au,S1,hD1,cv,hc⟩
   have w:=wk H1 cv
   have nv:RepA K (Nn (Bc ix B O H0 D (acc.zip ah)) (Oc ix O)) H1 els ds:=(rel.away hD _ _ zLK).same cv
   by_cases hlt:i<ds.length
   ·obtain ⟨ex,ex1,ex2⟩ := nv.get (i := i) (d := ds[i]) (by simp [hlt])
    obtain⟨go,yl⟩:=w.1 i ex ex1
    rw[Dn hlt] at hc
    simp only[zBX] at hc
    cases g1:gg ds[i] (δc++nos nl) with
    | none => rw [g1] at hc;cases hc
    |some δ3=>
     rw[g1] at hc
     simp only[A7] at hc
     cases g2:tb δ3 with
     | none => rw [g2] at hc;cases hc
     |some z=>
      obtain⟨kk,δ4⟩:=z
      rw[g2] at hc
      simp only[A7] at hc
      refine .inr ⟨go,fun aw H'=> ∃(ah:List Dat) (δc:Ev),δc.length=ix.length/\aw.length=ah.length∧
       Sta K (Ao ix.length) (Bc ix B O H0 D (aw.zip ah)) (Oc ix O) H' (caps ix σ++Aa nl none) (δc++nos nl)/\H' D=some (.lst aw)/\Same H0 H'∧
       zBX ix.length nl gg tb fe (ds.drop (i + 1)) ah δc = some (res,δf),fun aw H' w' => ⟨ds.length - (i + 1),by omega,rfl,hlt,w'⟩,fun x H2 hy => ?_⟩
      obtain⟨rfl,rfl⟩:=yl x H2 hy
      have rx:=ex2
      have sm:=Same.refl H2
      refine⟨_,_,_,ds[i],δ3,S1.same sm,rx,g1,fun σ3 O3 S3 m3=> ?_⟩
      have ln3:ix.length<=σ3.length:=by
       by_cases hz:ix.length=0
       ·omega
       ·have hj : ix.length - 1 < ix.length := by omega
        have:=m3 (ix.length - 1) (Be.mpr hj)
        have hs:(caps ix σ++Aa nl none)[ix.length - 1]? ≠none:=by
         rw [A6 (by rw [zCX];exact hj)]
         simp[caps,hj]
        rw[<- this] at hs
        have p5:ix.length - 1<σ3.length:=Ko fun z=>hs (Gv.mpr z)
        omega
      have hσ3:=zJC ln3 m3
      refine⟨hσ3,_,_,δ3,kk,δ4,S3,g2,fun H4 R4=> ?_⟩
      have hD4 : H4 D = some (.lst acc) := R4.frm _ _ (sm _ _ hD1) fun z => by
       obtain⟨j,e⟩:=z
       have:=(R4.sta.old j D e).1
       exact absurd (.inl (.inr rfl)) this
      have ln4 : ix.length <= δ4.length := by rw [<- R4.sta.len];exact ln3
      cases kk with
      |false=>
       rw[if_neg Cb] at hc
       refine iteF ⟨ah,δ4.take ix.length,by rw[Bw];omega,au,R4.sta.turn (gc _) (zCX ix σ) hσ3 ln4,hD4,?_,hc⟩
       exact(cv.trans sm).trans (R4.pur rfl)
      |true=>
       rw[if_pos rfl] at hc
       cases g3:fe δ4 with
       | none => rw [g3] at hc;cases hc
       |some z=>
        obtain⟨dv,δ5⟩:=z
        rw[g3] at hc
        simp only[A7] at hc
        split at hc
        ·rename_i hz
         refine iteT ⟨_,_,δ4,dv,δ5,R4.sta,g3,fun v H5 R5=> ?_⟩
         have hD5:H5 D=some (.lst acc):=R5.frm _ _ hD4 fun z=>by
          obtain⟨j,e⟩:=z
          have:=(R5.sta.old j D e).1
          exact absurd (.inl (.inr rfl)) this
         have ln5:ix.length<=δ5.length:=by rw[<- R5.sta.len];exact ln3
         have S6:=R5.sta.turn (nl:=nl) (gc _) (zCX ix σ) hσ3 ln5
         have hv:Rep K (Nn (Bc ix B O H0 D (acc.zip ah)) (Oc ix O)) H5 (Nn (Bc ix B O H0 D (acc.zip ah)) (Oc ix O)) v dv:=by
          have hN: ∀a,Nn (Bc ix B O H0 D (acc.zip ah)) (Oc ix O) a->av (Bc ix B O H0 D (acc.zip ah)) O3 true a:=fun a h=>by
           rcases h with h|⟨j,h⟩
           ·exact .inl h
           ·refine .inr ⟨j,?_⟩
            have hj:j∈Ao ix.length:=R5.sta.par.1 j a h
            rw[R5.sta.par.2 j hj]
            exact h
          exact R5.rep.mono hN hN
         have S7:=S6.withKp (kp:=(acc++[v]).zip (ah++[dv])) fun p hp=>by
          rw[Lf au] at hp
          rcases Aw.mp hp with z|z
          ·exact S6.kep p z
          ·rw[Ah.mp (show p∈[(v,dv)] from z)]
           exact hv
         refine⟨hD5,by rw[au,Bb];exact hz,ah++[dv],δ5.take ix.length,by rw[Bw];omega,by simp[au],?_,zAG,?_,hc⟩
         ·exact S7.writeZ (.inl (.inr rfl)) hD5 hD
         ·intro b o e
          have hb:b≠D:=fun z=>by rw[z,hD] at e;cases e
          rw[zAU hb]
          exact((cv.trans sm).trans ((R4.pur rfl).trans (R5.pur rfl))) b o e
        ·cases hc
   ·have e : i = ds.length := by omega
    subst e
    rw[Fm] at hc
    cases hc
    refine .inl ⟨by rw[<- rel.length];exact w.2,k D H1 ?_⟩
    have fP:Fr (OA (Oc ix O)) H0 H1:=S1.frm
    have hPO: ∀a,OA (Oc ix O) a->OA O a:=fun a q0=>by
     obtain⟨j,e⟩:=q0
     unfold Oc at e
     cases hi:ix[j]? with
     | none => rw [hi] at e;cases e
     | some i => rw [hi] at e;exact ⟨i,e⟩
    have SL:=S0.laid (o:= .lst acc) hD
    have fL:Fr (OA (Oc ix O)) (upd H0 D (.lst acc)) H1:=fun b o e n=>by
     by_cases hb:b=D
     ·subst hb
      rw[zAG] at e
      cases e
      exact hD1
     ·rw[zAU hb] at e
      exact fP b o e n
    refine⟨SL.call (zE0) (fun i=> ?_) fL hPO,(p0.fr (P:=OA O)).trans (fP.mono hPO),fun z=> ?_,.lst hD1 (zFH au fun p hp=>(S1.kep p hp).mono zHT zHT),S0.new hD,S0.fresh hD⟩
    ·by_cases gd:i<δ1.length
     ·rcases zE1 (ix:=ix) (ss:=δf) (δ:=δ1) i gd hlc.symm with⟨j,x,e1,e2,e3⟩|⟨e1,e2⟩
      ·have e4:(δf++nos nl)[j]? =some (.ow x):=by
        rw[A6 (A5.mp e2).1]
        exact e2
       obtain⟨a,e5,_,w⟩:=S1.ow j x e4
       refine .inr ⟨a,x,?_,e3,w.mono zHT⟩
       unfold Oc at e5
       rw[e1] at e5
       exact e5
      ·refine .inl ⟨e2,fun a ea ⟨j,ej⟩ => ?_⟩
       obtain⟨x,ex⟩:=S1.dom j a ej
       unfold Oc at ej
       cases hi:ix[j]? with
       |none=>rw[hi] at ej;cases ej
       |some i'=>
        rw[hi] at ej
        have:i=i':=S0.inj i i' a ea ej
        subst this
        have hj:j<δf.length:=by rw[hlc];exact(A5.mp hi).1
        rw[A6 hj] at ex
        exact e1 j x hi ex
     ·refine .inl ⟨?_,fun a ea => ?_⟩
      ·rw [Bp (by rw [zE0];omega),Bp (by omega)]
      ·obtain⟨x,ex⟩:=S0.dom i a ea
       exact absurd (A5.mp ex).1 gd
    ·exact p0.trans cv
theorem Same.sqT{a:Addr}{xs:List V}(s:Same H H')(h:SqT K H a xs):SqT K H' a xs:=Fr.tup (P:=fun _=>False) s.fr h
theorem zYG{tg:Expr}(hK:X.K=K)(h:PE X e (TV K ml true bt bi f))(hb:bi=true:=by rfl):PI X tg e (TIVp K ml (iSeq f)):=by
 subst hb
 refine((zV8 (K:=K) hK h).or (yBT (K:=K) hK h)).imp fun σ H R ⟨B,O,δ,ds,δ',S,q,k⟩=> ?_
 unfold iSeq at q
 cases h1:f δ with
 | none => rw [h1] at q;cases q
 |some p=>
  obtain⟨x,δ1⟩:=p
  rw[h1] at q
  cases x with
  |lst ds'=>
   cases q
   refine .inl ⟨B,O,δ,_,δ1,S,h1,fun v H1 R1=> ?_⟩
   obtain⟨a,xs,rfl,sq,r⟩:=R1.rep.lstE
   refine⟨a,rfl,⟨xs,sq⟩,k _ H1 R1.sta (R1.pur rfl) ⟨xs,r,fun H2 sm=>⟨fun i x ex=>⟨⟨xs,x,sm.seq sq,ex⟩,fun y H3 hy=> ?_⟩,xs,sm.seq sq,Af _⟩⟩⟩
   obtain⟨e2,e3⟩:=hy
   have:=e3 xs (sm.seq sq)
   rw[ex] at this
   cases this
   exact⟨e2,rfl⟩
  |tup ds'=>
   cases q
   refine .inr ⟨B,O,δ,_,δ1,S,h1,fun v H1 R1=> ?_⟩
   obtain⟨a,xs,rfl,sq,r⟩:=R1.rep.tupE
   refine⟨a,rfl,⟨xs,sq⟩,k _ H1 R1.sta (R1.pur rfl) ⟨xs,r,fun H2 sm=>⟨fun i x ex=>⟨⟨xs,x,sm.sqT sq,ex⟩,fun y H3 hy=> ?_⟩,xs,sm.sqT sq,Af _⟩⟩⟩
   obtain⟨e2,e3⟩:=hy
   have:=e3 xs (sm.sqT sq)
   rw[ex] at this
   cases this
   exact⟨e2,rfl⟩
  |_=>cases q
theorem zSC{i:Nat}{y:Str}{py db:Pos}{tg iter elt:Expr}{ifs:List Expr}{scope:Scope}{fi:VI}{gg:VG}{tb:VB}{fe:VF}(o:Bool)(hN:X.N.Nodup)(N':List Str)(ix:List Nat)(nl:Nat)(hi:PI X tg iter (TIVp K ml fi))(blk:BlkC X K N' ix scope tg ifs elt gg pt tb pe fe)(hi':X.N[i]? =some y:=by rfl)(hy:X.env.scope.names.lookup y=some .local:=by rfl)
  (hc:X.calm=true:=by rfl) (hk:scope.kind= .function:=by rfl) (hok:zKQ X.N N' ix scope.names X.env.kindOf=true:=by rfl) (hnl:N'.length=ix.length+nl:=by rfl) (hnd:ix.Nodup:=by decide) (hp:(pt && pe)=true:=by rfl) (hm:i∉ml:=by decide)
  (hsw:Ec (.ListComp elt [⟨tg,iter,ifs,0⟩] scope pos) (some (.Name y py)) db.line X.env=pure true:=by rfl)
  (hs: ∀x,foldedSetIterable iter X.env x=pure x:=by intro _;rfl):PS X (.Assign [.Name y py] (.ListComp elt [⟨tg,iter,ifs,0⟩] scope pos) db) (TSt K ml (sSet i (if o then xO (zC8 ix nl fi gg tb fe) else xV (zC8 ix nl fi gg tb fe)))):=by
 obtain⟨h1,h2⟩:=(A3 _ _).mp hp
 subst h1 h2
 exact(zMM hN hi' hy hc (zDA hk hok) hnl hi (blk (zDA hk hok).nd) hsw hs).imp fun D σ H h=>zUD (fun σ H Q z=>zSM hnd (zYO (pu:=true) z)) hm h
end
section
variable{X:Cx}{K:A8}{ml:List Nat}{e a b c:Expr}{es:List Expr}{pa ta ia pb tb ib pc tc ic pu bt bi ps bs:Bool}{fa fb fc f:VF}{B B':Bs}{O:Nat->Option Addr}{H H1 H':Hp}{σ:St}{δ δ':Ev}{v:V}{d:Dat}{p:Addr}{pos:Pos}
structure FunD(K:A8)(x qual:Str)(st:Stmt)(dV:Value)(f:Addr)(fd:C2):Prop where
 ex: ∃(oc:Value) (od:Option Addr) (kV doc pm:Value) (an:Option Addr) (cdv ct:Value) (osl:Array (Option Value)),
  fd=Fj x qual (zBP st) (zB0 st) (zA4 st) dV kV doc pm an cdv ct/\K.lookup f=some ⟨oc,od,.func fd,osl⟩/\Go K cdv qual=true
 kp:Dx K (.ref f)=true
theorem zXW{x qual:Str}{st:Stmt}{dV:Value}{f:Addr}{oc:Value}{od an:Option Addr}{osl:Array (Option Value)}{kV doc pm cdv ct:Value}(l:K.lookup f=some ⟨oc,od,.func (Fj x qual (zBP st) (zB0 st) (zA4 st) dV kV doc pm an cdv ct),osl⟩)
  (c:Go K cdv qual=true) (k:Dx K (.ref f)=true):FunD K x qual st dV f (Fj x qual (zBP st) (zB0 st) (zA4 st) dV kV doc pm an cdv ct):=⟨⟨oc,od,kV,doc,pm,an,cdv,ct,osl,rfl,l,c⟩,k⟩
theorem FunD.okV{P:Aj}{w:World}{mg:Str->Option Value}{base:Heap}{x qual:Str}{st:Stmt}{dV:Value}{f:Addr}{fd:C2}{N ps:List Str}{k:Nat}{g:VS}(F:FunD K x qual st dV f fd)(S:zAD N ps (zA4 st))(hps:ps.length<=N.length)
  (aj: ∀(cdv:Value) (A:B8) (outer:List Env) (s:A2) (H:Hp) (E:XK),Room k (A.deeper (envOfC qual (zA4 st) s.heap.objs.size f cdv))→
   PSs (cxOf CX0 P w K mg base N qual (zA4 st) f cdv A outer s H E).nox (zB0 st) (TSt K ml g)):FnOk P w K mg base CX0 (k+1) f fd ps (spV K ml ps.length (runV N.length ml g)):=by
 obtain⟨oc,od,kV,doc,pm,an,cdv,ct,osl,rfl,lk,hcd⟩:=F.ex
 refine zXX lk hcd S (fun vs H Q E h=> ?_) fun A outer s H vs Q E hr hsp=>⟨_,(aj cdv A outer s H E hr).nox,zY4 hps hsp⟩
 obtain⟨Z,ds,r,os,hn,AV,_⟩:=h
 rw[AV.len,hn]
theorem FunD.binds{x qual:Str}{st:Stmt}{T f:Addr}{fd:C2}{ps:List Str}{o:Obj}{its:Array Value}{n m:Nat}{ds:List Value}(F:FunD K x qual st (.ref T) f fd)(ho:K.lookup T=some o)(hs:o.data= .seq its n)
  (h: ∀(kV doc pm:Value) (an:Option Addr) (cdv ct:Value) (us:List Value),us.length=m-> ∃k,bindArgs (Fj x qual (zBP st) (zB0 st) (zA4 st) (.ref T) kV doc pm an cdv ct) ⟨us,[]⟩=seqItems? (.ref T)>>=k/\k (some its)=pure (ps.zip (us++ds)))
  (hm:m+ds.length=ps.length:=by rfl):zFY K fd ps ds:=by
 obtain⟨oc,od,kV,doc,pm,an,cdv,ct,osl,rfl,lk,hcd⟩:=F.ex
 intro s us hK hl
 obtain⟨k,h1,h2⟩:=h kV doc pm an cdv ct us (by rw[Bf] at hl;omega)
 exact BindsTo.of_defaults rfl (hK _ _ ho) hs h1 h2
structure DefD(P:Aj)(w:World)(K:A8)(mg:Str->Option Value)(base:Heap)(x:Str)(k:Nat)(ps:List Str)(sp:Sp)(f:Addr)(v0:V):Prop where
 at_:mg x=some (.ref f)
 ok: ∃fd u0,FnOk P w K mg base CX0 k f fd ps sp/\zFY K fd ps [u0]/\RelV v0 u0
 kp:Dx K (.ref f)=true
noncomputable def dflt(F:VFun)(d:Dat):VFun:=fun ds=>F (ds++[d])
theorem zSU{mF:List Nat}{m:Nat}{F:VFun}{vs:List V}{Q:VK}{E:XK}(hv: ∀N H M,Rep K N H M v d)(hn: ∀a,v≠ .ref a)(h:spV K mF m (dflt F d) vs H Q E):spV K mF (m+1) F (vs++[v]) H Q E:=by
 obtain⟨Z,ds,r,os,hl,A,hF,k⟩:=h
 have fw: ∀(i:Nat) (a:Addr),(vs++[v])[i]? =some (.ref a)->vs[i]? =some (.ref a):=fun i a h=>by
  by_cases hi:i<vs.length
  ·rwa[A6 hi] at h
  ·rw [Ap (by omega)] at h
   cases hj:i - vs.length with
   |zero=>rw[hj] at h;cases h;exact absurd rfl (hn a)
   |succ j=>rw[hj] at h;simp at h
 have io: ∀(i:Nat) (u:V),vs[i]? =some u->(vs++[v])[i]? =some u:=fun i u h=>by
  rw[A6 (A5.mp h).1]
  exact h
 have hP: ∀a,argP mF (vs++[v]) a->argP mF vs a:=fun a ⟨i,hi,e⟩=>⟨i,hi,fw i a e⟩
 have hP': ∀a,argP mF vs a->argP mF (vs++[v]) a:=fun a ⟨i,hi,e⟩=>⟨i,hi,io i _ e⟩
 have hZ: ∀a,Zp Z mF (vs++[v]) a->Zp Z mF vs a:=fun a h=>h.imp id (hP a)
 have hZ': ∀a,Zp Z mF vs a->Zp Z mF (vs++[v]) a:=fun a h=>h.imp id (hP' a)
 refine⟨Z,ds++[d],r,os,by simp[hl],⟨by simp[A.len],fun i hi=> ?_,fun i x hi e=> ?_,fun i x hi e=> ?_,fun i j a hi hj e1 e2=>A.inj i j a hi hj (fw i a e1) (fw j a e2),A.zin⟩,hF,fun u H' f w rr=>k u H' (f.mono hP) (fun kk i a o e1 e2 e3=>(w kk i a o e1 (io i _ e2) e3).mono hZ') (rr.mono hZ' hZ')⟩
 ·have:=A.mem i hi
  simp
  omega
 ·by_cases hi':i<ds.length
  ·rw[A6 hi'] at e
   obtain⟨u,e1,r1⟩:=A.va i x hi e
   exact⟨u,io i u e1,r1.mono hZ hZ⟩
  ·rw [Ap (by omega)] at e
   cases hj:i - ds.length with
   |zero=>
    rw[hj] at e
    cases e
    have:i=vs.length:=by have:=A.len;omega
    subst this
    exact⟨v,by rw[Ap (by omega)];simp,hv _ _ _⟩
   |succ j=>rw[hj] at e;simp at e
 ·have hi':=A.mem i hi
  rw[A6 hi'] at e
  obtain⟨u,e1,w1,z1⟩:=A.ow i x hi e
  exact⟨u,io i _ e1,w1.mono hZ,z1⟩
theorem zSL{x:Str}{kk j m:Nat}{qs:List Str}{mF:List Nat}{F:VFun}{ff:Addr}{p':Pos}{fs:VFg}(hK:X.K=K)(D:DefD X.prog X.w K X.mg X.base x kk qs (spV K mF (m+1) F) ff v)(hv: ∀N H M,Rep K N H M v d)(hn: ∀a,v≠ .ref a)(hr:Room j X.A)(hk:kk<=j)(hg:Gl X x)(ha:PA X (e::es) (TAG K ml ps fs))(hdb:(x==("__debug__":Str))=false:=by decide)
  (he:starEach (e::es) X.env=(false,eval e X.env)::starEach es X.env:=by rfl) (hpl:(Cg pos (starEach es X.env)).any (·.1)=false:=by rfl):
  PE X (.Call (.Name x p') (e::es) [] pos) (TV K ml (ps && mF.isEmpty) true true (zAF m mF (dflt F d) fs)):=by
 subst hK
 obtain⟨fd,u0,F',Bd,hd⟩:=D.ok
 refine(zQ8 F' (hr.mono hk) hg D.at_ D.kp Bd (.cons hd .nil) zTH ha hdb he hpl).imp fun σ H Q h=> ?_
 obtain⟨B,O,δ,as,δ',S,q,k⟩:=zFF h
 exact⟨B,O,δ,as,δ',S,q,fun vs H' R=>zSU hv hn (by have z:spV X.K mF m (dflt F d) (vs++[]) H' Q E0:=k vs H' R;rwa[Bi] at z)⟩
noncomputable def zI8:List (Str×VFun)->Str->Option VFun
 |[],_=>none
 |(y,F)::r,x=>if y=x then some F else zI8 r x
def zS4(X:Cx)(K:A8)(mF:List Nat)(n:Nat)(tb:List (Str×VFun)):Prop:= ∀x F a,zI8 tb x=some F->E4 K mainGlobals x=some (some (.ref a))->FnAt X a (spV K mF n F)
theorem zP2{mF:List Nat}{n:Nat}:zS4 X K mF n []:=fun _ _ _ h=>nomatch h
theorem zCL{x:Str}{kk j n:Nat}{qs:List Str}{mF:List Nat}{F:VFun}{ff:Addr}{tb:List (Str×VFun)}(hK:X.K=K)(hm: ∀x a,E4 K mainGlobals x=some (some (.ref a))->X.mg x=some (.ref a))(hr:Room j X.A)
  (D:Def X.prog X.w K X.mg X.base x kk qs (spV K mF n F) ff) (hk:kk<=j) (t:zS4 X K mF n tb):zS4 X K mF n ((x,F)::tb):=fun y G a h1 h2=>by
 unfold zI8 at h1
 split at h1
 ·rename_i hxy
  subst hxy
  cases h1
  have e:=(hm x a h2).symm.trans D.at_
  cases e
  subst hK
  exact D.fnAt hr hk
 ·exact t y G a h1 h2
noncomputable def zRC(n:Nat)(mF:List Nat)(tb:List (Str×VFun))(i:Nat)(fs:VFg):VF:=fun δ=>match δ[i]? with
 |some (.va (.fn x))=>(zI8 tb x).bind fun F=>zAF n mF F fs δ
 |_=>none
theorem zSK{y:Str}{i n:Nat}{mF:List Nat}{tb:List (Str×VFun)}{p':Pos}{fs:VFg}(ht:zS4 X K mF n tb)(hf:PE X (.Name y p') (tVar i))(ha:PA X (e::es) (TAG K ml ps fs))
  (he : starEach (e :: es) X.env = (false,eval e X.env) :: starEach es X.env := by rfl) (hpl : (Cg pos (starEach es X.env)).any (·.1) = false := by rfl) :
  PE X (.Call (.Name y p') (e::es) [] pos) (TV K ml (ps && mF.isEmpty) true true (zRC n mF tb i fs)):=(zTF hf ha he hpl).imp fun σ H Q h=>by
 obtain⟨B,O,δ,d,δ',S,q,k⟩:=h
 unfold zRC at q
 split at q
 ·rename_i x hx
  cases hF:zI8 tb x with
  | none => rw [hF] at q;cases q
  |some F=>
   rw[hF] at q
   obtain⟨v,e1,r⟩:=S.va i _ hx
   cases r with
   |fn h=>
    refine⟨_,e1,_,_,rfl,ht x F _ hF h,?_⟩
    obtain⟨B,O,δ,as,δ',S,q,k⟩:=zFF (F:=F) (fs:=fs) (K:=K) (ml:=ml) (ps:=ps) (n:=n) (mF:=mF) (σ:=σ) (H:=H) (Q:=Q) ⟨B,O,δ,d,δ',S,q,k⟩
    exact⟨B,O,δ,as,δ',S,q,fun vs H' R=>by have z:spV K mF n F (vs++[]) H' Q E0:=k vs H' R;rwa[Bi] at z⟩
 ·cases q
end
section
variable{X:Cx}{K:A8}{ml:List Nat}{e a b c:Expr}{es:List Expr}{pa ta ia pb tb ib pc tc ic pu bt bi ps bs:Bool}{fa fb fc f:VF}{B B':Bs}{O:Nat->Option Addr}{H H1 H':Hp}{σ:St}{δ δ':Ev}{v:V}{d:Dat}{p:Addr}{pos:Pos}
theorem Own.away{N N':Addr->Prop}{q:Addr}{o:HO}(hp:H p=none)(hN: ∀a,N' a->N a∨a=p)(w:Own K N H q d):Own K N' (upd H p o) q d:=by
 cases w with
 |lst q r=>exact .lst (zA5 hp _ _ q) ((r.away hp _ _ hN).same (zA5 hp))
 |dct q r=>exact .dct (zA5 hp _ _ q) ((r.away hp _ _ hN).same (zA5 hp))
end
section
variable{X:Cx}{K:A8}{ml:List Nat}{e a b c:Expr}{es:List Expr}{pa ta ia pb tb ib pc tc ic pu bt bi ps bs:Bool}{fa fb fc f:VF}{pos p':Pos}{d:Dat}{x:Str}
theorem vv(i:Nat)(hN:X.N[i]? =some x:=by rfl)(hv:Vis X.env.scope x:=by first|exact J1 rfl|exact J2 (J1 rfl)|exact J2 (J2 rfl))(hd:(x==("__debug__":Str))=false:=by decide)
  (hcd:(x==("__classdict__":Str))=false:=by decide):PE X (.Name x pos) (TV K ml true true true (fV i)):=zYH (zQ7 hN hv hd hcd)
theorem vo(i:Nat)(hN:X.N[i]? =some x:=by rfl)(hv:Vis X.env.scope x:=by first|exact J1 rfl|exact J2 (J1 rfl)|exact J2 (J2 rfl))(hd:(x==("__debug__":Str))=false:=by decide)
  (hcd:(x==("__classdict__":Str))=false:=by decide):PE X (.Name x pos) (TV K ml true false true (fO i)):=zYI (zQ7 hN hv hd hcd)
theorem vix(hu:X.A.units+1<cLine)(ha:PE X a (TV K ml pa ta ia fa))(hb:PE X b (TV K ml pb tb ib fb))(hK:X.K=K:=by rfl)(hx:zM0 b:=by exact fun _ _=>rfl)(hs:(pb || (ta && ia))=true:=by rfl):PE X (.Subscript a b pos) (TV K ml (pa && pb) ia ia (f2 oIxA fa fb)):=
 yD1 (kIxA hK hu) yFH ha hb hx hs
theorem veq(hu:X.A.units+64<cLine)(ha:PE X a (TV K ml pa ta ia fa))(hb:PE X b (TV K ml pb tb ib fb))(hK:X.K=K:=by rfl)(hs:(pb || (ta && ia))=true:=by rfl):PE X (.Compare a [.Eq] [b] pos) (TV K ml (pa && pb) true true (f2 oEq fa fb)):=
 zDN (kEqD hK hu) s_eq ha hb (zBH _) hs
theorem vteq(hu:X.A.units+64<cLine)(ha:PE X a (TV K ml pa ta ia fa))(hb:PE X b (TV K ml pb tb ib fb))(hK:X.K=K:=by rfl)(hs:(pb || (ta && ia))=true:=by rfl):PT X (.Compare a [.Eq] [b] pos) (TB K ml (pa && pb) (fB (f2 oEq fa fb))):=
 zAY (kEqD hK hu) s_eq ha hb (zBH _) hs
theorem vcal{kk j n:Nat}{qs:List Str}{mF:List Nat}{F:VFun}{ff:Addr}{fs:VFg}(D:Def X.prog X.w K X.mg X.base x kk qs (spV K mF n F) ff)(hr:Room j X.A)(ha:PA X (e::es) (TAG K ml ps fs))(hK:X.K=K:=by rfl)(hk:kk<=j:=by decide)(hg:Gl X x:=by rfl)(hdb:(x==("__debug__":Str))=false:=by decide)
  (he:starEach (e::es) X.env=(false,eval e X.env)::starEach es X.env:=by rfl) (hpl:(Cg pos (starEach es X.env)).any (·.1)=false:=by rfl):
  PE X (.Call (.Name x p') (e::es) [] pos) (TV K ml (ps && mF.isEmpty) true true (zAF n mF F fs)):=zW1 hK D hr hk hg ha hdb he hpl
theorem vlen(hm:X.mg "len"=none) (ha:PE X a (TV K ml pa ta ia fa)) (hK:X.K=K:=by rfl) (hg:Gl X "len":=by rfl) (he:starEach (a::[]) X.env=(false,eval a X.env)::starEach [] X.env:=by rfl):PE X (.Call (.Name "len" p') [a] [] pos) (TV K ml pa true true (f1 oLen fa)):=
 zW2 (yFD hK) yDM hg hm yCJ ha (by decide) (by decide) he
theorem vty{n:String}(hm:X.mg x=none)(hv:Ar x=some (.type n))(hg:Gl X x:=by rfl)(hn:x≠ "__name__":=by decide) (hd:(x==("__debug__":Str))=false:=by decide):PE X (.Name x pos) (TV K ml true true true (fC (.ty n))):=
 ve_c (zWT (v:= .ty n) hg hm hv rfl hn hd) fun _ _ _=> .ty _
theorem visi(hm:X.mg "isinstance"=none) (ha:PE X a (TV K ml pa ta ia fa)) (hb:PE X b (TV K ml pb tb ib fb)) (hK:X.K=K:=by rfl) (hg:Gl X "isinstance":=by rfl)
  (he:starEach (a::[b]) X.env=(false,eval a X.env)::starEach [b] X.env:=by rfl) (he2:starEach (b::[]) X.env=(false,eval b X.env)::starEach [] X.env:=by rfl) (hpl:(Cg pos (starEach [b] X.env)).any (·.1)=false:=by rfl) (hs:(pb || (ta && ia))=true:=by rfl):
  PE X (.Call (.Name "isinstance" p') [a,b] [] pos) (TV K ml (pa && pb) true true (f2 oIsi fa fb)):=zD7 (kIsi hK) yDN hg hm zAK ha hb (by decide) (by decide) he he2 hpl hs
end
def A4(K:A8)(x:Str)(st:Stmt)(f:Addr):Prop:= ∃(oc:Value) (od:Option Addr) (kV doc pm:Value) (an:Option Addr) (cdv ct:Value) (osl:Array (Option Value)),E4 K mainGlobals x=some (some (.ref f))∧
 K.lookup f=some ⟨oc,od,.func (Fj x x (zBP st) (zB0 st) (zA4 st) .none kV doc pm an cdv ct),osl⟩/\Go K cdv x=true/\Dx K (.ref f)=true
theorem a4{K:A8}{x:Str}{st:Stmt}{f:Addr}{oc:Value}{od:Option Addr}{kV doc pm:Value}{an:Option Addr}{cdv ct:Value}{osl:Array (Option Value)}(a:E4 K mainGlobals x=some (some (.ref f)))
  (b:K.lookup f=some ⟨oc,od,.func (Fj x x (zBP st) (zB0 st) (zA4 st) .none kV doc pm an cdv ct),osl⟩) (c:Go K cdv x=true) (d:Dx K (.ref f)=true):A4 K x st f:=⟨oc,od,kV,doc,pm,an,cdv,ct,osl,a,b,c,d⟩
theorem A4.ns{K:A8}{x:Str}{st:Stmt}{f:Addr}(p:A4 K x st f):E4 K mainGlobals x=some (some (.ref f)):=by
 obtain⟨_,_,_,_,_,_,_,_,_,a,_⟩:=p
 exact a
theorem mkDf{P:Aj}{w:World}{K:A8}{mg:Str->Option Value}{base h:Heap}{x:Str}{st:Stmt}{f:Addr}{ps:List Str}{sp:Sp}{k:Nat}(X:K.In h)(G:h.Ns mainGlobals mg)(p:A4 K x st f)(ok: ∀{fd:C2},Fun K x x st f fd->FnOk P w K mg base CX0 k f fd ps sp)
  (hb: ∀{kV doc pm:Value} {an:Option Addr} {cdv ct:Value} (us:List Value),us.length=ps.length->bindArgs (Fj x x (zBP st) (zB0 st) (zA4 st) .none kV doc pm an cdv ct) ⟨us,[]⟩=pure (ps.zip us)):Def P w K mg base x k ps sp f:=by
 obtain⟨oc,od,kV,doc,pm,an,cdv,ct,osl,a,b,c,d⟩:=p
 have U:=zN4 (st:=st) b c d
 exact⟨C4 X G a,⟨_,ok U,U.binds fun _ _ _ _ _ _=>hb⟩,d⟩
theorem okW(P:Aj)(w:World)(K:A8)(mg:Str->Option Value)(base:Heap){x qual:Str}{st:Stmt}{f:Addr}{fd:C2}(N ps:List Str)(k:Nat)(g:VS)(ml:List Nat)(F:Fun K x qual st f fd)(S:zAD N ps (zA4 st))
  (aj: ∀(cdv:Value) (A:B8) (outer:List Env) (s:A2) (H:Hp) (E:XK) (hr:Room k (A.deeper (envOfC qual (zA4 st) s.heap.objs.size f cdv))) (_:(A.deeper (envOfC qual (zA4 st) s.heap.objs.size f cdv)).units+64<cLine) (_:(A.deeper (envOfC qual (zA4 st) s.heap.objs.size f cdv)).units+1<cLine),
   PSs (cxOf CX0 P w K mg base N qual (zA4 st) f cdv A outer s H E).nox (zB0 st) (TSt K ml g)) (hps:ps.length<=N.length:=by decide):FnOk P w K mg base CX0 (k+1) f fd ps (spV K ml ps.length (runV N.length ml g)):=
 Fun.okV F S hps fun cdv A outer s H E hr=>aj cdv A outer s H E hr hr.units (zXS hr)
theorem mkSc{N P:List Str}{sc:Scope}(a:sc.kind= .function:=by rfl)(b:sc.isCoroutine=false:=by rfl)(c:sc.isGenerator=false:=by rfl)(d:N.Nodup:=by decide+kernel)(e:N.take P.length=P:=by rfl)
  (f: ∀x∈P,sc.names.lookup x=some .local∨sc.names.lookup x=some .cell:=by decide+kernel) (g: ∀y∈sc.names,y.2≠Ay:=by decide+kernel):zAD N P sc:=⟨a,b,c,d,e,f,g⟩
end L2
namespace TS
open PySem PySem.W PyProof.Rows
structure En where
 prog:Aj
 w:World
 A:B8
 s:A2
 κ:Kz
 it:Array Keyed
def En.Ok(n:Nat)(ck:Nat->Nat->Bool)(e:En):Prop:= ∀i j,i<n->j<n-> ∀C:Bool->A2->Prop,C (ck i j) e.s->kas_cmp e.prog e.w e.A e.κ e.it i j C e.s
abbrev En.at(e:En)(i:Nat):Keyed:=Hk e.it i
abbrev En.of(e:En)(p:Array Nat):Array Keyed:=p.map (Hk e.it)
structure Pu where
 p:Array Nat
 pd:Array (Nat×Nat×Nat)
 g:Nat
noncomputable def stO(e:En)(x:Pu):Fo:=Ha e.κ (e.of x.p) x.pd x.g none
section
variable{n:Nat}{ck:Nat->Nat->Bool}
def D(n:Nat)(ck:Nat->Nat->Bool){α:Type}(f:En->StateT Fo Sem α)(x:Pu)(a:En->α)(y:Pu):Prop:=
 ∀e:En,e.Ok n ck-> ∀(E:Value->A2->Prop) (Q:α->Fo->A2->Prop),Q (a e) (stO e y) e.s->kasC (model e.prog e.w) e.A E (f e) Q (stO e x) e.s
def X(n:Nat)(ck:Nat->Nat->Bool){α τ:Type}(f:En->StateT Fo Sem α)(x:Pu)(v:τ->En->α)(R:τ->Pu->Prop):Prop:= ∃t y,R t y/\D n ck f x (v t) y
theorem D.pure{α:Type}{a:En->α}{x:Pu}:D n ck (fun e=>Ll (a e)) x a x:=fun e _ E Q h=>kasC_pure h
theorem D.bind{α β:Type}{f:En->StateT Fo Sem α}{k:En->α->StateT Fo Sem β}{x y z:Pu}{a:En->α}{b:En->β}(h1:D n ck f x a y)(h2:D n ck (fun e=>k e (a e)) y b z):D n ck (fun e=>f e>>=k e) x b z:=
 fun e o E Q h=>Lm (h1 e o E _ (h2 e o E Q h))
theorem D.get{x:Pu}:D n ck (fun _=>MonadState.get) x (fun e=>stO e x) x:=fun e _ E Q h=>kasC_get h
theorem D.modify{F:En->Fo->Fo}{x y:Pu}(h: ∀e,F e (stO e x)=stO e y):D n ck (fun e=>modify (F e)) x (fun _=>⟨⟩) y:=fun e _ E Q q=>Ln (by rw[h e];exact q)
theorem D.rule{r:String}{x:Pu}:D n ck (fun _=>(liftM (PySem.rule r):StateT Fo Sem Unit)) x (fun _=>()) x:=fun e _ E Q q=>kasC_lift (F4 q)
theorem D.elem{q:Array Nat}{i:Nat}{x:Pu}(hi:i<q.size):D n ck (fun e=>elem' (e.of q) i) x (fun e=>e.at (q.getD i 0)) x:=fun e _ E Q h=>by
 have e1:(e.of q)[i]? =some (e.at (q.getD i 0)):=by
  have e2:q.getD i 0=q[i]:=by simp[Array.getD,hi]
  rw[e2]
  simp[En.of,En.at,hi]
 show kasC _ _ _ (elem' (e.of q) i) Q _ _
 rw[elem'_eq,e1]
 exact kasC_pure h
theorem D.lt{i j:Nat}{x:Pu}(hi:i<n)(hj:j<n):D n ck (fun e=>lt' (e.at i) (e.at j)) x (fun _=>some (ck i j)) x:=fun e o E Q h=>by
 show kasC _ _ _ (lt' (e.at i) (e.at j)) Q _ _
 rw[lt'_eq]
 refine Lm (kasC_get ?_)
 refine Lm (kasC_lift (Hh (Ba (o i j hi hj (fun c s'=>c=ck i j/\s'=e.s) ⟨rfl,rfl⟩) (fun c s' hc=> ?_) fun _ _ hF=>hF.elim)))
 obtain⟨rfl,rfl⟩:=hc
 exact kasC_pure h
theorem D.ltAt{i j:Nat}{x:Pu}(hi:i<x.p.size)(hj:j<x.p.size)(bi:x.p.getD i 0<n)(bj:x.p.getD j 0<n):D n ck (fun _=>ltAt' i j) x (fun _=>some (ck (x.p.getD i 0) (x.p.getD j 0))) x:=fun e o E Q h=>by
 show kasC _ _ _ (ltAt' i j) Q _ _
 rw[ltAt'_eq]
 refine Lm (kasC_get ?_)
 exact(D.bind (D.elem hi) (D.bind (D.elem hj) (D.lt bi bj)):D n ck (fun e=>elem' (e.of x.p) i>>=fun u=>elem' (e.of x.p) j>>=fun v=>lt' u v) x _ x) e o E Q h
theorem D.rev{i j:Nat}{x:Pu}:D n ck (fun _=>reverseSlice' i j) x (fun _=>()) {x with p:=kas_rev x.p i j}:=fun e o E Q h=>by
 show kasC _ _ _ (reverseSlice' i j) Q _ _
 rw[reverseSlice'_eq]
 refine Ln ?_
 have e1:mirror (e.of x.p) i j ((j - i)/2)=e.of (mirror x.p i j ((j - i)/2)):=kas_swaps_map (Hk e.it) (fun k=>i+k) (fun k=>j - 1 - k) _ x.p
 show Q () (Ha e.κ (mirror (e.of x.p) i j ((j - i)/2)) x.pd x.g none) e.s
 rw[e1]
 exact h
theorem D.move{k l:Nat}{x:Pu}:D n ck (fun _=>moveDown' k l) x (fun _=>()) {x with p:=bubble x.p k (k - l)}:=fun e o E Q h=>by
 show kasC _ _ _ (moveDown' k l) Q _ _
 rw[moveDown'_eq]
 refine Ln ?_
 have e1:bubble (e.of x.p) k (k - l)=e.of (bubble x.p k (k - l)):=kas_swaps_map (Hk e.it) (fun i=>k - i) (fun i=>k - i - 1) _ x.p
 show Q () (Ha e.κ (bubble (e.of x.p) k (k - l)) x.pd x.g none) e.s
 rw[e1]
 exact h
theorem X.ret{α τ:Type}{a:En->α}{x:Pu}{v:τ->En->α}{R:τ->Pu->Prop}(t:τ)(h:R t x)(ha: ∀e,a e=v t e:=by intro e;rfl):X n ck (fun e=>Ll (a e)) x v R:=
 ⟨t,x,h,by rw[show a=v t from funext ha];exact D.pure⟩
theorem X.go{α β τ:Type}{f:En->StateT Fo Sem α}{k:En->α->StateT Fo Sem β}{x y:Pu}{a:En->α}{v:τ->En->β}{R:τ->Pu->Prop}(h1:D n ck f x a y)(h2:X n ck (fun e=>k e (a e)) y v R):X n ck (fun e=>f e>>=k e) x v R:=by
 obtain⟨t,z,h,d⟩:=h2
 exact⟨t,z,h,D.bind h1 d⟩
theorem X.bind{α β τ υ:Type}{f:En->StateT Fo Sem α}{k:En->α->StateT Fo Sem β}{x:Pu}{u:υ->En->α}{S:υ->Pu->Prop}{v:τ->En->β}{R:τ->Pu->Prop}(h1:X n ck f x u S)(h2: ∀t y,S t y->X n ck (fun e=>k e (u t e)) y v R):X n ck (fun e=>f e>>=k e) x v R:=by
 obtain⟨t,y,h,d⟩:=h1
 exact X.go d (h2 t y h)
noncomputable def sv{β τ:Type}(v:τ->En->β):τ ⊕ τ->En->ForInStep β
 | .inl t,e=> .yield (v t e)
 | .inr t,e=> .done (v t e)
def sR{τ:Type}(I J:τ->Pu->Prop):τ ⊕ τ->Pu->Prop
 | .inl t,x=>I t x
 | .inr t,x=>J t x
theorem X.loop{β τ:Type}{v:τ->En->β}{I:Nat->τ->Pu->Prop}{J:τ->Pu->Prop}{f:En->Nat->β->StateT Fo Sem (ForInStep β)}
  (he : ∀ t x,I 0 t x -> J t x) : ∀ (l : List Nat) (t : τ) (x : Pu),(∀ i ∈ l,∀ (k : Nat) (t : τ) (x : Pu),I (k + 1) t x -> X n ck (fun e => f e i (v t e)) x (sv v) (sR (I k) J)) -> I l.length t x -> X n ck (fun e => forIn l (v t e) (f e)) x v J
 | [],t,x,_,h => ⟨t,x,he t x h,fun e o E Q q => kasC_nil q⟩
 | i :: l,t,x,hs,h => by
  obtain⟨r,y,hr,d⟩:=hs i Ak l.length t x h
  cases r with
  |inr t'=>exact⟨t',y,hr,fun e o E Q q=>kasC_cons (d e o E _ q)⟩
  |inl t'=>
   obtain⟨u,z,hu,d2⟩:=X.loop he l t' y (fun i hi=>hs i (Ag _ hi)) hr
   exact⟨u,z,hu,fun e o E Q q=>kasC_cons (d e o E _ (d2 e o E Q q))⟩
theorem X.range{β τ:Type}{v:τ->En->β}{I:Nat->τ->Pu->Prop}{J:τ->Pu->Prop}{f:En->Nat->β->StateT Fo Sem (ForInStep β)}{a b:Nat}{t:τ}{x:Pu}{c:En->β}
  (he: ∀t x,I 0 t x->J t x) (h0:I (b - a) t x) (hs: ∀i,a<=i->i<b-> ∀(k:Nat) (t:τ) (x:Pu),I (k+1) t x->X n ck (fun e=>f e i (v t e)) x (sv v) (sR (I k) J)) (hc: ∀e,c e=v t e:=by intro e;rfl):X n ck (fun e=>forIn [a:b] (c e) (f e)) x v J:=by
 rw[show c=v t from funext hc]
 obtain⟨u,z,hu,d⟩:=X.loop he (List.range' a (b - a)) t x (fun i hi=>by
  have:=List.mem_range'_1.mp hi
  exact hs i this.1 (by omega)) (by rw[List.length_range'];exact h0)
 exact⟨u,z,hu,fun e o E Q q=>kasC_range (d e o E Q q)⟩
theorem X.yield{β τ:Type}{v:τ->En->β}{I J:τ->Pu->Prop}{a:En->β}{x:Pu}(t:τ)(h:I t x)(ha: ∀e,a e=v t e:=by intro e;rfl):X n ck (fun e=>Ll (Cz (a e))) x (sv v) (sR I J):=
 X.ret (.inl t) h fun e=>by rw[ha e];rfl
theorem X.done{β τ:Type}{v:τ->En->β}{I J:τ->Pu->Prop}{a:En->β}{x:Pu}(t:τ)(h:J t x)(ha: ∀e,a e=v t e:=by intro e;rfl):X n ck (fun e=>Ll (ForInStep.done (a e))) x (sv v) (sR I J):=
 X.ret (.inr t) h fun e=>by rw[ha e];rfl
end
section
variable{n:Nat}{ck:Nat->Nat->Bool}
theorem X.ite{α τ:Type}{c:Prop}{dc:En->Decidable c}{a b:En->StateT Fo Sem α}{x:Pu}{v:τ->En->α}{R:τ->Pu->Prop}(h1:c->X n ck a x v R)(h2: ¬c->X n ck b x v R):X n ck (fun e=> @_root_.ite _ c (dc e) (a e) (b e)) x v R:=by
 by_cases h:c
 ·simpa only[if_pos h] using h1 h
 ·simpa only[if_neg h] using h2 h
def Pm(n:Nat)(p:Array Nat):Prop:=p.toList.Perm (Ao n)
theorem Pm.sz{p:Array Nat}(h:Pm n p):p.size=n:=by
 have:=h.length_eq
 simpa using this
theorem Pm.lt{p:Array Nat}(h:Pm n p){i:Nat}(hi:i<n):p.getD i 0<n:=by
 have hs:=h.sz
 have hi':i<p.size:=by omega
 have e:p.getD i 0=p[i]:=by simp[Array.getD,hi']
 rw[e]
 exact Be.mp (h.mem_iff.mp (by simp))
theorem Pm.rev{p:Array Nat}(h:Pm n p)(i j:Nat):Pm n (kas_rev p i j):=Lo (Gi.mp (mirror_perm p i j _)) h
theorem Pm.move{p:Array Nat}(h:Pm n p)(i j:Nat):Pm n (bubble p i j):=Lo (Gi.mp (bubble_perm p i j)) h
theorem Pm.cmp{x:Pu}(h:Pm n x.p){i j:Nat}(hi:i<n)(hj:j<n):D n ck (fun _=>ltAt' i j) x (fun _=>some (ck (x.p.getD i 0) (x.p.getD j 0))) x:=
 D.ltAt (by rw[h.sz];exact hi) (by rw[h.sz];exact hj) (h.lt hi) (h.lt hj)
theorem X.st{α τ:Type}{f:En->StateT Fo Sem α}{x z:Pu}{v:τ->En->α}{R:τ->Pu->Prop}{P:Pu->Pu->Prop}(h: ∀z,P x z->X n ck f z v R)(hz:P x z):X n ck f z v R:=h z hz
def Kp(n:Nat)(x y:Pu):Prop:=Pm n y.p/\y.pd=x.pd
theorem count{lo m:Nat}{x:Pu}(hp:Pm n x.p)(h1:1<=m)(hm:lo+m<=n):X n ck (fun _=>countRun' lo m) x (fun t _=>some t) (fun t y=>1<=t/\t<=m/\Kp n x y):=by
 refine X.bind (u:=fun(t:Nat) _=>(none,t)) (S:=fun t y=>1<=t/\t<=m/\y=x) ?_ ?_
 ·refine X.range (I := fun k t y => 1 <= t /\ t + k = m /\ y = x) (t := 1) (fun t y h => ⟨h.1,by omega,h.2.2⟩) ⟨by omega,by omega,rfl⟩ fun i _ _ k t y ⟨g1,g2,g3⟩ => ?_
  subst g3
  refine X.go (hp.cmp (by omega) (by omega)) ?_
  refine X.ite (fun _=>X.done t ⟨g1,by omega,rfl⟩) fun _=>X.yield (t+1) ⟨by omega,by omega,rfl⟩
 ·rintro t y ⟨g1,g2,rfl⟩
  have k0:Kp n y y:=⟨hp,rfl⟩
  refine X.ite (fun _=>X.ret t ⟨g1,g2,k0⟩) fun q0=> ?_
  have q1:t+1<=m:=by
   have:t≠m:=fun z=>q0 (by rw[z];exact beq_self_eq_true _)
   omega
  refine X.ite (fun q2=>X.go (hp.cmp (by omega) (by omega)) (X.ite (fun _=>X.ret t ⟨g1,g2,k0⟩) fun _=>X.go D.rev (X.st (P:=Kp n) (x:=y) ?_ ⟨hp.rev _ _,rfl⟩))) fun q2=>X.st (P:=Kp n) (x:=y) ?_ k0
  all_goals
   intro z hz
   refine X.go D.rule ?_
   refine X.bind (u:=fun(t:Nat×Nat) _=>(none,t)) (S:=fun t z=>1<=t.1/\t.1<=m/\Kp n y z) ?_ ?_
   ·refine X.range (I := fun k t z => 1 <= t.1 /\ t.1 + k = m /\ Kp n y z) (t := (t + 1,0)) (fun t y h => ⟨h.1,by omega,h.2.2⟩) ⟨by omega,by dsimp only;omega,hz⟩ fun i _ _ k t y ⟨g1,g2,g3⟩ => ?_
    obtain⟨t,q⟩:=t
    dsimp only at g1 g2
    refine X.go (g3.1.cmp (by dsimp only;omega) (by dsimp only;omega)) ?_
    refine X.ite (fun _=>X.ite (fun _=>X.go D.rev (X.yield (t+1,0) ⟨by dsimp only;omega,by dsimp only;omega,g3.1.rev _ _,g3.2⟩)) fun _=>X.yield (t+1,0) ⟨by dsimp only;omega,by dsimp only;omega,g3⟩) fun _=> ?_
    refine X.go (g3.1.cmp (by dsimp only;omega) (by dsimp only;omega)) ?_
    exact X.ite (fun _=>X.done (t,q) ⟨g1,by dsimp only;omega,g3⟩) fun _=>X.yield (t+1,q+1) ⟨by dsimp only;omega,by dsimp only;omega,g3⟩
   ·rintro ⟨t,q⟩ z ⟨g1,g2,g3⟩
    dsimp only at g1 g2
    refine X.ite (fun _=>X.go D.rev (X.st (P:=Kp n) (x:=y) ?_ ⟨g3.1.rev _ _,g3.2⟩)) fun _=>X.st (P:=Kp n) (x:=y) ?_ g3
    all_goals
     intro z hz
     refine X.go D.rev ?_
     refine X.bind (u:=fun(t:Nat) _=>(none,t)) (S:=fun t z=>1<=t/\t<=m/\Kp n y z) ?_ fun t z h=>X.ret t h
     refine X.range (I:=fun k t z=>1<=t/\t+k=m/\Kp n y z) (t:=t) (fun t y h=>⟨h.1,by omega,h.2.2⟩) ⟨by omega,by dsimp only;omega,hz.1.rev _ _,hz.2⟩ fun i _ _ k t y ⟨g1,g2,g3⟩=> ?_
     refine X.go (g3.1.cmp (by omega) (by omega)) ?_
     exact X.ite (fun _=>X.done t ⟨g1,by omega,g3⟩) fun _=>X.yield (t+1) ⟨by omega,by omega,g3⟩
theorem bin{lo m ok:Nat}{x:Pu}(hp:Pm n x.p)(hm:lo+m<=n):X n ck (fun _=>binarySort' lo m ok) x (fun(_:Unit) _=>true) (fun _ y=>Kp n x y):=by
 refine X.bind (u:=fun(_:Unit) _=>(none,())) (S:=fun _ y=>Kp n x y) ?_ fun t z h=>X.ret () h
 refine X.range (I:=fun _ _ z=>Kp n x z) (t:=()) (fun t y h=>h) ⟨hp,rfl⟩ fun j j1 j2 k t y g3=> ?_
 refine X.bind (u:=fun(t:Nat×Nat) _=>(none,t)) (S:=fun t z=>t.2<=j/\z=y) ?_ ?_
 ·refine X.range (I := fun _ t z => t.2 <= j /\ z = y) (t := (0,j)) (fun t y h => h) ⟨Af _,rfl⟩ fun i _ _ k t z ⟨g1,g2⟩ => ?_
  obtain⟨l,r⟩:=t
  dsimp only at g1
  subst g2
  refine X.ite (fun _=>X.done (l,r) ⟨g1,rfl⟩) fun q=> ?_
  refine X.go (g3.1.cmp (by dsimp only at q⊢;omega) (by dsimp only at q⊢;omega)) ?_
  exact X.ite (fun _=>X.yield (l,(l+r)/2) ⟨by dsimp only at q⊢;omega,rfl⟩) fun _=>X.yield ((l+r)/2+1,r) ⟨g1,rfl⟩
 ·rintro ⟨l,r⟩ z ⟨g1,rfl⟩
  exact X.go D.move (X.yield () ⟨g3.1.move _ _,g3.2⟩)
end
section
variable{n:Nat}{ck:Nat->Nat->Bool}
theorem yER(e:En)(o:Array Nat):(e.of o).size=o.size:=by simp[En.of]
end
theorem Pm.id(n:Nat):Pm n (Ao n).toArray:=by
 unfold Pm
 simp
noncomputable def xS(n:Nat):Pu:=⟨(Ao n).toArray,#[],7⟩
section
variable{prog:Aj}{w:World}{A:B8}{E:Value->A2->Prop}{s:A2}
theorem zPO(vs:List Value):(Ao vs.length).map (fun i=>vs.getD i Value.none)=vs:=by
 refine K2 fun i=> ?_
 by_cases h:i<vs.length
 ·simp[h]
 ·simp[h]
end
section
variable{prog:Aj}{w:World}{A:B8}{E:Value->A2->Prop}{s:A2}
noncomputable def lexP(p q:Int×Int):Bool:=if p.1=q.1 then decide (p.2<q.2) else decide (p.1<q.1)
theorem zTT{x y:Addr}{a b c d:Int}{t u t' u':Tok}{C:Bool->A2->Prop}(hx:IsTup s.heap x #[.int a t,.int b u])(hy:IsTup s.heap y #[.int c t',.int d u'])(h:C (lexP (a,b) (c,d)) s):wpAny (model prog w) A (keyLt' (tuples' true) (.ref x) (.ref y)) C E s:=by
 obtain⟨ox,hx,_,n,dx⟩:=hx
 obtain⟨oy,hy,_,m,dy⟩:=hy
 refine kat_lt hx dx hy dy ?_
 refine kat_cons (Hm (kat_go (fun e=>kat_yes ?_) fun e=>kat_no ?_))
 ·have e : a = c := by simpa using e
  refine kat_cons (Hm (kat_go (fun e2=>kat_yes (kat_nil ?_)) fun e2=>kat_no ?_))
  ·have e2 : b = d := by simpa using e2
   have:lexP (a,b) (c,d)=false:=by simp[lexP,e,e2]
   rw[this] at h
   exact h
  ·refine kat_one _ _ (lt_int ?_)
   have:lexP (a,b) (c,d)=decide (b<d):=by simp[lexP,e]
   rw[this] at h
   exact h
 ·have e : ¬ a = c := by simpa using e
  have:lexP (a,b) (c,d)=decide (a<c):=by simp[lexP,e]
  rw[this] at h
  exact oneLt_int h
def PrI(h:Heap):List Value->List (Int×Int)->Prop
 |[],[]=>True
 |v::vs,p::ps=>(∃a t u,v= .ref a/\IsTup h a #[.int p.1 t,.int p.2 u])/\PrI h vs ps
 |_,_=>False
theorem PrI.keep{h h':Heap}(k: ∀b o,h.get? b=some o->h'.get? b=some o): ∀{vs:List Value} {ps:List (Int×Int)},PrI h vs ps->PrI h' vs ps
 |[],[],_=>trivial
 |_::_,_::_,⟨⟨a,t,u,e,q⟩,r⟩=>⟨⟨a,t,u,e,q.keeps k⟩,PrI.keep k r⟩
 |[],_::_,r=>r.elim
 |_::_,[],r=>r.elim
theorem PrI.at{h:Heap}: ∀{vs:List Value} {ps:List (Int×Int)} {i:Nat},PrI h vs ps->i<vs.length-> ∃a t u,vs.getD i Value.none= .ref a/\IsTup h a #[.int (ps.getD i (0,0)).1 t,.int (ps.getD i (0,0)).2 u]
 |[],[],i,_,hi=>by simp at hi
 |_::_,_::_,0,r,_=>r.1
 |v::vs,p::ps,i+1,r,hi=>by
  have:=PrI.at (i:=i) r.2 (by simpa using hi)
  simpa using this
 |[],_::_,i,r,_=>r.elim
 |_::_,[],i,r,_=>r.elim
theorem PrI.tups{h:Heap}: ∀{vs:List Value} {ps:List (Int×Int)},PrI h vs ps-> ∃fs,KatTups h vs fs/\fs.length=vs.length/\ ∀v∈fs,∃i t,v= .int i t
 |[],[],_=>⟨[],trivial,rfl,fun _ h=>by cases h⟩
 |_::_,_::_,⟨⟨a,t,u,e,o,ho,hcl,n,hd⟩,r⟩=>by
  obtain⟨fs,h1,h2,h3⟩:=PrI.tups r
  subst e
  refine⟨.int _ t::fs,KatTups.cons ho hcl hd rfl h1,by simp[h2],fun v hv=> ?_⟩
  rcases Ac.mp hv with rfl|hv
  ·exact⟨_,_,rfl⟩
  ·exact h3 v hv
 |[],_::_,r=>r.elim
 |_::_,[],r=>r.elim
noncomputable def ckP(ps:List (Int×Int))(i j:Nat):Bool:=lexP (ps.getD i (0,0)) (ps.getD j (0,0))
end
end TS
namespace L2
open PySem PySem.Spec PyProof.Rows
variable{X:Cx}{K:A8}
noncomputable def prD:Dat->Option (Int×Int)
 | .tup [.int a,.int b]=>some (a,b)
 |_=>none
noncomputable def prsD:List Dat->Option (List (Int×Int))
 |[]=>some []
 |d::ds=>(prD d).bind fun p=>(prsD ds).map fun ps=>p::ps
def PrV(K:A8)(H:Hp):List V->List (Int×Int)->Prop
 |[],[]=>True
 |v::vs,p::ps=>(∃a,v= .ref a/\SqT K H a [.int p.1,.int p.2])/\PrV K H vs ps
 |_,_=>False
theorem yA7{d:Dat}{p:Int×Int}(h:prD d=some p):d= .tup [.int p.1,.int p.2]:=by
 unfold prD at h
 split at h
 ·cases h;rfl
 ·cases h
theorem zPZ{H:Hp}{N:Addr->Prop}: ∀{xs:List V} {ds:List Dat} {ps:List (Int×Int)},RepA K N H xs ds->prsD ds=some ps->PrV K H xs ps
 | _,_,_,.nil,h => by cases h;trivial
 | _,_,ps,@RepA.cons _ _ _ v vs d ds h t,e => by
  have e : (prD d).bind (fun p => (prsD ds).map fun ps => p :: ps) = some ps := e
  cases h1:prD d with
  | none => rw [h1] at e;cases e
  |some p=>
   rw[h1] at e
   have e:(prsD ds).map (fun ps=>p::ps)=some ps:=e
   cases h2:prsD ds with
   | none => rw [h2] at e;cases e
   |some qs=>
    rw[h2] at e
    cases e
    have:=yA7 h1
    subst this
    refine⟨?_,zPZ t h2⟩
    cases h with
    |tup sq r=>
     cases r with
     |cons r1 r=>
      cases r1
      cases r with
      |cons r2 r=>
       cases r2
       cases r
       exact⟨_,rfl,sq⟩
theorem PrV.prI{H:Hp}{a6:List (Addr×Obj)}{σ:St}{s:A2}(I:Inv X a6 σ H s): ∀{xs:List V} {us:List Value} {ps:List (Int×Int)},PrV X.K H xs ps->Vals xs us->TS.PrI s.heap us ps
 | [],_,[],_,.nil => trivial
 | _ :: _,_,_ :: _,⟨⟨a,e,q⟩,r⟩,.cons h t => by
  subst e
  cases h
  obtain⟨its,rv,ht,_⟩:=I.tuple q
  cases rv with
  |cons r1 rv=>
   obtain⟨t1,rfl⟩:=r1
   cases rv with
   |cons r2 rv=>
    obtain⟨t2,rfl⟩:=r2
    cases rv
    exact⟨⟨a,t1,t2,rfl,ht⟩,PrV.prI I r t⟩
 |[],_,_::_,h,_=>h.elim
 |_::_,_,[],h,_=>h.elim
theorem PrV.len{H:Hp}: ∀{xs:List V} {ps:List (Int×Int)},PrV K H xs ps->xs.length=ps.length
 |[],[],_=>rfl
 |_::_,_::_,r=>by simp[PrV.len r.2]
 |[],_::_,r=>r.elim
 |_::_,[],r=>r.elim
theorem zJ9{xs:List V}{us:List Value}(r:Vals xs us): ∀l:List Nat,(∀i∈l,i<xs.length)->Vals (l.map fun i=>xs.getD i .non) (l.map fun i=>us.getD i Value.none)
 |[],_=> .nil
 |i::l,h=>by
  have hi:=h i Ak
  obtain⟨u,h1,h2⟩:=Vals.get (i:=i) (x:=xs[i]) r (by simp[hi])
  refine .cons ?_ (zJ9 r l fun j hj=>h j (Ag _ hj))
  have e1:xs.getD i .non=xs[i]:=by simp[hi]
  have e2:us.getD i Value.none=u:=by simp[h1]
  show RelV (xs.getD i .non) (us.getD i Value.none)
  rw[e1,e2]
  exact h2
theorem zJU{H:Hp}{N:Addr->Prop}{xs:List V}{ds:List Dat}(r:RepA K N H xs ds): ∀l:List Nat,RepA K N H (l.map fun i=>xs.getD i .non) (l.map fun i=>ds.getD i .non)
 | [] => .nil
 | i :: l => by
  have one: ∀{xs:List V} {ds:List Dat} (i:Nat),RepA K N H xs ds->Rep K N H N (xs.getD i .non) (ds.getD i .non):=by
   intro xs ds i r
   induction r using RepA.rec (motive_1:=fun _ _ _ _=>True) generalizing i with
   |nil=>simpa using Rep.non
   |cons h t _ ih=>cases i with
    |zero=>simpa using h
    |succ i=>simpa using ih i
   |_=>trivial
  exact .cons (one i r) (zJU r l)
theorem zQS:typeLookup (.type "list") ("keys":Str)=pure none:=am_miss_of_fast (by decide+kernel)
section
variable{prog:Aj}{w:World}{A:B8}{E:Value->A2->Prop}{s:A2}
theorem zQX{a:Addr}{o:Obj}{xs:Array Value}{k:Nat}{Q:Option Value->A2->Prop}(hx:s.heap.get? a=some o)(hc:o.cls= .type "list") (ao:o.data= .seq xs k) (hd:o.dict=none) (hA:A.handled=none)
  (h: ∀h' tk,(∀b ob,s.heap.get? b=some ob->h'.get? b=some ob)->Q none {s with heap:=h',toks:=tk}):wpAny (model prog w) A (Mi (.ref a) "keys") Q E s:=by
 obtain⟨c,dct,dat,sl⟩:=o
 simp only at hc ao hd
 subst hc ao hd
 obtain⟨hp,g,d,tk,os⟩:=s
 have hT: ∀tk',(⟨hp,g,d,tk',os⟩:A2).TypeIs (.ref a) "list":=fun _=>⟨_,hx,rfl⟩
 have f1:=sub_AttributeError
 have f3:=F.slot_list_getattribute.lookup
 have f4:=F.slot_list_getattribute.bind (.ref a)
 have f5:=am_list_getattr_none
 unfold Mi getAttrBy? getAttrBy
 (repeat (any_goals (first|assumption|exact hT _|((with_reducible show wpAny _ _ (call (Value.builtin "list.__getattribute__") _ _) _ _ _);refine Du F.slot_list_getattribute (hT _) am_entry_list_getattribute (F.args_list_getattribute_2 _ _) (meets_getattribute_miss_list a xs k sl "keys" _ zQS (by decide) (by size_fits)) ⟨hx,hA,fun h' tk' e hx'=> ?_⟩)|wp_step)))
 obtain⟨t1,u1,he⟩:=hx'.there
 show(wpAny _ _ (Jp _ _ _ _ _ _ _) _ _ _)
 unfold Jp
 (repeat (any_goals (first|assumption|wp_step)))
 exact h _ _ hx'.keeps
end
theorem zKO:entryFor table "dict.update.loop"=some D3.«dict.update.loop» :=entryFor_of_tree (by kernel_rfl)
theorem zEX:plainId "dict.update.loop"=true:=by decide+kernel
def PrK(prog:Aj)(w:World)(h:Heap):List Value->List (Key×Value)->Prop
 |[],[]=>True
 |v::vs,p::ps=>(∃a key,v= .ref a/\IsTup h a #[key,p.2]/\(zB8 prog w).is p.1 key=true)/\PrK prog w h vs ps
 |_,_=>False
section
variable{prog:Aj}{w:World}{A:B8}{E:Value->A2->Prop}{s:A2}
theorem PrK.keep{h h':Heap}{C:Addr->Prop}(k: ∀b o,C b->h.get? b=some o->h'.get? b=some o): ∀{vs:List Value} {ps:List (Key×Value)},(∀a,Av a∈vs->C a)->PrK prog w h vs ps->PrK prog w h' vs ps
 |[],[],_,_=>trivial
 |_::_,_::_,hC,⟨⟨a,key,e,⟨o,ho,r⟩,q⟩,r2⟩=>⟨⟨a,key,e,⟨o,k a o (hC a (by rw[e];exact Ak)) ho,r⟩,q⟩,PrK.keep k (fun a ha=>hC a (Ag _ ha)) r2⟩
 |[],_::_,_,r=>r.elim
 |_::_,[],_,r=>r.elim
theorem zNR{a:Addr}{k v:Value}{Q:List Value->A2->Prop}(h:IsTup s.heap a #[k,v])(q:Q [k,v] s):wpAny (model prog w) A (Hy (.ref a)) Q E s:=by
 obtain⟨o,ho,hc,n,hd⟩:=h
 unfold Hy
 refine(A0 (Gp (T:= "tuple") ⟨o,ho,hc⟩ ?_))
 rw[if_pos (by decide)]
 exact(A0 (D4 ho hd (A9 q)))
theorem yCD{R:Result->A2->Prop}{I D:Addr}{fp wr:List Addr}{items:Array Value}{St:Nat->Heap->Prop}(W:Walks prog w A.in1 I fp wr items.size (fun i v=>items[i]? =some v) St)(hDf:D∉fp): ∀(vs:List Value) (ps:List (Key×Value)) (j:Nat) (i:Int) (s:A2) (kvs:List (Key×Value)),items.toList.drop j=vs->j+vs.length=items.size->St j s.heap->s.heap.DictOf (zB8 prog w) D kvs->kvs.length+vs.length<=sizeLine->PrK prog w s.heap vs ps->(∀a,Av a∈vs->a∉wr/\a≠D)→
  (∀ g tk,g.DictOf (zB8 prog w) D (ps.foldl (fun l p => Mo l p.1 p.2) kvs) -> (∀ b o,b ∉ wr -> b ≠ D -> s.heap.get? b = some o -> g.get? b = some o) -> R (.ok (.ret .none)) { s with heap := g,toks := tk }) →
  Gs (model prog w) A (.builtin "dict.update.loop" ⟨[.ref D,.ref I,rawInt i,.none],[]⟩) R s
 | [],ps,j,i,s,kvs,e,hj,hst,hd,hz,hp,ha,hR => by
  have nDw:D∉wr:=fun z=>hDf (W.sub _ z)
  cases ps with
  | cons p ps => exact hp.elim
  |nil=>
   refine Im zKO (by
    rw[Iw zEX _]
    show(wpAny _ A.in1 (pyNext (.ref I)>>=_) _ _ s)
    refine(A0 (W.done s _ _ (by rw[show items.size=j by simpa using hj.symm];exact hst) fun g tk kept=> ?_))
    show(wpAny _ A.in1 (Builtin.Dict.addKeywords D []>>=_) _ _ _)
    refine(A0 (A9 (A9 ?_)))
    obtain⟨o,es,ep,ho,r⟩:=hd
    exact hR g tk ⟨o,es,ep,kept _ _ nDw ho,r⟩ fun b o z1 _ e=>kept b o z1 e)
 | v :: vs,ps,j,i,s,kvs,e,hj,hst,hd,hz,hp,ha,hR => by
  have nDw:D∉wr:=fun z=>hDf (W.sub _ z)
  cases ps with
  | nil => exact hp.elim
  |cons p ps=>
   obtain⟨⟨a,key,rfl,ht,hk⟩,hp⟩:=hp
   obtain⟨na,nD⟩:=ha a Ak
   simp only[Bg] at hj hz
   have ei:items[j]? =some (.ref a):=by
    have:=congrArg (fun l=>l[0]?) e
    simpa using this
   have ed:items.toList.drop (j+1)=vs:=by
    have:=congrArg List.tail e
    simpa using this
   refine Im zKO (by
    rw[Iw zEX _]
    show(wpAny _ A.in1 (pyNext (.ref I)>>=_) _ _ s)
    refine(A0 (W.item j s _ _ (by omega) hst fun v g tk pv oh kept=> ?_))
    obtain rfl:v= .ref a:=by rw[ei] at pv;cases pv;rfl
    obtain⟨o,ho,r⟩:=ht
    obtain⟨o2,es,ep,ho2,r2⟩:=hd
    refine(A0 (B7 (A0 (wpAny_tryCatch (zNR (s:={s with heap:=g,toks:=tk}) ⟨o,kept _ _ na ho,r⟩ ?_)))))
    refine(B7 (wpAny_dictSet_pairs (s:={s with heap:=g,toks:=tk}) (kvs:=kvs) hk ⟨o2,es,ep,kept _ _ nDw ho2,r2⟩ (fun g2 hd2 hs2=> ?_) (by omega)))
    have j4: ∀b o,b∉wr->b≠D->s.heap.get? b=some o->g2.get? b=some o:=fun b o z1 z2 e=>(hs2.2 b z2).trans (kept b o z1 e)
    refine(A9 ⟨plainId_quiet zEX _,yCD W hDf vs ps (j+1) (i+1) _ (Mo kvs p.1 p.2) ed (by omega) (W.frame _ _ _ oh fun b hb o e=>(hs2.2 b (fun z=>hDf (by rw[<- z];exact hb))).trans e) hd2 ?_ (PrK.keep (C:=fun b=>b∉wr/\b≠D) (fun b o hb e=>j4 b o hb.1 hb.2 e) (fun a h=>ha a (Ag _ h)) hp) (fun a h=>ha a (Ag _ h)) ?_⟩)
    ·have:=stored_length_le kvs p.1 p.2
     omega
    ·exact fun g3 tk3 hd3 mf=>hR g3 tk3 hd3 fun b o z1 z2 e=>mf b o z1 z2 (j4 b o z1 z2 e))
end
section
variable{prog:Aj}{w:World}{A:B8}{E:Value->A2->Prop}{s:A2}
theorem zO7{l:Addr}{vs:List Value}{ps:List (Key×Value)}{Q:Value->A2->Prop}(hh:A.handled=none)(pl:PlainL s.heap l vs.toArray)(hz:vs.length<=sizeLine)(hp:PrK prog w s.heap vs ps)
  (h : ∀ g tk,g.DictOf (zB8 prog w) s.heap.objs.size (ps.foldl (fun l p => Mo l p.1 p.2) []) -> (∀ b o,s.heap.get? b = some o -> g.get? b = some o) -> Q (.ref s.heap.objs.size) { s with heap := g,toks := tk }) :
  wpAny (model prog w) A (call (.type "dict") [.ref l]) Q E s:=by
 refine(callType_codes (Q₁:=fun obj s₁=>obj= .ref s.heap.objs.size/\s₁={s with heap:=s.heap.push {cls:= .type "dict",data:= .dict #[]}}) F.kt_called_dict (F.kt_typeCall_dict_1 _) F.entry_dict_init (kt_code_dict_new _ ⟨rfl,rfl⟩) ?_)
 rintro obj s₁ ⟨rfl,rfl⟩
 have dw:(s.heap.push {cls:= .type "dict",data:= .dict #[]}).DictOf (zB8 prog w) s.heap.objs.size []:=Le s.heap
 obtain⟨o,n,ho,hc,hd,ao⟩:=pl
 have ho':(s.heap.push {cls:= .type "dict",data:= .dict #[]}).get? l=some o:=A1 _ ho
 refine⟨dw.typeIs,F.args_dict_init_2 _ _,?_⟩
 unfold D3.«dict.__init__»
 refine(A0 ?_)
 unfold Builtin.Dict.selfAndRest
 refine(A0 (wpAny_notOrdered_dict dw.typeIs ?_))
 show(wpAny _ _ (pure (s.heap.objs.size,[Av l])) _ _ _)
 refine(A9 ?_)
 show(wpAny _ _ (Hl "dict.__init__" s.heap.objs.size (.ref l) [] .none) _ _ _)
 unfold Hl
 refine(A0 (Gp (T:= "list") ⟨o,ho',hc⟩ ?_))
 rw [if_pos (by decide)]
 refine(A0 (zQX ho' hc ao hd (by simp[hh]) fun g1 tk1 k1=> ?_))
 simp only[Option.isNone_none,if_true]
 refine(A0 (F4 ?_))
 have o1:g1.get? l=some o:=k1 _ _ ho'
 have od:g1.get? s.heap.objs.size=some {cls:= .type "dict",data:= .dict #[]}:=k1 _ _ (Ai _ rfl)
 have lts:s.heap.objs.size<g1.objs.size:=Ae od
 have ltl:l<s.heap.objs.size:=Ae ho
 have hl1:g1.IsList l vs.toArray:=⟨o,o1,hc,n,ao⟩
 have lj: ∀b ob,s.heap.get? b=some ob->g1.get? b=some ob:=fun b ob q=>k1 b ob (A1 _ q)
 have ne1: ∀b ob,s.heap.get? b=some ob->b∉[g1.objs.size]/\b≠s.heap.objs.size:=fun b ob q=>by
  have:=Ae q
  exact⟨fun z=>by rw[Ah.mp z] at this;exact absurd (Kg this lts) (Bj _),fun z=>by rw[z] at this;exact Bj _ this⟩
 have hin: ∀{vs:List Value} {ps:List (Key×Value)},PrK prog w s.heap vs ps-> ∀a,Av a∈vs-> ∃ob,s.heap.get? a=some ob:=by
  intro vs
  induction vs with
  | nil => intro ps _ a ha;cases ha
  |cons v vs ih=>
   intro ps hp a ha
   cases ps with
   | nil => exact hp.elim
   |cons p ps=>
    rcases Ac.mp ha with e|ha
    ·obtain⟨⟨b,key,e2,⟨ob,hob,_⟩,_⟩,_⟩:=hp
     rw[e2] at e
     cases e
     exact⟨ob,hob⟩
    ·exact ih hp.2 a ha
 refine(A0 (E9 (s:={s with heap:=g1,toks:=tk1}) hl1 ?_))
 have W:=Walks.list (prog:=prog) (w:=w) (A:=A.in1.in1) (by simp[hh]) g1.objs.size l (Aq (Kg ltl lts)) vs.toArray
 refine(A9 ⟨plainId_quiet zEX _,yCD (A:=A.in1) W (fun z=> ?_) vs ps 0 0 _ [] (by simp) (by simp) ⟨⟨_,Ai _ rfl,rfl,rfl⟩,hl1.push _⟩ ?_ (by simpa using hz) (PrK.keep (C:=fun _=>True) (fun b ob _ q=>A1 _ (lj b ob q)) (fun _ _=>trivial) hp) (fun a ha=> ?_) fun g tk hdd kept=>⟨rfl,h g tk hdd fun b ob q=> ?_⟩⟩)
 ·rcases Ac.mp z with z|z
  ·exact absurd lts (by rw [<- z];exact Bj _)
  ·rw[<- Ah.mp z] at ltl
   exact Bj _ ltl
 ·obtain⟨o2,es,ep,ho2,r2⟩:=dw
  exact⟨o2,es,ep,A1 _ (k1 _ _ ho2),r2⟩
 ·obtain⟨ob,hob⟩:=hin hp a ha
  exact ne1 a ob hob
 ·exact kept b ob (ne1 b ob q).1 (ne1 b ob q).2 (A1 _ (lj b ob q))
end
variable{X:Cx}{K:A8}{H:Hp}{σ:St}{s:A2}{a6:List (Addr×Obj)}{ml:List Nat}{pa ta ia:Bool}{fa:VF}{a:Expr}{p' pos:Pos}
noncomputable def kprD:Dat->Option (Key×Dat)
 | .tup [k,v]=>(keyD k).map fun kk=>(kk,v)
 |_=>none
noncomputable def zH0:List Dat->Option (List (Key×Dat))
 |[]=>some []
 |d::ds=>(kprD d).bind fun p=>(zH0 ds).map fun ps=>p::ps
def PrKV(K:A8)(H:Hp):List V->List (Key×V)->Prop
 |[],[]=>True
 |v::vs,p::ps=>(∃a,v= .ref a/\SqT K H a [kV p.1,p.2])/\PrKV K H vs ps
 |_,_=>False
theorem zXJ{d:Dat}{p:Key×Dat}(h:kprD d=some p): ∃k,d= .tup [k,p.2]/\keyD k=some p.1:=by
 unfold kprD at h
 split at h
 ·rename_i k v
  cases e:keyD k with
  |none=>rw[e] at h;cases h
  |some kk=>rw[e] at h;cases h;exact⟨k,rfl,e⟩
 ·cases h
theorem zMY{N:Addr->Prop}: ∀{xs:List V} {ds:List Dat} {kds:List (Key×Dat)},RepA K N H xs ds->zH0 ds=some kds-> ∃kvs:List (Key×V),PrKV K H xs kvs/\kvs.map Ca=kds.map Ca/\RepA K N H (kvs.map Cy) (kds.map Cy)
 | _,_,_,.nil,h => by cases h;exact ⟨[],trivial,rfl,.nil⟩
 | _,_,kds,@RepA.cons _ _ _ v vs d ds h t,e => by
  have e : (kprD d).bind (fun p => (zH0 ds).map fun ps => p :: ps) = some kds := e
  cases h1:kprD d with
  | none => rw [h1] at e;cases e
  |some p=>
   rw[h1] at e
   have e:(zH0 ds).map (fun ps=>p::ps)=some kds:=e
   cases h2:zH0 ds with
   | none => rw [h2] at e;cases e
   |some qs=>
    rw[h2] at e
    cases e
    obtain⟨kvs,r1,r2,r3⟩:=zMY t h2
    obtain⟨k,rfl,hk⟩:=zXJ h1
    cases h with
    |tup sq r=>
     cases r with
     |cons w1 r=>
      cases r with
      |cons w2 r=>
       cases r
       have ek:=w1.key hk
       subst ek
       exact⟨(p.1,_)::kvs,⟨⟨_,rfl,sq⟩,r1⟩,by simp[r2],.cons w2 r3⟩
theorem PrKV.prK(I:Inv X a6 σ H s): ∀{xs:List V} {us:List Value} {kvs:List (Key×V)},PrKV X.K H xs kvs->Vals xs us-> ∃ps:List (Key×Value),KV kvs ps/\PrK X.prog X.w s.heap us ps
 | [],_,[],_,.nil => ⟨[],.nil,trivial⟩
 | _ :: _,_,p :: _,⟨⟨b,e,q⟩,r⟩,.cons h t => by
  subst e
  cases h
  obtain⟨ps,r1,r2⟩:=PrKV.prK I r t
  obtain⟨its,rv,ht,_⟩:=I.tuple q
  cases rv with
  |cons w1 rv=>
   cases rv with
   |cons w2 rv=>
    cases rv
    exact⟨(p.1,_)::ps,.cons ⟨rfl,w2⟩ r1,⟨b,_,rfl,ht,zO3 w1⟩,r2⟩
 |[],_,_::_,h,_=>h.elim
 |_::_,_,[],h,_=>h.elim
theorem PrKV.len: ∀{xs:List V} {ps:List (Key×V)},PrKV K H xs ps->xs.length=ps.length
 |[],[],_=>rfl
 |_::_,_::_,r=>by simp[PrKV.len r.2]
 |[],_::_,r=>r.elim
 |_::_,[],r=>r.elim
def zUU(K:A8):RC:=fun xs H Q=> ∃(p:Addr) (ys:List V) (kvs:List (Key×V)),xs=[.ref p]/\SqL K H p ys/\PrKV K H ys kvs/\(kvs.map Ca).Nodup/\ ∀l:Addr,H l=none->Q (.ref l) (upd H l (.dK kvs))
theorem yC3(h:X.K=K)(hc:X.calm=true):zBY X (.type "dict") (zUU K):=by
 subst h
 intro a6 s σ H xs us Q I r h
 obtain⟨p,ys,kvs,rfl,hq,hp,nd,q⟩:=h
 obtain⟨u,rfl,rx⟩:=zHI r
 cases rx
 obtain⟨its,rv,pl,hz⟩:=I.list hq
 have aa:=rv.length
 have hpl:=hp.len
 obtain⟨ps,r1,r2⟩:=hp.prK I rv
 refine zO7 (I.ok.hd hc) pl (by omega) r2 fun g tk hd kept=> ?_
 have hm:zK5 [] kvs=kvs:=zK4 (acc:=[]) (by simpa using nd)
 have rel:=KV.merge r1 (kvs:=[]) (vs:=[]) .nil
 rw[hm] at rel
 exact⟨.ref s.heap.objs.size,_,I.laid (a:=s.heap.objs.size) (o:= .dK kvs) (t':=tk) kept (Af _) (zVJ (by omega) (beq_eq_false_iff_ne.mpr (Cc (Aq I.big))) rel hd),rfl,q _ (I.hok.fresh (Af _))⟩
noncomputable def zTN:Dat->Option Dat
 | .lst ds=>(zH0 ds).bind fun kds=>if(kds.map Ca).Nodup then some (.dct (kds.map Ca) (kds.map Cy)) else none
 |_=>none
def CalD(K:A8)(r:RC)(o:Dat->Option Dat):Prop:= ∀(H:Hp) (N M:Addr->Prop) (x:V) (d c:Dat) (Q:VK),Rep K N H M x d->o d=some c→
 (∀p (kvs:List (Key×V)) ds,H p=none->RepA K N H (kvs.map Cy) ds->c= .dct (kvs.map Ca) ds->Q (.ref p) (upd H p (.dK kvs)))->r [x] H Q
theorem zXC:CalD K (zUU K) zTN:=by
 intro H N M x d c Q hx h k
 cases d with
 |lst ds=>
  have h:((zH0 ds).bind fun kds=>if(kds.map Ca).Nodup then some (Dat.dct (kds.map Ca) (kds.map Cy)) else none)=some c:=h
  cases h1:zH0 ds with
  | none => rw [h1] at h;cases h
  |some kds=>
   rw[h1] at h
   have h:(if(kds.map Ca).Nodup then some (Dat.dct (kds.map Ca) (kds.map Cy)) else none)=some c:=h
   split at h
   ·rename_i nd
    cases h
    obtain⟨a,xs,rfl,sq,r⟩:=hx.lstE
    obtain⟨kvs,r1,r2,r3⟩:=zMY r h1
    exact⟨a,xs,kvs,rfl,sq,r1,by rw[r2];exact nd,fun l hl'=>k l kvs _ hl' r3 (by rw[r2])⟩
   ·cases h
 |_=>cases h
theorem mkDK{B:Bs}{O:Nat->Option Addr}{H1:Hp}{δ':Ev}{p:Addr}{pu:Bool}{kvs:List (Key×V)}{ds:List Dat}(S:Sta K ml B O H1 σ δ')(f:Fr (OA O) H H1)(s:pu=true->Same H H1)(hp:H1 p=none)(r:RepA K (Nn B O) H1 (kvs.map Cy) ds):ResN K ml B O H σ pu (upd H1 p (.dK kvs)) δ' p (.dct (kvs.map Ca) ds):=
 ⟨S.laid hp,f.trans (zA5 hp).fr,fun z=>(s z).trans (zA5 hp),.dct zAG ((r.away hp _ _ zDU).same (zA5 hp)),S.new hp,S.fresh hp⟩
theorem zON(hK:X.K=K)(hc:X.calm=true)(hg:Gl X "dict") (hm:X.mg "dict"=none) (hv:Ar "dict"=some (.type "dict")) (ha:PE X a (TV K ml pa ta true fa)) (hn:("dict":Str)≠ "__name__":=by decide) (hdb:(("dict":Str)==("__debug__":Str))=false:=by decide)
  (he:starEach (a::[]) X.env=(false,eval a X.env)::starEach [] X.env:=by rfl):PE X (.Call (.Name "dict" p') [a] [] pos) (TN K ml pa (f1 zTN fa)):=
 (zD8 (yC3 hK hc) hg hm hv (zAQ ha zBT he) hn hdb he).imp fun σ H Q h => by
  obtain⟨B,O,δ,d,δ',S,q,k⟩:=h
  obtain⟨x,h1,h2⟩:=zKM q
  refine⟨B,O,δ,x,δ',S,h1,fun v1 H1 R1=>zXC H1 _ _ v1 x d Q R1.rep h2 fun p kvs ds hp hr he=> ?_⟩
  subst he
  exact k p _ (mkDK R1.sta R1.frm R1.pur hp hr)
section
variable{X:Cx}{K:A8}{ml:List Nat}{e a b c:Expr}{es:List Expr}{pa ta ia pb tb ib pc tc ic pu bt bi ps bs:Bool}{fa fb fc f:VF}{B B':Bs}{O:Nat->Option Addr}{H H1 H':Hp}{σ:St}{δ δ':Ev}{v:V}{d:Dat}{p:Addr}{pos:Pos}
noncomputable def lstD(i:Nat)(F:VFun):VFun:=fun ds=>(ds[i]?).bind fun x=>(seqD x).bind fun es=>(F (ds.take i++[.lst es])).map fun q=>(q.1,q.2.dropLast)
theorem zW4{mF:List Nat}{i:Nat}{F:VFun}{vs1:List V}{Q:VK}{E:XK}(hm: ∀j∈mF,j<i)(h:spV K mF (i+1) (lstD i F) (vs1++[v]) H Q E):zML K [v] H (fun u H2=>spV K (mF++[i]) (i+1) F (vs1++[u]) H2 Q E):=by
 obtain⟨Z,ds,r,os,hl,A,hF,k⟩:=h
 obtain⟨ds1,d,rfl⟩: ∃ds1 d,ds=ds1++[d]:=⟨ds.dropLast,ds.getLast (fun z=>by rw[z] at hl;cases hl),(Fv _).symm⟩
 have hd1:ds1.length=i:=by simpa using hl
 have hv1:vs1.length=i:=by have:=A.len;simp at this;omega
 have at3:(vs1++[v])[i]? =some v:=by rw[Ap (by omega),hv1,Io];rfl
 have dt3:(ds1++[d])[i]? =some d:=by rw[Ap (by omega),hd1,Io];rfl
 unfold lstD at hF
 rw[dt3,A7,List.take_left' hd1] at hF
 cases hs:seqD d with
 | none => rw [hs] at hF;cases hF
 |some es=>
 rw[hs,A7] at hF
 cases h0:F (ds1++[.lst es]) with
 | none => rw [h0] at hF;cases hF
 |some z=>
  obtain⟨r',os0⟩:=z
  rw[h0] at hF
  cases hF
  obtain⟨u0,e0,nu⟩:=A.va i d (fun z=>absurd (hm i z) (Bj _)) dt3
  rw[at3] at e0
  cases e0
  obtain⟨a0,xs,rfl,sq,rA⟩:=nu.seq hs
  refine⟨a0,xs,rfl,sq,fun p hp=> ?_⟩
  have lo: ∀(j:Nat),j<i->(vs1++[.ref p])[j]? =(vs1++[V.ref a0])[j]? :=fun j hj=>by rw[A6 (by omega),A6 (by omega)]
  have at1:(vs1++[.ref p])[i]? =some (.ref p):=by rw[Ap (by omega),hv1,Io];rfl
  have dlo: ∀(j:Nat),j<i->(ds1++[.lst es])[j]? =(ds1++[d])[j]? :=fun j hj=>by rw[A6 (by omega),A6 (by omega)]
  have dt1:(ds1++[.lst es])[i]? =some (.lst es):=by rw[Ap (by omega),hd1,Io];rfl
  have hP: ∀a,argP (mF++[i]) (vs1++[.ref p]) a->argP mF (vs1++[.ref a0]) a∨a=p:=fun a q0=>by
   obtain⟨j,hj,e⟩:=q0
   rcases Aw.mp hj with hj|hj
   ·exact .inl ⟨j,hj,by rw [<- lo j (hm j hj)];exact e⟩
   ·rw[Ah.mp hj,at1] at e
    cases e
    exact .inr rfl
  have hP': ∀a,argP mF (vs1++[.ref a0]) a->argP (mF++[i]) (vs1++[.ref p]) a:=fun a ⟨j,hj,e⟩=>⟨j,Az _ hj,by rw[lo j (hm j hj)];exact e⟩
  have hZ: ∀a,Zp Z (mF++[i]) (vs1++[.ref p]) a->Zp Z mF (vs1++[.ref a0]) a∨a=p:=fun a h=>by
   rcases h with h|h
   ·exact .inl (.inl h)
   ·exact(hP a h).imp .inr id
  have hZ': ∀a,Zp Z mF (vs1++[.ref a0]) a->Zp Z (mF++[i]) (vs1++[.ref p]) a:=fun a h=>h.imp id (hP' a)
  have up: ∀{u:V} {x:Dat},Rep K (Zp Z mF (vs1++[.ref a0])) H (Zp Z mF (vs1++[.ref a0])) u x->Rep K (Zp Z (mF++[i]) (vs1++[.ref p])) (upd H p (.lst xs)) (Zp Z (mF++[i]) (vs1++[.ref p])) u x:=fun r=>(r.away hp _ _ hZ hZ).same (zA5 hp)
  have nop: ∀{j:Nat},j∈mF->(vs1++[V.ref a0])[j]? ≠some (.ref p):=fun{j} hj e=>by
   have hj':=A.mem j hj
   obtain⟨a,e1,w,_⟩:=A.ow j ((ds1++[d])[j]'hj') hj (by simp)
   rw[e] at e1
   cases e1
   obtain⟨o,q,_⟩:=w.soft
   rw[hp] at q
   cases q
  refine⟨Z,ds1++[.lst es],_,os0,by simp[hd1],⟨by simp;omega,fun j hj=> ?_,fun j x hj e=> ?_,fun j x hj e=> ?_,fun j1 j2 a h1 h2 e1 e2=> ?_,fun a h=>let ⟨o,q⟩:=A.zin a h;⟨o,zA5 hp _ _ q⟩⟩,h0,fun u H' f w rr=>k u H' (fun b o hb hc=>f b o (zA5 hp _ _ hb) fun z=> ?_) (fun kk j a o e1 e2 e3=> ?_) (rr.mono hZ' hZ')⟩
  ·rcases Aw.mp hj with hj|hj
   ·have:=hm j hj
    simp
    omega
   ·rw[Ah.mp hj]
    simp
    omega
  ·have hjm : j ∉ mF := fun z => hj (Az _ z)
   have hji:j≠i:=fun z=>hj (Ax _ (Ah.mpr z))
   have h1:j<i:=by
    have:=(A5.mp e).1
    simp at this
    omega
   rw[dlo j h1] at e
   obtain⟨u,e1,r1⟩:=A.va j x hjm e
   exact⟨u,by rw[lo j h1];exact e1,up r1⟩
  ·rcases Aw.mp hj with hj|hj
   ·rw[dlo j (hm j hj)] at e
    obtain⟨u,e1,w1,z1⟩:=A.ow j x hj e
    exact⟨u,by rw[lo j (hm j hj)];exact e1,w1.away hp hZ,z1⟩
   ·have:=Ah.mp hj
    subst this
    rw[dt1] at e
    cases e
    exact⟨p,at1,.lst zAG ((rA.away hp _ _ hZ).same (zA5 hp)),fun z=>by
     obtain⟨o,q⟩:=A.zin p z
     rw[hp] at q
     cases q⟩
  ·rcases Aw.mp h1 with h1|h1
   ·rw[lo j1 (hm j1 h1)] at e1
    rcases Aw.mp h2 with h2|h2
    ·rw[lo j2 (hm j2 h2)] at e2
     exact A.inj j1 j2 a h1 h2 e1 e2
    ·rw[Ah.mp h2,at1] at e2
     cases e2
     exact absurd e1 (nop h1)
   ·rcases Aw.mp h2 with h2|h2
    ·rw[lo j2 (hm j2 h2)] at e2
     rw[Ah.mp h1,at1] at e1
     cases e1
     exact absurd e2 (nop h2)
    ·rw[Ah.mp h1,Ah.mp h2]
  ·rcases hP b z with z|z
   ·exact hc z
   ·rw[z,hp] at hb
    cases hb
  ·refine(w kk j a o ?_ ?_ ?_).mono hZ'
   ·rw[A6 (A5.mp e1).1]
    exact e1
   ·rw[lo j (hm j (Cq e1))]
    exact e2
   ·rw[List.getElem?_dropLast] at e3
    split at e3
    ·exact e3
    ·cases e3
def TAGL(K:A8)(ml:List Nat)(pu:Bool)(f:VFg):TA:=fun σ H Q=> ∃B O δ as δ',Sta K ml B O H σ δ/\f δ=some (as,δ')/\ ∀vs H',ResG K ml B O H σ pu H' δ' vs as-> ∀vs1 v,vs=vs1++[v]->zML K [v] H' fun u H2=>Q (vs1++[u]) H2
theorem zVY{lp:Pos}{a8:Pos}(hK:X.K=K)(hg:Gl X "list") (hm:X.mg "list"=none) (hv:Ar "list"=some (.type "list")) (ha:PE X a (TV K ml pa true true fa)) (he:starEach (a::[]) X.env=(false,eval a X.env)::starEach [] X.env:=by rfl)
  (hs:starEach (.Call (.Name "list" lp) [a] [] a8::[]) X.env=(false,eval (.Call (.Name "list" lp) [a] [] a8) X.env)::starEach [] X.env:=by rfl):
  PA X [.Call (.Name "list" lp) [a] [] a8] (TAGL K ml pa (aE fa aNil)):=(zAQ (zD8 (zN1 hK) hg hm hv (zAQ ha zBT he) (by decide) (by decide) he) zBT hs).imp fun σ H Q ⟨B,O,δ,as,δ2,S,q,k⟩=>by
 unfold aE at q
 cases h1:fa δ with
 |none=>rw[h1] at q;cases q
 |some z=>
  obtain⟨x,δ1⟩:=z
  rw[h1] at q
  cases q
  exact⟨B,O,δ,x,δ1,S,h1,fun v1 H1 R1=>k [v1] H1 ⟨R1.sta,R1.frm,R1.pur,.d R1.rep .nil⟩ [] v1 rfl⟩
theorem yD0{fs:VFg}(ha:PE X a (TV K ml pa true true fa))(hr:PA X es (TAGL K ml ps fs))(hs:starEach (a::es) X.env=(false,eval a X.env)::starEach es X.env:=by rfl):PA X (a::es) (TAGL K ml (pa && ps) (aE fa fs)):=(zAQ ha hr hs).imp fun σ H Q q0=>by
 obtain⟨B,O,δ,as,δ2,S,q,k⟩:=q0
 unfold aE at q
 cases h1:fa δ with
 | none => rw [h1] at q;cases q
 |some p=>
  obtain⟨x,δ1⟩:=p
  rw[h1] at q
  have q:((fs δ1).map fun q=>(AV.d x::q.1,q.2))=some (as,δ2):=q
  cases h2:fs δ1 with
  |none=>rw[h2] at q;cases q
  |some p2=>
   rw[h2] at q
   cases q
   refine⟨B,O,δ,x,δ1,S,h1,fun v1 H1 R1=>⟨B,O,δ1,_,_,R1.sta,h2,fun vs H2 R2 vs1 v hv=>k (v1::vs) H2 ⟨R2.sta,R1.frm.trans R2.frm,fun z=> ?_,.d (R1.rep.fr R2.frm (fun a z=> .inr z) fun a z=> .inr z) R2.rep⟩ (v1::vs1) v (by rw[hv];rfl)⟩⟩
   obtain⟨z1,z2⟩:=(A3 _ _).mp z
   exact(R1.pur z1).trans (R2.pur z2)
theorem zSJ{x:Str}{kk j i:Nat}{qs:List Str}{mF:List Nat}{F:VFun}{ff:Addr}{p':Pos}{fs:VFg}(hK:X.K=K)(D:Def X.prog X.w K X.mg X.base x kk qs (spV K (mF++[i]) (i+1) F) ff)(hm: ∀j∈mF,j<i)(hr:Room j X.A)(hk:kk<=j)(hg:Gl X x)(ha:PA X (e::es) (TAGL K ml ps fs))(hdb:(x==("__debug__":Str))=false:=by decide)
  (he:starEach (e::es) X.env=(false,eval e X.env)::starEach es X.env:=by rfl) (hpl:(Cg pos (starEach es X.env)).any (·.1)=false:=by rfl):
  PE X (.Call (.Name x p') (e::es) [] pos) (TV K ml (ps && mF.isEmpty) true true (zAF (i+1) mF (lstD i F) fs)):=by
 subst hK
 refine(zMP D hr hk hg ha hdb he hpl).imp fun σ H Q h=> ?_
 obtain⟨B,O,δ,as,δ',S,q,k⟩:=zFF h
 refine⟨B,O,δ,as,δ',S,q,fun vs H' R vs1 v hv=> ?_⟩
 subst hv
 have z:spV X.K mF (i+1) (lstD i F) ((vs1++[v])++[]) H' Q E0:=k _ H' R
 rw[Bi] at z
 have y:=zW4 hm z
 simpa only[Bi] using y
end
end L2
namespace TS
open PySem PySem.W PyProof.Rows
section
variable{n:Nat}{ck:Nat->Nat->Bool}
theorem zO0:(Ao 64).all (fun n=>(sortPriv% PySem.Builtin.minRun) n n 0==n)=true:=by decide+kernel
theorem yDV{x:Pu}(h:Pm n x.p)(hp:x.pd= #[])(h64:n<64):X n ck (fun _=>sortRuns') x (fun(_:Unit) _=>()) (fun _ y=>Pm n y.p):=by
 refine X.go D.get ?_
 have esz: ∀e:En,(arrOf (stO e x)).size=n:=fun e=>by
  show(e.of x.p).size=n
  rw[yER,h.sz]
 have epd: ∀(e:En) (y:Pu),pendingOf (stO e y)=y.pd:=fun e y=>rfl
 have emr:(sortPriv% PySem.Builtin.minRun) n n 0=n:=beq_iff_eq.mp (Br.mp zO0 n (Be.mpr h64))
 simp only[esz]
 generalize (sortPriv% PySem.Builtin.minRun) n n 0=mr at emr
 subst emr
 refine X.bind (u:=fun(t:Nat) _=>(none,t)) (S:=fun t y=>Pm mr y.p/\y.pd.size<=1) ?_ ?_
 ·refine X.range (I := fun _ t y => Pm mr y.p /\ (t = 0 /\ y.pd = #[] ∨ mr <= t /\ y.pd.size <= 1)) (t := 0) (fun t y h => ⟨h.1,by
   rcases h.2 with q|q
   ·rw[q.2];decide
   ·exact q.2⟩) ⟨h,.inl ⟨rfl,hp⟩⟩ fun i _ _ k lo y hw=> ?_
  refine X.ite (fun _=>X.done lo ⟨hw.1,by
   rcases hw.2 with q|q
   ·rw[q.2];decide
   ·exact q.2⟩) fun q=> ?_
  dsimp only at q
  obtain⟨rfl,hpd⟩:lo=0/\y.pd= #[]:=by
   rcases hw.2 with h|h
   ·exact h
   ·omega
  refine X.bind (count hw.1 (by dsimp only;omega) (by dsimp only;omega)) ?_
  rintro m z ⟨m1,m2,hz⟩
  dsimp only at m2
  have ez:z.pd= #[]:=hz.2.trans hpd
  refine X.ite (fun _=>X.go D.rule (X.bind (bin hz.1 (by dsimp only;omega)) fun _ z2 hz2=>X.ite (fun hf=>absurd hf (by simp)) fun _=> ?_)) fun qm=> ?_
  ·have ez2:z2.pd= #[]:=hz2.2.trans ez
   refine X.go D.get ?_
   simp only[epd]
   rw[show z2.pd.back? =none by rw[ez2];rfl]
   exact X.go (D.modify (y:={z2 with pd:=z2.pd.push (0,(min (mr - 0) mr),0)}) fun e=>rfl) (X.yield (0+(min (mr - 0) mr)) ⟨hz2.1,.inr ⟨by omega,by rw[ez2];exact Af 1⟩⟩)
  ·refine X.go D.get ?_
   simp only[epd]
   rw[show z.pd.back? =none by rw[ez];rfl]
   exact X.go (D.modify (y:={z with pd:=z.pd.push (0,m,0)}) fun e=>rfl) (X.yield (0+m) ⟨hz.1,.inr ⟨by omega,by rw[ez];exact Af 1⟩⟩)
 ·intro lo y hw
  refine X.bind (u:=fun(_:Unit) _=>(none,())) (S:=fun _ y=>Pm mr y.p) ?_ fun _ y h=>X.ret () h
  refine X.range (I:=fun _ _ y=>Pm mr y.p/\y.pd.size<=1) (t:=()) (fun t y h=>h.1) hw fun i _ _ k _ y hw=> ?_
  refine X.go D.get ?_
  simp only[epd]
  refine X.ite (fun _=>X.done () hw.1) fun q=> ?_
  exact absurd hw.2 (by omega)
theorem zJR(n:Nat)(ck:Nat->Nat->Bool)(h64:n<64): ∃y:Pu,Pm n y.p/\D n ck (fun _=>sortRuns') (xS n) (fun _=>()) y:=by
 obtain⟨t,y,h,d⟩:=yDV (n:=n) (ck:=ck) (x:=xS n) (Pm.id n) rfl h64
 exact⟨y,h,d⟩
noncomputable def srt0(n:Nat)(ck:Nat->Nat->Bool):List Nat:=if h:2<=n/\n<64 then(zJR n ck h.2).choose.p.toList else Ao n
theorem zJG(n:Nat)(ck:Nat->Nat->Bool):(srt0 n ck).Perm (Ao n):=by
 unfold srt0
 split
 ·rename_i h
  exact(zJR n ck h.2).choose_spec.1
 ·exact .refl _
end
section
variable{prog:Aj}{w:World}{A:B8}{E:Value->A2->Prop}{s:A2}
theorem zNL{a:Addr}{vs:List Value}{nn:Nat}{κ:Kz}{ck:Nat->Nat->Bool}{P:PySem.Fin->A2->Prop}(ho:s.heap.get? a=some (Ej "list" vs.toArray nn)) (hz:vs.length<=sizeLine) (h64:vs.length<64)
  (hk:2<=vs.length-> ∀h':Heap,(∀b o,b≠a->s.heap.get? b=some o->h'.get? b=some o)-> ∀Q':Kz->A2->Prop,Q' κ {s with heap:=h'}->wpAny (model prog w) A (keyKind' vs.toArray) Q' E {s with heap:=h'})
  (hc : ∀ h' : Heap,(∀ b o,b ≠ a -> s.heap.get? b = some o -> h'.get? b = some o) -> ∀ i j,i < vs.length -> j < vs.length -> ∀ C : Bool -> A2 -> Prop,C (ck i j) { s with heap := h' } -> wpAny (model prog w) A (keyLt' κ (vs.getD i Value.none) (vs.getD j Value.none)) C (fun _ _ => False) { s with heap := h' })
  (h : P (.done (.ret .none)) { s with heap := sortedHeap s.heap a vs ((srt0 vs.length ck).map fun i => vs.getD i Value.none).toArray }) :
  wpAny (model prog w) A (D3.«list.sort» ⟨[.ref a],[]⟩) P E s:=by
 have lt:=Ae ho
 have hsz:vs.toArray.size=vs.length:=by simp
 obtain⟨e1,ho1⟩: ∃k,(s.heap.update a (Cu fun _=> #[])).get? a=some (Ej "list" #[] k):=⟨_,get?_update_seq ho (fun _=> #[])⟩
 have keep: ∀b o,b≠a->s.heap.get? b=some o->(((s.heap.update a (Cu fun _=> #[])).push (Ej "tuple" vs.toArray 0)).push (Ej "list" #[] 0)).get? b=some o:=fun b o hb hbo=>
  A1 _ (A1 _ (by rw[Jg _ _ _ _ hb];exact hbo))
 have ho6:(((s.heap.update a (Cu fun _=> #[])).push (Ej "tuple" vs.toArray 0)).push (Ej "list" #[] 0)).get? a=some (Ej "list" #[] e1):=A1 _ (A1 _ ho1)
 have q8: ∀l:List Value,l.length=vs.length->l.toArray.size<=sizeLine+1:=fun l hl=>by rw[Ad];omega
 rw[list_sort_plain]
 refine(A0 (listItems_at ho rfl ?_))
 refine(A0 (Jq ho rfl ?_ (by rw[Ad];omega) (Cv _)))
 refine(A0 (Lp ho1 rfl ?_))
 refine(A0 (wpAny_newTuple ?_ (by show vs.length<=_;exact hz)))
 refine(A0 (wpAny_newList (B7 ?_) (Cv _)))
 ·show (wpAny (model prog w) A _ P E { s with heap := (((s.heap.update a (Cu fun _ => #[])).push (Ej "tuple" vs.toArray 0)).push (Ej "list" #[] 0)) })
  dsimp only
  have aa:((srt0 vs.length ck).map fun i=>vs.getD i Value.none).length=vs.length:=by rw[Bo,(zJG _ _).length_eq,F9]
  by_cases h2:vs.toArray.size<2
  ·have he : ((srt0 vs.length ck).map fun i => vs.getD i Value.none) = vs := by
    unfold srt0
    rw[dif_neg (by omega)]
    exact zPO vs
   rw[he] at h
   rw[if_pos h2,if_pos h2]
   refine(A0 (A9 ?_))
   rw[StateT.run_pure]
   refine(A0 (A9 ?_))
   dsimp only
   have hm:(vs.toArray.zip vs.toArray).map (·.2)=vs.toArray:=by
    apply Kt.mp
    simp
    exact List.map_snd_zip (Af _)
   rw[hm]
   refine(A0 (Lp ho6 rfl (A0 (Jq ho6 rfl ?_ (hsz2:=by rw[Ad];omega)))))
   simp only[bne_self_eq_false,Di,if_false]
   exact A9 h
  ·rw[if_neg h2,if_neg h2]
   refine(A0 (hk (by omega) _ keep _ ?_))
   have n2:2<=vs.length:=by omega
   have spec:=(zJR vs.length ck h64).choose_spec
   have mm:srt0 vs.length ck=(zJR vs.length ck h64).choose.p.toList:=by unfold srt0;rw[dif_pos ⟨n2,h64⟩]
   generalize (zJR vs.length ck h64).choose=y at spec mm
   let e:En:=⟨prog,w,A,{s with heap:=(((s.heap.update a (Cu fun _=> #[])).push (Ej "tuple" vs.toArray 0)).push (Ej "list" #[] 0))},κ,K7 vs⟩
   have eok:e.Ok vs.length ck:=fun i j hi hj C q=>by
    show wpAny (model prog w) A (keyLt' κ (Hk (K7 vs) i).1 (Hk (K7 vs) j).1) C _ _
    rw[Lq,Lq]
    exact hc _ keep i j hi hj C q
   have est:Ha κ (vs.toArray.zip vs.toArray) #[] 7 none=stO e (xS vs.length):=by
    have q:=kas_range (K7 vs)
    rw[pairsOf_size] at q
    show Ha κ (K7 vs) #[] 7 none=Ha κ ((List.toArray (Ao vs.length)).map (Hk (K7 vs))) #[] 7 none
    rw[q]
   rw[est]
   have om:(e.of y.p).map (·.2)=((srt0 vs.length ck).map fun i=>vs.getD i Value.none).toArray:=by
    apply Kt.mp
    rw[mm,Array.map_map,Array.toList_map]
    exact G7 fun i _=>by show(Hk (K7 vs) i).2=_;rw[Lq]
   have run:=spec.2 e eok E (fun _ st' s'=>st'=stO e y/\s'=e.s) ⟨rfl,rfl⟩
   refine(A0 (Ba run ?_ fun _ _ x=>x))
   rintro ⟨⟨⟩,st'⟩ s' ⟨rfl,rfl⟩
   show(wpAny (model prog w) A _ P E {s with heap:=(((s.heap.update a (Cu fun _=> #[])).push (Ej "tuple" vs.toArray 0)).push (Ej "list" #[] 0))})
   dsimp only
   rw[show(arrOf (stO e y))=e.of y.p from rfl,om]
   refine(A0 (Lp ho6 rfl (A0 (Jq ho6 rfl ?_ (hsz2:=by rw[Ad];omega)))))
   rw[show failedOf (stO e y)=none from rfl]
   simp only[bne_self_eq_false,Di,if_false]
   exact A9 h
theorem zJH{l:Addr}{vs:List Value}{κ:Kz}{ck:Nat->Nat->Bool}{Q:Value->A2->Prop}(hl:s.heap.IsList l vs.toArray)(hz:vs.length<=sizeLine)(h64:vs.length<64)
  (hk:2<=vs.length-> ∀(A:B8) (E:Value->A2->Prop) (h':Heap),(∀b o,s.heap.get? b=some o->h'.get? b=some o)-> ∀Q':Kz->A2->Prop,Q' κ {s with heap:=h'}->wpAny (model prog w) A (keyKind' vs.toArray) Q' E {s with heap:=h'})
  (hc: ∀(A:B8) (h':Heap),(∀b o,s.heap.get? b=some o->h'.get? b=some o)-> ∀i j,i<vs.length->j<vs.length-> ∀C:Bool->A2->Prop,C (ck i j) {s with heap:=h'}->wpAny (model prog w) A (keyLt' κ (vs.getD i Value.none) (vs.getD j Value.none)) C (fun _ _=>False) {s with heap:=h'})
  (h:Q (.ref (s.heap.objs.size+1)) {s with heap:=sortedAll s.heap vs ((srt0 vs.length ck).map fun i=>vs.getD i Value.none).toArray}):
  wpAny (model prog w) A (call (.builtin "sorted") [.ref l]) Q E s:=by
 refine(Calls.call_function_entry kind_sorted plain_sorted entry_sorted (args_sorted1 _) ?_)
 unfold D3.«sorted»
 refine(A0 (m:=checkCount "sorted" 1 1 _) (A9 (A0 (collect_list hl (A0 (wpAny_newList ?_ (by exact hz))) hz))))
 have hs1:((s.heap.push (Ej "list" #[] 0)).update s.heap.objs.size (Cu (· ++vs.toArray))).objs.size=s.heap.objs.size+1:=by rw[Heap.size_update,size_push']
 have hoL:(((s.heap.push (Ej "list" #[] 0)).update s.heap.objs.size (Cu (· ++vs.toArray))).push (Ej "list" vs.toArray 0)).get? (s.heap.objs.size+1)=some (Ej "list" vs.toArray 0):=by rw[<- hs1];exact Ai _ rfl
 have keep: ∀b o,s.heap.get? b=some o->(((s.heap.push (Ej "list" #[] 0)).update s.heap.objs.size (Cu (· ++vs.toArray))).push (Ej "list" vs.toArray 0)).get? b=some o/\b≠s.heap.objs.size+1:=fun b o q=>by
  have hlt:b<s.heap.objs.size:=Ae q
  refine⟨?_,Aq (K8 hlt)⟩
  rw[Fa _ _ _ (by rw[hs1];exact(Aq (K8 hlt))),Jg _ _ _ _ (Aq hlt),Fa _ _ _ (Aq hlt)]
  exact q
 show(wpAny _ _ _ _ _ {s with heap:=((s.heap.push (Ej "list" #[] 0)).update s.heap.objs.size (Cu (· ++vs.toArray))).push (Ej "list" vs.toArray 0)})
 rw[hs1]
 refine(A0 (B7 (Cr slot_list_sort ⟨_,hoL,rfl⟩ entry_list_sort (zNL (κ:=κ) (ck:=ck) hoL hz h64 (fun n2 h' k'=>hk n2 _ _ h' fun b o q=>k' b o (keep b o q).2 (keep b o q).1) (fun h' k'=>hc _ h' fun b o q=>k' b o (keep b o q).2 (keep b o q).1) ⟨_,rfl,?_⟩) (args_list_sort _))))
 exact(A9 ⟨_,rfl,h⟩)
theorem zI9{l:Addr}{vs:List Value}{ps:List (Int×Int)}{Q:Value->A2->Prop}(hl:s.heap.IsList l vs.toArray)(hz:vs.length<=sizeLine)(h64:vs.length<64)(hp:PrI s.heap vs ps)
  (h:Q (.ref (s.heap.objs.size+1)) {s with heap:=sortedAll s.heap vs ((srt0 vs.length (ckP ps)).map fun i=>vs.getD i Value.none).toArray}):
  wpAny (model prog w) A (call (.builtin "sorted") [.ref l]) Q E s:=by
 refine zJH (κ:=tuples' true) hl hz h64 (fun n2 A E h' k' Q' q=> ?_) (fun A h' k' i j hi hj C q=> ?_) h
 ·obtain⟨fs,h1,h2,h3⟩:=(hp.keep k').tups
  refine kat_kind (s:={s with heap:=h'}) (T:= .type "int") h1 (by omega) (fun v hv=> ?_) (by decide) q
  obtain⟨i,t,rfl⟩:=h3 v hv
  exact Looks.now
 ·obtain⟨a,t,u,e1,t1⟩:=(hp.keep k').at hi
  obtain⟨b,t',u',e2,t2⟩:=(hp.keep k').at hj
  rw[e1,e2]
  exact zTT (s:={s with heap:=h'}) t1 t2 q
end
end TS
namespace L2
open PySem PySem.Spec PyProof.Rows
variable{X:Cx}{K:A8}
noncomputable def srtS(ps:List (Int×Int)):List Nat:=TS.srt0 ps.length (TS.ckP ps)
theorem zEW(ps:List (Int×Int)):(srtS ps).Perm (Ao ps.length):=TS.zJG _ _
def zUS(K:A8):RC:=fun xs H Q=> ∃(p:Addr) (ys:List V) (ps:List (Int×Int)),xs=[.ref p]/\SqL K H p ys/\ys.length<64/\PrV K H ys ps/\ ∀l:Addr,H l=none->Q (.ref l) (upd H l (.lst ((srtS ps).map fun i=>ys.getD i .non)))
theorem yC1(h:X.K=K):zBY X (.builtin "sorted") (zUS K):=by
 subst h
 intro a6 s σ H xs us Q I r h
 obtain⟨p,ys,ps,rfl,hq,h64,hp,q⟩:=h
 obtain⟨u,rfl,rx⟩:=zHI r
 cases rx
 obtain⟨its,rv,pl,hz⟩:=I.list hq
 have aa:=rv.length
 have hpl:=hp.len
 have hn:H (s.heap.objs.size+1)=none:=I.hok.fresh (Fb _)
 refine TS.zI9 pl.isList (by omega) (by omega) (hp.prI I rv) ?_
 rw[show its.length=ps.length by omega]
 obtain⟨e,he⟩:=sortedAll_at s.heap its ((TS.srt0 ps.length (TS.ckP ps)).map fun i=>its.getD i Value.none).toArray
 refine⟨.ref (s.heap.objs.size+1),_,I.laid (a:=s.heap.objs.size+1) (o:= .lst ((srtS ps).map fun i=>ys.getD i .non)) (t':=s.toks) (fun b o=>sortedAll_old) (Fb _) ?_,rfl,q _ hn⟩
 refine⟨by rw[Bo,(zEW ps).length_eq,F9];omega,(srtS ps).map fun i=>its.getD i Value.none,e,zJ9 rv _ fun i hi=> ?_,?_⟩
 ·have:=Be.mp ((zEW ps).mem_iff.mp hi)
  omega
 ·rw[he]
  rfl
noncomputable def zQH:Dat->Option Dat
 | .lst ds=>if ds.length<64 then(prsD ds).bind fun ps=>some (.lst ((srtS ps).map fun i=>ds.getD i .non)) else none
 |_=>none
theorem zXB:CalN K (zUS K) zQH:=by
 intro H N M x d c Q hx h k
 cases d with
 |lst ds=>
  have h:(if ds.length<64 then(prsD ds).bind fun ps=>some (Dat.lst ((srtS ps).map fun i=>ds.getD i .non)) else none)=some c:=h
  split at h
  ·rename_i h64
   cases h1:prsD ds with
   |none=>rw[h1] at h;cases h
   |some ps=>
    rw[h1] at h
    cases h
    obtain⟨a,xs,rfl,sq,r⟩:=hx.lstE
    exact⟨a,xs,ps,rfl,sq,by rw[r.length];exact h64,zPZ r h1,fun l hl'=>k l _ _ hl' (zJU r _) rfl⟩
  ·cases h
 |_=>cases h
theorem zC6.alive{P:Aj}{w:World}{H:Hp}{h:Heap}{a:Addr}{o:HO}(x:zC6 P w H h a o): ∃u,h.get? a=some u:=by
 cases o with
 |lst xs=>obtain⟨_,_,_,_,e⟩:=x;exact⟨_,e⟩
 |tup xs=>obtain⟨_,_,_,ob,e,_⟩:=x;exact⟨_,e⟩
 |dK kvs=>obtain⟨_,_,_,_,o,_,_,e,_⟩:=x;exact⟨_,e⟩
 |dT kvs=>obtain⟨_,_,_,_,o,_,_,e,_⟩:=x;exact⟨_,e⟩
 |set S n=>obtain⟨o,_,_,_,e,_⟩:=x;exact⟨_,e⟩
 |ins C dx fs=>obtain⟨_,_,_,e,_⟩:=x;exact⟨_,e⟩
 |own y=>exact x
 |xd fs=>obtain⟨_,⟨_,_,_,e,_⟩,_⟩:=x;exact⟨_,e⟩
 |rng lo hi=>obtain⟨_,_,_,e⟩:=x;exact⟨_,e⟩
 |frz ob u=>obtain⟨e,_⟩:=x;exact⟨_,e⟩
 |tbl ps=>exact⟨_,(show h.get? a=some _ from x)⟩
 |met f y=>exact⟨_,(show h.get? a=some _ from x)⟩
 |ext φ=>exact x.2.1
structure XA(K:A8)(C:Addr):Prop where
 mro:W.mroIn K C (.type "object")=some true
 cls:Kx K (.ref C) "__class__"=some (some (.builtin "object.__class__"))
 get:W.specialIn K (.builtin "object.__class__") "__get__"=some (some (.builtin "getset_descriptor.__get__"))
 tak:W.takesIn K (.builtin "object.__class__")=some true
 ga:Kx K (.ref C) "__getattribute__"=some (some (.builtin "BaseException.__getattribute__"))
 no:Kx K (.ref C) "__getattr__"=some none
 sub:W.subIn K (.ref C) (.type "BaseException")=some true
structure XP(K:A8)(C Cp:Addr):Prop where
 at_:E4 K mainGlobals "PackError"=some (some (.ref Cp))
 ty:W.typeIn K (.ref Cp)=some (.type "type")
 cls:(My K Cp).isSome=true
 base:W.subIn K (.ref Cp) (.type "BaseException")=some true
 sub:W.subIn K (.ref C) (.ref Cp)=some true
noncomputable abbrev vbs:List Value:=[.type "ValueError",.type "Exception",.type "BaseException",.type "object"]
structure XC(K:A8)(x:Str)(C:Addr):Prop where
 at_:E4 K mainGlobals x=some (some (.ref C))
 exc:W.excIn K C vbs "ValueError.__new__"=true
 att:XA K C
 cls:(My K C).isSome=true
 pk: ∃Cp,XP K C Cp
def ExcF(l:List Env)(g:Heap)(H:Hp)(C:Addr)(e:Value)(h:Heap):Prop:=
 ∃a a0 B,e= .ref a/\Ip B l a (.ref C) a0 h/\(∀b o,g.get? b=some o->b∉frs l-> ∃o',h.get? b=some o'/\B.get? b=some o')/\ ∀b u,H b=some u-> ∃o,h.get? b=some o/\B.get? b=some o
def CXv(P:Aj)(w:World):CXT:=fun outer H s E e s'=> ∃C H1,s'.os=s.os/\Hc s'.gens/\Un (frs outer) [] H H1 s.heap s'.heap/\HOk P w H1 s'.heap/\ExcF outer s.heap H1 C e s'.heap/\E (.ref C) none H1
theorem zR5{P:Aj}{w:World}{H:Hp}{h h' B:Heap}(ok:HOk P w H h)(st:B.StaysIn h')(c2: ∀b u,H b=some u-> ∃o,h.get? b=some o/\B.get? b=some o):HOk P w H h':=fun b u e=>
 (ok b u e).stay (fun c v hc q => by
  have: ∃u,H c=some u:=by
   rcases hc with rfl|hc
   ·exact⟨u,e⟩
   ·exact⟨_,hc⟩
  obtain⟨u',e'⟩:=this
  obtain⟨o,e1,e2⟩:=c2 c u' e'
  rw[q] at e1
  cases e1
  exact st c v e2) (fun _ q=>q) fun _ _ q=>q
section
variable{X:Cx}{a6:List (Addr×Obj)}{σ:St}{H H1:Hp}{s s':A2}{g h' B:Heap}{C a:Addr}{a0:Value}
theorem Inv.fly(I:Inv X a6 σ H s)(st:B.StaysIn h')(up:s.heap.UpToSlots h')(c1: ∀b o,X.s₀.heap.get? b=some o->b∉frs X.stack-> ∃o',s.heap.get? b=some o'/\B.get? b=some o')
  (cp: ∀p∈X.pn++a6,B.get? p.1=some p.2) (c2: ∀b u,H b=some u-> ∃o,s.heap.get? b=some o/\B.get? b=some o):Inv X a6 σ H {s with heap:=h'}:=by
 have neL: ∀b o,X.s₀.heap.get? b=some o->b≠X.env.locals:=fun b o e=>Aq (Al (Ae e) I.ok.above)
 have out: ∀b o,X.s₀.heap.get? b=some o->b∉X.fs->b∉frs X.stack:=fun b o e hb z=>(Ac.mp (I.stkSub b z)).elim (neL b o e) hb
 have de: ∀b∈X.fs,∀o,s.heap.get? b=some o-> ∃sl,h'.get? b=some {o with slots:=sl}:=fun b hb o e=>by
  obtain⟨_,o',e',nf⟩:=I.funs.mem hb
  rw[e] at e'
  cases e'
  exact up b o e nf
 have dq: ∀x c,X.env.cells.lookup x=some c-> ∀v,s.heap.IsCell c v->h'.IsCell c v:=fun x c _ v q0=>by
  obtain⟨o,ho,hd⟩:=q0
  obtain⟨sl,e⟩:=up c o ho fun vs q=>by rw[hd] at q;cases q
  exact⟨_,e,hd⟩
 refine⟨I.ok,I.os,I.bare,⟨fun b o e n hb hx=> ?_,fun b o e n hb hx=> ?_,I.base.free,fun b o e hx=> ?_,I.base.tups,I.base.frzs,I.base.tbls⟩,?_,fun x c e=> ?_,I.free,I.freeC,fun p hp=> ?_,zR5 I.hok st c2,I.len⟩
 ·obtain⟨o',e1,e2⟩:=c1 b o e (out b o e hb)
  rw[I.base.keep b o e n hb hx] at e1
  cases e1
  exact st b o e2
 ·obtain⟨sl,e1⟩:=I.base.slot b o e n hb hx
  obtain⟨sl',e2⟩:=de b hb _ e1
  exact⟨sl',e2⟩
 ·by_cases hb:b∈X.fs
  ·obtain⟨o',e1⟩:=I.base.there b o e hx
   obtain⟨sl',e2⟩:=de b hb _ e1
   exact⟨_,e2⟩
  ·obtain⟨o',e1,e2⟩:=c1 b o e (out b o e hb)
   exact⟨o',st b o' e2⟩
 ·obtain⟨m,hn,hl⟩:=I.loc
  refine⟨m,up.ns hn,fun i x v e1 e2 e3=> ?_⟩
  obtain⟨u,r,l⟩:=hl i x v e1 e2 e3
  refine⟨u,r,?_⟩
  rcases l with l|⟨k,c,e,z⟩
  ·exact .inl l
  ·exact .inr ⟨k,c,e,dq x c e _ z⟩
 ·obtain⟨v,z⟩:=I.cell x c e
  exact⟨v,dq x c e v z⟩
 ·obtain⟨e,n,ne,nf,d⟩:=I.pin p hp
  exact⟨st _ _ (cp p hp),n,ne,nf,d⟩
structure Low(X:Cx)(a6:List (Addr×Obj))(g:Heap):Prop where
 s0: ∀b o,X.s₀.heap.get? b=some o->b∉frs X.stack-> ∃o',g.get? b=some o'
 pin: ∀p∈X.pn++a6,∃o,g.get? p.1=some o
theorem Inv.low(I:Inv X a6 σ H s)(hx:X.ex=[]):Low X a6 s.heap:=
 ⟨fun b o e _=>I.base.there b o e (by rw[hx];simp),fun p hp=>⟨_,(I.pin p hp).1⟩⟩
theorem Inv.flyG(I:Inv X a6 σ H s)(lo:Low X a6 g)(st:B.StaysIn h')(up:s.heap.UpToSlots h')(c1: ∀b o,g.get? b=some o->b∉frs X.stack-> ∃o',s.heap.get? b=some o'/\B.get? b=some o')
  (c2: ∀b u,H b=some u-> ∃o,s.heap.get? b=some o/\B.get? b=some o):Inv X a6 σ H {s with heap:=h'}:=by
 refine I.fly st up (fun b o e hb=> ?_) (fun p hp=> ?_) c2
 ·obtain⟨o',e'⟩:=lo.s0 b o e hb
  exact c1 b o' e' hb
 ·obtain⟨o,e⟩:=lo.pin p hp
  obtain⟨e1,_,ne,nf,_⟩:=I.pin p hp
  obtain⟨o',e2,e3⟩:=c1 p.1 o e fun z=>(Ac.mp (I.stkSub _ z)).elim ne nf
  rw[e1] at e2
  cases e2
  exact e3
def RzF(X:Cx)(R:Str->St->Hp->Prop):Prop:= ∀(a6:List (Addr×Obj)) (x:Str) (C:Addr) (σ:St) (H1:Hp) (e:Value) (s':A2) (g:Heap),XC X.K x C->Inv X a6 σ H1 s'->ExcF X.stack g H1 C e s'.heap->Low X a6 g->R x σ H1->X.xe e s'
def RzM(X:Cx)(R:Str->St->Hp->Prop):Prop:= ∀(a6:List (Addr×Obj)) (x:Str) (C a:Addr) (args:List Value) (σ:St) (H1:Hp) (h:Heap) (s':A2),XC X.K x C->Inv X a6 σ H1 {s' with heap:=h}->Heap.MadeExcOf h s'.heap a (.ref C) args->R x σ H1->X.xe (.ref a) s'
end
section
variable{P:Aj}{w:World}{K:A8}{mg:Str->Option Value}{base:Heap}{N:List Str}{qual:Str}{scope:Scope}{f:Addr}{cd:Value}{A:B8}{outer:List Env}{s:A2}{H:Hp}{E:XK}
def rE(K:A8)(E:XK):Str->St->Hp->Prop:=fun x _ H1=> ∀C,XC K x C->E (.ref C) none H1
theorem zQA{a6:List (Addr×Obj)}{σ:St}{H1:Hp}{s':A2}{g h' B:Heap}{C a:Addr}{a0:Value}{d:Drawn}{tk:Nat}(I:Inv (cxOf (CXv P w) P w K mg base N qual scope f cd A outer s H E) a6 σ H1 s')
  (lo: ∀b o,s.heap.get? b=some o->b∉frs (envOfC qual scope s.heap.objs.size f cd::outer)-> ∃o',g.get? b=some o') (fl:Ip B outer a (.ref C) a0 h') (up:s'.heap.UpToSlots h')
  (c1: ∀b o,g.get? b=some o->b∉frs (envOfC qual scope s.heap.objs.size f cd::outer)-> ∃o',s'.heap.get? b=some o'/\B.get? b=some o')
  (c2: ∀b u,H1 b=some u-> ∃o,s'.heap.get? b=some o/\B.get? b=some o) (hE:E (.ref C) none H1):CXv P w outer H s E (.ref a) {s' with heap:=h',drawn:=d,toks:=tk}:=by
 have bs:Un (frs outer) [] H H1 s.heap s'.heap:=I.base
 have stk:s'.heap.FunFrames base (envOfC qual scope s.heap.objs.size f cd::outer):=I.stack
 have got: ∀b o,s.heap.get? b=some o->b∉frs outer-> ∃o',s'.heap.get? b=some o'/\B.get? b=some o':=fun b o q hb=>by
  have nL:b∉frs (envOfC qual scope s.heap.objs.size f cd::outer):=fun z=>by
   rcases Ac.mp (show b∈s.heap.objs.size::frs outer from z) with z|z
   ·have:=Ae q
    rw[z] at this
    exact absurd this (Bj _)
   ·exact hb z
  obtain⟨o',e⟩:=lo b o q nL
  exact c1 b o' e nL
 have de: ∀b∈frs outer,∀o,s'.heap.get? b=some o-> ∃sl,h'.get? b=some {o with slots:=sl}:=fun b hb o e=>by
  obtain⟨_,o',e',nf⟩:=stk.mem (Ag _ hb:b∈s.heap.objs.size::frs outer)
  rw[e] at e'
  cases e'
  exact up b o e nf
 refine⟨C,H1,I.os,I.bare,⟨fun b o q n hb hx=> ?_,fun b o q n hb hx=> ?_,bs.free,fun b o q hx=> ?_,bs.tups,bs.frzs,bs.tbls⟩,zR5 I.hok fl.1 c2,⟨a,a0,B,rfl,fl,fun b o e hn=> ?_,fun b u e=> ?_⟩,hE⟩
 ·obtain⟨o',e1,e2⟩:=got b o q hb
  rw[bs.keep b o q n hb hx] at e1
  cases e1
  exact fl.1 b o e2
 ·obtain⟨sl,e1⟩:=bs.slot b o q n hb hx
  obtain⟨sl',e3⟩:=de b hb _ e1
  exact⟨sl',e3⟩
 ·by_cases hb:b∈frs outer
  ·obtain⟨o',e1⟩:=bs.there b o q hx
   obtain⟨sl',e3⟩:=de b hb _ e1
   exact⟨_,e3⟩
  ·obtain⟨o',e1,e2⟩:=got b o q hb
   exact⟨o',fl.1 b o' e2⟩
 ·obtain⟨o',e1,e2⟩:=got b o e hn
  exact⟨o',fl.1 b o' e2,e2⟩
 ·obtain⟨o,e1,e2⟩:=c2 b u e
  exact⟨o,fl.1 b o e2,e2⟩
theorem zPF:RzF (cxOf (CXv P w) P w K mg base N qual scope f cd A outer s H E) (rE K E):=by
 intro a6 x C σ H1 e s' g hx I F lo hR
 obtain⟨a,a0,B,rfl,fl,c1,c2⟩:=F
 exact wpAny_leaves_onW (I.ok.frames.trans rfl) rfl fl fun h' fl' up=>zQA (d:=s'.drawn) (tk:=s'.toks) I lo.s0 fl' up c1 c2 (hR C hx)
theorem zPE:RzM (cxOf (CXv P w) P w K mg base N qual scope f cd A outer s H E) (rE K E):=by
 intro a6 x C a args σ H1 h s' hx I M hR
 have stk:h.FunFrames base (envOfC qual scope s.heap.objs.size f cd::outer):=I.stack
 have hin: ∀env∈(envOfC qual scope s.heap.objs.size f cd::outer),∀b,env.frame=some b->b∈frs (envOfC qual scope s.heap.objs.size f cd::outer):=fun env he b hb=>Gm.mpr ⟨env,he,hb⟩
 refine wpAny_leaves_madeW (base:=W.hideAll h (frs (envOfC qual scope s.heap.objs.size f cd::outer))) (h:=h) (I.ok.frames.trans rfl) rfl (fun b o q=>W.of_hideAll _ q) (W.funFrames_hide stk hin) M fun h' t fl _ _ up=> ?_
 have up':h.UpToSlots h':=(Mj M.keeps).trans up
 exact zQA (s':={s' with heap:=h}) (g:=h) (d:=s'.drawn) (tk:=s'.toks) I (fun b o q _=>I.base.there b o q (fun z=>nomatch z)) fl up' (fun b o e hb=>⟨o,e,Jj _ e hb⟩) (fun b u e=>by
  obtain⟨o,q⟩:=(I.hok b u e).alive
  exact⟨o,q,Jj _ q fun z=>by have:=I.stkFree b z;rw[e] at this;cases this⟩) (hR C hx)
end
theorem zQG{K:A8}{h:Heap}{C:Addr}{bmB:List Value}{j3:String}(X:K.In h)(q:W.excIn K C bmB j3=true):
  ∃bm N nm q bs hdct sn sub ab col dd k0 k1 k2 k3 k5 mN,h.get? C=some (excClassObj nm q C N bs bm hdct sn sub ab col dd k0 k1 k2 k3 k5 j3)/\h.Ns N mN/\mN "__init__"=none/\OwnTail h bmB bm:=by
 unfold W.excIn at q
 split at q
 ·rename_i dd cd sl ho
  split at q
  ·rename_i C' bm k0 k1 k2 k3 n k5 hm hs
   simp only[A3,beq_iff_eq,Bool.not_eq_true'] at q
   obtain⟨⟨⟨⟨⟨rfl,rfl⟩,mo⟩,ht⟩,hok⟩,hni⟩:=q
   obtain⟨nm,bs,mro,ns,qn,hd,sn,sub,ab,col,del⟩:=cd
   dsimp only at hm mo hok hni
   subst hm mo
   obtain⟨sl⟩:=sl
   simp only at hs
   subst hs
   exact⟨bm,ns,nm,qn,bs,hd,sn,sub,ab,col,dd,k0,k1,k2,k3,k5,_,X _ _ ho,.of_isNs (W.isNs_of_in X hok),W.nsMap_none_of_in X hok hni,W.tail_of_in X ht⟩
  ·cases q
 ·cases q
abbrev VZ:=Ev->Option (Str×Ev)
def TZ(R:Str->St->Hp->Prop)(K:A8)(ml:List Nat)(z:VZ)(σ:St)(H:Hp):Prop:= ∃B O δ x δ',Sta K ml B O H σ δ/\z δ=some (x,δ')/\ ∀σ' H' O',Sta K ml B O' H' σ' δ'->R x σ' H'
abbrev ZE(R:Str->St->Hp->Prop)(K:A8)(ml:List Nat)(z:VZ):TE:=fun σ H _=>TZ R K ml z σ H
abbrev ZS(R:Str->St->Hp->Prop)(K:A8)(ml:List Nat)(z:VZ):TS:=fun _ σ H=>TZ R K ml z σ H
section
variable{X:Cx}{K:A8}{ml:List Nat}{e a b c:Expr}{es:List Expr}{pa ta ia pb tb ib pc tc ic pu bt bi ps bs:Bool}{fa fb fc f:VF}{B B':Bs}{O:Nat->Option Addr}{H H1 H':Hp}{σ:St}{δ δ':Ev}{v:V}{d:Dat}{pos:Pos}{st:Stmt}{rest:List Stmt}{g g':VS}{z z':VZ}{R:Str->St->Hp->Prop}
noncomputable def zNo:VZ:=fun _=>none
theorem zUB{sts:List Stmt}:PSs X sts (ZS R K ml zNo):=fun _ _ _ _ _ _ h=>by
 obtain⟨_,_,_,_,_,_,q,_⟩:=h
 cases q
noncomputable def zAlt(z z':VZ):VZ:=fun δ=>match z δ with
 |some r=>some r
 |none=>z' δ
theorem zYM(h:TZ R K ml (zAlt z z') σ H):TZ R K ml z σ H∨TZ R K ml z' σ H:=by
 obtain⟨B,O,δ,x,δ',S,q,k⟩:=h
 unfold zAlt at q
 cases h1:z δ with
 |some r=>rw[h1] at q;exact .inl ⟨B,O,δ,x,δ',S,h1.trans q,k⟩
 |none=>rw[h1] at q;exact .inr ⟨B,O,δ,x,δ',S,q,k⟩
theorem zVS{sts:List Stmt}(h1:PSs X sts (ZS R K ml z))(h2:PSs X sts (ZS R K ml z')):PSs X sts (ZS R K ml (zAlt z z')):=fun a6 s σ H D I h=>
 (zYM h).elim (h1 a6 s σ H D I) (h2 a6 s σ H D I)
noncomputable def zSeq(g:VS)(z:VZ):VZ:=fun δ=>match g δ with
 |some (.nx δ')=>z δ'
 |_=>none
theorem zVR(h1:PS X st (TSt K ml g))(h2:PSs X rest (ZS R K ml z)):PSs X (st::rest) (ZS R K ml (zSeq g z)):=(zGH h1 h2).imp fun D σ H q0=>by
 obtain⟨B,O,δ,x,δ',S,q,k⟩:=q0
 unfold zSeq at q
 split at q
 ·rename_i δ1 hg
  exact⟨B,O,δ,.nx δ1,S,hg,fun σ' H' O' S'=>⟨B,O',δ1,x,δ',S',q,k⟩⟩
 ·cases q
theorem zDD(h:PS X st (ZS R K ml z)):PSs X (st::rest) (ZS R K ml z):=(zGH h zPX).imp fun _ _ _ h=>h
noncomputable def zIf(t:VB)(z z':VZ):VZ:=fun δ=>(t δ).bind fun p=>if p.1=true then z p.2 else z' p.2
theorem zYD{x y:List Stmt}{t:VB}(ht:PT X c (TB K ml pc t))(ha:PSs X x (ZS R K ml z))(hb:PSs X y (ZS R K ml z')):PS X (.If c x y pos) (ZS R K ml (zIf t z z')):=(yA5 ht ha hb).imp fun D σ H q0=>by
 obtain⟨B,O,δ,x,δ',S,q,k⟩:=q0
 unfold zIf at q
 cases h1:t δ with
 |none=>rw[h1] at q;cases q
 |some p=>
  obtain⟨kk,δ1⟩:=p
  rw[h1] at q
  refine⟨B,O,δ,kk,δ1,S,h1,fun H1 R1=> ?_⟩
  cases kk with
  |true=>exact iteT ⟨B,O,δ1,x,δ',R1.sta,q,k⟩
  |false=>exact iteF ⟨B,O,δ1,x,δ',R1.sta,q,k⟩
theorem zYC(h:PE X e (ZE R K ml z)):PS X (.Return (some e) pos) (ZS R K ml z):=(zPY h).imp fun _ _ _ h=>h
theorem zOG(h:PE X e (ZE R K ml z))(hs:Ec e none pos.line X.env=pure false:=by rfl):PS X (.Expr e pos) (ZS R K ml z):=(zLF h hs).imp fun _ _ _ h=>h
theorem zM7{x:Str}{np a8 p1:Pos}{t:Str}{j:Nat}(hK:X.K=K)(hz:RzM X R)(hc:X.calm=true)(hg:Gl X x)(hx: ∃C,XC K x C/\X.mg x=some (.ref C))(hdb:(x==("__debug__":Str))=false:=by decide)
  (hpl:(Cg a8 (starEach [.Constant (.str t) j p1] X.env)).any (·.1)=false:=by rfl):
  PS X (.Raise (some (.Call (.Name x np) [.Constant (.str t) j p1] [] a8)) none pos) (ZS R K ml fun δ=>some (x,δ)):=by
 intro a6 s σ H D I h
 obtain⟨B,O,δ,x',δ',S,q,k⟩:=h
 cases q
 subst hK
 obtain⟨C,hC,hm⟩:=hx
 obtain⟨bm,N,nm,q,bs,hdct,sn,sub,ab,col,dd,k0,k1,k2,k3,k5,mN,o1,o2,o3,o4⟩:=zQG I.ok.mod.kin hC.exc
 refine wpAny_Raise_call_subT (C:=C) (nm:=nm) (q:=q) (N:=N) (bs:=bs) (bm:=bm) (hdct:=hdct) (sn:=sn) (sub:=sub) (ab:=ab) (col:=col) (dd:=dd) (k0:=k0) (k1:=k1) (k2:=k2) (k3:=k3) (k5:=k5) (mN:=mN) PySem.F.excBase_ValueError (o4.hasType (by decide)) (I.ok.hd hc) hpl o3 (zFJ I hg hm ⟨rfl,?_⟩ hdb)
 have pa:PA X [.Constant (.str t) j p1] _:=zAQ zUX zBT
 refine Dq (Ba (pa a8 a6 s σ H (fun vs H'=>H'=H/\vs.length=1) I ⟨rfl,rfl⟩) (fun us s2 hq=> ?_) fun _ _ z=>z)
 obtain⟨vs,H2,I2,rv,rfl,hl⟩:=hq
 have kp: ∀b o,X.base.get? b=some o->s2.heap.get? b=some o:=fun b o e=>(I2.bs b o e).1
 refine⟨rfl,?_,kp _ _ o1,o2.keeps kp,o4.keeps kp,fun h' a hm'=>hz a6 x C a us σ H2 s2.heap _ hC I2 hm' (k σ H2 O S)⟩
 show us.length<=sizeLine
 rw[<- rv.length,hl]
 decide
theorem zTE{x:Str}{kk:Nat}{qs:List Str}{sp:Sp}{ff:Addr}{fd:C2}{p':Pos}{t:TA}{CX:CXT}(F:FnOk X.prog X.w X.K X.mg X.base CX kk ff fd qs sp)(hr:Room kk X.A)(hg:Gl X x)(hm:X.mg x=some (.ref ff))(hk:Dx X.K (.ref ff)=true)(hb:zFY X.K fd qs [])
  (ha:PA X (e::es) t) (hdb:(x==("__debug__":Str))=false:=by decide) (he:starEach (e::es) X.env=(false,eval e X.env)::starEach es X.env:=by rfl) (hpl:(Cg pos (starEach es X.env)).any (·.1)=false:=by rfl):
  PE X (.Call (.Name x p') (e::es) [] pos) (fun σ H Q=>t σ H fun vs H1=> ∃E,(∀(a6:List (Addr×Obj)) (s:A2) (e':Value) (s':A2),Inv X a6 σ H1 s->CX X.stack H1 s E e' s'->X.xe e' s')/\sp vs H1 Q E):=by
 intro a6 s σ H Q I h
 refine Cn (zFJ I hg hm (Fh (h₀:=X.base) I.ok.mod.kin hk (thn (ha pos a6 s σ H _ I h) fun us s1 hq=> ?_) he hpl) hdb)
 obtain⟨vs,H1,I1,rv,E,hE,hs⟩:=hq
 have hl:us.length=qs.length:=by rw[<- rv.length];exact F.len _ _ _ _ hs
 have hb:=hb s1 us I1.kIn (by simpa using hl)
 rw[Bi] at hb
 refine⟨I1.kIn,Jx (Fg (F.run X.A X.stack s1 H1 ⟨us,[]⟩ us vs Q E hr I1.env0 hb rv hs) fun r s' hq=> ?_)⟩
 cases r with
 |error e'=>exact hE a6 s1 e' s' I1 hq
 |ok fl=>cases fl with
  |ret u=>exact I1.after hq
  |next=>cases hq
  |brk=>cases hq
  |cont=>cases hq
def spX(K:A8)(n:Nat)(XF:List Dat->Option Str):Sp:=fun vs H _ E=> ∃(Z:Addr->Prop) (ds:List Dat) (x:Str),ds.length=n/\zYA K [] Z H vs ds/\XF ds=some x/\ ∀C H',XC K x C->Same H H'->E (.ref C) none H'
structure DefX(P:Aj)(w:World)(K:A8)(mg:Str->Option Value)(base:Heap)(x:Str)(k:Nat)(ps:List Str)(XF:List Dat->Option Str)(f:Addr):Prop where
 at_:mg x=some (.ref f)
 ok: ∃fd,FnOk P w K mg base (CXv P w) k f fd ps (spX K ps.length XF)/\zFY K fd ps []
 kp:Dx K (.ref f)=true
noncomputable def zEJ:List AV->Option (List Dat)
 |[]=>some []
 | .d d::as=>(zEJ as).map fun ds=>d::ds
 | .o _::_=>none
theorem zJY{N:Addr->Prop}: ∀{vs:List V} {as:List AV} {ds:List Dat},RepG K N H σ vs as->zEJ as=some ds->vs.length=ds.length/\ ∀(i:Nat) (d:Dat),ds[i]? =some d-> ∃v,vs[i]? =some v/\Rep K N H N v d
 | _,_,_,.nil,h => by cases h;exact ⟨rfl,fun i d e => by simp at e⟩
 | _,.d d0 :: as,_,.d r t,h => by
  unfold zEJ at h
  cases e:zEJ as with
  |none=>rw[e] at h;cases h
  |some ds=>
   rw[e] at h
   cases h
   obtain⟨h1,h2⟩:=zJY t e
   refine⟨by simp[h1],fun i d q=> ?_⟩
   cases i with
   |zero=>simp at q;subst q;exact⟨_,rfl,r⟩
   |succ i=>exact h2 i d (by simpa using q)
 |_,.o _::_,_,.o _ _,h=>by cases h
noncomputable def zJ3(n:Nat)(XF:List Dat->Option Str)(fs:VFg):VZ:=fun δ=>(fs δ).bind fun p=>(zEJ p.1).bind fun ds=>if ds.length=n then(XF ds).map fun x=>(x,p.2) else none
theorem zOR{fs:VFg}{XF:List Dat->Option Str}{n:Nat}{Q:VK}(hz:RzF X R)(hK:X.K=K)(hex:X.ex=[])(h:TZ R K ml (zJ3 n XF fs) σ H):
  TAG K ml ps fs σ H fun vs H1 => ∃ E,(∀ (a6 : List (Addr × Obj)) (s : A2) (e' : Value) (s' : A2),Inv X a6 σ H1 s -> CXv X.prog X.w X.stack H1 s E e' s' -> X.xe e' s') /\ spX K n XF vs H1 Q E := by
 subst hK
 obtain⟨B,O,δ,x,δ',S,q,k⟩:=h
 unfold zJ3 at q
 cases h1:fs δ with
 | none => rw [h1] at q;cases q
 |some p=>
  obtain⟨as,δ1⟩:=p
  rw[h1,A7] at q
  cases h2:zEJ as with
  | none => rw [h2] at q;cases q
  |some ds=>
   rw[h2,A7] at q
   split at q
   ·rename_i hn
    cases h3:XF ds with
    | none => rw [h3] at q;cases q
    |some x'=>
     rw[h3] at q
     cases q
     refine⟨B,O,δ,as,δ1,S,h1,fun vs H1 G=>⟨fun v _ H2=> ∃x C,v= .ref C/\XC X.K x C/\R x σ H2,fun a6 s e' s' I hc=> ?_,?_⟩⟩
     ·obtain⟨C,H2,os,bare,un,ok,F,x1,C1,hv,hx,hR⟩:=hc
      cases hv
      exact hz a6 x1 C σ H2 e' s' s.heap hx (I.call' os un ok bare fun b hb=>nomatch hb) F (I.low hex) hR
     ·obtain⟨g1,g2⟩:=zJY G.rep h2
      have zp: ∀a,Zp (Nn B O) [] vs a->Nn B O a:=fun a z=>z.elim id fun⟨i,hi,_⟩=>nomatch hi
      refine⟨Nn B O,ds,x,hn,⟨g1,fun i hi=>(nomatch hi),fun i d _ e=> ?_,fun i d hi=>(nomatch hi),fun i j a hi=>(nomatch hi),fun a z=>G.sta.nin z⟩,h3,fun C H2 hx hs=>⟨x,C,rfl,hx,k σ H2 O (G.sta.same hs)⟩⟩
      obtain⟨v,e1,r⟩:=g2 i d e
      exact⟨v,e1,r.mono zp zp⟩
   ·cases q
theorem zOH{x:Str}{kk j:Nat}{qs:List Str}{XF:List Dat->Option Str}{ff:Addr}{p':Pos}{fs:VFg}(hz:RzF X R)(hK:X.K=K)(D:DefX X.prog X.w K X.mg X.base x kk qs XF ff)(hr:Room j X.A)(hk:kk<=j)(hg:Gl X x)(hex:X.ex=[])(ha:PA X (e::es) (TAG K ml ps fs))
  (hdb:(x==("__debug__":Str))=false:=by decide) (he:starEach (e::es) X.env=(false,eval e X.env)::starEach es X.env:=by rfl) (hpl:(Cg pos (starEach es X.env)).any (·.1)=false:=by rfl):
  PE X (.Call (.Name x p') (e::es) [] pos) (ZE R K ml (zJ3 qs.length XF fs)):=by
 obtain⟨fd,F,Bd⟩:=D.ok
 subst hK
 exact(zTE F (hr.mono hk) hg D.at_ D.kp Bd ha hdb he hpl).imp fun σ H Q h=>zOR hz rfl hex h
end
noncomputable def runZ(n:Nat)(z:VZ):List Dat->Option Str:=fun ds=>(z (envD [] n ds)).map (·.1)
theorem Fun.okX{P:Aj}{w:World}{K:A8}{mg:Str->Option Value}{base:Heap}{x qual:Str}{st:Stmt}{f:Addr}{fd:C2}{N ps:List Str}{k:Nat}{z:VZ}(F:Fun K x qual st f fd)(S:zAD N ps (zA4 st))(hps:ps.length<=N.length)
  (aj: ∀(cdv:Value) (A:B8) (outer:List Env) (s:A2) (H:Hp) (E:XK),Room k (A.deeper (envOfC qual (zA4 st) s.heap.objs.size f cdv))→
   PSs (cxOf (CXv P w) P w K mg base N qual (zA4 st) f cdv A outer s H E) (zB0 st) (ZS (rE K E) K [] z)):FnOk P w K mg base (CXv P w) (k+1) f fd ps (spX K ps.length (runZ N.length z)):=by
 obtain⟨oc,od,kV,doc,pm,an,cdv,ct,osl,rfl,lk,hcd⟩:=F.ex
 refine zXX lk hcd S (fun vs H Q E h=> ?_) fun A outer s H vs Q E hr hsp=>⟨_,aj cdv A outer s H E hr,?_⟩
 ·obtain⟨Z,ds,x,hn,AV,_⟩:=h
  rw[AV.len,hn]
 ·obtain⟨Z,ds,x,hn,AV,hX,hE⟩:=hsp
  obtain⟨mu,hmu,S0⟩:=zJF (N:=N) AV (by rw[hn];exact hps)
  unfold runZ at hX
  cases h1:z (envD [] N.length ds) with
  |none=>rw[h1] at hX;cases hX
  |some p=>
   obtain⟨x',δ'⟩:=p
   rw[h1] at hX
   cases hX
   exact⟨_,mu,_,x',δ',S0,h1,fun σ' H' O' S' C hC=>hE C H' hC fun b o q=>S'.frm b o q fun⟨i,hi,_⟩=>nomatch hi⟩
end L2
namespace L2
open PySem PySem.Spec PyProof.Rows PySem.W PySem.Calls PySem.Builtin PySem.Builtin.ObjectAttr PySem.Builtin.Getset_descriptor
section
variable{prog:Aj}{w:World}{A:B8}{E:Value->A2->Prop}{s:A2}{K:Frag}{x C:Addr}{o:Obj}{R:Result->A2->Prop}
theorem zXZ{tp:Value}(X:K.In s.heap)(hx:s.heap.get? x=some o)(hc:o.cls= .ref C)(F:XA K C)
  (h:R (.ok (.ret (.ref C))) s):Gs (model prog w) A (.call (.builtin "getset_descriptor.__get__") ⟨[.builtin "object.__class__",.ref x,tp],[]⟩) R s:=by
 obtain⟨hh,g,dr,t,os⟩:=s
 have L0:Looks (model prog w) hh (Kf (.ref x)) (.ref C):=hc▸(L5 hx).andThen .now
 have L1:=looks_mroIn (M:=model prog w) X F.mro
 refine Ix KF.slot_gs.plain KF.entry_gs (KF.slot_gs.check _ _ _ _ _ _ _ _ KF.type_class (KF.args_gs _ _ _) ?_)
 unfold D3.«getset_descriptor.__get__» descrGet
 rw[dga_obj]
 refine A0 (A9 ?_)
 unfold descrGetter descrCheckInstance descrNameAndClass M7
 simp only[KF.owner_class]
 repeat lk
 refine⟨Code.quiet_builtin _ (by decide+kernel),Im KF.entry_class ?_⟩
 unfold D3.«object.__class__» shownTypeOf
 repeat lk
 exact h
theorem zRF{tk:Tok}{Q:Fin->A2->Prop}(X:K.In s.heap)(hx:s.heap.get? x=some o)(hc:o.cls= .ref C)(F:XA K C)
  (h:Q (.done (.ret (.ref C))) s):wpAny (model prog w) A (D3.«object.__getattribute__» ⟨[.ref x,.str "__class__" tk],[]⟩) Q E s:=by
 obtain⟨hh,g,dr,t,os⟩:=s
 have L0:Looks (model prog w) hh (Kf (.ref x)) (.ref C):=hc▸(L5 hx).andThen .now
 have L1:=Kj (M:=model prog w) X F.cls
 have L2:Looks (model prog w) hh (getOf (some (.builtin "object.__class__"))) (some (.builtin "getset_descriptor.__get__")):=looks_specialIn X F.get
 have L3:=looks_takesIn (M:=model prog w) X F.tak
 have LF:Looks (model prog w) hh (find (.ref x) (.ref C) "__class__") (.bind (.builtin "getset_descriptor.__get__") (.builtin "object.__class__")):=
  L1.andThen (L2.andThen ((show Looks (model prog w) hh (dataDescriptor? (some (.builtin "object.__class__")) (some (.builtin "getset_descriptor.__get__"))) (some (.builtin "getset_descriptor.__get__",.builtin "object.__class__")) from L3.andThen .now).andThen (Looks.tag .now)))
 unfold D3.«object.__getattribute__»
 repeat (any_goals (first|assumption|with_reducible refine Looks.at L0 ?_|with_reducible refine Looks.at LF ?_|wp_step))
 refine zXZ (s:=⟨hh,g,dr,t,os⟩) X hx hc F ?_
 exact A9 h
theorem yCB{tk:Tok}(X:K.In s.heap)(hx:s.heap.get? x=some o)(hc:o.cls= .ref C)(F:XA K C)(h:R (.ok (.ret (.ref C))) s):
  Gs (model prog w) A (.call (.builtin "BaseException.__getattribute__") ⟨[.ref x,.str "__class__" tk],[]⟩) R s:=by
 obtain⟨hh,g,dr,t,os⟩:=s
 have L0:Looks (model prog w) hh (Kf (.ref x)) (.ref C):=hc▸(L5 hx).andThen .now
 have L1:=looks_subIn (M:=model prog w) X F.sub
 have hk:builtinKind "BaseException.__getattribute__"=some .slot:=by decide+kernel
 have hs:splitId "BaseException.__getattribute__"=some ("BaseException","__getattribute__"):=by decide+kernel
 have ha:=PySem.F.args_bexc_ga (.ref x) (.str "__class__" tk)
 refine Ix PySem.F.excAttr_ValueError.ga.plain PySem.F.entry_bexc_ga (Ba (Q:=fun _ s'=>s'=⟨hh,g,dr,t,os⟩) ?_ (fun _ s' z=> ?_) fun _ _ z=>z)
 ·simp only[checkBuiltinCall,hk,hs]
  unfold M7
  repeat (any_goals (first|rfl|assumption|with_reducible refine Looks.at L0 ?_|with_reducible refine Looks.at L1 ?_|wp_step))
 ·subst z
  refine zRF (s:=⟨hh,g,dr,t,os⟩) X hx hc F ?_
  exact h
theorem zRG{Q:Option Value->A2->Prop}(X:K.In s.heap)(hx:s.heap.get? x=some o)(hc:o.cls= .ref C)(F:XA K C)(h:Q (some (.ref C)) {s with toks:=s.toks+1}):
  wpAny (model prog w) A (Mi (.ref x) "__class__") Q E s:=by
 obtain⟨hh,g,dr,t,os⟩:=s
 have L0:Looks (model prog w) hh (Kf (.ref x)) (.ref C):=hc▸(L5 hx).andThen .now
 have L1:=Kj (M:=model prog w) X F.ga
 have L2:=Kj (M:=model prog w) X F.no
 have fb:=PySem.F.excAttr_ValueError.ga.bind (.ref x)
 unfold Mi getAttrBy? getAttrBy
 refine A0 (wpAny_mkText (A0 (Hh (B7 (A0 (L0.at (A0 (L1.at ?_))))))))
 show wpAny _ _ (getAttrByItsOwn _ _ _ _ _ _) _ _ _
 unfold getAttrByItsOwn hookBefore callGetattribute boundAndCalled
 repeat (any_goals (first|assumption|with_reducible refine Looks.at L0 ?_|with_reducible refine Looks.at L2 ?_|wp_step))
 refine yCB (s:=⟨hh,g,dr,t+1,os⟩) X hx hc F ?_
 refine handed_on rfl ?_
 first|exact h|exact A9 h|exact A9 (A9 h)
theorem zN0(F:XA K C)(hdct:(clsIn K C).isSome=true):KitX K (.ref x) (.ref C) (fun h=> ∃o,h.get? x=some o/\o.cls= .ref C) where
 ty:=fun M h _ p=>by
  obtain⟨o,h1,h2⟩:=p
  exact h2▸(L5 h1).andThen .now
 it:=fun _ _ X _=>by
  unfold clsIn at hdct
  split at hdct
  ·rename_i ho
   intro A' Q' E' s' k q
   unfold isType loadHead
   exact A0 (wpAny_loadPart (k _ _ (X _ _ ho)) (A9 q))
  ·cases hdct
 ne:=fun h tp dd its n sl X htp=>by
  refine Bool.eq_false_iff.mpr fun q=> ?_
  have e:C=tp:=Value.ref.inj (beq_iff_eq.mp q)
  subst e
  unfold clsIn at hdct
  split at hdct
  ·rename_i ho
   have z:=(X _ _ ho).symm.trans htp
   cases z
  ·cases hdct
 ca:=fun X p k=>by
  obtain⟨o,h1,h2⟩:=p
  exact zRG X h1 h2 F k
end
end L2
namespace L2
open PySem PySem.Spec PyProof.Rows
structure zDL(k:Nat)(A:B8):Prop where
 dp:A.depth+3*k+5<Gr
 un:A.units+16*k+200<cLine
theorem Room.h{k:Nat}{A:B8}(r:Room k A):zDL k A:=⟨r.dp,r.un⟩
theorem zDL.mono{j k:Nat}{A:B8}(r:zDL k A)(h:j<=k):zDL j A:=⟨by have:=r.dp;omega,by have:=r.un;omega⟩
theorem zDL.deeper{k:Nat}{A:B8}(r:zDL (k+1) A)(env:Env):zDL k (A.deeper env):=
 ⟨by have:=r.dp;show A.depth+1+3*k+5<_;omega,by have:=r.un;show A.units+3+16*k+200<_;omega⟩
theorem zDL.units{k:Nat}{A:B8}(r:zDL k A):A.units+64<cLine:=by have:=r.un;omega
theorem zDL.unit{k:Nat}{A:B8}(r:zDL k A):A.units+1<cLine:=by have:=r.un;omega
noncomputable def cxH(P:Aj)(w:World)(K:A8)(mg:Str->Option Value)(base:Heap)(N:List Str)(qual:Str)(scope:Scope)(f:Addr)(cd:Value)(A:B8)(outer:List Env)(s:A2)(H:Hp):Cx:=
 {cxOf CX0 P w K mg base N qual scope f cd A outer s H E0 with calm:=false,xe:=fun _ _=>False}
structure FnH(P:Aj)(w:World)(K:A8)(mg:Str->Option Value)(base:Heap)(k:Nat)(f:Addr)(fd:C2)(ps:List Str)(sp:Sp):Prop where
 len: ∀vs H Q E,sp vs H Q E->vs.length=ps.length
 run: ∀(A:B8) (outer:List Env) (s:A2) (H:Hp) (args:Args) (us:List Value) (vs:List V) (Q:VK),zDL k A->Env0 P w K mg base A outer s H->Jw s fd args (ps.zip us)->Vals vs us->sp vs H Q E0→
  Gs (model P w) A (.call (.ref f) args) (CR CX0 outer P w H s Q E0) s
theorem Inv.around{X:Cx}{A':B8}{a6:List (Addr×Obj)}{σ:St}{H:Hp}{s:A2}{xe:Value->A2->Prop}(I:Inv X a6 σ H s)(hf:A'.frames=X.A.frames):Inv {X with A:=A',calm:=false,xe:=xe} a6 σ H s:=
 ⟨⟨I.ok.mod,I.ok.kind,I.ok.glob,I.ok.blt,I.ok.above,I.ok.inj,I.ok.has,I.ok.cab,fun z=>(nomatch z),hf.trans I.ok.frames,I.ok.stk,I.ok.exf,I.ok.bs,I.ok.bsz,I.ok.noex,I.ok.exfs,I.ok.funs,I.ok.frf⟩,I.os,I.bare,I.base,I.loc,I.cell,I.free,I.freeC,I.pin,I.hok,I.len⟩
theorem Inv.back{X:Cx}{A':B8}{a6:List (Addr×Obj)}{σ:St}{H:Hp}{s:A2}{xe:Value->A2->Prop}(ok:X.Ok)(I:Inv {X with A:=A',calm:=false,xe:=xe} a6 σ H s):Inv X a6 σ H s:=
 ⟨ok,I.os,I.bare,I.base,I.loc,I.cell,I.free,I.freeC,I.pin,I.hok,I.len⟩
theorem Fun.okH{P:Aj}{w:World}{K:A8}{mg:Str->Option Value}{base:Heap}{x qual:Str}{st:Stmt}{f:Addr}{fd:C2}{N ps:List Str}{k:Nat}{sp:Sp}(F:Fun K x qual st f fd)(S:zAD N ps (zA4 st))(len: ∀vs H Q E,sp vs H Q E->vs.length=ps.length)
  (aj: ∀(cdv:Value) (A:B8) (outer:List Env) (s:A2) (H:Hp) (vs:List V) (Q:VK),zDL k (A.deeper (envOfC qual (zA4 st) s.heap.objs.size f cdv))->sp vs H Q E0→
   ∃t,PSs (cxH P w K mg base N qual (zA4 st) f cdv A outer s H) (zB0 st) t/\t {nx:=fun _ H'=>Q .non H',rt:=Q} (start N vs) H):FnH P w K mg base (k+1) f fd ps sp:=by
 obtain⟨oc,od,kV,doc,pm,an,cdv,ct,osl,rfl,lk,hcd⟩:=F.ex
 refine⟨len,fun A outer s H args us vs Q hr e0 hb r hsp=> ?_⟩
 have hl:=len _ _ _ _ hsp
 have KX:K.In s.heap:=e0.mod.kin.keeps fun b o e=>(e0.bs b o e).1
 have lim:s.heap.NoLimit:=e0.mod.nolimit.keeps fun b o e=>(e0.bs b o e).1
 have gf: ∀y∈ps.zip us,(zA4 st).names.lookup y.1=some .local∨((zA4 st).names.lookup y.1=some .cell/\((cellsFrom (s.heap.objs.size+1) (zA4 st).names []).lookup y.1).isSome=true):=fun⟨n,v⟩ hy=>by
  rcases S.par n (G4 hy).1 with q|q
  ·exact .inl q
  ·exact .inr ⟨q,Hn _ _ _ (.inl q)⟩
 have jd:A.depth<Gr:=by have:=hr.dp;omega
 refine Ib jd (KX _ _ lk) rfl S.co S.gen rfl (W.codeRec_of KX hcd) (hb _ _ _ _ ?_)
 refine Gf S.kind gf fun env he s1 x=> ?_
 subst he
 refine⟨lim.keeps x.toInCall.keep,codeAny_func ?_⟩
 obtain⟨t,ht,hq⟩:=aj cdv A outer s H vs Q (hr.deeper _) hsp
 have e1:Env0 P w K mg base {A with handled:=none} outer s H:=⟨e0.frames,e0.mod,e0.bs,e0.bsz,e0.funs,e0.frf,e0.hok,e0.bare⟩
 have I0:Inv (cxOf CX0 P w K mg base N qual (zA4 st) f cdv {A with handled:=none} outer s H E0) [] (start N vs) H s1:=zKC S rfl e1 hl r x
 have I:Inv (cxH P w K mg base N qual (zA4 st) f cdv A outer s H) [] (start N vs) H s1:=I0.around rfl
 refine Ba (ht [] s1 (start N vs) H _ I hq) (fun fl s' hs=> ?_) fun e s' hs=>(show False from hs).elim
 have fin: ∀{σ':St} {H':Hp} {v:V} {u:Value},Inv (cxH P w K mg base N qual (zA4 st) f cdv A outer s H) [] σ' H' s'->RelV v u->Q v H'->CE outer P w H s Q u s':=
  fun{σ' H' v u} J rv q=>⟨v,H',J.os,J.bare,J.base,J.hok,rv,q⟩
 cases fl with
 |ret u=>
  obtain⟨v,σ',H',J,rv,q⟩:=hs
  exact fin J rv q
 |next=>
  obtain⟨σ',H',J,q⟩:=hs
  exact fin (v:=V.non) (u:=Value.none) J rfl q
 |brk=>
  obtain⟨_,_,_,q⟩:=hs
  cases q
 |cont=>
  obtain⟨_,_,_,q⟩:=hs
  cases q
structure DefH(P:Aj)(w:World)(K:A8)(mg:Str->Option Value)(base:Heap)(x:Str)(k:Nat)(ps:List Str)(sp:Sp)(f:Addr):Prop where
 at_:mg x=some (.ref f)
 ok: ∃fd,FnH P w K mg base k f fd ps sp/\zFY K fd ps []
 kp:Dx K (.ref f)=true
section
variable{X:Cx}{K:A8}{ml:List Nat}{e a b c:Expr}{es:List Expr}{ps:Bool}{pos:Pos}
theorem yD2{x:Str}{kk j n:Nat}{qs:List Str}{mF:List Nat}{F:VFun}{ff:Addr}{p':Pos}{fs:VFg}(D:DefH X.prog X.w K X.mg X.base x kk qs (spV K mF n F) ff)(hr:zDL j X.A)(ha:PA X (e::es) (TAG K ml ps fs))(hK:X.K=K:=by rfl)(hk:kk<=j:=by decide)(hg:Gl X x:=by rfl)(hdb:(x==("__debug__":Str))=false:=by decide)
  (he:starEach (e::es) X.env=(false,eval e X.env)::starEach es X.env:=by rfl) (hpl:(Cg pos (starEach es X.env)).any (·.1)=false:=by rfl):
  PE X (.Call (.Name x p') (e::es) [] pos) (TV K ml (ps && mF.isEmpty) true true (zAF n mF F fs)):=by
 subst hK
 obtain⟨fd,F',Bd⟩:=D.ok
 refine PE.imp (t:=zSS (spV X.K mF n F) [] E0 (TAG X.K ml ps fs)) (fun a6 s σ H Q I h=> ?_) fun _ _ _ h=>zFF h
 refine Cn (zFJ I hg D.at_ (Fh (h₀:=X.base) I.ok.mod.kin D.kp (thn (ha pos a6 s σ H _ I h) fun us s1 hq=> ?_) he hpl) hdb)
 obtain⟨vs,H1,I1,rv,hs⟩:=hq
 rw[Bi] at hs
 have hl:us.length=qs.length:=by rw[<- rv.length];exact F'.len _ _ _ _ hs
 have hb:=Bd s1 us I1.kIn (by simpa using hl)
 rw[Bi] at hb
 refine⟨I1.kIn,Jx (Fg (F'.run X.A X.stack s1 H1 ⟨us,[]⟩ us vs Q (hr.mono hk) I1.env0 hb rv hs) fun r s' hq=> ?_)⟩
 cases r with
 |error e'=>cases hq
 |ok fl=>cases fl with
  |ret u=>exact I1.after hq
  |next=>cases hq
  |brk=>cases hq
  |cont=>cases hq
end
theorem Fun.okVH{P:Aj}{w:World}{K:A8}{mg:Str->Option Value}{base:Heap}{x qual:Str}{st:Stmt}{f:Addr}{fd:C2}{N ps:List Str}{k:Nat}{ml:List Nat}{g:VS}(F:Fun K x qual st f fd)(S:zAD N ps (zA4 st))(hps:ps.length<=N.length)
  (aj: ∀(cdv:Value) (A:B8) (outer:List Env) (s:A2) (H:Hp),zDL k (A.deeper (envOfC qual (zA4 st) s.heap.objs.size f cdv))→
   PSs (cxH P w K mg base N qual (zA4 st) f cdv A outer s H) (zB0 st) (TSt K ml g)):FnH P w K mg base (k+1) f fd ps (spV K ml ps.length (runV N.length ml g)):=by
 refine F.okH S (fun vs H Q E h=> ?_) (fun cdv A outer s H vs Q hr h=>⟨_,aj cdv A outer s H hr,zY4 (E:=E0) hps h⟩)
 obtain⟨Z,ds,r,os,hn,AV,_⟩:=h
 rw[AV.len,hn]
theorem zRE{prog:Aj}{w:World}{A:B8}{E:Value->A2->Prop}{s:A2}{K:A8}{x C Cp:Addr}{o:Obj}{Q:Bool->A2->Prop}(X:K.In s.heap)(hx:s.heap.get? x=some o)(hc:o.cls= .ref C)(F:XP K C Cp)(h:Q true s):
  wpAny (model prog w) A (excMatches (.ref x) (.ref Cp)) Q E s:=by
 obtain⟨hh,g,dr,t,os⟩:=s
 have L0:W.Looks (model prog w) hh (Kf (.ref x)) (.ref C):=hc▸(W.Looks.ld hx).andThen .now
 have L1:=W.looks_typeIn (M:=model prog w) X F.ty
 have L2:=W.looks_subIn (M:=model prog w) X F.base
 have L3:=W.looks_subIn (M:=model prog w) X F.sub
 have L4:W.Looks (model prog w) hh (isType (.ref Cp)) true:=by
  have hd:=F.cls
  unfold My at hd
  split at hd
  ·rename_i ho
   intro A' Q' E' s' k q
   unfold isType loadHead
   exact A0 (wpAny_loadPart (k _ _ (X _ _ ho)) (A9 q))
  ·cases hd
 have f:=tc_notTuple
 unfold excMatches isExcClass M7
 repeat (any_goals (first|assumption|with_reducible refine W.Looks.at L0 ?_|with_reducible refine W.Looks.at L1 ?_|with_reducible refine W.Looks.at L2 ?_|with_reducible refine W.Looks.at L3 ?_|with_reducible refine W.Looks.at L4 ?_|wp_step))
section
variable{X:Cx}{a6:List (Addr×Obj)}{σ:St}{H:Hp}{s:A2}{h':Heap}{a C:Addr}
theorem Inv.track{o:Obj}{vs:Array Value}(I:Inv X a6 σ H s)(ha:H a=none)(he:s.heap.get? a=some o)(hc:o.cls= .ref C)(hd:o.data= .fields vs)(hs:X.s₀.heap.get? a=none)(hp: ∀p∈X.pn++a6,p.1≠a):
  Inv X a6 σ (upd H a (.ext fun h=>zUA h a C)) s:=by
 have neS: ∀b o,X.s₀.heap.get? b=some o->b≠a:=fun b o e z=>by rw[z,hs] at e;cases e
 have neH: ∀b u,H b=some u->b≠a:=fun b u e z=>by rw[z,ha] at e;cases e
 refine⟨I.ok,I.os,I.bare,⟨I.base.keep,I.base.slot,fun b o e n hx=> ?_,I.base.there,fun b xs e=> ?_,fun b o u e=> ?_,fun b ps e=> ?_⟩,I.loc,I.cell,?_,fun x c e=> ?_,fun p hq=> ?_,fun b u e=> ?_,I.len⟩
 ·rw[zAU (neS b o e)];exact I.base.free b o e n hx
 ·have q:=I.base.tups b xs e
  rw[zAU (neH b _ q)];exact q
 ·have q:=I.base.frzs b o u e
  rw[zAU (neH b _ q)];exact q
 ·obtain⟨more,q⟩:=I.base.tbls b ps e
  exact⟨more,by rw[zAU (neH b _ q)];exact q⟩
 ·obtain⟨m,⟨oL,_,_,hoL,hdL,_⟩,_⟩:=I.loc
  have:X.env.locals≠a:=fun z=>by
   rw[z,he] at hoL
   cases hoL
   rw[hd] at hdL
   cases hdL
  rw[zAU this];exact I.free
 ·obtain⟨v,oc,hoc,hdc⟩:=I.cell x c e
  have:c≠a:=fun z=>by
   rw[z,he] at hoc
   cases hoc
   rw[hd] at hdc
   cases hdc
  rw[zAU this];exact I.freeC x c e
 ·obtain⟨e,n,ne,nf,d⟩:=I.pin p hq
  exact⟨e,by rw[zAU (hp p hq)];exact n,ne,nf,d⟩
 ·by_cases hb:b=a
  ·subst hb
   rw[zAG] at e
   cases e
   exact⟨⟨o,vs,he,hc,hd⟩,⟨o,he⟩,fun h1 h2 q k=>by
    obtain⟨o1,vs1,e1,e2,e3⟩:=q
    exact⟨o1,vs1,k o1 e1,e2,e3⟩⟩
  ·rw[zAU hb] at e
   exact(I.hok b u e).stay (fun _ _ _ q=>q) (fun c q=>by rw[zAU (neH c _ q)];exact q) fun c xs q=>by rw[zAU (neH c _ q)];exact q
theorem Inv.unbound{m':Str->Option Value}{t':Nat}(I:Inv X a6 σ H s)(ns:h'.Ns X.env.locals m')(sb:De X.env.locals s.heap h'):Inv X a6 (Aa X.N.length none) H {s with heap:=h',toks:=t'}:=by
 have neL: ∀b o,X.s₀.heap.get? b=some o->b≠X.env.locals:=fun b o e=>Aq (Al (Ae e) I.ok.above)
 have neH: ∀b u,H b=some u->b≠X.env.locals:=fun b u e z=>by rw[z,I.free] at e;cases e
 refine⟨I.ok,I.os,I.bare,⟨fun b o e n hb hx=>(sb.2 b (neL b o e)).trans (I.base.keep b o e n hb hx),fun b o e n hb hx=> ?_,I.base.free,fun b o e hx=> ?_,I.base.tups,I.base.frzs,I.base.tbls⟩,⟨m',ns,fun i x v _ e2 _=> ?_⟩,fun x c e=> ?_,I.free,I.freeC,fun p hp=> ?_,fun b u e=> ?_,by simp⟩
 ·obtain⟨sl,e1⟩:=I.base.slot b o e n hb hx
  exact⟨sl,(sb.2 b (neL b o e)).trans e1⟩
 ·obtain⟨o',e1⟩:=I.base.there b o e hx
  exact⟨o',(sb.2 b (neL b o e)).trans e1⟩
 ·rw[C7] at e2
  split at e2<;>cases e2
 ·obtain⟨v,z⟩:=I.cell x c e
  exact⟨v,z.sameBut sb (I.cne x c e)⟩
 ·obtain⟨e,n,ne,nf,d⟩:=I.pin p hp
  exact⟨(sb.2 p.1 ne).trans e,n,ne,nf,d⟩
 ·refine (I.hok b u e).stay (fun c v hc q => (sb.2 c ?_).trans q) (fun _ q => q) fun _ _ q => q
  rcases hc with rfl|hc
  ·exact neH _ u e
  ·exact neH c _ hc
end
theorem Cx.Ok.pns{X:Cx}(ok:X.Ok)(pn:List (Addr×Obj))(xe:Value->A2->Prop):Cx.Ok {X with pn:=pn,xe:=xe}:=
 ⟨ok.mod,ok.kind,ok.glob,ok.blt,ok.above,ok.inj,ok.has,ok.cab,ok.hd,ok.frames,ok.stk,ok.exf,ok.bs,ok.bsz,ok.noex,ok.exfs,ok.funs,ok.frf⟩
abbrev Cx.hnd(X:Cx)(a:Addr):Cx:={X with A:=X.A.mark (some (.ref a)),calm:=false,xe:=fun _ _=>False}
noncomputable def sTry(g:VS)(z:VZ)(i:Nat)(k:VS):VS:=fun δ=>match g δ with
 | some o => some o
 | none => match z δ with
  |some (x,δ1)=>match k (δ1.set i (.va (.exn x))) with
   |some (.rt d δ2)=>some (.rt d δ2)
   |_=>none
  |none=>none
section
variable{X:Cx}{K:A8}{ml:List Nat}{pos:Pos}{g k:VS}{z:VZ}
theorem zYE{body:List Stmt}{n:Str}{np cx:Pos}{b0:Stmt}{iw:List Stmt}{i:Nat}(hK:X.K=K)(hst:X.stack=X.env::X.outer)(hfr:X.env.frame=some X.env.locals)(hN:X.N.Nodup)(hi:X.N[i]? =some n)(hl:X.env.kindOf n=some .local)(him:i∉ml)
  (hg0:Gl X "PackError") (hm: ∀C,E4 K mainGlobals "PackError"=some (some (.ref C))->X.mg "PackError"=some (.ref C))
  (hg:PSs X.nox body (TSt K ml g)) (hz: ∀(pn:List (Addr×Obj)) (xe:Value->A2->Prop) (R:Str->St->Hp->Prop),RzF {X with pn:=pn,xe:=xe} R->PSs {X with pn:=pn,xe:=xe} body (ZS R K ml z)) (hk: ∀a,PSs (X.hnd a) (b0::iw) (TSt K ml k)):
  PS X (.Try body [.ExceptHandler (some (.Name "PackError" np)) (some n) (b0::iw) cx] [] [] pos) (TSt K ml (sTry g z i k)):=by
 intro a6 s σ H D I h
 obtain⟨B,O,δ,o,S,q,post⟩:=h
 refine wpAny_Try_except ?_
 unfold sTry at q
 cases h1:g δ with
 |some o'=>
  rw[h1] at q
  cases q
  refine Ba (hg a6 s σ H D (I.wish _) ⟨B,O,δ,o,S,h1,post⟩) (fun f s1 hf=> ?_) fun e s1 he=>(show False from he).elim
  have hf:=hf.unwish
  cases f with
  | next => exact G0 hf
  | _ => exact hf
 |none=>
  rw[h1] at q
  dsimp only at q
  cases h2:z δ with
  | none => rw [h2] at q;cases q
  |some p=>
   obtain⟨x0,δ1⟩:=p
   rw[h2] at q
   dsimp only at q
   cases h3:k (δ1.set i (.va (.exn x0))) with
   | none => rw [h3] at q;cases q
   |some ok=>
    rw[h3] at q
    cases ok with
    | nx _ => cases q
    | bk _ => cases q
    | ct _ => cases q
    |rt d δ2=>
     cases q
     subst hK
     have I1: ∀{xe:Value->A2->Prop} {σ:St} {H:Hp} {s:A2},Inv X a6 σ H s->Inv {X with pn:=X.pn++a6,xe:=xe} [] σ H s:=fun I=>⟨I.ok.pns _ _,I.os,I.bare,I.base,I.loc,I.cell,I.free,I.freeC,fun p hp=>I.pin p (by simpa using hp),I.hok,I.len⟩
     have I2: ∀{xe:Value->A2->Prop} {ps:List (Addr×Obj)} {σ:St} {H:Hp} {s:A2},Inv {X with pn:=X.pn++a6,xe:=xe} ps σ H s->Inv X a6 σ H s:=fun J=>⟨I.ok,J.os,J.bare,J.base,J.loc,J.cell,J.free,J.freeC,fun p hp=>J.pin p (Az _ hp),J.hok,J.len⟩
     refine Ba (hz (X.pn++a6) _ (fun x σ' H'=>x=x0/\ ∃O',Sta X.K ml B O' H' σ' δ1) (fun ps x C σ2 H2 e s' gh hx J F lo hR=> ?_) [] s σ H ⟨fun _ _=>False,fun _ _=>False,fun _ _=>False,fun _ _=>False⟩ (I1 I) ⟨B,O,δ,x0,δ1,S,h2,fun σ' H' O' S'=>⟨rfl,O',S'⟩⟩) (fun f s1 hf=> ?_) fun e s1 he=>he
     rotate_left
     ·cases f with
      |next=>obtain⟨_,_,_,z⟩:=hf;cases z
      |brk=>obtain⟨_,_,_,z⟩:=hf;cases z
      |cont=>obtain⟨_,_,_,z⟩:=hf;cases z
      |ret u=>obtain⟨_,_,_,_,_,z⟩:=hf;cases z
     obtain⟨rfl,O',S1⟩:=hR
     have J':=I2 J
     have lo':Low X a6 gh:=⟨lo.s0,fun p hp=>lo.pin p (Az _ hp)⟩
     obtain⟨a,a0,Bh,rfl,fl,c1,c2⟩:=F
     obtain⟨Cp,hP⟩:=hx.pk
     have fl:Ip Bh (X.env::X.outer) a (.ref C) a0 s'.heap:=hst▸fl
     have c1: ∀b o,gh.get? b=some o->b∉frs X.stack-> ∃o',s'.heap.get? b=some o'/\Bh.get? b=some o':=c1
     have nfr: ∀{h:Heap},Ip Bh (X.env::X.outer) a (.ref C) a0 h->a∉frs X.stack:=fun fl hb=>by
      rw[hst] at hb
      obtain⟨oe,vs,_,_,_,he,_,hd,_⟩:=fl.2.2.2
      obtain⟨_,o',e',nf⟩:=fl.2.2.1.mem hb
      rw[he] at e'
      cases e'
      exact nf vs hd
     refine wpAny_looks_onW (J'.ok.frames.trans (by rw[hst])) hfr fl fun h4 hd4 up4=>wpAny_landsW hd4 fun h5 fl5 up5=> ?_
     have I5:Inv X a6 σ2 H2 {s' with heap:=h5}:=J'.flyG lo' fl5.1 (up4.trans up5) c1 c2
     have I5h:Inv (X.hnd a) a6 σ2 H2 {s' with heap:=h5}:=I5.around rfl
     refine wpAny_handleBy_cons (codeAny_handlers_test (zFJ (X:=X.hnd a) I5h hg0 (hm Cp hP.at_) ?_)) (by intro q;cases q)
     obtain⟨oe5,vs5,_,_,_,he5,pq,_⟩:=fl5.2.2.2
     refine zRE I5.kIn he5 pq.1 hP ?_
     refine codeAny_handlers_suite_as (lands_againW fl5 fun h6 fl6 up6=> ?_)
     have I6:Inv X a6 σ2 H2 {s' with heap:=h6}:=J'.flyG lo' fl6.1 ((up4.trans up5).trans up6) c1 c2
     obtain⟨oe,vs,_,_,_,he,hcl,hdt,_⟩:=fl6.2.2.2
     have Bn:Bh.get? a=none:=fl6.2.1
     have na: ∀b o,gh.get? b=some o->b≠a:=fun b o e z=>by
      subst z
      obtain⟨o',_,e2⟩:=c1 b o e (nfr fl6)
      rw[Bn] at e2
      cases e2
     have ha:H2 a=none:=by
      cases e:H2 a with
      |none=>rfl
      |some u=>
       obtain⟨o',_,e2⟩:=c2 a u e
       rw[Bn] at e2
       cases e2
     have hs0:X.s₀.heap.get? a=none:=by
      cases e:X.s₀.heap.get? a with
      |none=>rfl
      |some o'=>
       obtain⟨o2,e2⟩:=lo'.s0 a o' e (nfr fl6)
       exact absurd rfl (na a o2 e2)
     have I7:=I6.track (C:=C) ha he hcl.1 hdt hs0 fun p hp=>by
      obtain⟨o2,e2⟩:=lo'.pin p hp
      exact na _ o2 e2
     have S7:Sta X.K ml B O' (upd H2 a (.ext fun h=>zUA h a C)) σ2 δ1:=S1.same (zA5 ha)
     refine zCD (X:=X.hnd a) (I7.around rfl) hN hi (.inl hl) (v:= .ref a) rfl (fun s8 I8=> ?_) (.inr hl)
     have S8:=S7.setVa (i:=i) (v:= .ref a) (d:= .exn x) him (.exn hx.at_ zAG fun h z=>z)
     refine Ba (hk a a6 s8 _ _ ⟨fun _ _=>False,D.rt,fun _ _=>False,fun _ _=>False⟩ I8 ⟨B,_,_,.rt d δ2,S8,h3,post⟩) (fun f s9 hf=> ?_) fun e s9 he=>(show False from he).elim
     cases f with
     |next=>obtain⟨_,_,_,z⟩:=hf;cases z
     |brk=>obtain⟨_,_,_,z⟩:=hf;cases z
     |cont=>obtain⟨_,_,_,z⟩:=hf;cases z
     |ret u=>
      obtain⟨v,σ9,H9,I9,r9,hD⟩:=hf
      have I9:=I9.back I.ok
      obtain⟨m,hn,_⟩:=id I9.loc
      refine wpAny_nameGoes hl hn (by rw[I9.ok.kind];rfl) fun h' m' ns' sb=> ?_
      exact⟨v,_,H9,I9.unbound ns' sb,r9,hD⟩
end
section
variable{X:Cx}{K:A8}{ml:List Nat}{e a b c fx:Expr}{es:List Expr}{pa ta ia pb tb ib pf ft fi ps:Bool}{fa fb fe:VF}{B:Bs}{O:Nat->Option Addr}{H H1 H':Hp}{σ:St}{δ δ':Ev}{v:V}{d:Dat}{pos:Pos}{R:Str->St->Hp->Prop}
noncomputable def zDZ:List Dat->Option (List Bool)
 |[]=>some []
 | .bl i::ds=>(zDZ ds).map fun ns=>i::ns
 |_=>none
theorem zL1{N:Addr->Prop}: ∀{xs:List V} {ds:List Dat} {ns:List Bool},RepA K N H xs ds->zDZ ds=some ns->xs=ns.map V.bl
 | _,_,_,.nil,h => by cases h;rfl
 | _,_,_,@RepA.cons _ _ _ v vs d ds h t,e => by
  cases d with
  |bl k=>
   cases h
   have e:(zDZ ds).map (fun ks=>k::ks)=some _:=e
   cases h2:zDZ ds with
   |none=>rw[h2] at e;cases e
   |some ks=>
    rw[h2] at e
    cases e
    rw[zL1 t h2]
    rfl
  |_=>cases e
noncomputable def posB(n:Bool):List Bool->Option Nat
 |[]=>none
 |i::ns=>if i=n then some 0 else(posB n ns).map (· +1)
theorem zJX{n:Bool}: ∀{ns:List Bool} {j:Nat},posB n ns=some j->ns[j]? =some n/\ ∀m,m<j->ns[m]? ≠some n
 | [],_,h => by cases h
 | i :: ns,j,h => by
  unfold posB at h
  split at h
  ·rename_i hi
   cases h
   exact⟨by rw[hi];rfl,fun m hm=>absurd hm (Il _)⟩
  ·rename_i hi
   cases h1:posB n ns with
   |none=>rw[h1] at h;cases h
   |some k=>
    rw[h1] at h
    cases h
    obtain⟨h2,h3⟩:=zJX h1
    refine⟨by simpa using h2,fun m hm=> ?_⟩
    cases m with
    |zero=>simpa using hi
    |succ m=>simpa using h3 m (Hx hm)
noncomputable def zR2(n:Bool):Value->Bool
 | .bool i=>i==n
 |_=>false
theorem zIX: ∀{ns:List Bool} {us:List Value},Vals (ns.map V.bl) us->us=ns.map Eg
 |[],_,.nil=>rfl
 |i::ns,_,.cons r t=>by rw[zIX t];cases r;rfl
def zLD(K:A8):V->List V->Hp->VK->Prop:=fun x vs H Q=> ∃(l:Addr) (ns:List Bool) (n:Bool) (j:Nat),x= .ref l/\vs=[.bl n]/\SqL K H l (ns.map V.bl)/\posB n ns=some j/\Q (.int j) H
def zLE(K:A8):V->List V->Hp->VK->Prop:=fun x vs H Q=> ∃(l:Addr) (ns:List Bool) (n:Bool),x= .ref l/\vs=[.bl n]/\SqL K H l (ns.map V.bl)/\Q (.int (ns.count n:Nat)) H
theorem zV1{us:List Value}{n:Bool}(r:Vals [V.bl n] us):us=[.bool n]:=by
 cases r with
 |cons r t=>cases t;cases r;rfl
theorem zQP:MtM X "list.index" (zLD X.K):=by
 intro a6 s σ H x vs v us Q I rx rv h
 obtain⟨l,ns,n,j,rfl,rfl,hq,hj,q⟩:=h
 cases rx
 obtain rfl:=zV1 rv
 obtain⟨its,r,⟨o,c,e,hc,hd,ao⟩,hz⟩:=I.list hq
 obtain⟨cls,dd,data,sl⟩:=o
 simp only at hc hd ao
 subst hc hd ao
 have hl:=r.length
 obtain rfl:=zIX r
 obtain⟨h1,h2⟩:=zJX hj
 have hj':j<ns.length:=(A5.mp h1).1
 have hsz:ns.length<=16777216:=by rw[Bo] at hz;rw[<- Bb];exact hz
 refine Du K6 ⟨_,e,rfl⟩ Jn (Jf _ _) (Jo l (ns.map Eg).toArray c none sl (.bool n) (zR2 n) j (by simpa using hj') (by omega) ?_ ?_) ⟨e,?_,?_⟩
 ·have : ns[j] = n := by have := C0 hj';rw [h1] at this;exact (B6 this).symm
  simp[zR2,this]
 ·intro m hm hmj
  have hm':m<ns.length:=by simpa using hm
  have:=h2 m hmj
  rw[C0 hm'] at this
  simp only[List.getElem_toArray,List.getElem_map,zR2]
  exact beq_eq_false_iff_ne.mpr fun z=>this (by rw[z])
 ·intro y hy
  have hy:y∈ns.map Eg:=by simpa using hy
  obtain⟨i,_,rfl⟩:=C3.mp hy
  exact Iy i n
 ·exact⟨.int j,H,I.tok _,⟨_,rfl⟩,q⟩
theorem zQR:MtM X "list.count" (zLE X.K):=by
 intro a6 s σ H x vs v us Q I rx rv h
 obtain⟨l,ns,n,rfl,rfl,hq,q⟩:=h
 cases rx
 obtain rfl:=zV1 rv
 obtain⟨its,r,⟨o,c,e,hc,hd,ao⟩,hz⟩:=I.list hq
 obtain⟨cls,dd,data,sl⟩:=o
 simp only at hc hd ao
 subst hc hd ao
 obtain rfl:=zIX r
 refine Du F.slot_list_count ⟨_,e,rfl⟩ F.entry_list_count (F.args_list_count_2 _ _) (SeqAt.list_countAt l (ns.map Eg).toArray c none sl (.bool n) (zR2 n)) ⟨e,?_,?_⟩
 ·intro y hy
  have hy:y∈ns.map Eg:=by simpa using hy
  obtain⟨i,_,rfl⟩:=C3.mp hy
  exact Iy i n
 ·have ph:(ns.map Eg).toArray.toList.countP (zR2 n)=ns.count n:=by
   rw[List.toList_toArray,List.countP_map]
   rfl
  refine⟨.int (ns.count n:Nat),H,I.tok _,⟨s.toks,?_⟩,q⟩
  rw[ph]
noncomputable def zLI:Dat->Dat->Option Dat
 | .lst ds,.bl n=>(zDZ ds).bind fun ns=>(posB n ns).map fun j=> .int j
 |_,_=>none
noncomputable def zLJ:Dat->Dat->Option Dat
 | .lst ds,.bl n=>(zDZ ds).map fun ns=> .int (ns.count n:Nat)
 |_,_=>none
theorem zYJ{ai a8:Pos}{name:Str}{id:String}{r:V->List V->Hp->VK->Prop}{o:Dat->Dat->Option Dat}(hK:X.K=K)(sl:Slot "list" name id) (ty:Kf (.builtin id)=pure (.type "method_descriptor")) (mt:MtM X id r)
  (ho: ∀{x y d:Dat},o x y=some d-> ∃ds n ns i,x= .lst ds/\y= .bl n/\zDZ ds=some ns/\d= .int i/\ ∀(H:Hp) (l:Addr) (Q:VK),SqL K H l (ns.map V.bl)->Q (.int i) H->r (.ref l) [.bl n] H Q)
  (ha:PE X a (TV K ml pa ta ia fa)) (hb:PE X b (TV K ml pb tb ib fb))
  (bo : Ea a name X.env (eval a X.env) = eval a X.env := by rfl)
  (cy : ((Cg a8 (starEach (b :: []) X.env)).all (fun x => !x.1) && (Fs a8 (Dy [] X.env)).all (fun x => x.1.isSome)
   && decide ((b::([]:List Expr)).length+([]:List F8).length+(if([]:List F8).isEmpty then 0 else 1)<30))=true:=by rfl)
  (bh : (ai.endLine == a8.line) = true := by rfl) (hs : starEach (b :: []) X.env = (false,eval b X.env) :: starEach [] X.env := by rfl) (aq : (Cg a8 (starEach [] X.env)).any (·.1) = false := by rfl) (hl : (pb || (ta && ia)) = true := by rfl) :
  PE X (.Call (.Attribute a name ai) [b] [] a8) (TV K ml (pa && pb) true true (f2 o fa fb)):=
 (kBm (K := K) hK Ex sl ty mt ha (zAQ hb zBT hs) bo cy bh hs aq).imp fun σ H Q q0 => by
  obtain⟨B,O,δ,d,δ2,S,q,k⟩:=q0
  obtain⟨x,δ1,y,h1,h2,h3⟩:=zH8 q
  obtain⟨ds,n,ns,i,rfl,rfl,h4,rfl,h5⟩:=ho h3
  refine⟨B,O,δ,_,δ1,S,h1,fun v1 H1 R1=> ?_⟩
  obtain⟨l,xs,rfl,sq,_⟩:=R1.rep.lstE
  refine⟨.inl ⟨rfl,xs,sq⟩,B,O,δ1,_,δ2,R1.sta,h2,fun v2 H2 R2=> ?_⟩
  have r2:=R2.rep
  cases r2
  obtain⟨l',xs',e1,sq',r'⟩:=(R2.live hl R1.rep).lstE
  cases e1
  have:=zL1 r' h4
  subst this
  exact h5 H2 l Q sq' (k _ H2 ⟨R2.sta,R1.frm.trans R2.frm,fun z=>by
   obtain⟨z1,z2⟩:=(A3 _ _).mp z
   exact(R1.pur z1).trans (R2.pur z2),.int _⟩)
theorem zTL{x y d:Dat}(h:zLI x y=some d): ∃ds n ns i,x= .lst ds/\y= .bl n/\zDZ ds=some ns/\d= .int i/\ ∀(H:Hp) (l:Addr) (Q:VK),SqL K H l (ns.map V.bl)->Q (.int i) H->zLD K (.ref l) [.bl n] H Q:=by
 unfold zLI at h
 split at h
 ·rename_i ds n
  cases h1:zDZ ds with
  | none => rw [h1] at h;cases h
  |some ns=>
   rw[h1,A7] at h
   cases h2:posB n ns with
   |none=>rw[h2] at h;cases h
   |some j=>
    rw[h2] at h
    cases h
    exact⟨ds,n,ns,j,rfl,rfl,h1,rfl,fun H l Q sq q=>⟨l,ns,n,j,rfl,rfl,sq,h2,q⟩⟩
 ·cases h
theorem zTM{x y d:Dat}(h:zLJ x y=some d): ∃ds n ns i,x= .lst ds/\y= .bl n/\zDZ ds=some ns/\d= .int i/\ ∀(H:Hp) (l:Addr) (Q:VK),SqL K H l (ns.map V.bl)->Q (.int i) H->zLE K (.ref l) [.bl n] H Q:=by
 unfold zLJ at h
 split at h
 ·rename_i ds n
  cases h1:zDZ ds with
  |none=>rw[h1] at h;cases h
  |some ns=>
   rw[h1] at h
   cases h
   exact⟨ds,n,ns,_,rfl,rfl,h1,rfl,fun H l Q sq q=>⟨l,ns,n,rfl,rfl,sq,q⟩⟩
 ·cases h
theorem zXK(h:X.K=K):MtM X "list.index" (zLD K):=by subst h;exact zQP
theorem zXM(h:X.K=K):MtM X "list.count" (zLE K):=by subst h;exact zQR
def rIsx(K:A8):RC:=fun xs H Q=> ∃a C φ u k,xs=[.ref a,u]/\H a=some (.ext φ)/\(∀h,φ h->zUA h a C)/\XA K C/\(My K C).isSome=true/\((∃D,u= .ref D/\Fq K (.ref C) (.ref D)=some k)∨ ∃n,u= .ty n/\Fq K (.ref C) (.type n)=some k)/\Q (.bl k) H
theorem zU5:zBY X (.builtin "isinstance") (rIsx X.K):=by
 intro a6 s σ H xs us Q I r h
 obtain⟨a,C,φ,u,k,rfl,hH,hφ,xa,hc,hk,q⟩:=h
 obtain⟨v,c,rfl,rx,rc⟩:=zOQ r
 cases rx
 obtain⟨o,vs,e1,e2,_⟩:=hφ _ (I.hok a _ hH).1
 have fin: ∀tk,EP X a6 σ Q (.bool k) {s with toks:=tk}:=fun tk=>⟨.bl k,H,I.tok tk,rfl,q⟩
 rcases hk with⟨D,rfl,hk⟩|⟨n,rfl,hk⟩
 ·cases rc
  exact D6 (zN0 xa hc) I.kIn ⟨o,e1,e2⟩ hk (fun z=>nomatch z) fin
 ·cases rc
  exact D6 (zN0 xa hc) I.kIn ⟨o,e1,e2⟩ hk (fun z=>nomatch z) fin
theorem kIsx(h:X.K=K):zBY X (.builtin "isinstance") (rIsx K):=by subst h;exact zU5
structure XI(K:A8)(cs all:List Str):Prop where
 own: ∀c∈cs,∃C,XC K c C
 isi: ∀c∈cs,∀C,E4 K mainGlobals c=some (some (.ref C))-> ∀x∈all,∃D,E4 K mainGlobals x=some (some (.ref D))/\Fq K (.ref C) (.ref D)=some (decide (c=x))
 val: ∀c∈cs,∀C,E4 K mainGlobals c=some (some (.ref C))->Fq K (.ref C) (.type "ValueError")=some true
noncomputable def oIsx(cs all:List Str):Dat->Dat->Option Dat
 | .exn c,.fn x=>if c∈cs/\x∈all then some (.bl (decide (c=x))) else none
 | .exn c,.ty n=>if c∈cs/\n= "ValueError" then some (.bl true) else none
 |_,_=>none
theorem zEI{cs all:List Str}(F:XI K cs all):zM2 K (rIsx K) (oIsx cs all):=by
 intro H N N' M M' x y d e c Q hx hy h k
 unfold oIsx at h
 split at h
 ·rename_i c0 x0
  split at h
  ·rename_i hm
   cases h
   cases hx with
   |exn hn hH hφ=>
    cases hy with
    |fn hf=>
     obtain⟨C',hC⟩:=F.own _ hm.1
     have:=hn.symm.trans hC.at_
     cases this
     obtain⟨D,hD,hk⟩:=F.isi _ hm.1 _ hn _ hm.2
     have:=hf.symm.trans hD
     cases this
     exact⟨_,_,_,_,_,rfl,hH,hφ,hC.att,hC.cls,.inl ⟨_,rfl,hk⟩,k _ fun _ _ _=> .bl _⟩
  ·cases h
 ·rename_i c0 n0
  split at h
  ·rename_i hm
   cases h
   obtain⟨hm,rfl⟩:=hm
   cases hx with
   |exn hn hH hφ=>
    cases hy
    obtain⟨C',hC⟩:=F.own _ hm
    have:=hn.symm.trans hC.at_
    cases this
    exact⟨_,_,_,_,_,rfl,hH,hφ,hC.att,hC.cls,.inr ⟨_,rfl,F.val _ hm _ hn⟩,k _ fun _ _ _=> .bl _⟩
  ·cases h
 ·cases h
theorem zTG{tf:TE}{t:TA}(hf:PE X fx tf)(ha:PA X (e::es) t)
  (hc:eval (.Call fx (e::es) [] pos) X.env=(do callWith pos (<- eval fx X.env) [] (Cg pos (starEach (e::es) X.env)) (Fs pos (Dy [] X.env))):=by rfl)
  (he:starEach (e::es) X.env=(false,eval e X.env)::starEach es X.env:=by rfl) (hpl:(Cg pos (starEach es X.env)).any (·.1)=false:=by rfl):
  PE X (.Call fx (e::es) [] pos) (zUE X tf t):=by
 intro a6 s σ H Q I h
 rw[hc]
 refine A0 (thn (hf a6 s σ H _ I h) fun u s1 ⟨x,H1,I1,rx,f,sp,ex,F,q⟩=> ?_)
 subst ex
 obtain rfl:u=Av f:=rx
 obtain⟨k,fd,qs,F,hr,hk,hb⟩:=F
 refine Fh (h₀:=X.base) I.ok.mod.kin hk (thn (ha pos a6 s1 σ H1 _ I1 q) fun us s2 ⟨vs,H2,I2,r,q2⟩=>⟨I2.kIn,zPG (dvs:=[]) (ds:=[]) F hr hb .nil zTH I2 r ?_⟩) he hpl
 rwa[Bi]
noncomputable def zKL(n:Nat)(mF:List Nat)(tb:List (Str×VFun))(fe:VF)(fs:VFg):VF:=fun δ=>match fe δ with
 |some (.fn x,δ1)=>(zI8 tb x).bind fun F=>zAF n mF F fs δ1
 |_=>none
theorem zSI{n:Nat}{mF:List Nat}{tb:List (Str×VFun)}{fs:VFg}(ht:zS4 X K mF n tb)(hf:PE X fx (TV K ml pf ft fi fe))(ha:PA X (e::es) (TAG K ml ps fs))
  (hc : eval (.Call fx (e :: es) [] pos) X.env = (do callWith pos (<- eval fx X.env) [] (Cg pos (starEach (e :: es) X.env)) (Fs pos (Dy [] X.env))) := by rfl)
  (he : starEach (e :: es) X.env = (false,eval e X.env) :: starEach es X.env := by rfl) (hpl : (Cg pos (starEach es X.env)).any (·.1) = false := by rfl) :
  PE X (.Call fx (e::es) [] pos) (TV K ml false true true (zKL n mF tb fe fs)):=(zTG hf ha hc he hpl).imp fun σ H Q h=>by
 obtain⟨B,O,δ,d,δ',S,q,k⟩:=h
 unfold zKL at q
 split at q
 ·rename_i x δ1 hx
  cases hF:zI8 tb x with
  | none => rw [hF] at q;cases q
  |some F=>
   rw[hF] at q
   refine⟨B,O,δ,_,δ1,S,hx,fun v H1 R1=> ?_⟩
   have r:=R1.rep
   cases r with
   |fn h=>
    refine⟨_,_,rfl,ht x F _ hF h,?_⟩
    obtain⟨B',O',δ2,as,δ3,S',q',k'⟩:=zFF (F:=F) (fs:=fs) (K:=K) (ml:=ml) (ps:=ps) (n:=n) (mF:=mF) (σ:=σ) (H:=H1) (Q:=Q) ⟨B,O,δ1,d,δ',R1.sta,q,fun v H' R'=>k v H' ⟨R'.sta,R1.frm.trans R'.frm,(fun z=>nomatch z),R'.rep⟩⟩
    exact⟨B',O',δ2,as,δ3,S',q',fun vs H' R=>by have z:spV K mF n F (vs++[]) H' Q E0:=k' vs H' R;rwa[Bi] at z⟩
 ·cases q
noncomputable def zGS:List (Str×(List Dat->Option Str))->Str->Option (List Dat->Option Str)
 |[],_=>none
 |(y,F)::r,x=>if y=x then some F else zGS r x
def TabX(X:Cx)(K:A8)(n:Nat)(tb:List (Str×(List Dat->Option Str))):Prop:= ∀x F a,zGS tb x=some F->E4 K mainGlobals x=some (some (.ref a))→
 ∃(k:Nat) (fd:C2) (qs:List Str),FnOk X.prog X.w X.K X.mg X.base (CXv X.prog X.w) k a fd qs (spX K n F)/\Room k X.A/\Dx X.K (.ref a)=true/\zFY X.K fd qs []
theorem zSQ{n:Nat}:TabX X K n []:=fun _ _ _ h=>nomatch h
theorem zJD{x:Str}{kk j:Nat}{qs:List Str}{F:List Dat->Option Str}{ff:Addr}{tb:List (Str×(List Dat->Option Str))}(hK:X.K=K)(hm: ∀x a,E4 K mainGlobals x=some (some (.ref a))->X.mg x=some (.ref a))(hr:Room j X.A)
  (D:DefX X.prog X.w K X.mg X.base x kk qs F ff) (hk:kk<=j) (t:TabX X K qs.length tb):TabX X K qs.length ((x,F)::tb):=fun y G a h1 h2=>by
 unfold zGS at h1
 split at h1
 ·rename_i hxy
  subst hxy
  cases h1
  have e:=(hm x a h2).symm.trans D.at_
  cases e
  subst hK
  obtain⟨fd,F,Bd⟩:=D.ok
  exact⟨kk,fd,qs,F,hr.mono hk,D.kp,Bd⟩
 ·exact t y G a h1 h2
noncomputable def zJ2(n:Nat)(tb:List (Str×(List Dat->Option Str)))(fe:VF)(fs:VFg):VZ:=fun δ=>match fe δ with
 |some (.fn x,δ1)=>(zGS tb x).bind fun F=>zJ3 n F fs δ1
 |_=>none
theorem zSB{n:Nat}{tb:List (Str×(List Dat->Option Str))}{fs:VFg}(hz:RzF X R)(hK:X.K=K)(hex:X.ex=[])(ht:TabX X K n tb)(hf:PE X fx (TV K ml pf ft fi fe))(ha:PA X (e::es) (TAG K ml ps fs))
  (hc : eval (.Call fx (e :: es) [] pos) X.env = (do callWith pos (<- eval fx X.env) [] (Cg pos (starEach (e :: es) X.env)) (Fs pos (Dy [] X.env))) := by rfl)
  (he : starEach (e :: es) X.env = (false,eval e X.env) :: starEach es X.env := by rfl) (hpl : (Cg pos (starEach es X.env)).any (·.1) = false := by rfl) :
  PE X (.Call fx (e::es) [] pos) (ZE R K ml (zJ2 n tb fe fs)):=by
 intro a6 s σ H Q I h
 obtain⟨B,O,δ,x0,δ',S,q,k⟩:=h
 unfold zJ2 at q
 split at q
 ·rename_i x δ1 hx
  cases hF:zGS tb x with
  | none => rw [hF] at q;cases q
  |some XF=>
   rw[hF,A7] at q
   rw[hc]
   refine A0 (thn (hf a6 s σ H (fun v H1=> ∃a,v= .ref a/\E4 K mainGlobals x=some (some (.ref a))/\Sta K ml B O H1 σ δ1) I ⟨B,O,δ,_,δ1,S,hx,fun v H1 R1=> ?_⟩) fun u s1 hq=> ?_)
   ·have r:=R1.rep
    cases r with
    |fn h=>exact⟨_,rfl,h,R1.sta⟩
   ·obtain⟨v,H1,I1,rx,a,rfl,hn,S1⟩:=hq
    obtain rfl:u=Av a:=rx
    obtain⟨kk,fd,qs,F,hr,hkp,hb⟩:=ht x XF a hF hn
    refine Fh (h₀:=X.base) I.ok.mod.kin hkp (thn (ha pos a6 s1 σ H1 _ I1 (zOR (ps:=ps) (Q:=Q) hz hK hex ⟨B,O,δ1,x0,δ',S1,q,k⟩)) fun us s2 hq=> ?_) he hpl
    obtain⟨vs,H2,I2,rv,E,hE,hs⟩:=hq
    have hl:us.length=qs.length:=by rw[<- rv.length];exact F.len _ _ _ _ hs
    have hb:=hb s2 us I2.kIn (by simpa using hl)
    rw[Bi] at hb
    refine⟨I2.kIn,Jx (Fg (F.run X.A X.stack s2 H2 ⟨us,[]⟩ us vs Q E hr I2.env0 hb rv hs) fun r s' hq=> ?_)⟩
    cases r with
    |error e'=>exact hE a6 s2 e' s' I2 hq
    |ok fl=>cases fl with
     |ret u=>exact I2.after hq
     |next=>cases hq
     |brk=>cases hq
     |cont=>cases hq
 ·cases q
end
theorem zRD(l b:Addr)(u v:Array Value)(n m:Nat)(sl:Array (Option Value))(h0: ¬(!u.isEmpty && Dt (u.size+v.size))=true)(h1:u.size<=sizeLine)(h2:(u++v).size<=sizeLine+1):
  Meets (D3.«list.extend» ⟨[.ref l,.ref b],[]⟩) (fun _ R s=>s.heap.get? l=some ⟨.type "list",none,.seq u n,#[]⟩/\s.heap.get? b=some ⟨.type "list",none,.seq v m,sl⟩/\R (.ok (.ret .none)) {s with heap:=s.heap.update l (Cu fun x=>x++v)}):=
 .of_wp fun prog w A R s h=>by
  obtain⟨hp,g,d,tk,os⟩:=s
  obtain⟨hl,hb,h⟩:=h
  have f1:=Hr
  have f2:=AutoSeq1.sub_tuple_tuple
  have f3:=AutoSeq1.sub_list_list
  have f4:=AutoSeq1.sub_tuple_list
  have f5:=AutoSeq1.sub_list_tuple
  wp_walk using(wpAny_updateSeq hl rfl (hz:=h1) (_hz':=h2)),Bt hl,Bt hb
  exact⟨_,rfl,h⟩
def zWB(K:A8):V->List V->Hp->VK->Prop:=fun x vs H Q=> ∃l b xs zs,x= .ref l/\vs=[.ref b]/\H l=some (.lst xs)/\SqL K H b zs/\xs.length+zs.length<=sizeLine/\Q .non (upd H l (.lst (xs++zs)))
theorem zXE{X:Cx}:MtM X "list.extend" (zWB X.K):=by
 intro a6 s σ H x vs v us Q I rx rv h
 obtain⟨l,b,xs,zs,rfl,rfl,hH,hB,hz,q⟩:=h
 cases rx
 obtain⟨u,rfl,ru⟩:=rv.one
 cases ru
 obtain⟨z,its,n,r,hl,e⟩:=I.lstM hH
 obtain⟨cw,r2,⟨⟨cls,dd,data,sl⟩,n2,e2,hc,hd,ao⟩,_⟩:=I.list hB
 simp only at hc hd ao
 subst hc hd ao
 have hl2:=r2.length
 have hsz:its.toArray.size+cw.toArray.size<=sizeLine:=by rw[Ad,Ad];omega
 refine Du F.slot_list_extend ⟨_,e,rfl⟩ F.entry_list_extend (F.args_list_extend_2 _ _) (zRD l b its.toArray cw.toArray n n2 sl (by
  rw[zTO hsz,Bool.and_false]
  exact Cb) (by rw[Ad];omega) (by rw[Array.size_append];omega)) ⟨e,e2,?_⟩
 refine⟨.non,_,I.lset (its':=its++cw) hH e (by simp) (r.append r2) ?_,rfl,q⟩
 rw[Bf]
 omega
theorem zXL{X:Cx}{K:A8}(h:X.K=K):MtM X "list.extend" (zWB K):=by subst h;exact zXE
noncomputable def mExt:List Dat->List Dat->Option (List Dat)
 |ds,[.lst es]=>if ds.length+es.length<=16777216 then some (ds++es) else none
 |_,_=>none
theorem zQN{K:A8}:MuV K (zWB K) mExt:=by
 intro H N l xs vs ds es ds' Q hl hN rx re h k
 cases re with
 | nil => cases h
 | @cons v vs d es hd t=>
  cases t with
  | cons _ _ => cases d <;> cases h
  |nil=>
   cases d with
   |lst es=>
    simp only[mExt] at h
    split at h
    ·rename_i hz
     cases h
     obtain⟨b,zs,rfl,sq,r⟩:=hd.lstE
     exact⟨l,b,xs,zs,rfl,rfl,hl,sq,by rw[rx.length,r.length,Bb];exact hz,k _ _ (rx.append r)⟩
    ·cases h
   |_=>cases h
theorem zIW:Ar "ValueError"=some (.type "ValueError"):=by decide+kernel
theorem zDL.mark{k:Nat}{A:B8}(r:zDL k A)(h:Option Value):zDL k (A.mark h):=⟨r.dp,r.un⟩
noncomputable def xiOk(K:A8)(cs all:List Str):Bool:=cs.all fun c=>match E4 K mainGlobals c with
 |some (some (.ref C))=>all.all (fun x=>match E4 K mainGlobals x with
  |some (some (.ref D))=>Fq K (.ref C) (.ref D)==some (decide (c=x))
  |_=>false) && Fq K (.ref C) (.type "ValueError")==some true
 |_=>false
theorem XI.of{K:A8}{cs all:List Str}(own: ∀c∈cs,∃C,XC K c C)(h:xiOk K cs all=true):XI K cs all:=by
 have key: ∀c∈cs,∀C,E4 K mainGlobals c=some (some (.ref C))->(∀x∈all,∃D,E4 K mainGlobals x=some (some (.ref D))/\Fq K (.ref C) (.ref D)=some (decide (c=x)))/\Fq K (.ref C) (.type "ValueError")=some true:=by
  intro c hc C hn
  have:=Br.mp h c hc
  rw[hn] at this
  simp only[A3,beq_iff_eq] at this
  refine⟨fun x hx=> ?_,this.2⟩
  have h2:=Br.mp this.1 x hx
  split at h2
  ·rename_i D hD
   exact⟨D,hD,beq_iff_eq.mp h2⟩
  ·cases h2
 exact⟨own,fun c hc C hn=>(key c hc C hn).1,fun c hc C hn=>(key c hc C hn).2⟩
theorem zXF{P:Aj}{w:World}{K:A8}{mg:Str->Option Value}{base h:Heap}{x:Str}{st:Stmt}{f:Addr}{ps:List Str}{XF:List Dat->Option Str}{k:Nat}(X:K.In h)(G:h.Ns mainGlobals mg)(p:A4 K x st f)(ok: ∀{fd:C2},Fun K x x st f fd->FnOk P w K mg base (CXv P w) k f fd ps (spX K ps.length XF))
  (hb: ∀{kV doc pm:Value} {an:Option Addr} {cdv ct:Value} (us:List Value),us.length=ps.length->bindArgs (Fj x x (zBP st) (zB0 st) (zA4 st) .none kV doc pm an cdv ct) ⟨us,[]⟩=pure (ps.zip us)):DefX P w K mg base x k ps XF f:=by
 obtain⟨oc,od,kV,doc,pm,an,cdv,ct,osl,a,b,c,d⟩:=p
 have U:=zN4 (st:=st) b c d
 exact⟨C4 X G a,⟨_,ok U,U.binds fun _ _ _ _ _ _=>hb⟩,d⟩
theorem yF7{P:Aj}{w:World}{K:A8}{mg:Str->Option Value}{base h:Heap}{x:Str}{st:Stmt}{f:Addr}{ps:List Str}{sp:Sp}{k:Nat}(X:K.In h)(G:h.Ns mainGlobals mg)(p:A4 K x st f)(ok: ∀{fd:C2},Fun K x x st f fd->FnH P w K mg base k f fd ps sp)
  (hb: ∀{kV doc pm:Value} {an:Option Addr} {cdv ct:Value} (us:List Value),us.length=ps.length->bindArgs (Fj x x (zBP st) (zB0 st) (zA4 st) .none kV doc pm an cdv ct) ⟨us,[]⟩=pure (ps.zip us)):DefH P w K mg base x k ps sp f:=by
 obtain⟨oc,od,kV,doc,pm,an,cdv,ct,osl,a,b,c,d⟩:=p
 have U:=zN4 (st:=st) b c d
 exact⟨C4 X G a,⟨_,ok U,U.binds fun _ _ _ _ _ _=>hb⟩,d⟩
theorem okZ(P:Aj)(w:World)(K:A8)(mg:Str->Option Value)(base:Heap){x qual:Str}{st:Stmt}{f:Addr}{fd:C2}(N ps:List Str)(k:Nat)(z:VZ)(F:Fun K x qual st f fd)(S:zAD N ps (zA4 st))
  (aj: ∀(cdv:Value) (A:B8) (outer:List Env) (s:A2) (H:Hp) (E:XK) (hr:Room k (A.deeper (envOfC qual (zA4 st) s.heap.objs.size f cdv))) (_:(A.deeper (envOfC qual (zA4 st) s.heap.objs.size f cdv)).units+64<cLine) (_:(A.deeper (envOfC qual (zA4 st) s.heap.objs.size f cdv)).units+1<cLine),
   PSs (cxOf (CXv P w) P w K mg base N qual (zA4 st) f cdv A outer s H E) (zB0 st) (ZS (rE K E) K [] z)) (hps:ps.length<=N.length:=by decide):FnOk P w K mg base (CXv P w) (k+1) f fd ps (spX K ps.length (runZ N.length z)):=
 Fun.okX F S hps fun cdv A outer s H E hr=>aj cdv A outer s H E hr hr.units (zXS hr)
theorem okWH(P:Aj)(w:World)(K:A8)(mg:Str->Option Value)(base:Heap){x qual:Str}{st:Stmt}{f:Addr}{fd:C2}(N ps:List Str)(k:Nat)(g:VS)(ml:List Nat)(F:Fun K x qual st f fd)(S:zAD N ps (zA4 st))
  (aj: ∀(cdv:Value) (A:B8) (outer:List Env) (s:A2) (H:Hp) (hr:zDL k (A.deeper (envOfC qual (zA4 st) s.heap.objs.size f cdv))) (_:(A.deeper (envOfC qual (zA4 st) s.heap.objs.size f cdv)).units+64<cLine) (_:(A.deeper (envOfC qual (zA4 st) s.heap.objs.size f cdv)).units+1<cLine),
   PSs (cxH P w K mg base N qual (zA4 st) f cdv A outer s H) (zB0 st) (TSt K ml g)) (hps:ps.length<=N.length:=by decide):FnH P w K mg base (k+1) f fd ps (spV K ml ps.length (runV N.length ml g)):=
 Fun.okVH F S hps fun cdv A outer s H hr=>aj cdv A outer s H hr hr.units hr.unit
noncomputable def repN{α:Type}(k:Nat)(xs:List α):List α:=(Aa k xs).flatten
theorem zIB{α:Type}(k:Nat)(xs:List α):(repN k xs).length=xs.length*k:=by
 unfold repN
 induction k with
 |zero=>simp
 |succ k ih=>rw[Cf,Dv,Bf,ih,Nat.mul_succ,Kh]
theorem Vals.repV{xs:List V}{us:List Value}(r:Vals xs us)(k:Nat):Vals (repN k xs) (repN k us):=by
 unfold repN
 induction k with
 |zero=>exact .nil
 |succ k ih=>rw[Cf,Cf,Dv,Dv];exact r.append ih
theorem RepA.rep{K:A8}{N:Addr->Prop}{H:Hp}{xs:List V}{ds:List Dat}(r:RepA K N H xs ds)(k:Nat):RepA K N H (repN k xs) (repN k ds):=by
 unfold repN
 induction k with
 |zero=>exact .nil
 |succ k ih=>rw[Cf,Cf,Dv,Dv];exact r.append ih
theorem zGC:fillsNumberSlot (.type "tuple") "mul"=pure false:=
 PySem.fillsNumberSlot_seq (id:= "tuple.__mul__") (r:=some (.builtin "tuple.__rmul__")) F.slot_tuple_mul.lookup (by decide+kernel) F.slot_tuple_rmul.lookup (by decide+kernel)
theorem zJS:seqRepeat? (.type "tuple")=pure (some (.builtin "tuple.__mul__")):=by
 unfold seqRepeat?
 rw[Ku (T:= "tuple") (name:= "__mul__") (id:= "tuple.__mul__") F.slot_tuple_mul.lookup (by decide+kernel),Ku (T:= "tuple") (name:= "__rmul__") (id:= "tuple.__rmul__") F.slot_tuple_rmul.lookup (by decide+kernel)]
 rfl
theorem zNO(a:Int)(t:Tok)(l:Addr)(u:Array Value)(n:Nat)(dd:Option Addr)(sl:Array (Option Value)):Meets (D3.«int.__rmul__» ⟨[.int a t,.ref l],[]⟩) (fun _ R s=>s.heap.get? l=some ⟨.type "tuple",dd,.seq u n,sl⟩/\R (.ok (.ret Value.notImplemented)) s):=
 .of_wp fun prog w A R s h=>by
  obtain⟨hp,g,d,tk,os⟩:=s
  obtain⟨hl,h⟩:=h
  wp_walk
  exact⟨_,rfl,h⟩
theorem zNZ(l:Addr)(t:Tok)(u:Array Value)(n:Nat)(dd:Option Addr)(sl:Array (Option Value)):Meets (D3.«tuple.__mul__» ⟨[.ref l,.int 1 t],[]⟩) (fun _ R s=>s.heap.get? l=some ⟨.type "tuple",dd,.seq u n,sl⟩/\R (.ok (.ret (.ref l))) s):=
 .of_wp fun prog w A R s h=>by
  obtain⟨hp,g,d,tk,os⟩:=s
  obtain⟨hl,h⟩:=h
  have f1:=Hr
  unfold D3.«tuple.__mul__»
  wp_walk using Bt hl
  exact⟨_,rfl,h⟩
theorem zNY(l:Addr)(x:Int)(t:Tok)(u:Array Value)(n:Nat)(dd:Option Addr)(sl:Array (Option Value))(h1:1<x)(h2:x<2 ^ 62)(hu:u.isEmpty=false)(hz:u.size*x.toNat<=16777216):Meets (D3.«tuple.__mul__» ⟨[.ref l,.int x t],[]⟩)
  (fun _ R s => s.heap.get? l = some ⟨.type "tuple",dd,.seq u n,sl⟩ /\ R (.ok (.ret (.ref s.heap.objs.size))) { s with heap := s.heap.push { cls := .type "tuple",data := .seq ((Aa x.toNat u).foldl (· ++ ·) #[]) } }) :=
 .of_wp fun prog w A R s h=>by
  obtain⟨hp,g,d,tk,os⟩:=s
  obtain⟨hl,h⟩:=h
  have f1:=Hr
  unfold D3.«tuple.__mul__»
  have e1:(decide (x< -2 ^ 63) || decide (x≥2 ^ 63))=false:=by simp;omega
  have e2:(x==1)=false:=by simp;omega
  have e3:decide (x<=0)=false:=by simp;omega
  have e4:(u.size:Int)*x=((u.size*x.toNat:Nat):Int):=by rw[Int.natCast_mul,Ga (by omega)]
  have e5: ¬((u.size:Int)*x>(2 ^ 63 - 1)/8):=by rw[e4];omega
  have e6:Gj ((u.size:Int)*x)=false:=by rw[e4];unfold Gj;simp only[Bb,decide_eq_false_iff_not];omega
  wp_walk using Bt hl
  rw[e1]
  wp_walk using Bt hl
  simp only[hu,e2,e3,Md]
  wp_walk
  rw[e6,if_neg e5]
  have e7: ¬(List.foldl (fun x1 x2=>x1++x2) #[] (Aa x.toNat u)).size>sizeLine:=by
   have:=zIB x.toNat u.toList
   unfold repN at this
   rw[listMul_foldl,Ad]
   show¬([]++(Aa x.toNat u.toList).flatten).length>sizeLine
   rw[D8,this,Dw,Bb]
   omega
  wp_walk
  exact⟨_,rfl,h⟩
section
variable{X:Cx}{K:A8}
def zZP(K:A8):R2:=fun x y H Q=> ∃l xs k,x= .ref l/\y= .int k/\SqL K H l xs/\(0<=k/\k<2 ^ 62)/\xs.length*k.toNat<=16777216/\ ∀p,H p=none->Q (.ref p) (upd H p (.lst (repN k.toNat xs)))
theorem zWW:OpR X (Dh .Mult) (zZP X.K):=by
 intro a6 s σ H x y v u Q I rx ry h
 obtain⟨l,xs,x,rfl,rfl,hq,⟨x0,x1⟩,hz,q⟩:=h
 cases rx
 obtain⟨t,rfl⟩:=ry
 obtain⟨its,r,⟨⟨cls,dd,data,sl⟩,n,ho,hc,hd,ao⟩,_⟩:=I.list hq
 simp only at hc hd ao
 subst hc hd ao
 have hl:=r.length
 have hsz:its.toArray.size*x.toNat<=16777216:=by rw[Ad,<- hl];exact hz
 refine Gw (T:= "list") (U:= "int") (by decide) ⟨_,ho,rfl⟩ (fun s'=>Ir s' x t) noFill_list_mul Lr Gb repeat_list F.slot_int_index.lookup
  (Du Gb (Ir s x t) Kv (K9 _ _) (lm_int_rmul_list_any x t l its.toArray n none sl) ⟨ho,rfl,⟨_,ho,rfl⟩,?_⟩)
 refine Du F.slot_list_mul ⟨_,ho,rfl⟩ F.entry_list_mul (F.args_list_mul_2 _ _) (lm_list_mul_any l its.toArray n none sl x t (by simp[Builtin.List.listFitsIndex];omega) (by omega) (by simp[Dt,sizeLine];omega)) ⟨ho,?_⟩
 rw[listMul_foldl_if]
 refine⟨.ref s.heap.objs.size,_,I.laid (t':=s.toks) (o:= .lst (repN x.toNat xs)) (fun b ob e=>A1 _ e) (Af _) ?_,rfl,q _ (I.hok.fresh (Af _))⟩
 exact⟨by rw[zIB,Bb];exact hz,repN x.toNat its,0,r.repV _,Ai _ rfl⟩
def zZO(K:A8):R2:=fun x y H Q=> ∃l xs k,x= .ref l/\y= .int k/\SqT K H l xs/\xs≠[]/\(1<=k/\k<2 ^ 62)/\xs.length*k.toNat<=16777216/\(k=1->Q (.ref l) H)/\ ∀p,H p=none->Q (.ref p) (upd H p (.tup (repN k.toNat xs)))
theorem zWV:OpR X (Dh .Mult) (zZO X.K):=by
 intro a6 s σ H x y v u Q I rx ry h
 obtain⟨l,xs,x,rfl,rfl,hq,hne,⟨x0,x1⟩,hz,q1,q⟩:=h
 cases rx
 obtain⟨t,rfl⟩:=ry
 obtain⟨its,r,⟨⟨cls,dd,data,sl⟩,ho,hc,n,hd⟩,_⟩:=I.tuple hq
 simp only at hc hd
 subst hc hd
 have hl:=r.length
 have hsz:its.toArray.size*x.toNat<=16777216:=by rw[Ad,<- hl];exact hz
 have hu:its.toArray.isEmpty=false:=by
  cases its with
  |nil=>exact absurd (r.nil_iff.mp rfl) hne
  |cons a b=>rfl
 refine Gw (T:= "tuple") (U:= "int") (by decide) ⟨_,ho,rfl⟩ (fun s'=>Ir s' x t) zGC Lr Gb zJS F.slot_int_index.lookup
  (Du Gb (Ir s x t) Kv (K9 _ _) (zNO x t l its.toArray n dd sl) ⟨ho,rfl,⟨_,ho,rfl⟩,?_⟩)
 by_cases hk:x=1
 ·subst hk
  exact Du Kw ⟨_,ho,rfl⟩ Ka (Jr _ _) (zNZ l t its.toArray n dd sl) ⟨ho,⟨.ref l,H,I,rfl,q1 rfl⟩⟩
 ·refine Du Kw ⟨_,ho,rfl⟩ Ka (Jr _ _) (zNY l x t its.toArray n dd sl (by omega) x1 hu hsz) ⟨ho,?_⟩
  rw[listMul_foldl]
  refine⟨.ref s.heap.objs.size,_,I.laid (t':=s.toks) (o:= .tup (repN x.toNat xs)) (fun b ob e=>A1 _ e) (Af _) ?_,rfl,q _ (I.hok.fresh (Af _))⟩
  exact⟨by rw[zIB,Bb];exact hz,repN x.toNat its,r.repV _,G2 _ _⟩
def zZQ(K:A8):R2:=fun x y H Q=>zZP K x y H Q∨zZO K x y H Q
theorem kRep(h:X.K=K):OpR X (Dh .Mult) (zZQ K):=by subst h;exact zWW.or zWV
noncomputable def zBW:Dat->Dat->Option Dat
 | .lst ds,.int k=>if(0<=k/\k<2 ^ 62)/\ds.length*k.toNat<=16777216 then some (.lst (repN k.toNat ds)) else none
 | .tup (d::ds),.int k=>if(1<=k/\k<2 ^ 62)/\(ds.length+1)*k.toNat<=16777216 then some (.tup (repN k.toNat (d::ds))) else none
 |_,_=>none
theorem zF8:OpC K (zZQ K) zBW:=by
 intro H N M M' x y d e c Q hx hy h k
 cases d with
 |lst ds=>
  cases e with
  |int i=>
   simp only[zBW] at h
   split at h
   ·rename_i hz
    cases h
    obtain⟨a,xs,rfl,q1,r1⟩:=hx.lstE
    cases hy
    exact .inl ⟨a,xs,i,rfl,rfl,q1,hz.1,by rw[r1.length];exact hz.2,fun p hp=>k _ _ (zA5 hp) fun M hM=> .lst zAG (fun z=>by
     obtain⟨o,q⟩:=hM _ z
     rw[hp] at q
     cases q) ((r1.rep _).same (zA5 hp))⟩
   ·cases h
  | _ => cases h
 |tup ds=>
  cases ds with
  | nil => cases h
  |cons d ds=>
   cases e with
   |int i=>
    simp only[zBW] at h
    split at h
    ·rename_i hz
     cases h
     obtain⟨a,xs,rfl,q1,r1⟩:=hx.tupE
     cases hy
     refine .inr ⟨a,xs,i,rfl,rfl,q1,fun z=> ?_,hz.1,by rw[r1.length];exact hz.2,fun z=> ?_,fun p hp=>k _ _ (zA5 hp) fun M hM=> .tup (SqT.of zAG) ((r1.rep _).same (zA5 hp))⟩
     ·subst z
      cases r1
     ·subst z
      refine k _ _ (Same.refl _) fun M hM=> ?_
      rw[show repN (1:Int).toNat (d::ds)=d::ds by simp[repN]]
      exact .tup q1 r1
    ·cases h
   |_=>cases h
 |_=>cases h
end
noncomputable def litA:Expr->Option Dat
 | .Constant (.int i) _ _=>some (.int i)
 | .Constant (.bool i) _ _=>some (.bl i)
 | .Constant (.str i) _ _=>some (.str i)
 | .Constant .none _ _=>some .non
 | .UnaryOp .USub (.Constant (.int i) _ _) _=>some (.int (-i))
 |_=>none
noncomputable def litL(f:Expr->Option Dat):List Expr->Option (List Dat)
 |[]=>some []
 |e::es=>(f e).bind fun d=>(litL f es).map fun ds=>d::ds
noncomputable def litD:Nat->Expr->Option Dat
 |0,e=>litA e
 |k+1,e=>match e with
  | .Tuple es _ _=>(litL (litD k) es).bind fun ds=>if ds.length<=16777216 then some (.tup ds) else none
  | .List es _=>(litL (litD k) es).bind fun ds=>if ds.length<=16777216 then some (.lst ds) else none
  |e=>litA e
section
variable{X:Cx}{K:A8}{ml:List Nat}
theorem zQV{e:Expr}{d:Dat}(h:litA e=some d):PE X e (TV K ml true true true (fC d)):=by
 unfold litA at h
 split at h
 ·cases h;exact zA1
 ·cases h;exact zDR
 ·cases h;exact zAE
 ·cases h;exact zBV
 ·cases h;exact zET zA1
 ·cases h
theorem zK6{e:Expr}{es:List Expr}{d:Dat}(h:litA e=some d):starEach (e::es) X.env=(false,eval e X.env)::starEach es X.env:=by
 unfold litA at h
 split at h<;>first
  |rfl
  |cases h
theorem zLO{f:Expr->Option Dat}(hf: ∀e d,f e=some d->PE X e (TV K ml true true true (fC d))/\ ∀es,starEach (e::es) X.env=(false,eval e X.env)::starEach es X.env): ∀{es:List Expr} {ds:List Dat},litL f es=some ds->PA X es (TAV K ml true true fun δ=>some (ds,δ))
 | [],_,h => by
  cases h
  exact zA7
 | e :: es,ds,h => by
  have h:((f e).bind fun d=>(litL f es).map fun ds=>d::ds)=some ds:=h
  cases h1:f e with
  | none => rw [h1] at h;cases h
  |some d=>
   rw[h1] at h
   have h:(litL f es).map (fun ds=>d::ds)=some ds:=h
   cases h2:litL f es with
   |none=>rw[h2] at h;cases h
   |some ds'=>
    rw[h2] at h
    cases h
    obtain⟨a,b⟩:=hf e d h1
    exact zA0 a (zLO hf h2) (b es)
theorem zLP: ∀{k:Nat} {e:Expr} {d:Dat},litD k e=some d->PE X e (TV K ml true true true (fC d))/\ ∀es,starEach (e::es) X.env=(false,eval e X.env)::starEach es X.env
 | 0,e,d,h => ⟨zQV h,fun es => zK6 h⟩
 | k + 1,e,d,h => by
  have hl: ∀(es:List Expr) (g:List Dat->Dat) (fg:VFs->VF),(∀fs δ,fg fs δ=(fs δ).bind fun p=>if p.1.length<=16777216 then some (g p.1,p.2) else none)->((litL (litD k) es).bind fun ds=>if ds.length<=16777216 then some (g ds) else none)=some d-> ∃ds,PA X es (TAV K ml true true fun δ=>some (ds,δ))/\fg (fun δ=>some (ds,δ))=fC d:=by
   intro es g fg hg h
   cases h1:litL (litD k) es with
   | none => rw [h1] at h;cases h
   |some ds=>
    rw[h1] at h
    have h:(if ds.length<=16777216 then some (g ds) else none)=some d:=h
    split at h
    ·rename_i hz
     cases h
     refine⟨ds,zLO (fun e d=>zLP) h1,funext fun δ=> ?_⟩
     rw[hg]
     show(if ds.length<=16777216 then some (g ds,δ) else none)=_
     rw[if_pos hz]
     rfl
    ·cases h
  unfold litD at h
  split at h
  ·rename_i es x1 pos
   obtain⟨ds,a,b⟩:=hl es .tup fTup (fun _ _=>rfl) h
   exact⟨b▸zAS a,fun _=>rfl⟩
  ·rename_i es pos
   obtain⟨ds,a,b⟩:=hl es .lst fLst (fun _ _=>rfl) h
   exact⟨b▸zYK a,fun _=>rfl⟩
  ·exact⟨zQV h,fun es=>zK6 h⟩
theorem zMA{k:Nat}{e:Expr}{d:Dat}(h:litD k e=some d):PE X e (TV K ml true true true (fC d)):=(zLP h).1
theorem zGO{k:Nat}{es:List Expr}{pos:Pos}{ds:List Dat}(h:litL (litD k) es=some ds)(hz:ds.length<=16777216):PE X (.List es pos) (TN K ml true (fC (.lst ds))):=by
 have a:=zAP (pos:=pos) (zLO (X:=X) (K:=K) (ml:=ml) (fun e d=>zLP (k:=k)) h)
 have b:fLst (fun δ=>some (ds,δ))=fC (.lst ds):=funext fun δ=>by
  show(if ds.length<=16777216 then some (Dat.lst ds,δ) else none)=_
  rw[if_pos hz]
  rfl
 exact b▸a
end
end L2
namespace L2
open PySem
section
variable{α β:Type}{d x y z c:Dat}{δ δ1 δ':Ev}{fa fb fc:VF}{o o':Dat->Dat->Option Dat}{i j k n:Nat}{s:Sl}{b:Bool}{ds:List Dat}
noncomputable def q0(r:Option α)(δ:Ev):Option (α×Ev):=r.map fun c=>(c,δ)
@[simp] theorem q0_s{a:α}:q0 (some a) δ=some (a,δ):=rfl
@[simp] theorem fC_e:fC d δ=some (d,δ):=rfl
noncomputable def qV:Option Sl->Ev->Option (Dat×Ev)
 |some (.va d),δ=>some (d,δ)
 |_,_=>none
noncomputable def qO:Option Sl->Ev->Option (Dat×Ev)
 |some (.va d),δ=>some (d,δ)
 |some (.ow d),δ=>some (d,δ)
 |_,_=>none
@[simp] theorem fV_e:fV i δ=qV δ[i]? δ:=by unfold fV qV;split<;>simp_all
@[simp] theorem fO_e:fO i δ=qO δ[i]? δ:=by unfold fO qO;split<;>simp_all
@[simp] theorem qV_s:qV (some (.va d)) δ=some (d,δ):=rfl
@[simp] theorem qO_v:qO (some (.va d)) δ=some (d,δ):=rfl
@[simp] theorem qO_o:qO (some (.ow d)) δ=some (d,δ):=rfl
noncomputable def q1(o:Dat->Option Dat)(r:Option (Dat×Ev)):Option (Dat×Ev):=r.bind fun p=>q0 (o p.1) p.2
@[simp] theorem f1_e{o:Dat->Option Dat}:f1 o fa δ=q1 o (fa δ):=rfl
@[simp] theorem q1_s{o:Dat->Option Dat}:q1 o (some (x,δ))=q0 (o x) δ:=rfl
noncomputable def q2(o:Dat->Dat->Option Dat)(r:Option (Dat×Ev))(fb:VF):Option (Dat×Ev):=r.bind fun p=>(fb p.2).bind fun q=>q0 (o p.1 q.1) q.2
noncomputable def q2b(o:Dat->Dat->Option Dat)(x:Dat)(r:Option (Dat×Ev)):Option (Dat×Ev):=r.bind fun q=>q0 (o x q.1) q.2
@[simp] theorem f2_e:f2 o fa fb δ=q2 o (fa δ) fb:=rfl
@[simp] theorem q2_s:q2 o (some (x,δ)) fb=q2b o x (fb δ):=rfl
@[simp] theorem yJP:q2b o x (some (y,δ))=q0 (o x y) δ:=rfl
noncomputable def q3(o o':Dat->Dat->Option Dat)(r:Option (Dat×Ev))(fb fc:VF):Option (Dat×Ev):=r.bind fun p=>(fb p.2).bind fun q=>(o p.1 q.1).bind fun z=>match z with
 | .bl true=>(fc q.2).bind fun s=>(o' q.1 s.1).map fun u=>(u,s.2)
 | .bl false=>some (.bl false,q.2)
 |_=>none
noncomputable def q3b(o o':Dat->Dat->Option Dat)(x:Dat)(r:Option (Dat×Ev))(fc:VF):Option (Dat×Ev):=q3 o o' (some (x,[])) (fun _=>r) fc
noncomputable def q3c(o':Dat->Dat->Option Dat)(y:Dat)(δ:Ev)(fc:VF):Option Dat->Option (Dat×Ev)
 |some (.bl true)=>q2b o' y (fc δ)
 |some (.bl false)=>some (.bl false,δ)
 |_=>none
@[simp] theorem f3_e:f3 o o' fa fb fc δ=q3 o o' (fa δ) fb fc:=rfl
@[simp] theorem q3_s:q3 o o' (some (x,δ)) fb fc=q3b o o' x (fb δ) fc:=rfl
@[simp] theorem yJO:q3b o o' x (some (y,δ)) fc=q3c o' y δ fc (o x y):=by
 simp only[q3b,q3,A7]
 cases o x y with
 |none=>rfl
 |some z=>cases z with
  |bl b=>cases b<;>rfl
  |_=>rfl
@[simp] theorem yJM:q3c o' y δ fc (some (.bl true))=q2b o' y (fc δ):=rfl
@[simp] theorem yJN:q3c o' y δ fc (some (.bl false))=some (.bl false,δ):=rfl
noncomputable def qc(r:Option (Dat×Ev))(fs:VFs):Option (List Dat×Ev):=r.bind fun p=>(fs p.2).map fun q=>(p.1::q.1,q.2)
noncomputable def qcb(x:Dat)(r:Option (List Dat×Ev)):Option (List Dat×Ev):=r.map fun q=>(x::q.1,q.2)
@[simp] theorem yIF:fNil δ=some ([],δ):=rfl
@[simp] theorem yFV{fs:VFs}:zA3 fa fs δ=qc (fa δ) fs:=rfl
@[simp] theorem qc_s{fs:VFs}:qc (some (x,δ)) fs=qcb x (fs δ):=rfl
@[simp] theorem yJ4:qcb x (some (ds,δ))=some (x::ds,δ):=rfl
noncomputable def qT(g:List Dat->Dat)(r:Option (List Dat×Ev)):Option (Dat×Ev):=r.bind fun p=>if p.1.length<=16777216 then some (g p.1,p.2) else none
@[simp] theorem yIE{fs:VFs}:fTup fs δ=qT .tup (fs δ):=rfl
@[simp] theorem yIG{fs:VFs}:fLst fs δ=qT .lst (fs δ):=rfl
@[simp] theorem qT_s{g:List Dat->Dat}:qT g (some (ds,δ))=if ds.length<=16777216 then some (g ds,δ) else none:=rfl
noncomputable def qB:Option (Dat×Ev)->Option (Bool×Ev)
 |some (.bl k,δ)=>some (k,δ)
 |_=>none
@[simp] theorem fB_e:fB fa δ=qB (fa δ):=by
 unfold fB qB
 cases fa δ with
 |none=>rfl
 |some p=>
  obtain⟨d,e⟩:=p
  cases d<;>rfl
@[simp] theorem qB_s:qB (some (.bl b,δ))=some (b,δ):=rfl
variable{tb tb':VB}{g g':VS}
noncomputable def qAnd(r:Option (Bool×Ev))(y:VB):Option (Bool×Ev):=r.bind fun p=>if p.1=true then y p.2 else some (false,p.2)
noncomputable def qOr(r:Option (Bool×Ev))(y:VB):Option (Bool×Ev):=r.bind fun p=>if p.1=true then some (true,p.2) else y p.2
noncomputable def qNot(r:Option (Bool×Ev)):Option (Bool×Ev):=r.map fun p=>(!p.1,p.2)
@[simp] theorem yIP:bAnd tb tb' δ=qAnd (tb δ) tb':=rfl
@[simp] theorem yK6:bOr tb tb' δ=qOr (tb δ) tb':=rfl
@[simp] theorem yIO:bNot tb δ=qNot (tb δ):=rfl
@[simp] theorem yCL:bYes δ=some (true,δ):=rfl
@[simp] theorem yHB:qAnd (some (true,δ)) tb=tb δ:=rfl
@[simp] theorem yHC:qAnd (some (false,δ)) tb=some (false,δ):=rfl
@[simp] theorem yJ9:qOr (some (true,δ)) tb=some (true,δ):=rfl
@[simp] theorem yJA:qOr (some (false,δ)) tb=tb δ:=rfl
@[simp] theorem yH5:qNot (some (b,δ))=some (!b,δ):=rfl
noncomputable def qA(r:Option (Dat×Ev))(y:VF):Option (Dat×Ev):=r.bind fun p=>match p.1 with
 | .bl true=>y p.2
 | .bl false=>some (.bl false,p.2)
 |_=>none
@[simp] theorem yIH:fAnd fa fb δ=qA (fa δ) fb:=rfl
@[simp] theorem qA_t:qA (some (.bl true,δ)) fb=fb δ:=rfl
@[simp] theorem qA_f:qA (some (.bl false,δ)) fb=some (.bl false,δ):=rfl
noncomputable def qI(r:Option (Bool×Ev))(x y:VF):Option (Dat×Ev):=r.bind fun p=>if p.1=true then x p.2 else y p.2
@[simp] theorem yK5:fIf tb fa fb δ=qI (tb δ) fa fb:=rfl
@[simp] theorem qI_t:qI (some (true,δ)) fa fb=fa δ:=rfl
@[simp] theorem qI_f:qI (some (false,δ)) fa fb=fb δ:=rfl
noncomputable def qS(r:Option Ou)(g:VS):Option Ou:=r.bind fun o=>match o with
 | .nx δ'=>g δ'
 |o=>some o
@[simp] theorem yGM:sNil δ=some (.nx δ):=rfl
@[simp] theorem zG2:sSeq g g' δ=qS (g δ) g':=rfl
@[simp] theorem qS_n:qS (some (.nx δ)) g=g δ:=rfl
@[simp] theorem qS_r:qS (some (.rt d δ)) g=some (.rt d δ):=rfl
@[simp] theorem qS_b:qS (some (.bk δ)) g=some (.bk δ):=rfl
@[simp] theorem qS_c:qS (some (.ct δ)) g=some (.ct δ):=rfl
noncomputable def qJ(r:Option (Bool×Ev))(x y:VS):Option Ou:=r.bind fun p=>if p.1=true then x p.2 else y p.2
@[simp] theorem yIQ:sIf tb g g' δ=qJ (tb δ) g g':=rfl
@[simp] theorem qJ_t:qJ (some (true,δ)) g g'=g δ:=rfl
@[simp] theorem qJ_f:qJ (some (false,δ)) g g'=g' δ:=rfl
noncomputable def qRet(r:Option (Dat×Ev)):Option Ou:=r.map fun p=> .rt p.1 p.2
noncomputable def zZX(r:Option (Dat×Ev)):Option Ou:=r.map fun p=> .nx p.2
@[simp] theorem yGL:sRet fa δ=qRet (fa δ):=rfl
@[simp] theorem yH1:qRet (some (d,δ))=some (.rt d δ):=rfl
@[simp] theorem yDS:zPC fa δ=zZX (fa δ):=rfl
@[simp] theorem yE2:zZX (some (d,δ))=some (.nx δ):=rfl
noncomputable def qx(f:Dat->Sl)(r:Option (Dat×Ev)):Option (Sl×Ev):=r.map fun p=>(f p.1,p.2)
@[simp] theorem xV_e:xV fa δ=qx .va (fa δ):=rfl
@[simp] theorem xO_e:xO fa δ=qx .ow (fa δ):=rfl
@[simp] theorem qx_s{f:Dat->Sl}:qx f (some (d,δ))=some (f d,δ):=rfl
noncomputable def qSet(i:Nat)(r:Option (Sl×Ev)):Option Ou:=r.bind fun p=>if i<p.2.length then some (.nx (p.2.set i p.1)) else none
@[simp] theorem yGK{x:VX}:sSet i x δ=qSet i (x δ):=rfl
@[simp] theorem yGY:qSet i (some (s,δ))=if i<δ.length then some (.nx (δ.set i s)) else none:=rfl
noncomputable def qP2(i j:Nat)(r:Option (Sl×Ev))(y:VX):Option Ou:=r.bind fun p=>(y p.2).bind fun q=>if i<q.2.length/\j<q.2.length then some (.nx ((q.2.set j q.1).set i p.1)) else none
noncomputable def qP2b(i j:Nat)(s:Sl)(r:Option (Sl×Ev)):Option Ou:=r.bind fun q=>if i<q.2.length/\j<q.2.length then some (.nx ((q.2.set j q.1).set i s)) else none
@[simp] theorem yDR{x y:VX}:zSY i j x y δ=qP2 i j (x δ) y:=rfl
@[simp] theorem yJ8{y:VX}:qP2 i j (some (s,δ)) y=qP2b i j s (y δ):=rfl
@[simp] theorem yH4{s':Sl}:qP2b i j s (some (s',δ))=if i<δ.length/\j<δ.length then some (.nx ((δ.set j s').set i s)) else none:=rfl
noncomputable def qP3(i j k:Nat)(r:Option (Sl×Ev))(y z:VX):Option Ou:=r.bind fun p=>(y p.2).bind fun q=>(z q.2).bind fun r=>if i<r.2.length/\j<r.2.length/\k<r.2.length then some (.nx (((r.2.set k r.1).set j q.1).set i p.1)) else none
noncomputable def qP3b(i j k:Nat)(s:Sl)(r:Option (Sl×Ev))(z:VX):Option Ou:=r.bind fun q=>(z q.2).bind fun r=>if i<r.2.length/\j<r.2.length/\k<r.2.length then some (.nx (((r.2.set k r.1).set j q.1).set i s)) else none
noncomputable def qP3c(i j k:Nat)(s s':Sl)(r:Option (Sl×Ev)):Option Ou:=r.bind fun r=>if i<r.2.length/\j<r.2.length/\k<r.2.length then some (.nx (((r.2.set k r.1).set j s').set i s)) else none
@[simp] theorem yDQ{x y z:VX}:zLB i j k x y z δ=qP3 i j k (x δ) y z:=rfl
@[simp] theorem yJ7{y z:VX}:qP3 i j k (some (s,δ)) y z=qP3b i j k s (y δ) z:=rfl
@[simp] theorem yH3{s':Sl}{z:VX}:qP3b i j k s (some (s',δ)) z=qP3c i j k s s' (z δ):=rfl
@[simp] theorem yH2{s' s'':Sl}:qP3c i j k s s' (some (s'',δ))=if i<δ.length/\j<δ.length/\k<δ.length then some (.nx (((δ.set k s'').set j s').set i s)) else none:=rfl
@[simp] theorem gN_e:gN i d δ=some (δ.set i (.va d)):=rfl
noncomputable def qg(r:Option Ev)(gs:VGs)(ds:List Dat):Option Ev:=r.bind fun δ1=>gs ds δ1
@[simp] theorem yFM:zDV [] δ=some δ:=rfl
@[simp] theorem yCU{gg:VG}{gs:VGs}:zB2 gg gs (d::ds) δ=qg (gg d δ) gs ds:=rfl
@[simp] theorem qg_s{gs:VGs}:qg (some δ) gs ds=gs ds δ:=rfl
@[simp] theorem yK2{gs:VGs}:gTp n gs (.tup ds) δ=if ds.length=n then gs ds δ else none:=rfl
@[simp] theorem yK3{gs:VGs}:gTp n gs (.lst ds) δ=if ds.length=n then gs ds δ else none:=rfl
noncomputable def qAsg(r:Option (Dat×Ev))(gg:VG):Option Ou:=r.bind fun p=>(gg p.1 p.2).map Ou.nx
@[simp] theorem yGO{gg:VG}:sAsg fa gg δ=qAsg (fa δ) gg:=rfl
@[simp] theorem yHA{gg:VG}:qAsg (some (d,δ)) gg=(gg d δ).map Ou.nx:=rfl
noncomputable def qM(i:Nat)(m:List Dat->List Dat->Option (List Dat))(r:Option (List Dat))(δ:Ev)(fs:VFs):Option Ou:=r.bind fun _=>(fs δ).bind fun p=>(ownL p.2 i).bind fun ds=>(m ds p.1).map fun ds'=> .nx (p.2.set i (.ow (.lst ds')))
noncomputable def qMb(i:Nat)(m:List Dat->List Dat->Option (List Dat))(r:Option (List Dat×Ev)):Option Ou:=r.bind fun p=>(ownL p.2 i).bind fun ds=>(m ds p.1).map fun ds'=> .nx (p.2.set i (.ow (.lst ds')))
noncomputable def qMc(i:Nat)(m:List Dat->List Dat->Option (List Dat))(es:List Dat)(δ:Ev)(r:Option (List Dat)):Option Ou:=r.bind fun ds=>(m ds es).map fun ds'=> .nx (δ.set i (.ow (.lst ds')))
noncomputable def qMd(i:Nat)(δ:Ev)(r:Option (List Dat)):Option Ou:=r.map fun ds'=> .nx (δ.set i (.ow (.lst ds')))
@[simp] theorem yGN{m:List Dat->List Dat->Option (List Dat)}{fs:VFs}:sMut i m fs δ=qM i m (ownL δ i) δ fs:=rfl
@[simp] theorem qM_s{m:List Dat->List Dat->Option (List Dat)}{fs:VFs}:qM i m (some ds) δ fs=qMb i m (fs δ):=rfl
@[simp] theorem yJF{m:List Dat->List Dat->Option (List Dat)}{es:List Dat}:qMb i m (some (es,δ))=qMc i m es δ (ownL δ i):=rfl
@[simp] theorem yJE{m:List Dat->List Dat->Option (List Dat)}{es:List Dat}:qMc i m es δ (some ds)=qMd i δ (m ds es):=rfl
@[simp] theorem yJD:qMd i δ (some ds)=some (.nx (δ.set i (.ow (.lst ds)))):=rfl
noncomputable def qOl:Option Sl->Option (List Dat)
 |some (.ow (.lst ds))=>some ds
 |_=>none
@[simp] theorem yHF:ownL δ i=qOl δ[i]? :=by unfold ownL qOl;split<;>simp_all
@[simp] theorem yJB:qOl (some (.ow (.lst ds)))=some ds:=rfl
@[simp] theorem yI0:mApp ds [d]=if ds.length<16777216 then some (ds++[d]) else none:=rfl
noncomputable def qOd:Option Sl->Option (List Key×List Dat)
 |some (.ow (.dct ks ds))=>some (ks,ds)
 |_=>none
@[simp] theorem yHG:ownD δ i=qOd δ[i]? :=by unfold ownD qOd;split<;>simp_all
@[simp] theorem yJC{ks:List Key}:qOd (some (.ow (.dct ks ds)))=some (ks,ds):=rfl
noncomputable def qL(i:Nat)(r:Option (Dat×Ev))(fi:VF):Option Ou:=r.bind fun p=>(ownL p.2 i).bind fun _=>(fi p.2).bind fun q=>(ownL q.2 i).bind fun ds=>match q.1 with
 | .int k=>(ixN ds.length k).map fun j=> .nx (q.2.set i (.ow (.lst (ds.set j p.1))))
 |_=>none
noncomputable def qLb(i:Nat)(x:Dat)(r:Option (List Dat))(δ:Ev)(fi:VF):Option Ou:=r.bind fun _=>(fi δ).bind fun q=>(ownL q.2 i).bind fun ds=>match q.1 with
 | .int k=>(ixN ds.length k).map fun j=> .nx (q.2.set i (.ow (.lst (ds.set j x))))
 |_=>none
noncomputable def qLc(i:Nat)(x:Dat)(r:Option (Dat×Ev)):Option Ou:=r.bind fun q=>(ownL q.2 i).bind fun ds=>match q.1 with
 | .int k=>(ixN ds.length k).map fun j=> .nx (q.2.set i (.ow (.lst (ds.set j x))))
 |_=>none
noncomputable def qLd(i:Nat)(x:Dat)(k:Int)(δ:Ev)(r:Option (List Dat)):Option Ou:=r.bind fun ds=>(ixN ds.length k).map fun j=> .nx (δ.set i (.ow (.lst (ds.set j x))))
@[simp] theorem yDP{fi fv:VF}:zSX i fi fv δ=qL i (fv δ) fi:=rfl
@[simp] theorem qL_s{fi:VF}:qL i (some (x,δ)) fi=qLb i x (ownL δ i) δ fi:=rfl
@[simp] theorem yJI{fi:VF}:qLb i x (some ds) δ fi=qLc i x (fi δ):=rfl
@[simp] theorem yJH{k:Int}:qLc i x (some (.int k,δ))=qLd i x k δ (ownL δ i):=rfl
@[simp] theorem yJG{k:Int}:qLd i x k δ (some ds)=(ixN ds.length k).map fun j=> .nx (δ.set i (.ow (.lst (ds.set j x)))):=rfl
noncomputable def qi(r:Option (Dat×Ev)):Option (List Dat×Ev):=r.bind fun p=>(seqD p.1).map fun ds=>(ds,p.2)
@[simp] theorem yIC:iSeq fa δ=qi (fa δ):=rfl
@[simp] theorem qi_t:qi (some (.tup ds,δ))=some (ds,δ):=rfl
@[simp] theorem qi_l:qi (some (.lst ds,δ))=some (ds,δ):=rfl
noncomputable def qr1:Option (Dat×Ev)->Option (List Dat×Ev)
 |some (.int j,δ)=>if -4611686018427387904<=j/\j<4611686018427387904 then some (rngD 0 j.toNat,δ) else none
 |_=>none
@[simp] theorem yK1:iR1 fa δ=qr1 (fa δ):=by
 unfold iR1 qr1
 cases fa δ with
 |none=>rfl
 |some p=>
  obtain⟨d,e⟩:=p
  cases d<;>rfl
@[simp] theorem yIX{j:Int}:qr1 (some (.int j,δ))=if -4611686018427387904<=j/\j<4611686018427387904 then some (rngD 0 j.toNat,δ) else none:=rfl
noncomputable def qe(r:Option (Dat×Ev)):Option (List Dat×Ev):=r.bind fun p=>(seqD p.1).map fun ds=>(enuD 0 ds,p.2)
@[simp] theorem yFL:zKD fa δ=qe (fa δ):=rfl
@[simp] theorem qe_t:qe (some (.tup ds,δ))=some (enuD 0 ds,δ):=rfl
@[simp] theorem qe_l:qe (some (.lst ds,δ))=some (enuD 0 ds,δ):=rfl
noncomputable def qz(r:Option (Dat×Ev))(g:VF):Option (List Dat×Ev):=r.bind fun p=>(g p.2).bind fun q=>(seqD p.1).bind fun ds=>(seqD q.1).map fun es=>(zipD ds es,q.2)
noncomputable def qzb(x:Dat)(r:Option (Dat×Ev)):Option (List Dat×Ev):=r.bind fun q=>(seqD x).bind fun ds=>(seqD q.1).map fun es=>(zipD ds es,q.2)
@[simp] theorem yIB:iZip fa fb δ=qz (fa δ) fb:=rfl
@[simp] theorem qz_s:qz (some (x,δ)) fb=qzb x (fb δ):=rfl
@[simp] theorem yIR:qzb x (some (y,δ))=(seqD x).bind fun ds=>(seqD y).map fun es=>(zipD ds es,δ):=rfl
@[simp] theorem yGI:seqD (.tup ds)=some ds:=rfl
@[simp] theorem yGJ:seqD (.lst ds)=some ds:=rfl
noncomputable def qF(r:Option (List Dat×Ev))(gg:VG)(g:VS):Option Ou:=r.bind fun p=>forV gg g p.1 p.2
@[simp] theorem zZI{fi:VI}{gg:VG}:sFor fi gg g δ=qF (fi δ) gg g:=rfl
@[simp] theorem qF_s{gg:VG}:qF (some (ds,δ)) gg g=forV gg g ds δ:=rfl
noncomputable def qK(ix:List Nat)(nl:Nat)(r:Option (List Dat×Ev))(gg:VG)(tb:VB)(fe:VF):Option (Dat×Ev):=r.bind fun p=>(zBX ix.length nl gg tb fe p.1 [] (zB9 ix p.2)).map fun q=>(.lst q.1,zCN ix q.2 p.2)
noncomputable def qKb(ix:List Nat)(δ:Ev)(r:Option (List Dat×Ev)):Option (Dat×Ev):=r.map fun q=>(.lst q.1,zCN ix q.2 δ)
@[simp] theorem yFW{ix:List Nat}{nl:Nat}{fi:VI}{gg:VG}:zC8 ix nl fi gg tb fa δ=qK ix nl (fi δ) gg tb fa:=rfl
@[simp] theorem qK_s{ix:List Nat}{nl:Nat}{gg:VG}:qK ix nl (some (ds,δ)) gg tb fa=qKb ix δ (zBX ix.length nl gg tb fa ds [] (zB9 ix δ)):=rfl
@[simp] theorem yJJ{ix:List Nat}:qKb ix δ (some (ds,δ1))=some (.lst ds,zCN ix δ1 δ):=rfl
variable{as:List AV}{fs:VFg}{mF:List Nat}{F:VFun}
noncomputable def qa(r:Option (Dat×Ev))(fs:VFg):Option (List AV×Ev):=r.bind fun p=>(fs p.2).map fun q=>(.d p.1::q.1,q.2)
noncomputable def qab(x:AV)(r:Option (List AV×Ev)):Option (List AV×Ev):=r.map fun q=>(x::q.1,q.2)
@[simp] theorem yCO:aNil δ=some ([],δ):=rfl
@[simp] theorem aE_e:aE fa fs δ=qa (fa δ) fs:=rfl
@[simp] theorem qa_s:qa (some (x,δ)) fs=qab (.d x) (fs δ):=rfl
@[simp] theorem zWE{a:AV}:qab a (some (as,δ))=some (a::as,δ):=rfl
noncomputable def qao(j:Nat)(r:Option Dat)(δ:Ev)(fs:VFg):Option (List AV×Ev):=r.bind fun _=>qab (.o j) (fs δ)
@[simp] theorem aO_e:aO j fs δ=qao j (slot δ j) δ fs:=rfl
@[simp] theorem yE1:qao j (some d) δ fs=qab (.o j) (fs δ):=rfl
noncomputable def qsl:Option Sl->Option Dat
 |some (.va d)=>some d
 |some (.ow d)=>some d
 |_=>none
@[simp] theorem yGH:slot δ j=qsl δ[j]? :=by unfold slot qsl;split<;>simp_all
@[simp] theorem yIV:qsl (some (.va d))=some d:=rfl
@[simp] theorem yIW:qsl (some (.ow d))=some d:=rfl
@[simp] theorem yG9:zEQ δ []=some []:=rfl
@[simp] theorem yGA:zEQ δ (.d d::as)=(zEQ δ as).map fun ds=>d::ds:=rfl
@[simp] theorem yG8:zEQ δ (.o j::as)=(slot δ j).bind fun d=>(zEQ δ as).map fun ds=>d::ds:=rfl
noncomputable def zZY(n:Nat)(mF:List Nat)(F:VFun)(r:Option (List AV×Ev)):Option (Dat×Ev):=r.bind fun p=>(zEQ p.2 p.1).bind fun ds=>if ds.length=n/\zF7 mF p.1 p.2=true then(F ds).bind fun q=>if zED mF p.1 q.1 q.2=true then some (q.1,putO p.1 mF q.2 p.2) else none else none
noncomputable def qCb(n:Nat)(mF:List Nat)(F:VFun)(as:List AV)(δ:Ev)(r:Option (List Dat)):Option (Dat×Ev):=r.bind fun ds=>if ds.length=n/\zF7 mF as δ=true then(F ds).bind fun q=>if zED mF as q.1 q.2=true then some (q.1,putO as mF q.2 δ) else none else none
noncomputable def qCc(mF:List Nat)(as:List AV)(δ:Ev)(r:Option (Dat×List Dat)):Option (Dat×Ev):=r.bind fun q=>if zED mF as q.1 q.2=true then some (q.1,putO as mF q.2 δ) else none
@[simp] theorem zIO:zAF n mF F fs δ=zZY n mF F (fs δ):=rfl
@[simp] theorem zWF:zZY n mF F (some (as,δ))=qCb n mF F as δ (zEQ δ as):=rfl
@[simp] theorem yE4:qCb n mF F as δ (some ds)=if ds.length=n/\zF7 mF as δ=true then qCc mF as δ (F ds) else none:=rfl
@[simp] theorem yE3{os:List Dat}:qCc mF as δ (some (d,os))=if zED mF as d os=true then some (d,putO as mF os δ) else none:=rfl
@[simp] theorem yF6:zTP δ as i=(match as[i]? with
 |some (.o j)=>match δ[j]? with
  |some (.ow _)=>true
  |_=>false
 |_=>false):=rfl
@[simp] theorem yI4:jsOf []=[]:=rfl
@[simp] theorem yI5:jsOf (.d d::as)=jsOf as:=rfl
@[simp] theorem yI3:jsOf (.o j::as)=j::jsOf as:=rfl
@[simp] theorem yCW:zF7 mF as δ=(mF.all (zTP δ as) && decide (jsOf as).Nodup):=rfl
@[simp] theorem yGC:zER mF [] i=true:=rfl
@[simp] theorem yGD:zER mF (.d d::as) i=zER mF as (i+1):=rfl
@[simp] theorem yGB:zER mF (.o j::as) i=(decide (i∈mF) && zER mF as (i+1)):=rfl
@[simp] theorem yCX{os:List Dat}:zED mF as d os=((zER mF as 0 || d.hard) && (zER mF as 0 || os.all zF1) && decide (mF.length=os.length)):=rfl
@[simp] theorem yHD{os:List Dat}:putO as [] os δ=δ:=by cases os<;>rfl
@[simp] theorem yHE{os:List Dat}{is:List Nat}:putO as (i::is) (d::os) δ=(match as[i]? with
  |some (.o j)=>putO as is os (δ.set j (.ow d))
  |_=>putO as is os δ):=rfl
@[simp] theorem yIJ:dflt F d ds=F (ds++[d]):=rfl
@[simp] theorem yJR:pNo δ=some (none,δ):=rfl
noncomputable def qpS:Option (Dat×Ev)->Option (Option Int×Ev)
 |some (.int i,δ)=>some (some i,δ)
 |_=>none
@[simp] theorem yJQ:pSo fa δ=qpS (fa δ):=by
 unfold pSo qpS
 cases fa δ with
 |none=>rfl
 |some p=>
  obtain⟨d,e⟩:=p
  cases d<;>rfl
@[simp] theorem yIY{i:Int}:qpS (some (.int i,δ))=some (some i,δ):=rfl
noncomputable def qSl(r:Option (Dat×Ev))(fl fh:VP):Option (Dat×Ev):=r.bind fun p=>(fl p.2).bind fun l=>(fh l.2).bind fun u=>(oSl p.1 l.1 u.1).map fun c=>(c,u.2)
noncomputable def qSlb(x:Dat)(r:Option (Option Int×Ev))(fh:VP):Option (Dat×Ev):=r.bind fun l=>(fh l.2).bind fun u=>(oSl x l.1 u.1).map fun c=>(c,u.2)
noncomputable def qSlc(x:Dat)(l:Option Int)(r:Option (Option Int×Ev)):Option (Dat×Ev):=r.bind fun u=>q0 (oSl x l u.1) u.2
@[simp] theorem yK4{fl fh:VP}:fSl fa fl fh δ=qSl (fa δ) fl fh:=rfl
@[simp] theorem yJ6{fl fh:VP}:qSl (some (x,δ)) fl fh=qSlb x (fl δ) fh:=rfl
@[simp] theorem yGX{l:Option Int}{fh:VP}:qSlb x (some (l,δ)) fh=qSlc x l (fh δ):=rfl
@[simp] theorem yGW{l u:Option Int}:qSlc x l (some (u,δ))=q0 (oSl x l u) δ:=rfl
@[simp] theorem yJV{l u:Option Int}:oSl (.tup ds) l u=some (.tup (cutD ds l u)):=rfl
@[simp] theorem yJW{l u:Option Int}:oSl (.lst ds) l u=some (.lst (cutD ds l u)):=rfl
noncomputable def qSt(i j:Nat):Option (Dat×Ev)->Option Ou
 |some (.tup (d::ds),δ)=>some (.nx ((δ.set i (.va d)).set j (.va (.lst ds))))
 |_=>none
@[simp] theorem yDO:zNN i j fa δ=qSt i j (fa δ):=by
 unfold zNN qSt
 cases fa δ with
 |none=>rfl
 |some p=>
  obtain⟨d,e⟩:=p
  cases d with
  |tup ds=>cases ds<;>rfl
  |_=>rfl
@[simp] theorem yJ5:qSt i j (some (.tup (d::ds),δ))=some (.nx ((δ.set i (.va d)).set j (.va (.lst ds)))):=rfl
noncomputable def qDg(i:Nat)(r:Option (List Key×List Dat))(δ:Ev)(fk fx:VF):Option (Dat×Ev):=r.bind fun _=>(fk δ).bind fun p=>(fx p.2).bind fun q=>(keyD p.1).bind fun k=>(ownD q.2 i).map fun z=>((zBI z.1 z.2 k).getD q.1,q.2)
noncomputable def qDgb(i:Nat)(r:Option (Dat×Ev))(fx:VF):Option (Dat×Ev):=r.bind fun p=>(fx p.2).bind fun q=>(keyD p.1).bind fun k=>(ownD q.2 i).map fun z=>((zBI z.1 z.2 k).getD q.1,q.2)
noncomputable def qDgc(i:Nat)(x:Dat)(r:Option (Dat×Ev)):Option (Dat×Ev):=r.bind fun q=>(keyD x).bind fun k=>(ownD q.2 i).map fun z=>((zBI z.1 z.2 k).getD q.1,q.2)
@[simp] theorem yCV:zN6 i fa fb δ=qDg i (ownD δ i) δ fa fb:=rfl
@[simp] theorem yJL{z:List Key×List Dat}:qDg i (some z) δ fa fb=qDgb i (fa δ) fb:=rfl
@[simp] theorem yH9:qDgb i (some (x,δ)) fb=qDgc i x (fb δ):=rfl
@[simp] theorem yH8:qDgc i x (some (y,δ))=(keyD x).bind fun k=>(ownD δ i).map fun z=>((zBI z.1 z.2 k).getD y,δ):=rfl
noncomputable def qDp(i:Nat)(r:Option (Dat×Ev))(fk:VF):Option Ou:=r.bind fun p=>(ownD p.2 i).bind fun _=>(fk p.2).bind fun q=>(keyD q.1).bind fun k=>(ownD q.2 i).bind fun z=>if z.1.length<16777216/\z.1.Nodup then some (.nx (q.2.set i (.ow (let r:=zDE z.1 z.2 k p.1;.dct r.1 r.2)))) else none
noncomputable def qDpb(i:Nat)(x:Dat)(r:Option (List Key×List Dat))(δ:Ev)(fk:VF):Option Ou:=r.bind fun _=>(fk δ).bind fun q=>(keyD q.1).bind fun k=>(ownD q.2 i).bind fun z=>if z.1.length<16777216/\z.1.Nodup then some (.nx (q.2.set i (.ow (let r:=zDE z.1 z.2 k x;.dct r.1 r.2)))) else none
noncomputable def qDpc(i:Nat)(x:Dat)(r:Option (Dat×Ev)):Option Ou:=r.bind fun q=>(keyD q.1).bind fun k=>(ownD q.2 i).bind fun z=>if z.1.length<16777216/\z.1.Nodup then some (.nx (q.2.set i (.ow (.dct (zDE z.1 z.2 k x).1 (zDE z.1 z.2 k x).2)))) else none
@[simp] theorem yDT{fk fv:VF}:zPD i fk fv δ=qDp i (fv δ) fk:=rfl
@[simp] theorem yJK{fk:VF}:qDp i (some (x,δ)) fk=qDpb i x (ownD δ i) δ fk:=rfl
@[simp] theorem yH7{z:List Key×List Dat}{fk:VF}:qDpb i x (some z) δ fk=qDpc i x (fk δ):=rfl
@[simp] theorem yH6:qDpc i x (some (y,δ))=(keyD y).bind fun k=>(ownD δ i).bind fun z=>if z.1.length<16777216/\z.1.Nodup then some (.nx (δ.set i (.ow (.dct (zDE z.1 z.2 k x).1 (zDE z.1 z.2 k x).2)))) else none:=rfl
@[simp] theorem yI2{i:Int}:keyD (.int i)=some (.inl i):=rfl
@[simp] theorem yI1{s:Str}:keyD (.str s)=some (.inr s):=rfl
noncomputable def qRun(ml:List Nat):Option Ou->Option (Dat×List Dat)
 |some (.rt d δ)=>(outs ml δ).map fun os=>(d,os)
 |some (.nx δ)=>(outs ml δ).map fun os=>(.non,os)
 |_=>none
theorem zAX{ml:List Nat}:runV n ml g ds=qRun ml (g (envD ml n ds)):=by
 unfold runV qRun
 cases g (envD ml n ds) with
 |none=>rfl
 |some o=>cases o<;>rfl
@[simp] theorem yGZ{ml:List Nat}:qRun ml (some (.rt d δ))=(outs ml δ).map fun os=>(d,os):=rfl
@[simp] theorem yH0{ml:List Nat}:qRun ml (some (.nx δ))=(outs ml δ).map fun os=>(.non,os):=rfl
noncomputable def qow:Option Sl->Option Dat
 |some (.ow d)=>some d
 |_=>none
@[simp] theorem yHH:outs [] δ=some []:=rfl
@[simp] theorem yHI{ml:List Nat}:outs (i::ml) δ=(qow δ[i]?).bind fun d=>(outs ml δ).map fun os=>d::os:=by
 unfold outs
 rw[Lx]
 cases h:(δ[i]? :Option Sl) with
 | none => rfl
 | some s => cases s with
  |no=>rfl
  |va d=>rfl
  |ow d=>
   show(Option.bind _ fun os=>some (d::os))=Option.map (fun os=>d::os) _
   cases (List.mapM _ ml:Option (List Dat))<;>rfl
@[simp] theorem yIZ:qow (some (.ow d))=some d:=rfl
end
section
variable{i j:Int}{x y:Str}{ds es:List Dat}
@[simp] theorem oI_e{C:Int->Int->Bool}{g:Int->Int->Dat}:oI C g (.int i) (.int j)=if C i j=true then some (g i j) else none:=rfl
@[simp] theorem yEU:zBL (.int i) (.int j)=some (.int (i+j)):=rfl
@[simp] theorem yES:zBL (.tup ds) (.tup es)=if ds.length+es.length<=16777216 then some (.tup (ds++es)) else none:=rfl
@[simp] theorem yET:zBL (.lst ds) (.lst es)=if ds.length+es.length<=16777216 then some (.lst (ds++es)) else none:=rfl
@[simp] theorem yJX{g:Int->Int->Int}:o2I g (.int i) (.int j)=some (.int (g i j)):=rfl
@[simp] theorem yHM:oLen (.tup ds)=some (.int ds.length):=rfl
@[simp] theorem yHN:oLen (.lst ds)=some (.int ds.length):=rfl
@[simp] theorem yEZ:zNT (.tup ds)=some (.lst ds):=rfl
@[simp] theorem yF0:zNT (.lst ds)=some (.lst ds):=rfl
@[simp] theorem yCR:zG5 (.tup ds)=some (.tup ds):=rfl
@[simp] theorem yCS:zG5 (.lst ds)=some (.tup ds):=rfl
@[simp] theorem yHO:oIxA (.tup ds) (.int i)=atI ds i:=rfl
@[simp] theorem yHP:oIxA (.lst ds) (.int i)=atI ds i:=rfl
@[simp] theorem yF2{ks:List Key}:oIxA (.dct ks ds) (.int i)=zBI ks ds (.inl i):=rfl
@[simp] theorem yF1{ks:List Key}:oIxA (.dct ks ds) (.str x)=zBI ks ds (.inr x):=rfl
@[simp] theorem yJT:okD (.int i)=true:=rfl
@[simp] theorem yJS:okD .non=true:=rfl
@[simp] theorem yJU{b:Bool}:okD (.bl b)=true:=rfl
@[simp] theorem yIA:isiT "int" "bool"=some false:=by decide+kernel
@[simp] theorem yI9:isiT "int" "int"=some true:=by decide+kernel
@[simp] theorem yI8:isiT "tuple" "tuple"=some true:=by decide+kernel
@[simp] theorem yI7:isiT "str" "str"=some true:=by decide+kernel
@[simp] theorem yI6:isiT "list" "list"=some true:=by decide+kernel
@[simp] theorem yHT{n:String}:oIsi (.int i) (.ty n)=(isiT "int" n).map Dat.bl:=rfl
@[simp] theorem yHQ{n:String}:oIsi (.tup ds) (.ty n)=(isiT "tuple" n).map Dat.bl:=rfl
@[simp] theorem yHS{n:String}:oIsi (.lst ds) (.ty n)=(isiT "list" n).map Dat.bl:=rfl
@[simp] theorem yHR{n:String}:oIsi (.str x) (.ty n)=(isiT "str" n).map Dat.bl:=rfl
@[simp] theorem yHW:oIsN .non .non=some (.bl true):=rfl
@[simp] theorem yHX:oIsN (.int i) .non=some (.bl false):=rfl
@[simp] theorem yHV:oIsN (.str x) .non=some (.bl false):=rfl
@[simp] theorem yHU:oIsN (.tup ds) .non=some (.bl false):=rfl
@[simp] theorem yEX:zK1 .non .non=some (.bl false):=rfl
@[simp] theorem yEY:zK1 (.int i) .non=some (.bl true):=rfl
@[simp] theorem yEW:zK1 (.str x) .non=some (.bl true):=rfl
@[simp] theorem yEV:zK1 (.tup ds) .non=some (.bl true):=rfl
end
section
variable{d x:Dat}{δ δ1:Ev}{r acc:List Dat}{gg:VG}{tb:VB}{fe:VF}{n nl:Nat}{g:VS}
noncomputable def qk1(n nl:Nat)(gg:VG)(tb:VB)(fe:VF)(r acc:List Dat)(o:Option Ev):Option (List Dat×Ev):=o.bind fun δ1=>(tb δ1).bind fun p=>if p.1=true then(fe p.2).bind fun q=>if acc.length<16777216 then zBX n nl gg tb fe r (acc++[q.1]) (q.2.take n) else none else zBX n nl gg tb fe r acc (p.2.take n)
noncomputable def qk2(n nl:Nat)(gg:VG)(tb:VB)(fe:VF)(r acc:List Dat)(o:Option (Bool×Ev)):Option (List Dat×Ev):=o.bind fun p=>if p.1=true then(fe p.2).bind fun q=>if acc.length<16777216 then zBX n nl gg tb fe r (acc++[q.1]) (q.2.take n) else none else zBX n nl gg tb fe r acc (p.2.take n)
noncomputable def qk3(n nl:Nat)(gg:VG)(tb:VB)(fe:VF)(r acc:List Dat)(o:Option (Dat×Ev)):Option (List Dat×Ev):=o.bind fun q=>if acc.length<16777216 then zBX n nl gg tb fe r (acc++[q.1]) (q.2.take n) else none
@[simp] theorem yG1:zBX n nl gg tb fe [] acc δ=some (acc,δ):=rfl
@[simp] theorem zHD:zBX n nl gg tb fe (d::r) acc δ=qk1 n nl gg tb fe r acc (gg d (δ++nos nl)):=rfl
@[simp] theorem zPT:qk1 n nl gg tb fe r acc (some δ)=qk2 n nl gg tb fe r acc (tb δ):=rfl
@[simp] theorem zWD:qk2 n nl gg tb fe r acc (some (true,δ))=qk3 n nl gg tb fe r acc (fe δ):=rfl
@[simp] theorem zZV:qk2 n nl gg tb fe r acc (some (false,δ))=zBX n nl gg tb fe r acc (δ.take n):=rfl
@[simp] theorem zWC:qk3 n nl gg tb fe r acc (some (x,δ))=if acc.length<16777216 then zBX n nl gg tb fe r (acc++[x]) (δ.take n) else none:=rfl
noncomputable def qf1(gg:VG)(g:VS)(r:List Dat)(o:Option Ev):Option Ou:=o.bind fun δ1=>(g δ1).bind (zDK (forV gg g r))
noncomputable def qf2(gg:VG)(g:VS)(r:List Dat)(o:Option Ou):Option Ou:=o.bind (zDK (forV gg g r))
@[simp] theorem yID:forV gg g [] δ=some (.nx δ):=rfl
@[simp] theorem zKJ:forV gg g (d::r) δ=qf1 gg g r (gg d δ):=rfl
@[simp] theorem zPV:qf1 gg g r (some δ)=qf2 gg g r (g δ):=rfl
@[simp] theorem zPU:qf2 gg g r (some (.nx δ))=forV gg g r δ:=rfl
@[simp] theorem yJ1:qf2 gg g r (some (.ct δ))=forV gg g r δ:=rfl
@[simp] theorem yJ2:qf2 gg g r (some (.bk δ))=some (.nx δ):=rfl
@[simp] theorem yJ0:qf2 gg g r (some (.rt d δ))=some (.rt d δ):=rfl
@[simp] theorem yG6{ss:Ev}:zCN [] ss δ=δ:=by cases ss<;>rfl
@[simp] theorem yG5{i:Nat}{is:List Nat}{ss:Ev}:zCN (i::is) (.ow d::ss) δ=zCN is ss (δ.set i (.ow d)):=rfl
@[simp] theorem yG4{i:Nat}{is:List Nat}{ss:Ev}:zCN (i::is) (.va d::ss) δ=zCN is ss δ:=rfl
@[simp] theorem yG3{i:Nat}{is:List Nat}{ss:Ev}:zCN (i::is) (.no::ss) δ=zCN is ss δ:=rfl
end
@[simp] theorem zX7:nos 1=[.no]:=rfl
@[simp] theorem yBM:nos 2=[.no,.no]:=rfl
@[simp] theorem yJY:nos 3=[.no,.no,.no]:=rfl
@[simp] theorem yGT{i:Int}:rngD i 0=[]:=rfl
@[simp] theorem yGS:rngD 0 1=[.int 0]:=rfl
@[simp] theorem yGR:rngD 0 2=[.int 0,.int 1]:=rfl
@[simp] theorem yGQ:rngD 0 3=[.int 0,.int 1,.int 2]:=rfl
@[simp] theorem yGP:rngD 0 4=[.int 0,.int 1,.int 2,.int 3]:=rfl
theorem zG9{α:Type}{xs:List α}{i:Int}(h0:0<=i)(h1:i<xs.length):atI xs i=xs[i.toNat]? :=by
 unfold atI ixN
 rw[if_pos h0,if_pos h1]
 rfl
theorem zS3{α:Type}{xs:List α}{i:Int}(h0:0<=i)(h1:i<xs.length): ∃x∈xs,atI xs i=some x:=by
 rw[zG9 h0 h1]
 have h:i.toNat<xs.length:=by omega
 exact⟨xs[i.toNat],Hs _,C0 h⟩
section
variable{F:VFun}{fa fb fc:VF}{δ:Ev}{x y z d o:Dat}{j:Nat}
noncomputable def qcr(δ:Ev):Option (Dat×List Dat)->Option (Dat×Ev)
 |some (d,[])=>some (d,δ)
 |_=>none
@[simp] theorem yJ3:qcr δ (some (d,[]))=some (d,δ):=rfl
theorem zRW{n:Nat}{ds:List Dat}{as:List AV}(h:zEQ δ as=some ds)(hn:ds.length=n)(hj:jsOf as=[])(ha:zER [] as 0=true):qCb n [] F as δ (some ds)=qcr δ (F ds):=by
 have hc:zF7 [] as δ=true:=by simp[hj]
 rw[yE4,if_pos ⟨hn,hc⟩]
 cases F ds with
 |none=>rfl
 |some q=>
  obtain⟨r,os⟩:=q
  rw[yE3]
  cases os with
  |nil=>simp[ha,qcr]
  |cons o os=>simp[qcr]
noncomputable def qx1(F:VFun)(r:Option (Dat×Ev)):Option (Dat×Ev):=r.bind fun p=>qcr p.2 (F [p.1])
@[simp] theorem yIS:qx1 F (some (x,δ))=qcr δ (F [x]):=rfl
@[simp high] theorem call1:zAF 1 [] F (aE fa aNil) δ=qx1 F (fa δ):=by
 rw[zIO,aE_e]
 cases fa δ with
 |none=>rfl
 |some p=>exact zRW (as:=[.d p.1]) rfl rfl rfl rfl
noncomputable def qx2(F:VFun)(r:Option (Dat×Ev))(fb:VF):Option (Dat×Ev):=r.bind fun p=>(fb p.2).bind fun q=>qcr q.2 (F [p.1,q.1])
noncomputable def qx2b(F:VFun)(x:Dat)(r:Option (Dat×Ev)):Option (Dat×Ev):=r.bind fun q=>qcr q.2 (F [x,q.1])
@[simp] theorem yDY:qx2 F (some (x,δ)) fb=qx2b F x (fb δ):=rfl
@[simp] theorem yGV:qx2b F x (some (y,δ))=qcr δ (F [x,y]):=rfl
@[simp high] theorem call2:zAF 2 [] F (aE fa (aE fb aNil)) δ=qx2 F (fa δ) fb:=by
 rw[zIO,aE_e]
 cases fa δ with
 |none=>rfl
 |some p=>
  rw[qa_s,aE_e,yDY]
  cases fb p.2 with
  |none=>rfl
  |some q=>exact zRW (as:=[.d p.1,.d q.1]) rfl rfl rfl rfl
noncomputable def qx3(F:VFun)(r:Option (Dat×Ev))(fb fc:VF):Option (Dat×Ev):=r.bind fun p=>(fb p.2).bind fun q=>(fc q.2).bind fun s=>qcr s.2 (F [p.1,q.1,s.1])
noncomputable def qx3b(F:VFun)(x:Dat)(r:Option (Dat×Ev))(fc:VF):Option (Dat×Ev):=r.bind fun q=>(fc q.2).bind fun s=>qcr s.2 (F [x,q.1,s.1])
noncomputable def qx3c(F:VFun)(x y:Dat)(r:Option (Dat×Ev)):Option (Dat×Ev):=r.bind fun s=>qcr s.2 (F [x,y,s.1])
@[simp] theorem yDX:qx3 F (some (x,δ)) fb fc=qx3b F x (fb δ) fc:=rfl
@[simp] theorem zZU:qx3b F x (some (y,δ)) fc=qx3c F x y (fc δ):=rfl
@[simp] theorem yGU:qx3c F x y (some (z,δ))=qcr δ (F [x,y,z]):=rfl
@[simp high] theorem call3:zAF 3 [] F (aE fa (aE fb (aE fc aNil))) δ=qx3 F (fa δ) fb fc:=by
 rw[zIO,aE_e]
 cases fa δ with
 | none => rfl
 |some p=>
  rw[qa_s,aE_e,yDX]
  cases fb p.2 with
  |none=>rfl
  |some q=>
   rw[qa_s,aE_e,zZU]
   cases fc q.2 with
   |none=>rfl
   |some s=>exact zRW (as:=[.d p.1,.d q.1,.d s.1]) rfl rfl rfl rfl
noncomputable def qw3(j:Nat)(δ:Ev):Option (Dat×List Dat)->Option (Dat×Ev)
 |some (r,[o])=>some (r,δ.set j (.ow o))
 |_=>none
noncomputable def qw2(F:VFun)(j:Nat)(x y:Dat)(δ:Ev):Option Sl->Option (Dat×Ev)
 |some (.ow d)=>qw3 j δ (F [x,d,y])
 |_=>none
noncomputable def qwb(F:VFun)(j:Nat)(x:Dat)(r:Option (Dat×Ev)):Option (Dat×Ev):=r.bind fun q=>qw2 F j x q.1 q.2 q.2[j]?
noncomputable def qwa(F:VFun)(j:Nat)(x:Dat)(δ:Ev)(fb:VF)(s:Option Dat):Option (Dat×Ev):=s.bind fun _=>qwb F j x (fb δ)
noncomputable def qw(F:VFun)(j:Nat)(r:Option (Dat×Ev))(fb:VF):Option (Dat×Ev):=r.bind fun p=>qwa F j p.1 p.2 fb (slot p.2 j)
@[simp] theorem yIT:qw3 j δ (some (x,[o]))=some (x,δ.set j (.ow o)):=rfl
@[simp] theorem yIU:qw2 F j x y δ (some (.ow d))=qw3 j δ (F [x,d,y]):=rfl
@[simp] theorem yDZ:qwb F j x (some (y,δ))=qw2 F j x y δ δ[j]? :=rfl
@[simp] theorem yE0:qwa F j x δ fb (some d)=qwb F j x (fb δ):=rfl
@[simp] theorem qw_s:qw F j (some (x,δ)) fb=qwa F j x δ fb (slot δ j):=rfl
@[simp high] theorem callO:zAF 3 [1] F (aE fa (aO j (aE fb aNil))) δ=qw F j (fa δ) fb:=by
 rw[zIO,aE_e]
 cases fa δ with
 | none => rfl
 |some p=>
  obtain⟨x,δ1⟩:=p
  rw[qa_s,aO_e,qw_s]
  cases h:slot δ1 j with
  | none => rfl
  |some d0=>
   rw[yE1,aE_e,yE0]
   cases fb δ1 with
   | none => rfl
   |some q=>
    obtain⟨y,δ2⟩:=q
    rw[yDZ,qa_s,yCO,zWE,zWE,zWE,zWF]
    cases h2:δ2[j]? with
    | none => simp [h2,qsl,qCb,qw2]
    |some s=>
     cases s with
     | no => simp [h2,qsl,qCb,qw2]
     | va d => simp [h2,qw2]
     |ow d=>
      simp[h2]
      cases F [x,d,y] with
      | none => rfl
      |some r=>
       obtain⟨v,os⟩:=r
       cases os with
       |nil=>simp[qw3]
       |cons o os=>
        cases os with
        |nil=>simp
        |cons o2 os=>simp[qw3]
end
def zBQ:Dat:= .int 999
def zRY:Dat:= .tup [.str "plus",.str "minus",.str "times",.str "least",.str "most",.str "less",.str "over"]
def zVK:Dat:= .dct [.inr "plus",.inr "minus",.inr "times",.inr "least",.inr "most",.inr "less",.inr "over"] [.fn "plus",.fn "minus",.fn "times",.fn "least",.fn "most",.fn "less",.fn "over"]
def zEO:Dat:= .int 64
def zEP:Dat:= .int 40
def zDX:Dat:= .int 63
def zG8:Dat:= .tup [.str "row",.str "row"]
def zF9:Dat:= .dct [.inr "number",.inr "pick",.inr "load",.inr "take",.inr "store",.inr "put"] [.tup [.str "word"],.tup [.str "row",.str "row",.str "row"],.tup [.str "place"],.tup [.str "place",.str "row",.str "row"],.tup [.str "place",.str "row"],.tup [.str "place",.str "row",.str "row"]]
def zKY:Dat:= .tup [.str "load",.str "take"]
def zCU:Dat:= .tup [.str "store",.str "put"]
def zDY:Dat:= .int 64
noncomputable abbrev xcs:List Str:=["NoBlock","NoCells"]
noncomputable abbrev xall:List Str:=["NoBlock","NoCells","NoRow","NoLanes","NoPlan","NoProgram","NoTree","NoLoop","NoText","NoName","TooMany","TooLong","NotValid","Nothing"]
def zFR:VS:=
   (sSeq (sIf (bOr (fB (f2 oIsi (fV 0) (fC (.ty "bool")))) (bNot (fB (f2 oIsi (fV 0) (fC (.ty "int"))))))
   (sRet (fC (.bl false)))
   sNil)
   (sRet (f3 oLe oLe (fV 1) (fV 0) (fV 2))))
def zB1:VFun:=runV 3 [] zFR
def zVC:VS:=
   (sRet (f2 oMod (f2 zBL (fV 0) (fV 1)) (f2 zBL (fC zBQ) (fC (.int 1)))))
def zNA:VFun:=runV 2 [] zVC
def zR8:VS:=
   (sRet (f2 oMod (f2 oSub (fV 0) (fV 1)) (f2 zBL (fC zBQ) (fC (.int 1)))))
def zIZ:VFun:=runV 2 [] zR8
def zR7:VS:=
   (sRet (f2 oMod (f2 zHR (fV 0) (fV 1)) (f2 zBL (fC zBQ) (fC (.int 1)))))
def zIY:VFun:=runV 2 [] zR7
def zR9:VS:=
   (sRet (f2 oMin (fV 0) (fV 1)))
def zJ0:VFun:=runV 2 [] zR9
def zVF:VS:=
   (sRet (f2 oMax (fV 0) (fV 1)))
def zND:VFun:=runV 2 [] zVF
def zVG:VS:=
   (sRet (fIf (fB (f2 oLt (fV 0) (fV 1))) (fC (.int 1)) (fC (.int 0))))
def zNE:VFun:=runV 2 [] zVG
def zVE:VS:=
   (sRet (fIf (fB (f2 oEq (fV 1) (fC (.int 0)))) (fC .non) (f2 zQJ (fV 0) (fV 1))))
def zNC:VFun:=runV 2 [] zVE
def zVD:VS:=
   (sRet (fIf (fB (f2 oNe (fV 0) (fC (.int 0)))) (fV 1) (fV 2)))
def zNB:VFun:=runV 3 [] zVD
def zVH:VS:=
   (sSeq (sIf (fB (f2 oEq (fV 0) (fC (.str "pick"))))
   (sRet (zAF 3 [] zNB (aE (f2 oIxA (fV 1) (fC (.int 0))) (aE (f2 oIxA (fV 1) (fC (.int 1))) (aE (f2 oIxA (fV 1) (fC (.int 2))) aNil)))))
   sNil)
   (sSeq (sSet 2 (xV (f2 oIxA (fC zVK) (fV 0))))
   (sRet (zRC 2 [] [("plus",zNA),("minus",zIZ),("times",zIY),("least",zJ0),("most",zND),("less",zNE),("over",zNC)] 2 (aE (f2 oIxA (fV 1) (fC (.int 0))) (aE (f2 oIxA (fV 1) (fC (.int 1))) aNil))))))
def zNF:VFun:=runV 3 [] zVH
def zHY:VS:=
   (sSeq (sIf (fB (f2 (oInD false) (fV 0) (fC zRY)))
   (sRet (fC zG8))
   sNil)
   (sRet (f2 yBL (fC zF9) (fV 0))))
def zB4:VFun:=runV 1 [] zHY
def zDW:VS:=
   (sRet (f2 (oInD true) (f2 oIxA (fV 0) (fC (.int 0))) (fC zCU)))
def zC3:VFun:=runV 1 [] zDW
def zHX:VS:=
   (sRet (fIf (bOr (fB (f2 (oInD false) (f2 oIxA (fV 0) (fC (.int 0))) (fC zKY))) (fB (f2 (oInD false) (f2 oIxA (fV 0) (fC (.int 0))) (fC zCU)))) (f2 oIxA (fV 0) (fC (.int 1))) (fC .non)))
def zE8:VFun:=runV 1 [] zHX
def zHZ:VS:=
   (sSeq (zNN 1 2 (fV 0))
   (sRet (zC8 [] 2 (iZip (zAF 1 [] zB4 (aE (fV 1) aNil)) (fV 2)) (gTp 2 (zB2 (gN 0) (zB2 (gN 1) zDV))) (fB (f2 oEq (fV 0) (fC (.str "row")))) (fV 1))))
def zDB:VFun:=runV 3 [] zHZ
def zFL:VS:=
   (sRet (fAnd (zAF 3 [] zB1 (aE (fV 0) (aE (fC (.int 0)) (aE (f2 oSub (f1 oLen (fV 1)) (fC (.int 1))) aNil)))) (f2 oIxA (fV 1) (fV 0))))
def zCP:VFun:=runV 2 [] zFL
def zKH:VS:=
   (sSeq (sIf (fB (f2 oEq (fV 0) (fC (.str "word"))))
   (sRet (zAF 3 [] zB1 (aE (fV 1) (aE (fC (.int 0)) (aE (fC zBQ) aNil)))))
   sNil)
   (sSeq (sIf (fB (f2 oEq (fV 0) (fC (.str "place"))))
   (sRet (zAF 3 [] zB1 (aE (fV 1) (aE (fC (.int 0)) (aE (fC zDX) aNil)))))
   sNil)
   (sRet (zAF 2 [] zCP (aE (fV 1) (aE (fV 2) aNil))))))
def zEE:VFun:=runV 3 [] zKH
def zIM:VS:=
   (sSeq (sIf (bOr (bNot (fB (f2 oIsi (fV 0) (fC (.ty "tuple"))))) (fB (f2 oEq (f1 oLen (fV 0)) (fC (.int 0)))))
   (sRet (fC (.bl false)))
   sNil)
   (sSeq (zNN 2 3 (fV 0))
   (sSeq (sSet 4 (xV (fIf (fB (f2 oIsi (fV 2) (fC (.ty "str")))) (zAF 1 [] zB4 (aE (fV 2) aNil)) (fC .non))))
   (sSeq (sIf (bOr (fB (f2 oIsN (fV 4) (fC .non))) (fB (f2 oNe (f1 oLen (fV 4)) (f1 oLen (fV 3)))))
   (sRet (fC (.bl false)))
   sNil)
   (sRet (f1 oAll (zC8 [1] 2 (iZip (fV 4) (fV 3)) (gTp 2 (zB2 (gN 1) (zB2 (gN 2) zDV))) bYes (zAF 3 [] zEE (aE (fV 1) (aE (fV 2) (aE (fV 0) aNil)))))))))))
def zE9:VFun:=runV 5 [] zIM
def zD2:VS:=
   (sSeq (sIf (bNot (fB (zAF 2 [] zE9 (aE (fV 4) (aO 3 aNil)))))
   (sRet (fC (.bl false)))
   sNil)
   (sMut 3 mApp (zA3 (zAF 1 [] zC3 (aE (fV 4) aNil)) fNil)))
def zFT:VS:=
   (sSeq (sIf (bOr (bNot (fB (f2 oIsi (fV 0) (fC (.ty "tuple"))))) (fB (f2 oNe (f1 oLen (fV 0)) (fC (.int 2)))))
   (sRet (fC (.bl false)))
   sNil)
   (sSeq (sAsg (fV 0) (gTp 2 (zB2 (gN 1) (zB2 (gN 2) zDV))))
   (sSeq (sIf (bNot (fB (zAF 3 [] zB1 (aE (fV 1) (aE (fC (.int 0)) (aE (fC zEO) aNil))))))
   (sRet (fC (.bl false)))
   sNil)
   (sSeq (sIf (bOr (bNot (fB (f2 oIsi (fV 2) (fC (.ty "tuple"))))) (fB (f2 oGt (f1 oLen (fV 2)) (fC zEP))))
   (sRet (fC (.bl false)))
   sNil)
   (sSeq (sSet 3 (xO (fLst fNil)))
   (sSeq (sFor (iSeq (fV 2)) (gN 4)
   zD2)
   (sRet (fC (.bl true)))))))))
def zBM:VFun:=runV 5 [] zFT
def zFS:VS:=
   (sSeq (sIf (bOr (bNot (fB (f2 oIsi (fV 0) (fC (.ty "list"))))) (bNot (fB (f3 oLe oLe (fV 1) (f1 oLen (fV 0)) (fC zDY)))))
   (sRet (fC (.bl false)))
   sNil)
   (sRet (f1 oAll (zC8 [] 1 (iSeq (fV 0)) (gN 0) bYes (zAF 3 [] zB1 (aE (fV 0) (aE (fC (.int 0)) (aE (fC zBQ) aNil))))))))
def zAR:VFun:=runV 2 [] zFS
def zKG:VS:=
   (sSeq (sIf (fB (f2 oEq (fV 0) (fC (.str "take"))))
   (sRet (f2 oNe (f2 oIxA (fV 1) (fC (.int 0))) (fC (.int 0))))
   sNil)
   (sSeq (sIf (fB (f2 oEq (fV 0) (fC (.str "put"))))
   (sRet (f2 oNe (f2 oIxA (fV 1) (fC (.int 1))) (fC (.int 0))))
   sNil)
   (sRet (fC (.bl true)))))
def zFB:VFun:=runV 2 [] zKG
def zG7:VS:=
   (sSeq (sIf (bNot (fB (zAF 2 [] zFB (aE (fV 0) (aE (fV 2) aNil)))))
   (sRet (fTup (zA3 (fIf (fB (f2 oEq (fV 0) (fC (.str "take")))) (f2 oIxA (fV 2) (fC (.int 1))) (fC .non)) (zA3 (fC .non) fNil))))
   sNil)
   (sSeq (sIf (fB (f2 oGe (fV 1) (f1 oLen (fO 3))))
   (sRet (fTup (zA3 (fC .non) (zA3 (fC (.str "beyond")) fNil))))
   sNil)
   (sSeq (sIf (fB (f2 (oInD false) (fV 0) (fC zCU)))
   (sSeq (zSX 3 (fV 1) (f2 oIxA (fV 2) (fC (.int 0))))
   (sRet (fTup (zA3 (fC .non) (zA3 (fC .non) fNil)))))
   sNil)
   (sRet (fTup (zA3 (f2 oIxA (fO 3) (fV 1)) (zA3 (fC .non) fNil)))))))
def zD3:VFun:=runV 4 [3] zG7
def zN3:VS:=
   (sSeq (sSet 4 (xV (f2 oIxA (fV 0) (fC (.int 0)))))
   (sSeq (sIf (fB (f2 oEq (fV 4) (fC (.str "number"))))
   (sRet (fTup (zA3 (f2 oIxA (fV 0) (fC (.int 1))) (zA3 (fC .non) fNil))))
   sNil)
   (sSeq (sSet 5 (xV (zAF 1 [] zE8 (aE (fV 0) aNil))))
   (sSeq (sIf (fB (f2 zK1 (fV 5) (fC .non)))
   (sRet (zAF 4 [3] zD3 (aE (fV 4) (aE (f2 zBL (fV 5) (fV 3)) (aE (fV 1) (aO 2 aNil))))))
   sNil)
   (sSeq (sSet 6 (xV (zAF 2 [] zNF (aE (fV 4) (aE (fV 1) aNil)))))
   (sRet (fTup (zA3 (fV 6) (zA3 (fIf (fB (f2 oIsN (fV 6) (fC .non))) (fC (.str "nought")) (fC .non)) fNil)))))))))
def zEA:VFun:=runV 7 [2] zN3
def zLX:VS:=
   (sSeq (sAsg (zAF 3 [2] (dflt zEA (.int 0)) (aE (fV 4) (aE (zC8 [2] 1 (iSeq (zAF 1 [] zDB (aE (fV 4) aNil))) (gN 1) bYes (f2 oIxA (fO 0) (fV 1))) (aO 1 aNil)))) (gTp 2 (zB2 (gN 5) (zB2 (gN 6) zDV))))
   (sSeq (sIf (fB (f2 zK1 (fV 6) (fC .non)))
   (sRet (fTup (zA3 (fO 2) (zA3 (fTup (zA3 (fV 3) (zA3 (fV 6) fNil))) fNil))))
   sNil)
   (sMut 2 mApp (zA3 (fV 5) fNil))))
def zKI:VS:=
   (sSeq (sSet 2 (xO (fLst fNil)))
   (sSeq (sFor (zKD (fV 0)) (gTp 2 (zB2 (gN 3) (zB2 (gN 4) zDV)))
   zLX)
   (sRet (fTup (zA3 (fO 2) (zA3 (fC .non) fNil))))))
def zCG:VFun:=runV 7 [1] zKI
def zEN:VS:=
   (sSeq (sIf (bNot (fB (zAF 1 [] zBM (aE (fV 0) aNil))))
   (fun _=>none)
   sNil)
   (sIf (bNot (fB (zAF 2 [] zAR (aE (fV 1) (aE (f2 oIxA (fV 0) (fC (.int 0))) aNil)))))
   (fun _=>none)
   sNil))
def zBF:VFun:=runV 2 [] zEN
def zEF:VZ:=
   (zAlt (zIf (bNot (fB (zAF 1 [] zBM (aE (fV 0) aNil)))) (fun δ=>some ("NoBlock",δ)) zNo)
   (zSeq (sIf (bNot (fB (zAF 1 [] zBM (aE (fV 0) aNil))))
   (fun _=>none)
   sNil)
   (zIf (bNot (fB (zAF 2 [] zAR (aE (fV 1) (aE (f2 oIxA (fV 0) (fC (.int 0))) aNil))))) (fun δ=>some ("NoCells",δ)) zNo)))
def zBD:List Dat->Option Str:=runZ 2 zEF
def zXU:VS:=
   (sSeq (zPC (zAF 2 [] zBF (aE (fV 0) (aE (fV 1) aNil))))
   (sSeq (sSet 2 (xO (f1 zNT (fV 1))))
   (sSeq (sAsg (zAF 2 [1] zCG (aE (f2 oIxA (fV 0) (fC (.int 1))) (aO 2 aNil))) (gTp 2 (zB2 (gN 3) (zB2 (gN 4) zDV))))
   (sRet (fTup (zA3 (fO 2) (zA3 (fV 4) fNil)))))))
def zOD:VFun:=runV 5 [] zXU
def zVO:VZ:=
   (zJ3 2 zBD (aE (fV 0) (aE (fV 1) aNil)))
def zOB:List Dat->Option Str:=runZ 5 zVO
def zIL:VS:=
   (sSeq (zPC (zAF 2 [] zBF (aE (fV 0) (aE (fV 1) aNil))))
   (sSeq (sAsg (zAF 2 [] (lstD 1 zCG) (aE (f2 oIxA (fV 0) (fC (.int 1))) (aE (fV 1) aNil))) (gTp 2 (zB2 (gN 2) (zB2 (gN 3) zDV))))
   (sRet (fV 2))))
def zE7:VFun:=runV 4 [] zIL
def zI1:VZ:=
   (zJ3 2 zBD (aE (fV 0) (aE (fV 1) aNil)))
def zE6:List Dat->Option Str:=runZ 4 zI1
def zE2:VS:=
   (sSet 2 (xV (f2 zQJ (fV 2) (fC (.int 1000003)))))
def zDH:VS:=
   (sSeq (sIf (fB (f2 oLt (fV 1) (f1 oLen (fV 0))))
   (sRet (f2 oIxA (fV 0) (fV 1)))
   sNil)
   (sSeq (sIf (fB (f2 oEq (fV 0) (fLst fNil)))
   (sRet (fC (.int 0)))
   sNil)
   (sSeq (sSet 2 (xV (f2 oIxA (fV 0) (f2 oMod (fV 1) (f1 oLen (fV 0))))))
   (sSeq (sFor (iR1 (f2 oMin (f2 zQJ (fV 1) (f1 oLen (fV 0))) (fC (.int 60)))) (gN 3)
   zE2)
   (sRet (f2 zBL (f2 zBL (f2 zHR (f2 oIxA (fV 0) (f2 oMod (fV 1) (f1 oLen (fV 0)))) (fC (.int 31))) (fV 1)) (f2 zHR (fV 2) (fC (.int 101)))))))))
def zBC:VFun:=runV 4 [] zDH
def zEM:VS:=
   (sSeq (sSet 3 (xV (f2 oMod (f2 zBL (f2 zBL (f2 zHR (zAF 2 [] zBC (aE (fV 0) (aE (fV 1) aNil))) (fC (.int 1103515245))) (f2 zHR (fC (.int 7919)) (fV 1))) (fC (.int 12345))) (fC (.int 2147483647)))))
   (sRet (f2 oMod (f2 oMod (f2 oMod (f2 oPow (fV 3) (fC (.int 5))) (fC (.int 2147483647))) (fC (.int 999983))) (fV 2))))
def zCC:VFun:=runV 4 [] zEM
def zFQ:VS:=
   (sSeq (sMut 1 mApp (zA3 (fC (.int 0)) fNil))
   (sRet (zAF 3 [] zCC (aE (fV 0) (aE (f1 oLen (fO 1)) (aE (fV 2) aNil))))))
def zAO:VFun:=runV 3 [1] zFQ
def zFN:VS:=
   (sRet (f2 oIxA (fV 2) (zAF 3 [1] zAO (aE (fV 0) (aO 1 (aE (f1 oLen (fV 2)) aNil))))))
def zAM:VFun:=runV 3 [1] zFN
def zEL:VS:=
   (sSeq (zPD 2 (fV 3) (f2 oMod (f2 zBL (zN6 2 (fV 3) (zAF 3 [1] zAO (aE (fV 0) (aO 1 (aE (fV 4) aNil))))) (zAF 3 [1] zAM (aE (fV 0) (aO 1 (aE (fLst (zA3 (fC (.int 1)) (zA3 (fC (.int 1)) (zA3 (fC (.int 1)) (zA3 (fC (.int 0)) (zA3 (fC (.int 3)) fNil)))))) aNil))))) (fV 4)))
   (sRet (f2 oIxA (fO 2) (fV 3))))
def zB6:VFun:=runV 5 [1,2] zEL
def zH5:VS:=
   (sSeq (sSet 5 (xV (zAF 3 [1] zAO (aE (fV 0) (aO 1 (aE (fC (.int 13)) aNil))))))
   (sSeq (sIf (bOr (fB (f2 oEq (fV 2) (fLst fNil))) (fB (f2 oEq (fV 5) (fC (.int 0)))))
   (sSeq (sIf (fB (f2 oEq (zAF 3 [1] zAO (aE (fV 0) (aO 1 (aE (fC (.int 2)) aNil)))) (fC (.int 0))))
   (sRet (fTup (zA3 (fC (.str "number")) (zA3 (zAF 3 [1] zAM (aE (fV 0) (aO 1 (aE (fLst (zA3 (fC (.int 0)) (zA3 (fC (.int 1)) (zA3 (fC (.int 2)) (zA3 (fC (.int 5)) (zA3 (fC (.int 999)) (zA3 (zAF 3 [1] zAO (aE (fV 0) (aO 1 (aE (fC (.int 1000)) aNil)))) fNil))))))) aNil)))) fNil))))
   sNil)
   (sRet (fTup (zA3 (fC (.str "load")) (zA3 (zAF 5 [1,2] zB6 (aE (fV 0) (aO 1 (aO 3 (aE (fC (.str "load")) (aE (fV 4) aNil)))))) fNil)))))
   sNil)
   (sSeq (sAsg (zC8 [0,1,2] 1 (iR1 (fC (.int 3))) (gN 3) bYes (f2 oIxA (fV 2) (f2 oMax (fC (.int 0)) (f2 oSub (f2 oSub (f1 oLen (fV 2)) (fC (.int 1))) (zAF 3 [1] zAO (aE (fV 0) (aO 1 (aE (fC (.int 6)) aNil)))))))) (gTp 3 (zB2 (gN 6) (zB2 (gN 7) (zB2 (gN 8) zDV)))))
   (sSeq (sIf (fB (f2 (oInD false) (fV 5) (fTup (zA3 (fC (.int 1)) (zA3 (fC (.int 2)) fNil)))))
   (sRet (fTup (zA3 (fC (.str "load")) (zA3 (zAF 5 [1,2] zB6 (aE (fV 0) (aO 1 (aO 3 (aE (fC (.str "load")) (aE (fV 4) aNil)))))) fNil))))
   sNil)
   (sSeq (sIf (fB (f2 oEq (fV 5) (fC (.int 3))))
   (sRet (fTup (zA3 (fC (.str "take")) (zA3 (zAF 5 [1,2] zB6 (aE (fV 0) (aO 1 (aO 3 (aE (fC (.str "take")) (aE (fV 4) aNil)))))) (zA3 (fV 8) (zA3 (fV 6) fNil))))))
   sNil)
   (sSeq (sIf (fB (f2 (oInD false) (fV 5) (fTup (zA3 (fC (.int 4)) (zA3 (fC (.int 5)) fNil)))))
   (sRet (fTup (zA3 (fC (.str "store")) (zA3 (zAF 5 [1,2] zB6 (aE (fV 0) (aO 1 (aO 3 (aE (fC (.str "store")) (aE (fV 4) aNil)))))) (zA3 (fV 6) fNil)))))
   sNil)
   (sSeq (sIf (fB (f2 oEq (fV 5) (fC (.int 6))))
   (sRet (fTup (zA3 (fC (.str "put")) (zA3 (zAF 5 [1,2] zB6 (aE (fV 0) (aO 1 (aO 3 (aE (fC (.str "put")) (aE (fV 4) aNil)))))) (zA3 (fV 6) (zA3 (fV 8) fNil))))))
   sNil)
   (sSeq (sIf (fB (f2 oEq (fV 5) (fC (.int 7))))
   (sRet (fTup (zA3 (fC (.str "pick")) (zA3 (fV 8) (zA3 (fV 6) (zA3 (fV 7) fNil))))))
   sNil)
   (sRet (fTup (zA3 (f2 oIxA (fLst (zA3 (fC (.str "over")) (zA3 (fC (.str "plus")) (zA3 (fC (.str "minus")) (zA3 (fC (.str "times")) (zA3 (fC (.str "least")) (zA3 (fC (.str "most")) (zA3 (fC (.str "less")) fNil)))))))) (zAF 3 [1] zAO (aE (fV 0) (aO 1 (aE (fC (.int 7)) aNil))))) (zA3 (fV 6) (zA3 (fV 7) fNil)))))))))))))
def zDC:VFun:=runV 9 [1,3] zH5
def zC2:VS:=
   (sSeq (sSet 10 (xV (f2 zBL (f2 zQI (fV 3) (fV 9)) (zAF 3 [1] zAM (aE (fV 0) (aO 1 (aE (fLst (zA3 (fC (.int 1)) (zA3 (fC (.int 1)) (zA3 (fC (.int 1)) (zA3 (fC (.int 1)) (zA3 (f1 oNeg (fC (.int 1))) (zA3 (fC (.int 0)) (zA3 (fC (.int 2)) fNil)))))))) aNil)))))))
   (sMut 8 mApp (zA3 (fIf (bAnd (fB (f3 oLe oLt (fC (.int 0)) (fV 10) (f1 oLen (fV 3)))) (fB (f2 oNe (f2 oIxA (fV 3) (fV 10)) (f2 oSub (f1 oLen (fV 2)) (fC (.int 1)))))) (f2 oIxA (fV 3) (fV 10)) (fV 9)) fNil)))
def zE4:VS:=
   (sSeq (sSet 6 (xV (f2 oIxA (fV 2) (f1 oNeg (fC (.int 1))))))
   (sSeq (sSet 7 (xV (fIf (fB (f2 (oInD false) (f2 oIxA (fV 6) (fC (.int 0))) (fTup (zA3 (fC (.str "load")) (zA3 (fC (.str "take")) (zA3 (fC (.str "store")) (zA3 (fC (.str "put")) fNil))))))) (fC (.int 2)) (fC (.int 1)))))
   (sSeq (sSet 8 (xO (fLst fNil)))
   (sSeq (sFor (iSeq (fSl (fV 6) (pSo (fV 7)) pNo)) (gN 9)
   zC2)
   (sSeq (sIf (fB (f2 oEq (fV 7) (fC (.int 1))))
   (sRet (f2 zBL (fSl (fV 6) pNo (pSo (fC (.int 1)))) (f1 zG5 (fO 8))))
   sNil)
   (sSeq (zPD 4 (f2 oIxA (fV 6) (fC (.int 0))) (f2 oMod (f2 zBL (f2 oIxA (fV 6) (fC (.int 1))) (fC (.int 1))) (fV 5)))
   (sRet (f2 zBL (fTup (zA3 (f2 oIxA (fV 6) (fC (.int 0))) (zA3 (f2 oIxA (fO 4) (f2 oIxA (fV 6) (fC (.int 0)))) fNil))) (f1 zG5 (fO 8))))))))))
def zBS:VFun:=runV 11 [1,4] zE4
def zC1:VS:=
   (sIf (bAnd (fB (f2 oLt (f1 oLen (fO 4)) (fV 2))) (fB (f2 oNe (f2 oIxA (f2 oIxA (fO 4) (f1 oNeg (fC (.int 1)))) (fC (.int 0))) (fC (.str "number")))))
   (sSeq (sMut 4 mApp (zA3 (zAF 6 [1,4] zBS (aE (fV 0) (aO 1 (aO 4 (aO 5 (aO 6 (aE (fV 3) aNil))))))) fNil))
   (sIf (fB (f2 (oInD true) (f2 oIxA (f2 oIxA (fO 4) (f1 oNeg (fC (.int 1)))) (fC (.int 0))) (fTup (zA3 (fC (.str "store")) (zA3 (fC (.str "put")) fNil)))))
   (sMut 5 mApp (zA3 (f2 oSub (f1 oLen (fO 4)) (fC (.int 1))) fNil))
   sNil))
   sNil)
def zCZ:VS:=
   (sSeq (sMut 4 mApp (zA3 (zAF 5 [1,3] zDC (aE (fV 0) (aO 1 (aO 5 (aO 6 (aE (fV 3) aNil)))))) fNil))
   (sSeq (sIf (fB (f2 (oInD true) (f2 oIxA (f2 oIxA (fO 4) (f1 oNeg (fC (.int 1)))) (fC (.int 0))) (fTup (zA3 (fC (.str "store")) (zA3 (fC (.str "put")) fNil)))))
   (sMut 5 mApp (zA3 (f2 oSub (f1 oLen (fO 4)) (fC (.int 1))) fNil))
   sNil)
   (sFor (iR1 (zAF 3 [1] zAM (aE (fV 0) (aO 1 (aE (fLst (zA3 (fC (.int 0)) (zA3 (fC (.int 1)) (zA3 (fC (.int 1)) (zA3 (fC (.int 2)) (zA3 (fC (.int 3)) fNil)))))) aNil))))) (gN 7)
   zC1)))
def zFM:VS:=
   (sSeq (zLB 4 5 6 (xO (fLst fNil)) (xO (fLst fNil)) (xO (fC (.dct [] []))))
   (sSeq (zGU (fB (f2 oLt (f1 oLen (fO 4)) (fV 2)))
   zCZ)
   (sRet (f1 zG5 (fO 4)))))
def zCQ:VFun:=runV 8 [1] zFM
def zH6:VS:=
   (sSeq (sIf (fB (f2 oEq (f2 oIxA (fV 0) (fC (.int 0))) (fC (.str "number"))))
   (sRet (fLst fNil))
   sNil)
   (sRet (fIf (fB (f2 (oInD false) (f2 oIxA (fV 0) (fC (.int 0))) (fTup (zA3 (fC (.str "load")) (zA3 (fC (.str "take")) (zA3 (fC (.str "store")) (zA3 (fC (.str "put")) fNil))))))) (f1 zNT (fSl (fV 0) (pSo (fC (.int 2))) pNo)) (f1 zNT (fSl (fV 0) (pSo (fC (.int 1))) pNo)))))
def zBE:VFun:=runV 1 [] zH6
def zH7:VS:=
   (sSeq (sSet 2 (xV (f2 oIxA (f2 oIxA (fV 0) (fC (.int 1))) (fV 1))))
   (sSeq (sIf (fB (f2 (oInD false) (f2 oIxA (fV 2) (fC (.int 0))) (fTup (zA3 (fC (.str "load")) (zA3 (fC (.str "take")) (zA3 (fC (.str "store")) (zA3 (fC (.str "put")) fNil)))))))
   (sRet (f2 oGe (f2 oIxA (fV 2) (fC (.int 1))) (f2 oIxA (fV 0) (fC (.int 0)))))
   sNil)
   (sRet (fAnd (f2 oEq (f2 oIxA (fV 2) (fC (.int 0))) (fC (.str "over"))) (f2 (oInD true) (fSl (f2 oIxA (f2 oIxA (fV 0) (fC (.int 1))) (f2 oIxA (fV 2) (fC (.int 2)))) pNo (pSo (fC (.int 2)))) (zC8 [] 1 (iR2 (fC (.int 1)) (fC (.int 1000))) (gN 0) bYes (fTup (zA3 (fC (.str "number")) (zA3 (fV 0) fNil)))))))))
def zC7:VFun:=runV 3 [] zH7
def zD1:VS:=
   (sSeq (sSet 7 (xV (zC8 [] 1 (iSeq (fTup (zA3 (fV 6) (zA3 (fV 4) fNil)))) (gN 0) (fB (f2 (oInD false) (f2 oIxA (fV 0) (fC (.int 0))) (fTup (zA3 (fC (.str "store")) (zA3 (fC (.str "put")) fNil))))) (fV 0))))
   (sSeq (sSet 8 (xO (fLst (zA3 (f2 (oInD false) (fV 5) (zAF 1 [] zBE (aE (fV 4) aNil))) (zA3 (fAnd (zAF 2 [] zC7 (aE (fV 0) (aE (fV 5) aNil))) (zAF 2 [] zC7 (aE (fV 0) (aE (fV 3) aNil)))) fNil)))))
   (sSeq (sMut 8 mApp (zA3 (fAnd (f2 (oInD false) (f2 oIxA (fV 6) (fC (.int 0))) (fV 2)) (fAnd (f2 (oInD false) (f2 oIxA (fV 4) (fC (.int 0))) (fV 2)) (fAnd (f2 oEq (f2 oIxA (fV 6) (fC (.int 1))) (f2 oIxA (fV 4) (fC (.int 1)))) (f2 oNe (fV 7) (fLst fNil))))) fNil))
   (sSeq (sMut 8 mApp (zA3 (fAnd (zAF 2 [] zC7 (aE (fV 0) (aE (fV 5) aNil))) (f2 (oInD false) (f2 oIxA (fV 4) (fC (.int 0))) (fTup (zA3 (fC (.str "store")) (zA3 (fC (.str "put")) fNil))))) fNil))
   (sSeq (sMut 8 mApp (zA3 (fAnd (zAF 2 [] zC7 (aE (fV 0) (aE (fV 3) aNil))) (f2 (oInD false) (f2 oIxA (fV 6) (fC (.int 0))) (fTup (zA3 (fC (.str "store")) (zA3 (fC (.str "put")) fNil))))) fNil))
   (sIf (fB (f2 (oInD false) (fC (.bl true)) (fO 8)))
   (sMut 1 mApp (zA3 (fTup (zA3 (fV 5) (zA3 (fV 3) fNil))) fNil))
   sNil))))))
def zD0:VS:=
   (sFor (zKD (fSl (f2 oIxA (fV 0) (fC (.int 1))) pNo (pSo (fV 3)))) (gTp 2 (zB2 (gN 5) (zB2 (gN 6) zDV)))
   zD1)
def zFP:VS:=
   (sSeq (zSY 1 2 (xO (fLst fNil)) (xV (fTup (zA3 (fC (.str "load")) (zA3 (fC (.str "take")) (zA3 (fC (.str "store")) (zA3 (fC (.str "put")) fNil)))))))
   (sSeq (sFor (zKD (f2 oIxA (fV 0) (fC (.int 1)))) (gTp 2 (zB2 (gN 3) (zB2 (gN 4) zDV)))
   zD0)
   (sRet (f1 zQH (fO 1)))))
def zCR:VFun:=runV 9 [] zFP
def zBK:VS:=
   (sSeq (sSet 6 (xV (zC8 [3,4] 1 (iSeq (fO 4)) (gN 2) (fB (f2 oEq (zC8 [1,2] 2 (iSeq (fV 0)) (gTp 2 (zB2 (gN 2) (zB2 (gN 3) zDV))) (bAnd (fB (f2 oEq (fV 3) (fV 1))) (fB (f2 (oInD false) (fV 2) (fO 0)))) (fC (.int 1))) (fLst fNil))) (fV 2))))
   (sSeq (sMut 5 mApp (zA3 (zAF 3 [1] zAM (aE (fV 0) (aO 1 (aE (fV 6) aNil)))) fNil))
   (sMut 4 mRem (zA3 (f2 oIxA (fO 5) (f1 oNeg (fC (.int 1)))) fNil))))
def zCA:VS:=
   (sSeq (zLB 3 4 5 (xV (zAF 1 [] zCR (aE (fV 2) aNil))) (xO (zFU (f1 oLen (f2 oIxA (fV 2) (fC (.int 1)))))) (xO (fLst fNil)))
   (sSeq (zGU (fB (f2 oNe (fO 4) (fLst fNil)))
   zBK)
   (sRet (fO 5))))
def zB5:VFun:=runV 7 [1] zCA
def zB3:VS:=
   (sSeq (sIf (fB (f2 oEq (f2 oIxA (fV 0) (fC (.int 0))) (fC (.str "number"))))
   (sRet (fV 0))
   sNil)
   (sSeq (sSet 2 (xV (fIf (fB (f2 (oInD false) (f2 oIxA (fV 0) (fC (.int 0))) (fTup (zA3 (fC (.str "load")) (zA3 (fC (.str "take")) (zA3 (fC (.str "store")) (zA3 (fC (.str "put")) fNil))))))) (fC (.int 2)) (fC (.int 1)))))
   (sRet (f2 zBL (fSl (fV 0) pNo (pSo (fV 2))) (f1 zG5 (zC8 [1] 1 (iSeq (fSl (fV 0) (pSo (fV 2)) pNo)) (gN 1) bYes (f2 oIxA (fV 0) (fV 1))))))))
def zAL:VFun:=runV 3 [] zB3
def zDI:VS:=
   (sSeq (sSet 3 (xV (zAF 3 [1] zAM (aE (fV 0) (aO 1 (aE (fLst (zA3 (fC (.int 3)) (zA3 (fC (.int 6)) (zA3 (fC (.int 9)) (zA3 (fC (.int 64)) fNil))))) aNil))))))
   (sSeq (sSet 4 (xV (zAF 3 [1] zAM (aE (fV 0) (aO 1 (aE (fLst (zA3 (fC (.int 0)) (zA3 (fV 3) (zA3 (fV 3) (zA3 (zAF 3 [1] zAO (aE (fV 0) (aO 1 (aE (f2 zBL (fV 3) (fC (.int 1))) aNil)))) fNil))))) aNil))))))
   (sSeq (sSet 5 (xV (fTup (zA3 (fV 4) (zA3 (zAF 4 [1] zCQ (aE (fV 0) (aO 1 (aE (zAF 3 [1] zAO (aE (fV 0) (aO 1 (aE (f2 zBL (fV 2) (fC (.int 1))) aNil)))) (aE (fV 3) aNil))))) fNil)))))
   (sSeq (sIf (fB (f2 oGt (zAF 3 [1] zAO (aE (fV 0) (aO 1 (aE (fC (.int 3)) aNil)))) (fC (.int 0))))
   (sRet (fV 5))
   sNil)
   (sSeq (sSet 6 (xV (zAF 3 [1] zB5 (aE (fV 0) (aO 1 (aE (fV 5) aNil))))))
   (sSeq (sSet 7 (xV (f1 zTN (zC8 [] 2 (zKD (fV 6)) (gTp 2 (zB2 (gN 0) (zB2 (gN 1) zDV))) bYes (fTup (zA3 (fV 1) (zA3 (fV 0) fNil)))))))
   (sRet (fTup (zA3 (fV 4) (zA3 (f1 zG5 (zC8 [5,7] 1 (iSeq (fV 6)) (gN 2) bYes (zAF 2 [] zAL (aE (f2 oIxA (f2 oIxA (fV 0) (fC (.int 1))) (fV 2)) (aE (fV 1) aNil))))) fNil))))))))))
def zBR:VFun:=runV 8 [1] zDI
def zH4:VS:=
   (sSeq (sSet 1 (xO (fLst (zA3 (f2 (oIsx xcs xall) (fV 0) (fC (.fn "NoBlock"))) (zA3 (f2 (oIsx xcs xall) (fV 0) (fC (.fn "NoCells"))) (zA3 (f2 (oIsx xcs xall) (fV 0) (fC (.fn "NoRow"))) (zA3 (f2 (oIsx xcs xall) (fV 0) (fC (.fn "NoLanes"))) fNil)))))))
   (sSeq (sMut 1 mExt (zA3 (fLst (zA3 (f2 (oIsx xcs xall) (fV 0) (fC (.fn "NoPlan"))) (zA3 (f2 (oIsx xcs xall) (fV 0) (fC (.fn "NoProgram"))) (zA3 (f2 (oIsx xcs xall) (fV 0) (fC (.fn "NoTree"))) (zA3 (f2 (oIsx xcs xall) (fV 0) (fC (.fn "NoLoop"))) fNil))))) fNil))
   (sSeq (sMut 1 mExt (zA3 (fLst (zA3 (f2 (oIsx xcs xall) (fV 0) (fC (.fn "NoText"))) (zA3 (f2 (oIsx xcs xall) (fV 0) (fC (.fn "NoName"))) (zA3 (f2 (oIsx xcs xall) (fV 0) (fC (.fn "TooMany"))) (zA3 (f2 (oIsx xcs xall) (fV 0) (fC (.fn "TooLong"))) fNil))))) fNil))
   (sSeq (sMut 1 mExt (zA3 (fLst (zA3 (f2 (oIsx xcs xall) (fV 0) (fC (.fn "NotValid"))) (zA3 (f2 (oIsx xcs xall) (fV 0) (fC (.fn "Nothing"))) fNil))) fNil))
   (sSeq (sIf (bOr (fB (f2 oNe (f2 zLJ (fO 1) (fC (.bl true))) (fC (.int 1)))) (bNot (fB (f2 (oIsx xcs xall) (fV 0) (fC (.ty "ValueError"))))))
   (sRet (fTup (zA3 (fC (.str "refused")) (zA3 (f1 oNeg (fC (.int 1))) fNil))))
   sNil)
   (sRet (fTup (zA3 (fC (.str "refused")) (zA3 (f2 zLI (fO 1) (fC (.bl true))) fNil)))))))))
def zCV:VFun:=runV 2 [] zH4
def zFO:VS:=
   (sSeq (sSet 2 (xV (fC (.lst [.non,.int 5,.tup [],.tup [.int 0],.tup [.int 0,.lst []],.lst [.int 0,.tup []],.tup [.int (-1),.tup []],.tup [.int 65,.tup []],.tup [.bl true,.tup []],.tup [.str "0",.tup []],.tup [.int 0,.tup [],.tup []],.tup [.int 0,.tup [.tup []]]]))))
   (sSeq (sSet 2 (xV (f2 zBL (fV 2) (fC (.lst [.tup [.int 0,.tup [.tup [.str "number"]]],.tup [.int 0,.tup [.tup [.str "number",.int 1000]]],.tup [.int 0,.tup [.tup [.str "plus",.int 0,.int 0]]],.tup [.int 0,.tup [.lst [.str "load",.int 0]]]])))))
   (sSeq (sSet 2 (xV (f2 zBL (fV 2) (fC (.lst [.tup [.int 0,.tup [.tup [.str "load",.int 64]]],.tup [.int 0,.tup [.tup [.str "load",.int (-1)]]],.tup [.int 0,.tup [.tup [.str "halve",.int 0]]],.tup [.int 0,.tup [.tup [.int 5,.int 0]]]])))))
   (sSeq (sSet 2 (xV (f2 zBL (fV 2) (fLst (zA3 (fC (.tup [.int 0,.tup [.tup [.str "number",.int 1],.tup [.str "store",.int 0,.int 0],.tup [.str "plus",.int 0,.int 1]]])) (zA3 (fTup (zA3 (fC (.int 0)) (zA3 (f2 zBW (fC (.tup [.tup [.str "number",.int 1]])) (fC (.int 41))) fNil))) fNil))))))
   (sSeq (sSet 2 (xV (f2 zBL (fV 2) (fC (.lst [.tup [.int 0,.tup [.tup [.str "number",.int 1],.tup [.str "plus",.int 0,.int 1]]]])))))
   (sRet (zAF 3 [1] zAM (aE (fV 0) (aO 1 (aE (fV 2) aNil))))))))))
def zCB:VFun:=runV 3 [1] zFO
def zF5:VS:=
   (sTry (sRet (zKL 2 [] [("run",zOD),("values",zE7)] (f2 oIxA (fLst (zA3 (fC (.fn "run")) (zA3 (fC (.fn "values")) fNil))) (fV 0)) (aE (fV 1) (aE (fV 2) aNil))))
   (zJ2 2 [("run",zOB),("values",zE6)] (f2 oIxA (fLst (zA3 (fC (.fn "run")) (zA3 (fC (.fn "values")) fNil))) (fV 0)) (aE (fV 1) (aE (fV 2) aNil)))
   3 (sRet (zAF 1 [] zCV (aE (fV 3) aNil))))
def zAV:VFun:=runV 4 [] zF5
def zXV:VS:=
   (sSeq (sSet 1 (xO (fLst fNil)))
   (sSeq (sIf (fB (f2 oNe (zC8 [0,1] 1 (iR1 (fC (.int 2))) (gN 2) bYes (zAF 3 [] zAV (aE (fV 2) (aE (zAF 2 [1] zCB (aE (fV 0) (aO 1 aNil))) (aE (fC .non) aNil))))) (f2 zBW (fC (.lst [.tup [.str "refused",.int 0]])) (fC (.int 2)))))
   (sRet (fC (.bl false)))
   sNil)
   (sSeq (sSet 2 (xV (zAF 3 [1] zBR (aE (fV 0) (aO 1 (aE (fC (.int 10)) aNil))))))
   (sSeq (sSet 3 (xV (fLst (zA3 (fC .non) (zA3 (fC (.int 5)) (zA3 (fTup (zA3 (fC (.int 1)) (zA3 (fC (.int 2)) fNil))) (zA3 (fC (.str "12")) (zA3 (f2 zBW (fLst (zA3 (fC (.int 1000)) fNil)) (fC (.int 64))) (zA3 (f2 zBW (fLst (zA3 (f1 oNeg (fC (.int 1))) fNil)) (fC (.int 64))) (zA3 (f2 zBW (fLst (zA3 (fC (.bl true)) fNil)) (fC (.int 64))) (zA3 (f2 zBW (fLst (zA3 (fC (.str "1")) fNil)) (fC (.int 64))) (zA3 (f2 zBW (fLst (zA3 (fC (.int 0)) fNil)) (fC (.int 65))) (zA3 (f2 zBL (f2 zBW (fLst (zA3 (fC (.int 0)) fNil)) (fC (.int 63))) (fLst (zA3 (fC .non) fNil))) fNil)))))))))))))
   (sSeq (sIf (fB (f2 oGt (f2 oIxA (fV 2) (fC (.int 0))) (fC (.int 0))))
   (sSet 3 (xV (f2 zBL (fV 3) (f2 zBW (fLst (zA3 (f2 zBW (fLst (zA3 (fC (.int 0)) fNil)) (f2 oSub (f2 oIxA (fV 2) (fC (.int 0))) (fC (.int 1)))) fNil)) (fC (.int 6))))))
   sNil)
   (sSeq (sSet 4 (xV (zAF 3 [1] zAM (aE (fV 0) (aO 1 (aE (f2 zBL (fV 3) (fLst (zA3 (f2 zBW (fC (.lst [.lst [.int 0]])) (fC (.int 64))) fNil))) aNil))))))
   (sSeq (sIf (fB (f2 oNe (zC8 [2,4] 1 (iR1 (fC (.int 2))) (gN 2) bYes (zAF 3 [] zAV (aE (fV 2) (aE (fV 0) (aE (fV 1) aNil))))) (f2 zBW (fC (.lst [.tup [.str "refused",.int 1]])) (fC (.int 2)))))
   (sRet (fC (.bl false)))
   sNil)
   (sRet (fAnd (f2 oEq (zAF 3 [] zAV (aE (fC (.int 0)) (aE (fC (.tup [.int 64,.tup []])) (aE (f2 zBW (fLst (zA3 (fC (.int 0)) fNil)) (fC (.int 64))) aNil)))) (fTup (zA3 (f2 zBW (fLst (zA3 (fC (.int 0)) fNil)) (fC (.int 64))) (zA3 (fC .non) fNil)))) (f2 oEq (zAF 3 [] zAV (aE (fC (.int 1)) (aE (fC (.tup [.int 0,.tup []])) (aE (fLst fNil) aNil)))) (fLst fNil)))))))))))
def zOE:VFun:=runV 5 [] zXV
end L2
namespace RR
open PySem L2
structure Txt(K:A8)(mg:Str->Option Value):Prop where
 fnm: ∀x a,E4 K mainGlobals x=some (some (.ref a))->mg x=some (.ref a)
 n_len:mg "len"=none
 n_range:mg "range"=none
 n_min:mg "min"=none
 n_max:mg "max"=none
 zEC:mg "list"=none
 n_tuple:mg "tuple"=none
 n_sorted:mg "sorted"=none
 n_isinstance:mg "isinstance"=none
 n_bool:mg "bool"=none
 n_int:mg "int"=none
 n_str:mg "str"=none
 n_enumerate:mg "enumerate"=none
 n_zip:mg "zip"=none
 n_all:mg "all"=none
 n_dict:mg "dict"=none
 n_ValueError:mg "ValueError"=none
 v_DEEDS: ∃u v,mg "DEEDS"=some u/\RelV v u/\ ∀N H M,Rep K N H M v zRY
 v_DEED_PARTS: ∃u v,mg "DEED_PARTS"=some u/\RelV v u/\ ∀N H M,Rep K N H M v zG8
 v_MADE: ∃u v,mg "MADE"=some u/\RelV v u/\ ∀N H M,Rep K N H M v zVK
 v_MOST_CELLS: ∃u v,mg "MOST_CELLS"=some u/\RelV v u/\ ∀N H M,Rep K N H M v zDY
 v_MOST_PLACE: ∃u v,mg "MOST_PLACE"=some u/\RelV v u/\ ∀N H M,Rep K N H M v zDX
 v_MOST_ROWS: ∃u v,mg "MOST_ROWS"=some u/\RelV v u/\ ∀N H M,Rep K N H M v zEP
 v_MOST_SURE: ∃u v,mg "MOST_SURE"=some u/\RelV v u/\ ∀N H M,Rep K N H M v zEO
 v_MOST_WORD: ∃u v,mg "MOST_WORD"=some u/\RelV v u/\ ∀N H M,Rep K N H M v zBQ
 v_OTHER_PARTS: ∃u v,mg "OTHER_PARTS"=some u/\RelV v u/\ ∀N H M,Rep K N H M v zF9
 v_READERS: ∃u v,mg "READERS"=some u/\RelV v u/\ ∀N H M,Rep K N H M v zKY
 v_WRITERS: ∃u v,mg "WRITERS"=some u/\RelV v u/\ ∀N H M,Rep K N H M v zCU
 v_Nothing: ∃u v,mg "Nothing"=some u/\RelV v u/\ ∀N H M,Rep K N H M v (.fn "Nothing")
 v_NotValid: ∃u v,mg "NotValid"=some u/\RelV v u/\ ∀N H M,Rep K N H M v (.fn "NotValid")
 v_TooLong: ∃u v,mg "TooLong"=some u/\RelV v u/\ ∀N H M,Rep K N H M v (.fn "TooLong")
 v_TooMany: ∃u v,mg "TooMany"=some u/\RelV v u/\ ∀N H M,Rep K N H M v (.fn "TooMany")
 v_NoName: ∃u v,mg "NoName"=some u/\RelV v u/\ ∀N H M,Rep K N H M v (.fn "NoName")
 v_NoText: ∃u v,mg "NoText"=some u/\RelV v u/\ ∀N H M,Rep K N H M v (.fn "NoText")
 v_NoLoop: ∃u v,mg "NoLoop"=some u/\RelV v u/\ ∀N H M,Rep K N H M v (.fn "NoLoop")
 v_NoTree: ∃u v,mg "NoTree"=some u/\RelV v u/\ ∀N H M,Rep K N H M v (.fn "NoTree")
 v_NoProgram: ∃u v,mg "NoProgram"=some u/\RelV v u/\ ∀N H M,Rep K N H M v (.fn "NoProgram")
 v_NoPlan: ∃u v,mg "NoPlan"=some u/\RelV v u/\ ∀N H M,Rep K N H M v (.fn "NoPlan")
 v_NoLanes: ∃u v,mg "NoLanes"=some u/\RelV v u/\ ∀N H M,Rep K N H M v (.fn "NoLanes")
 v_NoRow: ∃u v,mg "NoRow"=some u/\RelV v u/\ ∀N H M,Rep K N H M v (.fn "NoRow")
 v_NoCells: ∃u v,mg "NoCells"=some u/\RelV v u/\ ∀N H M,Rep K N H M v (.fn "NoCells")
 v_NoBlock: ∃u v,mg "NoBlock"=some u/\RelV v u/\ ∀N H M,Rep K N H M v (.fn "NoBlock")
 v_values: ∃u v,mg "values"=some u/\RelV v u/\ ∀N H M,Rep K N H M v (.fn "values")
 v_run: ∃u v,mg "run"=some u/\RelV v u/\ ∀N H M,Rep K N H M v (.fn "run")
 x_NoBlock: ∃C,XC K "NoBlock" C/\mg "NoBlock"=some (.ref C)
 x_NoCells: ∃C,XC K "NoCells" C/\mg "NoCells"=some (.ref C)
 xi:XI K xcs xall
section
variable{P:Aj}{w:World}{K:A8}{mg:Str->Option Value}{base:Heap}{f:Addr}{fd:C2}
noncomputable abbrev Nx0:List Str:=["thing","low","high"]
noncomputable abbrev Qx0:List Str:=["thing","low","high"]
theorem yDJ:zAD Nx0 Qx0 (zA4 (top 19)):=mkSc
theorem yEP(F:Fun K "is_whole" "is_whole" (top 19) f fd) (T:Txt K mg):
  FnOk P w K mg base CX0 1 f fd Qx0 (spV K [] 3 zB1):=
 okW P w K mg base Nx0 Qx0 0 zFR [] F yDJ fun _ _ _ _ _ _ hr hu hu1=>by
  refine zA2 ?_ ?_
  ·exact(zB7 (vt_w (zI3 (zCK (visi T.n_isinstance (vv 0) (vty T.n_bool zY3))) (zES (zCS (zCK (visi T.n_isinstance (vv 0) (vty T.n_int yCK)))))))
   (zA6 (zAC zDR))
   zAH)
  exact zA6 (zAC (zSH zQE zQE s_le s_le (vv 1) (vv 0) (vv 2)))
noncomputable abbrev Nx1:List Str:=["a","b"]
noncomputable abbrev Qx1:List Str:=["a","b"]
theorem yDI:zAD Nx1 Qx1 (zA4 (top 20)):=mkSc
theorem yEO(F:Fun K "plus" "plus" (top 20) f fd) (T:Txt K mg):
  FnOk P w K mg base CX0 1 f fd Qx1 (spV K [] 2 zNA):=
 okW P w K mg base Nx1 Qx1 0 zVC [] F yDI fun _ _ _ _ _ _ hr hu hu1=>by exact(zA6 (zAC (zCT zDT zGT (zAT (zCM (K:=K) rfl) zBO (vv 0) (vv 1)) (zAT (zCM (K:=K) rfl) zBO (zAI (by rfl) T.v_MOST_WORD) zA1))))
noncomputable abbrev Nx2:List Str:=["a","b"]
noncomputable abbrev Qx2:List Str:=["a","b"]
theorem yDH:zAD Nx2 Qx2 (zA4 (top 21)):=mkSc
theorem yEN(F:Fun K "minus" "minus" (top 21) f fd) (T:Txt K mg):
  FnOk P w K mg base CX0 1 f fd Qx2 (spV K [] 2 zIZ):=
 okW P w K mg base Nx2 Qx2 0 zR8 [] F yDH fun _ _ _ _ _ _ hr hu hu1=>by exact(zA6 (zAC (zCT zDT zGT (zCT zG4 zJO (vv 0) (vv 1)) (zAT (zCM (K:=K) rfl) zBO (zAI (by rfl) T.v_MOST_WORD) zA1))))
noncomputable abbrev Nx3:List Str:=["a","b"]
noncomputable abbrev Qx3:List Str:=["a","b"]
theorem yDG:zAD Nx3 Qx3 (zA4 (top 22)):=mkSc
theorem yEM(F:Fun K "times" "times" (top 22) f fd) (T:Txt K mg):
  FnOk P w K mg base CX0 1 f fd Qx3 (spV K [] 2 zIY):=
 okW P w K mg base Nx3 Qx3 0 zR7 [] F yDG fun _ _ _ _ _ _ hr hu hu1=>by exact(zA6 (zAC (zCT zDT zGT (zAT (zK8 (K:=K) rfl) zHG (vv 0) (vv 1)) (zAT (zCM (K:=K) rfl) zBO (zAI (by rfl) T.v_MOST_WORD) zA1))))
noncomputable abbrev Nx4:List Str:=["a","b"]
noncomputable abbrev Qx4:List Str:=["a","b"]
theorem yDF:zAD Nx4 Qx4 (zA4 (top 23)):=mkSc
theorem yEL(F:Fun K "least" "least" (top 23) f fd) (T:Txt K mg):
  FnOk P w K mg base CX0 1 f fd Qx4 (spV K [] 2 zJ0):=
 okW P w K mg base Nx4 Qx4 0 zR9 [] F yDF fun _ _ _ _ _ _ hr hu hu1=>by exact(zA6 (zAC (zD7 (zKT rfl) zZC (by rfl) T.n_min zVL (vv 0) (vv 1))))
noncomputable abbrev Nx5:List Str:=["a","b"]
noncomputable abbrev Qx5:List Str:=["a","b"]
theorem yDE:zAD Nx5 Qx5 (zA4 (top 24)):=mkSc
theorem yEK(F:Fun K "most" "most" (top 24) f fd) (T:Txt K mg):
  FnOk P w K mg base CX0 1 f fd Qx5 (spV K [] 2 zND):=
 okW P w K mg base Nx5 Qx5 0 zVF [] F yDE fun _ _ _ _ _ _ hr hu hu1=>by exact(zA6 (zAC (zD7 (zKU rfl) zZD (by rfl) T.n_max zVM (vv 0) (vv 1))))
noncomputable abbrev Nx6:List Str:=["a","b"]
noncomputable abbrev Qx6:List Str:=["a","b"]
theorem yDD:zAD Nx6 Qx6 (zA4 (top 25)):=mkSc
theorem yEJ(F:Fun K "less" "less" (top 25) f fd) (T:Txt K mg):
  FnOk P w K mg base CX0 1 f fd Qx6 (spV K [] 2 zNE):=
 okW P w K mg base Nx6 Qx6 0 zVG [] F yDD fun _ _ _ _ _ _ hr hu hu1=>by exact(zA6 (zAC (zGQ (zAY zQD s_lt (vv 0) (vv 1) (zBH _)) zA1 zA1)))
noncomputable abbrev Nx7:List Str:=["a","b"]
noncomputable abbrev Qx7:List Str:=["a","b"]
theorem yDC:zAD Nx7 Qx7 (zA4 (top 26)):=mkSc
theorem yEI(F:Fun K "over" "over" (top 26) f fd) (T:Txt K mg):
  FnOk P w K mg base CX0 1 f fd Qx7 (spV K [] 2 zNC):=
 okW P w K mg base Nx7 Qx7 0 zVE [] F yDC fun _ _ _ _ _ _ hr hu hu1=>by exact(zA6 (zAC (zGQ (vteq hu (vv 1) zA1) zBV (zCT zLG zPA (vv 0) (vv 1)))))
noncomputable abbrev Nx8:List Str:=["c","a","b"]
noncomputable abbrev Qx8:List Str:=["c","a","b"]
theorem yDB:zAD Nx8 Qx8 (zA4 (top 27)):=mkSc
theorem yEH(F:Fun K "pick" "pick" (top 27) f fd) (T:Txt K mg):
  FnOk P w K mg base CX0 1 f fd Qx8 (spV K [] 3 zNB):=
 okW P w K mg base Nx8 Qx8 0 zVD [] F yDB fun _ _ _ _ _ _ hr hu hu1=>by exact(zA6 (zAC (zGQ (zAY (kNeD (K:=K) rfl hu) s_ne (vv 0) zA1 (zBH _)) (vv 1) (vv 2))))
noncomputable abbrev Nx9:List Str:=["deed","words","made"]
noncomputable abbrev Qx9:List Str:=["deed","words"]
theorem zYZ:zAD Nx9 Qx9 (zA4 (top 29)):=mkSc
theorem yEG(F:Fun K "done" "done" (top 29) f fd) (T:Txt K mg) (jr:DefV P w K mg base "plus" 1 Qx1 [] zNA f_x1) (jq:DefV P w K mg base "minus" 1 Qx2 [] zIZ f_x2) (jo:DefV P w K mg base "times" 1 Qx3 [] zIY f_x3) (jm:DefV P w K mg base "least" 1 Qx4 [] zJ0 f_x4) (jl:DefV P w K mg base "most" 1 Qx5 [] zND f_x5) (jk:DefV P w K mg base "less" 1 Qx6 [] zNE f_x6) (jj:DefV P w K mg base "over" 1 Qx7 [] zNC f_x7) (ji:DefV P w K mg base "pick" 1 Qx8 [] zNB f_x8):
  FnOk P w K mg base CX0 2 f fd Qx9 (spV K [] 2 zNF):=
 okW P w K mg base Nx9 Qx9 1 zVH [] F zYZ fun _ _ _ _ _ _ hr hu hu1=>by
  refine zA2 ?_ ?_
  ·exact(zB7 (vteq hu (vv 0) zAE)
   (zA6 (zAC (vcal ji hr (zA8 (zA9 (vix hu1 (vv 1) zA1)) (zA8 (zA9 (vix hu1 (vv 1) zA1)) (zA8 (zA9 (vix hu1 (vv 1) zA1)) zAA))))))
   zAH)
  refine zA2 ?_ ?_
  ·exact(zAZ zYZ.nd (zC4 (zA9 (vix hu1 (zAI (by rfl) T.v_MADE) (vv 0)))))
  exact zA6 (zAC (zSK (zCL (K:=K) rfl T.fnm hr jr (by decide) (zCL (K:=K) rfl T.fnm hr jq (by decide) (zCL (K:=K) rfl T.fnm hr jo (by decide) (zCL (K:=K) rfl T.fnm hr jm (by decide) (zCL (K:=K) rfl T.fnm hr jl (by decide) (zCL (K:=K) rfl T.fnm hr jk (by decide) (zCL (K:=K) rfl T.fnm hr jj (by decide) zP2))))))) (pv 2) (zA8 (zA9 (vix hu1 (vv 1) zA1)) (zA8 (zA9 (vix hu1 (vv 1) zA1)) zAA))))
noncomputable abbrev Nx10:List Str:=["deed"]
noncomputable abbrev Qx10:List Str:=["deed"]
theorem zZB:zAD Nx10 Qx10 (zA4 (top 38)):=mkSc
theorem yBK(F:Fun K "parts_of" "parts_of" (top 38) f fd) (T:Txt K mg):
  FnOk P w K mg base CX0 1 f fd Qx10 (spV K [] 1 zB4):=
 okW P w K mg base Nx10 Qx10 0 zHY [] F zZB fun _ _ _ _ _ _ hr hu hu1=>by
  refine zA2 ?_ ?_
  ·exact (zB7 (zAY (kInD (K := K) rfl hu) (zCW (neg := false)) (vv 0) (zAI (by rfl) T.v_DEEDS) (by with_unfolding_all rfl))
   (zA6 (zAC (zAI (by rfl) T.v_DEED_PARTS)))
   zAH)
  exact zA6 (zAC (zW0 rfl hu1 (zAI (by rfl) T.v_OTHER_PARTS) (vv 0) ⟨rfl,rfl,rfl,rfl⟩))
noncomputable abbrev Nx11:List Str:=["row"]
noncomputable abbrev Qx11:List Str:=["row"]
theorem zZA:zAD Nx11 Qx11 (zA4 (top 39)):=mkSc
theorem yBJ(F:Fun K "makes_word" "makes_word" (top 39) f fd) (T:Txt K mg):
  FnOk P w K mg base CX0 1 f fd Qx11 (spV K [] 1 zC3):=
 okW P w K mg base Nx11 Qx11 0 zDW [] F zZA fun _ _ _ _ _ _ hr hu hu1=>by exact(zA6 (zAC (zDN (zII (K:=K) rfl hu) (zCW (neg:=true)) (vix hu1 (vv 0) zA1) (zAI (by rfl) T.v_WRITERS) (by with_unfolding_all rfl))))
noncomputable abbrev Nx12:List Str:=["row"]
noncomputable abbrev Qx12:List Str:=["row"]
theorem zZ9:zAD Nx12 Qx12 (zA4 (top 40)):=mkSc
theorem yBI(F:Fun K "place_of" "place_of" (top 40) f fd) (T:Txt K mg):
  FnOk P w K mg base CX0 1 f fd Qx12 (spV K [] 1 zE8):=
 okW P w K mg base Nx12 Qx12 0 zHX [] F zZ9 fun _ _ _ _ _ _ hr hu hu1=>by exact(zA6 (zAC (zGQ (vt_w (zI3 (zAY (kInD (K:=K) rfl hu) (zCW (neg:=false)) (vix hu1 (vv 0) zA1) (zAI (by rfl) T.v_READERS) (by with_unfolding_all rfl)) (zES (zAY (kInD (K:=K) rfl hu) (zCW (neg:=false)) (vix hu1 (vv 0) zA1) (zAI (by rfl) T.v_WRITERS) (by with_unfolding_all rfl))))) (vix hu1 (vv 0) zA1) zBV)))
noncomputable abbrev Nx13:List Str:=["row","deed","rest"]
noncomputable abbrev Qx13:List Str:=["row"]
theorem zUL:zAD Nx13 Qx13 (zA4 (top 41)):=mkSc
theorem yBH(F:Fun K "names_of" "names_of" (top 41) f fd) (T:Txt K mg) (cq:DefV P w K mg base "parts_of" 1 Qx10 [] zB4 f_x10):
  FnOk P w K mg base CX0 2 f fd Qx13 (spV K [] 1 zDB):=
 okW P w K mg base Nx13 Qx13 1 zHZ [] F zUL fun _ _ _ _ _ _ hr hu hu1=>by
  refine zA2 ?_ ?_
  ·exact(zOJ (i:=1) (j:=2) rfl rfl zUL.nd rfl rfl (by decide) (J1 rfl) (J1 rfl) (vv 0))
  exact zA6 (zAC (zAJ (zBZ ["part","given"] [] 2 (zUC rfl (by rfl) T.n_zip (zA9 (vcal cq hr (zA8 (vv 1) zAA))) (vv 2)) (fun hn _ _ _ _=>⟨(zDM (K:=K) rfl rfl (zAW (zAN hn) (zAW (zAN hn) zCH))),(zMB (vteq hu (vv 0) zAE)),(vv 1)⟩))))
noncomputable abbrev Nx14:List Str:=["thing","able"]
noncomputable abbrev Qx14:List Str:=["thing","able"]
theorem zZ8:zAD Nx14 Qx14 (zA4 (top 42)):=mkSc
theorem yBG(F:Fun K "may_name" "may_name" (top 42) f fd) (T:Txt K mg) (bq:DefV P w K mg base "is_whole" 1 Qx0 [] zB1 f_x0):
  FnOk P w K mg base CX0 2 f fd Qx14 (spV K [] 2 zCP):=
 okW P w K mg base Nx14 Qx14 1 zFL [] F zZ8 fun _ _ _ _ _ _ hr hu hu1=>by exact(zA6 (zAC (zEU (vcal bq hr (zA8 (vv 0) (zA8 zA1 (zA8 (zA9 (zCT zG4 zJO (vlen T.n_len (vv 1)) zA1)) zAA)))) (zGP (vix hu1 (vv 1) (vv 0))))))
noncomputable abbrev Nx15:List Str:=["part","thing","able"]
noncomputable abbrev Qx15:List Str:=["part","thing","able"]
theorem zZ7:zAD Nx15 Qx15 (zA4 (top 43)):=mkSc
theorem yBF(F:Fun K "fits" "fits" (top 43) f fd) (T:Txt K mg) (bq:DefV P w K mg base "is_whole" 1 Qx0 [] zB1 f_x0) (ig:DefV P w K mg base "may_name" 2 Qx14 [] zCP f_x14):
  FnOk P w K mg base CX0 3 f fd Qx15 (spV K [] 3 zEE):=
 okW P w K mg base Nx15 Qx15 2 zKH [] F zZ7 fun _ _ _ _ _ _ hr hu hu1=>by
  refine zA2 ?_ ?_
  ·exact(zB7 (vteq hu (vv 0) zAE)
   (zA6 (zAC (vcal bq hr (zA8 (vv 1) (zA8 zA1 (zA8 (zA9 (zAI (by rfl) T.v_MOST_WORD)) zAA))))))
   zAH)
  refine zA2 ?_ ?_
  ·exact(zB7 (vteq hu (vv 0) zAE)
   (zA6 (zAC (vcal bq hr (zA8 (vv 1) (zA8 zA1 (zA8 (zA9 (zAI (by rfl) T.v_MOST_PLACE)) zAA))))))
   zAH)
  exact zA6 (zAC (vcal ig hr (zA8 (vv 1) (zA8 (vv 2) zAA))))
noncomputable abbrev Nx16:List Str:=["thing","able","deed","rest","parts"]
noncomputable abbrev Qx16:List Str:=["thing","able"]
theorem zP9:zAD Nx16 Qx16 (zA4 (top 44)):=mkSc
theorem yBE(F:Fun K "is_row" "is_row" (top 44) f fd) (T:Txt K mg) (cq:DefV P w K mg base "parts_of" 1 Qx10 [] zB4 f_x10) (i9:DefV P w K mg base "fits" 3 Qx15 [] zEE f_x15):
  FnOk P w K mg base CX0 4 f fd Qx16 (spV K [] 2 zE9):=
 okW P w K mg base Nx16 Qx16 3 zIM [] F zP9 fun _ _ _ _ _ _ hr hu hu1=>by
  refine zA2 ?_ ?_
  ·exact(zB7 (vt_w (zI3 (zCS (zCK (visi T.n_isinstance (vv 0) (vty T.n_tuple zCY)))) (zES (vteq hu (vlen T.n_len (vv 0)) zA1))))
   (zA6 (zAC zDR))
   zAH)
  refine zA2 ?_ ?_
  ·exact (zOJ (i := 2) (j := 3) rfl rfl zP9.nd rfl rfl (by decide) (J1 rfl) (J1 rfl) (vv 0))
  refine zA2 ?_ ?_
  ·exact(zAZ zP9.nd (zC4 (zA9 (zGQ (zCK (visi T.n_isinstance (vv 2) (vty T.n_str yCI))) (vcal cq hr (zA8 (vv 2) zAA)) zBV))))
  refine zA2 ?_ ?_
  ·exact(zB7 (vt_w (zI3 (zAY zUZ zZE (vv 4) zBV (zBH _)) (zES (zAY (kNeD (K:=K) rfl hu) s_ne (vlen T.n_len (vv 4)) (vlen T.n_len (vv 3)) (zBH _)))))
   (zA6 (zAC zDR))
   zAH)
  exact zA6 (zAC (zW2 (kAll (K:=K) rfl rfl) zZG (by rfl) T.n_all zVN (zAJ (zBZ ["able","part","given"] [1] 2 (zUC rfl (by rfl) T.n_zip (vv 4) (vv 3)) (fun hn _ _ _ _=>⟨(zDM (K:=K) rfl rfl (zAW (zAN hn) (zAW (zAN hn) zCH))),zEB,(zA9 (vcal i9 hr (zA8 (vv 1) (zA8 (vv 2) (zA8 (vv 0) zAA)))))⟩)))))
noncomputable abbrev Nx17:List Str:=["thing","sure","rows","able","row"]
noncomputable abbrev Qx17:List Str:=["thing"]
theorem zJN:zAD Nx17 Qx17 (zA4 (top 45)):=mkSc
theorem yBD(F:Fun K "is_block" "is_block" (top 45) f fd) (T:Txt K mg) (bq:DefV P w K mg base "is_whole" 1 Qx0 [] zB1 f_x0) (ij:DefV P w K mg base "makes_word" 1 Qx11 [] zC3 f_x11) (i8:DefV P w K mg base "is_row" 4 Qx16 [] zE9 f_x16):
  FnOk P w K mg base CX0 5 f fd Qx17 (spV K [] 1 zBM):=
 okW P w K mg base Nx17 Qx17 4 zFT [] F zJN fun _ _ _ _ _ _ hr hu hu1=>by
  refine zA2 ?_ ?_
  ·exact(zB7 (vt_w (zI3 (zCS (zCK (visi T.n_isinstance (vv 0) (vty T.n_tuple zCY)))) (zES (zAY (kNeD (K:=K) rfl hu) s_ne (vlen T.n_len (vv 0)) zA1 (zBH _)))))
   (zA6 (zAC zDR))
   zAH)
  refine zA2 ?_ ?_
  ·exact(zJ5 (vv 0) (zDM (K:=K) rfl rfl (zAW (zAN zJN.nd) (zAW (zAN zJN.nd) zCH))))
  refine zA2 ?_ ?_
  ·exact (zB7 (zCS (zCK (vcal bq hr (zA8 (vv 1) (zA8 zA1 (zA8 (zA9 (zAI (by rfl) T.v_MOST_SURE)) zAA))))))
   (zA6 (zAC zDR))
   zAH)
  refine zA2 ?_ ?_
  ·exact (zB7 (vt_w (zI3 (zCS (zCK (visi T.n_isinstance (vv 2) (vty T.n_tuple zCY)))) (zES (zAY zWX s_gt (vlen T.n_len (vv 2)) (zAI (by rfl) T.v_MOST_ROWS) (zBH _)))))
   (zA6 (zAC zDR))
   zAH)
  refine zA2 ?_ ?_
  ·exact(zAZ zJN.nd (zFE (zAP (zAB zA7))))
  refine zA2 ?_ ?_
  ·exact(zGN D1 rfl (zFZ rfl (vv 2)) (zAN zJN.nd)
   (zA2 (zB7 (zCS (zCK (vcal i8 hr (zA8 (vv 4) (zBA (pv 3) zAA)))))
   (zA6 (zAC zDR))
   zAH)
   (zA6 (zCF (K:=K) rfl At Au zBB zD9 (pv 3) (zAB (zA0 (vcal ij hr (zA8 (vv 4) zAA)) zA7))))))
  exact zA6 (zAC zDR)
noncomputable abbrev Nx18:List Str:=["thing","sure"]
noncomputable abbrev Qx18:List Str:=["thing","sure"]
theorem zZ6:zAD Nx18 Qx18 (zA4 (top 48)):=mkSc
theorem yBC(F:Fun K "is_cells" "is_cells" (top 48) f fd) (T:Txt K mg) (bq:DefV P w K mg base "is_whole" 1 Qx0 [] zB1 f_x0):
  FnOk P w K mg base CX0 2 f fd Qx18 (spV K [] 2 zAR):=
 okW P w K mg base Nx18 Qx18 1 zFS [] F zZ6 fun _ _ _ _ _ _ hr hu hu1=>by
  refine zA2 ?_ ?_
  ·exact (zB7 (vt_w (zI3 (zCS (zCK (visi T.n_isinstance (vv 0) (vty T.zEC zFV)))) (zES (zCS (zM8 zQE zQE s_le s_le (vv 1) (vlen T.n_len (vv 0)) (zAI (by rfl) T.v_MOST_CELLS))))))
   (zA6 (zAC zDR))
   zAH)
  exact zA6 (zAC (zW2 (kAll (K:=K) rfl rfl) zZG (by rfl) T.n_all zVN (zAJ (zBZ ["word"] [] 1 (zFZ rfl (vv 0)) (fun hn _ _ _ _=>⟨(zAN hn),zEB,(zA9 (vcal bq hr (zA8 (vv 0) (zA8 zA1 (zA8 (zA9 (zAI (by rfl) T.v_MOST_WORD)) zAA)))))⟩)))))
noncomputable abbrev Nx19:List Str:=["deed","words"]
noncomputable abbrev Qx19:List Str:=["deed","words"]
theorem zZ5:zAD Nx19 Qx19 (zA4 (top 49)):=mkSc
theorem yBB(F:Fun K "touches" "touches" (top 49) f fd) (T:Txt K mg):
  FnOk P w K mg base CX0 1 f fd Qx19 (spV K [] 2 zFB):=
 okW P w K mg base Nx19 Qx19 0 zKG [] F zZ5 fun _ _ _ _ _ _ hr hu hu1=>by
  refine zA2 ?_ ?_
  ·exact(zB7 (vteq hu (vv 0) zAE)
   (zA6 (zAC (zDN (kNeD (K:=K) rfl hu) s_ne (vix hu1 (vv 1) zA1) zA1 (zBH _))))
   zAH)
  refine zA2 ?_ ?_
  ·exact(zB7 (vteq hu (vv 0) zAE)
   (zA6 (zAC (zDN (kNeD (K:=K) rfl hu) s_ne (vix hu1 (vv 1) zA1) zA1 (zBH _))))
   zAH)
  exact zA6 (zAC zDR)
noncomputable abbrev Nx20:List Str:=["deed","place","words","cells"]
noncomputable abbrev Qx20:List Str:=["deed","place","words","cells"]
theorem zZ4:zAD Nx20 Qx20 (zA4 (top 50)):=mkSc
theorem yBA(F:Fun K "do_on_cell" "do_on_cell" (top 50) f fd) (T:Txt K mg) (i7:DefV P w K mg base "touches" 1 Qx19 [] zFB f_x19):
  FnOk P w K mg base CX0 2 f fd Qx20 (spV K [3] 4 zD3):=
 okW P w K mg base Nx20 Qx20 1 zG7 [3] F zZ4 fun _ _ _ _ _ _ hr hu hu1=>by
  refine zA2 ?_ ?_
  ·exact(zB7 (zCS (zCK (vcal i7 hr (zA8 (vv 0) (zA8 (vv 2) zAA)))))
   (zA6 (zAC (zAS (zA0 (zGQ (vteq hu (vv 0) zAE) (vix hu1 (vv 2) zA1) zBV) (zA0 zBV zA7)))))
   zAH)
  refine zA2 ?_ ?_
  ·exact(zB7 (zAY yAL s_ge (vv 1) (vlen T.n_len (vo 3)) (zBH _))
   (zA6 (zAC (zAS (zA0 zBV (zA0 zAE zA7)))))
   zAH)
  refine zA2 ?_ ?_
  ·exact (zB7 (zAY (kInD (K := K) rfl hu) (zCW (neg := false)) (vv 0) (zAI (by rfl) T.v_WRITERS) (by with_unfolding_all rfl))
   (zA2 (zYF rfl (pv 3) (vv 1) (zA9 (vix hu1 (vv 2) zA1)))
   (zA6 (zAC (zAS (zA0 zBV (zA0 zBV zA7))))))
   zAH)
  exact zA6 (zAC (zAS (zA0 (vix hu1 (vo 3) (vv 1)) (zA0 zBV zA7))))
noncomputable abbrev Nx21:List Str:=["row","words","cells","shift","deed","place","word"]
noncomputable abbrev Qx21:List Str:=["row","words","cells","shift"]
theorem zMH:zAD Nx21 Qx21 (zA4 (top 51)):=mkSc
theorem zV3{Td:Addr}(F:FunD K "do_row" "do_row" (top 51) (.ref Td) f fd) (T:Txt K mg) (iu:DefV P w K mg base "done" 2 Qx9 [] zNF f_x9) (fo:DefV P w K mg base "place_of" 1 Qx12 [] zE8 f_x12) (fm:DefV P w K mg base "do_on_cell" 2 Qx20 [3] zD3 f_x20):
  FnOk P w K mg base CX0 3 f fd Qx21 (spV K [2] 4 zEA):=
 FunD.okV (P:=P) (w:=w) (mg:=mg) (base:=base) (K:=K) (N:=Nx21) (ps:=Qx21) (k:=2) (g:=zN3) (ml:=[2]) F zMH (by decide) fun cdv A outer s H E hr=>by
  have hu:=hr.units
  have hu1:=zXS hr
  refine zA2 ?_ ?_
  ·exact(zAZ zMH.nd (zC4 (zA9 (vix hu1 (vv 0) zA1))))
  refine zA2 ?_ ?_
  ·exact(zB7 (vteq hu (vv 4) zAE)
   (zA6 (zAC (zAS (zA0 (vix hu1 (vv 0) zA1) (zA0 zBV zA7)))))
   zAH)
  refine zA2 ?_ ?_
  ·exact(zAZ zMH.nd (zC4 (zA9 (vcal fo hr (zA8 (vv 0) zAA)))))
  refine zA2 ?_ ?_
  ·exact(zB7 (zAY zQC zUM (vv 5) zBV (zBH _))
   (zA6 (zAC (vcal fm hr (zA8 (vv 4) (zA8 (zA9 (zAT (zCM (K:=K) rfl) zBO (vv 5) (vv 3))) (zA8 (vv 1) (zBA (pv 2) zAA)))))))
   zAH)
  refine zA2 ?_ ?_
  ·exact(zAZ zMH.nd (zC4 (zA9 (vcal iu hr (zA8 (vv 4) (zA8 (vv 1) zAA))))))
  exact zA6 (zAC (zAS (zA0 (vv 6) (zA0 (zGQ (zAY zUZ zZE (vv 6) zBV (zBH _)) zAE zBV) zA7))))
noncomputable abbrev Nx22:List Str:=["rows","cells","words","at","row","word","why"]
noncomputable abbrev Qx22:List Str:=["rows","cells"]
theorem zHP:zAD Nx22 Qx22 (zA4 (top 52)):=mkSc
theorem yB9(F:Fun K "do_rows" "do_rows" (top 52) f fd) (T:Txt K mg) (ii:DefV P w K mg base "names_of" 2 Qx13 [] zDB f_x13) (j8:DefV P w K mg base "do_row" 3 Qx21 [2] zEA f_x21) (eo:DefD P w K mg base "do_row" 3 Qx21 (spV K [2] 4 zEA) f_x21 (.int 0)):
  FnOk P w K mg base CX0 4 f fd Qx22 (spV K [1] 2 zCG):=
 okW P w K mg base Nx22 Qx22 3 zKI [1] F zHP fun _ _ _ _ _ _ hr hu hu1=>by
  refine zA2 ?_ ?_
  ·exact(zAZ zHP.nd (zFE (zAP (zAB zA7))))
  refine zA2 ?_ ?_
  ·exact (zGN D1 rfl (zI5 rfl (by rfl) T.n_enumerate (vv 0)) (zDM (K := K) rfl rfl (zAW (zAN zHP.nd) (zAW (zAN zHP.nd) zCH)))
   (zA2 (zJ5 (zA9 (zSL (K:=K) (v:=(.int 0)) (d:=(.int 0)) rfl eo (fun _ _ _=>(.int _)) (fun _=>nofun) hr (by decide) (by rfl) (zA8 (vv 4) (zA8 (zAJ (zBZ ["words","name"] [2] 1 (zFZ rfl (zA9 (vcal ii hr (zA8 (vv 4) zAA)))) (fun hn _ _ _ _=>⟨(zAN hn),zEB,(zA9 (vix hu1 (vo 0) (vv 1)))⟩))) (zBA (pv 1) zAA))))) (zDM (K:=K) rfl rfl (zAW (zAN zHP.nd) (zAW (zAN zHP.nd) zCH))))
   (zA2 (zB7 (zAY zQC zUM (vv 6) zBV (zBH _))
   (zA6 (zAC (zAS (zI7 (pv 2) (zA0 (zAS (zA0 (vv 3) (zA0 (vv 6) zA7))) zA7)))))
   zAH)
   (zA6 (zCF (K:=K) rfl At Au zBB zD9 (pv 2) (zAB (zA0 (vv 5) zA7)))))))
  exact zA6 (zAC (zAS (zI7 (pv 2) (zA0 zBV zA7))))
noncomputable abbrev Nx23:List Str:=["block","cells"]
noncomputable abbrev Qx23:List Str:=["block","cells"]
theorem zUK:zAD Nx23 Qx23 (zA4 (top 53)):=mkSc
theorem yB8(F:Fun K "check_run" "check_run" (top 53) f fd) (T:Txt K mg) (c6:DefV P w K mg base "is_block" 5 Qx17 [] zBM f_x17) (cn:DefV P w K mg base "is_cells" 2 Qx18 [] zAR f_x18):
  FnOk P w K mg base CX0 6 f fd Qx23 (spV K [] 2 zBF):=
 okW P w K mg base Nx23 Qx23 5 zEN [] F zUK fun _ _ _ _ _ _ hr hu hu1=>by
  refine zA2 ?_ ?_
  ·exact(zB7 (zCS (zCK (vcal c6 hr (zA8 (vv 0) zAA))))
   (zA6 zI4)
   zAH)
  exact zA6 (zB7 (zCS (zCK (vcal cn hr (zA8 (vv 1) (zA8 (zA9 (vix hu1 (vv 0) zA1)) zAA)))))
   (zA6 zI4)
   zAH)
theorem zX2(F:Fun K "check_run" "check_run" (top 53) f fd) (T:Txt K mg) (c6:DefV P w K mg base "is_block" 5 Qx17 [] zBM f_x17) (cn:DefV P w K mg base "is_cells" 2 Qx18 [] zAR f_x18):
  FnOk P w K mg base (CXv P w) 6 f fd Qx23 (spX K 2 zBD):=
 okZ P w K mg base Nx23 Qx23 5 zEF F zUK fun _ _ _ _ _ _ hr hu hu1=>by
  exact(zVS (zDD (zYD (zCS (zCK (vcal c6 hr (zA8 (vv 0) zAA)))) (zDD (zM7 rfl zPE rfl (by rfl) T.x_NoBlock)) zUB))
   (zVR (zB7 (zCS (zCK (vcal c6 hr (zA8 (vv 0) zAA))))
   (zA6 zI4)
   zAH)
   (zDD (zYD (zCS (zCK (vcal cn hr (zA8 (vv 1) (zA8 (zA9 (vix hu1 (vv 0) zA1)) zAA))))) (zDD (zM7 rfl zPE rfl (by rfl) T.x_NoCells)) zUB))))
noncomputable abbrev Nx24:List Str:=["block","cells","then","words","fault"]
noncomputable abbrev Qx24:List Str:=["block","cells"]
theorem zJM:zAD Nx24 Qx24 (zA4 (top 54)):=mkSc
theorem yB7(F:Fun K "run" "run" (top 54) f fd) (T:Txt K mg) (b5:DefV P w K mg base "do_rows" 4 Qx22 [1] zCG f_x22) (az:DefV P w K mg base "check_run" 6 Qx23 [] zBF f_x23):
  FnOk P w K mg base CX0 7 f fd Qx24 (spV K [] 2 zOD):=
 okW P w K mg base Nx24 Qx24 6 zXU [] F zJM fun _ _ _ _ _ _ hr hu hu1=>by
  refine zA2 ?_ ?_
  ·exact(zOK (vcal az hr (zA8 (vv 0) (zA8 (vv 1) zAA))))
  refine zA2 ?_ ?_
  ·exact(zAZ zJM.nd (zFE (zVX (zN1 (K:=K) rfl) zEC (by rfl) T.zEC zFV (vv 1))))
  refine zA2 ?_ ?_
  ·exact(zJ5 (zA9 (vcal b5 hr (zA8 (zA9 (vix hu1 (vv 0) zA1)) (zBA (pv 2) zAA)))) (zDM (K:=K) rfl rfl (zAW (zAN zJM.nd) (zAW (zAN zJM.nd) zCH))))
  exact zA6 (zAC (zAS (zI7 (pv 2) (zA0 (vv 4) zA7))))
theorem zX1(F:Fun K "run" "run" (top 54) f fd) (T:Txt K mg) (b5:DefV P w K mg base "do_rows" 4 Qx22 [1] zCG f_x22) (az:DefV P w K mg base "check_run" 6 Qx23 [] zBF f_x23) (br:DefX P w K mg base "check_run" 6 Qx23 zBD f_x23):
  FnOk P w K mg base (CXv P w) 7 f fd Qx24 (spX K 2 zOB):=
 okZ P w K mg base Nx24 Qx24 6 zVO F zJM fun _ _ _ _ _ _ hr hu hu1=>by exact(zDD (zOG (zOH zPF rfl br hr (by decide) (by rfl) rfl (zA8 (vv 0) (zA8 (vv 1) zAA)))))
noncomputable abbrev Nx25:List Str:=["block","cells","words","fault"]
noncomputable abbrev Qx25:List Str:=["block","cells"]
theorem zMG:zAD Nx25 Qx25 (zA4 (top 55)):=mkSc
theorem yB6(F:Fun K "values" "values" (top 55) f fd) (T:Txt K mg) (b5:DefV P w K mg base "do_rows" 4 Qx22 [1] zCG f_x22) (az:DefV P w K mg base "check_run" 6 Qx23 [] zBF f_x23):
  FnOk P w K mg base CX0 7 f fd Qx25 (spV K [] 2 zE7):=
 okW P w K mg base Nx25 Qx25 6 zIL [] F zMG fun _ _ _ _ _ _ hr hu hu1=>by
  refine zA2 ?_ ?_
  ·exact(zOK (vcal az hr (zA8 (vv 0) (zA8 (vv 1) zAA))))
  refine zA2 ?_ ?_
  ·exact(zJ5 (zA9 (zSJ (K:=K) (i:=1) (mF:=[]) rfl b5 (by decide) hr (by decide) (by rfl) (yD0 (zA9 (vix hu1 (vv 0) zA1)) (zVY rfl (by rfl) T.zEC zFV (vv 1))))) (zDM (K:=K) rfl rfl (zAW (zAN zMG.nd) (zAW (zAN zMG.nd) zCH))))
  exact zA6 (zAC (vv 2))
theorem zX0(F:Fun K "values" "values" (top 55) f fd) (T:Txt K mg) (b5:DefV P w K mg base "do_rows" 4 Qx22 [1] zCG f_x22) (az:DefV P w K mg base "check_run" 6 Qx23 [] zBF f_x23) (br:DefX P w K mg base "check_run" 6 Qx23 zBD f_x23):
  FnOk P w K mg base (CXv P w) 7 f fd Qx25 (spX K 2 zE6):=
 okZ P w K mg base Nx25 Qx25 6 zI1 F zMG fun _ _ _ _ _ _ hr hu hu1=>by exact(zDD (zOG (zOH zPF rfl br hr (by decide) (by rfl) rfl (zA8 (vv 0) (zA8 (vv 1) zAA)))))
noncomputable abbrev Nx26:List Str:=["_law_script","_law_k","_law_rest","_law_again"]
noncomputable abbrev Qx26:List Str:=["_law_script","_law_k"]
theorem zMF:zAD Nx26 Qx26 (zA4 (top 57)):=mkSc
theorem yB5(F:Fun K "_law_cell_at" "_law_cell_at" (top 57) f fd) (T:Txt K mg):
  FnOk P w K mg base CX0 1 f fd Qx26 (spV K [] 2 zBC):=
 okW P w K mg base Nx26 Qx26 0 zDH [] F zMF fun _ _ _ _ _ _ hr hu hu1=>by
  refine zA2 ?_ ?_
  ·exact(zB7 (zAY zQD s_lt (vv 1) (vlen T.n_len (vv 0)) (zBH _))
   (zA6 (zAC (vix hu1 (vv 0) (vv 1))))
   zAH)
  refine zA2 ?_ ?_
  ·exact(zB7 (vteq hu (vv 0) (zAJ (zAP (zAB zA7))))
   (zA6 (zAC zA1))
   zAH)
  refine zA2 ?_ ?_
  ·exact(zAZ zMF.nd (zC4 (zA9 (vix hu1 (vv 0) (zCT zDT zGT (vv 1) (vlen T.n_len (vv 0)))))))
  refine zA2 ?_ ?_
  ·exact (zGN D1 rfl (zDQ (by rfl) T.n_range (zD7 (zKT rfl) zZC (by rfl) T.n_min zVL (zCT zLG zPA (vv 1) (vlen T.n_len (vv 0))) zA1)) (zAN zMF.nd)
   (zA6 (zAZ zMF.nd (zC4 (zA9 (zCT zLG zPA (vv 2) zA1))))))
  exact zA6 (zAC (zAT (zCM (K:=K) rfl) zBO (zAT (zCM (K:=K) rfl) zBO (zAT (zK8 (K:=K) rfl) zHG (vix hu1 (vv 0) (zCT zDT zGT (vv 1) (vlen T.n_len (vv 0)))) zA1) (vv 1)) (zAT (zK8 (K:=K) rfl) zHG (vv 2) zA1)))
noncomputable abbrev Nx27:List Str:=["_law_script","_law_k","_law_bound","_law_drawn"]
noncomputable abbrev Qx27:List Str:=["_law_script","_law_k","_law_bound"]
theorem zUJ:zAD Nx27 Qx27 (zA4 (top 58)):=mkSc
theorem yB4(F:Fun K "_law_mixed" "_law_mixed" (top 58) f fd) (T:Txt K mg) (i4:DefV P w K mg base "_law_cell_at" 1 Qx26 [] zBC f_x26):
  FnOk P w K mg base CX0 2 f fd Qx27 (spV K [] 3 zCC):=
 okW P w K mg base Nx27 Qx27 1 zEM [] F zUJ fun _ _ _ _ _ _ hr hu hu1=>by
  refine zA2 ?_ ?_
  ·exact(@zAZ _ _ _ _ _ _ _ _ _ zUJ.nd (@zC4 _ _ _ _ _ _ (@zA9 _ _ _ _ _ _ _ _ (zCT zDT zGT (@zAT _ _ _ _ _ _ _ _ _ _ _ _ _ _ _ _ _ (zCM (K:=K) rfl) zBO (@zAT _ _ _ _ _ _ _ _ _ _ _ _ _ _ _ _ _ (zCM (K:=K) rfl) zBO (@zAT _ _ _ _ _ _ _ _ _ _ _ _ _ _ _ _ _ (zK8 (K:=K) rfl) zHG (vcal i4 hr (zA8 (vv 0) (zA8 (vv 1) zAA))) zA1 rfl) (@zAT _ _ _ _ _ _ _ _ _ _ _ _ _ _ _ _ _ (zK8 (K:=K) rfl) zHG zA1 (vv 1) rfl) rfl) zA1 rfl) zA1) rfl)) rfl (by first|exact .inl rfl|exact .inr rfl) (by decide) rfl (by first|exact .inl rfl|exact .inr rfl))
  exact zA6 (zAC (zCT zDT zGT (zCT zDT zGT (zCT zDT zGT (zCT yAI yDK (vv 3) zA1) zA1) zA1) (vv 2)))
noncomputable abbrev Nx28:List Str:=["_law_script","_law_town","_law_bound"]
noncomputable abbrev Qx28:List Str:=["_law_script","_law_town","_law_bound"]
theorem zZ3:zAD Nx28 Qx28 (zA4 (top 59)):=mkSc
theorem yB3(F:Fun K "_law_draw" "_law_draw" (top 59) f fd) (T:Txt K mg) (i3:DefV P w K mg base "_law_mixed" 2 Qx27 [] zCC f_x27):
  FnOk P w K mg base CX0 3 f fd Qx28 (spV K [1] 3 zAO):=
 okW P w K mg base Nx28 Qx28 2 zFQ [1] F zZ3 fun _ _ _ _ _ _ hr hu hu1=>by
  refine zA2 ?_ ?_
  ·exact(zCF (K:=K) rfl At Au zBB zD9 (pv 1) (zAB (zA0 zA1 zA7)))
  exact zA6 (zAC (vcal i3 hr (zA8 (vv 0) (zA8 (zA9 (vlen T.n_len (vo 1))) (zA8 (vv 2) zAA)))))
noncomputable abbrev Nx29:List Str:=["_law_script","_law_town","_law_some"]
noncomputable abbrev Qx29:List Str:=["_law_script","_law_town","_law_some"]
theorem zZ2:zAD Nx29 Qx29 (zA4 (top 60)):=mkSc
theorem yB2(F:Fun K "_law_pick" "_law_pick" (top 60) f fd) (T:Txt K mg) (ak:DefV P w K mg base "_law_draw" 3 Qx28 [1] zAO f_x28):
  FnOk P w K mg base CX0 4 f fd Qx29 (spV K [1] 3 zAM):=
 okW P w K mg base Nx29 Qx29 3 zFN [1] F zZ2 fun _ _ _ _ _ _ hr hu hu1=>by exact(zA6 (zAC (vix hu1 (vv 2) (vcal ak hr (zA8 (vv 0) (zBA (pv 1) (zA8 (zA9 (vlen T.n_len (vv 2))) zAA)))))))
noncomputable abbrev Nx30:List Str:=["_law_script","_law_town","_law_seen","_law_deed","_law_room"]
noncomputable abbrev Qx30:List Str:=["_law_script","_law_town","_law_seen","_law_deed","_law_room"]
theorem zZ1:zAD Nx30 Qx30 (zA4 (top 61)):=mkSc
theorem yB1(F:Fun K "_law_place" "_law_place" (top 61) f fd) (T:Txt K mg) (ak:DefV P w K mg base "_law_draw" 3 Qx28 [1] zAO f_x28) (af:DefV P w K mg base "_law_pick" 4 Qx29 [1] zAM f_x29):
  FnOk P w K mg base CX0 5 f fd Qx30 (spV K [1,2] 5 zB6):=
 okW P w K mg base Nx30 Qx30 4 zEL [1,2] F zZ1 fun _ _ _ _ _ _ hr hu hu1=>by
  refine zA2 ?_ ?_
  ·exact(zOL hu1 (pv 2) (vv 3) (zA9 (zCT zDT zGT (zAT (zCM (K:=K) rfl) zBO (zSG hu1 (pv 2) (vv 3) (zA9 (vcal ak hr (zA8 (vv 0) (zBA (pv 1) (zA8 (vv 4) zAA))))) ⟨rfl,rfl,rfl,rfl⟩) (vcal af hr (zA8 (vv 0) (zBA (pv 1) (zA8 (zAJ (zAP (zAB (zA0 zA1 (zA0 zA1 (zA0 zA1 (zA0 zA1 (zA0 zA1 zA7)))))))) zAA))))) (vv 4))) rfl)
  exact zA6 (zAC (vix hu1 (vo 2) (vv 3)))
noncomputable abbrev Nx31:List Str:=["_law_script","_law_town","_law_made","_law_seen","_law_room","_law_kind","_law_a","_law_b","_law_c"]
noncomputable abbrev Qx31:List Str:=["_law_script","_law_town","_law_made","_law_seen","_law_room"]
theorem zJL:zAD Nx31 Qx31 (zA4 (top 62)):=mkSc
theorem yB0(F:Fun K "_law_row" "_law_row" (top 62) f fd) (T:Txt K mg) (ak:DefV P w K mg base "_law_draw" 3 Qx28 [1] zAO f_x28) (af:DefV P w K mg base "_law_pick" 4 Qx29 [1] zAM f_x29) (c5:DefV P w K mg base "_law_place" 5 Qx30 [1,2] zB6 f_x30):
  FnOk P w K mg base CX0 6 f fd Qx31 (spV K [1,3] 5 zDC):=
 okW P w K mg base Nx31 Qx31 5 zH5 [1,3] F zJL fun _ _ _ _ _ _ hr hu hu1=>by
  refine zA2 ?_ ?_
  ·exact(zAZ zJL.nd (zC4 (zA9 (vcal ak hr (zA8 (vv 0) (zBA (pv 1) (zA8 zA1 zAA)))))))
  refine zA2 ?_ ?_
  ·exact(zB7 (vt_w (zI3 (vteq hu (vv 2) (zAJ (zAP (zAB zA7)))) (zES (vteq hu (vv 5) zA1))))
   (zA2 (zB7 (vteq hu (vcal ak hr (zA8 (vv 0) (zBA (pv 1) (zA8 zA1 zAA)))) zA1)
   (zA6 (zAC (zAS (zA0 zAE (zA0 (vcal af hr (zA8 (vv 0) (zBA (pv 1) (zA8 (zAJ (zAP (zAB (zA0 zA1 (zA0 zA1 (zA0 zA1 (zA0 zA1 (zA0 zA1 (zA0 (vcal ak hr (zA8 (vv 0) (zBA (pv 1) (zA8 zA1 zAA)))) zA7))))))))) zAA)))) zA7)))))
   zAH)
   (zA6 (zAC (zAS (zA0 zAE (zA0 (vcal c5 hr (zA8 (vv 0) (zBA (pv 1) (zBA (pv 3) (zA8 zAE (zA8 (vv 4) zAA)))))) zA7))))))
   zAH)
  refine zA2 ?_ ?_
  ·exact (zJ5 (zAJ (zBZ ["_law_script","_law_town","_law_made","_law_k"] [0,1,2] 1 (zDQ (by rfl) T.n_range zA1) (fun hn _ _ _ _ => ⟨(zAN hn),zEB,(zA9 (vix hu1 (vv 2) (zD7 (zKU rfl) zZD (by rfl) T.n_max zVM zA1 (zCT zG4 zJO (zCT zG4 zJO (vlen T.n_len (vv 2)) zA1) (vcal ak hr (zA8 (vv 0) (zBA (pv 1) (zA8 zA1 zAA))))))))⟩))) (zDM (K := K) rfl rfl (zAW (zAN zJL.nd) (zAW (zAN zJL.nd) (zAW (zAN zJL.nd) zCH)))))
  refine zA2 ?_ ?_
  ·exact (zB7 (zAY (kInD (K := K) rfl hu) (zCW (neg := false)) (vv 5) (zAS (zA0 zA1 (zA0 zA1 zA7))) (by with_unfolding_all rfl))
   (zA6 (zAC (zAS (zA0 zAE (zA0 (vcal c5 hr (zA8 (vv 0) (zBA (pv 1) (zBA (pv 3) (zA8 zAE (zA8 (vv 4) zAA)))))) zA7)))))
   zAH)
  refine zA2 ?_ ?_
  ·exact(zB7 (vteq hu (vv 5) zA1)
   (zA6 (zAC (zAS (zA0 zAE (zA0 (vcal c5 hr (zA8 (vv 0) (zBA (pv 1) (zBA (pv 3) (zA8 zAE (zA8 (vv 4) zAA)))))) (zA0 (vv 8) (zA0 (vv 6) zA7)))))))
   zAH)
  refine zA2 ?_ ?_
  ·exact (zB7 (zAY (kInD (K := K) rfl hu) (zCW (neg := false)) (vv 5) (zAS (zA0 zA1 (zA0 zA1 zA7))) (by with_unfolding_all rfl))
   (zA6 (zAC (zAS (zA0 zAE (zA0 (vcal c5 hr (zA8 (vv 0) (zBA (pv 1) (zBA (pv 3) (zA8 zAE (zA8 (vv 4) zAA)))))) (zA0 (vv 6) zA7))))))
   zAH)
  refine zA2 ?_ ?_
  ·exact(zB7 (vteq hu (vv 5) zA1)
   (zA6 (zAC (zAS (zA0 zAE (zA0 (vcal c5 hr (zA8 (vv 0) (zBA (pv 1) (zBA (pv 3) (zA8 zAE (zA8 (vv 4) zAA)))))) (zA0 (vv 6) (zA0 (vv 8) zA7)))))))
   zAH)
  refine zA2 ?_ ?_
  ·exact(zB7 (vteq hu (vv 5) zA1)
   (zA6 (zAC (zAS (zA0 zAE (zA0 (vv 8) (zA0 (vv 6) (zA0 (vv 7) zA7)))))))
   zAH)
  exact zA6 (zAC (zAS (zA0 (vix hu1 (zAJ (zAP (zAB (zA0 zAE (zA0 zAE (zA0 zAE (zA0 zAE (zA0 zAE (zA0 zAE (zA0 zAE zA7)))))))))) (vcal ak hr (zA8 (vv 0) (zBA (pv 1) (zA8 zA1 zAA))))) (zA0 (vv 6) (zA0 (vv 7) zA7)))))
noncomputable abbrev Nx33:List Str:=["_law_script","_law_town","_law_rows_here","_law_made","_law_seen","_law_room","_law_last","_law_first","_law_names_here","_law_name","_law_at"]
noncomputable abbrev Qx33:List Str:=["_law_script","_law_town","_law_rows_here","_law_made","_law_seen","_law_room"]
theorem zHO:zAD Nx33 Qx33 (zA4 (top 64)):=mkSc
theorem yAY(F:Fun K "_law_next" "_law_next" (top 64) f fd) (T:Txt K mg) (af:DefV P w K mg base "_law_pick" 4 Qx29 [1] zAM f_x29):
  FnOk P w K mg base CX0 5 f fd Qx33 (spV K [1,4] 6 zBS):=
 okW P w K mg base Nx33 Qx33 4 zE4 [1,4] F zHO fun _ _ _ _ _ _ hr hu hu1=>by
  refine zA2 ?_ ?_
  ·exact(zAZ zHO.nd (zC4 (zA9 (vix hu1 (vv 2) (zET zA1)))))
  refine zA2 ?_ ?_
  ·exact (@zAZ _ _ _ _ _ _ _ _ _ zHO.nd (@zC4 _ _ _ _ _ _ (@zA9 _ _ _ _ _ _ _ _ (zGQ (zAY (kInD (K := K) rfl hu) (zCW (neg := false)) (vix hu1 (vv 6) zA1) (@zAS _ _ _ _ _ _ _ _ _ (@zA0 _ _ _ _ _ _ _ _ _ _ _ _ zAE (@zA0 _ _ _ _ _ _ _ _ _ _ _ _ zAE (@zA0 _ _ _ _ _ _ _ _ _ _ _ _ zAE (@zA0 _ _ _ _ _ _ _ _ _ _ _ _ zAE zA7 rfl rfl rfl) rfl rfl rfl) rfl rfl rfl) rfl rfl rfl)) (by with_unfolding_all rfl)) zA1 zA1) rfl)) rfl (by first | exact .inl rfl | exact .inr rfl) (by decide) rfl (by first | exact .inl rfl | exact .inr rfl))
  refine zA2 ?_ ?_
  ·exact(zAZ zHO.nd (zFE (zAP (zAB zA7))))
  refine zA2 ?_ ?_
  ·exact(zGN D1 rfl (zFZ rfl (zA9 (zJ8 rfl (vv 6) (zJ6 (vv 7)) zJ7))) (zAN zHO.nd)
   (zA2 (zAZ zHO.nd (zC4 (zA9 (zAT (zCM (K:=K) rfl) zBO (zSF rfl (vv 3) (vv 9)) (vcal af hr (zA8 (vv 0) (zBA (pv 1) (zA8 (zAJ (zAP (zAB (zA0 zA1 (zA0 zA1 (zA0 zA1 (zA0 zA1 (zA0 (zET zA1) (zA0 zA1 (zA0 zA1 zA7)))))))))) zAA))))))))
   (zA6 (zCF (K:=K) rfl At Au zBB zD9 (pv 8) (zAB (zA0 (zGQ (vt_w (zOI (zM8 zQE zQD s_le s_lt zA1 (vv 10) (vlen T.n_len (vv 3))) (zL8 (zAY (kNeD (K:=K) rfl hu) s_ne (vix hu1 (vv 3) (vv 10)) (zCT zG4 zJO (vlen T.n_len (vv 2)) zA1) (zBH _))))) (vix hu1 (vv 3) (vv 10)) (vv 9)) zA7))))))
  refine zA2 ?_ ?_
  ·exact(zB7 (vteq hu (vv 7) zA1)
   (zA6 (zAC (zAT (zCM (K:=K) rfl) zBO (zJ8 rfl (vv 6) zJ7 (zJ6 zA1)) (zOP (zH1 (K:=K) rfl) zHF (by rfl) T.n_tuple zCY (vo 8)))))
   zAH)
  refine zA2 ?_ ?_
  ·exact(zOL hu1 (pv 4) (vix hu1 (vv 6) zA1) (zA9 (zCT zDT zGT (zAT (zCM (K:=K) rfl) zBO (vix hu1 (vv 6) zA1) zA1) (vv 5))) rfl)
  exact zA6 (zAC (zAT (zCM (K:=K) rfl) zBO (zAS (zA0 (vix hu1 (vv 6) zA1) (zA0 (vix hu1 (vo 4) (vix hu1 (vv 6) zA1)) zA7))) (zOP (zH1 (K:=K) rfl) zHF (by rfl) T.n_tuple zCY (vo 8))))
noncomputable abbrev Nx32:List Str:=["_law_script","_law_town","_law_many","_law_room","_law_rows_here","_law_made","_law_seen","_law_again"]
noncomputable abbrev Qx32:List Str:=["_law_script","_law_town","_law_many","_law_room"]
theorem zP8:zAD Nx32 Qx32 (zA4 (top 63)):=mkSc
theorem yAZ(F:Fun K "_law_rows" "_law_rows" (top 63) f fd) (T:Txt K mg) (af:DefV P w K mg base "_law_pick" 4 Qx29 [1] zAM f_x29) (h9:DefV P w K mg base "_law_row" 6 Qx31 [1,3] zDC f_x31) (gx:DefV P w K mg base "_law_next" 5 Qx33 [1,4] zBS f_x33):
  FnOk P w K mg base CX0 7 f fd Qx32 (spV K [1] 4 zCQ):=
 okW P w K mg base Nx32 Qx32 6 zFM [1] F zP8 fun _ _ _ _ _ _ hr hu hu1=>by
  refine zA2 ?_ ?_
  ·exact (zVV (i := 4) (j := 5) (k := 6) rfl zP8.nd rfl rfl rfl (by decide) (by decide) (by decide) rfl rfl rfl (zFE (zAP (zAB zA7))) (zFE (zAP (zAB zA7))) (zFE zSE) rfl)
  refine zA2 ?_ ?_
  ·exact(zM9 D1 (zAY zQD s_lt (vlen T.n_len (vo 4)) (vv 2) (zBH _))
   (zA2 (zCF (K:=K) rfl At Au zBB zD9 (pv 4) (zAB (zA0 (vcal h9 hr (zA8 (vv 0) (zBA (pv 1) (zBA (pv 5) (zBA (pv 6) (zA8 (vv 3) zAA)))))) zA7)))
   (zA2 (zB7 (zAY (zII (K:=K) rfl hu) (zCW (neg:=true)) (vix hu1 (vix hu1 (vo 4) (zET zA1)) zA1) (zAS (zA0 zAE (zA0 zAE zA7))) (by with_unfolding_all rfl))
   (zA6 (zCF (K:=K) rfl At Au zBB zD9 (pv 5) (zAB (zA0 (zCT zG4 zJO (vlen T.n_len (vo 4)) zA1) zA7))))
   zAH)
   (zA6 (zGN D1 rfl (zDQ (by rfl) T.n_range (vcal af hr (zA8 (vv 0) (zBA (pv 1) (zA8 (zAJ (zAP (zAB (zA0 zA1 (zA0 zA1 (zA0 zA1 (zA0 zA1 (zA0 zA1 zA7)))))))) zAA))))) (zAN zP8.nd)
   (zA6 (zB7 (vt_w (zOI (zAY zQD s_lt (vlen T.n_len (vo 4)) (vv 2) (zBH _)) (zL8 (zAY (kNeD (K:=K) rfl hu) s_ne (vix hu1 (vix hu1 (vo 4) (zET zA1)) zA1) zAE (zBH _)))))
   (zA2 (zCF (K:=K) rfl At Au zBB zD9 (pv 4) (zAB (zA0 (vcal gx hr (zA8 (vv 0) (zBA (pv 1) (zBA (pv 4) (zBA (pv 5) (zBA (pv 6) (zA8 (vv 3) zAA))))))) zA7)))
   (zA6 (zB7 (zAY (zII (K:=K) rfl hu) (zCW (neg:=true)) (vix hu1 (vix hu1 (vo 4) (zET zA1)) zA1) (zAS (zA0 zAE (zA0 zAE zA7))) (by with_unfolding_all rfl))
   (zA6 (zCF (K:=K) rfl At Au zBB zD9 (pv 5) (zAB (zA0 (zCT zG4 zJO (vlen T.n_len (vo 4)) zA1) zA7))))
   zAH)))
   zAH)))))))
  exact zA6 (zAC (zOP (zH1 (K:=K) rfl) zHF (by rfl) T.n_tuple zCY (vo 4)))
noncomputable abbrev Nx35:List Str:=["_law_row_here"]
noncomputable abbrev Qx35:List Str:=["_law_row_here"]
theorem zZ0:zAD Nx35 Qx35 (zA4 (top 66)):=mkSc
theorem yAW(F:Fun K "_law_names" "_law_names" (top 66) f fd) (T:Txt K mg):
  FnOk P w K mg base CX0 1 f fd Qx35 (spV K [] 1 zBE):=
 okW P w K mg base Nx35 Qx35 0 zH6 [] F zZ0 fun _ _ _ _ _ _ hr hu hu1=>by
  refine zA2 ?_ ?_
  ·exact(zB7 (vteq hu (vix hu1 (vv 0) zA1) zAE)
   (zA6 (zAC (zAJ (zAP (zAB zA7)))))
   zAH)
  exact zA6 (zAC (zGQ (zAY (kInD (K:=K) rfl hu) (zCW (neg:=false)) (vix hu1 (vv 0) zA1) (zAS (zA0 zAE (zA0 zAE (zA0 zAE (zA0 zAE zA7))))) (by with_unfolding_all rfl)) (zAJ (zVX (zN1 (K:=K) rfl) zEC (by rfl) T.zEC zFV (zVZ (zJ8 rfl (vv 0) (zJ6 zA1) zJ7)))) (zAJ (zVX (zN1 (K:=K) rfl) zEC (by rfl) T.zEC zFV (zVZ (zJ8 rfl (vv 0) (zJ6 zA1) zJ7))))))
noncomputable abbrev Nx36:List Str:=["_law_block_here","_law_row_here","_law_here"]
noncomputable abbrev Qx36:List Str:=["_law_block_here","_law_row_here"]
theorem zUI:zAD Nx36 Qx36 (zA4 (top 67)):=mkSc
theorem yAV(F:Fun K "_law_may" "_law_may" (top 67) f fd) (T:Txt K mg):
  FnOk P w K mg base CX0 1 f fd Qx36 (spV K [] 2 zC7):=
 okW P w K mg base Nx36 Qx36 0 zH7 [] F zUI fun _ _ _ _ _ _ hr hu hu1=>by
  refine zA2 ?_ ?_
  ·exact(zAZ zUI.nd (zC4 (zA9 (vix hu1 (vix hu1 (vv 0) zA1) (vv 1)))))
  refine zA2 ?_ ?_
  ·exact (zB7 (zAY (kInD (K := K) rfl hu) (zCW (neg := false)) (vix hu1 (vv 2) zA1) (zAS (zA0 zAE (zA0 zAE (zA0 zAE (zA0 zAE zA7))))) (by with_unfolding_all rfl))
   (zA6 (zAC (zDN yAL s_ge (vix hu1 (vv 2) zA1) (vix hu1 (vv 0) zA1) (zBH _))))
   zAH)
  exact zA6 (zAC (zEU (veq hu (vix hu1 (vv 2) zA1) zAE) (zGP (zDN (zII (K:=K) rfl hu) (zCW (neg:=true)) (zJ8 rfl (vix hu1 (vix hu1 (vv 0) zA1) (vix hu1 (vv 2) zA1)) zJ7 (zJ6 zA1)) (zAJ (zBZ ["_law_k"] [] 1 (zOO (by rfl) T.n_range zA1 zA1) (fun hn _ _ _ _=>⟨(zAN hn),zEB,(zA9 (zAS (zA0 zAE (zA0 (vv 0) zA7))))⟩))) (by with_unfolding_all rfl)))))
noncomputable abbrev Nx37:List Str:=["_law_block_here","_law_made","_law_cells","_law_two","_law_there","_law_one","_law_here","_law_writes","_law_reasons"]
noncomputable abbrev Qx37:List Str:=["_law_block_here"]
theorem zG1:zAD Nx37 Qx37 (zA4 (top 68)):=mkSc
theorem yAU(F:Fun K "_law_must" "_law_must" (top 68) f fd) (T:Txt K mg) (gv:DefV P w K mg base "_law_names" 1 Qx35 [] zBE f_x35) (cm:DefV P w K mg base "_law_may" 1 Qx36 [] zC7 f_x36):
  FnOk P w K mg base CX0 2 f fd Qx37 (spV K [] 1 zCR):=
 okW P w K mg base Nx37 Qx37 1 zFP [] F zG1 fun _ _ _ _ _ _ hr hu hu1=>by
  refine zA2 ?_ ?_
  ·exact (zVW (i := 1) (j := 2) rfl zG1.nd rfl rfl (by decide) rfl rfl (zFE (zAP (zAB zA7))) (zC4 (zA9 (zAS (zA0 zAE (zA0 zAE (zA0 zAE (zA0 zAE zA7))))))) rfl)
  refine zA2 ?_ ?_
  ·exact (zGN D1 rfl (zI5 rfl (by rfl) T.n_enumerate (zA9 (vix hu1 (vv 0) zA1))) (zDM (K := K) rfl rfl (zAW (zAN zG1.nd) (zAW (zAN zG1.nd) zCH)))
   (zA6 (zGN D1 rfl (zI5 rfl (by rfl) T.n_enumerate (zA9 (zJ8 rfl (vix hu1 (vv 0) zA1) zJ7 (zJ6 (vv 3))))) (zDM (K:=K) rfl rfl (zAW (zAN zG1.nd) (zAW (zAN zG1.nd) zCH)))
   (zA2 (zSD false zG1.nd ["_law_row_here"] [] 1 (zFZ rfl (zA9 (zAS (zA0 (vv 6) (zA0 (vv 4) zA7))))) (fun hn _ _ _ _=>⟨(zAN hn),(zMB (zAY (kInD (K:=K) rfl hu) (zCW (neg:=false)) (vix hu1 (vv 0) zA1) (zAS (zA0 zAE (zA0 zAE zA7))) (by with_unfolding_all rfl))),(vv 0)⟩))
   (zA2 (zAZ zG1.nd (zFE (zAP (zAB (zA0 (zDN (kInD (K:=K) rfl hu) (zCW (neg:=false)) (vv 5) (vcal gv hr (zA8 (vv 4) zAA)) (by with_unfolding_all rfl)) (zA0 (zEU (vcal cm hr (zA8 (vv 0) (zA8 (vv 5) zAA))) (zGP (vcal cm hr (zA8 (vv 0) (zA8 (vv 3) zAA))))) zA7))))))
   (zA2 (zCF (K:=K) rfl At Au zBB zD9 (pv 8) (zAB (zA0 (zEU (zDN (kInD (K:=K) rfl hu) (zCW (neg:=false)) (vix hu1 (vv 6) zA1) (vv 2) (by with_unfolding_all rfl)) (zEU (zDN (kInD (K:=K) rfl hu) (zCW (neg:=false)) (vix hu1 (vv 4) zA1) (vv 2) (by with_unfolding_all rfl)) (zEU (veq hu (vix hu1 (vv 6) zA1) (vix hu1 (vv 4) zA1)) (zGP (zDN (kNeD (K:=K) rfl hu) s_ne (vv 7) (zAJ (zAP (zAB zA7))) (zBH _)))))) zA7)))
   (zA2 (zCF (K:=K) rfl At Au zBB zD9 (pv 8) (zAB (zA0 (zEU (vcal cm hr (zA8 (vv 0) (zA8 (vv 5) zAA))) (zGP (zDN (kInD (K:=K) rfl hu) (zCW (neg:=false)) (vix hu1 (vv 4) zA1) (zAS (zA0 zAE (zA0 zAE zA7))) (by with_unfolding_all rfl)))) zA7)))
   (zA2 (zCF (K:=K) rfl At Au zBB zD9 (pv 8) (zAB (zA0 (zEU (vcal cm hr (zA8 (vv 0) (zA8 (vv 3) zAA))) (zGP (zDN (kInD (K:=K) rfl hu) (zCW (neg:=false)) (vix hu1 (vv 6) zA1) (zAS (zA0 zAE (zA0 zAE zA7))) (by with_unfolding_all rfl)))) zA7)))
   (zA6 (zB7 (zAY (kInD (K:=K) rfl hu) (zCW (neg:=false)) zDR (vo 8) (by with_unfolding_all rfl))
   (zA6 (zCF (K:=K) rfl At Au zBB zD9 (pv 1) (zAB (zA0 (zAS (zA0 (vv 5) (zA0 (vv 3) zA7))) zA7))))
   zAH))))))))))
  exact zA6 (zAC (zAJ (yCZ (yC1 (K:=K) rfl) zXB (by rfl) T.n_sorted zS0 (zVZ (vo 1)))))
noncomputable abbrev Nx40:List Str:=["_law_script","_law_town","_law_block_here","_law_pairs","_law_left","_law_made","_law_ready"]
noncomputable abbrev Qx40:List Str:=["_law_script","_law_town","_law_block_here"]
theorem zP7:zAD Nx40 Qx40 (zA4 (top 71)):=mkSc
theorem yAR(F:Fun K "_law_mixed_order" "_law_mixed_order" (top 71) f fd) (T:Txt K mg) (af:DefV P w K mg base "_law_pick" 4 Qx29 [1] zAM f_x29) (gu:DefV P w K mg base "_law_must" 2 Qx37 [] zCR f_x37):
  FnOk P w K mg base CX0 5 f fd Qx40 (spV K [1] 3 zB5):=
 okW P w K mg base Nx40 Qx40 4 zCA [1] F zP7 fun _ _ _ _ _ _ hr hu hu1=>by
  refine zA2 ?_ ?_
  ·exact (zVT (i := 3) (j := 4) (k := 5) rfl rfl zP7.nd rfl rfl rfl (by decide) (by decide) (by decide) (J2 rfl) (J2 rfl) (J1 rfl) (zC4 (zA9 (vcal gu hr (zA8 (vv 2) zAA)))) (zFE (zOM rfl (by rfl) T.zEC zFV (by rfl) T.n_range zU6 (vlen T.n_len (vix hu1 (vv 2) zA1)))) (zFE (zAP (zAB zA7))))
  refine zA2 ?_ ?_
  ·exact(zM9 D1 (zAY (kNeD (K:=K) rfl hu) s_ne (vo 4) (zAJ (zAP (zAB zA7))) (zBH _))
   (zA2 (zSC false zP7.nd ["_law_pairs","_law_left","_law_row_here"] [3,4] 1 (zYG rfl (vo 4)) (fun hn _ _ _ _=>⟨(zAN hn),(zMB (vteq hu (zAJ (zBZ ["_law_left","_law_row_here","_law_one","_law_two"] [1,2] 2 (zFZ rfl (vv 0)) (fun hn _ _ _ _=>⟨(zDM (K:=K) rfl rfl (zAW (zAN hn) (zAW (zAN hn) zCH))),(zMB (vt_w (zOI (vteq hu (vv 3) (vv 1)) (zL8 (zAY (kInD (K:=K) rfl hu) (zCW (neg:=false)) (vv 2) (vo 0) (by with_unfolding_all rfl)))))),zA1⟩))) (zAJ (zAP (zAB zA7))))),(vv 2)⟩))
   (zA2 (zCF (K:=K) rfl At Au zBB zD9 (pv 5) (zAB (zA0 (vcal af hr (zA8 (vv 0) (zBA (pv 1) (zA8 (vv 6) zAA)))) zA7)))
   (zA6 (zCF (K:=K) rfl PySem.F.slot_list_remove PySem.F.type_list_remove zQO yBP (pv 4) (zAB (zA0 (vix hu1 (vo 5) (zET zA1)) zA7)))))))
  exact zA6 (zVU (pv 5))
noncomputable abbrev Nx41:List Str:=["_law_row_here","_law_names_here","_law_first"]
noncomputable abbrev Qx41:List Str:=["_law_row_here","_law_names_here"]
theorem zUG:zAD Nx41 Qx41 (zA4 (top 72)):=mkSc
theorem yAQ(F:Fun K "_law_renamed" "_law_renamed" (top 72) f fd) (T:Txt K mg):
  FnOk P w K mg base CX0 1 f fd Qx41 (spV K [] 2 zAL):=
 okW P w K mg base Nx41 Qx41 0 zB3 [] F zUG fun _ _ _ _ _ _ hr hu hu1=>by
  refine zA2 ?_ ?_
  ·exact(zB7 (vteq hu (vix hu1 (vv 0) zA1) zAE)
   (zA6 (zAC (vv 0)))
   zAH)
  refine zA2 ?_ ?_
  ·exact(@zAZ _ _ _ _ _ _ _ _ _ zUG.nd (@zC4 _ _ _ _ _ _ (@zA9 _ _ _ _ _ _ _ _ (zGQ (zAY (kInD (K:=K) rfl hu) (zCW (neg:=false)) (vix hu1 (vv 0) zA1) (@zAS _ _ _ _ _ _ _ _ _ (@zA0 _ _ _ _ _ _ _ _ _ _ _ _ zAE (@zA0 _ _ _ _ _ _ _ _ _ _ _ _ zAE (@zA0 _ _ _ _ _ _ _ _ _ _ _ _ zAE (@zA0 _ _ _ _ _ _ _ _ _ _ _ _ zAE zA7 rfl rfl rfl) rfl rfl rfl) rfl rfl rfl) rfl rfl rfl)) (by with_unfolding_all rfl)) zA1 zA1) rfl)) rfl (by first|exact .inl rfl|exact .inr rfl) (by decide) rfl (by first|exact .inl rfl|exact .inr rfl))
  exact zA6 (zAC (zAT (zCM (K:=K) rfl) zBO (zJ8 rfl (vv 0) zJ7 (zJ6 (vv 2))) (zOP (zH1 (K:=K) rfl) zHF (by rfl) T.n_tuple zCY (zAJ (zBZ ["_law_names_here","_law_name"] [1] 1 (zFZ rfl (zA9 (zJ8 rfl (vv 0) (zJ6 (vv 2)) zJ7))) (fun hn _ _ _ _=>⟨(zAN hn),zEB,(zA9 (vix hu1 (vv 0) (vv 1)))⟩))))))
noncomputable abbrev Nx34:List Str:=["_law_script","_law_town","_law_most","_law_room","_law_sure","_law_block_here","_law_order_there","_law_names_here"]
noncomputable abbrev Qx34:List Str:=["_law_script","_law_town","_law_most"]
theorem zHN:zAD Nx34 Qx34 (zA4 (top 65)):=mkSc
theorem yAX(F:Fun K "_law_block" "_law_block" (top 65) f fd) (T:Txt K mg) (ak:DefV P w K mg base "_law_draw" 3 Qx28 [1] zAO f_x28) (af:DefV P w K mg base "_law_pick" 4 Qx29 [1] zAM f_x29) (gy:DefV P w K mg base "_law_rows" 7 Qx32 [1] zCQ f_x32) (gp:DefV P w K mg base "_law_mixed_order" 5 Qx40 [1] zB5 f_x40) (gn:DefV P w K mg base "_law_renamed" 1 Qx41 [] zAL f_x41):
  FnOk P w K mg base CX0 8 f fd Qx34 (spV K [1] 3 zBR):=
 okW P w K mg base Nx34 Qx34 7 zDI [1] F zHN fun _ _ _ _ _ _ hr hu hu1=>by
  refine zA2 ?_ ?_
  ·exact(zAZ zHN.nd (zC4 (zA9 (vcal af hr (zA8 (vv 0) (zBA (pv 1) (zA8 (zAJ (zAP (zAB (zA0 zA1 (zA0 zA1 (zA0 zA1 (zA0 zA1 zA7))))))) zAA)))))))
  refine zA2 ?_ ?_
  ·exact (@zAZ _ _ _ _ _ _ _ _ _ zHN.nd (@zC4 _ _ _ _ _ _ (@zA9 _ _ _ _ _ _ _ _ (vcal af hr (zA8 (vv 0) (zBA (pv 1) (zA8 (@zAJ _ _ _ _ _ _ (@zAP _ _ _ _ _ _ _ (@zAB _ _ _ _ _ _ _ (@zA0 _ _ _ _ _ _ _ _ _ _ _ _ zA1 (@zA0 _ _ _ _ _ _ _ _ _ _ _ _ (vv 3) (@zA0 _ _ _ _ _ _ _ _ _ _ _ _ (vv 3) (@zA0 _ _ _ _ _ _ _ _ _ _ _ _ (vcal ak hr (zA8 (vv 0) (zBA (pv 1) (zA8 (@zA9 _ _ _ _ _ _ _ _ (@zAT _ _ _ _ _ _ _ _ _ _ _ _ _ _ _ _ _ (zCM (K := K) rfl) zBO (vv 3) zA1 rfl) rfl) zAA)))) zA7 rfl rfl rfl) rfl rfl rfl) rfl rfl rfl) rfl rfl rfl) rfl))) zAA)))) rfl)) rfl (by first | exact .inl rfl | exact .inr rfl) (by decide) rfl (by first | exact .inl rfl | exact .inr rfl))
  refine zA2 ?_ ?_
  ·exact (@zAZ _ _ _ _ _ _ _ _ _ zHN.nd (@zC4 _ _ _ _ _ _ (@zA9 _ _ _ _ _ _ _ _ (@zAS _ _ _ _ _ _ _ _ _ (@zA0 _ _ _ _ _ _ _ _ _ _ _ _ (vv 4) (@zA0 _ _ _ _ _ _ _ _ _ _ _ _ (vcal gy hr (zA8 (vv 0) (zBA (pv 1) (zA8 (@zA9 _ _ _ _ _ _ _ _ (vcal ak hr (zA8 (vv 0) (zBA (pv 1) (zA8 (@zA9 _ _ _ _ _ _ _ _ (@zAT _ _ _ _ _ _ _ _ _ _ _ _ _ _ _ _ _ (zCM (K := K) rfl) zBO (vv 2) zA1 rfl) rfl) zAA)))) rfl) (zA8 (vv 3) zAA))))) zA7 rfl rfl rfl) rfl rfl rfl)) rfl)) rfl (by first | exact .inl rfl | exact .inr rfl) (by decide) rfl (by first | exact .inl rfl | exact .inr rfl))
  refine zA2 ?_ ?_
  ·exact(zB7 (zAY zWX s_gt (vcal ak hr (zA8 (vv 0) (zBA (pv 1) (zA8 zA1 zAA)))) zA1 (zBH _))
   (zA6 (zAC (vv 5)))
   zAH)
  refine zA2 ?_ ?_
  ·exact(@zAZ _ _ _ _ _ _ _ _ _ zHN.nd (@zC4 _ _ _ _ _ _ (@zA9 _ _ _ _ _ _ _ _ (vcal gp hr (zA8 (vv 0) (zBA (pv 1) (zA8 (vv 5) zAA)))) rfl)) rfl (by first|exact .inl rfl|exact .inr rfl) (by decide) rfl (by first|exact .inl rfl|exact .inr rfl))
  refine zA2 ?_ ?_
  ·exact(@zAZ _ _ _ _ _ _ _ _ _ zHN.nd (@zC4 _ _ _ _ _ _ (@zAJ _ _ _ _ _ _ (zON rfl rfl (by rfl) T.n_dict zY2 (@zAJ _ _ _ _ _ _ (zBZ ["_law_number","_law_row_here"] [] 2 (zI5 rfl (by rfl) T.n_enumerate (vv 6)) (fun hn _ _ _ _=>⟨(zDM (K:=K) rfl rfl (zAW (zAN hn) (zAW (zAN hn) zCH))),zEB,(@zA9 _ _ _ _ _ _ _ _ (@zAS _ _ _ _ _ _ _ _ _ (@zA0 _ _ _ _ _ _ _ _ _ _ _ _ (vv 1) (@zA0 _ _ _ _ _ _ _ _ _ _ _ _ (vv 0) zA7 rfl rfl rfl) rfl rfl rfl)) rfl)⟩)))))) rfl (by first|exact .inl rfl|exact .inr rfl) (by decide) rfl (by first|exact .inl rfl|exact .inr rfl))
  exact zA6 (zAC (zAS (zA0 (vv 4) (zA0 (zOP (zH1 (K:=K) rfl) zHF (by rfl) T.n_tuple zCY (zAJ (zBZ ["_law_block_here","_law_names_here","_law_row_here"] [5,7] 1 (zFZ rfl (vv 6)) (fun hn _ _ _ _=>⟨(zAN hn),zEB,(zA9 (vcal gn hr (zA8 (zA9 (vix hu1 (vix hu1 (vv 0) zA1) (vv 2))) (zA8 (vv 1) zAA))))⟩)))) zA7))))
noncomputable abbrev Nx38:List Str:=["_law_e","_law_own"]
noncomputable abbrev Qx38:List Str:=["_law_e"]
theorem zUH:zAD Nx38 Qx38 (zA4 (top 69)):=mkSc
theorem yAT(F:Fun K "_law_which" "_law_which" (top 69) f fd) (T:Txt K mg):
  FnH P w K mg base 1 f fd Qx38 (spV K [] 1 zCV):=
 okWH P w K mg base Nx38 Qx38 0 zH4 [] F zUH fun _ _ _ _ _ hr hu hu1=>by
  refine zA2 ?_ ?_
  ·exact (@zAZ _ _ _ _ _ _ _ _ _ zUH.nd (zFE (@zAP _ _ _ _ _ _ _ (@zAB _ _ _ _ _ _ _ (@zA0 _ _ _ _ _ _ _ _ _ _ _ _ (zD7 (kIsx (K := K) rfl) (zEI T.xi) (by rfl) T.n_isinstance zAK (vv 0) (zAI (by rfl) T.v_NoBlock)) (@zA0 _ _ _ _ _ _ _ _ _ _ _ _ (zD7 (kIsx (K := K) rfl) (zEI T.xi) (by rfl) T.n_isinstance zAK (vv 0) (zAI (by rfl) T.v_NoCells)) (@zA0 _ _ _ _ _ _ _ _ _ _ _ _ (zD7 (kIsx (K := K) rfl) (zEI T.xi) (by rfl) T.n_isinstance zAK (vv 0) (zAI (by rfl) T.v_NoRow)) (@zA0 _ _ _ _ _ _ _ _ _ _ _ _ (zD7 (kIsx (K := K) rfl) (zEI T.xi) (by rfl) T.n_isinstance zAK (vv 0) (zAI (by rfl) T.v_NoLanes)) zA7 rfl rfl rfl) rfl rfl rfl) rfl rfl rfl) rfl rfl rfl) rfl))) rfl (by first | exact .inl rfl | exact .inr rfl) (by decide) rfl (by first | exact .inl rfl | exact .inr rfl))
  refine zA2 ?_ ?_
  ·exact (zCF (K := K) rfl Ek El (zXL (K := K) rfl) zQN (pv 1) (zAB (zA0 (zAJ (zAP (zAB (zA0 (zD7 (kIsx (K := K) rfl) (zEI T.xi) (by rfl) T.n_isinstance zAK (vv 0) (zAI (by rfl) T.v_NoPlan)) (zA0 (zD7 (kIsx (K := K) rfl) (zEI T.xi) (by rfl) T.n_isinstance zAK (vv 0) (zAI (by rfl) T.v_NoProgram)) (zA0 (zD7 (kIsx (K := K) rfl) (zEI T.xi) (by rfl) T.n_isinstance zAK (vv 0) (zAI (by rfl) T.v_NoTree)) (zA0 (zD7 (kIsx (K := K) rfl) (zEI T.xi) (by rfl) T.n_isinstance zAK (vv 0) (zAI (by rfl) T.v_NoLoop)) zA7))))))) zA7)))
  refine zA2 ?_ ?_
  ·exact (zCF (K := K) rfl Ek El (zXL (K := K) rfl) zQN (pv 1) (zAB (zA0 (zAJ (zAP (zAB (zA0 (zD7 (kIsx (K := K) rfl) (zEI T.xi) (by rfl) T.n_isinstance zAK (vv 0) (zAI (by rfl) T.v_NoText)) (zA0 (zD7 (kIsx (K := K) rfl) (zEI T.xi) (by rfl) T.n_isinstance zAK (vv 0) (zAI (by rfl) T.v_NoName)) (zA0 (zD7 (kIsx (K := K) rfl) (zEI T.xi) (by rfl) T.n_isinstance zAK (vv 0) (zAI (by rfl) T.v_TooMany)) (zA0 (zD7 (kIsx (K := K) rfl) (zEI T.xi) (by rfl) T.n_isinstance zAK (vv 0) (zAI (by rfl) T.v_TooLong)) zA7))))))) zA7)))
  refine zA2 ?_ ?_
  ·exact (zCF (K := K) rfl Ek El (zXL (K := K) rfl) zQN (pv 1) (zAB (zA0 (zAJ (zAP (zAB (zA0 (zD7 (kIsx (K := K) rfl) (zEI T.xi) (by rfl) T.n_isinstance zAK (vv 0) (zAI (by rfl) T.v_NotValid)) (zA0 (zD7 (kIsx (K := K) rfl) (zEI T.xi) (by rfl) T.n_isinstance zAK (vv 0) (zAI (by rfl) T.v_Nothing)) zA7))))) zA7)))
  refine zA2 ?_ ?_
  ·exact (zB7 (vt_w (zI3 (zAY (kNeD (K := K) rfl hu) s_ne (zYJ rfl PySem.F.slot_list_count PySem.F.type_list_count (zXM (K := K) rfl) zTM (vo 1) zDR) zA1 (zBH _)) (zES (zCS (zCK (zD7 (kIsx (K := K) rfl) (zEI T.xi) (by rfl) T.n_isinstance zAK (vv 0) (vty T.n_ValueError zIW)))))))
   (zA6 (zAC (zAS (zA0 zAE (zA0 (zET zA1) zA7)))))
   zAH)
  exact zA6 (zAC (zAS (zA0 zAE (zA0 (zYJ rfl Hi Hj (zXK (K:=K) rfl) zTL (vo 1) zDR) zA7))))
noncomputable abbrev Nx39:List Str:=["_law_script","_law_town","_law_some"]
noncomputable abbrev Qx39:List Str:=["_law_script","_law_town"]
theorem zHM:zAD Nx39 Qx39 (zA4 (top 70)):=mkSc
theorem yAS(F:Fun K "_law_none" "_law_none" (top 70) f fd) (T:Txt K mg) (af:DefV P w K mg base "_law_pick" 4 Qx29 [1] zAM f_x29):
  FnOk P w K mg base CX0 5 f fd Qx39 (spV K [1] 2 zCB):=
 okW P w K mg base Nx39 Qx39 4 zFO [1] F zHM fun _ _ _ _ _ _ hr hu hu1=>by
  refine zA2 ?_ ?_
  ·exact(@zAZ _ _ _ _ _ _ _ _ _ zHM.nd (@zC4 _ _ _ _ _ _ (@zAJ _ _ _ _ _ _ (@zGO _ _ _ 3 _ _ _ rfl (by decide)))) rfl (by first|exact .inl rfl|exact .inr rfl) (by decide) rfl (by first|exact .inl rfl|exact .inr rfl))
  refine zA2 ?_ ?_
  ·exact(@zAZ _ _ _ _ _ _ _ _ _ zHM.nd (@zC4 _ _ _ _ _ _ (@zA9 _ _ _ _ _ _ _ _ (@zAT _ _ _ _ _ _ _ _ _ _ _ _ _ _ _ _ _ (zCM (K:=K) rfl) zBO (vv 2) (@zAJ _ _ _ _ _ _ (@zGO _ _ _ 3 _ _ _ rfl (by decide))) rfl) rfl)) rfl (by first|exact .inl rfl|exact .inr rfl) (by decide) rfl (by first|exact .inl rfl|exact .inr rfl))
  refine zA2 ?_ ?_
  ·exact(@zAZ _ _ _ _ _ _ _ _ _ zHM.nd (@zC4 _ _ _ _ _ _ (@zA9 _ _ _ _ _ _ _ _ (@zAT _ _ _ _ _ _ _ _ _ _ _ _ _ _ _ _ _ (zCM (K:=K) rfl) zBO (vv 2) (@zAJ _ _ _ _ _ _ (@zGO _ _ _ 3 _ _ _ rfl (by decide))) rfl) rfl)) rfl (by first|exact .inl rfl|exact .inr rfl) (by decide) rfl (by first|exact .inl rfl|exact .inr rfl))
  refine zA2 ?_ ?_
  ·exact(@zAZ _ _ _ _ _ _ _ _ _ zHM.nd (@zC4 _ _ _ _ _ _ (@zA9 _ _ _ _ _ _ _ _ (@zAT _ _ _ _ _ _ _ _ _ _ _ _ _ _ _ _ _ (zCM (K:=K) rfl) zBO (vv 2) (@zAJ _ _ _ _ _ _ (@zAP _ _ _ _ _ _ _ (@zAB _ _ _ _ _ _ _ (@zA0 _ _ _ _ _ _ _ _ _ _ _ _ (@zMA _ _ _ 3 _ _ rfl) (@zA0 _ _ _ _ _ _ _ _ _ _ _ _ (@zAS _ _ _ _ _ _ _ _ _ (@zA0 _ _ _ _ _ _ _ _ _ _ _ _ zA1 (@zA0 _ _ _ _ _ _ _ _ _ _ _ _ (@zAT _ _ _ _ _ _ _ _ _ _ _ _ _ _ _ _ _ (kRep (K:=K) rfl) zF8 (@zMA _ _ _ 2 _ _ rfl) zA1 rfl) zA7 rfl rfl rfl) rfl rfl rfl)) zA7 rfl rfl rfl) rfl rfl rfl) rfl))) rfl) rfl)) rfl (by first|exact .inl rfl|exact .inr rfl) (by decide) rfl (by first|exact .inl rfl|exact .inr rfl))
  refine zA2 ?_ ?_
  ·exact(@zAZ _ _ _ _ _ _ _ _ _ zHM.nd (@zC4 _ _ _ _ _ _ (@zA9 _ _ _ _ _ _ _ _ (@zAT _ _ _ _ _ _ _ _ _ _ _ _ _ _ _ _ _ (zCM (K:=K) rfl) zBO (vv 2) (@zAJ _ _ _ _ _ _ (@zGO _ _ _ 3 _ _ _ rfl (by decide))) rfl) rfl)) rfl (by first|exact .inl rfl|exact .inr rfl) (by decide) rfl (by first|exact .inl rfl|exact .inr rfl))
  exact zA6 (zAC (vcal af hr (zA8 (vv 0) (zBA (pv 1) (zA8 (vv 2) zAA)))))
noncomputable abbrev Nx42:List Str:=["_law_what","_law_block_here","_law_cells","_law_e"]
noncomputable abbrev Qx42:List Str:=["_law_what","_law_block_here","_law_cells"]
theorem zUF:zAD Nx42 Qx42 (zA4 (top 73)):=mkSc
theorem yAP(F:Fun K "_law_ask" "_law_ask" (top 73) f fd) (T:Txt K mg) (i6:DefV P w K mg base "run" 7 Qx24 [] zOD f_x24) (i5:DefV P w K mg base "values" 7 Qx25 [] zE7 f_x25) (en:DefH P w K mg base "_law_which" 1 Qx38 (spV K [] 1 zCV) f_x38) (eg:DefX P w K mg base "run" 7 Qx24 zOB f_x24) (ee:DefX P w K mg base "values" 7 Qx25 zE6 f_x25):
  FnOk P w K mg base CX0 8 f fd Qx42 (spV K [] 3 zAV):=
 okW P w K mg base Nx42 Qx42 7 zF5 [] F zUF fun _ _ _ _ _ _ hr hu hu1=>by
  exact(zA6 (zYE (i:=3) rfl rfl rfl zUF.nd rfl rfl (by decide) (by rfl) (fun _=>T.fnm _ _)
   (zA6 (zAC (zSI (zCL (K:=K) rfl T.fnm hr i6 (by decide) (zCL (K:=K) rfl T.fnm hr i5 (by decide) zP2)) (vix hu1 (zAJ (zAP (zAB (zA0 (zAI (by rfl) T.v_run) (zA0 (zAI (by rfl) T.v_values) zA7))))) (vv 0)) (zA8 (vv 1) (zA8 (vv 2) zAA)))))
   (fun _ _ _ hz=>(zDD (zYC (zSB hz rfl rfl (zJD (K:=K) (kk:=7) (j:=7) (qs:=Qx24) rfl T.fnm hr eg (by decide) (zJD (K:=K) (kk:=7) (j:=7) (qs:=Qx25) rfl T.fnm hr ee (by decide) zSQ)) (vix hu1 (zAJ (zAP (zAB (zA0 (zAI (by rfl) T.v_run) (zA0 (zAI (by rfl) T.v_values) zA7))))) (vv 0)) (zA8 (vv 1) (zA8 (vv 2) zAA))))))
   fun _=>(zA6 (zAC (yD2 en (hr.h.mark _) (zA8 (vv 3) zAA))))))
noncomputable abbrev Nx43:List Str:=["_law_script","_law_town","_law_block_here","_law_some","_law_bad"]
noncomputable abbrev Qx43:List Str:=["_law_script"]
theorem zHL:zAD Nx43 Qx43 (zA4 (top 74)):=mkSc
theorem yAO(F:Fun K "law" "law" (top 74) f fd) (T:Txt K mg) (af:DefV P w K mg base "_law_pick" 4 Qx29 [1] zAM f_x29) (gw:DefV P w K mg base "_law_block" 8 Qx34 [1] zBR f_x34) (gq:DefV P w K mg base "_law_none" 5 Qx39 [1] zCB f_x39) (cj:DefV P w K mg base "_law_ask" 8 Qx42 [] zAV f_x42):
  FnOk P w K mg base CX0 9 f fd Qx43 (spV K [] 1 zOE):=
 okW P w K mg base Nx43 Qx43 8 zXV [] F zHL fun _ _ _ _ _ _ hr hu hu1=>by
  refine zA2 ?_ ?_
  ·exact(zAZ zHL.nd (zFE (zAP (zAB zA7))))
  refine zA2 ?_ ?_
  ·exact (zB7 (zAY (kNeD (K := K) rfl hu) s_ne (zAJ (zBZ ["_law_script","_law_town","_law_what"] [0,1] 1 (zDQ (by rfl) T.n_range zA1) (fun hn _ _ _ _ => ⟨(zAN hn),zEB,(zA9 (vcal cj hr (zA8 (vv 2) (zA8 (zA9 (vcal gq hr (zA8 (vv 0) (zBA (pv 1) zAA)))) (zA8 zBV zAA)))))⟩))) (zAT (kRep (K := K) rfl) zF8 (zAJ (@zGO _ _ _ 1 _ _ _ rfl (by decide))) zA1) (zBH _))
   (zA6 (zAC zDR))
   zAH)
  refine zA2 ?_ ?_
  ·exact(zAZ zHL.nd (zC4 (zA9 (vcal gw hr (zA8 (vv 0) (zBA (pv 1) (zA8 zA1 zAA)))))))
  refine zA2 ?_ ?_
  ·exact (@zAZ _ _ _ _ _ _ _ _ _ zHL.nd (@zC4 _ _ _ _ _ _ (@zAJ _ _ _ _ _ _ (@zAP _ _ _ _ _ _ _ (@zAB _ _ _ _ _ _ _ (@zA0 _ _ _ _ _ _ _ _ _ _ _ _ zBV (@zA0 _ _ _ _ _ _ _ _ _ _ _ _ zA1 (@zA0 _ _ _ _ _ _ _ _ _ _ _ _ (@zAS _ _ _ _ _ _ _ _ _ (@zA0 _ _ _ _ _ _ _ _ _ _ _ _ zA1 (@zA0 _ _ _ _ _ _ _ _ _ _ _ _ zA1 zA7 rfl rfl rfl) rfl rfl rfl)) (@zA0 _ _ _ _ _ _ _ _ _ _ _ _ zAE (@zA0 _ _ _ _ _ _ _ _ _ _ _ _ (@zAT _ _ _ _ _ _ _ _ _ _ _ _ _ _ _ _ _ (kRep (K := K) rfl) zF8 (@zAJ _ _ _ _ _ _ (@zAP _ _ _ _ _ _ _ (@zAB _ _ _ _ _ _ _ (@zA0 _ _ _ _ _ _ _ _ _ _ _ _ zA1 zA7 rfl rfl rfl) rfl))) zA1 rfl) (@zA0 _ _ _ _ _ _ _ _ _ _ _ _ (@zAT _ _ _ _ _ _ _ _ _ _ _ _ _ _ _ _ _ (kRep (K := K) rfl) zF8 (@zAJ _ _ _ _ _ _ (@zAP _ _ _ _ _ _ _ (@zAB _ _ _ _ _ _ _ (@zA0 _ _ _ _ _ _ _ _ _ _ _ _ (zET zA1) zA7 rfl rfl rfl) rfl))) zA1 rfl) (@zA0 _ _ _ _ _ _ _ _ _ _ _ _ (@zAT _ _ _ _ _ _ _ _ _ _ _ _ _ _ _ _ _ (kRep (K := K) rfl) zF8 (@zAJ _ _ _ _ _ _ (@zAP _ _ _ _ _ _ _ (@zAB _ _ _ _ _ _ _ (@zA0 _ _ _ _ _ _ _ _ _ _ _ _ zDR zA7 rfl rfl rfl) rfl))) zA1 rfl) (@zA0 _ _ _ _ _ _ _ _ _ _ _ _ (@zAT _ _ _ _ _ _ _ _ _ _ _ _ _ _ _ _ _ (kRep (K := K) rfl) zF8 (@zAJ _ _ _ _ _ _ (@zAP _ _ _ _ _ _ _ (@zAB _ _ _ _ _ _ _ (@zA0 _ _ _ _ _ _ _ _ _ _ _ _ zAE zA7 rfl rfl rfl) rfl))) zA1 rfl) (@zA0 _ _ _ _ _ _ _ _ _ _ _ _ (@zAT _ _ _ _ _ _ _ _ _ _ _ _ _ _ _ _ _ (kRep (K := K) rfl) zF8 (@zAJ _ _ _ _ _ _ (@zAP _ _ _ _ _ _ _ (@zAB _ _ _ _ _ _ _ (@zA0 _ _ _ _ _ _ _ _ _ _ _ _ zA1 zA7 rfl rfl rfl) rfl))) zA1 rfl) (@zA0 _ _ _ _ _ _ _ _ _ _ _ _ (@zAT _ _ _ _ _ _ _ _ _ _ _ _ _ _ _ _ _ (zCM (K := K) rfl) zBO (@zAT _ _ _ _ _ _ _ _ _ _ _ _ _ _ _ _ _ (kRep (K := K) rfl) zF8 (@zAJ _ _ _ _ _ _ (@zAP _ _ _ _ _ _ _ (@zAB _ _ _ _ _ _ _ (@zA0 _ _ _ _ _ _ _ _ _ _ _ _ zA1 zA7 rfl rfl rfl) rfl))) zA1 rfl) (@zAJ _ _ _ _ _ _ (@zAP _ _ _ _ _ _ _ (@zAB _ _ _ _ _ _ _ (@zA0 _ _ _ _ _ _ _ _ _ _ _ _ zBV zA7 rfl rfl rfl) rfl))) rfl) zA7 rfl rfl rfl) rfl rfl rfl) rfl rfl rfl) rfl rfl rfl) rfl rfl rfl) rfl rfl rfl) rfl rfl rfl) rfl rfl rfl) rfl rfl rfl) rfl rfl rfl) rfl)))) rfl (by first | exact .inl rfl | exact .inr rfl) (by decide) rfl (by first | exact .inl rfl | exact .inr rfl))
  refine zA2 ?_ ?_
  ·exact(zB7 (zAY zWX s_gt (vix hu1 (vv 2) zA1) zA1 (zBH _))
   (zA6 (zAZ zHL.nd (zC4 (zA9 (zAT (zCM (K:=K) rfl) zBO (vv 3) (zAT (kRep (K:=K) rfl) zF8 (zAJ (zAP (zAB (zA0 (zAT (kRep (K:=K) rfl) zF8 (zAJ (zAP (zAB (zA0 zA1 zA7)))) (zCT zG4 zJO (vix hu1 (vv 2) zA1) zA1)) zA7)))) zA1))))))
   zAH)
  refine zA2 ?_ ?_
  ·exact (@zAZ _ _ _ _ _ _ _ _ _ zHL.nd (@zC4 _ _ _ _ _ _ (@zA9 _ _ _ _ _ _ _ _ (vcal af hr (zA8 (vv 0) (zBA (pv 1) (zA8 (@zA9 _ _ _ _ _ _ _ _ (@zAT _ _ _ _ _ _ _ _ _ _ _ _ _ _ _ _ _ (zCM (K := K) rfl) zBO (vv 3) (@zAJ _ _ _ _ _ _ (@zAP _ _ _ _ _ _ _ (@zAB _ _ _ _ _ _ _ (@zA0 _ _ _ _ _ _ _ _ _ _ _ _ (@zAT _ _ _ _ _ _ _ _ _ _ _ _ _ _ _ _ _ (kRep (K := K) rfl) zF8 (@zAJ _ _ _ _ _ _ (@zGO _ _ _ 1 _ _ _ rfl (by decide))) zA1 rfl) zA7 rfl rfl rfl) rfl))) rfl) rfl) zAA)))) rfl)) rfl (by first | exact .inl rfl | exact .inr rfl) (by decide) rfl (by first | exact .inl rfl | exact .inr rfl))
  refine zA2 ?_ ?_
  ·exact (zB7 (zAY (kNeD (K := K) rfl hu) s_ne (zAJ (zBZ ["_law_block_here","_law_bad","_law_what"] [2,4] 1 (zDQ (by rfl) T.n_range zA1) (fun hn _ _ _ _ => ⟨(zAN hn),zEB,(zA9 (vcal cj hr (zA8 (vv 2) (zA8 (vv 0) (zA8 (vv 1) zAA)))))⟩))) (zAT (kRep (K := K) rfl) zF8 (zAJ (@zGO _ _ _ 1 _ _ _ rfl (by decide))) zA1) (zBH _))
   (zA6 (zAC zDR))
   zAH)
  exact zA6 (zAC (zEU (veq hu (vcal cj hr (zA8 zA1 (zA8 (zA9 (@zMA _ _ _ 2 _ _ rfl)) (zA8 (zA9 (zAT (kRep (K:=K) rfl) zF8 (zAJ (zAP (zAB (zA0 zA1 zA7)))) zA1)) zAA)))) (zAS (zA0 (zAT (kRep (K:=K) rfl) zF8 (zAJ (zAP (zAB (zA0 zA1 zA7)))) zA1) (zA0 zBV zA7)))) (zGP (veq hu (vcal cj hr (zA8 zA1 (zA8 (zA9 (@zMA _ _ _ 2 _ _ rfl)) (zA8 (zAJ (zAP (zAB zA7))) zAA)))) (zAJ (zAP (zAB zA7)))))))
end
end RR
namespace L2
open PySem
theorem zCJ(a b:String):As a=As b↔a=b:=by
 refine⟨fun h=> ?_,fun h=>by rw[h]⟩
 rw[F1,F1] at h
 injection h with h
 have h2:a.toList.map Kb=b.toList.map Kb:=by simpa using h
 have h3:a.toList=b.toList:=by
  have inj: ∀(l m:List Char),l.map Kb=m.map Kb->l=m:=by
   intro l
   induction l with
   | nil => intro m h;cases m with
    |nil=>rfl
    |cons=>cases h
   | cons c l ih => intro m h;cases m with
    |nil=>cases h
    |cons e m=>
     simp only[An,Gc] at h
     rw[ih m h.2,Char.toNat_inj.mp h.1]
  exact inj _ _ h2
 exact String.toList_inj.mp h3
theorem zP4(a:String):Mr (As a)=true:=by
 unfold Mr
 rw[F1]
 simp only[List.all_toArray,Mq,Br,Mh,decide_eq_true_eq]
 intro c _
 have:=c.valid
 rcases this with h|⟨_,h⟩
 ·show c.val.toNat<1114112
  have:c.val.toNat<55296:=h
  omega
 ·exact h
def okk(k:Nat)(d:Dat):Prop:=d.isD=true/\d.pd.canLay0=true/\d.pd.depth<=k
theorem zD6{k:Nat}{i:Int}:okk k (.int i):=⟨rfl,rfl,Cv _⟩
theorem zV2{k:Nat}{i:Bool}:okk k (.bl i):=⟨rfl,rfl,Cv _⟩
theorem zCI{k:Nat}{a:String}:okk k (.str (As a)):=⟨rfl,by simp[Dat.pd,E1,zP4],Cv _⟩
theorem zLH{k:Nat}: ∀{ds:List Dat},(∀d∈ds,okk k d)->isDs ds=true/\Fc (pds ds)=true/\D7 (pds ds)<=k
 |[],_=>⟨rfl,rfl,Cv _⟩
 |d::ds,h=>by
  obtain⟨a1,a2,a3⟩:=h d Ak
  obtain⟨b1,b2,b3⟩:=zLH fun e he=>h e (Ag _ he)
  refine⟨by simp[isDs,a1,b1],by simp[pds,Fc,a2,b2],?_⟩
  simp only[pds,D7]
  omega
theorem zIF{k:Nat}{ds:List Dat}(h: ∀d∈ds,okk k d):okk (k+1) (.tup ds):=by
 obtain⟨a,b,c⟩:=zLH h
 exact⟨by simpa[Dat.isD] using a,by simpa[Dat.pd,E1] using b,by simp only[Dat.pd,Fl];omega⟩
theorem zDG{k:Nat}{ds:List Dat}(h: ∀d∈ds,okk k d):okk (k+1) (.lst ds):=by
 obtain⟨a,b,c⟩:=zLH h
 exact⟨by simpa[Dat.isD] using a,by simpa[Dat.pd,E1] using b,by simp only[Dat.pd,Fl];omega⟩
theorem okk.ok{k:Nat}{d:Dat}(h:okk k d)(hk:k<=64:=by decide):okD d=true:=by
 unfold okD D0
 simp only[h.1,h.2.1,Mk,A3,decide_eq_true_eq]
 have:=h.2.2
 omega
@[simp] theorem yEQ{a:String}:okD (.str (As a))=true:=(zCI (k:=0)).ok
theorem zD5{k:Nat}: ∀d∈([]:List Dat),okk k d:=fun _ h=>nomatch h
theorem zBN{k:Nat}{d:Dat}{ds:List Dat}(h:okk k d)(t: ∀d∈ds,okk k d): ∀e∈d::ds,okk k e:=fun e he=>by
 rcases Ac.mp he with z|z
 ·rw[z];exact h
 ·exact t e z
@[simp] theorem yCC{i j:Int}:eqD (.int i) (.int j)=decide (i=j):=by show(i==j)=_;rw[Iq]
@[simp] theorem yII{a b:String}:eqD (.str (As a)) (.str (As b))=decide (a=b):=by
 show(As a==As b)=_
 rw[Iq]
 simp only[zCJ]
@[simp] theorem yHZ{i j:Int}:oEq (.int i) (.int j)=some (.bl (decide (i=j))):=by unfold oEq;simp
@[simp] theorem yHL{i j:Int}:oNe (.int i) (.int j)=some (.bl (!decide (i=j))):=by unfold oNe;simp
@[simp] theorem yHY{a b:String}:oEq (.str (As a)) (.str (As b))=some (.bl (decide (a=b))):=by unfold oEq;simp
@[simp] theorem yHK{a b:String}:oNe (.str (As a)) (.str (As b))=some (.bl (!decide (a=b))):=by unfold oNe;simp
theorem yF3{j k:Nat}{d e:Dat}(h:okk j d)(h':okk k e)(hj:j<=64:=by decide)(hk:k<=64:=by decide):oEq d e=some (.bl (eqD d e)):=by
 unfold oEq
 rw[h.ok hj,h'.ok hk]
 rfl
theorem zX4{j k:Nat}{d e:Dat}(h:okk j d)(h':okk k e)(hj:j<=64:=by decide)(hk:k<=64:=by decide):oNe d e=some (.bl (!eqD d e)):=by
 unfold oNe
 rw[h.ok hj,h'.ok hk]
 rfl
theorem zX5{j k:Nat}{neg:Bool}{d:Dat}{ds:List Dat}(h:okk j d)(h': ∀e∈ds,okk k e)(hj:j<=64:=by decide)(hk:k+1<=64:=by decide):oInD neg d (.tup ds)=some (.bl (if neg then !inE d ds else inE d ds)):=by
 unfold oInD
 simp[h.ok hj,(zIF h').ok hk]
theorem zMS{j k:Nat}{neg:Bool}{d:Dat}{ds:List Dat}(h:okk j d)(h': ∀e∈ds,okk k e)(hj:j<=64:=by decide)(hk:k+1<=64:=by decide):oInD neg d (.lst ds)=some (.bl (if neg then !inE d ds else inE d ds)):=by
 unfold oInD
 simp[h.ok hj,(zDG h').ok hk]
@[simp] theorem yK0{d:Dat}:inE d []=false:=(rfl)
@[simp] theorem zXR{d e:Dat}{ds:List Dat}:inE d (e::ds)=(eqD e d || inE d ds):=(rfl)
@[simp] theorem zTX{neg:Bool}{a b c:String}:oInD neg (.str (As a)) (.tup [.str (As b),.str (As c)])=some (.bl (if neg then !(decide (b=a) || decide (c=a)) else decide (b=a) || decide (c=a))):=by
 rw[zX5 (j:=0) zCI (zBN (zCI (k:=0)) (zBN zCI zD5))]
 simp
@[simp] theorem yC8{neg:Bool}{a b c d e:String}:oInD neg (.str (As a)) (.tup [.str (As b),.str (As c),.str (As d),.str (As e)])=some (.bl (if neg then !(decide (b=a) || (decide (c=a) || (decide (d=a) || decide (e=a)))) else decide (b=a) || (decide (c=a) || (decide (d=a) || decide (e=a))))):=by
 rw[zX5 (j:=0) zCI (zBN (zCI (k:=0)) (zBN zCI (zBN zCI (zBN zCI zD5))))]
 simp
@[simp] theorem yJZ{neg:Bool}{a b c:Int}:oInD neg (.int a) (.tup [.int b,.int c])=some (.bl (if neg then !(decide (b=a) || decide (c=a)) else decide (b=a) || decide (c=a))):=by
 rw[zX5 (j:=0) zD6 (zBN (zD6 (k:=0)) (zBN zD6 zD5))]
 simp
noncomputable def Scp(ns:List Int):Dat:= .lst (ns.map .int)
noncomputable def Twn(n:Nat):Dat:= .lst (Aa n (.int 0))
theorem zKB: ∀ns:List Int,isDs (ns.map Dat.int)=true
 |[]=>rfl
 |n::ns=>by simp[isDs,Dat.isD,zKB ns]
theorem zMQ: ∀ns:List Int,pds (ns.map Dat.int)=ns.map K1
 |[]=>rfl
 |n::ns=>by simp[pds,Dat.pd,zMQ ns]
theorem zTK(ns:List Int):okD (.lst (ns.map .int))=true:=by
 unfold okD
 simp only[Dat.isD,zKB,Dat.pd,zMQ,Mk]
 exact zLA ns
theorem zDP(ns:List Int):oEq (.lst (ns.map .int)) (.lst [])=some (.bl ns.isEmpty):=by
 unfold oEq
 rw[zTK,show okD (.lst [])=true from by decide+kernel]
 cases ns<;>rfl
theorem zKE: ∀n:Nat,zGD (Aa n (.int 0))=true
 |0=>rfl
 |n+1=>by simp[Cf,zGD,Dat.hard,zKE n]
@[simp] theorem yCT(n:Nat):zF1 (Twn n)=true:=zKE n
theorem zKR: ∀(ds:List Dat) (a b:Dat) (r:Int) (s:Sl),∃r' s',forV (gN 3) (sSet 2 (xV (f2 zQJ (fV 2) (fC (.int 1000003))))) ds [.va a,.va b,.va (.int r),s]=some (.nx [.va a,.va b,.va (.int r'),s'])
 |[],a,b,r,s=>⟨r,s,rfl⟩
 |d::ds,a,b,r,s=>by
  obtain⟨r',s',h⟩:=zKR ds a b (r/1000003) (.va d)
  exact⟨r',s',by simp[cDiv,h]⟩
theorem zIK{ns:List Int}{i:Int}(h0:0<=i)(h1:i<ns.length): ∃r∈ns,atI (ns.map Dat.int) i=some (.int r):=by
 obtain⟨x,hx,e⟩:=zS3 (xs:=ns.map Dat.int) h0 (by simpa using h1)
 obtain⟨r,hr,rfl⟩:=C3.mp hx
 exact⟨r,hr,e⟩
theorem zY0(ns:List Int)(k:Nat)(hl:ns.length<=63)(hk:k<1000000): ∃r,zBC [Scp ns,.int k]=some (.int r,[]):=by
 unfold zBC
 rw[zAX]
 unfold zDH zE2 Scp
 by_cases h:(k:Int)<ns.length
 ·obtain ⟨r,_,e⟩ := zIK (ns := ns) (i := k) (by omega) h
  exact⟨r,by simp[envD,h,e]⟩
 ·cases ns with
  |nil=>
   have h0: ¬((k:Int)<0):=by omega
   have e:oEq (.lst []) (.lst [])=some (.bl true):=zDP []
   exact⟨0,by simp[envD,h0,e]⟩
  |cons m ms=>
   generalize hns:m::ms=ns at*
   have cx:(0:Int)<ns.length:=by rw[<- hns];simp
   have hb:=Ez (k:Int) (show(ns.length:Int)≠0 by omega)
   have hb2:=D2 (k:Int) cx
   obtain⟨r,_,e⟩:=zIK (ns:=ns) hb hb2
   have he:ns.isEmpty=false:=by rw[<- hns];rfl
   have hq:0<=(k:Int)/ns.length:=Int.ediv_nonneg (by omega) (by omega)
   have hm: -4611686018427387904<=(if(60:Int)<(k:Int)/ns.length then 60 else(k:Int)/ns.length)/\(if(60:Int)<(k:Int)/ns.length then 60 else(k:Int)/ns.length)<4611686018427387904:=by split<;>omega
   obtain⟨r',s',e2⟩:=zKR (rngD 0 (if(60:Int)<(k:Int)/ns.length then 60 else(k:Int)/ns.length).toNat) (.lst (ns.map .int)) (.int k) r .no
   have hp2:0<ns.length:=by omega
   have hp3:(ns.length:Int)<1073741824:=by omega
   exact⟨r*31+k+r'*101,by simp[envD,h,zDP,he,cx,hp2,hp3,e,cDiv,hm,e2,cMul]⟩
noncomputable def cel(ns:List Int)(k:Nat):Int:=match zBC [Scp ns,.int k] with
 |some (.int r,_)=>r
 |_=>0
theorem yCG(ns:List Int)(k:Nat)(hl:ns.length<=63)(hk:k<1000000):zBC [Scp ns,.int k]=some (.int (cel ns k),[]):=by
 obtain⟨r,e⟩:=zY0 ns k hl hk
 unfold cel
 rw[e]
noncomputable def drw(ns:List Int)(n:Nat)(b:Int):Int:=((cel ns (n+1)*1103515245+7919*(((n+1:Nat)):Int)+12345) % 2147483647) ^ 5 % 2147483647 % 999983 % b
theorem zLS(ns:List Int)(n:Nat){b:Int}(h:0<b):0<=drw ns n b:=Ez _ (by omega)
theorem zU2(ns:List Int)(n:Nat){b:Int}(h:0<b):drw ns n b<b:=D2 _ h
theorem yBQ(ns:List Int)(n:Nat)(b:Int)(hl:ns.length<=63)(hn:n<900000)(hb:0<b):zCC [Scp ns,.int ((n+1:Nat):Int),.int b]=some (.int (drw ns n b),[]):=by
 have e:=yCG ns (n+1) hl (by omega)
 unfold zCC
 rw[zAX]
 unfold zEM drw
 have e1:=Ez (cel ns (n+1)*1103515245+7919*((n+1:Nat):Int)+12345) (show(2147483647:Int)≠0 by decide)
 have e2:=D2 (cel ns (n+1)*1103515245+7919*((n+1:Nat):Int)+12345) (show(0:Int)<2147483647 by decide)
 generalize hz:(cel ns (n+1)*1103515245+7919*((n+1:Nat):Int)+12345) % 2147483647=z at*
 have hz2:z.natAbs<18446744073709551616:=by omega
 generalize hk:((n+1:Nat):Int)=k at*
 simp[envD,e,cMul,cPow,hz,hz2,hb]
theorem zDJ(ns:List Int)(n:Nat)(b:Int)(hl:ns.length<=63)(hn:n<900000)(hb:0<b):zAO [Scp ns,Twn n,.int b]=some (.int (drw ns n b),[Twn (n+1)]):=by
 have e:=yBQ ns n b hl hn hb
 unfold zAO
 rw[zAX]
 unfold zFQ
 have ht:Twn n= .lst (Aa n (.int 0)):=rfl
 have ht2:Twn (n+1)= .lst (Aa n (.int 0)++[.int 0]):=by unfold Twn;rw[List.replicate_succ']
 rw[ht2,ht]
 have hs:n<16777216:=by omega
 push_cast at e
 simp[envD,hs,e]
theorem zDF(ns:List Int)(n:Nat)(xs:List Dat)(hl:ns.length<=63)(hn:n<900000)(hx:0<xs.length): ∃x∈xs,zAM [Scp ns,Twn n,.lst xs]=some (x,[Twn (n+1)]):=by
 have hx':(0:Int)<xs.length:=by omega
 obtain⟨x,hm,e⟩:=zS3 (xs:=xs) (zLS ns n hx') (zU2 ns n hx')
 refine⟨x,hm,?_⟩
 unfold zAM
 rw[zAX]
 unfold zFN
 simp[envD,zDJ ns n _ hl hn hx',e]
theorem zU3(ns:List Int)(n:Nat)(b:Int)(hl:ns.length<=63)(hn:n<900000)(hb:0<b)(tl:Ev):zAF 3 [1] zAO (aE (fV 0) (aO 1 (aE (fC (.int b)) aNil))) (.va (Scp ns):: .ow (Twn n)::tl)=some (.int (drw ns n b),.va (Scp ns):: .ow (Twn (n+1))::tl):=by simp[zDJ ns n b hl hn hb]
abbrev Sn(m:Nat)(d:Dat):Prop:= ∃(ks:List Key) (vs:List Int),d= .dct ks (vs.map .int)/\ks.length=vs.length/\ks.Nodup/\ks.length<=m
abbrev Seen(n:Nat)(d:Dat):Prop:=Sn (8*n) d
theorem Seen.mono{n m:Nat}{d:Dat}(h:Seen n d)(hn:n<=m):Seen m d:=by
 obtain⟨ks,vs,h1,h2,h3,h4⟩:=h
 exact⟨ks,vs,h1,h2,h3,by omega⟩
theorem yBS: ∀(ks:List Key) (vs:List Int) (k:Key) (q:Int),∃r,(zBI ks (vs.map .int) k).getD (.int q)= .int r
 | [],_,_,q => ⟨q,by simp [zBI]⟩
 | _ :: _,[],_,q => ⟨q,by simp [zBI]⟩
 | k' :: ks,v :: vs,k,q => by
  by_cases h:k'=k
  ·exact ⟨v,by simp [zBI,h]⟩
  ·obtain⟨r,e⟩:=yBS ks vs k q
   exact⟨r,by simp only[An,zBI,if_neg h];exact e⟩
theorem putI: ∀(ks:List Key) (vs:List Int) (k:Key) (p:Int),ks.length=vs.length->ks.Nodup-> ∃(ks':List Key) (vs':List Int),zDE ks (vs.map .int) k (.int p)=(ks',vs'.map .int)/\ks'.length=vs'.length/\ks'.Nodup/\ks'.length<=ks.length+1/\(∀z∈ks',z=k∨z∈ks)/\zBI ks' (vs'.map .int) k=some (.int p)
 | [],[],k,p,_,_ => ⟨[k],[p],by simp [zDE],rfl,by simp,by simp,by simp,by simp [zBI]⟩
 | k' :: ks,v :: vs,k,p,hl,hn => by
  by_cases h:k'=k
  ·subst h
   exact⟨k'::ks,p::vs,by simp[zDE],by simpa using hl,hn,by simp,by simp,by simp[zBI]⟩
  ·obtain ⟨ks',vs',e,h1,h2,h3,h4,h5⟩ := putI ks vs k p (by simpa using hl) (Bv.mp hn).2
   refine⟨k'::ks',v::vs',by simp only[An,zDE,if_neg h,e],by simp[h1],?_,by simp;omega,?_,by simp only[An,zBI,if_neg h];exact h5⟩
   ·refine Bv.mpr ⟨fun z => ?_,h2⟩
    rcases h4 _ z with y|y
    ·exact h y
    ·exact(Bv.mp hn).1 y
   ·intro z hz
    rcases Ac.mp hz with y|y
    ·exact .inr (by rw[y];exact Ak)
    ·exact(h4 z y).imp id (Ag _)
theorem zMO(ns:List Int)(n:Nat)(sn:Dat)(x:Str)(a7:Int)(hl:ns.length<=63)(hn:n<800000)(hs:Seen n sn)(hr:0<a7):
  ∃p sn',0<=p/\p<a7/\Seen (n+2) sn'/\zB6 [Scp ns,Twn n,sn,.str x,.int a7]=some (.int p,[Twn (n+2),sn']):=by
 obtain⟨ks,vs,rfl,h1,h2,h3⟩:=hs
 obtain⟨a,ha⟩:=yBS ks vs (.inr x) (drw ns n a7)
 obtain⟨y,hy,ey⟩:=zDF ns (n+1) [.int 1,.int 1,.int 1,.int 0,.int 3] hl (by omega) (by simp)
 obtain⟨b,rfl⟩: ∃b,y= .int b:=by
  simp only[Ac,Am,or_false] at hy
  rcases hy with h|h|h|h|h<;>exact⟨_,h⟩
 obtain⟨ks',vs',e,h4,h5,h6,h7,h8⟩:=putI ks vs (.inr x) ((a+b) % a7) h1 h2
 refine⟨(a+b) % a7,.dct ks' (vs'.map .int),Ez _ (by omega),D2 _ hr,⟨ks',vs',rfl,h4,h5,by omega⟩,?_⟩
 have hk:ks.length<16777216:=by omega
 unfold zB6
 rw[zAX]
 unfold zEL
 simp[envD,zDJ ns n a7 hl (by omega) hr,ha,ey,hr,hk,h2,e,h8]
inductive zBU(M:Int->Prop):Dat->Prop
 |number {n:Int}:0<=n->n<=999->zBU M (.tup [.str "number",.int n])
 |two {x:String} {a b:Int}:x∈["over","plus","minus","times","least","most","less"]->M a->M b->zBU M (.tup [.str x,.int a,.int b])
 |pick {c a b:Int}:M c->M a->M b->zBU M (.tup [.str "pick",.int c,.int a,.int b])
 |load {p:Int}:0<=p->p<=63->zBU M (.tup [.str "load",.int p])
 |take {p c a:Int}:0<=p->p<=63->M c->M a->zBU M (.tup [.str "take",.int p,.int c,.int a])
 |store {p a:Int}:0<=p->p<=63->M a->zBU M (.tup [.str "store",.int p,.int a])
 |put {p a c:Int}:0<=p->p<=63->M a->M c->zBU M (.tup [.str "put",.int p,.int a,.int c])
theorem zSP(ns:List Int)(n:Nat)(made:List Int)(hl:ns.length<=63)(hn:n<800000)(hm:0<made.length)(s:Sl): ∃a b c,a∈made/\b∈made/\c∈made∧
  zBX 3 1 (gN 3) bYes (f2 oIxA (fV 2) (f2 oMax (fC (.int 0)) (f2 oSub (f2 oSub (f1 oLen (fV 2)) (fC (.int 1))) (zAF 3 [1] zAO (aE (fV 0) (aO 1 (aE (fC (.int 6)) aNil))))))) [.int 0,.int 1,.int 2] [] [.va (Scp ns),.ow (Twn n),.va (.lst (made.map .int))]=
   some ([.int a,.int b,.int c],[.va (Scp ns),.ow (Twn (n+3)),.va (.lst (made.map .int))]):=by
 have one: ∀m,∃a∈made,atI (made.map Dat.int) (if(made.length:Int) - 1 - drw ns m 6>0 then(made.length:Int) - 1 - drw ns m 6 else 0)=some (.int a):=fun m=>by
  have:=zLS ns m (b:=6) (by decide)
  exact zIK (by split<;>omega) (by split<;>omega)
 obtain⟨a,ha,ea⟩:=one n
 obtain⟨b,hb,eb⟩:=one (n+1)
 obtain⟨c,hc,ec⟩:=one (n+2)
 refine⟨a,b,c,ha,hb,hc,?_⟩
 have d0:=zDJ ns n 6 hl (by omega) (by decide)
 have d1:=zDJ ns (n+1) 6 hl (by omega) (by decide)
 have d2:=zDJ ns (n+2) 6 hl (by omega) (by decide)
 simp only[gt_iff_lt,Int.sub_pos] at ea eb ec
 simp[d0,d1,d2,ea,eb,ec]
def onC(x:String):Prop:=x= "load" ∨x= "take" ∨x= "store" ∨x= "put"
def PlOK(a7:Int)(row:Dat):Prop:= ∀(x:String) (p:Int) (t:List Dat),row= .tup (.str x:: .int p::t)->onC x->p<a7
theorem zGW{a7 p:Int}{x:String}{t:List Dat}(h:p<a7):PlOK a7 (.tup (.str x:: .int p::t)):=fun y q u e _=>by
 simp only[Dat.tup.injEq,Gc,Dat.int.injEq] at e
 omega
theorem zQ3{a7:Int}{x:String}{t:List Dat}(h: ¬onC x):PlOK a7 (.tup (.str x::t)):=fun y q u e hy=>by
 simp only[Dat.tup.injEq,Gc,Dat.str.injEq,zCJ] at e
 rw[<- e.1] at hy
 exact absurd hy h
theorem zOS{x:String}(hx:x∈["over","plus","minus","times","least","most","less"]): ¬onC x:=fun h=>by
 simp only[Ac,Am,or_false] at hx
 rcases hx with rfl|rfl|rfl|rfl|rfl|rfl|rfl<;>rcases h with h|h|h|h<;>exact absurd h (by decide)
theorem zZL(ns:List Int)(n:Nat)(made:List Int)(sn:Dat)(a7:Int)(hl:ns.length<=63)(hn:n<700000)(hs:Seen n sn)(hr:0<a7)(hr2:a7<=64):
    ∃row n' sn',n<=n'/\n'<=n+10/\Seen n' sn'/\zBU (· ∈made) row/\PlOK a7 row/\zDC [Scp ns,Twn n,.lst (made.map .int),sn,.int a7]=some (row,[Twn n',sn']):=by
  have d0 := zU3 ns n 13 hl (by omega) (by decide)
  have k0 := zLS ns n (b := 13) (by decide)
  have k1 := zU2 ns n (b := 13) (by decide)
  generalize drw ns n 13=kd at*
  unfold zDC
  rw[zAX]
  unfold zH5
  by_cases h0:made.isEmpty=true∨kd=0
  · have d1 := zU3 ns (n + 1) 2 hl (by omega) (by decide)
    have hor:made.isEmpty=true∨(made.isEmpty=false/\kd=0):=by
      cases hm:made.isEmpty with
      | true => exact .inl rfl
      | false => rcases h0 with h | h
                 · rw[hm] at h;cases h
                 · exact .inr ⟨rfl,h⟩
    by_cases h2:drw ns (n+1) 2=0
    · have d2 := zU3 ns (n + 2) 1000 hl (by omega) (by decide)
      obtain⟨y,hy,ey⟩:=zDF ns (n+3) [.int 0,.int 1,.int 2,.int 5,.int 999,.int (drw ns (n+2) 1000)] hl (by omega) (by simp)
      obtain⟨b,rfl,hb0,hb1⟩: ∃b,y= .int b/\0<=b/\b<=999:=by
        have:=zLS ns (n+2) (b:=1000) (by decide)
        have:=zU2 ns (n+2) (b:=1000) (by decide)
        simp only[Ac,Am,or_false] at hy
        rcases hy with h|h|h|h|h|h<;>exact⟨_,h,by omega,by omega⟩
      refine⟨.tup [.str "number",.int b],n+4,sn,by omega,by omega,hs.mono (by omega),.number hb0 hb1,zQ3 (by unfold onC;decide),?_⟩
      rcases hor with h|⟨h,h'⟩
      · simp[envD,↓d0,zDP,h,↓d1,h2,↓d2,ey]
      · simp[envD,↓d0,zDP,h,h',↓d1,h2,↓d2,ey]
    · obtain ⟨p,sn',p0,p1,hs',ep⟩ := zMO ns (n + 2) sn "load" a7 hl (by omega) (hs.mono (by omega)) hr
      refine⟨.tup [.str "load",.int p],n+4,sn',by omega,by omega,hs',.load p0 (by omega),zGW p1,?_⟩
      rcases hor with h|⟨h,h'⟩
      · simp[envD,↓d0,zDP,h,↓d1,h2,ep]
      · simp[envD,↓d0,zDP,h,h',↓d1,h2,ep]
  · obtain⟨hm,hkd⟩:=not_or.mp h0
    have hm':made.isEmpty=false:=by simpa using hm
    have cx:0<made.length:=by
      cases made with
      |nil=>cases hm'
      |cons=>simp
    obtain⟨a,b,c,ha,hb,hc,e3⟩:=zSP ns (n+1) made hl (by omega) cx .no
    have mw:(kd=1∨kd=2)∨kd=3∨(kd=4∨kd=5)∨kd=6∨kd=7∨(8<=kd/\kd<=12):=by omega
    have pl: ∀x:Str,∃p sn',0<=p/\p<=63/\p<a7/\Seen (n+6) sn'/\ ∀s tl,zAF 5 [1,2] zB6 (aE (fV 0) (aO 1 (aO 3 (aE (fC (.str x)) (aE (fV 4) aNil))))) (.va (Scp ns):: .ow (Twn (n+4))::s:: .ow sn:: .va (.int a7)::tl)=some (.int p,.va (Scp ns):: .ow (Twn (n+6))::s:: .ow sn':: .va (.int a7)::tl):=fun x=>by
      obtain⟨p,sn',p0,p1,hs',ep⟩:=zMO ns (n+4) sn x a7 hl (by omega) (hs.mono (by omega)) hr
      exact⟨p,sn',p0,by omega,p1,hs',fun s tl=>by simp[ep]⟩
    rcases mw with h|h|h|h|h|h
    · have t12 : (decide (1 = kd) || decide (2 = kd)) = true := by rcases h with rfl | rfl <;> decide
      obtain⟨p,sn',p0,p1,p2,hs',ep⟩:=pl "load"
      exact⟨.tup [.str "load",.int p],n+6,sn',by omega,by omega,hs',.load p0 p1,zGW p2,by simp[envD,↓d0,zDP,hm',hkd,zB9,e3,↓ep,t12]⟩
    · subst h
      obtain⟨p,sn',p0,p1,p2,hs',ep⟩:=pl "take"
      exact⟨.tup [.str "take",.int p,.int c,.int a],n+6,sn',by omega,by omega,hs',.take p0 p1 hc ha,zGW p2,by simp[envD,↓d0,zDP,hm',zB9,e3,↓ep]⟩
    · have t45 : (decide (4 = kd) || decide (5 = kd)) = true := by rcases h with rfl | rfl <;> decide
      have n3: ¬kd=3:=by omega
      have m1: ¬1=kd:=by omega
      have m2: ¬2=kd:=by omega
      obtain⟨p,sn',p0,p1,p2,hs',ep⟩:=pl "store"
      exact⟨.tup [.str "store",.int p,.int a],n+6,sn',by omega,by omega,hs',.store p0 p1 ha,zGW p2,by simp[envD,↓d0,zDP,hm',hkd,zB9,e3,↓ep,n3,m1,m2,t45]⟩
    · subst h
      obtain⟨p,sn',p0,p1,p2,hs',ep⟩:=pl "put"
      exact⟨.tup [.str "put",.int p,.int a,.int c],n+6,sn',by omega,by omega,hs',.put p0 p1 ha hc,zGW p2,by simp[envD,↓d0,zDP,hm',zB9,e3,↓ep]⟩
    · subst h
      exact⟨.tup [.str "pick",.int c,.int a,.int b],n+4,sn,by omega,by omega,hs.mono (by omega),.pick hc ha hb,zQ3 (by unfold onC;decide),by simp[envD,↓d0,zDP,hm',zB9,e3]⟩
    · have d4 := zU3 ns (n + 4) 7 hl (by omega) (by decide)
      have q0:=zLS ns (n+4) (b:=7) (by decide)
      have q1:=zU2 ns (n+4) (b:=7) (by decide)
      obtain⟨y,hy,ey⟩:=zS3 (xs:=["over","plus","minus","times","least","most","less"].map fun s:String=>Dat.str (As s)) q0 (by simpa using q1)
      obtain⟨x,hx,rfl⟩:=C3.mp hy
      simp only[An,Cs] at ey
      have n1: ¬kd=1:=by omega
      have n2: ¬kd=2:=by omega
      have n3: ¬kd=3:=by omega
      have n4: ¬kd=4:=by omega
      have n5: ¬kd=5:=by omega
      have n6: ¬kd=6:=by omega
      have n7: ¬kd=7:=by omega
      have m1: ¬1=kd:=by omega
      have m2: ¬2=kd:=by omega
      have m4: ¬4=kd:=by omega
      have m5: ¬5=kd:=by omega
      exact⟨.tup [.str x,.int a,.int b],n+5,sn,by omega,by omega,hs.mono (by omega),.two hx ha hb,zQ3 (zOS hx),by simp[envD,↓d0,zDP,hm',hkd,zB9,e3,n3,n6,n7,m1,m2,m4,m5,↓d4,ey]⟩
inductive Kd where
 |w|p|n
 deriving DecidableEq
def Nm(kds:List Kd)(k:Kd)(a:Int):Prop:=0<=a/\kds[a.toNat]? =some k
theorem Nm.lt{kds:List Kd}{k:Kd}{a:Int}(h:Nm kds k a):a<kds.length:=by
 have:=(A5.mp h.2).1
 have:=h.1
 omega
theorem Nm.snoc{kds:List Kd}{k j:Kd}{a:Int}(h:Nm kds k a):Nm (kds++[j]) k a:=⟨h.1,by rw[A6 (A5.mp h.2).1];exact h.2⟩
theorem Nm.new{kds:List Kd}{k:Kd}:Nm (kds++[k]) k kds.length:=⟨by omega,by simp⟩
noncomputable def mk1(k:Kd):Dat->Kd
 | .tup (.str x::_)=>if x= "store" ∨x= "put" then .n else k
 |_=> .n
theorem zBU.imp{M M':Int->Prop}{row:Dat}(h:zBU M row)(f: ∀a,M a->M' a):zBU M' row:=by
 cases h with
 |number a b=>exact .number a b
 |two a b c=>exact .two a (f _ b) (f _ c)
 |pick a b c=>exact .pick (f _ a) (f _ b) (f _ c)
 |load a b=>exact .load a b
 |take a b c d=>exact .take a b (f _ c) (f _ d)
 |store a b c=>exact .store a b (f _ c)
 |put a b c d=>exact .put a b (f _ c) (f _ d)
theorem zBU.hard{M:Int->Prop}{row:Dat}(h:zBU M row):row.hard=true:=by
 cases h<;>simp[Dat.hard,zGD]
@[simp] theorem yHJ{i:Int}:oNeg (.int i)=some (.int (-i)):=(rfl)
theorem zF6{ds:List Dat}{k:Nat}(h:k<=ds.length):cutD ds (some (k:Int)) none=ds.drop k:=by
 unfold cutD
 rw[HT.zPB,HT.zMI,Ls h,Bq (by simp)]
theorem zHC{ds:List Dat}{k:Nat}:cutD ds none (some (k:Int))=ds.take k:=by
 unfold cutD
 rw[HT.zPB,HT.zMI]
 simp only[J4,Nat.sub_zero]
 by_cases h:k<=ds.length
 ·rw[Ls h]
 ·rw[Nat.min_eq_right (by omega),Bq (by omega),Bq (by omega)]
@[simp] theorem yIL{d:Dat}{ds:List Dat}:cutD (d::ds) (some 1) none=ds:=zF6 (k:=1) (by simp)
@[simp] theorem yIK{d e:Dat}{ds:List Dat}:cutD (d::e::ds) (some 2) none=ds:=zF6 (k:=2) (by simp)
@[simp] theorem yFZ{ds:List Dat}:cutD ds none (some 2)=ds.take 2:=zHC (k:=2)
@[simp] theorem yG0{ds:List Dat}:cutD ds none (some 1)=ds.take 1:=zHC (k:=1)
@[simp] theorem yG7{α:Type}{xs:List α}{x:α}:atI (xs++[x]) (-1)=some x:=by
 unfold atI ixN
 rw[if_neg (by decide),if_pos (by simp;omega)]
 have e:(-1+((xs++[x]).length:Int)).toNat=xs.length:=by simp;omega
 show(xs++[x])[(-1+((xs++[x]).length:Int)).toNat]? =some x
 rw[e]
 simp
@[simp] theorem yK9{α:Type}{x:α}{xs:List α}:atI (x::xs) 0=some x:=by rw[zG9 (by decide) (by simp)];rfl
@[simp] theorem yK8{α:Type}{x y:α}{xs:List α}:atI (x::y::xs) 1=some y:=by rw[zG9 (by decide) (by simp;omega)];rfl
@[simp] theorem yK7{α:Type}{x y z:α}{xs:List α}:atI (x::y::z::xs) 2=some z:=by rw[zG9 (by decide) (by simp;omega)];rfl
theorem yF9{k:Kd}{x:String}{t:List Dat}(hx:x∉["store","put"]):mk1 k (.tup (.str x::t))=k:=by
 simp only[Ac,Am,or_false,not_or] at hx
 simp[mk1,zCJ,hx]
theorem yF8{k:Kd}{x:String}{t:List Dat}(hx:x= "store" ∨x= "put"):mk1 k (.tup (.str x::t))= .n:=by
 rcases hx with rfl|rfl<;>simp[mk1,zCJ]
theorem zGF{M:Int->Prop}{row:Dat}(h:zBU M row): ∃(x:String) (t:List Dat),row= .tup (.str x::t)/\x∉["wide","gather","shuffle"]:=by
 cases h with
 |two hx _ _=>
  simp only[Ac,Am,or_false] at hx
  rcases hx with rfl|rfl|rfl|rfl|rfl|rfl|rfl<;>exact⟨_,_,rfl,by decide⟩
 |_=>exact⟨_,_,rfl,by decide⟩
@[simp] theorem yCQ(n lo hi:Int):zB1 [.int n,.int lo,.int hi]=some (.bl (decide (lo<=n) && decide (n<=hi)),[]):=by
 unfold zB1
 rw[zAX]
 unfold zFR
 simp[envD]
 by_cases h:lo<=n<;>simp[h]
theorem zQ9{x:String}(h:x∈["over","plus","minus","times","least","most","less"]):zB4 [.str x]=some (.tup [.str "row",.str "row"],[]):=by
 simp only[Ac,Am,or_false] at h
 rcases h with rfl|rfl|rfl|rfl|rfl|rfl|rfl<;>kernel_rfl
@[simp] theorem yEF:zB4 [.str "number"]=some (.tup [.str "word"],[]):=by kernel_rfl
@[simp] theorem yEE:zB4 [.str "pick"]=some (.tup [.str "row",.str "row",.str "row"],[]):=by kernel_rfl
@[simp] theorem yED:zB4 [.str "load"]=some (.tup [.str "place"],[]):=by kernel_rfl
@[simp] theorem yEC:zB4 [.str "take"]=some (.tup [.str "place",.str "row",.str "row"],[]):=by kernel_rfl
@[simp] theorem yEB:zB4 [.str "store"]=some (.tup [.str "place",.str "row"],[]):=by kernel_rfl
@[simp] theorem yEA:zB4 [.str "put"]=some (.tup [.str "place",.str "row",.str "row"],[]):=by kernel_rfl
def Ab(able:List Bool)(a:Int):Prop:=0<=a/\able[a.toNat]? =some true
theorem yBR{able:List Bool}{a:Int}(h:Ab able a):zCP [.int a,.lst (able.map .bl)]=some (.bl true,[]):=by
 have hlt:=(A5.mp h.2).1
 have h0:=h.1
 have h1:a<=(able.length:Int) - 1:=by omega
 have h2:atI (able.map Dat.bl) a=some (.bl true):=by
  rw[zG9 h0 (by simp;omega)]
  simp[h.2]
 unfold zCP
 rw[zAX]
 unfold zFL
 simp[envD,h0,h1,h2]
theorem zCE{able:List Bool}{a:Int}(h:Ab able a):zEE [.str "row",.int a,.lst (able.map .bl)]=some (.bl true,[]):=by
 unfold zEE
 rw[zAX]
 unfold zKH
 simp[envD,yBR h]
theorem zRA{d:Dat}{a:Int}(h:0<=a)(h':a<=999):zEE [.str "word",.int a,d]=some (.bl true,[]):=by
 unfold zEE
 rw[zAX]
 unfold zKH
 simp[envD,zBQ,h,h']
theorem zE5{d:Dat}{a:Int}(h:0<=a)(h':a<=63):zEE [.str "place",.int a,d]=some (.bl true,[]):=by
 unfold zEE
 rw[zAX]
 unfold zKH
 simp[envD,zDX,h,h']
@[simp] theorem yIM:blsD []=some []:=(rfl)
@[simp] theorem yIN{b:Bool}{ds:List Dat}:blsD (.bl b::ds)=(blsD ds).map fun ks=>b::ks:=(rfl)
@[simp] theorem yF4{g:List Bool->Bool}{ds:List Dat}:zX6 g (.lst ds)=(blsD ds).map fun ks=> .bl (g ks):=(rfl)
@[simp] theorem yCY{ds:List Dat}:zipD ds []=[]:=by cases ds<;>rfl
@[simp] theorem yGG{d e:Dat}{ds es:List Dat}:zipD (d::ds) (e::es)= .tup [d,e]::zipD ds es:=(rfl)
theorem zTV{able:List Bool}{row:Dat}(h:zBU (Ab able) row):zE9 [row,.lst (able.map .bl)]=some (.bl true,[]):=by
 unfold zE9
 rw[zAX]
 unfold zIM
 cases h with
 |number a b=>simp[envD,zB9,zRA a b]
 |two hx a b=>simp[envD,zB9,zQ9 hx,zCE a,zCE b]
 |pick a b c=>simp[envD,zB9,zCE a,zCE b,zCE c]
 |load a b=>simp[envD,zB9,zE5 a b]
 |take a b c d=>simp[envD,zB9,zE5 a b,zCE c,zCE d]
 |store a b c=>simp[envD,zB9,zE5 a b,zCE c]
 |put a b c d=>simp[envD,zB9,zE5 a b,zCE c,zCE d]
theorem zIS(nn:Nat)(fe:VF)(δ:Ev)(f:Dat->Dat)(hδ:δ.length=nn): ∀(ds acc:List Dat),(∀d∈ds,fe (δ++[Sl.va d])=some (f d,δ++[Sl.va d]))->acc.length+ds.length<16777216->zBX nn 1 (gN nn) bYes fe ds acc δ=some (acc++ds.map f,δ)
 | [],acc,_,_ => by simp
 | d :: ds,acc,h,hl => by
  have du:(δ++[Sl.no]).set nn (.va d)=δ++[Sl.va d]:=by
   rw[E6 _ _ (by omega)]
   simp[hδ]
  have ar:(δ++[Sl.va d]).take nn=δ:=by rw[Cd (by omega),Bq (by omega)]
  have au:acc.length<16777216:=by simp at hl;omega
  have ih:=zIS nn fe δ f hδ ds (acc++[f d]) (fun e he=>h e (Ag _ he)) (by simp at hl⊢;omega)
  simp only[zHD,zX7,gN_e,du,zPT,yCL,zWD,h d Ak,zWC,if_pos au,ar,ih]
  simp
noncomputable def cnt:Dat->Nat
 | .tup (.str x::_)=>if x= "number" ∨x= "load" then 0 else if x= "store" then 1 else if x= "pick" then 3 else 2
 |_=>0
theorem dne{x:String}(hx:x∈["over","plus","minus","times","least","most","less"]) {y:String} (hy:(["over","plus","minus","times","least","most","less"].contains y)=false):(¬x=y)/\¬y=x:=by
 have h: ¬x=y:=fun e=>by
  subst e
  rw[List.contains_iff_mem.mpr hx] at hy
  cases hy
 exact⟨h,fun e=>h e.symm⟩
theorem zNX{M:Int->Prop}{row:Dat}(h:zBU M row): ∃as:List Int,(∀a∈as,M a)/\as.length=cnt row/\zBE [row]=some (.lst (as.map .int),[])/\zDB [row]=some (.lst (as.map .int),[]):=by
 cases h with
 | @number n _ _=>
  refine⟨[],(fun _ h=>nomatch h),by kernel_rfl,?_,?_⟩
  ·kernel_rfl
  ·kernel_rfl
 | @two x a b hx ha hb=>
  refine⟨[a,b],by simp[ha,hb],?_,?_,?_⟩
  ·simp only[Ac,Am,or_false] at hx
   rcases hx with rfl|rfl|rfl|rfl|rfl|rfl|rfl<;>kernel_rfl
  ·simp only[Ac,Am,or_false] at hx
   rcases hx with rfl|rfl|rfl|rfl|rfl|rfl|rfl<;>kernel_rfl
  ·simp only[Ac,Am,or_false] at hx
   rcases hx with rfl|rfl|rfl|rfl|rfl|rfl|rfl<;>kernel_rfl
 | @pick c a b hc ha hb=>
  refine⟨[c,a,b],by simp[hc,ha,hb],by kernel_rfl,?_,?_⟩
  ·kernel_rfl
  ·kernel_rfl
 | @load p _ _=>
  refine⟨[],(fun _ h=>nomatch h),by kernel_rfl,?_,?_⟩
  ·kernel_rfl
  ·kernel_rfl
 | @take p c a _ _ hc ha=>
  refine⟨[c,a],by simp[hc,ha],by kernel_rfl,?_,?_⟩
  ·kernel_rfl
  ·kernel_rfl
 | @store p a _ _ ha=>
  refine⟨[a],by simp[ha],by kernel_rfl,?_,?_⟩
  ·kernel_rfl
  ·kernel_rfl
 | @put p a c _ _ ha hc=>
  refine⟨[a,c],by simp[ha,hc],by kernel_rfl,?_,?_⟩
  ·kernel_rfl
  ·kernel_rfl
theorem zSZ(k:Nat):(rngD 0 k).length=k:=by simp[rngD]
theorem zMW: ∀(ks:List Key) (ws:List Dat) (i:Nat) (k:Key),ks.Nodup->ks.length=ws.length->ks[i]? =some k->zBI ks ws k=ws[i]?
 |[],_,i,k,_,_,e=>by simp at e
 |k'::ks,[],i,k,_,hl,_=>by simp at hl
 |k'::ks,w::ws,0,k,_,_,e=>by simp at e;simp[zBI,e]
 |k'::ks,w::ws,i+1,k,nd,hl,e=>by
  have e':ks[i]? =some k:=by simpa using e
  have hne: ¬k'=k:=fun z=>(Bv.mp nd).1 (by rw[z];exact Cq e')
  have:=zMW ks ws i k (Bv.mp nd).2 (by simpa using hl) e'
  simp[zBI,hne,this]
inductive Bl:List Kd->List Dat->List Kd->Prop
 |nil {kds:List Kd}:Bl kds [] kds
 |cons {kds ag:List Kd} {row:Dat} {rows:List Dat}:zBU (Nm kds .w) row->Bl (kds++[mk1 .w row]) rows ag->Bl kds (row::rows) ag
theorem Bl.snoc{kds ag:List Kd}{rows:List Dat}{row:Dat}(h:Bl kds rows ag)(r:zBU (Nm ag .w) row):Bl kds (rows++[row]) (ag++[mk1 .w row]):=by
 induction h with
 |nil=>exact .cons r .nil
 |cons a _ ih=>exact .cons a (ih r)
theorem Bl.len{kds ag:List Kd}{rows:List Dat}(h:Bl kds rows ag):ag.length=kds.length+rows.length:=by
 induction h with
 |nil=>simp
 |cons _ _ ih=>simp only[ih,Bf,Bg,Ig];omega
theorem Bl.all{kds ag:List Kd}{rows:List Dat}(h:Bl kds rows ag): ∀d∈rows,zBU (Nm ag .w) d:=by
 induction h with
 | nil => intro d hd;cases hd
 | @cons kds ag row rows a t ih=>
  intro d hd
  rcases Ac.mp hd with rfl|hd
  ·refine a.imp fun x hx => ?_
   have: ∀{k k':List Kd} {rs:List Dat},Bl k rs k'->Nm k .w x->Nm k' .w x:=by
    intro k k' rs h
    induction h with
    |nil=>exact id
    |cons _ _ ih=>exact fun z=>ih z.snoc
   exact this t hx.snoc
  ·exact ih d hd
theorem zH3: ∀ns:List Int,zF4 (ns.map .int)=some ns
 |[]=>rfl
 |i::ns=>by
  show(zF4 (ns.map .int)).map (fun ns=>i::ns)=_
  rw[zH3 ns]
  rfl
theorem zQ2{n:Int}: ∀{ns:List Int},n∈ns-> ∃j:Nat,posI n ns=some j/\j<ns.length
 | i :: ns,h => by
  unfold posI
  by_cases e:i=n
  ·rw [if_pos e];exact ⟨0,rfl,by simp⟩
  ·rw[if_neg e]
   obtain⟨j,h1,h2⟩:=zQ2 (ns:=ns) (by
    rcases Ac.mp h with z|z
    ·exact absurd z.symm e
    ·exact z)
   exact⟨j+1,by rw[h1];rfl,by simp;omega⟩
noncomputable def nst(ns:List Int)(n:Nat)(rows:List Dat)(made:List Int)(sn:Dat)(a7:Int)(last:Dat)(fi:Int)(bs:List Int)(s9 s10:Sl):Ev:=
 [.va (Scp ns),.ow (Twn n),.va (.lst rows),.va (.lst (made.map .int)),.ow sn,.va (.int a7),.va last,.va (.int fi),.ow (.lst (bs.map .int)),s9,s10]
theorem yBN(ns:List Int)(n:Nat)(rows:List Dat)(made:List Int)(sn:Dat)(a7:Int)(last:Dat)(fi:Int)(bs:List Int)(a:Int)(s10:Sl)(hl:ns.length<=63)(hn:n<700000)(ha:a∈made)(hb:bs.length<100):
  ∃b∈made,∃g7,zC2 (nst ns n rows made sn a7 last fi bs (.va (.int a)) s10)=some (.nx (nst ns (n+1) rows made sn a7 last fi (bs++[b]) (.va (.int a)) g7)):=by
 obtain⟨j,hj,hj2⟩:=zQ2 ha
 obtain⟨x,hx,ex⟩:=zDF ns n [.int 1,.int 1,.int 1,.int 1,.int (-1),.int 0,.int 2] hl (by omega) (by simp)
 obtain⟨p,rfl⟩: ∃p,x= .int p:=by
  simp only[Ac,Am,or_false] at hx
  rcases hx with rfl|rfl|rfl|rfl|rfl|rfl|rfl<;>exact⟨_,rfl⟩
 have hi:zQI (.lst (made.map .int)) (.int a)=some (.int j):=by
  show(zF4 (made.map .int)).bind (fun ns=>(posI a ns).map fun j=>Dat.int j)=_
  rw[zH3,A7,hj]
  rfl
 have hb':bs.length<16777216:=by omega
 by_cases h1:0<=(j:Int)+p/\(j:Int)+p<made.length
 ·obtain⟨q,hq,eq⟩:=zIK (ns:=made) h1.1 h1.2
  by_cases h2:q=(rows.length:Int) - 1
  ·refine⟨a,ha,.va (.int (j+p)),?_⟩
   unfold zC2
   simp[nst,hi,ex,h1.1,h1.2,eq,h2,hb']
  ·refine⟨q,hq,.va (.int (j+p)),?_⟩
   unfold zC2
   simp[nst,hi,ex,h1.1,h1.2,eq,h2,hb']
 ·refine⟨a,ha,.va (.int (j+p)),?_⟩
  unfold zC2
  by_cases h3:0<=(j:Int)+p
  ·have h4 : ¬ (j : Int) + p < made.length := fun z => h1 ⟨h3,z⟩
   simp[nst,hi,ex,h3,h4,hb']
  ·simp[nst,hi,ex,h3,hb']
theorem zQL(ns:List Int)(rows:List Dat)(made:List Int)(sn:Dat)(a7:Int)(last:Dat)(fi:Int)(hl:ns.length<=63): ∀(as:List Int) (n:Nat) (bs:List Int) (s9 s10:Sl),n+as.length<700000->(∀a∈as,a∈made)->bs.length+as.length<100→
  ∃cs:List Int,(∀c∈cs,c∈made)/\cs.length=as.length/\ ∃s9' g7,forV (gN 9) zC2 (as.map .int) (nst ns n rows made sn a7 last fi bs s9 s10)=some (.nx (nst ns (n+as.length) rows made sn a7 last fi (bs++cs) s9' g7))
 | [],n,bs,s9,s10,_,_,_ => ⟨[],by simp,rfl,s9,s10,by simp⟩
 | a :: as,n,bs,s9,s10,hn,ha,hb => by
  simp only[Bg] at hn hb
  obtain⟨b,hb1,u10,e⟩:=yBN ns n rows made sn a7 last fi bs a s10 hl (by omega) (ha a Ak) (by omega)
  obtain⟨cs,h1,h2,s9',g7,ih⟩:=zQL ns rows made sn a7 last fi hl as (n+1) (bs++[b]) (.va (.int a)) u10 (by omega) (fun x hx=>ha x (Ag _ hx)) (by simp;omega)
  refine⟨b::cs,fun c hc=> ?_,by simp[h2],s9',g7,?_⟩
  ·rcases Ac.mp hc with rfl|hc
   ·exact hb1
   ·exact h1 c hc
  rw[An,zKJ,gN_e,zPV,show(nst ns n rows made sn a7 last fi bs s9 s10).set 9 (.va (.int a))=nst ns n rows made sn a7 last fi bs (.va (.int a)) s10 from rfl,e,zPU,ih]
  simp[Nat.add_assoc,Kh 1]
theorem cel4{x:String}(h:onC x):(decide ("load"=x) || (decide ("take"=x) || (decide ("store"=x) || decide ("put"=x))))=true:=by
 rcases h with rfl|rfl|rfl|rfl<;>decide
theorem snM{m k:Nat}{d:Dat}(h:Sn m d)(hk:m<=k):Sn k d:=by
 obtain⟨ks,vs,e,h1,h2,h3⟩:=h
 exact⟨ks,vs,e,h1,h2,by omega⟩
theorem zIG(ns:List Int)(n:Nat)(rows:List Dat)(made:List Int)(sn:Dat)(a7:Int){x:String}{p:Int}{as:List Int}{m:Nat}(hl:ns.length<=63)(hn:n<600000)(hm:m<8000000)(hs:Sn m sn)(hr:0<a7)(hx:onC x)(am:atI rows (-1)=some (.tup (.str x:: .int p::as.map .int)))(ha: ∀a∈as,a∈made)(h3:as.length<=3):
  ∃(q:Int) (cs:List Int) (sn':Dat),0<=q/\q<a7/\(∀c∈cs,c∈made)/\cs.length=as.length/\Sn (m+1) sn'/\zBS [Scp ns,Twn n,.lst rows,.lst (made.map .int),sn,.int a7]=some (.tup (.str x:: .int q::cs.map .int),[Twn (n+as.length),sn']):=by
 obtain⟨cs,h1,h2,s9,s10,e⟩:=zQL ns rows made sn a7 (.tup (.str x:: .int p::as.map .int)) 2 hl as n [] .no .no (by omega) ha (by simp;omega)
 simp only[nst,D8,Cs] at e
 obtain⟨ks,vs,rfl,k1,k2,k3⟩:=hs
 obtain⟨ks',vs',pe,h4,h5,h6,h7,h8⟩:=putI ks vs (.inr (x:Str)) ((p+1) % a7) k1 k2
 have hk:ks.length<16777216:=by omega
 refine⟨(p+1) % a7,cs,.dct ks' (vs'.map .int),Ez _ (by omega),D2 _ hr,h1,h2,⟨ks',vs',rfl,h4,h5,by omega⟩,?_⟩
 unfold zBS
 rw[zAX,zE4.eq_1]
 have hin:=cel4 hx
 have gl:cutD (.str x:: .int p::as.map Dat.int) (some 2) none=as.map Dat.int:=by
  have:=zF6 (ds:= .str x:: .int p::as.map Dat.int) (k:=2) (by simp)
  simpa using this
 have hcl:2+cs.length<=16777216:=by omega
 simp[envD,am,hin,gl,e,hr,hk,k2,pe,h8,hcl]
theorem off4{x:String}(h: ¬onC x):(¬x= "load" /\¬ "load"=x)/\(¬x= "take" /\¬ "take"=x)/\(¬x= "store" /\¬ "store"=x)/\¬x= "put" /\¬ "put"=x:=by refine⟨⟨fun z=>h (.inl z),fun z=>h (.inl z.symm)⟩,⟨fun z=>h (.inr (.inl z)),fun z=>h (.inr (.inl z.symm))⟩,⟨fun z=>h (.inr (.inr (.inl z))),fun z=>h (.inr (.inr (.inl z.symm)))⟩,fun z=>h (.inr (.inr (.inr z))),fun z=>h (.inr (.inr (.inr z.symm)))⟩
theorem zMU(ns:List Int)(n:Nat)(rows:List Dat)(made:List Int)(sn:Dat)(a7:Int){x:String}{as:List Int}(hl:ns.length<=63)(hn:n<600000)(hx: ¬onC x)(am:atI rows (-1)=some (.tup (.str x::as.map .int)))(ha: ∀a∈as,a∈made)(h3:as.length<=3):
  ∃cs:List Int,(∀c∈cs,c∈made)/\cs.length=as.length/\zBS [Scp ns,Twn n,.lst rows,.lst (made.map .int),sn,.int a7]=some (.tup (.str x::cs.map .int),[Twn (n+as.length),sn]):=by
 obtain⟨cs,h1,h2,s9,s10,e⟩:=zQL ns rows made sn a7 (.tup (.str x::as.map .int)) 1 hl as n [] .no .no (by omega) ha (by simp;omega)
 simp only[nst,D8,Cs] at e
 refine⟨cs,h1,h2,?_⟩
 unfold zBS
 rw[zAX,zE4.eq_1]
 obtain⟨⟨_,z1⟩,⟨_,z2⟩,⟨_,z3⟩,_,z4⟩:=off4 hx
 have gl:cutD (.str x::as.map Dat.int) (some 1) none=as.map Dat.int:=by
  have:=zF6 (ds:= .str x::as.map Dat.int) (k:=1) (by simp)
  simpa using this
 have mq:cutD (.str x::as.map Dat.int) none (some 1)=[.str x]:=by
  have:=zHC (ds:= .str x::as.map Dat.int) (k:=1)
  simpa using this
 have hcl:1+cs.length<=16777216:=by omega
 simp[envD,am,z1,z2,z3,z4,gl,mq,e,hcl]
theorem zXA(ns:List Int)(n:Nat)(rows:List Dat)(made:List Int)(sn:Dat)(a7:Int){last:Dat}{m:Nat}(hl:ns.length<=63)(hn:n<600000)(hm:m<8000000)(hs:Sn m sn)(hr:0<a7)(hr2:a7<=64)(am:atI rows (-1)=some last)(ok:zBU (· ∈made) last)(nn: ∀k,last≠ .tup [.str "number",.int k]):
  ∃row n' sn',n<=n'/\n'<=n+3/\Sn (m+1) sn'/\zBU (· ∈made) row/\zBS [Scp ns,Twn n,.lst rows,.lst (made.map .int),sn,.int a7]=some (row,[Twn n',sn']):=by
 cases ok with
 |number=>exact absurd rfl (nn _)
 | @two x a b hx ha hb=>
  obtain⟨cs,h1,h2,e⟩:=zMU ns n rows made sn a7 (x:=x) (as:=[a,b]) hl hn (zOS hx) am (by simp[ha,hb]) (by simp)
  match cs,h2 with
  |[c,d],_=>exact⟨_,n+2,sn,by omega,by omega,snM hs (by omega),.two hx (h1 c (by simp)) (h1 d (by simp)),e⟩
 | @pick c a b hc ha hb=>
  obtain⟨cs,h1,h2,e⟩:=zMU ns n rows made sn a7 (x:= "pick") (as:=[c,a,b]) hl hn (fun z=>by rcases z with z|z|z|z<;>exact absurd z (by decide)) am (by simp[ha,hb,hc]) (by simp)
  match cs,h2 with
  |[c,d,f],_=>exact⟨_,n+3,sn,by omega,by omega,snM hs (by omega),.pick (h1 c (by simp)) (h1 d (by simp)) (h1 f (by simp)),e⟩
 | @load p p0 p1=>
  obtain⟨q,cs,sn',q0,q1,h1,h2,hs',e⟩:=zIG ns n rows made sn a7 (x:= "load") (p:=p) (as:=[]) hl hn hm hs hr (.inl rfl) am (by simp) (by simp)
  match cs,h2 with
  |[],_=>exact⟨_,n+0,sn',by omega,by omega,hs',.load q0 (by omega),e⟩
 | @take p c a p0 p1 hc ha=>
  obtain⟨q,cs,sn',q0,q1,h1,h2,hs',e⟩:=zIG ns n rows made sn a7 (x:= "take") (p:=p) (as:=[c,a]) hl hn hm hs hr (.inr (.inl rfl)) am (by simp[hc,ha]) (by simp)
  match cs,h2 with
  |[c,d],_=>exact⟨_,n+2,sn',by omega,by omega,hs',.take q0 (by omega) (h1 c (by simp)) (h1 d (by simp)),e⟩
 | @store p a p0 p1 ha=>
  obtain⟨q,cs,sn',q0,q1,h1,h2,hs',e⟩:=zIG ns n rows made sn a7 (x:= "store") (p:=p) (as:=[a]) hl hn hm hs hr (.inr (.inr (.inl rfl))) am (by simp[ha]) (by simp)
  match cs,h2 with
  |[c],_=>exact⟨_,n+1,sn',by omega,by omega,hs',.store q0 (by omega) (h1 c (by simp)),e⟩
 | @put p a c p0 p1 ha hc=>
  obtain⟨q,cs,sn',q0,q1,h1,h2,hs',e⟩:=zIG ns n rows made sn a7 (x:= "put") (p:=p) (as:=[a,c]) hl hn hm hs hr (.inr (.inr (.inr rfl))) am (by simp[ha,hc]) (by simp)
  match cs,h2 with
  |[c,d],_=>exact⟨_,n+2,sn',by omega,by omega,hs',.put q0 (by omega) (h1 c (by simp)) (h1 d (by simp)),e⟩
structure RI(rows:List Dat)(made:List Int)(kds:List Kd):Prop where
 bl:Bl [] rows kds
 ex: ∀a,a∈made↔Nm kds .w a
 ml:made.length<=rows.length
theorem RI.len{rows:List Dat}{made:List Int}{kds:List Kd}(h:RI rows made kds):kds.length=rows.length:=by
 have:=h.bl.len
 simpa using this
theorem zX9{kds:List Kd}{k:Kd}{a:Int}:Nm (kds++[k]) .w a↔Nm kds .w a∨(k= .w/\a=kds.length):=by
 constructor
 ·intro h
  have h0:=h.1
  have hl:=h.lt
  rw[Bf,Fk] at hl
  by_cases hi:a.toNat<kds.length
  ·exact .inl ⟨h0,by have := h.2;rwa [A6 hi] at this⟩
  ·have hi : a.toNat = kds.length := by omega
   have e:=h.2
   rw[hi] at e
   simp at e
   exact .inr ⟨e,by omega⟩
 ·rintro (h|⟨rfl,rfl⟩)
  ·exact h.snoc
  ·exact Nm.new
theorem RI.more{rows:List Dat}{made:List Int}{kds:List Kd}{row:Dat}(h:RI rows made kds)(r:zBU (· ∈made) row):RI (rows++[row]) (if mk1 .w row= .w then made++[(rows.length:Int)] else made) (kds++[mk1 .w row]):=by
 refine⟨h.bl.snoc (r.imp fun a ha=>(h.ex a).mp ha),fun a=> ?_,?_⟩
 ·rw[zX9,<- h.ex a,h.len]
  split
  ·rename_i e
   simp[e]
  ·rename_i e
   simp[e]
 ·have:=h.ml
  split<;>simp<;>omega
theorem RI.last{rs:List Dat}{last:Dat}{made:List Int}{kds:List Kd}(h:RI (rs++[last]) made kds):zBU (· ∈made) last:=(h.bl.all last (by simp)).imp fun a ha=>(h.ex a).mpr ha
noncomputable def rst(ns:List Int)(n:Nat)(a9 a7:Int)(rows:List Dat)(made:List Int)(sn:Dat)(s7:Sl):Ev:=
 [.va (Scp ns),.ow (Twn n),.va (.int a9),.va (.int a7),.ow (.lst rows),.ow (.lst (made.map .int)),.ow sn,s7]
theorem zKF: ∀vs:List Int,zGD (vs.map .int)=true
 |[]=>rfl
 |_::vs=>by
  show((Dat.int _).hard && zGD (vs.map .int))=true
  rw[zKF vs]
  rfl
theorem zP5{m:Nat}{sn:Dat}(h:Sn m sn):zF1 sn=true:=by
 obtain⟨ks,vs,rfl,_⟩:=h
 exact zKF vs
theorem zQT{row:Dat}(x:String)(t:List Dat)(e:row= .tup (.str x::t)):mk1 .w row= .w↔ ¬(x= "store" ∨x= "put"):=by
 subst e
 by_cases h:x= "store" ∨x= "put"
 ·rw[yF8 h];simp[h]
 ·have : x ∉ ["store","put"] := by simpa using h
  rw[yF9 this];simp[h]
theorem zZK(ns:List Int)(n:Nat)(a9 a7:Int){rows:List Dat}{made:List Int}{kds:List Kd}{sn:Dat}{m:Nat}(s7:Sl)(hl:ns.length<=63)(hn:n<600000)(hm:m<8000000)(hs:Sn m sn)(hr:0<a7)(hr2:a7<=64)(R:RI rows made kds)(h0:rows≠[])(aa:rows.length<1000):
  ∃ae al ag n' sn',RI ae al ag/\rows.length<=ae.length/\((rows.length:Int)<=a9->(ae.length:Int)<=a9)/\ae.length<=rows.length+1/\n<=n'/\n'<=n+3/\Sn (m+1) sn'/\zC1 (rst ns n a9 a7 rows made sn s7)=some (.nx (rst ns n' a9 a7 ae al sn' s7)):=by
 obtain⟨rs,last,rfl⟩: ∃rs last,rows=rs++[last]:=⟨rows.dropLast,rows.getLast h0,(Fv h0).symm⟩
 have ok:=R.last
 have am:=zGL rs last
 have hml:made.length<16777216:=by have:=R.ml;omega
 have hrl:(rs++[last]).length<16777216:=by omega
 generalize q9:rs++[last]=rows at*
 obtain⟨x,t,e0,_⟩:=zGF ok
 by_cases h1:(rows.length:Int)<a9
 ·by_cases h2:x= "number"
  ·refine ⟨rows,made,kds,n,sn,R,Af _,id,by omega,by omega,by omega,snM hs (by omega),?_⟩
   unfold zC1
   simp[rst,h1,am,e0,h2]
  ·obtain ⟨row,n',sn',n0,n1,hs',okr,e⟩ := zXA ns n rows made sn a7 hl hn hm hs hr hr2 am ok (fun k z => by rw [e0] at z;simp [zCJ] at z;exact h2 z.1)
   obtain⟨y,u,e1,_⟩:=zGF okr
   have hl2:=zGL rows row
   refine⟨_,_,_,n',sn',R.more okr,by simp,by simp;omega,by simp,n0,n1,hs',?_⟩
   unfold zC1
   have key:=zQT y u e1
   have hrd:=okr.hard
   rw[e1] at hrd
   have hsn:=zP5 hs'
   by_cases h3:y= "store" ∨y= "put"
   ·rw [if_neg (by rw [key];simp [h3])]
    rcases h3 with rfl|rfl
    ·simp[rst,h1,am,e0,h2,e,hl2,e1,hrl,hrd,hsn]
    ·simp[rst,h1,am,e0,h2,e,hl2,e1,hrl,hrd,hsn]
   ·rw [if_pos (by rw [key];exact h3)]
    have z1: ¬ "store"=y:=fun z=>h3 (.inl z.symm)
    have z2: ¬ "put"=y:=fun z=>h3 (.inr z.symm)
    simp[rst,h1,am,e0,h2,e,hl2,e1,hrl,hrd,hsn,z1,z2,hml]
 ·refine ⟨rows,made,kds,n,sn,R,Af _,id,by omega,by omega,by omega,snM hs (by omega),?_⟩
  unfold zC1
  simp[rst,h1]
theorem zUP(ns:List Int)(a9 a7:Int)(hl:ns.length<=63)(hr:0<a7)(hr2:a7<=64): ∀(ds:List Dat) (n:Nat) {rows:List Dat} {made:List Int} {kds:List Kd} {sn:Dat} {m:Nat} (s7:Sl),n+3*ds.length<600000->m+ds.length<8000000->Sn m sn->RI rows made kds->rows≠[]->rows.length+ds.length<1000→
  ∃ae al ag n' sn' s7',RI ae al ag/\rows.length<=ae.length/\((rows.length:Int)<=a9->(ae.length:Int)<=a9)/\n<=n'/\n'<=n+3*ds.length/\Sn (m+ds.length) sn'/\forV (gN 7) zC1 ds (rst ns n a9 a7 rows made sn s7)=some (.nx (rst ns n' a9 a7 ae al sn' s7'))
 |[],n,rows,made,kds,sn,m,s7,_,_,hs,R,_,_=>⟨rows,made,kds,n,sn,s7,R,Af _,id,by omega,by simp,hs,by simp⟩
 |d::ds,n,rows,made,kds,sn,m,s7,hn,hm,hs,R,h0,hz=>by
  simp only[Bg] at hn hm hz
  obtain⟨jz,m8,o9,n1,sn1,R1,a1,a2,a3,a4,a5,hs1,e1⟩:=zZK ns n a9 a7 (.va d) hl (by omega) (by omega) hs hr hr2 R h0 (by omega)
  obtain⟨ae,al,ag,n',sn',s7',R',b1,b2,b3,b4,hs',e⟩:=zUP ns a9 a7 hl hr hr2 ds n1 (.va d) (by omega) (by omega) hs1 R1 (fun z=>by rw[z] at a1;simp at a1;exact h0 a1) (by omega)
  refine⟨ae,al,ag,n',sn',s7',R',by omega,fun z=>b2 (a2 z),by omega,by simp only[Bg];omega,snM hs' (by simp only[Bg];omega),?_⟩
  rw[zKJ,gN_e,zPV,show(rst ns n a9 a7 rows made sn s7).set 7 (.va d)=rst ns n a9 a7 rows made sn (.va d) from rfl,e1,zPU,e]
theorem zZJ(ns:List Int)(n:Nat)(a9 a7:Int){rows:List Dat}{made:List Int}{kds:List Kd}{sn:Dat}(s7:Sl)(hl:ns.length<=63)(hn:n<500000)(hs:Seen n sn)(hr:0<a7)(hr2:a7<=64)(R:RI rows made kds)(hlt:(rows.length:Int)<a9)(h40:a9<=40):
  ∃ae al ag n' sn' s7',RI ae al ag/\rows.length<ae.length/\(ae.length:Int)<=a9/\n<=n'/\n'<=n+20/\Seen n' sn'/\zCZ (rst ns n a9 a7 rows made sn s7)=some (.nx (rst ns n' a9 a7 ae al sn' s7')):=by
 obtain⟨row,n1,sn1,c1,c2,hs1,okr,_,e⟩:=zZL ns n made sn a7 hl (by omega) hs hr hr2
 obtain⟨x,hx,ex⟩:=zDF ns n1 [.int 0,.int 1,.int 1,.int 2,.int 3] hl (by omega) (by simp)
 obtain⟨k,rfl,k0,k3⟩: ∃k:Nat,x= .int k/\0<=k/\k<=3:=by
  simp only[Ac,Am,or_false] at hx
  rcases hx with rfl|rfl|rfl|rfl|rfl
  ·exact⟨0,rfl,by omega,by omega⟩
  ·exact⟨1,rfl,by omega,by omega⟩
  ·exact⟨1,rfl,by omega,by omega⟩
  ·exact⟨2,rfl,by omega,by omega⟩
  ·exact⟨3,rfl,by omega,by omega⟩
 have R1:=R.more okr
 have hrl:rows.length<16777216:=by omega
 have hml:made.length<16777216:=by have:=R.ml;omega
 have hdl:(rngD 0 k).length=k:=zSZ k
 obtain⟨ae,al,ag,n',sn',s7',R',b1,b2,b3,b4,hs',ef⟩:=zUP ns a9 a7 hl hr hr2 (rngD 0 k) (n1+1) s7 (by omega) (by omega) hs1 R1 (by simp) (by simp;omega)
 refine⟨ae,al,ag,n',sn',s7',R',by simp at b1;omega,b2 (by simp;omega),by omega,by omega,snM hs' (by omega),?_⟩
 obtain⟨y,u,e1,_⟩:=zGF okr
 have hl2:=zGL rows row
 have key:=zQT y u e1
 have hrd:=okr.hard
 rw[e1] at hrd
 have hsn:=zP5 hs1
 have hk1:(-4611686018427387904:Int)<=k/\(k:Int)<4611686018427387904:=by omega
 unfold zCZ
 by_cases h3:y= "store" ∨y= "put"
 ·rw [if_neg (by rw [key];simp [h3])] at ef
  simp only[rst] at ef
  rw[e1] at ef
  rcases h3 with rfl|rfl
  ·simp[rst,e,hl2,e1,hrl,hrd,hsn,ex,hk1,ef]
  ·simp[rst,e,hl2,e1,hrl,hrd,hsn,ex,hk1,ef]
 ·rw [if_pos (by rw [key];exact h3)] at ef
  simp only[rst,Ey,An,Cs] at ef
  rw[e1] at ef
  have z1: ¬ "store"=y:=fun z=>h3 (.inl z.symm)
  have z2: ¬ "put"=y:=fun z=>h3 (.inr z.symm)
  simp[rst,e,hl2,e1,hrl,hrd,hsn,ex,hk1,z1,z2,hml,ef]
theorem zM5{t:VB}{g:VS}{k:Nat}{δ δ1 δ2:Ev}(h:t δ=some (true,δ1))(h2:g δ1=some (.nx δ2)):zBG t g (k+1) δ=zBG t g k δ2:=by
 show((t δ).bind fun p=>if p.1=true then(g p.2).bind (zDK (zBG t g k)) else some (.nx p.2))=_
 rw[h,A7]
 show(if true=true then(g δ1).bind (zDK (zBG t g k)) else _)=_
 rw[if_pos rfl,h2]
 rfl
theorem zI2{t:VB}{g:VS}{k:Nat}{δ δ1:Ev}(h:t δ=some (false,δ1)):zBG t g (k+1) δ=some (.nx δ1):=by
 show((t δ).bind fun p=>if p.1=true then(g p.2).bind (zDK (zBG t g k)) else some (.nx p.2))=_
 rw[h]
 rfl
theorem zUO(ns:List Int)(a9 a7:Int)(hl:ns.length<=63)(hr:0<a7)(hr2:a7<=64)(h40:a9<=40): ∀(f:Nat) (n:Nat) {rows:List Dat} {made:List Int} {kds:List Kd} {sn:Dat} (s7:Sl),a9 - rows.length<=f->(rows.length:Int)<=a9->n+20*f<500000->Seen n sn->RI rows made kds→
  ∃ae al ag n' sn' s7',RI ae al ag/\(ae.length:Int)=a9/\n<=n'/\n'<=n+20*f/\zBG (fB (f2 oLt (f1 oLen (fO 4)) (fV 2))) zCZ (f+1) (rst ns n a9 a7 rows made sn s7)=some (.nx (rst ns n' a9 a7 ae al sn' s7'))
 | 0,n,rows,made,kds,sn,s7,h1,h2,hn,hs,R => by
  refine⟨rows,made,kds,n,sn,s7,R,by omega,by omega,by omega,zI2 ?_⟩
  have: ¬(rows.length:Int)<a9:=by omega
  simp[rst,this]
 | f + 1,n,rows,made,kds,sn,s7,h1,h2,hn,hs,R => by
  by_cases hlt:(rows.length:Int)<a9
  ·obtain ⟨jz,m8,o9,n1,sn1,u7,R1,a1,a2,a3,a4,hs1,e1⟩ := zZJ ns n a9 a7 s7 hl (by omega) hs hr hr2 R hlt h40
   obtain⟨ae,al,ag,n',sn',s7',R',b1,b2,b3,e⟩:=zUO ns a9 a7 hl hr hr2 h40 f n1 u7 (by omega) a2 (by omega) hs1 R1
   refine⟨ae,al,ag,n',sn',s7',R',b1,by omega,by omega,?_⟩
   rw[zM5 (δ1:=rst ns n a9 a7 rows made sn s7) (by simp[rst,hlt]) e1,e]
  ·refine ⟨rows,made,kds,n,sn,s7,R,by omega,by omega,by omega,zI2 ?_⟩
   simp[rst,hlt]
theorem zW8(ns:List Int)(n:Nat)(a9 a7:Int)(hl:ns.length<=63)(hn:n<400000)(hr:0<a7)(hr2:a7<=64)(h0:0<=a9)(h40:a9<=40):
  ∃rows kds n',Bl [] rows kds/\(rows.length:Int)=a9/\n<=n'/\n'<=n+20*40/\zCQ [Scp ns,Twn n,.int a9,.int a7]=some (.tup rows,[Twn n']):=by
 obtain⟨rows,made,kds,n',sn,s7,R,a1,a2,a3,e⟩:=zUO ns a9 a7 hl hr hr2 h40 a9.toNat n (rows:=[]) (made:=[]) (kds:=[]) (sn:= .dct [] []) .no (by simp;omega) (by simpa using h0) (by omega) ⟨[],[],rfl,rfl,List.nodup_nil,Cv _⟩ ⟨.nil,fun a=>by simp[Nm],by simp⟩
 refine⟨rows,kds,n',R.bl,a1,a2,by omega,?_⟩
 have e:=zJP e
 simp only[rst,Cs] at e
 unfold zCQ
 rw[zAX,zFM.eq_1]
 simp[envD,e]
theorem yFK{f g:VF}{δ δ1 δ2:Ev}{i j:Int}(h1:f δ=some (.int i,δ1))(h2:g δ1=some (.int j,δ2))(hb:(-4611686018427387904<=i/\i<4611686018427387904)/\ -4611686018427387904<=j/\j<4611686018427387904):iR2 f g δ=some (rngD i (j - i).toNat,δ2):=by
 unfold iR2
 rw[h1,A7,h2,A7]
 exact if_pos hb
theorem zIT(nn:Nat)(tb:VB)(p:Dat->Bool)(fe:VF)(f:Dat->Dat)(δ:Ev)(hδ:δ.length=nn): ∀(ds acc:List Dat),(∀d∈ds,tb (δ++[Sl.va d])=some (p d,δ++[Sl.va d])/\(p d=true->fe (δ++[Sl.va d])=some (f d,δ++[Sl.va d])))->acc.length+ds.length<16777216->zBX nn 1 (gN nn) tb fe ds acc δ=some (acc++(ds.filter p).map f,δ)
 | [],acc,_,_ => by simp
 | d :: ds,acc,h,hl => by
  have du:(δ++[Sl.no]).set nn (.va d)=δ++[Sl.va d]:=by
   rw[E6 _ _ (by omega)]
   simp[hδ]
  have ar:(δ++[Sl.va d]).take nn=δ:=by rw[Cd (by omega),Bq (by omega)]
  have au:acc.length<16777216:=by simp at hl;omega
  obtain⟨h1,h2⟩:=h d Ak
  cases hp:p d with
  |true=>
   have ih:=zIT nn tb p fe f δ hδ ds (acc++[f d]) (fun e he=>h e (Ag _ he)) (by simp at hl⊢;omega)
   have h2:=h2 hp
   rw[hp] at h1
   simp only[zHD,zX7,gN_e,du,zPT,h1,zWD,h2,zWC,if_pos au,ar,ih]
   simp[hp]
  |false=>
   have ih:=zIT nn tb p fe f δ hδ ds acc (fun e he=>h e (Ag _ he)) (by simp at hl⊢;omega)
   rw[hp] at h1
   simp only[zHD,zX7,gN_e,du,zPT,h1,zZV,ar,ih]
   simp[hp]
theorem zBU.ints{M:Int->Prop}{row:Dat}(h:zBU M row): ∃(x:String) (a:Int) (as:List Int),row= .tup (.str x:: .int a::as.map .int)/\(x= "over" -> ∃b,as=[b]/\M b):=by
 cases h with
 | @number n _ _=>exact⟨"number",n,[],rfl,fun z=>absurd z (by decide)⟩
 | @two x a b hx ha hb=>exact⟨x,a,[b],rfl,fun _=>⟨b,rfl,hb⟩⟩
 | @pick c a b _ _ _=>exact⟨"pick",c,[a,b],rfl,fun z=>absurd z (by decide)⟩
 | @load p _ _=>exact⟨"load",p,[],rfl,fun z=>absurd z (by decide)⟩
 | @take p c a _ _ _ _=>exact⟨"take",p,[c,a],rfl,fun z=>absurd z (by decide)⟩
 | @store p a _ _ _=>exact⟨"store",p,[a],rfl,fun z=>absurd z (by decide)⟩
 | @put p a c _ _ _ _=>exact⟨"put",p,[a,c],rfl,fun z=>absurd z (by decide)⟩
theorem zF3{k:Nat}: ∀as:List Int,∀d∈as.map Dat.int,okk k d
 |[],d,h=>nomatch h
 |a::as,d,h=>by
  rcases Ac.mp h with rfl|h
  ·exact zD6
  ·exact zF3 as d h
theorem zPH{M:Int->Prop}{row:Dat}(h:zBU M row):okk 1 row:=by
 obtain⟨x,a,as,rfl,_⟩:=h.ints
 exact zIF (zBN zCI (zBN zD6 (zF3 as)))
theorem zV7{sure:Int}{rows:List Dat}{kds:List Kd}(hb:Bl [] rows kds){i:Int}(h0:0<=i)(h1:i<rows.length): ∃b,zC7 [.tup [.int sure,.tup rows],.int i]=some (.bl b,[]):=by
 have aa:kds.length=rows.length:=by simpa using hb.len
 obtain⟨row,g9,e0⟩: ∃row∈rows,atI rows i=some row:=by
  have hi:i.toNat<rows.length:=by omega
  exact⟨rows[i.toNat],Hs hi,by rw[zG9 h0 h1];simp[hi]⟩
 have ok:=hb.all row g9
 obtain⟨x,a,as,rfl,hov⟩:=ok.ints
 unfold zC7
 rw[zAX]
 unfold zH7
 by_cases hx:onC x
 ·have m1:=cel4 hx
  exact⟨_,by simp[envD,e0,m1];rfl⟩
 ·obtain⟨⟨_,z1⟩,⟨_,z2⟩,⟨_,z3⟩,_,z4⟩:=off4 hx
  by_cases ho:x= "over"
  ·obtain⟨b,rfl,hbn⟩:=hov ho
   subst ho
   have b0:=hbn.1
   have b1:=hbn.lt
   obtain⟨nr,hr2,e2⟩: ∃row∈rows,atI rows b=some row:=by
    have hi:b.toNat<rows.length:=by omega
    exact⟨rows[b.toNat],Hs hi,by rw[zG9 b0 (by omega)];simp[hi]⟩
   obtain⟨x2,a2,as2,rfl,_⟩:=(hb.all nr hr2).ints
   have gl:cutD (.str x2:: .int a2::as2.map Dat.int) none (some 2)=[.str x2,.int a2]:=by
    have:=zHC (ds:= .str x2:: .int a2::as2.map Dat.int) (k:=2)
    simpa using this
   have ei: ∀δ,iR2 (fC (.int 1)) (fC (.int 1000)) δ=some (rngD 1 ((1000:Int) - 1).toNat,δ):=fun δ=>yFK (f:=fC (.int 1)) (g:=fC (.int 1000)) (δ:=δ) (δ1:=δ) (δ2:=δ) (i:=1) (j:=1000) rfl rfl (by omega)
   have ec:=zIS 0 (fTup (zA3 (fC (.str "number")) (zA3 (fV 0) fNil))) [] (fun d=> .tup [.str "number",d]) rfl (rngD 1 ((1000:Int) - 1).toNat) [] (fun d _=>by simp) (by simp[rngD])
   have hin: ∀neg,∃b,oInD neg (.tup [.str x2,.int a2]) (.lst ((rngD 1 ((1000:Int) - 1).toNat).map fun d=> .tup [.str "number",d]))=some (.bl b):=fun neg=>⟨_,zMS (j:=1) (k:=1) (zIF (zBN zCI (zBN zD6 zD5))) (fun e he=>by
    obtain⟨d,hd,rfl⟩:=C3.mp he
    obtain⟨q,rfl⟩: ∃q,d= .int q:=by
     unfold rngD at hd
     obtain⟨q,_,rfl⟩:=C3.mp hd
     exact⟨_,rfl⟩
    exact zIF (zBN zCI (zBN zD6 zD5)))⟩
   obtain⟨bb,hbb⟩:=hin true
   simp only[D8] at ec
   generalize (rngD 1 ((1000:Int) - 1).toNat).map (fun d=>Dat.tup [.str "number",d])=big at*
   generalize rngD 1 ((1000:Int) - 1).toNat=rg at*
   exact⟨bb,by simp -implicitDefEqProofs [envD,e0,e2,gl,zB9,ei,ec,hbb]⟩
  ·exact⟨false,by simp[envD,e0,z1,z2,z3,z4,ho]⟩
noncomputable def zC5(p:Int×Int):Dat:= .tup [.int p.1,.int p.2]
noncomputable def zLV:Dat:= .tup [.str "load",.str "take",.str "store",.str "put"]
noncomputable def mst(blk:Dat)(ps:List (Int×Int))(j:Int)(there:Sl)(s5 s6 s7 s8:Sl):Ev:=
 [.va blk,.ow (.lst (ps.map zC5)),.va zLV,.va (.int j),there,s5,s6,s7,s8]
theorem yG2{bs:List Bool}:oInD false (.bl true) (.lst (bs.map .bl))=some (.bl (bs.any id)):=by
 rw[zMS (j:=0) (k:=0) zV2 (fun e he=>by
  obtain⟨b,_,rfl⟩:=C3.mp he
  exact zV2)]
 induction bs with
 |nil=>rfl
 |cons b bs ih=>
  have e:eqD (.bl b) (.bl true)=b:=by cases b<;>rfl
  simp only[An,zXR,Ft,id,e]
  simp only[Di,if_false,Option.some.injEq,Dat.bl.injEq] at ih⊢
  rw[ih]
theorem zR3{i:Int}: ∀{as:List Int},i∈as->inE (.int i) (as.map .int)=true
 |q::as,h=>by
  simp only[An,zXR]
  rcases Ac.mp h with rfl|h
  ·simp
  ·simp[zR3 h]
noncomputable def wrT:Dat->Bool
 | .tup (.str x::_)=>decide (As "store"=x) || decide (As "put"=x)
 |_=>false
theorem zJK{s1 s2:VS}{δ δ1:Ev}{r:Option Ou}(h1:s1 δ=some (.nx δ1))(h2:s2 δ1=r):sSeq s1 s2 δ=r:=by rw[zG2,h1,qS_n,h2]
theorem yBO{sure:Int}{rows:List Dat}{kds:List Kd}(hb:Bl [] rows kds)(ps:List (Int×Int)){i j:Int}{here there:Dat}(i0:0<=i)(i1:i<rows.length)(j0:0<=j)(j1:j<rows.length)(hh:here∈rows)(ht:there∈rows){as:List Int}(hn:zBE [there]=some (.lst (as.map .int),[]))(s7 s8:Sl)(hp:ps.length<1000000):
  ∃(c:Bool) (t7 t8:Sl),(i∈as->c=true)/\zD1 (mst (.tup [.int sure,.tup rows]) ps j (.va there) (.va (.int i)) (.va here) s7 s8)=some (.nx (mst (.tup [.int sure,.tup rows]) (ps++if c then[(i,j)] else[]) j (.va there) (.va (.int i)) (.va here) t7 t8)):=by
 obtain⟨b1,e1⟩:=zV7 (sure:=sure) hb i0 i1
 obtain⟨b2,e2⟩:=zV7 (sure:=sure) hb j0 j1
 have okh:=hb.all here hh
 have okt:=hb.all there ht
 have kh:=zPH okh
 have kt:=zPH okt
 obtain⟨x,a,xs,eh,_⟩:=okh.ints
 obtain⟨y,b,ys,et,_⟩:=okt.ints
 have hin:oInD false (.int i) (.lst (as.map .int))=some (.bl (inE (.int i) (as.map .int))):=by
  rw[zMS (j:=0) (k:=0) zD6 (zF3 as)]
  simp
 have p3:=zR3 (i:=i) (as:=as)
 generalize inE (.int i) (as.map .int)=bi at*
 have ew: ∃w:List Dat,zBX 0 1 (gN 0) (fB (f2 (oInD false) (f2 oIxA (fV 0) (fC (.int 0))) (fTup (zA3 (fC (.str "store")) (zA3 (fC (.str "put")) fNil))))) (fV 0) [here,there] [] []=some (w,[])/\ ∀d∈w,okk 1 d:=by
  have c:=zIT 0 (fB (f2 (oInD false) (f2 oIxA (fV 0) (fC (.int 0))) (fTup (zA3 (fC (.str "store")) (zA3 (fC (.str "put")) fNil))))) wrT (fV 0) id [] rfl [here,there] [] (fun d hd=>by
   simp only[Ac,Am,or_false] at hd
   rcases hd with rfl|rfl
   ·rw[eh];simp[wrT,zCJ]
   ·rw[et];simp[wrT,zCJ]) (by simp)
  refine⟨_,c,fun d hd=> ?_⟩
  simp only[D8,List.map_id_fun,id,Em,Ac,Am,or_false] at hd
  rcases hd.1 with rfl|rfl
  ·exact kh
  ·exact kt
 obtain⟨w,ew,kw⟩:=ew
 have hne:oNe (.lst w) (.lst [])=some (.bl (!eqD (.lst w) (.lst []))):=zX4 (j:=2) (k:=0+1) (zDG kw) (zDG zD5)
 generalize (!eqD (.lst w) (.lst []))=bw at*
 have hp':ps.length<16777216:=by omega
 have x4: ∃bx,oInD false (.str x) zLV=some (.bl bx):=⟨_,yC8⟩
 have y4: ∃by',oInD false (.str y) zLV=some (.bl by'):=⟨_,yC8⟩
 have x2: ∃bx,oInD false (.str x) (.tup [.str "store",.str "put"])=some (.bl bx):=⟨_,zTX⟩
 have y2: ∃by',oInD false (.str y) (.tup [.str "store",.str "put"])=some (.bl by'):=⟨_,zTX⟩
 obtain⟨bx,x4⟩:=x4
 obtain⟨by',y4⟩:=y4
 obtain⟨wx,x2⟩:=x2
 obtain⟨wy,y2⟩:=y2
 subst eh et
 have hbl:=yG2 (bs:=[bi,b1 && b2,bx && (by' && (decide (a=b) && bw)),b1 && wy,b2 && wx])
 simp only[An,Cs] at hbl
 refine⟨[bi,b1 && b2,bx && (by' && (decide (a=b) && bw)),b1 && wy,b2 && wx].any id,.va (.lst w),.ow (.lst [.bl bi,.bl (b1 && b2),.bl (bx && (by' && (decide (a=b) && bw))),.bl (b1 && wy),.bl (b2 && wx)]),?_,?_⟩
 ·intro hi
  rw[p3 hi]
  rfl
 ·unfold zD1
  refine zJK (δ1:=mst (.tup [.int sure,.tup rows]) ps j (.va (.tup (.str y:: .int b::ys.map .int))) (.va (.int i)) (.va (.tup (.str x:: .int a::xs.map .int))) (.va (.lst w)) s8) (by simp[mst,zB9,ew]) ?_
  refine zJK (δ1:=mst (.tup [.int sure,.tup rows]) ps j (.va (.tup (.str y:: .int b::ys.map .int))) (.va (.int i)) (.va (.tup (.str x:: .int a::xs.map .int))) (.va (.lst w)) (.ow (.lst [.bl bi,.bl (b1 && b2)]))) ?_ ?_
  ·clear hbl
   cases b1<;>simp[mst,hn,hin,e1,e2]
  refine zJK (δ1:=mst (.tup [.int sure,.tup rows]) ps j (.va (.tup (.str y:: .int b::ys.map .int))) (.va (.int i)) (.va (.tup (.str x:: .int a::xs.map .int))) (.va (.lst w)) (.ow (.lst [.bl bi,.bl (b1 && b2),.bl (bx && (by' && (decide (a=b) && bw)))]))) ?_ ?_
  ·clear hbl
   cases bx<;>cases by'<;>by_cases hab:a=b<;>simp[mst,x4,y4,hne,hab]
  refine zJK (δ1:=mst (.tup [.int sure,.tup rows]) ps j (.va (.tup (.str y:: .int b::ys.map .int))) (.va (.int i)) (.va (.tup (.str x:: .int a::xs.map .int))) (.va (.lst w)) (.ow (.lst [.bl bi,.bl (b1 && b2),.bl (bx && (by' && (decide (a=b) && bw))),.bl (b1 && wy)]))) ?_ ?_
  ·clear hbl
   generalize (bx && (by' && (decide (a=b) && bw)))=q3
   cases b1<;>simp[-zTX,mst,e1,y2]
  refine zJK (δ1:=mst (.tup [.int sure,.tup rows]) ps j (.va (.tup (.str y:: .int b::ys.map .int))) (.va (.int i)) (.va (.tup (.str x:: .int a::xs.map .int))) (.va (.lst w)) (.ow (.lst [.bl bi,.bl (b1 && b2),.bl (bx && (by' && (decide (a=b) && bw))),.bl (b1 && wy),.bl (b2 && wx)]))) ?_ ?_
  ·clear hbl
   generalize (bx && (by' && (decide (a=b) && bw)))=q3
   cases b2<;>simp[-zTX,mst,e2,x2]
  generalize (bx && (by' && (decide (a=b) && bw)))=q3 at*
  generalize hq1:(b1 && b2)=q1 at*
  generalize hq4:(b1 && wy)=q4 at*
  generalize hq5:(b2 && wx)=q5 at*
  generalize hc:[bi,q1,q3,q4,q5].any id=c at*
  cases c
  ·simp[mst,hbl]
  ·simp[mst,hbl,hp',zC5]
theorem zH9(i:Nat)(d:Dat)(ds:List Dat):enuD i (d::ds)= .tup [.int i,d]::enuD (i+1) ds:=rfl
noncomputable abbrev GP(a b:Nat):VG:=gTp 2 (zB2 (gN a) (zB2 (gN b) zDV))
theorem zV6{sure:Int}{rows:List Dat}{kds:List Kd}(hb:Bl [] rows kds){j:Int}{there:Dat}(j0:0<=j)(j1:j<rows.length)(ht:there∈rows){as:List Int}(hn:zBE [there]=some (.lst (as.map .int),[])): ∀(hs:List Dat) (k:Nat) (ps:List (Int×Int)) (s5 s6 s7 s8:Sl),(∀d∈hs,d∈rows)->k+hs.length<=rows.length->ps.length+hs.length<1000000→
  ∃(qs:List (Int×Int)) (t5 t6 t7 t8:Sl),(∀p∈qs,p.2=j/\(k:Int)<=p.1/\p.1<k+hs.length)/\(∀i∈as,(k:Int)<=i->i<k+hs.length->(i,j)∈qs)/\qs.length<=hs.length∧
   forV (GP 5 6) zD1 (enuD k hs) (mst (.tup [.int sure,.tup rows]) ps j (.va there) s5 s6 s7 s8)=some (.nx (mst (.tup [.int sure,.tup rows]) (ps++qs) j (.va there) t5 t6 t7 t8))
 | [],k,ps,s5,s6,s7,s8,_,_,_ => ⟨[],s5,s6,s7,s8,by simp,fun i _ h1 h2 => by simp at h2;omega,by simp,by simp [enuD]⟩
 | h :: hs,k,ps,s5,s6,s7,s8,hm,hk,hp => by
  simp only[Bg] at hk hp
  obtain⟨c,t7,t8,c1,e⟩:=yBO (sure:=sure) hb ps (i:=(k:Int)) (j:=j) (here:=h) (there:=there) (by omega) (by omega) j0 j1 (hm h Ak) ht hn s7 s8 (by omega)
  obtain⟨qs,u5,u6,u7,u8,q1,q2,q3,ih⟩:=zV6 hb j0 j1 ht hn hs (k+1) (ps++if c then[((k:Int),j)] else[]) (.va (.int k)) (.va h) t7 t8 (fun d hd=>hm d (Ag _ hd)) (by omega) (by cases c<;>simp<;>omega)
  refine⟨(if c then[((k:Int),j)] else[])++qs,u5,u6,u7,u8,?_,?_,?_,?_⟩
  ·intro p hp
   simp only[Bg]
   rcases Aw.mp hp with z|z
   ·cases c
    ·simp at z
    ·simp at z;subst z;exact⟨rfl,by simp,by simp;omega⟩
   ·obtain⟨z1,z2,z3⟩:=q1 p z
    exact⟨z1,by omega,by omega⟩
  ·intro i hi h1 h2
   simp only[Bg] at h2
   by_cases h3:i=k
   ·subst h3
    rw[c1 hi]
    simp
   ·exact Aw.mpr (.inr (q2 i hi (by omega) (by omega)))
  ·cases c<;>simp<;>omega
  ·rw[zH9,zKJ]
   have s1:GP 5 6 (.tup [.int k,h]) (mst (.tup [.int sure,.tup rows]) ps j (.va there) s5 s6 s7 s8)=some (mst (.tup [.int sure,.tup rows]) ps j (.va there) (.va (.int k)) (.va h) s7 s8):=by simp[mst]
   rw[s1,zPV,e,zPU,ih,Eb]
structure Prs(rows:List Dat)(ps:List (Int×Int)):Prop where
 lt: ∀p∈ps,0<=p.1/\p.1<p.2/\p.2<rows.length
 nm: ∀(j:Nat) (row:Dat) (as:List Int),rows[j]? =some row->zBE [row]=some (.lst (as.map .int),[])-> ∀i∈as,0<=i->i<j->(i,(j:Int))∈ps
theorem zTW{as bs:List Int}(h:as.map Dat.int=bs.map Dat.int):as=bs:=by
 induction as generalizing bs with
 | nil => cases bs with
  |nil=>rfl
  |cons=>simp at h
 | cons a as ih => cases bs with
  |nil=>simp at h
  |cons b bs=>
   simp only[An,Gc,Dat.int.injEq] at h
   rw[h.1,ih h.2]
noncomputable def tri:Nat->Nat->Nat
 |0,_=>0
 |t+1,k=>k+tri t (k+1)
theorem yD3{n:Nat}(h:n<=10):tri n 0<64:=by
 have:=Br.mp (show(Ao 11).all (fun n=>decide (tri n 0<64))=true by decide) n (Be.mpr (by omega))
 exact of_decide_eq_true this
theorem zV5{sure:Int}{rows:List Dat}{kds:List Kd}(hb:Bl [] rows kds)(h40:rows.length<=10): ∀(ts:List Dat) (k:Nat) (ps:List (Int×Int)) (s3:Int) (s4 s5 s6 s7 s8:Sl) (x3:Sl),rows.drop k=ts->k+ts.length=rows.length->ps.length+40*ts.length<10000→
  ∃(qs:List (Int×Int)) (t3 t4 t5 t6 t7 t8:Sl),(∀p∈qs,0<=p.1/\p.1<p.2/\p.2<rows.length)/\(∀(j:Nat) (row:Dat) (as:List Int),k<=j->rows[j]? =some row->zBE [row]=some (.lst (as.map .int),[])-> ∀i∈as,0<=i->i<j->(i,(j:Int))∈qs)/\(qs.length<=tri ts.length k/\qs.length<=40*ts.length)∧
   forV (GP 3 4) zD0 (enuD k ts) [.va (.tup [.int sure,.tup rows]),.ow (.lst (ps.map zC5)),.va zLV,x3,s4,s5,s6,s7,s8]=some (.nx [.va (.tup [.int sure,.tup rows]),.ow (.lst ((ps++qs).map zC5)),.va zLV,t3,t4,t5,t6,t7,t8])
 | [],k,ps,s3,s4,s5,s6,s7,s8,x3,h1,h2,_ => by
  refine⟨[],x3,s4,s5,s6,s7,s8,by simp,fun j row as h3 h4=> ?_,by simp[tri],by simp[enuD]⟩
  have:=(A5.mp h4).1
  simp at h2
  omega
 | t :: ts,k,ps,s3,s4,s5,s6,s7,s8,x3,h1,h2,hp => by
  simp only[Bg] at h2 hp
  have ht:t∈rows:=List.mem_of_mem_drop (by rw[h1];exact Ak)
  have hk:rows[k]? =some t:=by
   have:(rows.drop k)[0]? =some t:=by rw[h1];rfl
   simpa using this
  obtain⟨as,_,_,hn,_⟩:=zNX (hb.all t ht)
  have aa:(rows.take k).length=k:=by rw[Bw];omega
  obtain⟨qs1,t5,t6,t7,t8,q1,q2,q3,e⟩:=zV6 (sure:=sure) hb (j:=(k:Int)) (by omega) (by omega) ht hn (rows.take k) 0 ps s5 s6 s7 s8 (fun d hd=>List.mem_of_mem_take hd) (by omega) (by omega)
  obtain⟨qs2,u3,u4,u5,u6,u7,u8,r1,r2,r3,ih⟩:=zV5 hb h40 ts (k+1) (ps++qs1) 0 (.va t) t5 t6 t7 t8 (.va (.int k)) (by rw[<- List.drop_drop,h1];rfl) (by omega) (by simp;omega)
  refine⟨qs1++qs2,u3,u4,u5,u6,u7,u8,?_,?_,?_,?_⟩
  ·intro p hp
   rcases Aw.mp hp with z|z
   ·obtain⟨z1,z2,z3⟩:=q1 p z
    rw[aa] at z3
    exact⟨by omega,by omega,by omega⟩
   ·exact r1 p z
  ·intro j row bs hj hr hbs i hi i0 i1
   by_cases hjk:j=k
   ·subst hjk
    rw[hk] at hr
    injection hr with hr
    subst hr
    rw[hn] at hbs
    have:as=bs:=zTW (by simpa using hbs)
    subst this
    exact Aw.mpr (.inl (q2 i hi (by omega) (by rw[aa];omega)))
   ·exact Aw.mpr (.inr (r2 j row bs (by omega) hr hbs i hi i0 i1))
  ·simp only[Bf,Bg,tri];omega
  ·rw[zH9,zKJ]
   have s1:GP 3 4 (.tup [.int k,t]) [.va (.tup [.int sure,.tup rows]),.ow (.lst (ps.map zC5)),.va zLV,x3,s4,s5,s6,s7,s8]=some (mst (.tup [.int sure,.tup rows]) ps k (.va t) s5 s6 s7 s8):=by simp[mst]
   have s2:zD0 (mst (.tup [.int sure,.tup rows]) ps k (.va t) s5 s6 s7 s8)=some (.nx (mst (.tup [.int sure,.tup rows]) (ps++qs1) k (.va t) t5 t6 t7 t8)):=by
    unfold zD0
    have hc:=zHC (ds:=rows) (k:=k)
    rw[zZI]
    have:zKD (fSl (f2 oIxA (fV 0) (fC (.int 1))) pNo (pSo (fV 3))) (mst (.tup [.int sure,.tup rows]) ps k (.va t) s5 s6 s7 s8)=some (enuD 0 (rows.take k),mst (.tup [.int sure,.tup rows]) ps k (.va t) s5 s6 s7 s8):=by simp[mst,hc]
    rw[this,qF_s]
    exact e
   rw[s1,zPV,s2,zPU]
   simp only[mst]
   rw[ih,Eb]
theorem zQ0: ∀ps:List (Int×Int),prsD (ps.map zC5)=some ps
 |[]=>rfl
 |p::ps=>by
  show(prD (zC5 p)).bind (fun q=>(prsD (ps.map zC5)).map fun qs=>q::qs)=_
  rw[zQ0 ps]
  rfl
theorem zSV(ps:List (Int×Int))(h64:ps.length<64): ∃qs:List (Int×Int),qs.Perm ps/\zQH (.lst (ps.map zC5))=some (.lst (qs.map zC5)):=by
 refine⟨(srtS ps).map fun i=>ps.getD i (0,0),?_,?_⟩
 ·have h := (zEW ps).map fun i => ps.getD i (0,0)
  refine h.trans ?_
  have:(Ao ps.length).map (fun i=>ps.getD i (0,0))=ps:=by
   refine List.ext_getElem (by simp) fun i h1 h2=> ?_
   simp at h1
   simp[h1]
  rw[this]
 ·show (if (ps.map zC5).length < 64 then (prsD (ps.map zC5)).bind fun qs => some (Dat.lst ((srtS qs).map fun i => (ps.map zC5).getD i Dat.non)) else none) = _
  rw[if_pos (by simpa using h64),zQ0,A7,Ki]
  congr 2
  refine G7 fun i hi=> ?_
  have:i<ps.length:=Be.mp ((zEW ps).mem_iff.mp hi)
  simp[this]
theorem zXD{sure:Int}{rows:List Dat}{kds:List Kd}(hb:Bl [] rows kds)(h40:rows.length<=10): ∃ps:List (Int×Int),Prs rows ps/\ps.length<=1600/\zCR [.tup [.int sure,.tup rows]]=some (.lst (ps.map zC5),[]):=by
 obtain⟨qs,t3,t4,t5,t6,t7,t8,q1,q2,q3,e⟩:=zV5 (sure:=sure) hb h40 rows 0 [] 0 .no .no .no .no .no .no (by simp) (by simp) (by simp;omega)
 simp only[Cs,D8,zLV] at e
 obtain⟨ps,hp,es⟩:=zSV qs (by have:=yD3 h40;omega)
 refine⟨ps,⟨fun p h=>q1 p (hp.mem_iff.mp h),fun j row as h1 h2 i hi i0 i1=>hp.mem_iff.mpr (q2 j row as (by omega) h1 h2 i hi i0 i1)⟩,by rw[hp.length_eq];omega,?_⟩
 unfold zCR
 rw[zAX,zFP.eq_1]
 simp[envD,e,es]
theorem zGK(nn:Nat)(tb:VB)(p:Dat->Bool)(fe:VF)(f:Dat->Dat)(δ:Ev)(hδ:δ.length=nn): ∀(ds acc:List Dat),(∀d∈ds,∃a b,d= .tup [a,b]/\tb (δ++[Sl.va a,Sl.va b])=some (p d,δ++[Sl.va a,Sl.va b])/\(p d=true->fe (δ++[Sl.va a,Sl.va b])=some (f d,δ++[Sl.va a,Sl.va b])))->acc.length+ds.length<16777216->zBX nn 2 (GP nn (nn+1)) tb fe ds acc δ=some (acc++(ds.filter p).map f,δ)
 | [],acc,_,_ => by simp
 | d :: ds,acc,h,hl => by
  obtain⟨a,b,rfl,h1,h2⟩:=h d Ak
  have du:GP nn (nn+1) (.tup [a,b]) (δ++[Sl.no,Sl.no])=some (δ++[Sl.va a,Sl.va b]):=by
   have e1:(δ++[Sl.no,Sl.no]).set nn (.va a)=δ++[Sl.va a,Sl.no]:=by
    rw[E6 _ _ (by omega)]
    simp[hδ]
   have e2:(δ++[Sl.va a,Sl.no]).set (nn+1) (.va b)=δ++[Sl.va a,Sl.va b]:=by
    rw[E6 _ _ (by omega),hδ,show nn+1 - nn=1 by omega]
    rfl
   simp[e1,e2]
  have ar:(δ++[Sl.va a,Sl.va b]).take nn=δ:=by rw[Cd (by omega),Bq (by omega)]
  have au:acc.length<16777216:=by simp at hl;omega
  cases hp:p (.tup [a,b]) with
  |true=>
   have ih:=zGK nn tb p fe f δ hδ ds (acc++[f (.tup [a,b])]) (fun e he=>h e (Ag _ he)) (by simp at hl⊢;omega)
   have h2:=h2 hp
   rw[hp] at h1
   simp only[zHD,yBM,du,zPT,h1,zWD,h2,zWC,if_pos au,ar,ih]
   simp[hp]
  |false=>
   have ih:=zGK nn tb p fe f δ hδ ds acc (fun e he=>h e (Ag _ he)) (by simp at hl⊢;omega)
   rw[hp] at h1
   simp only[zHD,yBM,du,zPT,h1,zZV,ar,ih]
   simp[hp]
noncomputable def ost(ns:List Int)(n:Nat)(blk:Dat)(ps:List (Int×Int))(left made:List Int)(s6:Sl):Ev:=
 [.va (Scp ns),.ow (Twn n),.va blk,.va (.lst (ps.map zC5)),.ow (.lst (left.map .int)),.ow (.lst (made.map .int)),s6]
noncomputable def pw(left:List Int)(r:Int):Dat->Bool
 | .tup [.int a,.int b]=>decide (b=r) && inE (.int a) (left.map .int)
 |_=>false
theorem zLR{i:Int}: ∀{as:List Int},inE (.int i) (as.map .int)=true↔i∈as
 |[]=>by simp
 |a::as=>by
  rw[An,zXR,Ew,yCC,decide_eq_true_eq,zLR (as:=as),Ac]
  exact⟨fun h=>h.imp Eq.symm id,fun h=>h.imp Eq.symm id⟩
theorem zVQ(ps:List (Int×Int))(left:List Int)(r:Int)(hp:ps.length<16777216):
  zBX 2 2 (GP 2 3) (bAnd (fB (f2 oEq (fV 3) (fV 1))) (fB (f2 (oInD false) (fV 2) (fO 0)))) (fC (.int 1)) (ps.map zC5) [] [.ow (.lst (left.map .int)),.va (.int r)]=some (((ps.map zC5).filter (pw left r)).map fun _=> .int 1,[.ow (.lst (left.map .int)),.va (.int r)]):=by
 have hin: ∀a:Int,oInD false (.int a) (.lst (left.map .int))=some (.bl (inE (.int a) (left.map .int))):=fun a=>by
  rw[zMS (j:=0) (k:=0) zD6 (zF3 left)]
  simp
 have:=zGK 2 (bAnd (fB (f2 oEq (fV 3) (fV 1))) (fB (f2 (oInD false) (fV 2) (fO 0)))) (pw left r) (fC (.int 1)) (fun _=> .int 1) [.ow (.lst (left.map .int)),.va (.int r)] rfl (ps.map zC5) [] (fun d hd=>by
  obtain⟨⟨a,b⟩,_,rfl⟩:=C3.mp hd
  refine⟨.int a,.int b,rfl,?_,fun _=>by simp⟩
  have hi:=hin a
  have hpw:pw left r (zC5 (a,b))=(decide (b=r) && inE (.int a) (left.map .int)):=rfl
  rw[hpw]
  generalize left.map Dat.int=L at*
  by_cases hb:b=r
  ·simp[hb,hi]
  ·simp[hb]) (by simpa using hp)
 simpa using this
theorem zRH{ds:List Dat}:eqD (.lst ds) (.lst [])=ds.isEmpty:=by cases ds<;>rfl
noncomputable def rdD(ps:List (Int×Int))(left:List Int):Dat->Bool
 | .int r=>((ps.map zC5).filter (pw left r)).isEmpty
 |_=>false
theorem zHQ{x:Int}: ∀{ns:List Int},x∈ns-> ∃j,posI x ns=some j/\ns.eraseIdx j=ns.erase x
 | i :: ns,h => by
  unfold posI
  by_cases e:i=x
  ·rw [if_pos e];exact ⟨0,rfl,by simp [e]⟩
  ·rw[if_neg e]
   obtain⟨j,h1,h2⟩:=zHQ (ns:=ns) (by
    rcases Ac.mp h with z|z
    ·exact absurd z.symm e
    ·exact z)
   refine⟨j+1,by rw[h1];rfl,?_⟩
   rw[List.eraseIdx_cons_succ,h2,List.erase_cons_tail (by simpa using e)]
theorem zXG{x:Int}{ns:List Int}(h:x∈ns):mRem (ns.map .int) [.int x]=some ((ns.erase x).map .int):=by
 obtain⟨j,h1,h2⟩:=zHQ h
 show(zF4 (ns.map .int)).bind (fun ns=>(posI x ns).map fun j=>(ns.eraseIdx j).map Dat.int)=_
 rw[zH3,A7,h1,Lu,h2]
theorem zPN{ps:List (Int×Int)}{left:List Int}{r:Int}:rdD ps left (.int r)=true↔ ∀p∈ps,p.2=r->p.1∉left:=by
 show((ps.map zC5).filter (pw left r)).isEmpty=true↔_
 rw[Kn,List.filter_eq_nil_iff]
 constructor
 ·intro h p hp he hl
  have:=h (zC5 p) (C3.mpr ⟨p,hp,rfl⟩)
  refine this ?_
  show(decide (p.2=r) && inE (.int p.1) (left.map .int))=true
  rw[zLR.mpr hl,he]
  simp
 ·intro h d hd z
  obtain⟨p,hp,rfl⟩:=C3.mp hd
  have z:(decide (p.2=r) && inE (.int p.1) (left.map .int))=true:=z
  rw[A3,decide_eq_true_eq,zLR] at z
  exact h p hp z.1 z.2
theorem zT1(ps:List (Int×Int))(left:List Int)(hp:ps.length<16777216)(hll:left.length<16777216):
  zBX 2 1 (gN 2) (fB (f2 oEq (zC8 [1,2] 2 (iSeq (fV 0)) (gTp 2 (zB2 (gN 2) (zB2 (gN 3) zDV))) (bAnd (fB (f2 oEq (fV 3) (fV 1))) (fB (f2 (oInD false) (fV 2) (fO 0)))) (fC (.int 1))) (fLst fNil))) (fV 2) (left.map .int) [] [.va (.lst (ps.map zC5)),.ow (.lst (left.map .int))]=some ((left.filter fun r=>rdD ps left (.int r)).map .int,[.va (.lst (ps.map zC5)),.ow (.lst (left.map .int))]):=by
 have:=zIT 2 (fB (f2 oEq (zC8 [1,2] 2 (iSeq (fV 0)) (gTp 2 (zB2 (gN 2) (zB2 (gN 3) zDV))) (bAnd (fB (f2 oEq (fV 3) (fV 1))) (fB (f2 (oInD false) (fV 2) (fO 0)))) (fC (.int 1))) (fLst fNil))) (rdD ps left) (fV 2) id [.va (.lst (ps.map zC5)),.ow (.lst (left.map .int))] rfl (left.map .int) [] (fun d hd=>by
  obtain⟨r,_,rfl⟩:=C3.mp hd
  refine⟨?_,fun _=>by simp⟩
  have w:=zVQ ps left r hp
  have hq:oEq (.lst (((ps.map zC5).filter (pw left r)).map fun _=>Dat.int 1)) (.lst [])=some (.bl (rdD ps left (.int r))):=by
   rw[yF3 (j:=1) (k:=1) (zDG fun d hd=>by
    obtain⟨_,_,rfl⟩:=C3.mp hd
    exact zD6) (zDG zD5),zRH,List.isEmpty_map]
   rfl
  generalize ((ps.map zC5).filter (pw left r)).map (fun _=>Dat.int 1)=W at*
  generalize rdD ps left (.int r)=B at*
  generalize left.map Dat.int=L at*
  generalize ps.map zC5=Q at*
  simp[zB9,w,hq]) (by simpa using hll)
 rw[this,List.filter_map]
 simp[Function.comp_def]
theorem zWU(ns:List Int)(n:Nat)(blk:Dat)(ps:List (Int×Int))(left made:List Int)(s6:Sl)(hl:ns.length<=63)(hn:n<800000)(hne:left≠[])(hs:left.Pairwise (· < ·))(hlt: ∀p∈ps,p.1<p.2)(hll:left.length<1000)(hml:made.length<1000)(hpl:ps.length<10000):
  ∃x∈left,(∀p∈ps,p.2=x->p.1∉left)/\ ∃s6',zBK (ost ns n blk ps left made s6)=some (.nx (ost ns (n+1) blk ps (left.erase x) (made++[x]) s6')):=by
 have hr:=zT1 ps left (by omega) (by omega)
 have h0:0<((left.filter fun r=>rdD ps left (.int r)).map Dat.int).length:=by
  match left,hne,hs with
  |a::t,_,hs=>
   have:a∈((a::t).filter fun r=>rdD ps (a::t) (.int r)):=by
    refine Em.mpr ⟨Ak,zPN.mpr fun p hp he hi=> ?_⟩
    have h1:=hlt p hp
    rw[he] at h1
    rcases Ac.mp hi with z|z
    ·omega
    ·have:=(List.pairwise_cons.mp hs).1 _ z
     omega
   rw[Bo]
   exact List.length_pos_of_mem this
 obtain⟨d,hd,ed⟩:=zDF ns n ((left.filter fun r=>rdD ps left (.int r)).map .int) hl (by omega) h0
 obtain⟨x,hx,rfl⟩:=C3.mp hd
 obtain⟨hx1,hx2⟩:=Em.mp hx
 have hm:=zXG hx1
 have hla:=zGL (made.map Dat.int) (.int x)
 have oz:made.length<16777216:=by omega
 refine⟨x,hx1,zPN.mp hx2,.va (.lst ((left.filter fun r=>rdD ps left (.int r)).map .int)),?_⟩
 unfold zBK
 simp only[ost,Ey,An,Cs]
 generalize (left.filter fun r=>rdD ps left (.int r)).map Dat.int=R at*
 generalize (left.erase x).map Dat.int=E at*
 generalize left.map Dat.int=L at*
 generalize ps.map zC5=Q at*
 have ou:(made.map Dat.int).length<16777216:=by simpa using oz
 generalize made.map Dat.int=D at*
 simp[zB9,hr,ed,hm,hla,ou]
theorem zQB(ns:List Int)(blk:Dat)(ps:List (Int×Int))(hl:ns.length<=63)(hlt: ∀p∈ps,p.1<p.2)(hpl:ps.length<10000): ∀(f n:Nat) (left made:List Int) (s6:Sl),left.length=f->n+f<700000->left.Pairwise (· < ·)->made.length+left.length<1000->(∀p∈ps,p.1∈made∨p.1∈left)->(∀p∈ps,∀k:Nat,made[k]? =some p.2->p.1∈made.take k)→
  ∃(order:List Int) (s6':Sl),order.Perm (made++left)/\(∀p∈ps,∀k:Nat,order[k]? =some p.2->p.1∈order.take k)/\zBG (fB (f2 oNe (fO 4) (fLst fNil))) zBK (f+1) (ost ns n blk ps left made s6)=some (.nx (ost ns (n+f) blk ps [] order s6'))
 | 0,n,left,made,s6,hf,hn,hs,hm,h1,h2 => by
  have:left=[]:=Dz.mp hf
  subst this
  refine⟨made,s6,by simp,h2,zI2 ?_⟩
  have e:oNe (.lst []) (.lst [])=some (.bl false):=by
   rw[zX4 (j:=1) (k:=1) (zDG zD5) (zDG zD5),zRH]
   rfl
  simp[ost,e]
 | f + 1,n,left,made,s6,hf,hn,hs,hm,h1,h2 => by
  have hne:left≠[]:=fun z=>by rw[z] at hf;simp at hf
  obtain⟨x,hx,hp,u6,e1⟩:=zWU ns n blk ps left made s6 hl (by omega) hne hs hlt (by omega) (by omega) hpl
  have hle:=List.length_erase_of_mem hx
  obtain⟨order,s6',o1,o2,e2⟩:=zQB ns blk ps hl hlt hpl f (n+1) (left.erase x) (made++[x]) u6 (by omega) (by omega) (hs.sublist (List.erase_sublist)) (by simp;omega) (fun p hp'=>by
   rcases h1 p hp' with z|z
   ·exact .inl (Aw.mpr (.inl z))
   ·by_cases hxx:p.1=x
    ·exact .inl (by simp[hxx])
    ·exact .inr ((List.mem_erase_of_ne hxx).mpr z)) (fun p hp' k hk=>by
   by_cases hkl:k<made.length
   ·rw[A6 hkl] at hk
    rw[Cd (by omega)]
    exact h2 p hp' k hk
   ·have im:=(A5.mp hk).1
    simp at im
    have:k=made.length:=by omega
    subst this
    simp at hk
    have hnl:=hp p hp' hk.symm
    rw[Ly]
    exact(h1 p hp').resolve_right hnl)
  refine⟨order,s6',?_,o2,?_⟩
  ·refine o1.trans ?_
   rw[Eb,List.singleton_append]
   exact(List.perm_cons_erase hx).symm.append_left made
  ·have e:oNe (.lst (left.map .int)) (.lst [])=some (.bl true):=by
    rw[zX4 (j:=1) (k:=1) (zDG (zF3 left)) (zDG zD5),zRH]
    cases left with
    |nil=>exact absurd rfl hne
    |cons=>rfl
   rw[zM5 (δ1:=ost ns n blk ps left made s6) (by simp[ost,e]) e1,e2,show n+1+f=n+(f+1) by omega]
theorem zRB{f:VF}{δ δ1:Ev}{j:Int}(h:f δ=some (.int j,δ1))(h0:0<=j)(h1:j<=16777216):zFU f δ=some (.lst (rngD 0 j.toNat),δ1):=by
 unfold zFU
 rw[h,A7]
 exact if_pos ⟨h0,h1⟩
noncomputable def rgI(k:Nat):List Int:=(Ao k).map fun i:Nat=>(i:Int)
theorem zW9(k:Nat):rngD 0 k=(rgI k).map .int:=by simp[rngD,rgI]
theorem zPI{k:Nat}{a:Int}:a∈rgI k↔0<=a/\a<k:=by
 unfold rgI
 rw[C3]
 constructor
 ·rintro ⟨i,hi,rfl⟩
  have:=Be.mp hi
  omega
 ·rintro ⟨h0,h1⟩
  exact⟨a.toNat,Be.mpr (by omega),by omega⟩
theorem zPJ(k:Nat):(rgI k).Pairwise (· < ·):=Hb _ (fun a b h=>by omega) (List.pairwise_lt_range)
theorem zLC(k:Nat):(rgI k).length=k:=by simp[rgI]
theorem zTI(ns:List Int)(n:Nat){sure:Int}{rows:List Dat}{kds:List Kd}(hl:ns.length<=63)(hn:n<500000)(hb:Bl [] rows kds)(h40:rows.length<=10):
  ∃(ps:List (Int×Int)) (order:List Int),Prs rows ps/\order.Perm (rgI rows.length)/\(∀p∈ps,∀k:Nat,order[k]? =some p.2->p.1∈order.take k)/\zB5 [Scp ns,Twn n,.tup [.int sure,.tup rows]]=some (.lst (order.map .int),[Twn (n+rows.length)]):=by
 obtain⟨ps,P,hpl,em⟩:=zXD (sure:=sure) hb h40
 obtain⟨order,s6,o1,o2,e⟩:=zQB ns (.tup [.int sure,.tup rows]) ps hl (fun p hp=>(P.lt p hp).2.1) (by omega) rows.length n (rgI rows.length) [] .no (zLC _) (by omega) (zPJ _) (by simp[zLC];omega) (fun p hp=> .inr (zPI.mpr ⟨(P.lt p hp).1,by have:=P.lt p hp;omega⟩)) (fun p hp k hk=>by simp at hk)
 refine⟨ps,order,P,by simpa using o1,o2,?_⟩
 have e:=zJP e
 simp only[ost,Cs] at e
 have er:zFU (f1 oLen (f2 oIxA (fV 2) (fC (.int 1)))) [.va (Scp ns),.ow (Twn n),.va (.tup [.int sure,.tup rows]),.no,.no,.no,.no]=some (.lst ((rgI rows.length).map .int),[.va (Scp ns),.ow (Twn n),.va (.tup [.int sure,.tup rows]),.no,.no,.no,.no]):=by
  rw[<- zW9,zRB (j:=(rows.length:Int)) (δ1:=[.va (Scp ns),.ow (Twn n),.va (.tup [.int sure,.tup rows]),.no,.no,.no,.no]) (by simp) (by omega) (by omega)]
  simp
 unfold zB5
 rw[zAX,zCA.eq_1]
 generalize (rgI rows.length).map Dat.int=L at*
 generalize order.map Dat.int=O at*
 generalize ps.map zC5=Q at*
 simp[envD,em,er,e]
theorem zBU.strong{M:Int->Prop}{row:Dat}(h:zBU M row): ∃as:List Int,(∀a∈as,M a)/\zBU (· ∈as) row/\zBE [row]=some (.lst (as.map .int),[]):=by
 cases h with
 | @number n h0 h1=>exact⟨[],(fun _ h=>nomatch h),.number h0 h1,by kernel_rfl⟩
 | @two x a b hx ha hb=>
  refine⟨[a,b],by simp[ha,hb],.two hx (by simp) (by simp),?_⟩
  simp only[Ac,Am,or_false] at hx
  rcases hx with rfl|rfl|rfl|rfl|rfl|rfl|rfl<;>kernel_rfl
 | @pick c a b hc ha hb=>exact⟨[c,a,b],by simp[hc,ha,hb],.pick (by simp) (by simp) (by simp),by kernel_rfl⟩
 | @load p h0 h1=>exact⟨[],(fun _ h=>nomatch h),.load h0 h1,by kernel_rfl⟩
 | @take p c a h0 h1 hc ha=>exact⟨[c,a],by simp[hc,ha],.take h0 h1 (by simp) (by simp),by kernel_rfl⟩
 | @store p a h0 h1 ha=>exact⟨[a],by simp[ha],.store h0 h1 (by simp),by kernel_rfl⟩
 | @put p a c h0 h1 ha hc=>exact⟨[a,c],by simp[ha,hc],.put h0 h1 (by simp) (by simp),by kernel_rfl⟩
theorem zNP{as:List Int}{row:Dat}(h:zBU (· ∈as) row){ks:List Key}{vs:List Dat}(μ:Int->Int)(hk: ∀a∈as,zBI ks vs (.inl a)=some (.int (μ a))):
  ∃b9,zAL [row,.dct ks vs]=some (b9,[])/\zBU (fun b=> ∃a∈as,b=μ a) b9/\mk1 .w b9=mk1 .w row:=by
 cases h with
 | @number n h0 h1=>
  refine⟨_,?_,.number h0 h1,rfl⟩
  unfold zAL
  rw[zAX]
  unfold zB3
  simp[envD]
 | @two x a b hx ha hb=>
  have z0:=(dne hx (y:= "number") (by decide)).1
  have z1:=(dne hx (y:= "load") (by decide)).2
  have z2:=(dne hx (y:= "take") (by decide)).2
  have z3:=(dne hx (y:= "store") (by decide)).2
  have z4:=(dne hx (y:= "put") (by decide)).2
  refine⟨.tup [.str x,.int (μ a),.int (μ b)],?_,.two hx ⟨a,ha,rfl⟩ ⟨b,hb,rfl⟩,?_⟩
  ·unfold zAL
   rw[zAX]
   unfold zB3
   simp[envD,z0,z1,z2,z3,z4,zB9,hk a ha,hk b hb]
  ·simp only[Ac,Am,or_false] at hx
   rcases hx with rfl|rfl|rfl|rfl|rfl|rfl|rfl<;>rfl
 | @pick c a b hc ha hb=>
  refine⟨.tup [.str "pick",.int (μ c),.int (μ a),.int (μ b)],?_,.pick ⟨c,hc,rfl⟩ ⟨a,ha,rfl⟩ ⟨b,hb,rfl⟩,rfl⟩
  unfold zAL
  rw[zAX]
  unfold zB3
  simp[envD,zB9,hk a ha,hk b hb,hk c hc]
 | @load p h0 h1=>
  refine⟨.tup [.str "load",.int p],?_,.load h0 h1,rfl⟩
  unfold zAL
  rw[zAX]
  unfold zB3
  simp[envD,zB9]
 | @take p c a h0 h1 hc ha=>
  refine⟨.tup [.str "take",.int p,.int (μ c),.int (μ a)],?_,.take h0 h1 ⟨c,hc,rfl⟩ ⟨a,ha,rfl⟩,rfl⟩
  unfold zAL
  rw[zAX]
  unfold zB3
  simp[envD,zB9,hk a ha,hk c hc]
 | @store p a h0 h1 ha=>
  refine⟨.tup [.str "store",.int p,.int (μ a)],?_,.store h0 h1 ⟨a,ha,rfl⟩,rfl⟩
  unfold zAL
  rw[zAX]
  unfold zB3
  simp[envD,zB9,hk a ha]
 | @put p a c h0 h1 ha hc=>
  refine⟨.tup [.str "put",.int p,.int (μ a),.int (μ c)],?_,.put h0 h1 ⟨a,ha,rfl⟩ ⟨c,hc,rfl⟩,rfl⟩
  unfold zAL
  rw[zAX]
  unfold zB3
  simp[envD,zB9,hk a ha,hk c hc]
theorem Bl.at{kds ag:List Kd}{rows:List Dat}(h:Bl kds rows ag): ∀{j:Nat} {row:Dat},rows[j]? =some row->zBU (fun a=>Nm ag .w a/\a<kds.length+j) row/\ag[kds.length+j]? =some (mk1 .w row)/\ ∀a,Nm kds .w a->Nm ag .w a:=by
 have keep: ∀{k k':List Kd} {rs:List Dat},Bl k rs k'-> ∀(i:Nat) (x:Kd),k[i]? =some x->k'[i]? =some x:=by
  intro k k' rs h
  induction h with
  |nil=>exact fun _ _ z=>z
  |cons _ _ ih=>exact fun i x z=>ih i x (by rw[A6 (A5.mp z).1];exact z)
 induction h with
 | nil => intro j row hr;simp at hr
 | @cons kds ag r rows a t ih=>
  intro j row hr
  cases j with
  |zero=>
   simp at hr
   subst hr
   refine⟨a.imp fun x hx=>⟨⟨hx.1,keep t _ _ (hx.snoc (j:=mk1 .w r)).2⟩,by have:=hx.lt;omega⟩,keep t _ _ (by simp),fun x hx=>⟨hx.1,keep t _ _ (hx.snoc (j:=mk1 .w r)).2⟩⟩
  |succ j=>
   obtain⟨h1,h2,h3⟩:=ih (by simpa using hr)
   rw[Bf,Fk] at h1 h2
   refine⟨h1.imp fun x hx=>⟨hx.1,by have:=hx.2;omega⟩,by rw[show kds.length+(j+1)=kds.length+1+j by omega];exact h2,fun x hx=>h3 x hx.snoc⟩
noncomputable def swD:Dat->Dat
 | .tup [a,b]=> .tup [b,a]
 |_=> .non
noncomputable def kvz:Nat->List Int->List (Key×Dat)
 |_,[]=>[]
 |k,x::xs=>(.inl x,.int (k:Int))::kvz (k+1) xs
theorem zMZ: ∀(xs:List Int) (k:Nat),zH0 ((enuD k (xs.map .int)).map swD)=some (kvz k xs)
 |[],_=>rfl
 |x::xs,k=>by
  rw[An,zH9,An]
  show(kprD (.tup [.int x,.int (k:Int)])).bind (fun p=>(zH0 ((enuD (k+1) (xs.map .int)).map swD)).map fun ps=>p::ps)=_
  rw[zMZ xs (k+1)]
  rfl
theorem zIH: ∀(xs:List Int) (k:Nat),(kvz k xs).map Ca=xs.map .inl
 |[],_=>rfl
 |x::xs,k=>by rw[kvz,An,zIH xs (k+1)];rfl
theorem zQW: ∀(xs:List Int) (k i:Nat),i<xs.length->((kvz k xs).map Cy)[i]? =some (.int ((k+i:Nat):Int))
 |[],_,i,h=>by simp at h
 |x::xs,k,0,_=>rfl
 |x::xs,k,i+1,h=>by
  have:=zQW xs (k+1) i (by simpa using h)
  rw[kvz,An,List.getElem?_cons_succ,this]
  congr 3
  omega
theorem zTS{order:List Int}(nd:order.Nodup){a:Int}(ha:a∈order):zBI ((kvz 0 order).map Ca) ((kvz 0 order).map Cy) (.inl a)=some (.int (order.idxOf a:Int)):=by
 have hi:order.idxOf a<order.length:=Gd ha
 rw[zMW _ _ (order.idxOf a) (.inl a) ?_ (by simp) ?_,zQW _ _ _ hi]
 ·simp
 ·rw[zIH]
  exact Hb _ (fun a b h e=>h (by injection e)) nd
 ·rw[zIH,C8,C0 hi,Js hi]
  rfl
noncomputable def zGB(rows:List Dat)(r:Int):Dat:=(rows[r.toNat]?).getD .non
noncomputable def renD(rows:List Dat)(names:Dat):Dat->Dat
 | .int r=>match zAL [zGB rows r,names] with
  |some (d,_)=>d
  |none=> .non
 |_=> .non
theorem zPM{rows os:List Dat}{names b9:Dat}{r:Int}(e:zAL [zGB rows r,names]=some (b9,os)):renD rows names (.int r)=b9:=by simp only[renD,e]
noncomputable def dctO(order:List Int):Dat:= .dct ((kvz 0 order).map Ca) ((kvz 0 order).map Cy)
theorem zZM{rows:List Dat}{kds:List Kd}(hb:Bl [] rows kds){ps:List (Int×Int)}(P:Prs rows ps){order:List Int}(o1:order.Perm (rgI rows.length))(o2: ∀p∈ps,∀k:Nat,order[k]? =some p.2->p.1∈order.take k){pre rest:List Int}{r:Int}(ho:order=pre++r::rest):
  ∃b9,zAL [zGB rows r,dctO order]=some (b9,[])/\atI rows r=some (zGB rows r)/\zBU (Nm (pre.map fun a=>mk1 .w (zGB rows a)) .w) b9/\mk1 .w b9=mk1 .w (zGB rows r):=by
 have nd:order.Nodup:=o1.nodup_iff.mpr ((zPJ _).imp fun h=>by omega)
 have hr:r∈order:=by rw[ho];simp
 have hr2:=zPI.mp (o1.mem_iff.mp hr)
 have g9:rows[r.toNat]? =some (zGB rows r):=by
  unfold zGB
  rw[C0 (by omega)]
  rfl
 obtain⟨h1,h2,_⟩:=hb.at g9
 obtain⟨as,a1,a2,a3⟩:=h1.strong
 have cx: ∀a∈as,a∈pre:=fun a ha=>by
  have h3:=a1 a ha
  have h4:a<r:=by have:=h3.2;simp at this;omega
  have hp:=P.nm r.toNat _ as g9 a3 a ha h3.1.1 (by omega)
  have:=o2 _ hp pre.length (by rw[ho];simp;omega)
  rw[ho,Ly] at this
  exact this
 obtain⟨b9,e,ok,mk⟩:=zNP a2 (ks:=(kvz 0 order).map Ca) (vs:=(kvz 0 order).map Cy) (fun a=>(order.idxOf a:Int)) (fun a ha=>zTS nd (by rw[ho];exact Aw.mpr (.inl (cx a ha))))
 refine⟨b9,e,by rw[zG9 hr2.1 (by omega)];exact g9,ok.imp fun b hb'=> ?_,mk⟩
 obtain⟨a,ha,rfl⟩:=hb'
 have hap:=cx a ha
 have hi:pre.idxOf a<pre.length:=Gd hap
 have hio:order.idxOf a=pre.idxOf a:=by rw[ho,List.idxOf_append,if_pos hap]
 refine⟨by omega,?_⟩
 rw[hio,F6,C8,C0 hi,Js hi]
 have h3:=(a1 a ha).1
 have hlt:=h3.lt
 have aa:kds.length=rows.length:=by simpa using hb.len
 have mn:rows[a.toNat]? =some (zGB rows a):=by
  unfold zGB
  rw[C0 (by have:=h3.1;omega)]
  rfl
 obtain⟨_,h5,_⟩:=hb.at mn
 simp only[Ig,Ff] at h5
 have:=h3.2
 rw[h5] at this
 injection this with this
 rw[Lu,this]
theorem zUQ{rows:List Dat}{kds:List Kd}(hb:Bl [] rows kds){ps:List (Int×Int)}(P:Prs rows ps){order:List Int}(o1:order.Perm (rgI rows.length))(o2: ∀p∈ps,∀k:Nat,order[k]? =some p.2->p.1∈order.take k): ∀(rest pre:List Int),order=pre++rest->Bl (pre.map fun a=>mk1 .w (zGB rows a)) ((rest.map .int).map (renD rows (dctO order))) (order.map fun a=>mk1 .w (zGB rows a))
 |[],pre,ho=>by rw[ho,Bi];exact .nil
 |r::rest,pre,ho=>by
  obtain⟨b9,e,_,ok,mk⟩:=zZM hb P o1 o2 ho
  have er:=zPM e
  have ih:=zUQ hb P o1 o2 rest (pre++[r]) (by rw[ho,Eb];rfl)
  rw[An,An,er]
  refine .cons ok ?_
  rw[mk]
  simpa using ih
theorem zU7(ns:List Int)(n:Nat)(most:Int)(hl:ns.length<=63)(hn:n<100000)(h0:0<=most)(h40:most<=10):
  ∃(sure:Int) (rows:List Dat) (kds:List Kd) (n':Nat),Bl [] rows kds/\(rows.length:Int)<=most/\0<=sure/\sure<=64/\n'<=n+1000/\zBR [Scp ns,Twn n,.int most]=some (.tup [.int sure,.tup rows],[Twn n']):=by
 obtain⟨x,hx,ex⟩:=zDF ns n [.int 3,.int 6,.int 9,.int 64] hl (by omega) (by simp)
 obtain⟨a7,rfl,r0,r1⟩: ∃q:Int,x= .int q/\0<q/\q<=64:=by
  simp only[Ac,Am,or_false] at hx
  rcases hx with rfl|rfl|rfl|rfl<;>exact⟨_,rfl,by omega,by omega⟩
 have d1:=zDJ ns (n+1) (a7+1) hl (by omega) (by omega)
 have d1a:=zLS ns (n+1) (b:=a7+1) (by omega)
 have d1b:drw ns (n+1) (a7+1)<a7+1:=D2 _ (by omega)
 obtain⟨y,hy,ey⟩:=zDF ns (n+2) [.int 0,.int a7,.int a7,.int (drw ns (n+1) (a7+1))] hl (by omega) (by simp)
 obtain⟨sure,rfl,s0,s1⟩: ∃q:Int,y= .int q/\0<=q/\q<=64:=by
  simp only[Ac,Am,or_false] at hy
  rcases hy with rfl|rfl|rfl|rfl<;>exact⟨_,rfl,by omega,by omega⟩
 have d2:=zDJ ns (n+3) (most+1) hl (by omega) (by omega)
 have d2a:=zLS ns (n+3) (b:=most+1) (by omega)
 have d2b:drw ns (n+3) (most+1)<most+1:=D2 _ (by omega)
 obtain⟨rows,kds,n1,hb,aa,m1,m2,e1⟩:=zW8 ns (n+4) (drw ns (n+3) (most+1)) a7 hl (by omega) r0 r1 d2a (by omega)
 have d3:=zDJ ns n1 3 hl (by omega) (by decide)
 have hrl:rows.length<=10:=by omega
 by_cases h3:0<drw ns n1 3
 ·refine ⟨sure,rows,kds,n1 + 1,hb,by omega,s0,s1,by omega,?_⟩
  unfold zBR
  rw[zAX]
  unfold zDI
  simp[envD,ex,d1,ey,d2,e1,d3,h3]
 ·obtain ⟨ps,order,P,o1,o2,e2⟩ := zTI ns (n1 + 1) (sure := sure) hl (by omega) hb hrl
  have hol:order.length=rows.length:=by rw[o1.length_eq,zLC]
  have nd:order.Nodup:=o1.nodup_iff.mpr ((zPJ _).imp fun h=>by omega)
  have c1:=zGK 0 bYes (fun _=>true) (fTup (zA3 (fV 1) (zA3 (fV 0) fNil))) swD [] rfl (enuD 0 (order.map .int)) [] (fun d hd=>by
   obtain⟨i,hi,e⟩:=List.getElem_of_mem hd
   obtain⟨z,_,rfl⟩:=zIQ (A5.mpr ⟨hi,e⟩)
   exact⟨_,_,rfl,by simp,fun _=>by simp[swD]⟩) (by rw[zIP];simp;omega)
  have f1:(enuD 0 (order.map Dat.int)).filter (fun _=>true)=enuD 0 (order.map .int):=List.filter_eq_self.mpr fun _ _=>rfl
  rw[f1,D8] at c1
  have hd:zTN (.lst ((enuD 0 (order.map .int)).map swD))=some (dctO order):=by
   show(zH0 ((enuD 0 (order.map .int)).map swD)).bind (fun kds=>if(kds.map Ca).Nodup then some (Dat.dct (kds.map Ca) (kds.map Cy)) else none)=_
   rw[zMZ,A7,if_pos]
   ·rfl
   ·rw[zIH]
    exact Hb _ (fun a b h e=>h (by injection e)) nd
  have c2:=zIS 2 (zAF 2 [] zAL (aE (f2 oIxA (f2 oIxA (fV 0) (fC (.int 1))) (fV 2)) (aE (fV 1) aNil))) [.va (.tup [.int sure,.tup rows]),.va (dctO order)] (renD rows (dctO order)) rfl (order.map .int) [] (fun d hd=>by
   obtain⟨r,hr,rfl⟩:=C3.mp hd
   obtain⟨pre,rest,ho⟩:=List.append_of_mem hr
   obtain⟨b9,e,ea,_,_⟩:=zZM hb P o1 o2 ho
   have er:=zPM e
   rw[er]
   simp[ea,e]) (by simp;omega)
  rw[D8] at c2
  have B:=zUQ hb P o1 o2 order [] rfl
  refine⟨sure,(order.map .int).map (renD rows (dctO order)),_,n1+1+rows.length,B,by simp;omega,s0,s1,by omega,?_⟩
  have h3': ¬0<drw ns n1 3:=h3
  unfold zBR
  rw[zAX]
  unfold zDI
  have hln:((order.map Dat.int).map (renD rows (dctO order))).length<=16777216:=by simp;omega
  generalize (order.map Dat.int).map (renD rows (dctO order))=R at*
  generalize (enuD 0 (order.map Dat.int)).map swD=S at*
  generalize dctO order=D at*
  simp[envD,ex,d1,ey,d2,e1,d3,h3',e2,zB9,c1,hd,c2]
noncomputable def isRf(k:Int):Option (Dat×List Dat)->Bool
 |some (.tup [.str "refused",.int j],[])=>j==k
 |_=>false
theorem zR1{k:Int}{r:Option (Dat×List Dat)}(h:isRf k r=true):r=some (.tup [.str "refused",.int k],[]):=by
 unfold isRf at h
 split at h
 ·rw[beq_iff_eq.mp h];rfl
 ·cases h
noncomputable def zNV:List Dat:=[.non,.int 5,.tup [],.tup [.int 0],.tup [.int 0,.lst []],.lst [.int 0,.tup []],.tup [.int (-1),.tup []],.tup [.int 65,.tup []],.tup [.bl true,.tup []],.tup [.str "0",.tup []],.tup [.int 0,.tup [],.tup []],.tup [.int 0,.tup [.tup []]],
 .tup [.int 0,.tup [.tup [.str "number"]]],.tup [.int 0,.tup [.tup [.str "number",.int 1000]]],.tup [.int 0,.tup [.tup [.str "plus",.int 0,.int 0]]],.tup [.int 0,.tup [.lst [.str "load",.int 0]]],
 .tup [.int 0,.tup [.tup [.str "load",.int 64]]],.tup [.int 0,.tup [.tup [.str "load",.int (-1)]]],.tup [.int 0,.tup [.tup [.str "halve",.int 0]]],.tup [.int 0,.tup [.tup [.int 5,.int 0]]],
 .tup [.int 0,.tup [.tup [.str "number",.int 1],.tup [.str "store",.int 0,.int 0],.tup [.str "plus",.int 0,.int 1]]],.tup [.int 0,.tup (Aa 41 (.tup [.str "number",.int 1]))],
 .tup [.int 0,.tup [.tup [.str "number",.int 1],.tup [.str "plus",.int 0,.int 1]]]]
theorem zNU:zNV.all (fun x=>isRf 0 (zAV [.int 0,x,.non]) && isRf 0 (zAV [.int 1,x,.non]))=true:=by kernel_rfl
theorem zX8(a b:Dat):zFO [.va a,.ow b,.no]=sRet (zAF 3 [1] zAM (aE (fV 0) (aO 1 (aE (fV 2) aNil)))) [.va a,.ow b,.va (.lst zNV)]:=by kernel_rfl
theorem zQK(ns:List Int)(n:Nat)(hl:ns.length<=63)(hn:n<900000): ∃x∈zNV,zCB [Scp ns,Twn n]=some (x,[Twn (n+1)]):=by
 obtain⟨x,hx,ex⟩:=zDF ns n zNV hl hn (by simp[zNV])
 refine⟨x,hx,?_⟩
 unfold zCB
 rw[zAX,show envD [1] 3 [Scp ns,Twn n]=[.va (Scp ns),.ow (Twn n),.no] from rfl,zX8]
 simp[ex]
theorem zN9{x:Dat}(hx:x∈zNV):zAV [.int 0,x,.non]=some (.tup [.str "refused",.int 0],[])/\zAV [.int 1,x,.non]=some (.tup [.str "refused",.int 0],[]):=by
 have:=Br.mp zNU x hx
 obtain⟨h1,h2⟩:=(A3 _ _).mp this
 exact⟨zR1 h1,zR1 h2⟩
noncomputable def isW:Kd->Bool
 | .w=>true
 |_=>false
theorem yGE{kds:List Kd}{a:Int}(h:Nm kds .w a):Ab (kds.map isW) a:=⟨h.1,by rw[C8,h.2];rfl⟩
theorem mkw{x:String}{t:List Dat}:zC3 [.tup (.str x::t)]=some (.bl (isW (mk1 .w (.tup (.str x::t)))),[]):=by
 unfold zC3;rw[zAX];unfold zDW
 by_cases h:x= "store"
 ·subst h
  simp[envD,zCU,mk1,zCJ,isW]
 ·by_cases h2:x= "put"
  ·subst h2
   simp[envD,zCU,mk1,zCJ,isW]
  ·have h3 : ¬ "store" = x := fun z => h z.symm
   have h4: ¬ "put"=x:=fun z=>h2 z.symm
   simp[envD,zCU,mk1,zCJ,isW,h,h2,h3,h4]
theorem zU8(blk rws:Dat)(sure:Int){kds ag:List Kd}{rows:List Dat}(h:Bl kds rows ag):kds.length+rows.length<1000-> ∀s:Sl,∃s',forV (gN 4) zD2 rows [.va blk,.va (.int sure),.va rws,.ow (.lst ((kds.map isW).map .bl)),s]=some (.nx [.va blk,.va (.int sure),.va rws,.ow (.lst ((ag.map isW).map .bl)),s']):=by
 induction h with
 | nil => exact fun _ s => ⟨s,by simp⟩
 | @cons kds ag row rows ok h ih=>
  intro hk s
  obtain⟨s',ih⟩:=ih (by simp at hk⊢;omega) (.va row)
  refine⟨s',?_⟩
  have e:=zTV (ok.imp fun a=>yGE)
  obtain⟨x,t,rfl,_⟩:=zGF ok
  have hk':kds.length<16777216:=by simp at hk;omega
  rw[Ey,Ey] at ih
  simp only[An,Cs] at ih
  rw[zKJ,gN_e,zPV]
  have b1:zD2 [.va blk,.va (.int sure),.va rws,.ow (.lst ((kds.map isW).map .bl)),.va (.tup (.str x::t))]=some (.nx [.va blk,.va (.int sure),.va rws,.ow (.lst ((kds.map isW).map .bl++[.bl (isW (mk1 .w (.tup (.str x::t))))])),.va (.tup (.str x::t))]):=by
   unfold zD2
   simp only[Ki] at e
   simp[e,mkw,hk',Dat.hard]
  have s1:([.va blk,.va (.int sure),.va rws,.ow (.lst ((kds.map isW).map .bl)),s]:Ev).set 4 (.va (.tup (.str x::t)))=[.va blk,.va (.int sure),.va rws,.ow (.lst ((kds.map isW).map .bl)),.va (.tup (.str x::t))]:=rfl
  rw[s1,b1,zPU]
  exact ih
theorem zO4{sure:Int}{rows:List Dat}{kds:List Kd}(h:Bl [] rows kds)(s0:0<=sure)(s1:sure<=64)(r40:rows.length<=40):zBM [.tup [.int sure,.tup rows]]=some (.bl true,[]):=by
 obtain⟨s',e1⟩:=zU8 (.tup [.int sure,.tup rows]) (.tup rows) sure h (by simp;omega) .no
 simp only[Cs] at e1
 have h40: ¬(40:Int)<(rows.length:Int):=by omega
 unfold zBM
 rw[zAX,zFT.eq_1]
 simp[envD,zEO,zEP,s0,s1,h40,e1]
noncomputable def isNo:Option (Dat×List Dat)->Bool
 |some (.bl false,[])=>true
 |_=>false
theorem zLQ{r:Option (Dat×List Dat)}(h:isNo r=true):r=some (.bl false,[]):=by
 unfold isNo at h
 split at h
 ·rfl
 ·cases h
noncomputable def badL:List Dat:=[.non,.int 5,.tup [.int 1,.int 2],.str "12",.lst (Aa 65 (.int 0))]
noncomputable def badR:List (List Dat):=[Aa 64 (.int 1000),Aa 64 (.int (-1)),Aa 64 (.bl true),Aa 64 (.str "1"),Aa 63 (.int 0)++[.non],Aa 64 (.lst [.int 0])]
theorem zY6:badR.all (fun ds=>isNo (zAR [.lst ds,.int 64]))=true:=by kernel_rfl
theorem zS2:(Ao 65).all (fun s=>badL.all (fun x=>isNo (zAR [x,.int s])) && isNo (zAR [.lst (Aa s (.int 0)),.int ((s:Int)+1)]))=true:=by kernel_rfl
theorem zGM:zCV [.exn "NoCells"]=some (.tup [.str "refused",.int 1],[]):=by kernel_rfl
theorem zO9{ds:List Dat}(hd:ds∈badR){sure:Int}(s1:sure<=64):zAR [.lst ds,.int sure]=some (.bl false,[]):=by
 have e:=zLQ (Br.mp zY6 ds hd)
 have hl:ds.length=64:=by
  simp only[badR,Ac,Am,or_false] at hd
  rcases hd with rfl|rfl|rfl|rfl|rfl|rfl<;>simp
 rw[<- e]
 unfold zAR
 rw[zAX,zAX]
 unfold zFS
 simp[envD,zDY,hl,s1]
 rw[show zB9 [] [Sl.va (Dat.lst ds),Sl.va (Dat.int sure)]=zB9 [] [Sl.va (Dat.lst ds),Sl.va (Dat.int 64)] from rfl]
 generalize zBX 0 1 (gN 0) bYes (zAF 3 [] zB1 (aE (fV 0) (aE (fC (Dat.int 0)) (aE (fC zBQ) aNil)))) ds [] (zB9 [] [Sl.va (Dat.lst ds),Sl.va (Dat.int 64)])=c
 rcases c with _|⟨a,b⟩
 ·rfl
 ·show qRun [] (qRet ((oAll (.lst a)).map fun z => (z,_))) = qRun [] (qRet ((oAll (.lst a)).map fun z => (z,_)))
  cases oAll (.lst a)<;>rfl
theorem zL6{d:Dat}(hd:d∈badL){sure:Int}(s0:0<=sure)(s1:sure<=64):zAR [d,.int sure]=some (.bl false,[]):=by
 have:=Br.mp zS2 sure.toNat (Be.mpr (by omega))
 have:=Br.mp ((A3 _ _).mp this).1 d hd
 rw[Ga s0] at this
 exact zLQ this
theorem zU9{sure:Int}(s0:0<sure)(s1:sure<=64):zAR [.lst (Aa (sure - 1).toNat (.int 0)),.int sure]=some (.bl false,[]):=by
 have:=Br.mp zS2 (sure - 1).toNat (Be.mpr (by omega))
 have:=((A3 _ _).mp this).2
 rw[Ga (by omega),show sure - 1+1=sure by omega] at this
 exact zLQ this
theorem zZW{δ:Ev}:qcr δ none=none:=(rfl)
theorem zUV:qRet none=none:=(rfl)
theorem pl2{a b:Dat}:zEJ [.d a,.d b]=some [a,b]:=(rfl)
section
variable{blk d:Dat}{sure:Int}{rows:List Dat}(hb:zBM [.tup [.int sure,.tup rows]]=some (.bl true,[]))(hc:zAR [d,.int sure]=some (.bl false,[]))
include hb hc
theorem zRR:zBF [.tup [.int sure,.tup rows],d]=none/\zBD [.tup [.int sure,.tup rows],d]=some ("NoCells":Str):=by
 constructor
 ·unfold zBF
  rw[zAX]
  unfold zEN
  simp[envD,hb,hc]
  rfl
 ·unfold zBD runZ zEF
  simp[envD,hb,hc,zAlt,zIf,zSeq,zNo]
theorem zY9:zAV [.int 0,.tup [.int sure,.tup rows],d]=some (.tup [.str "refused",.int 1],[])/\zAV [.int 1,.tup [.int sure,.tup rows],d]=some (.tup [.str "refused",.int 1],[]):=by
 obtain⟨h1,h2⟩:=zRR hb hc
 have r1:zOD [.tup [.int sure,.tup rows],d]=none:=by
  unfold zOD
  rw[zAX]
  unfold zXU
  simp[envD,h1]
  rfl
 have r2:zOB [.tup [.int sure,.tup rows],d]=some ("NoCells":Str):=by
  unfold zOB runZ zVO
  show((zBD [.tup [.int sure,.tup rows],d]).map fun x=>(x,_)).map (·.1)=_
  rw[h2]
  rfl
 have v1:zE7 [.tup [.int sure,.tup rows],d]=none:=by
  unfold zE7
  rw[zAX]
  unfold zIL
  simp[envD,h1]
  rfl
 have v2:zE6 [.tup [.int sure,.tup rows],d]=some ("NoCells":Str):=by
  unfold zE6 runZ zI1
  show((zBD [.tup [.int sure,.tup rows],d]).map fun x=>(x,_)).map (·.1)=_
  rw[h2]
  rfl
 constructor
 ·unfold zAV
  rw[zAX]
  unfold zF5
  simp[envD,sTry,zKL,zJ2,zI8,zGS,zJ3,zCJ,r1,r2,zGM,zZW,zUV,pl2]
 ·unfold zAV
  rw[zAX]
  unfold zF5
  simp[envD,sTry,zKL,zJ2,zI8,zGS,zJ3,zCJ,v1,v2,zGM,zZW,zUV,pl2]
end
noncomputable def zEH:List Dat:=[.non,.int 5,.tup [.int 1,.int 2],.str "12",.lst (Aa 64 (.int 1000)),.lst (Aa 64 (.int (-1))),.lst (Aa 64 (.bl true)),.lst (Aa 64 (.str "1")),.lst (Aa 65 (.int 0)),.lst (Aa 63 (.int 0)++[.non])]
noncomputable def zXI:Dat:= .lst (Aa 64 (.lst [.int 0]))
theorem zXH{sure:Int}(s1:sure<=64):zAR [zXI,.int sure]=some (.bl false,[]):=zO9 (by simp[badR]) s1
theorem zW5{d:Dat}{sure:Int}(hd:d∈zEH)(s0:0<=sure)(s1:sure<=64):zAR [d,.int sure]=some (.bl false,[]):=by
 simp only[zEH,Ac,Am,or_false] at hd
 rcases hd with rfl|rfl|rfl|rfl|rfl|rfl|rfl|rfl|rfl|rfl
 ·exact zL6 (by simp[badL]) s0 s1
 ·exact zL6 (by simp[badL]) s0 s1
 ·exact zL6 (by simp[badL]) s0 s1
 ·exact zL6 (by simp[badL]) s0 s1
 ·exact zO9 (by simp[badR]) s1
 ·exact zO9 (by simp[badR]) s1
 ·exact zO9 (by simp[badR]) s1
 ·exact zO9 (by simp[badR]) s1
 ·exact zL6 (by simp[badL]) s0 s1
 ·exact zO9 (by simp[badR]) s1
noncomputable def gl1:VS:=(sSet 1 (xO (fLst fNil)))
noncomputable def gl2:VS:=(sIf (fB (f2 oNe (zC8 [0,1] 1 (iR1 (fC (.int 2))) (gN 2) bYes (zAF 3 [] zAV (aE (fV 2) (aE (zAF 2 [1] zCB (aE (fV 0) (aO 1 aNil))) (aE (fC .non) aNil))))) (f2 zBW (fLst (zA3 (fTup (zA3 (fC (.str "refused")) (zA3 (fC (.int 0)) fNil))) fNil)) (fC (.int 2))))) (sRet (fC (.bl false))) sNil)
noncomputable def gl3:VS:=(sSet 2 (xV (zAF 3 [1] zBR (aE (fV 0) (aO 1 (aE (fC (.int 10)) aNil))))))
noncomputable def gl4:VS:=(sSet 3 (xV (fLst (zA3 (fC .non) (zA3 (fC (.int 5)) (zA3 (fTup (zA3 (fC (.int 1)) (zA3 (fC (.int 2)) fNil))) (zA3 (fC (.str "12")) (zA3 (f2 zBW (fLst (zA3 (fC (.int 1000)) fNil)) (fC (.int 64))) (zA3 (f2 zBW (fLst (zA3 (f1 oNeg (fC (.int 1))) fNil)) (fC (.int 64))) (zA3 (f2 zBW (fLst (zA3 (fC (.bl true)) fNil)) (fC (.int 64))) (zA3 (f2 zBW (fLst (zA3 (fC (.str "1")) fNil)) (fC (.int 64))) (zA3 (f2 zBW (fLst (zA3 (fC (.int 0)) fNil)) (fC (.int 65))) (zA3 (f2 zBL (f2 zBW (fLst (zA3 (fC (.int 0)) fNil)) (fC (.int 63))) (fLst (zA3 (fC .non) fNil))) fNil)))))))))))))
noncomputable def gl5:VS:=(sIf (fB (f2 oGt (f2 oIxA (fV 2) (fC (.int 0))) (fC (.int 0)))) (sSet 3 (xV (f2 zBL (fV 3) (f2 zBW (fLst (zA3 (f2 zBW (fLst (zA3 (fC (.int 0)) fNil)) (f2 oSub (f2 oIxA (fV 2) (fC (.int 0))) (fC (.int 1)))) fNil)) (fC (.int 6)))))) sNil)
noncomputable def gl6:VS:=(sSet 4 (xV (zAF 3 [1] zAM (aE (fV 0) (aO 1 (aE (f2 zBL (fV 3) (fLst (zA3 (f2 zBW (fLst (zA3 (fLst (zA3 (fC (.int 0)) fNil)) fNil)) (fC (.int 64))) fNil))) aNil))))))
noncomputable def gl7:VS:=(sIf (fB (f2 oNe (zC8 [2,4] 1 (iR1 (fC (.int 2))) (gN 2) bYes (zAF 3 [] zAV (aE (fV 2) (aE (fV 0) (aE (fV 1) aNil))))) (f2 zBW (fLst (zA3 (fTup (zA3 (fC (.str "refused")) (zA3 (fC (.int 1)) fNil))) fNil)) (fC (.int 2))))) (sRet (fC (.bl false))) sNil)
noncomputable def gl8:VS:=(sRet (fAnd (f2 oEq (zAF 3 [] zAV (aE (fC (.int 0)) (aE (fTup (zA3 (fC (.int 64)) (zA3 (fTup fNil) fNil))) (aE (f2 zBW (fLst (zA3 (fC (.int 0)) fNil)) (fC (.int 64))) aNil)))) (fTup (zA3 (f2 zBW (fLst (zA3 (fC (.int 0)) fNil)) (fC (.int 64))) (zA3 (fC .non) fNil)))) (f2 oEq (zAF 3 [] zAV (aE (fC (.int 1)) (aE (fTup (zA3 (fC (.int 0)) (zA3 (fTup fNil) fNil))) (aE (fLst fNil) aNil)))) (fLst fNil))))
theorem zTZ:zXV=sSeq gl1 (sSeq gl2 (sSeq gl3 (sSeq gl4 (sSeq gl5 (sSeq gl6 (sSeq gl7 (gl8))))))):=rfl
theorem yFS(a:Dat):gl1 [.va a,.no,.no,.no,.no]=some (.nx [.va a,.ow (.lst []),.no,.no,.no]):=rfl
theorem yFQ(a b c:Dat):gl4 [.va a,.ow b,.va c,.no,.no]=some (.nx [.va a,.ow b,.va c,.va (.lst zEH),.no]):=by kernel_rfl
theorem rep1(k:Nat)(d:Dat):repN k [d]=Aa k d:=by
 unfold repN
 induction k with
 |zero=>rfl
 |succ k ih=>rw[Cf,Dv,ih,Cf];rfl
theorem zPL(d:Dat)(k:Int)(h0:0<=k)(h1:k<=64):zBW (.lst [d]) (.int k)=some (.lst (Aa k.toNat d)):=by
 simp only[zBW]
 rw[if_pos ⟨⟨h0,by omega⟩,by simp;omega⟩,rep1]
theorem yFP(a b:Dat)(sure:Int)(r:Dat)(s0:0<=sure)(s1:sure<=64): ∃L:List Dat,gl5 [.va a,.ow b,.va (.tup [.int sure,r]),.va (.lst zEH),.no]=some (.nx [.va a,.ow b,.va (.tup [.int sure,r]),.va (.lst (zEH++L)),.no])/\L.length<=6/\ ∀d∈L,zAR [d,.int sure]=some (.bl false,[]):=by
 by_cases h:0<sure
 ·refine ⟨Aa 6 (.lst (Aa (sure - 1).toNat (.int 0))),?_,by simp,fun d hd => ?_⟩
  ·unfold gl5
   have k1:=zPL (.int 0) (sure - 1) (by omega) (by omega)
   generalize Aa (sure - 1).toNat (Dat.int 0)=z at*
   have k2:=zPL (.lst z) 6 (by omega) (by omega)
   rw[show(6:Int).toNat=6 from rfl] at k2
   have k3:zBL (.lst zEH) (.lst (Aa 6 (.lst z)))=some (.lst (zEH++Aa 6 (.lst z))):=by
    simp only[zBL]
    rw[if_pos]
    rw[Fi]
    decide
   generalize Aa 6 (Dat.lst z)=y at*
   simp[h,k1,k2,k3]
  ·rw[(List.mem_replicate.mp hd).2]
   exact zU9 h s1
 ·refine ⟨[],?_,by simp,fun d hd => nomatch hd⟩
  unfold gl5
  simp[h]
theorem yFR(ns:List Int)(hl:ns.length<=63):gl2 [.va (Scp ns),.ow (Twn 0),.no,.no,.no]=some (.nx [.va (Scp ns),.ow (Twn 2),.no,.no,.no]):=by
 obtain⟨x,hx,ex⟩:=zQK ns 0 hl (by omega)
 obtain⟨y,hy,ey⟩:=zQK ns 1 hl (by omega)
 have ax:=(zN9 hx).1
 have ay:=(zN9 hy).2
 have r2:=zPL (.tup [.str "refused",.int 0]) 2 (by decide) (by decide)
 rw[Ff] at ex
 unfold gl2
 have r3:oNe (.lst [.tup [.str "refused",.int 0],.tup [.str "refused",.int 0]]) (.lst [.tup [.str "refused",.int 0],.tup [.str "refused",.int 0]])=some (.bl false):=by kernel_rfl
 simp[ex,ey,ax,ay,zB9,zCN,r2,r3]
theorem yFO(a b r d:Dat)(h0:zAV [.int 0,r,d]=some (.tup [.str "refused",.int 1],[])) (h1:zAV [.int 1,r,d]=some (.tup [.str "refused",.int 1],[])) {L:Dat}:gl7 [.va a,.ow b,.va r,.va L,.va d]=some (.nx [.va a,.ow b,.va r,.va L,.va d]):=by
 have r2:=zPL (.tup [.str "refused",.int 1]) 2 (by decide) (by decide)
 unfold gl7
 have r3:oNe (.lst [.tup [.str "refused",.int 1],.tup [.str "refused",.int 1]]) (.lst [.tup [.str "refused",.int 1],.tup [.str "refused",.int 1]])=some (.bl false):=by kernel_rfl
 simp[h0,h1,zB9,zCN,r2,r3]
theorem yFN(a b r L d:Dat):gl8 [.va a,.ow b,.va r,.va L,.va d]=some (.rt (.bl true) [.va a,.ow b,.va r,.va L,.va d]):=by kernel_rfl
end L2
namespace RR
open PySem L2
theorem zTQ(ns:List Int)(hl:ns.length<=63):zOE [.lst (ns.map .int)]=some (.bl true,[]):=by
 obtain⟨sure,rows,kds,n,hb,aa,s0,s1,hn,e1⟩:=zU7 ns 2 10 hl (by omega) (by omega) (by omega)
 have r40:rows.length<=40:=by omega
 have hib:=zO4 hb s0 s1 r40
 obtain⟨L,e5,hL,hLn⟩:=yFP (Scp ns) (Twn n) sure (.tup rows) s0 s1
 obtain⟨x,hx,ex⟩:=zDF ns n (zEH++L++[zXI]) hl (by omega) (by simp[zEH])
 have hno:zAR [x,.int sure]=some (.bl false,[]):=by
  rcases Aw.mp hx with h|h
  ·rcases Aw.mp h with h|h
   ·exact zW5 h s0 s1
   ·exact hLn x h
  ·rw[Ah.mp h]
   exact zXH s1
 obtain⟨a0,a1⟩:=zY9 hib hno
 have hx0:envD [] 5 [Scp ns]=[.va (Scp ns),.no,.no,.no,.no]:=rfl
 have e3:gl3 [.va (Scp ns),.ow (Twn 2),.no,.no,.no]=some (.nx [.va (Scp ns),.ow (Twn n),.va (.tup [.int sure,.tup rows]),.no,.no]):=by
  unfold gl3
  simp[e1]
 have e6:gl6 [.va (Scp ns),.ow (Twn n),.va (.tup [.int sure,.tup rows]),.va (.lst (zEH++L)),.no]=some (.nx [.va (Scp ns),.ow (Twn (n+1)),.va (.tup [.int sure,.tup rows]),.va (.lst (zEH++L)),.va x]):=by
  unfold gl6
  have k1:=zPL (.lst [.int 0]) 64 (by decide) (by decide)
  have k2:zBL (.lst (zEH++L)) (.lst [.lst (Aa (64:Int).toNat (.lst [.int 0]))])=some (.lst (zEH++L++[zXI])):=by
   simp only[zBL]
   rw[if_pos]
   ·rfl
   ·have:zEH.length=10:=rfl
    simp[this];omega
  generalize Aa (64:Int).toNat (Dat.lst [Dat.int 0])=z at*
  generalize zEH++L=M at*
  simp[k1,k2,ex]
 have hS:Dat.lst (ns.map .int)=Scp ns:=rfl
 rw[hS]
 unfold zOE
 rw[zAX,zTZ,hx0,zG2,yFS,qS_n,show Dat.lst []=Twn 0 from rfl,zG2,yFR ns hl,qS_n,zG2,e3,qS_n,zG2,yFQ,qS_n,zG2,e5,qS_n,zG2,e6,qS_n,zG2,yFO _ _ _ _ a0 a1,qS_n,yFN]
 rfl
end RR
namespace KK
open PySem PySem.W
noncomputable abbrev g(a i:Nat)(n:Str)(d m:Value):Obj:=⟨.type "function",none,.func (fnOf n n (L2.zBP (RR.top i)) (L2.zB0 (RR.top i)) (L2.zA4 (RR.top i)) d .none .none m none (.ref (a - 1)) .none),#[]⟩
theorem p(P:L7)(a i:Nat)(n:Str)(m:Value)(h1:nsIn (K P) mainGlobals n=some (some (.ref a)):=by kernel_rfl)(h2:(K P).lookup a=some (g a i n .none m):=by kernel_rfl)(h3:codeIn (K P) (.ref (a - 1)) n=true:=by kernel_rfl):L2.A4 (K P) n (RR.top i) a:=L2.a4 h1 h2 h3 (by unfold keepIn;simp only[h2])
end KK
namespace RR
open PySem L2
abbrev Zn(K:A8)(x:Str):Prop:=E4 K mainGlobals x=some none
abbrev Gn(K:A8)(x:Str)(v:Value):Prop:=E4 K mainGlobals x=some (some v)
theorem Len1{α:Type}{P:List α->Prop}(z: ∀a,P [a]): ∀us:List α,us.length=1->P us
 |[a],_=>z a
theorem Len2{α:Type}{P:List α->Prop}(z: ∀a b,P [a,b]): ∀us:List α,us.length=2->P us
 |[a,b],_=>z a b
theorem Len3{α:Type}{P:List α->Prop}(z: ∀a b c,P [a,b,c]): ∀us:List α,us.length=3->P us
 |[a,b,c],_=>z a b c
theorem Len4{α:Type}{P:List α->Prop}(z: ∀a b c d,P [a,b,c,d]): ∀us:List α,us.length=4->P us
 |[a,b,c,d],_=>z a b c d
theorem Len5{α:Type}{P:List α->Prop}(z: ∀a b c d e,P [a,b,c,d,e]): ∀us:List α,us.length=5->P us
 |[a,b,c,d,e],_=>z a b c d e
theorem Len6{α:Type}{P:List α->Prop}(z: ∀a b c d e f,P [a,b,c,d,e,f]): ∀us:List α,us.length=6->P us
 |[a,b,c,d,e,f],_=>z a b c d e f
theorem yCN{l:Mp}{w:World}{K:A8}{h:Heap}{mg:Str->Option Value}{fa:Addr}(X:K.In h)(G:h.Ns mainGlobals mg)(hfa:mg "law"=some (.ref fa))
  {f_x0 f_x1 f_x2 f_x3 f_x4 f_x5 f_x6 f_x7 f_x8 f_x9 f_x10 f_x11 f_x12 f_x13 f_x14 f_x15 f_x16 f_x17 f_x18 f_x19 f_x20 f_x21:Addr}
  {kV_x21 dc_x21 pm_x21 cd_x21 ct_x21:Value}
  {t1:Tok}
  {a2 f_x22 f_x23 f_x24 f_x25 f_x26 f_x27 f_x28 f_x29 f_x30 f_x31 f_x33 f_x32 f_x35 f_x36 f_x37 f_x40 f_x41 f_x34 f_x38 f_x39 f_x42 f_x43:Addr}
  {kV_x43 dc_x43 pm_x43 cd_x43 ct_x43:Value}
  {t3 t4 t5 t6 t7 t8 t9 t10:Tok}
  {a11:Addr}
  {t12 t13 t14 t15 t16 t17 t18:Tok}
  {a19:Addr}
  {h20 h21 h22 h23 h24 h25 h26:Int}
  {t27 t28 t29 t30 t31:Tok}
  {a32:Addr}
  {t33 t34 t35 t36 t37 t38 t39:Tok}
  {a40:Addr}
  {t41 t42 t43:Tok}
  {a44:Addr}
  {t45:Tok}
  {a46:Addr}
  {t47 t48 t49:Tok}
  {a50:Addr}
  {t51 t52:Tok}
  {a53:Addr}
  {t54 t55 t56:Tok}
  {a57 a58:Addr}
  {h59 h60 h61 h62 h63 h64:Int}
  {t65 t66:Tok}
  {a67:Addr}
  {t68 t69:Tok}
  {a70:Addr}
  {t71:Tok}
  {a72 a73 a74 a75 a76 a77 a78 a79 a80 a81 a82 a83 a84 a85:Addr}
  (o0:A4 K "is_whole" (top 19) f_x0)
  (li:A4 K "plus" (top 20) f_x1)
  (l5:A4 K "minus" (top 21) f_x2)
  (ku:A4 K "times" (top 22) f_x3)
  (kc:A4 K "least" (top 23) f_x4)
  (k7:A4 K "most" (top 24) f_x5)
  (k6:A4 K "less" (top 25) f_x6)
  (k4:A4 K "over" (top 26) f_x7)
  (ny:A4 K "pick" (top 27) f_x8)
  (nw:A4 K "done" (top 29) f_x9)
  (lh:A4 K "parts_of" (top 38) f_x10)
  (lg:A4 K "makes_word" (top 39) f_x11)
  (lf:A4 K "place_of" (top 40) f_x12)
  (lc:A4 K "names_of" (top 41) f_x13)
  (lb:A4 K "may_name" (top 42) f_x14)
  (la:A4 K "fits" (top 43) f_x15)
  (l9:A4 K "is_row" (top 44) f_x16)
  (l8:A4 K "is_block" (top 45) f_x17)
  (l7:A4 K "is_cells" (top 48) f_x18)
  (l6:A4 K "touches" (top 49) f_x19)
  (l4:A4 K "do_on_cell" (top 50) f_x20)
  (ly:K.lookup a2=some ⟨.type "tuple",none,.seq #[.int 0 t1] 0,#[]⟩)
  (j7:E4 K mainGlobals "do_row"=some (some (.ref f_x21)))
  (me:K.lookup f_x21=some ⟨.type "function",none,.func (Fj "do_row" "do_row" (zBP (top 51)) (zB0 (top 51)) (zA4 (top 51)) (.ref a2) kV_x21 dc_x21 pm_x21 none cd_x21 ct_x21),#[]⟩)
  (nh:Go K cd_x21 "do_row"=true)
  (g8:Dx K (.ref f_x21)=true)
  (l3:A4 K "do_rows" (top 52) f_x22)
  (iz:A4 K "check_run" (top 53) f_x23)
  (f6:A4 K "run" (top 54) f_x24)
  (ev:A4 K "values" (top 55) f_x25)
  (l0:A4 K "_law_cell_at" (top 57) f_x26)
  (kz:A4 K "_law_mixed" (top 58) f_x27)
  (ky:A4 K "_law_draw" (top 59) f_x28)
  (kx:A4 K "_law_pick" (top 60) f_x29)
  (kr:A4 K "_law_place" (top 61) f_x30)
  (kq:A4 K "_law_row" (top 62) f_x31)
  (kn:A4 K "_law_next" (top 64) f_x33)
  (ko:A4 K "_law_rows" (top 63) f_x32)
  (kl:A4 K "_law_names" (top 66) f_x35)
  (kj:A4 K "_law_may" (top 67) f_x36)
  (ki:A4 K "_law_must" (top 68) f_x37)
  (ka:A4 K "_law_mixed_order" (top 71) f_x40)
  (k9:A4 K "_law_renamed" (top 72) f_x41)
  (km:A4 K "_law_block" (top 65) f_x34)
  (kg:A4 K "_law_which" (top 69) f_x38)
  (kf:A4 K "_law_none" (top 70) f_x39)
  (k8:A4 K "_law_ask" (top 73) f_x42)
  (nj:E4 K mainGlobals "law"=some (some (.ref f_x43)))
  (md:K.lookup f_x43=some ⟨.type "function",none,.func (Fj "law" "law" (zBP (top 74)) (zB0 (top 74)) (zA4 (top 74)) .none kV_x43 dc_x43 pm_x43 none cd_x43 ct_x43),#[]⟩)
  (ng:Go K cd_x43 "law"=true)
  (mh:Dx K (.ref f_x43)=true)
  (jw:Zn K "len")
  (il:Zn K "range")
  (ju:Zn K "min")
  (jv:Zn K "max")
  (j9:Zn K "list")
  (ik:Zn K "tuple")
  (g6:Zn K "sorted")
  (cr:Zn K "isinstance")
  (jb:Zn K "bool")
  (jx:Zn K "int")
  (jt:Zn K "str")
  (d9:Zn K "enumerate")
  (js:Zn K "zip")
  (jy:Zn K "all")
  (ja:Zn K "dict")
  (cu:Zn K "ValueError")
  (dk:Gn K "MOST_WORD" (.int 999 t3))
  (m6:K.lookup a11=some ⟨.type "tuple",none,.seq #[.str "plus" t4,.str "minus" t5,.str "times" t6,.str "least" t7,.str "most" t8,.str "less" t9,.str "over" t10] 0,#[]⟩)
  (ip:Gn K "DEEDS" (.ref a11))
  (lz:K.lookup a19=some ⟨.type "dict",none,.dict #[⟨h20,.str "plus" t12,.ref f_x1⟩,⟨h21,.str "minus" t13,.ref f_x2⟩,⟨h22,.str "times" t14,.ref f_x3⟩,⟨h23,.str "least" t15,.ref f_x4⟩,⟨h24,.str "most" t16,.ref f_x5⟩,⟨h25,.str "less" t17,.ref f_x6⟩,⟨h26,.str "over" t18,.ref f_x7⟩] 7,#[]⟩)
  (ma:(a19==Dc)=false)
  (jf:Gn K "MADE" (.ref a19))
  (dm:Gn K "MOST_SURE" (.int 64 t27))
  (dn:Gn K "MOST_ROWS" (.int 40 t28))
  (cz:Gn K "MOST_PLACE" (.int 63 t29))
  (lx:K.lookup a32=some ⟨.type "tuple",none,.seq #[.str "row" t30,.str "row" t31] 0,#[]⟩)
  (d8:Gn K "DEED_PARTS" (.ref a32))
  (lw:K.lookup a40=some ⟨.type "tuple",none,.seq #[.str "word" t39] 0,#[]⟩)
  (lv:K.lookup a44=some ⟨.type "tuple",none,.seq #[.str "row" t41,.str "row" t42,.str "row" t43] 0,#[]⟩)
  (lu:K.lookup a46=some ⟨.type "tuple",none,.seq #[.str "place" t45] 0,#[]⟩)
  (ls:K.lookup a50=some ⟨.type "tuple",none,.seq #[.str "place" t47,.str "row" t48,.str "row" t49] 0,#[]⟩)
  (lr:K.lookup a53=some ⟨.type "tuple",none,.seq #[.str "place" t51,.str "row" t52] 0,#[]⟩)
  (lq:K.lookup a57=some ⟨.type "tuple",none,.seq #[.str "place" t54,.str "row" t55,.str "row" t56] 0,#[]⟩)
  (ln:K.lookup a58=some ⟨.type "dict",none,.dict #[⟨h59,.str "number" t33,.ref a40⟩,⟨h60,.str "pick" t34,.ref a44⟩,⟨h61,.str "load" t35,.ref a46⟩,⟨h62,.str "take" t36,.ref a50⟩,⟨h63,.str "store" t37,.ref a53⟩,⟨h64,.str "put" t38,.ref a57⟩] 6,#[]⟩)
  (m9:(a58==Dc)=false)
  (c7:Gn K "OTHER_PARTS" (.ref a58))
  (lm:K.lookup a67=some ⟨.type "tuple",none,.seq #[.str "load" t65,.str "take" t66] 0,#[]⟩)
  (g5:Gn K "READERS" (.ref a67))
  (ll:K.lookup a70=some ⟨.type "tuple",none,.seq #[.str "store" t68,.str "put" t69] 0,#[]⟩)
  (g0:Gn K "WRITERS" (.ref a70))
  (d7:Gn K "MOST_CELLS" (.int 64 t71))
  (cb:Gn K "Nothing" (.ref a72))
  (bz:Gn K "NotValid" (.ref a73))
  (c9:Gn K "TooLong" (.ref a74))
  (c8:Gn K "TooMany" (.ref a75))
  (di:Gn K "NoName" (.ref a76))
  (dg:Gn K "NoText" (.ref a77))
  (dj:Gn K "NoLoop" (.ref a78))
  (df:Gn K "NoTree" (.ref a79))
  (bu:Gn K "NoProgram" (.ref a80))
  (dh:Gn K "NoPlan" (.ref a81))
  (cf:Gn K "NoLanes" (.ref a82))
  (f7:Gn K "NoRow" (.ref a83))
  (cg:Gn K "NoCells" (.ref a84))
  (ci:Gn K "NoBlock" (.ref a85))
  (b7:XC K "NoBlock" a85)
  (b6:XC K "NoCells" a84)
  (xk:xiOk K xcs xall=true):
  ∃fd:C2,(∀(s:A2) (v:Value),Jw s fd ⟨[v],[]⟩ [("_law_script",v)])/\ ∀base:Heap,K.In base->base.Ns mainGlobals mg->FnOk l.prog w K mg base CX0 9 fa fd ["_law_script"] (spV K [] 1 zOE):=by
 have e:=hfa.symm.trans (C4 X G nj)
 cases e
 have T:Txt K mg:=⟨fun _ _ e=>C4 X G e,
   C5 X G jw,
   C5 X G il,
   C5 X G ju,
   C5 X G jv,
   C5 X G j9,
   C5 X G ik,
   C5 X G g6,
   C5 X G cr,
   C5 X G jb,
   C5 X G jx,
   C5 X G jt,
   C5 X G d9,
   C5 X G js,
   C5 X G jy,
   C5 X G ja,
   C5 X G cu,
   ⟨_,.ref a11,C4 X G ip,rfl,fun _ _ _=>(.tup (xs:=[.str "plus",.str "minus",.str "times",.str "least",.str "most",.str "less",.str "over"]) (.inr ⟨_,_,_,m6,rfl,rfl,(by show 7<=sizeLine;decide),(.cons ⟨_,rfl⟩ (.cons ⟨_,rfl⟩ (.cons ⟨_,rfl⟩ (.cons ⟨_,rfl⟩ (.cons ⟨_,rfl⟩ (.cons ⟨_,rfl⟩ (.cons ⟨_,rfl⟩ .nil)))))))⟩) (.cons (.str _) (.cons (.str _) (.cons (.str _) (.cons (.str _) (.cons (.str _) (.cons (.str _) (.cons (.str _) .nil))))))))⟩,
   ⟨_,.ref a32,C4 X G d8,rfl,fun _ _ _=>(.tup (xs:=[.str "row",.str "row"]) (.inr ⟨_,_,_,lx,rfl,rfl,(by show 2<=sizeLine;decide),(.cons ⟨_,rfl⟩ (.cons ⟨_,rfl⟩ .nil))⟩) (.cons (.str _) (.cons (.str _) .nil)))⟩,
   ⟨_,.ref a19,C4 X G jf,rfl,fun _ _ _=>(.ktb (D:=[("plus",.ref f_x1),("minus",.ref f_x2),("times",.ref f_x3),("least",.ref f_x4),("most",.ref f_x5),("less",.ref f_x6),("over",.ref f_x7)]) ⟨ma,_,_,_,lz,⟨rfl,rfl,rfl⟩,rfl,(.cons rfl rfl (.cons rfl rfl (.cons rfl rfl (.cons rfl rfl (.cons rfl rfl (.cons rfl rfl (.cons rfl rfl .nil)))))))⟩ (.cons (.fn li.ns) (.cons (.fn l5.ns) (.cons (.fn ku.ns) (.cons (.fn kc.ns) (.cons (.fn k7.ns) (.cons (.fn k6.ns) (.cons (.fn k4.ns) .nil))))))))⟩,
   ⟨_,.int 64,C4 X G d7,⟨_,rfl⟩,fun _ _ _=>(.int _)⟩,
   ⟨_,.int 63,C4 X G cz,⟨_,rfl⟩,fun _ _ _=>(.int _)⟩,
   ⟨_,.int 40,C4 X G dn,⟨_,rfl⟩,fun _ _ _=>(.int _)⟩,
   ⟨_,.int 64,C4 X G dm,⟨_,rfl⟩,fun _ _ _=>(.int _)⟩,
   ⟨_,.int 999,C4 X G dk,⟨_,rfl⟩,fun _ _ _=>(.int _)⟩,
   ⟨_,.ref a58,C4 X G c7,rfl,fun _ _ _=>(.ktb (D:=[("number",.ref a40),("pick",.ref a44),("load",.ref a46),("take",.ref a50),("store",.ref a53),("put",.ref a57)]) ⟨m9,_,_,_,ln,⟨rfl,rfl,rfl⟩,rfl,(.cons rfl rfl (.cons rfl rfl (.cons rfl rfl (.cons rfl rfl (.cons rfl rfl (.cons rfl rfl .nil))))))⟩ (.cons (.tup (xs:=[.str "word"]) (.inr ⟨_,_,_,lw,rfl,rfl,(by show 1<=sizeLine;decide),(.cons ⟨_,rfl⟩ .nil)⟩) (.cons (.str _) .nil)) (.cons (.tup (xs:=[.str "row",.str "row",.str "row"]) (.inr ⟨_,_,_,lv,rfl,rfl,(by show 3<=sizeLine;decide),(.cons ⟨_,rfl⟩ (.cons ⟨_,rfl⟩ (.cons ⟨_,rfl⟩ .nil)))⟩) (.cons (.str _) (.cons (.str _) (.cons (.str _) .nil)))) (.cons (.tup (xs:=[.str "place"]) (.inr ⟨_,_,_,lu,rfl,rfl,(by show 1<=sizeLine;decide),(.cons ⟨_,rfl⟩ .nil)⟩) (.cons (.str _) .nil)) (.cons (.tup (xs:=[.str "place",.str "row",.str "row"]) (.inr ⟨_,_,_,ls,rfl,rfl,(by show 3<=sizeLine;decide),(.cons ⟨_,rfl⟩ (.cons ⟨_,rfl⟩ (.cons ⟨_,rfl⟩ .nil)))⟩) (.cons (.str _) (.cons (.str _) (.cons (.str _) .nil)))) (.cons (.tup (xs:=[.str "place",.str "row"]) (.inr ⟨_,_,_,lr,rfl,rfl,(by show 2<=sizeLine;decide),(.cons ⟨_,rfl⟩ (.cons ⟨_,rfl⟩ .nil))⟩) (.cons (.str _) (.cons (.str _) .nil))) (.cons (.tup (xs:=[.str "place",.str "row",.str "row"]) (.inr ⟨_,_,_,lq,rfl,rfl,(by show 3<=sizeLine;decide),(.cons ⟨_,rfl⟩ (.cons ⟨_,rfl⟩ (.cons ⟨_,rfl⟩ .nil)))⟩) (.cons (.str _) (.cons (.str _) (.cons (.str _) .nil)))) .nil)))))))⟩,
   ⟨_,.ref a67,C4 X G g5,rfl,fun _ _ _=>(.tup (xs:=[.str "load",.str "take"]) (.inr ⟨_,_,_,lm,rfl,rfl,(by show 2<=sizeLine;decide),(.cons ⟨_,rfl⟩ (.cons ⟨_,rfl⟩ .nil))⟩) (.cons (.str _) (.cons (.str _) .nil)))⟩,
   ⟨_,.ref a70,C4 X G g0,rfl,fun _ _ _=>(.tup (xs:=[.str "store",.str "put"]) (.inr ⟨_,_,_,ll,rfl,rfl,(by show 2<=sizeLine;decide),(.cons ⟨_,rfl⟩ (.cons ⟨_,rfl⟩ .nil))⟩) (.cons (.str _) (.cons (.str _) .nil)))⟩,
   ⟨_,.ref a72,C4 X G cb,rfl,fun _ _ _=> .fn cb⟩,
   ⟨_,.ref a73,C4 X G bz,rfl,fun _ _ _=> .fn bz⟩,
   ⟨_,.ref a74,C4 X G c9,rfl,fun _ _ _=> .fn c9⟩,
   ⟨_,.ref a75,C4 X G c8,rfl,fun _ _ _=> .fn c8⟩,
   ⟨_,.ref a76,C4 X G di,rfl,fun _ _ _=> .fn di⟩,
   ⟨_,.ref a77,C4 X G dg,rfl,fun _ _ _=> .fn dg⟩,
   ⟨_,.ref a78,C4 X G dj,rfl,fun _ _ _=> .fn dj⟩,
   ⟨_,.ref a79,C4 X G df,rfl,fun _ _ _=> .fn df⟩,
   ⟨_,.ref a80,C4 X G bu,rfl,fun _ _ _=> .fn bu⟩,
   ⟨_,.ref a81,C4 X G dh,rfl,fun _ _ _=> .fn dh⟩,
   ⟨_,.ref a82,C4 X G cf,rfl,fun _ _ _=> .fn cf⟩,
   ⟨_,.ref a83,C4 X G f7,rfl,fun _ _ _=> .fn f7⟩,
   ⟨_,.ref a84,C4 X G cg,rfl,fun _ _ _=> .fn cg⟩,
   ⟨_,.ref a85,C4 X G ci,rfl,fun _ _ _=> .fn ci⟩,
   ⟨_,.ref f_x25,C4 X G ev.ns,rfl,fun _ _ _=> .fn ev.ns⟩,
   ⟨_,.ref f_x24,C4 X G f6.ns,rfl,fun _ _ _=> .fn f6.ns⟩,
   ⟨_,b7,C4 X G b7.at_⟩,
   ⟨_,b6,C4 X G b6.at_⟩,
   XI.of (Iz.mpr ⟨⟨_,b7⟩,Iz.mpr ⟨⟨_,b6⟩,nofun⟩⟩) xk⟩
 have fj:=zXW (st:=top 51) me nh g8
 have ni:=fj.binds (ps:=Qx21) (ds:=[]) (m:=4) ly rfl fun _ _ _ _ _ _ us hl=>match us,hl with|[_,_,_,_],_=>⟨_,rfl,rfl⟩
 have jh:=fj.binds (ps:=Qx21) (ds:=[.int 0 t1]) (m:=3) ly rfl fun _ _ _ _ _ _ us hl=>match us,hl with|[_,_,_],_=>⟨_,rfl,rfl⟩
 have nk:=zN4 (st:=top 74) md ng mh
 refine⟨Fj "law" "law" (zBP (top 74)) (zB0 (top 74)) (zA4 (top 74)) .none kV_x43 dc_x43 pm_x43 none cd_x43 ct_x43,fun s v=> .of_eq rfl,fun base _ _=> ?_⟩
 have bq:DefV l.prog w K mg base "is_whole" 1 Qx0 [] zB1 f_x0:=mkDf X G o0 (fun U=>yEP U T) (Len3 fun _ _ _=>rfl)
 have jr:DefV l.prog w K mg base "plus" 1 Qx1 [] zNA f_x1:=mkDf X G li (fun U=>yEO U T) (Len2 fun _ _=>rfl)
 have jq:DefV l.prog w K mg base "minus" 1 Qx2 [] zIZ f_x2:=mkDf X G l5 (fun U=>yEN U T) (Len2 fun _ _=>rfl)
 have jo:DefV l.prog w K mg base "times" 1 Qx3 [] zIY f_x3:=mkDf X G ku (fun U=>yEM U T) (Len2 fun _ _=>rfl)
 have jm:DefV l.prog w K mg base "least" 1 Qx4 [] zJ0 f_x4:=mkDf X G kc (fun U=>yEL U T) (Len2 fun _ _=>rfl)
 have jl:DefV l.prog w K mg base "most" 1 Qx5 [] zND f_x5:=mkDf X G k7 (fun U=>yEK U T) (Len2 fun _ _=>rfl)
 have jk:DefV l.prog w K mg base "less" 1 Qx6 [] zNE f_x6:=mkDf X G k6 (fun U=>yEJ U T) (Len2 fun _ _=>rfl)
 have jj:DefV l.prog w K mg base "over" 1 Qx7 [] zNC f_x7:=mkDf X G k4 (fun U=>yEI U T) (Len2 fun _ _=>rfl)
 have ji:DefV l.prog w K mg base "pick" 1 Qx8 [] zNB f_x8:=mkDf X G ny (fun U=>yEH U T) (Len3 fun _ _ _=>rfl)
 have iu:DefV l.prog w K mg base "done" 2 Qx9 [] zNF f_x9:=mkDf X G nw (fun U=>yEG U T jr jq jo jm jl jk jj ji) (Len2 fun _ _=>rfl)
 have cq:DefV l.prog w K mg base "parts_of" 1 Qx10 [] zB4 f_x10:=mkDf X G lh (fun U=>yBK U T) (Len1 fun _=>rfl)
 have ij:DefV l.prog w K mg base "makes_word" 1 Qx11 [] zC3 f_x11:=mkDf X G lg (fun U=>yBJ U T) (Len1 fun _=>rfl)
 have fo:DefV l.prog w K mg base "place_of" 1 Qx12 [] zE8 f_x12:=mkDf X G lf (fun U=>yBI U T) (Len1 fun _=>rfl)
 have ii:DefV l.prog w K mg base "names_of" 2 Qx13 [] zDB f_x13:=mkDf X G lc (fun U=>yBH U T cq) (Len1 fun _=>rfl)
 have ig:DefV l.prog w K mg base "may_name" 2 Qx14 [] zCP f_x14:=mkDf X G lb (fun U=>yBG U T bq) (Len2 fun _ _=>rfl)
 have i9:DefV l.prog w K mg base "fits" 3 Qx15 [] zEE f_x15:=mkDf X G la (fun U=>yBF U T bq ig) (Len3 fun _ _ _=>rfl)
 have i8:DefV l.prog w K mg base "is_row" 4 Qx16 [] zE9 f_x16:=mkDf X G l9 (fun U=>yBE U T cq i9) (Len2 fun _ _=>rfl)
 have c6:DefV l.prog w K mg base "is_block" 5 Qx17 [] zBM f_x17:=mkDf X G l8 (fun U=>yBD U T bq ij i8) (Len1 fun _=>rfl)
 have cn:DefV l.prog w K mg base "is_cells" 2 Qx18 [] zAR f_x18:=mkDf X G l7 (fun U=>yBC U T bq) (Len2 fun _ _=>rfl)
 have i7:DefV l.prog w K mg base "touches" 1 Qx19 [] zFB f_x19:=mkDf X G l6 (fun U=>yBB U T) (Len2 fun _ _=>rfl)
 have fm:DefV l.prog w K mg base "do_on_cell" 2 Qx20 [3] zD3 f_x20:=mkDf X G l4 (fun U=>yBA U T i7) (Len4 fun _ _ _ _=>rfl)
 have j8:DefV l.prog w K mg base "do_row" 3 Qx21 [2] zEA f_x21:=⟨C4 X G j7,⟨_,zV3 fj T iu fo fm,ni⟩,g8⟩
 have eo:DefD l.prog w K mg base "do_row" 3 Qx21 (spV K [2] 4 zEA) f_x21 (.int 0):=⟨C4 X G j7,⟨_,_,zV3 fj T iu fo fm,jh,by first|exact⟨_,rfl⟩|rfl⟩,g8⟩
 have b5:DefV l.prog w K mg base "do_rows" 4 Qx22 [1] zCG f_x22:=mkDf X G l3 (fun U=>yB9 U T ii j8 eo) (Len2 fun _ _=>rfl)
 have br:DefX l.prog w K mg base "check_run" 6 Qx23 zBD f_x23:=zXF X G iz (fun U=>zX2 U T c6 cn) (Len2 fun _ _=>rfl)
 have az:DefV l.prog w K mg base "check_run" 6 Qx23 [] zBF f_x23:=mkDf X G iz (fun U=>yB8 U T c6 cn) (Len2 fun _ _=>rfl)
 have eg:DefX l.prog w K mg base "run" 7 Qx24 zOB f_x24:=zXF X G f6 (fun U=>zX1 U T b5 az br) (Len2 fun _ _=>rfl)
 have i6:DefV l.prog w K mg base "run" 7 Qx24 [] zOD f_x24:=mkDf X G f6 (fun U=>yB7 U T b5 az) (Len2 fun _ _=>rfl)
 have ee:DefX l.prog w K mg base "values" 7 Qx25 zE6 f_x25:=zXF X G ev (fun U=>zX0 U T b5 az br) (Len2 fun _ _=>rfl)
 have i5:DefV l.prog w K mg base "values" 7 Qx25 [] zE7 f_x25:=mkDf X G ev (fun U=>yB6 U T b5 az) (Len2 fun _ _=>rfl)
 have i4:DefV l.prog w K mg base "_law_cell_at" 1 Qx26 [] zBC f_x26:=mkDf X G l0 (fun U=>yB5 U T) (Len2 fun _ _=>rfl)
 have i3:DefV l.prog w K mg base "_law_mixed" 2 Qx27 [] zCC f_x27:=mkDf X G kz (fun U=>yB4 U T i4) (Len3 fun _ _ _=>rfl)
 have ak:DefV l.prog w K mg base "_law_draw" 3 Qx28 [1] zAO f_x28:=mkDf X G ky (fun U=>yB3 U T i3) (Len3 fun _ _ _=>rfl)
 have af:DefV l.prog w K mg base "_law_pick" 4 Qx29 [1] zAM f_x29:=mkDf X G kx (fun U=>yB2 U T ak) (Len3 fun _ _ _=>rfl)
 have c5:DefV l.prog w K mg base "_law_place" 5 Qx30 [1,2] zB6 f_x30:=mkDf X G kr (fun U=>yB1 U T ak af) (Len5 fun _ _ _ _ _=>rfl)
 have h9:DefV l.prog w K mg base "_law_row" 6 Qx31 [1,3] zDC f_x31:=mkDf X G kq (fun U=>yB0 U T ak af c5) (Len5 fun _ _ _ _ _=>rfl)
 have gx:DefV l.prog w K mg base "_law_next" 5 Qx33 [1,4] zBS f_x33:=mkDf X G kn (fun U=>yAY U T af) (Len6 fun _ _ _ _ _ _=>rfl)
 have gy:DefV l.prog w K mg base "_law_rows" 7 Qx32 [1] zCQ f_x32:=mkDf X G ko (fun U=>yAZ U T af h9 gx) (Len4 fun _ _ _ _=>rfl)
 have gv:DefV l.prog w K mg base "_law_names" 1 Qx35 [] zBE f_x35:=mkDf X G kl (fun U=>yAW U T) (Len1 fun _=>rfl)
 have cm:DefV l.prog w K mg base "_law_may" 1 Qx36 [] zC7 f_x36:=mkDf X G kj (fun U=>yAV U T) (Len2 fun _ _=>rfl)
 have gu:DefV l.prog w K mg base "_law_must" 2 Qx37 [] zCR f_x37:=mkDf X G ki (fun U=>yAU U T gv cm) (Len1 fun _=>rfl)
 have gp:DefV l.prog w K mg base "_law_mixed_order" 5 Qx40 [1] zB5 f_x40:=mkDf X G ka (fun U=>yAR U T af gu) (Len3 fun _ _ _=>rfl)
 have gn:DefV l.prog w K mg base "_law_renamed" 1 Qx41 [] zAL f_x41:=mkDf X G k9 (fun U=>yAQ U T) (Len2 fun _ _=>rfl)
 have gw:DefV l.prog w K mg base "_law_block" 8 Qx34 [1] zBR f_x34:=mkDf X G km (fun U=>yAX U T ak af gy gp gn) (Len3 fun _ _ _=>rfl)
 have en:DefH l.prog w K mg base "_law_which" 1 Qx38 (spV K [] 1 zCV) f_x38:=yF7 X G kg (fun U=>yAT U T) (Len1 fun _=>rfl)
 have gq:DefV l.prog w K mg base "_law_none" 5 Qx39 [1] zCB f_x39:=mkDf X G kf (fun U=>yAS U T af) (Len2 fun _ _=>rfl)
 have cj:DefV l.prog w K mg base "_law_ask" 8 Qx42 [] zAV f_x42:=mkDf X G k8 (fun U=>yAP U T i6 i5 en eg ee) (Len3 fun _ _ _=>rfl)
 exact yAO nk T af gw gq cj
theorem zST(K:A8)(H:Hp)(a:Addr)(ns:List Int)(hl:ns.length<=63)(h:SqL K H a (ns.map V.int)):spV K [] 1 zOE [.ref a] H (fun v _=>v= .bl true) fun _ _ _=>False:=by
 have hr:RepA K (Zp (fun _=>False) [] [.ref a]) H (ns.map V.int) (ns.map Dat.int):=by
  clear h hl
  induction ns with
  |nil=>exact .nil
  |cons n ns ih=>exact .cons (.int n) ih
 have hz: ∀b,¬Zp (fun _=>False) [] [V.ref a] b:=fun b h=>by
  rcases h with h|⟨i,h,_⟩
  ·exact h
  ·cases h
 refine⟨fun _=>False,[.lst (ns.map .int)],.bl true,[],rfl,⟨rfl,(fun i h=>nomatch h),fun i d hi e=> ?_,(fun i d h=>nomatch h),(fun i j b h=>nomatch h),fun a h=>h.elim⟩,zTQ ns hl,fun v H' _ _ r=>by cases r;rfl⟩
 cases i with
 |zero=>
  cases e
  refine⟨_,rfl,?_⟩
  rcases h with(h|⟨o,h⟩)|h
  ·exact .lst h (hz a) hr
  ·exact .fzl (.inl ⟨o,h⟩) hr
  ·exact .fzl (.inr h) hr
 |succ i=>cases i<;>cases e
end RR
open PySem PySem.W PyProof.Rows
set_option maxRecDepth 100000 in
set_option maxHeartbeats 0 in
theorem PySem.Challenge.cw_lanepacks_k04_running_refused_holds : PySem.Challenge.rw_lanepacks_k04_running_refused.Holds := by
 w_on;refine holds_law KK.said fun said=> ?_
 refine holds_open (q:=KK.view) (loose:=KK.lo) (Xt:=KK.X) (XP:=XL KK.view []) (Yf:=KK.H.obs) (Ya:=KK.H.val) (YP:=KK.H.says) (N:=10062) KK.hl (Hook.of _) (Hook.keeps _) (fun s e=>xl_of s (J0.mp e).1) XL.keeps (by rfl) (by rfl) (by rfl) (fun s e=>recFacts_of (J0.mp e).2) (by rfl) (by first|assumption|decide+kernel) (by decide+kernel) ⟨rfl,rfl,rfl,rfl,rfl,by decide+kernel⟩ ?hw ?hc
 case hw=>w_witness2
 refine L2.zS9 (l:=Gq) (n:=63) (k:=9) (x:= "_law_script") (CX:=L2.CX0) (sp:=fun K=>L2.spV K [] 1 L2.zOE) rfl (by decide) rfl ⟨rfl,by decide,by decide⟩ (fun w h Y=>W.kIn_of (K:=KK.K) (as:=KK.A) (e:=KK.kA) Y) ?F (fun K H a ns hl _ hS=>RR.zST K H a ns hl hS) fun _ _ _ _ z=>z
 case F=>
  intro w mg fa h KX G hmg
  exact RR.yCN (K:=KK.K w.params) (f_x0:=224) (f_x1:=231) (f_x2:=238) (f_x3:=245) (f_x4:=252) (f_x5:=259) (f_x6:=266) (f_x7:=273) (f_x8:=280) (f_x9:=288) (f_x10:=305) (f_x11:=312) (f_x12:=319) (f_x13:=324) (f_x14:=331) (f_x15:=338) (f_x16:=343) (f_x17:=350) (f_x18:=355) (f_x19:=362) (f_x20:=369) (f_x21:=377) (kV_x21:= .none) (dc_x21:= .none) (pm_x21:= .str "lanepacks.running" 672) (cd_x21:= .ref 376) (ct_x21:= .none) (t1:=700) (a2:=370) (f_x22:=382) (f_x23:=389) (f_x24:=396) (f_x25:=403) (f_x26:=410) (f_x27:=417) (f_x28:=424) (f_x29:=431) (f_x30:=438) (f_x31:=443) (f_x33:=457) (f_x32:=450) (f_x35:=469) (f_x36:=474) (f_x37:=479) (f_x40:=498) (f_x41:=503) (f_x34:=462) (f_x38:=486) (f_x39:=493) (f_x42:=510) (f_x43:=515) (kV_x43:= .none) (dc_x43:= .none) (pm_x43:= .str "law_lanepacks_k04_running_refused" 749) (cd_x43:= .ref 514) (ct_x43:= .none) (t3:=460) (t4:=462) (t5:=463) (t6:=464) (t7:=465) (t8:=466) (t9:=467) (t10:=468) (a11:=217) (t12:=544) (t13:=545) (t14:=546) (t15:=547) (t16:=548) (t17:=549) (t18:=550) (a19:=281) (h20:=B4 w.params "plus") (h21:=B4 w.params "minus") (h22:=B4 w.params "times") (h23:=B4 w.params "least") (h24:=B4 w.params "most") (h25:=B4 w.params "less") (h26:=B4 w.params "over") (t27:=570) (t28:=572) (t29:=574) (t30:=576) (t31:=577) (a32:=289) (t33:=579) (t34:=581) (t35:=585) (t36:=587) (t37:=591) (t38:=594) (t39:=580) (a40:=291) (t41:=582) (t42:=583) (t43:=584) (a44:=292) (t45:=586) (a46:=293) (t47:=588) (t48:=589) (t49:=590) (a50:=294) (t51:=592) (t52:=593) (a53:=295) (t54:=595) (t55:=596) (t56:=597) (a57:=296) (a58:=290) (h59:=B4 w.params "number") (h60:=B4 w.params "pick") (h61:=B4 w.params "load") (h62:=B4 w.params "take") (h63:=B4 w.params "store") (h64:=B4 w.params "put") (t65:=605) (t66:=606) (a67:=297) (t68:=608) (t69:=609) (a70:=298) (t71:=674) (a72:=214) (a73:=202) (a74:=183) (a75:=171) (a76:=159) (a77:=140) (a78:=128) (a79:=116) (a80:=104) (a81:=92) (a82:=80) (a83:=68) (a84:=49) (a85:=37) KX G hmg
   (KK.p _ 224 19 "is_whole" (.str "lanepacks.words" 458))
   (KK.p _ 231 20 "plus" (.str "lanepacks.words" 458))
   (KK.p _ 238 21 "minus" (.str "lanepacks.words" 458))
   (KK.p _ 245 22 "times" (.str "lanepacks.words" 458))
   (KK.p _ 252 23 "least" (.str "lanepacks.words" 458))
   (KK.p _ 259 24 "most" (.str "lanepacks.words" 458))
   (KK.p _ 266 25 "less" (.str "lanepacks.words" 458))
   (KK.p _ 273 26 "over" (.str "lanepacks.words" 458))
   (KK.p _ 280 27 "pick" (.str "lanepacks.words" 458))
   (KK.p _ 288 29 "done" (.str "lanepacks.words" 458))
   (KK.p _ 305 38 "parts_of" (.str "lanepacks.blocks" 568))
   (KK.p _ 312 39 "makes_word" (.str "lanepacks.blocks" 568))
   (KK.p _ 319 40 "place_of" (.str "lanepacks.blocks" 568))
   (KK.p _ 324 41 "names_of" (.str "lanepacks.blocks" 568))
   (KK.p _ 331 42 "may_name" (.str "lanepacks.blocks" 568))
   (KK.p _ 338 43 "fits" (.str "lanepacks.blocks" 568))
   (KK.p _ 343 44 "is_row" (.str "lanepacks.blocks" 568))
   (KK.p _ 350 45 "is_block" (.str "lanepacks.blocks" 568))
   (KK.p _ 355 48 "is_cells" (.str "lanepacks.running" 672))
   (KK.p _ 362 49 "touches" (.str "lanepacks.running" 672))
   (KK.p _ 369 50 "do_on_cell" (.str "lanepacks.running" 672))
   (by kernel_rfl)
   (by kernel_rfl)
   (by kernel_rfl)
   (by kernel_rfl)
   (by kernel_rfl)
   (KK.p _ 382 52 "do_rows" (.str "lanepacks.running" 672))
   (KK.p _ 389 53 "check_run" (.str "lanepacks.running" 672))
   (KK.p _ 396 54 "run" (.str "lanepacks.running" 672))
   (KK.p _ 403 55 "values" (.str "lanepacks.running" 672))
   (KK.p _ 410 57 "_law_cell_at" (.str "law_lanepacks_k04_running_refused" 749))
   (KK.p _ 417 58 "_law_mixed" (.str "law_lanepacks_k04_running_refused" 749))
   (KK.p _ 424 59 "_law_draw" (.str "law_lanepacks_k04_running_refused" 749))
   (KK.p _ 431 60 "_law_pick" (.str "law_lanepacks_k04_running_refused" 749))
   (KK.p _ 438 61 "_law_place" (.str "law_lanepacks_k04_running_refused" 749))
   (KK.p _ 443 62 "_law_row" (.str "law_lanepacks_k04_running_refused" 749))
   (KK.p _ 457 64 "_law_next" (.str "law_lanepacks_k04_running_refused" 749))
   (KK.p _ 450 63 "_law_rows" (.str "law_lanepacks_k04_running_refused" 749))
   (KK.p _ 469 66 "_law_names" (.str "law_lanepacks_k04_running_refused" 749))
   (KK.p _ 474 67 "_law_may" (.str "law_lanepacks_k04_running_refused" 749))
   (KK.p _ 479 68 "_law_must" (.str "law_lanepacks_k04_running_refused" 749))
   (KK.p _ 498 71 "_law_mixed_order" (.str "law_lanepacks_k04_running_refused" 749))
   (KK.p _ 503 72 "_law_renamed" (.str "law_lanepacks_k04_running_refused" 749))
   (KK.p _ 462 65 "_law_block" (.str "law_lanepacks_k04_running_refused" 749))
   (KK.p _ 486 69 "_law_which" (.str "law_lanepacks_k04_running_refused" 749))
   (KK.p _ 493 70 "_law_none" (.str "law_lanepacks_k04_running_refused" 749))
   (KK.p _ 510 73 "_law_ask" (.str "law_lanepacks_k04_running_refused" 749))
   (by kernel_rfl)
   (by kernel_rfl)
   (by kernel_rfl)
   (by kernel_rfl)
   (by kernel_rfl)
   (by kernel_rfl)
   (by kernel_rfl)
   (by kernel_rfl)
   (by kernel_rfl)
   (by kernel_rfl)
   (by kernel_rfl)
   (by kernel_rfl)
   (by kernel_rfl)
   (by kernel_rfl)
   (by kernel_rfl)
   (by kernel_rfl)
   (by kernel_rfl)
   (by kernel_rfl)
   (by kernel_rfl)
   (by kernel_rfl)
   (by kernel_rfl)
   (by kernel_rfl)
   (by kernel_rfl)
   (by kernel_rfl)
   (by decide)
   (by kernel_rfl)
   (by kernel_rfl)
   (by kernel_rfl)
   (by kernel_rfl)
   (by kernel_rfl)
   (by kernel_rfl)
   (by kernel_rfl)
   (by kernel_rfl)
   (by kernel_rfl)
   (by kernel_rfl)
   (by kernel_rfl)
   (by kernel_rfl)
   (by kernel_rfl)
   (by decide)
   (by kernel_rfl)
   (by kernel_rfl)
   (by kernel_rfl)
   (by kernel_rfl)
   (by kernel_rfl)
   (by kernel_rfl)
   (by kernel_rfl)
   (by kernel_rfl)
   (by kernel_rfl)
   (by kernel_rfl)
   (by kernel_rfl)
   (by kernel_rfl)
   (by kernel_rfl)
   (by kernel_rfl)
   (by kernel_rfl)
   (by kernel_rfl)
   (by kernel_rfl)
   (by kernel_rfl)
   (by kernel_rfl)
   (by kernel_rfl)
   ⟨by kernel_rfl,by kernel_rfl,⟨by kernel_rfl,by kernel_rfl,by kernel_rfl,by kernel_rfl,by kernel_rfl,by kernel_rfl,by kernel_rfl⟩,by kernel_rfl,24,⟨by kernel_rfl,by kernel_rfl,by kernel_rfl,by kernel_rfl,by kernel_rfl⟩⟩
   ⟨by kernel_rfl,by kernel_rfl,⟨by kernel_rfl,by kernel_rfl,by kernel_rfl,by kernel_rfl,by kernel_rfl,by kernel_rfl,by kernel_rfl⟩,by kernel_rfl,24,⟨by kernel_rfl,by kernel_rfl,by kernel_rfl,by kernel_rfl,by kernel_rfl⟩⟩
   (by kernel_rfl)
end
