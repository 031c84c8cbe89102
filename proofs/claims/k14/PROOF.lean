import PyProof.Rows.All
import KE.KFromBytes
import KE.KTab
import KE.KIsAll
import KE.KDictOf
import KE.KEqDeep
import KE.KItem
import KE.KUnpackStar
import Wide.FinOn
import Wide.Line
import KE.KSortTup
import PyProof.AttrMissSeq
import OpenK.KOwn
import Open.TreeImp
import PySem.Challenge.RW_lanepacks_k14_programs
set_option Elab.async false
set_option linter.all false
set_option maxRecDepth 100000
set_option maxHeartbeats 4000000
set_option bootstrap.genMatcherCode false
open PySem renaming wpAny_bind→A0,Shared→A2,wpAny_pure→A8,Program→Al,bootBuiltins→Av,wpAny_mono→B6,Around→Ba,sizeLine_eq→Bb,wpAny_holding→Bf,compareOp→Bl,mem_of_lookup→Bm,FuncData→By,wpAny_callSpecial?_slot→C0,wpAny_newObj_type→C6,wpAny_Call_Name_kw→Cb,wpAny_field→Cc,wpAny_call_entry→Ch,backTo→Cj,wpAny_truthy_bool→Cn,sysModules→Cw,binaryOp→D0,wpAny_setField_rec→D1,wpAny_seqItems→D5,Builtin→D7,swapsWithSole→Dh,swappedStores→Di,call_meets→E5,wpAny_standAt→E6,wpAny_pyIter_tuple→E8,wpAny_passesOwn→E9,behindInMarks→Ea,attributeBase→Ec,tupleKind_room_in1→Ed,Spec→Ej,wpAny_assign_Name→Ek,wpAny_pyIter_list→El,sliceBounds→Eo,wpAny_updateSeq_pair→Et,importedModules→F0,swapsWith→F3,letOwnedTupleGo→F4,keywordEach→F6,Keyword→F7,wpAny_newFunctionEnv_cells→Fg,codeAny_mono→Fm,recursionLimit→Fp,wpAny_binaryOp_repeat_ref→Ft,wpAny_sequenceKey→Fx,wpAny_comprehension_free→G0,unpackItems→G3,codeAny→G4,getItem→G5,wpAny_onRaise→Gc,noFill_tuple_add→Ge,wpAny_pyNext_list_item→Gj,DictEntry→Gp,wpAny_execs_nil→Gq,wpAny_pyNext_list_end→Gr,codeAny_call_function→Gv,concat_meets→Gw,call_meetsIn→Ha,wpAny_rule→Hh,typeIs_int→Hi,ZipApart→Hj,codeAny_call_builtin→Hl,PyData→Hr,newFunctionEnv→Ht,holding→Hv,callerA→Hx,bltViewBooted→Ie,seq_tuple_add→Ii,backToKw→Ij,wpAny_attempt→Im,BindsTo→Iu,valueAt→Iv,wpAny_Call_method→Iw,wpAny_pyIter_enum→J0,wpAny_typeOf→J6,seqIndex_neg→J7,typeOf→J8,seqSlot_of→Jh,Params→Jp,lastMarks→Ju,seqIndex_of→Jv,wpAny_letGo→Jz,pushCells→K2,wpAny_Name→Kg,wpAny_call→Kh,call→Ki,isInstance→Kj,bindName→Ko,Within→Kx
open Bool renaming and_eq_true→A1,false_ne_true→Cg,false_eq_true→Ef,or_eq_true→Fa,beq_eq_decide_eq→Hf,and_eq_true_iff→Ho,or_false→Kr,false_or→Ks,true_and→Kv
open PySem.Heap renaming get?_push_of_some→A3,lt_size→Ad,get?_push_size→Ah,size_push→Ca,SameBut→Cz,ExtBut→F9,get?_update_other→Gm,get?_update_self→Gx,FlyingW→He,get?_push_ne→Iz
open PySem.W renaming Frag→A5,mg_of→Bx,mg_none_of→C3,kia_one→Cr,keepIn→Dr,nsIn→Dy,fnOf→Es,kitOne→Eu,codeIn→Fn,cellsFrom_some→Gd,callWith_K→Gs,SharedT→Hu,kitx_list→Hw,hideAll_get→Ih,looks_findIn→J9,findIn→Jl,opening→Jo,methodObj→Js,looseW→Kb,absHeap→Kk,openEnds→Kl,instObj→Kw,OpenLaw→Kz,clsIn→La
open List renaming getElem?_eq_some_iff→A6,getElem?_append_left→A7,size_toArray→A9,replicate→Aa,mem_cons→Ac,mem_singleton→Af,getElem?_append_right→Ai,not_mem_nil→Ak,mem_cons_of_mem→Am,mem_append_right→Ap,mem_append_left→Ar,mem_cons_self→Aw,getElem?_set_ne→Ax,all_eq_true→B0,lookup_cons→B7,length_set→B8,map_cons→B9,take_of_length_le→Be,mem_append→Bg,replicate_succ→Bo,append_nil→Bp,length_take→Bq,getElem?_set_self→Br,length_append→Bu,range→Bv,getElem?_take_of_lt→Bw,getElem?_replicate→Bz,nodup_cons→C4,lookup_cons_self→C8,getElem?_eq_none→C9,mem_map→Cd,length_cons→Ci,mem_of_getElem?→Ck,mem_range→Cm,getElem?_map→Co,length_map→D8,getElem?_eq_getElem→Dc,flatten_cons→Dd,nil_append→De,take_append_of_le_length→Dj,find?_cons→Ds,map_nil→Dt,drop_eq_getElem_cons→Dw,cons_append→E1,take_succ_cons→E2,set_comm→E7,filterMap_cons→F2,of_mem_zip→F5,forIn_cons→F8,mem_filterMap→Fl,drop_zero→Fs,append_assoc→Fz,any_cons→G6,length_eq_zero_iff→Ga,drop_length→Gg,length_replicate→Gu,length_singleton→Gy,length_nil→Gz,mem_iff_getElem?→Hc,set_append_right→Hg,getElem?_mapIdx→Hk,forall_mem_cons→Hn,forIn_nil→Hs,lookup→Hy,replicate_zero→Ic,prefix_append→Ip,getElem_inj→Ja,length_drop→Jb,zipIdx_cons→Je,getElem_mem→Jk,mem_filter→Jt,zipIdx_nil→Jy,take_left'→K3,map_append→K6,mapM_cons→K9,nodup_nil→Ka,all_cons→Kt,all_map→L5
open Option renaming bind_some→Ae,isSome_some→Ik,getD_none→Jd
open Nat renaming le_refl→Ag,lt_of_lt_of_le→Aj,ne_of_lt→As,lt_irrefl→Bt,le_trans→Cy,zero_le→D3,ne_of_gt→E3,le_of_succ_le→Er,zero_add→Fk,le_succ→Gb,sub_self→Hd,le_of_lt→J5,succ_le_succ→Jg,not_lt_zero→K0,min_le_left→K1,min_eq_left→K5
open PySem.F renaming slot_list_append→An,type_list_append→Ao,slot_list_extend→Bj,type_list_extend→Bk,slot_dict_get→C7,entry_dict_get→Cu,slot_tuple_iterator_next→Cv,args_tuple_add_2→E4,entry_tuple_add→Eb,args_dict_get_2→Ee,slot_tuple_add→Eh,args_tuple_iterator_next_1→Ey,entry_tuple_iterator_next→Fb,slot_zip_next→Fc,slot_int_rmul→Fd,slot_dict_getitem→Fq,args_dict_get_3→G7,plainAttrs_dict→G8,plainAttrs_list→G9,type_dict_get→Hb,args_tuple_mul_2→Io,args_zip_next_1→J1,args_int_rmul_2→J2,entry_tuple_mul→J3,entry_zip_next→Jf,entry_int_rmul→Ji,slot_tuple_mul→Jj,fills_int_mul→K4
open PySem.NameKind renaming free→Aq,cell→B5
open PySem.Str renaming ofString→At,ofString_eq_toList→Ei
open PySem.Value renaming ref→Au,bool→Dk,type→Fu,int→Jq,str→Jr,isStrOf→Kn,isInt→L7,float→L8
open PySem.PyData renaming keyHash→Ay,depthAll→Ct,canLay0→Dx,canLayAll0→Ep,eqv→Ez,depth→Fo,int→Iy,strOk→L6
open PySem.Builtin.SmallTypes renaming nextOf→Az,ownedTupleIsFree→C5,ownedTupleHandOut→Dz
open Option.some renaming inj→B4
open PySem.AutoSeq1 renaming wpAny_loadPart'→Bi,idx_int→Gh
open Ne renaming symm→C2
open PyProof.Rows renaming slot_tuple_getitem→Ce,callWith_type1→Cq,assignInOrder_cons→Dn,assignInOrder_nil→Fv,AllBare→G2,subscriptTail_builtinR→Gk,IntsAre→Jw,expectedOf→Kc,plainGoodE→Ke,plainGoodD→Kf,drecsOf→Km,tail_any→Kq
open PySem.SeqAt renaming shaped→Cf
open ForInStep renaming yield→Cs
open PySem.Builtin.Slice renaming slicePlaces→D2,sliceAdjust→Dv,sliceApplied→Fh,slicePartIndex→Jm,sliceFields→K8
open PyProof.Rows.KTD renaming datumAt→D4
open PySem.Calls renaming evalArgs_plain→D6,callWith_builtin→Dm,spliced_cons→Dq,spliced_nil→Em,Name_function_global→Ff
open PySem.Builtin.Tuple renaming tupleExact→D9,tupleItemsOf→Fi,tupleTooMany→Fj,tupleIsExact→K7
open PySem.Builtin.List renaming listTooLong→Db
open PySem.PassesOwn renaming never→Df
open Array renaming length_toList→Dg,toList→Ky
open False renaming elim→Du
open Int renaming emod_lt_of_pos→Eg,toNat_natCast→En,emod_nonneg→Fe,toNat_of_nonneg→Ib
open Prod renaming snd→Ew,fst→Ex
open Prod.mk renaming inj→F1
open PyProof.Rows.IsTup renaming new→Fw
open PySem.Obj renaming mapSeq→Fy,data_mapFields→Il
open Or renaming inl→Gf,inr→Hq
open PySem.Challenge renaming pw_lanepacks_k14_programs→Gi,rw_lanepacks_k14_programs→Go
open PySem.SeqAt.EqAt renaming bool_bool→Hm
open PySem.Heap.SameBut renaming update→Hz
open PySem.Builtin.Dict renaming missed→Ia
open PySem.Paired renaming length→Ig,snoc→L9
open Sum renaming inl→Iq,inr→Ir
open List.Pairwise renaming nil→Ix
open Char renaming toNat→J4
open PySem.W.Looks renaming ld→Jn
open PySem.Shared renaming heap→Jx
open PySem.Builtin.Range renaming rangeSize→Kp
open PySem.Heap.UpToSlots renaming of_keeps→Ku
open PySem.Heap.IsSliceOf renaming new→Lb
open PySem.W.WShape renaming has→Lc
noncomputable section
namespace KK
open PySem PySem.W
noncomputable def zPN:List Obj->Nat->BT->Option BT
 |[],_,t=>some t
 |o::l,n,t=>match((t.ins n o).get n).isSome with
  |true=>zPN l (n+1) (t.ins n o)
  |false=>none
theorem zJS{life:Life}: ∀{l:List Obj} {n:Nat} {t t':BT},zPN l n t=some t'->Kk t' (n+l.length) life=⟨(Kk t n life).objs++l.toArray,life⟩
 | [],n,t,t',h => by cases h;simp [Kk]
 | o :: l,n,t,t',h => by
  unfold zPN at h
  split at h
  ·rename_i g
   have ih:=zJS (life:=life) h
   rw[show n+(o::l).length=n+1+l.length by simp;omega,ih,absHeap_ins g]
   simp[Heap.push]
  ·cases h
noncomputable def toT(s:A2):Option Hu:=(zPN s.heap.objs.toList 0 .nil).map fun t=>⟨t,s.heap.objs.size,s.heap.life,s.gens,s.drawn,s.toks,s.os⟩
theorem zN8{s:A2}{u:Hu}(h:toT s=some u):u.abs=s:=by
 unfold toT at h
 cases e:zPN s.heap.objs.toList 0 .nil with
 |none=>rw[e] at h;cases h
 |some t=>
  rw[e] at h
  cases h
  have:=zJS (life:=s.heap.life) e
  simp only[Fk,Dg] at this
  obtain⟨⟨objs,life⟩,gens,drawn,toks,os⟩:=s
  show(⟨Kk t objs.size life,gens,drawn,toks,os⟩:A2)=_
  rw[this]
  simp[Kk,BT.list]
noncomputable def zGO(tb:String->Option D7)(p:Al)(w:World)(n₀:Nat)(ann:Option Value):Nat->Hu->Thread->Option Hu
 | 0,_,_ => none
 | n + 1,s,t => match through t with
  | true => some s
  | false => match stepOk n₀ ann t with
   |false=>none
   |true=>match stepT (denote tb) p w s t with
    |some (s',t')=>zGO tb p w n₀ ann n s' t'
    |none=>none
theorem zHG{tb:String->Option D7}{p:Al}{w:World}{n₀:Nat}{ann:Option Value}: ∀{n:Nat} {s s':Hu} {t:Thread},zGO tb p w n₀ ann n s t=some s'->topRun tb p w n₀ ann n s.abs t=some s'.abs
 | 0,_,_,_,h => by cases h
 | n + 1,s,s',t,h => by
  unfold zGO at h
  unfold topRun
  cases ht:through t with
  | true => rw [ht] at h;cases h;rfl
  |false=>
   rw[ht] at h
   cases hk:stepOk n₀ ann t with
   |false=>rw[hk] at h;cases h
   |true=>
    rw[hk] at h
    cases hs:stepT (denote tb) p w s t with
    |none=>rw[hs] at h;cases h
    |some r=>obtain⟨s₂,t₂⟩:=r;rw[hs] at h;rw[stepT_spec hs];exact zHG h
noncomputable def impT(tb:String->Option D7)(p:Al)(w:World):Nat->Hu->Thread->Option Hu
 | 0,_,_ => none
 | n + 1,s,t => match t.atExitBegin with
  |some []=>some s
  |some (_::_)=>none
  |none=>match stepT (denote tb) p w s t with
   |some (s',t')=>impT tb p w n s' t'
   |none=>none
theorem zOR{tb:String->Option D7}{p:Al}{w:World}: ∀{n:Nat} {s s':Hu} {t:Thread},impT tb p w n s t=some s'->importEnds tb p w n s.abs t=some s'.abs
 | 0,_,_,_,h => by cases h
 | n + 1,s,s',t,h => by
  unfold impT at h
  unfold importEnds
  cases he:t.atExitBegin with
  |some x=>
   rw[he] at h
   cases x with
   |nil=>cases h;rfl
   |cons=>cases h
  |none=>
   rw[he] at h
   cases hs:stepT (denote tb) p w s t with
   |none=>rw[hs] at h;cases h
   |some r=>obtain⟨s₂,t₂⟩:=r;rw[hs] at h;dsimp only;rw[stepT_spec hs];exact zOR h
noncomputable def zP5(tb:String->Option D7)(p:Al)(w:World)(N:Nat):Option A2:=
 (toT (start (Jo p)).1).bind fun u => (impT tb (Jo p) w N u (start (Jo p)).2).bind fun u1 => (fenceModules? p u1.abs).bind fun s₀ =>
 match s₀.heap.isNs mainGlobals && s₀.gens.size==0 with
 | true => (toT s₀).bind fun v => (zGO tb p w s₀.heap.objs.size (s₀.heap.nsMap mainGlobals "__annotations__") N v (topStub p)).bind fun v1 =>
  match staticsOk (F0 p.main.body) s₀.heap v1.abs.heap && namesBound p v1.abs.heap && gensDone v1.abs && laidKept s₀.heap v1.abs.heap with
   |true=>some v1.abs
   |false=>none
 |false=>none
theorem zRA{tb:String->Option D7}{p:Al}{w:World}{N:Nat}{s:A2}(h:zP5 tb p w N=some s):Kl tb p w N=some s:=by
 unfold zP5 at h
 unfold Kl fencedOpening
 cases e1:toT (start (Jo p)).1 with
 | none => rw [e1] at h;cases h
 |some u=>
  rw[e1,Ae] at h
  cases e2:impT tb (Jo p) w N u (start (Jo p)).2 with
  | none => rw [e2] at h;cases h
  |some u1=>
   rw[e2,Ae] at h
   have e3:=zOR e2
   rw[zN8 e1] at e3
   rw[e3,Ae]
   cases e4:fenceModules? p u1.abs with
   | none => rw [e4] at h;cases h
   |some s₀=>
    rw[e4,Ae] at h
    rw[Ae]
    unfold topFrom
    cases e5:(s₀.heap.isNs mainGlobals && s₀.gens.size==0) with
    | false => rw [e5] at h;cases h
    |true=>
     rw[e5] at h
     dsimp only at h⊢
     cases e6:toT s₀ with
     | none => rw [e6] at h;cases h
     |some v=>
      rw[e6,Ae] at h
      cases e7:zGO tb p w s₀.heap.objs.size (s₀.heap.nsMap mainGlobals "__annotations__") N v (topStub p) with
      |none=>rw[e7] at h;cases h
      |some v1=>
       rw[e7,Ae] at h
       have e8:=zHG e7
       rw[zN8 e6] at e8
       rw[e8,Ae]
       exact h
theorem mapT{α:Type}{tb:String->Option D7}{p:Al}{w:World}{N:Nat}{f:A2->α}{v:α}(h:(zP5 tb p w N).map f=some v):(Kl tb p w N).map f=some v:=by
 cases e:zP5 tb p w N with
 |none=>rw[e] at h;cases h
 |some s=>
  rw[e] at h
  rw[zRA e]
  exact h
end KK
namespace RR
open PySem
def top(i:Nat):Stmt:=PySem.Challenge.pw_lanepacks_k14_programs.main.body.getD i (.Pass ⟨0,0,0,0⟩)
end RR
namespace KK
open PySem PySem.W PySem.Calls PyProof.Rows
def dA(s:Stmt):Arguments:=match s with
 | .FunctionDef _ a _ _ _ _ _ _ _ _=>a
 |_=>⟨[],[],none,[],[],none,[]⟩
def dB(s:Stmt):List Stmt:=match s with
 | .FunctionDef _ _ b _ _ _ _ _ _ _=>b
 |_=>[]
def dS(s:Stmt):Scope:=match s with
 | .FunctionDef _ _ _ _ _ _ c _ _ _=>c
 |_=>{kind:= .function,names:=[],isGenerator:=false,isCoroutine:=false}
abbrev s(x:Str)(t:Nat):Value:= .str x t
abbrev e(P:Jp)(x:Str)(t:Nat)(v:Value):Gp:=⟨PyData.keyHash P x,s x t,v⟩
abbrev f(a i:Nat)(n:Str)(d m:Value):Nat×Obj:=(a,⟨.type "function",none,.func (fnOf n n (dA (RR.top i)) (dB (RR.top i)) (dS (RR.top i)) d .none .none m none (.ref (a - 1)) .none),#[]⟩)
abbrev co(a:Nat)(n:Str)(t:Nat)(l k:Int)(u:Nat)(x y z v:Value):Nat×Obj:=(a,⟨.type "code",none,.fields #[s n t,s n (t+1),s "/claim/cut.py" (t+2),.int l 0,.int k 0,.int 0 0,.int 0 0,.int 3 0,x,.bool true,.int 181 0,y,.none,z,v,.ref (a - 1),.int u 0,.int l 0,s "/claim/cut.py" (u+1)],#[]⟩)
abbrev c(a:Nat)(n:Str)(t:Nat)(l k:Int)(u:Nat):Nat×Obj:=co a n t l k u (.ref (a - 5)) (.ref (a - 4)) (.ref (a - 3)) (.ref (a - 2))
abbrev b(a:Nat)(n:Str)(t:Nat)(l k:Int)(u:Nat):Nat×Obj:=co a n t l k u (.ref (a - 3)) (.ref (a - 2)) .none .none
noncomputable def K(P:Jp):Frag:=[(3,⟨.type "dict",none,.dict #[e P "__name__" 165 (s "law_lanepacks_k14_programs" 844),e P "__doc__" 166 (.none),e P "__package__" 167 (.none),e P "__loader__" 168 (.builtin "__main__.__loader__#opaque"),e P "__spec__" 169 (.none),e P "__annotations__" 170 (.ref 6),e P "__builtins__" 171 (.ref 4),e P "__file__" 173 (s "/claim/cut.py" 172),e P "__cached__" 174 (.none),e P "PackError" 206 (.ref 24),e P "NoBlock" 222 (.ref 37),e P "NoCells" 238 (.ref 49),e P "NoRow" 263 (.ref 68),e P "NoLanes" 279 (.ref 80),e P "NoPlan" 295 (.ref 92),e P "NoProgram" 311 (.ref 104),e P "NoTree" 327 (.ref 116),e P "NoLoop" 343 (.ref 128),e P "NoText" 359 (.ref 140),e P "NoName" 384 (.ref 159),e P "TooMany" 400 (.ref 171),e P "TooLong" 416 (.ref 183),e P "NotValid" 441 (.ref 202),e P "Nothing" 457 (.ref 214),e P "MOST_WORD" 461 (.int 999 460),e P "DEEDS" 469 (.ref 217),e P "is_whole" 478 (.ref 224),e P "plus" 486 (.ref 231),e P "minus" 494 (.ref 238),e P "times" 502 (.ref 245),e P "least" 510 (.ref 252),e P "most" 518 (.ref 259),e P "less" 526 (.ref 266),e P "over" 534 (.ref 273),e P "pick" 543 (.ref 280),e P "MADE" 558 (.ref 281),e P "done" 567 (.ref 288),e P "MOST_SURE" 571 (.int 64 570),e P "MOST_PLACE" 573 (.int 63 572),e P "DEED_PARTS" 576 (.ref 289),e P "OTHER_PARTS" 602 (.ref 290),e P "READERS" 605 (.ref 297),e P "WRITERS" 608 (.ref 298),e P "parts_of" 615 (.ref 305),e P "makes_word" 622 (.ref 312),e P "place_of" 629 (.ref 319),e P "names_of" 635 (.ref 324),e P "may_name" 643 (.ref 331),e P "fits" 652 (.ref 338),e P "is_row" 658 (.ref 343),e P "LEAST_LANES" 662 (.int 2 661),e P "MOST_LANES" 664 (.int 4 663),e P "is_lanes" 671 (.ref 350),e P "MOST_CELLS" 675 (.int 64 674),e P "is_cells" 681 (.ref 355),e P "touches" 689 (.ref 362),e P "do_on_cell" 699 (.ref 369),e P "do_row" 713 (.ref 377),e P "MOST_PROGRAM_ROWS" 717 (.int 400 716),e P "is_for_lanes" 725 (.ref 384),e P "is_wide" 731 (.ref 389),e P "is_gather" 737 (.ref 394),e P "is_shuffle" 743 (.ref 399),e P "is_lane" 752 (.ref 406),e P "is_program_row" 764 (.ref 413),e P "kind_made" 771 (.ref 420),e P "are_program_rows" 783 (.ref 427),e P "is_program" 793 (.ref 434),e P "do_wide" 799 (.ref 439),e P "moved" 805 (.ref 444),e P "do_program_row" 811 (.ref 449),e P "run_program" 829 (.ref 456),e P "row_cost" 837 (.ref 463),e P "cost_of" 843 (.ref 468),e P "_law_cell_at" 855 (.ref 475),e P "_law_mixed" 865 (.ref 482),e P "_law_draw" 874 (.ref 489),e P "_law_pick" 883 (.ref 496),e P "_law_place" 894 (.ref 503),e P "_law_row" 900 (.ref 508),e P "_law_which" 908 (.ref 515),e P "_law_program" 914 (.ref 520),e P "_law_ask" 924 (.ref 527),e P "_law_bad_rows" 935 (.ref 534),e P "law" 954 (.ref 541)] 85,#[]⟩),
 (23,⟨.type "dict",none,.dict #[e P "__module__" 196 (s "lanepacks.errors" 187),e P "__firstlineno__" 200 (.int 2 199),e P "__static_attributes__" 201 (.ref 22),e P "__weakref__" 203 (.ref 25),e P "__doc__" 204 (.none)] 3,#[]⟩),
 (24,⟨.type "type",none,.cls {name:= "PackError",bases:=[.type "ValueError"],mro:=[.ref 24,.type "ValueError",.type "Exception",.type "BaseException",.type "object"],ns:=23,qualname:= "PackError",subclasses:=[.ref 37,.ref 49,.ref 68,.ref 80,.ref 92,.ref 104,.ref 116,.ref 128,.ref 140,.ref 159,.ref 171,.ref 183,.ref 202,.ref 214]},#[some (.ref 15),none,some (s "PackError" 189),some (s "PackError" 197),some (.builtin "ValueError.__new__"),some (.bool true)]⟩),
 (36,⟨.type "dict",none,.dict #[e P "__module__" 214 (s "lanepacks.errors" 187),e P "__firstlineno__" 218 (.int 4 217),e P "__static_attributes__" 219 (.ref 35),e P "__doc__" 220 (.none)] 2,#[]⟩),
 (37,⟨.type "type",none,.cls {name:= "NoBlock",bases:=[.ref 24],mro:=[.ref 37,.ref 24,.type "ValueError",.type "Exception",.type "BaseException",.type "object"],ns:=36,qualname:= "NoBlock"},#[some (.ref 28),none,some (s "NoBlock" 207),some (s "NoBlock" 215),some (.builtin "ValueError.__new__"),some (.bool true)]⟩),
 (48,⟨.type "dict",none,.dict #[e P "__module__" 230 (s "lanepacks.errors" 187),e P "__firstlineno__" 234 (.int 6 233),e P "__static_attributes__" 235 (.ref 47),e P "__doc__" 236 (.none)] 2,#[]⟩),
 (49,⟨.type "type",none,.cls {name:= "NoCells",bases:=[.ref 24],mro:=[.ref 49,.ref 24,.type "ValueError",.type "Exception",.type "BaseException",.type "object"],ns:=48,qualname:= "NoCells"},#[some (.ref 40),none,some (s "NoCells" 223),some (s "NoCells" 231),some (.builtin "ValueError.__new__"),some (.bool true)]⟩),
 (67,⟨.type "dict",none,.dict #[e P "__module__" 246 (s "lanepacks.errors" 187),e P "__firstlineno__" 250 (.int 8 249),e P "__init__" 258 (.ref 65),e P "__static_attributes__" 260 (.ref 66),e P "__doc__" 261 (.none)] 2,#[]⟩),
 (68,⟨.type "type",none,.cls {name:= "NoRow",bases:=[.ref 24],mro:=[.ref 68,.ref 24,.type "ValueError",.type "Exception",.type "BaseException",.type "object"],ns:=67,qualname:= "NoRow"},#[some (.ref 52),none,some (s "NoRow" 239),some (s "NoRow" 247),some (.builtin "ValueError.__new__"),some (.bool true)]⟩),
 (79,⟨.type "dict",none,.dict #[e P "__module__" 271 (s "lanepacks.errors" 187),e P "__firstlineno__" 275 (.int 13 274),e P "__static_attributes__" 276 (.ref 78),e P "__doc__" 277 (.none)] 2,#[]⟩),
 (80,⟨.type "type",none,.cls {name:= "NoLanes",bases:=[.ref 24],mro:=[.ref 80,.ref 24,.type "ValueError",.type "Exception",.type "BaseException",.type "object"],ns:=79,qualname:= "NoLanes"},#[some (.ref 71),none,some (s "NoLanes" 264),some (s "NoLanes" 272),some (.builtin "ValueError.__new__"),some (.bool true)]⟩),
 (91,⟨.type "dict",none,.dict #[e P "__module__" 287 (s "lanepacks.errors" 187),e P "__firstlineno__" 291 (.int 15 290),e P "__static_attributes__" 292 (.ref 90),e P "__doc__" 293 (.none)] 2,#[]⟩),
 (92,⟨.type "type",none,.cls {name:= "NoPlan",bases:=[.ref 24],mro:=[.ref 92,.ref 24,.type "ValueError",.type "Exception",.type "BaseException",.type "object"],ns:=91,qualname:= "NoPlan"},#[some (.ref 83),none,some (s "NoPlan" 280),some (s "NoPlan" 288),some (.builtin "ValueError.__new__"),some (.bool true)]⟩),
 (103,⟨.type "dict",none,.dict #[e P "__module__" 303 (s "lanepacks.errors" 187),e P "__firstlineno__" 307 (.int 17 306),e P "__static_attributes__" 308 (.ref 102),e P "__doc__" 309 (.none)] 2,#[]⟩),
 (104,⟨.type "type",none,.cls {name:= "NoProgram",bases:=[.ref 24],mro:=[.ref 104,.ref 24,.type "ValueError",.type "Exception",.type "BaseException",.type "object"],ns:=103,qualname:= "NoProgram"},#[some (.ref 95),none,some (s "NoProgram" 296),some (s "NoProgram" 304),some (.builtin "ValueError.__new__"),some (.bool true)]⟩),
 (115,⟨.type "dict",none,.dict #[e P "__module__" 319 (s "lanepacks.errors" 187),e P "__firstlineno__" 323 (.int 19 322),e P "__static_attributes__" 324 (.ref 114),e P "__doc__" 325 (.none)] 2,#[]⟩),
 (116,⟨.type "type",none,.cls {name:= "NoTree",bases:=[.ref 24],mro:=[.ref 116,.ref 24,.type "ValueError",.type "Exception",.type "BaseException",.type "object"],ns:=115,qualname:= "NoTree"},#[some (.ref 107),none,some (s "NoTree" 312),some (s "NoTree" 320),some (.builtin "ValueError.__new__"),some (.bool true)]⟩),
 (127,⟨.type "dict",none,.dict #[e P "__module__" 335 (s "lanepacks.errors" 187),e P "__firstlineno__" 339 (.int 21 338),e P "__static_attributes__" 340 (.ref 126),e P "__doc__" 341 (.none)] 2,#[]⟩),
 (128,⟨.type "type",none,.cls {name:= "NoLoop",bases:=[.ref 24],mro:=[.ref 128,.ref 24,.type "ValueError",.type "Exception",.type "BaseException",.type "object"],ns:=127,qualname:= "NoLoop"},#[some (.ref 119),none,some (s "NoLoop" 328),some (s "NoLoop" 336),some (.builtin "ValueError.__new__"),some (.bool true)]⟩),
 (139,⟨.type "dict",none,.dict #[e P "__module__" 351 (s "lanepacks.errors" 187),e P "__firstlineno__" 355 (.int 23 354),e P "__static_attributes__" 356 (.ref 138),e P "__doc__" 357 (.none)] 2,#[]⟩),
 (140,⟨.type "type",none,.cls {name:= "NoText",bases:=[.ref 24],mro:=[.ref 140,.ref 24,.type "ValueError",.type "Exception",.type "BaseException",.type "object"],ns:=139,qualname:= "NoText"},#[some (.ref 131),none,some (s "NoText" 344),some (s "NoText" 352),some (.builtin "ValueError.__new__"),some (.bool true)]⟩),
 (158,⟨.type "dict",none,.dict #[e P "__module__" 367 (s "lanepacks.errors" 187),e P "__firstlineno__" 371 (.int 25 370),e P "__init__" 379 (.ref 156),e P "__static_attributes__" 381 (.ref 157),e P "__doc__" 382 (.none)] 2,#[]⟩),
 (159,⟨.type "type",none,.cls {name:= "NoName",bases:=[.ref 24],mro:=[.ref 159,.ref 24,.type "ValueError",.type "Exception",.type "BaseException",.type "object"],ns:=158,qualname:= "NoName"},#[some (.ref 143),none,some (s "NoName" 360),some (s "NoName" 368),some (.builtin "ValueError.__new__"),some (.bool true)]⟩),
 (170,⟨.type "dict",none,.dict #[e P "__module__" 392 (s "lanepacks.errors" 187),e P "__firstlineno__" 396 (.int 30 395),e P "__static_attributes__" 397 (.ref 169),e P "__doc__" 398 (.none)] 2,#[]⟩),
 (171,⟨.type "type",none,.cls {name:= "TooMany",bases:=[.ref 24],mro:=[.ref 171,.ref 24,.type "ValueError",.type "Exception",.type "BaseException",.type "object"],ns:=170,qualname:= "TooMany"},#[some (.ref 162),none,some (s "TooMany" 385),some (s "TooMany" 393),some (.builtin "ValueError.__new__"),some (.bool true)]⟩),
 (182,⟨.type "dict",none,.dict #[e P "__module__" 408 (s "lanepacks.errors" 187),e P "__firstlineno__" 412 (.int 32 411),e P "__static_attributes__" 413 (.ref 181),e P "__doc__" 414 (.none)] 2,#[]⟩),
 (183,⟨.type "type",none,.cls {name:= "TooLong",bases:=[.ref 24],mro:=[.ref 183,.ref 24,.type "ValueError",.type "Exception",.type "BaseException",.type "object"],ns:=182,qualname:= "TooLong"},#[some (.ref 174),none,some (s "TooLong" 401),some (s "TooLong" 409),some (.builtin "ValueError.__new__"),some (.bool true)]⟩),
 (201,⟨.type "dict",none,.dict #[e P "__module__" 424 (s "lanepacks.errors" 187),e P "__firstlineno__" 428 (.int 34 427),e P "__init__" 436 (.ref 199),e P "__static_attributes__" 438 (.ref 200),e P "__doc__" 439 (.none)] 2,#[]⟩),
 (202,⟨.type "type",none,.cls {name:= "NotValid",bases:=[.ref 24],mro:=[.ref 202,.ref 24,.type "ValueError",.type "Exception",.type "BaseException",.type "object"],ns:=201,qualname:= "NotValid"},#[some (.ref 186),none,some (s "NotValid" 417),some (s "NotValid" 425),some (.builtin "ValueError.__new__"),some (.bool true)]⟩),
 (213,⟨.type "dict",none,.dict #[e P "__module__" 449 (s "lanepacks.errors" 187),e P "__firstlineno__" 453 (.int 39 452),e P "__static_attributes__" 454 (.ref 212),e P "__doc__" 455 (.none)] 2,#[]⟩),
 (214,⟨.type "type",none,.cls {name:= "Nothing",bases:=[.ref 24],mro:=[.ref 214,.ref 24,.type "ValueError",.type "Exception",.type "BaseException",.type "object"],ns:=213,qualname:= "Nothing"},#[some (.ref 205),none,some (s "Nothing" 442),some (s "Nothing" 450),some (.builtin "ValueError.__new__"),some (.bool true)]⟩),
 (217,⟨.type "tuple",none,.seq #[s "plus" 462,s "minus" 463,s "times" 464,s "least" 465,s "most" 466,s "less" 467,s "over" 468] 0,#[]⟩),
 f 224 19 "is_whole" (.none) (s "lanepacks.words" 458),
 c 223 "is_whole" 470 44 3 476,
 f 231 20 "plus" (.none) (s "lanepacks.words" 458),
 c 230 "plus" 479 48 2 484,
 f 238 21 "minus" (.none) (s "lanepacks.words" 458),
 c 237 "minus" 487 50 2 492,
 f 245 22 "times" (.none) (s "lanepacks.words" 458),
 c 244 "times" 495 52 2 500,
 f 252 23 "least" (.none) (s "lanepacks.words" 458),
 c 251 "least" 503 54 2 508,
 f 259 24 "most" (.none) (s "lanepacks.words" 458),
 c 258 "most" 511 56 2 516,
 f 266 25 "less" (.none) (s "lanepacks.words" 458),
 c 265 "less" 519 58 2 524,
 f 273 26 "over" (.none) (s "lanepacks.words" 458),
 c 272 "over" 527 60 2 532,
 f 280 27 "pick" (.none) (s "lanepacks.words" 458),
 c 279 "pick" 535 62 3 541,
 (281,⟨.type "dict",none,.dict #[e P "plus" 544 (.ref 231),e P "minus" 545 (.ref 238),e P "times" 546 (.ref 245),e P "least" 547 (.ref 252),e P "most" 548 (.ref 259),e P "less" 549 (.ref 266),e P "over" 550 (.ref 273)] 7,#[]⟩),
 f 288 29 "done" (.none) (s "lanepacks.words" 458),
 c 287 "done" 559 65 2 565,
 (289,⟨.type "tuple",none,.seq #[s "row" 574,s "row" 575] 0,#[]⟩),
 (290,⟨.type "dict",none,.dict #[e P "number" 577 (.ref 291),e P "pick" 579 (.ref 292),e P "load" 583 (.ref 293),e P "take" 585 (.ref 294),e P "store" 589 (.ref 295),e P "put" 592 (.ref 296)] 6,#[]⟩),
 (291,⟨.type "tuple",none,.seq #[s "word" 578] 0,#[]⟩),
 (292,⟨.type "tuple",none,.seq #[s "row" 580,s "row" 581,s "row" 582] 0,#[]⟩),
 (293,⟨.type "tuple",none,.seq #[s "place" 584] 0,#[]⟩),
 (294,⟨.type "tuple",none,.seq #[s "place" 586,s "row" 587,s "row" 588] 0,#[]⟩),
 (295,⟨.type "tuple",none,.seq #[s "place" 590,s "row" 591] 0,#[]⟩),
 (296,⟨.type "tuple",none,.seq #[s "place" 593,s "row" 594,s "row" 595] 0,#[]⟩),
 (297,⟨.type "tuple",none,.seq #[s "load" 603,s "take" 604] 0,#[]⟩),
 (298,⟨.type "tuple",none,.seq #[s "store" 606,s "put" 607] 0,#[]⟩),
 f 305 37 "parts_of" (.none) (s "lanepacks.blocks" 568),
 c 304 "parts_of" 609 77 1 613,
 f 312 38 "makes_word" (.none) (s "lanepacks.blocks" 568),
 c 311 "makes_word" 616 81 1 620,
 f 319 39 "place_of" (.none) (s "lanepacks.blocks" 568),
 c 318 "place_of" 623 83 1 627,
 f 324 40 "names_of" (.none) (s "lanepacks.blocks" 568),
 b 323 "names_of" 630 85 1 633,
 f 331 41 "may_name" (.none) (s "lanepacks.blocks" 568),
 c 330 "may_name" 636 88 2 641,
 f 338 42 "fits" (.none) (s "lanepacks.blocks" 568),
 c 337 "fits" 644 90 3 650,
 f 343 43 "is_row" (.none) (s "lanepacks.blocks" 568),
 b 342 "is_row" 653 96 2 656,
 f 350 47 "is_lanes" (.none) (s "lanepacks.plans" 659),
 c 349 "is_lanes" 665 107 1 669,
 f 355 50 "is_cells" (.none) (s "lanepacks.running" 672),
 b 354 "is_cells" 676 111 2 679,
 f 362 51 "touches" (.none) (s "lanepacks.running" 672),
 c 361 "touches" 682 115 2 687,
 f 369 52 "do_on_cell" (.none) (s "lanepacks.running" 672),
 c 368 "do_on_cell" 690 121 4 697,
 (370,⟨.type "tuple",none,.seq #[.int 0 700] 0,#[]⟩),
 f 377 53 "do_row" (.ref 370) (s "lanepacks.running" 672),
 c 376 "do_row" 701 130 4 711,
 f 384 56 "is_for_lanes" (.none) (s "lanepacks.machines" 714),
 c 383 "is_for_lanes" 718 141 2 723,
 f 389 57 "is_wide" (.none) (s "lanepacks.machines" 714),
 b 388 "is_wide" 726 143 3 729,
 f 394 58 "is_gather" (.none) (s "lanepacks.machines" 714),
 b 393 "is_gather" 732 147 3 735,
 f 399 59 "is_shuffle" (.none) (s "lanepacks.machines" 714),
 b 398 "is_shuffle" 738 151 3 741,
 f 406 60 "is_lane" (.none) (s "lanepacks.machines" 714),
 c 405 "is_lane" 744 155 3 750,
 f 413 61 "is_program_row" (.none) (s "lanepacks.machines" 714),
 c 412 "is_program_row" 753 157 4 762,
 f 420 62 "kind_made" (.none) (s "lanepacks.machines" 714),
 c 419 "kind_made" 765 170 1 769,
 f 427 63 "are_program_rows" (.none) (s "lanepacks.machines" 714),
 c 426 "are_program_rows" 772 176 2 781,
 f 434 64 "is_program" (.none) (s "lanepacks.machines" 714),
 c 433 "is_program" 784 185 1 791,
 f 439 65 "do_wide" (.none) (s "lanepacks.machines" 714),
 b 438 "do_wide" 794 194 4 797,
 f 444 66 "moved" (.none) (s "lanepacks.machines" 714),
 b 443 "moved" 800 205 2 803,
 f 449 67 "do_program_row" (.none) (s "lanepacks.machines" 714),
 b 448 "do_program_row" 806 212 4 809,
 f 456 68 "run_program" (.none) (s "lanepacks.machines" 714),
 c 455 "run_program" 812 219 2 827,
 f 463 69 "row_cost" (.none) (s "lanepacks.machines" 714),
 c 462 "row_cost" 830 233 2 835,
 f 468 70 "cost_of" (.none) (s "lanepacks.machines" 714),
 b 467 "cost_of" 838 237 1 841,
 f 475 72 "_law_cell_at" (.none) (s "law_lanepacks_k14_programs" 844),
 c 474 "_law_cell_at" 846 243 2 853,
 f 482 73 "_law_mixed" (.none) (s "law_lanepacks_k14_programs" 844),
 c 481 "_law_mixed" 856 252 3 863,
 f 489 74 "_law_draw" (.none) (s "law_lanepacks_k14_programs" 844),
 c 488 "_law_draw" 866 255 3 872,
 f 496 75 "_law_pick" (.none) (s "law_lanepacks_k14_programs" 844),
 c 495 "_law_pick" 875 258 3 881,
 f 503 76 "_law_place" (.none) (s "law_lanepacks_k14_programs" 844),
 c 502 "_law_place" 884 260 5 892,
 f 508 77 "_law_row" (.none) (s "law_lanepacks_k14_programs" 844),
 b 507 "_law_row" 895 263 5 898,
 f 515 78 "_law_which" (.none) (s "law_lanepacks_k14_programs" 844),
 c 514 "_law_which" 901 281 1 906,
 f 520 79 "_law_program" (.none) (s "law_lanepacks_k14_programs" 844),
 b 519 "_law_program" 909 289 3 912,
 f 527 80 "_law_ask" (.none) (s "law_lanepacks_k14_programs" 844),
 c 526 "_law_ask" 915 313 3 922,
 f 534 81 "_law_bad_rows" (.none) (s "law_lanepacks_k14_programs" 844),
 c 533 "_law_bad_rows" 925 318 2 933,
 f 541 82 "law" (.none) (s "law_lanepacks_k14_programs" 844),
 c 540 "law" 936 327 1 952]
noncomputable def A:List Nat:=[3,23,24,36,37,48,49,67,68,79,80,91,92,103,104,115,116,127,128,139,140,158,159,170,171,182,183,201,202,213,214,217,224,223,231,230,238,237,245,244,252,251,259,258,266,265,273,272,280,279,281,288,287,289,290,291,292,293,294,295,296,297,298,305,304,312,311,319,318,324,323,331,330,338,337,343,342,350,349,355,354,362,361,369,368,370,377,376,384,383,389,388,394,393,399,398,406,405,413,412,420,419,427,426,434,433,439,438,444,443,449,448,456,455,463,462,468,467,475,474,482,481,489,488,496,495,503,502,508,507,515,514,520,519,527,526,534,533,541,540]
noncomputable def view:Al:={Gi with main:={PySem.Challenge.pw_lanepacks_k14_programs.main with body:=[1,2,3,4,5,6,7,8,9,10,11,12,13,14,15,17,18,19,20,21,22,23,24,25,26,27,28,29,31,32,33,34,35,36,37,38,39,40,41,42,43,45,46,47,49,50,51,52,55,56,57,58,59,60,61,62,63,64,65,66,67,68,69,70,72,73,74,75,76,77,78,79,80,81,82].map RR.top}}
abbrev lo:List Str:=["MADE","OTHER_PARTS","do_row"]
theorem kA(P:Jp):A=(K P).map (·.1):=by kernel_rfl
noncomputable def X(s:A2):Bool:=xlAt view [] s && recOk (RowW.records (OpenRow.toRowW PySem.Challenge.rw_lanepacks_k14_programs.row)) s
noncomputable abbrev H:Hook:=kHook K A kA
abbrev pr:Al:=PySem.Challenge.rw_lanepacks_k14_programs.row.prog
abbrev go(w:World)(b:Bool):Option A2:=zP5 treeTable pr (w.withFollow "special-get-raises" b) 10386
noncomputable abbrev fA(s:A2):=seen ((recsOf view).map (·.name)) (ownsOf view) [] {s with gens:= #[]}
noncomputable abbrev fB(s:A2):=(s.heap.bltView,tabsOk view s)
noncomputable abbrev fC(s:A2):Bool:=s.heap.keysOk (Kb view lo) ((recsOf view).map (·.name)) ((litsOf view).map (·.1)) ((clssOf view (Kb view lo)).map (·.name)) && s.heap.accountedOkI (F0 pr.main.body) && s.heap.isNs mainGlobals && s.heap.isNs builtinsNs && tablesOk view s.heap && X s && (if true then s.gens.size==0 else !leftWithCleanup s.gens)
noncomputable abbrev fD(s:A2):=(pinSeenD view (Km view) s,plainSeenE view (Kb view lo) s,plainSeenD view lo s,wideSeen view s,clsSeenW view lo s,H.obs s)
set_option maxRecDepth 100000 in
set_option maxHeartbeats 0 in
theorem rAf(w:World):(go w false).map fA=some (Kc view):=by kernel_rfl
set_option maxRecDepth 100000 in
set_option maxHeartbeats 0 in
theorem rBf(w:World):(go w false).map fB=some ((Ie,true)):=by kernel_rfl
set_option maxRecDepth 100000 in
set_option maxHeartbeats 0 in
theorem rCf(w:World):(go w false).map fC=some (true):=by kernel_rfl
set_option maxRecDepth 100000 in
set_option maxHeartbeats 0 in
theorem rDf(w:World):(go w false).map fD=some ((pinGoodD (Km view),Ke view (Kb view lo),Kf view lo,wideGood view,clsGoodW view lo,H.val (w.withFollow "special-get-raises" false))):=by kernel_rfl
set_option maxRecDepth 100000 in
set_option maxHeartbeats 0 in
theorem rAt(w:World):(go w true).map fA=some (Kc view):=by kernel_rfl
set_option maxRecDepth 100000 in
set_option maxHeartbeats 0 in
theorem rBt(w:World):(go w true).map fB=some ((Ie,true)):=by kernel_rfl
set_option maxRecDepth 100000 in
set_option maxHeartbeats 0 in
theorem rCt(w:World):(go w true).map fC=some (true):=by kernel_rfl
set_option maxRecDepth 100000 in
set_option maxHeartbeats 0 in
theorem rDt(w:World):(go w true).map fD=some ((pinGoodD (Km view),Ke view (Kb view lo),Kf view lo,wideGood view,clsGoodW view lo,H.val (w.withFollow "special-get-raises" true))):=by kernel_rfl
theorem jn{o:Option A2}{v:H.α}(ha:o.map fA=some (Kc view))(hb:o.map fB=some (Ie,true))(hc:o.map fC=some true)(hd:o.map fD=some (pinGoodD (Km view),Ke view (Kb view lo),Kf view lo,wideGood view,clsGoodW view lo,v)):
  o.map (fun s=>(openSeen view lo (F0 pr.main.body) X true s,H.obs s))=some (openGood view lo,v):=by
 cases o with
 |none=>cases ha
 |some s=>
  have ea:fA s=_:=B4 ha
  have eb:fB s=_:=B4 hb
  have ec:fC s=_:=B4 hc
  have ed:fD s=_:=B4 hd
  obtain⟨b1,b2⟩:=F1 eb
  obtain⟨d1,ed⟩:=F1 ed
  obtain⟨d2,ed⟩:=F1 ed
  obtain⟨d3,ed⟩:=F1 ed
  obtain⟨d4,ed⟩:=F1 ed
  obtain⟨d5,d6⟩:=F1 ed
  show some ((fA s,s.heap.bltView,fC s,tabsOk view s,pinSeenD view (Km view) s,plainSeenE view (Kb view lo) s,plainSeenD view lo s,wideSeen view s,clsSeenW view lo s),H.obs s)=_
  rw[ea,b1,ec,b2,d1,d2,d3,d4,d5,d6]
  rfl
theorem hl:LeftO pr view lo X H.obs H.val 10386:=fun w=>byRow2 "special-get-raises" (P:=fun w=>(Kl treeTable pr w 10386).map (fun s=>(openSeen view lo (F0 pr.main.body) X true s,H.obs s))=some (openGood view lo,H.val w)) (fun w=>jn (mapT (rAf w)) (mapT (rBf w)) (mapT (rCf w)) (mapT (rDf w))) (fun w=>jn (mapT (rAt w)) (mapT (rBt w)) (mapT (rCt w)) (mapT (rDt w))) w
set_option maxRecDepth 100000 in
set_option maxHeartbeats 0 in
theorem said:PySem.Challenge.rw_lanepacks_k14_programs.wellSaid=true:=by kernel_rfl
end KK
namespace L2
open PySem PySem.Spec PyProof.Rows
abbrev Key:=Sum Int Str
noncomputable def zMJ:Key->Value->Bool
 | .inl k,v=>L7 k v
 | .inr x,v=>Kn x v
noncomputable def keyH(w:World):Key->Int
 | .inl k=>hashInt k
 | .inr x=>hashStr w x
theorem zBK: ∀{k:Key} {v:Value},zMJ k v=true->(∃i t,k=Iq i/\v=Jq i t)∨(∃x t,k=Ir x/\v=Jr x t)
 | .inl i,v,h=>by
  obtain⟨t,e⟩:=Value.isInt_shape (k:=i) (v:=v) h
  exact .inl ⟨i,t,rfl,e⟩
 | .inr x,v,h=>by
  obtain⟨t,e⟩:=Value.isStrOf_shape (x:=x) (v:=v) h
  exact .inr ⟨x,t,rfl,e⟩
theorem zOK(i:Int)(t:Tok):zMJ (.inl i) (.int i t)=true:=by simp[zMJ,L7]
theorem zOJ(x:Str)(t:Tok):zMJ (.inr x) (.str x t)=true:=by simp[zMJ,Kn]
theorem zYW(a b:Int):decide ((Iq a:Key)=Iq b)=(a==b):=by
 by_cases e:a=b
 ·subst e;simp
 ·have h : ¬ (Iq a : Key) = Iq b := fun q => e (Sum.inl.inj q)
  rw[decide_eq_false h]
  exact(beq_eq_false_iff_ne.mpr e).symm
theorem zYT(a b:Str):decide ((Ir a:Key)=Ir b)=decide (a=b):=by
 by_cases e:a=b
 ·subst e;simp
 ·have h : ¬ (Ir a : Key) = Ir b := fun q => e (Sum.inr.inj q)
  rw[decide_eq_false h,decide_eq_false e]
theorem zYV(a:Int)(b:Str):decide ((Iq a:Key)=Ir b)=false:=decide_eq_false (fun q=>nomatch q)
theorem zYU(a:Str)(b:Int):decide ((Ir a:Key)=Iq b)=false:=decide_eq_false (fun q=>nomatch q)
noncomputable def zBT(prog:Al)(w:World):PySem.KeyKind prog w Key where
 is:=zMJ
 hash:=keyH w
 inj:=fun v a b ha hb=>by
  rcases zBK ha with⟨i,t,rfl,rfl⟩|⟨x,t,rfl,rfl⟩
  ·rcases zBK hb with⟨j,u,rfl,e⟩|⟨y,u,rfl,e⟩
   ·injection e with e1 _;rw[e1]
   ·exact nomatch e
  ·rcases zBK hb with⟨j,u,rfl,e⟩|⟨y,u,rfl,e⟩
   ·exact nomatch e
   ·injection e with e1 _;rw[e1]
 byValue:=fun k v h=>by
  rcases zBK h with⟨i,t,rfl,rfl⟩|⟨x,t,rfl,rfl⟩<;>rfl
 pyHash:=fun hv h=>by
  rcases zBK hv with⟨i,t,rfl,rfl⟩|⟨x,t,rfl,rfl⟩
  ·exact wpAny_pyHash_int h
  ·exact wpAny_pyHash_str h
 eqBool:=fun hu hv h=>by
  rcases zBK hu with⟨i,t,rfl,rfl⟩|⟨x,t,rfl,rfl⟩
  ·rcases zBK hv with⟨j,u,rfl,rfl⟩|⟨y,u,rfl,rfl⟩
   ·rw[zYW] at h;exact wpAny_eqBool_int h
   ·rw[zYV] at h;exact SeqAt.EqAt.int_str i t y u _ _ _ _ h
  ·rcases zBK hv with⟨j,u,rfl,rfl⟩|⟨y,u,rfl,rfl⟩
   ·rw[zYU] at h;exact SeqAt.EqAt.str_int x t j u _ _ _ _ h
   ·rw[zYT] at h;exact wpAny_eqBool_str h
 «strs» :=fun k x t v h=>by
  rcases zBK h with⟨i,u,rfl,e⟩|⟨y,u,rfl,e⟩
  ·exact nomatch e
  ·injection e with e1 _
   subst e1
   cases v<;>rfl
theorem zKK(prog:Al)(w:World)(i:Int)(t:Tok):(zBT prog w).is (.inl i) (.int i t)=true:=zOK i t
theorem zKJ(prog:Al)(w:World)(x:Str)(t:Tok):(zBT prog w).is (.inr x) (.str x t)=true:=zOJ x t
inductive V where
 |non|bl (b:Bool)|int (i:Int)|str (x:Str)|byt (b:Array UInt8)|flt (b:UInt64)|ref (a:Addr)|ty (n:String)
 deriving DecidableEq
def RelV:V->Value->Prop
 | .non,u=>u=Value.none
 | .bl b,u=>u=Dk b
 | .int i,u=> ∃t,u=Jq i t
 | .str x,u=> ∃t,u=Jr x t
 | .byt b,u=> ∃t,u=Value.bytes b t
 | .flt b,u=> ∃t,u=L8 b t
 | .ref a,u=>u=Au a
 | .ty n,u=>u=Fu n
abbrev Vals:List V->List Value->Prop:=Paired RelV
theorem Vals.length{xs:List V}{us:List Value}(r:Vals xs us):xs.length=us.length:=Ig r
theorem Vals.get: ∀{xs:List V} {us:List Value} {i:Nat} {x:V},Vals xs us->xs[i]? =some x-> ∃u,us[i]? =some u/\RelV x u
 |_,_,_,_,.nil,e=>by simp at e
 |_,_,0,_,.cons r _,e=>by simp at e;subst e;exact⟨_,rfl,r⟩
 |_,_,i+1,x,.cons _ t,e=>by
  obtain⟨u,h1,h2⟩:=Vals.get (i:=i) (x:=x) t (by simpa using e)
  exact⟨u,by simpa using h1,h2⟩
theorem Vals.set{x:V}{u:Value}(r:RelV x u): ∀{xs:List V} {us:List Value} (i:Nat),Vals xs us->Vals (xs.set i x) (us.set i u)
 |_,_,_,.nil=> .nil
 |_,_,0,.cons _ t=> .cons r t
 |_,_,i+1,.cons q t=> .cons q (Vals.set r i t)
theorem Vals.append: ∀{xs ys:List V} {us ws:List Value},Vals xs us->Vals ys ws->Vals (xs++ys) (us++ws)
 |_,_,_,_,.nil,s=>s
 |_,_,_,_,.cons r t,s=> .cons r (Vals.append t s)
theorem Vals.take: ∀{xs:List V} {us:List Value} (n:Nat),Vals xs us->Vals (xs.take n) (us.take n)
 |_,_,0,_=> .nil
 |_,_,_+1,.nil=> .nil
 |_,_,n+1,.cons r t=> .cons r (Vals.take n t)
theorem Vals.drop: ∀{xs:List V} {us:List Value} (n:Nat),Vals xs us->Vals (xs.drop n) (us.drop n)
 |_,_,0,r=>r
 |_,_,_+1,.nil=> .nil
 |_,_,n+1,.cons _ t=>Vals.drop n t
def RelO:Option V->Option Value->Prop
 |some v,some u=>RelV v u
 |none,none=>True
 |_,_=>False
def KV{κ:Type}:List (κ×V)->List (κ×Value)->Prop:=Paired fun(p:κ×V) (q:κ×Value)=>p.1=q.1/\RelV p.2 q.2
noncomputable def kV:Key->V
 | .inl i=> .int i
 | .inr x=> .str x
inductive HO where
 |lst (xs:List V)
 |tup (xs:List V)
 |dK (kvs:List (Key×V))|dT (kvs:List (List Key×V))
 |set (S:Int->Bool) (n:Nat)
 |ins (C dx:Addr) (fs:List (Str×V))
 |own (x:Addr)
 |xd (fs:List (Str×V))
 |met (f x:Addr)
 |rng (lo hi:Int)
 |frz (o:Obj) (u:HO)
 |tbl (ps:Array Value)
 |ext (φ:Heap->Prop)
abbrev Hp:=Addr->Option HO
noncomputable def upd(H:Hp)(a:Addr)(o:HO):Hp:=fun b=>if b=a then some o else H b
theorem zAR{H:Hp}{a:Addr}{o:HO}:upd H a o a=some o:=by unfold upd;rw[if_pos rfl]
theorem zAX{H:Hp}{a b:Addr}{o:HO}(h:b≠a):upd H a o b=H b:=by unfold upd;rw[if_neg h]
theorem yC1{H:Hp}{a b:Addr}{o u:HO}(h:H a=some o)(h':H b=some u)(d:o≠u):a≠b:=by intro e;subst e;rw[h] at h';exact d (B4 h')
theorem zCQ{H:Hp}{a b:Addr}{o:HO}(h:H a=some o)(h':H b=none):a≠b:=by intro e;subst e;rw[h] at h';cases h'
section
variable(P:Al)(w:World)
def zC7(H:Hp)(h:Heap)(a:Addr):HO->Prop
 | .lst xs => xs.length <= sizeLine /\ ∃ (its : List Value) (n : Nat),Vals xs its /\ h.get? a = some { cls := .type "list",data := .seq its.toArray n }
 | .tup xs => xs.length <= sizeLine /\ ∃ its : List Value,Vals xs its /\ IsTup h a its.toArray
 | .dK kvs => kvs.length <= sizeLine /\ (a == Cw) = false /\ ∃ vs,KV kvs vs /\ h.DictOf (zBT P w) a vs
 | .dT kvs => kvs.length <= sizeLine /\ (a == Cw) = false /\ ∃ xs : List (List Key × Addr × Value),
   Paired (fun(p:List Key×V) (q:List Key×Addr×Value)=>p.1=q.1/\H q.2.1=some (.tup (p.1.map kV))/\RelV p.2 q.2.2) kvs xs∧
   ∃o es ep,h.get? a=some o/\o.ExactDict/\o.data= .dict es ep/\es.toList=xs.map (entryOfKey (tupleKind (zBT P w)))/\(xs.map (·.1)).Nodup
 | .set S n => h.SetOf (intKind P w) a S n
 | .ins C dx fs => H dx = some (.own a) /\ fs.length <= 1000 /\ dx ≠ a /\ h.get? a = some (Kw C dx) ∧
   ∃mA,h.Ns1 dx mA/\(∀f,RelO (fs.lookup f) (mA f))/\Kx mA (fs.map (·.1))
 | .own _=> ∃o,h.get? a=some o
 | .xd fs=> ∃mA,h.Ns1 a mA/\ ∀f,RelO (fs.lookup f) (mA f)
 | .rng lo hi=> ∃t u v,h.get? a=some {cls:= .type "range",data:= .fields #[.int lo t,.int hi u,.int 1 v]}
 | .frz o u=>h.get? a=some o/\zC7 H h a u
 | .tbl ps=>h.get? a=some {cls:= .none,data:= .fields ps}
 | .met f x=>h.get? a=some (Js (.ref f) (.ref x))
 | .ext φ=>φ h/\(∃o,h.get? a=some o)/\ ∀h1 h2:Heap,φ h1->(∀o,h1.get? a=some o->h2.get? a=some o)->φ h2
def HOk(H:Hp)(h:Heap):Prop:= ∀a o,H a=some o->zC7 P w H h a o
end
section
variable{P:Al}{w:World}{H H':Hp}{h h':Heap}{a:Addr}{o:HO}
theorem zC7.lt(x:zC7 P w H h a o):a<h.objs.size:=by
 cases o with
 |lst xs=>obtain⟨_,_,_,_,e⟩:=x;exact Ad e
 |tup xs=>obtain⟨_,_,_,p⟩:=x;exact p.lt
 |dK kvs=>obtain⟨_,_,_,_,o,_,_,e,_⟩:=x;exact Ad e
 |dT kvs=>obtain⟨_,_,_,_,o,_,_,e,_⟩:=x;exact Ad e
 |set S n=>obtain⟨o,_,_,_,e,_⟩:=x;exact Ad e
 |ins C dx fs=>obtain⟨_,_,_,e,_⟩:=x;exact Ad e
 |own y=>obtain⟨_,e⟩:=x;exact Ad e
 |xd fs=>obtain⟨_,⟨_,_,_,e,_⟩,_⟩:=x;exact Ad e
 |rng lo hi=>obtain⟨_,_,_,e⟩:=x;exact Ad e
 |frz ob u=>obtain⟨e,_⟩:=x;exact Ad e
 |tbl ps=>exact Ad (show h.get? a=some _ from x)
 |met f y=>exact Ad (show h.get? a=some _ from x)
 |ext φ=>obtain⟨_,⟨_,e⟩,_⟩:=x;exact Ad e
theorem Paired.mapP{α β:Type}{F G:α->β->Prop}: ∀{l₁:List α} {l₂:List β},Paired F l₁ l₂->(∀a b,F a b->G a b)->Paired G l₁ l₂
 |_,_,.nil,_=> .nil
 |_,_,.cons r t,f=> .cons (f _ _ r) (Paired.mapP t f)
theorem zC7.stay(x:zC7 P w H h a o)(k: ∀b u,(b=a∨H b=some (.own a))->h.get? b=some u->h'.get? b=some u)
  (ho: ∀b,H b=some (.own a)->H' b=some (.own a)) (ht: ∀b xs,H b=some (.tup xs)->H' b=some (.tup xs)):zC7 P w H' h' a o:=by
 induction o with
 |lst xs=>obtain⟨z,its,n,r,e⟩:=x;exact⟨z,its,n,r,k _ _ (.inl rfl) e⟩
 |tup xs=>obtain⟨z,its,r,ob,e,c⟩:=x;exact⟨z,its,r,ob,k _ _ (.inl rfl) e,c⟩
 |dK kvs=>obtain⟨z,y,vs,r,ob,es,ep,e,c⟩:=x;exact⟨z,y,vs,r,ob,es,ep,k _ _ (.inl rfl) e,c⟩
 |dT kvs=>
  obtain⟨z,y,xs,r,ob,es,ep,e,c⟩:=x
  exact⟨z,y,xs,Paired.mapP r fun p q z=>⟨z.1,ht _ _ z.2.1,z.2.2⟩,ob,es,ep,k _ _ (.inl rfl) e,c⟩
 |set S n=>obtain⟨ob,es,ep,t,e,c⟩:=x;exact⟨ob,es,ep,t,k _ _ (.inl rfl) e,c⟩
 |ins C dx fs=>
  obtain⟨d,z,ne,e,mA,⟨od,es,ep,e2,c⟩,r⟩:=x
  exact⟨ho _ d,z,ne,k _ _ (.inl rfl) e,mA,⟨od,es,ep,k _ _ (.inr d) e2,c⟩,r⟩
 |own y=>obtain⟨ob,e⟩:=x;exact⟨ob,k _ _ (.inl rfl) e⟩
 |xd fs=>obtain⟨mA,⟨od,es,ep,e,c⟩,r⟩:=x;exact⟨mA,⟨od,es,ep,k _ _ (.inl rfl) e,c⟩,r⟩
 |rng lo hi=>obtain⟨t,u,v,e⟩:=x;exact⟨t,u,v,k _ _ (.inl rfl) e⟩
 |frz ob u ih=>obtain⟨e,q⟩:=x;exact⟨k _ _ (.inl rfl) e,ih q⟩
 |tbl ps=>
  have e:h.get? a=some {cls:= .none,data:= .fields ps}:=x
  show h'.get? a=some {cls:= .none,data:= .fields ps}
  exact k a _ (.inl rfl) e
 |met f y=>
  have e:h.get? a=some (Js (.ref f) (.ref y)):=x
  show h'.get? a=some (Js (.ref f) (.ref y))
  exact k a _ (.inl rfl) e
 |ext φ=>obtain⟨p,⟨o,e⟩,st⟩:=x;exact⟨st _ _ p fun o q=>k _ _ (.inl rfl) q,⟨o,k _ _ (.inl rfl) e⟩,st⟩
theorem HOk.lt(x:HOk P w H h)(e:H a=some o):a<h.objs.size:=(x a o e).lt
theorem HOk.fresh(x:HOk P w H h)(e:h.objs.size<=a):H a=none:=by
 cases q:H a with
 |none=>rfl
 |some u=>exact absurd (Aj (x.lt q) e) (Bt _)
theorem HOk.kept(x:HOk P w H h)(k: ∀b u,h.get? b=some u->h'.get? b=some u):HOk P w H h':=fun a o e=>
 (x a o e).stay (fun b u _ q=>k b u q) (fun _ q=>q) fun _ _ q=>q
theorem HOk.laid(x:HOk P w H h)(k: ∀b u,h.get? b=some u->h'.get? b=some u)(hp:h.objs.size<=a)(new:zC7 P w (upd H a o) h' a o):HOk P w (upd H a o) h':=fun b u e=>by
 have hn:=x.fresh hp
 by_cases hb:b=a
 ·subst hb;rw[zAR] at e;cases e;exact new
 ·rw[zAX hb] at e
  exact(x b u e).stay (fun c v _ q=>k c v q) (fun c q=>by rw[zAX (zCQ q hn)];exact q) fun c xs q=>by rw[zAX (zCQ q hn)];exact q
end
def Rd(H:Hp)(a:Addr)(u:HO):Prop:=H a=some u∨ ∃o,H a=some (.frz o u)
theorem Rd.ok{P:Al}{w:World}{H:Hp}{h:Heap}{a:Addr}{u:HO}(r:Rd H a u)(x:HOk P w H h):zC7 P w H h a u:=by
 rcases r with r|⟨o,r⟩
 ·exact x a u r
 ·obtain⟨_,q⟩:=x a _ r
  exact q
def Mut:Option HO->Prop
 |some (.lst _)=>True
 |some (.dK _)=>True
 |some (.dT _)=>True
 |some (.set _ _)=>True
 |some (.ins _ _ _)=>True
 |some (.ext _)=>True
 |_=>False
section
variable{P:Al}{w:World}{H:Hp}{h h':Heap}{x e:Addr}{o':HO}
theorem HOk.write(ok:HOk P w H h)(mu:Mut (H x))(he:e=x∨H e=some (.own x))(k: ∀b u,b≠e->h.get? b=some u->h'.get? b=some u)(heo: ∃u,h'.get? e=some u)
  (new : zC7 P w (upd H x o') h' x o') : HOk P w (upd H x o') h' := fun b u q => by
 have lu: ∀c y,H c=some (.own y)->c≠x:=fun c y r z=>by subst z;rw[r] at mu;exact mu
 have ni: ∀c xs,H c=some (.tup xs)->c≠x:=fun c xs r z=>by subst z;rw[r] at mu;exact mu
 by_cases hb:b=x
 ·subst hb;rw[zAR] at q;cases q;exact new
 ·rw[zAX hb] at q
  by_cases hbe:b=e
  ·have q':H b=some (.own x):=by
    rcases he with z|z
    ·exact absurd (hbe.trans z) hb
    ·rw[hbe];exact z
   rw[q] at q';cases q'
   obtain⟨v,hv⟩:=heo
   exact⟨v,by rw[hbe];exact hv⟩
  ·refine (ok b u q).stay (fun c v hc r => k c v ?_ r) (fun c r => by rw [zAX (lu c b r)];exact r) fun c xs r => by rw [zAX (ni c xs r)];exact r
   rcases hc with rfl|hc
   ·exact hbe
   ·rintro rfl
    rcases he with z|z
    ·exact lu c b hc z
    ·rw[hc] at z;cases z;exact hb rfl
end
structure Un(fs ex:List Addr)(H H':Hp)(h h':Heap):Prop where
 keep: ∀b o,h.get? b=some o->H b=none->b∉fs->b∉ex->h'.get? b=some o
 slot: ∀b o,h.get? b=some o->H b=none->b∈fs->b∉ex-> ∃sl,h'.get? b=some {o with slots:=sl}
 free: ∀b o,h.get? b=some o->H b=none->b∉ex->H' b=none
 there: ∀b o,h.get? b=some o->b∉ex-> ∃o',h'.get? b=some o'
 tups: ∀b xs,H b=some (.tup xs)->H' b=some (.tup xs)
 frzs: ∀b o u,H b=some (.frz o u)->H' b=some (.frz o u)
 tbls: ∀b ps,H b=some (.tbl ps)-> ∃more,H' b=some (.tbl (ps++more))
section
variable{fs fs' ex ex':List Addr}{H H1 H2:Hp}{h h1 h2 h':Heap}{a x e:Addr}{o:HO}
theorem Un.any(u:Un fs ex H H1 h h1){b:Addr}{ob:Obj}(q:h.get? b=some ob)(n:H b=none)(hx:b∉ex): ∃sl,h1.get? b=some {ob with slots:=sl}:=by
 by_cases hb:b∈fs
 ·exact u.slot b ob q n hb hx
 ·exact⟨ob.slots,u.keep b ob q n hb hx⟩
theorem Un.kept(k: ∀b u,h.get? b=some u->h'.get? b=some u):Un fs ex H H h h':=
 ⟨fun b ob q _ _ _=>k b ob q,fun b ob q _ _ _=>⟨ob.slots,k b ob q⟩,fun _ _ _ n _=>n,fun b ob q _=>⟨ob,k b ob q⟩,fun _ _ q=>q,fun _ _ _ q=>q,fun _ ps q=>⟨#[],by rw[q];simp⟩⟩
theorem Un.refl:Un fs ex H H h h:=Un.kept fun _ _ q=>q
theorem Un.laid(k: ∀b u,h.get? b=some u->h'.get? b=some u)(hp:h.objs.size<=a)(hn:H a=none):Un fs ex H (upd H a o) h h' where
 keep:=fun b u q _ _ _=>k b u q
 slot:=fun b u q _ _ _=>⟨u.slots,k b u q⟩
 free:=fun b u q n _=>by rw[zAX (As (Aj (Ad q) hp))];exact n
 there:=fun b u q _=>⟨u,k b u q⟩
 tups:=fun b xs q=>by rw[zAX (zCQ q hn)];exact q
 frzs:=fun b u xs q=>by rw[zAX (zCQ q hn)];exact q
 tbls:=fun b ps q=>⟨#[],by rw[zAX (zCQ q hn),q];simp⟩
theorem Un.write(mu:Mut (H x))(he:e=x∨H e=some (.own x))(k: ∀b u,b≠e->h.get? b=some u->h'.get? b=some u)(heo: ∃u,h'.get? e=some u):Un fs ex H (upd H x o) h h':=by
 have hx: ∀b,H b=none->b≠x:=fun b n z=>by subst z;rw[n] at mu;exact mu
 have hb: ∀b,H b=none->b≠e:=fun b n z=>by
  subst z
  rcases he with r|r
  ·exact hx b n r
  ·rw[n] at r;cases r
 have hm: ∀b u,H b=some u-> ¬Mut (some u)->b≠x:=fun b u q nm z=>by subst z;rw[q] at mu;exact nm mu
 refine⟨fun b u q n _ _=>k b u (hb b n) q,fun b u q n _ _=>⟨u.slots,k b u (hb b n) q⟩,fun b u q n _=>by rw[zAX (hx b n)];exact n,fun b u q _=> ?_,
  fun b xs q=>by rw[zAX (hm b _ q fun z=>z)];exact q,fun b u xs q=>by rw[zAX (hm b _ q fun z=>z)];exact q,fun b ps q=>⟨#[],by rw[zAX (hm b _ q fun z=>z),q];simp⟩⟩
 by_cases hbe:b=e
 ·subst hbe;exact heo
 ·exact⟨u,k b u hbe q⟩
end
noncomputable def trk(h:Heap)(H:Hp):List Addr:=(Bv h.objs.size).filter fun a=>(H a).isSome
noncomputable def hidT(h:Heap)(H:Hp):Heap:=W.hideAll h (trk h H)
theorem zOT(h:Heap)(H:Hp):(hidT h H).objs.size=h.objs.size:=W.hideAll_size _ _
theorem zR6{h:Heap}{H:Hp}{b:Addr}{o:Obj}(e:h.get? b=some o)(n:H b=none):(hidT h H).get? b=some o:=
 Ih _ e fun hm=>by
  have q:(H b).isSome=true:=(Jt.mp hm).2
  rw[n] at q;simp at q
theorem zU0{h:Heap}{H:Hp}{b:Addr}{o:Obj}(e:(hidT h H).get? b=some o):h.get? b=some o/\H b=none:=by
 have e':h.get? b=some o:=W.of_hideAll (trk h H) e
 refine⟨e',?_⟩
 cases q:H b with
 |none=>rfl
 |some x=>
  have hm:b∈trk h H:=Jt.mpr ⟨Cm.mpr (Ad e'),by simp[q]⟩
  have z:(hidT h H).get? b=none:=W.hideAll_none (trk h H) hm
  rw[z] at e;cases e
structure Mod(K:A5)(mg:Str->Option Value)(base:Heap):Prop where
 kin:K.In base
 glob:base.Ns mainGlobals mg
 blt: ∃mb,base.Ns builtinsNs mb/\ ∀x:Str,x≠ "__name__" ->mb x=Av x
 nolimit:base.NoLimit
structure Cx where
 prog:Al
 w:World
 K:A5
 mg:Str->Option Value
 base:Heap
 A:Ba
 N:List Str
 s₀:A2
 H₀:Hp
 env:Env
 outer:List Env
 stack:List Env
 ex:List Addr
 fn:Str->Bool
 calm:Bool
 pn:List (Addr×Obj)
 xe:Value->A2->Prop
noncomputable def frs(l:List Env):List Addr:=l.filterMap (·.frame)
abbrev Cx.fs(X:Cx):List Addr:=frs X.outer
def Vis(sc:Scope)(x:Str):Prop:=sc.names.lookup x=some .local∨sc.names.lookup x=some .cell∨sc.names.lookup x=some .free
def Loc(sc:Scope)(x:Str):Prop:=sc.names.lookup x=some .local∨sc.names.lookup x=some .cell
def Look(env:Env)(h:Heap)(m:Str->Option Value)(x:Str)(u:Value):Prop:=
 (env.kindOf x=some .local/\m x=some u)∨((env.kindOf x=some .cell∨env.kindOf x=some .free)/\ ∃c,env.cells.lookup x=some c/\h.IsCell c (some u))
structure Cx.Ok(X:Cx):Prop where
 mod:Mod X.K X.mg X.base
 kind:X.env.scope.kind= .function
 glob:X.env.globals=mainGlobals
 blt:X.env.builtins=builtinsNs
 above:X.s₀.heap.objs.size<=X.env.locals
 inj: ∀x y c,X.env.cells.lookup x=some c->X.env.cells.lookup y=some c->x=y
 has: ∀x,(X.env.kindOf x=some .cell∨X.env.kindOf x=some .free)-> ∃c,X.env.cells.lookup x=some c
 cab: ∀x c,X.fn x=true->X.env.cells.lookup x=some c->X.s₀.heap.objs.size<=c
 hd:X.calm=true->X.A.handled=none
 frames:X.A.frames=some X.stack
 stk:X.stack=X.outer∨(X.stack=X.env::X.outer/\X.env.frame=some X.env.locals)
 exf: ∀b∈X.ex,b≠X.env.locals/\ ∀x c,X.env.cells.lookup x=some c->c≠b
 bs: ∀b o,X.base.get? b=some o->X.s₀.heap.get? b=some o/\X.H₀ b=none
 bsz:X.base.objs.size<=X.s₀.heap.objs.size
 noex: ∀b o,X.base.get? b=some o->b∉X.ex
 exfs: ∀b∈X.ex,b∉X.fs
 funs:X.s₀.heap.FunFrames X.base X.outer
 frf: ∀b∈X.fs,X.H₀ b=none
structure Inv(X:Cx)(a5:List (Addr×Obj))(σ:List (Option V))(H:Hp)(s:A2):Prop where
 ok:X.Ok
 os:s.os=X.s₀.os
 bare:G2 s.gens
 base:Un X.fs X.ex X.H₀ H X.s₀.heap s.heap
 loc: ∃m,s.heap.Ns X.env.locals m/\ ∀(i:Nat) (x:Str) (v:V),X.N[i]? =some x->σ[i]? =some (some v)->Vis X.env.scope x-> ∃u,RelV v u/\Look X.env s.heap m x u
 cell: ∀x c,X.env.cells.lookup x=some c-> ∃v,s.heap.IsCell c v
 free:H X.env.locals=none
 freeC: ∀x c,X.env.cells.lookup x=some c->H c=none
 pin: ∀p∈X.pn++a5,s.heap.get? p.1=some p.2/\H p.1=none/\p.1≠X.env.locals/\p.1∉X.fs/\ ∀v,p.2.data≠ .cell v
 hok:HOk X.prog X.w H s.heap
 len:σ.length=X.N.length
section
variable{X:Cx}{a5:List (Addr×Obj)}{σ:List (Option V)}{H H':Hp}{s:A2}{h':Heap}
theorem Cx.Ok.nofr(ok:X.Ok){b:Addr}{o:Obj}(e:X.base.get? b=some o):b∉X.fs:=fun hb=>by
 have:=(ok.funs.mem hb).1
 rw[e] at this;cases this
theorem Inv.bs(I:Inv X a5 σ H s): ∀b o,X.base.get? b=some o->s.heap.get? b=some o/\H b=none:=fun b o e=>
 ⟨I.base.keep b o (I.ok.bs b o e).1 (I.ok.bs b o e).2 (I.ok.nofr e) (I.ok.noex b o e),I.base.free b o (I.ok.bs b o e).1 (I.ok.bs b o e).2 (I.ok.noex b o e)⟩
theorem Inv.bk(I:Inv X a5 σ H s): ∀b o,X.base.get? b=some o->s.heap.get? b=some o:=fun b o e=>(I.bs b o e).1
theorem Inv.mod(I:Inv X a5 σ H s):Mod X.K X.mg X.base:=I.ok.mod
theorem Inv.kIn(I:Inv X a5 σ H s):X.K.In s.heap:=I.ok.mod.kin.keeps I.bk
theorem Inv.lt(I:Inv X a5 σ H s):X.env.locals<s.heap.objs.size:=let ⟨_,hn,_⟩:=I.loc;hn.lt
theorem Inv.sz(I:Inv X a5 σ H s):X.s₀.heap.objs.size<=s.heap.objs.size:=Cy I.ok.above (J5 I.lt)
theorem Inv.nofs(I:Inv X a5 σ H s){a:Addr}(h:s.heap.objs.size<=a):a∉X.fs:=fun hb=>by
 obtain⟨_,o,ho,_⟩:=I.ok.funs.mem hb
 exact absurd (Aj (Ad ho) (Cy I.sz h)) (Bt _)
theorem Inv.cne(I:Inv X a5 σ H s): ∀x c,X.env.cells.lookup x=some c->c≠X.env.locals:=fun x c e z=>by
 obtain⟨v,o,ho,hd⟩:=I.cell x c e
 obtain⟨m,⟨o',es,ep,ho',hd',_⟩,_⟩:=I.loc
 rw[z,ho'] at ho;cases ho;rw[hd'] at hd;cases hd
theorem Inv.funs(I:Inv X a5 σ H s):s.heap.FunFrames X.base X.outer:=by
 have all: ∀(l:List Env),(∀b∈frs l,b∈X.fs)->X.s₀.heap.FunFrames X.base l->s.heap.FunFrames X.base l:=by
  intro l
  induction l with
  |nil=>intro _ _;trivial
  |cons env r ih=>
   intro hs hl
   obtain⟨hk,⟨L,o,hf,hn,ho,hd⟩,hr⟩:=hl
   have hL:L∈X.fs:=hs L (by unfold frs;rw[F2,hf];exact Aw)
   obtain⟨sl,e⟩:=I.base.slot L o ho (I.ok.frf L hL) hL fun z=>I.ok.exfs L z hL
   exact⟨hk,⟨L,_,hf,hn,e,hd⟩,ih (fun b hb=>hs b (by unfold frs;rw[F2,hf];exact Am _ hb)) hr⟩
 exact all X.outer (fun _ hb=>hb) I.ok.funs
theorem Inv.stack(I:Inv X a5 σ H s):s.heap.FunFrames X.base X.stack:=by
 rcases I.ok.stk with e|⟨e,hf⟩
 ·rw[e];exact I.funs
 ·rw[e]
  obtain⟨m,hn,_⟩:=I.loc
  refine .cons (by rw[I.ok.kind];decide) hf hn ?_ I.funs
  exact Heap.get?_none_of_le (Cy I.ok.bsz I.ok.above)
theorem Inv.stkSub(I:Inv X a5 σ H s): ∀b∈frs X.stack,b∈X.env.locals::X.fs:=fun b hb=>by
 rcases I.ok.stk with e|⟨e,hf⟩
 ·rw[e] at hb;exact Am _ hb
 ·rw[e] at hb
  unfold frs at hb
  rw[F2,hf] at hb
  exact hb
theorem Inv.stkFree(I:Inv X a5 σ H s): ∀b∈frs X.stack,H b=none:=fun b hb=>by
 rcases Ac.mp (I.stkSub b hb) with e|hb
 ·rw[e];exact I.free
 ·obtain⟨_,o,ho,_⟩:=I.ok.funs.mem hb
  exact I.base.free b o ho (I.ok.frf b hb) fun z=>I.ok.exfs b z hb
theorem Inv.step{g':Array GenState}{t':Nat}{d':Drawn}{ch:List Addr}(I:Inv X a5 σ H s)
  (hch: ∀b∈ch,(b∈X.ex∨X.s₀.heap.objs.size<=b)/\b≠X.env.locals/\(∀x c,X.env.cells.lookup x=some c->c≠b)/\ ∀p∈X.pn++a5,p.1≠b)
  (keep: ∀b o,b≠X.env.locals->b∉X.fs->b∉ch->s.heap.get? b=some o->H b=none->h'.get? b=some o)
  (slot: ∀b o,b≠X.env.locals->b∈X.fs->b∉ch->s.heap.get? b=some o->H b=none-> ∃sl,h'.get? b=some {o with slots:=sl}) (free: ∀b o,b∉ch->s.heap.get? b=some o->H b=none->H' b=none)
  (there: ∀b o,b∉ch->s.heap.get? b=some o-> ∃o',h'.get? b=some o')
  (tups: ∀b xs,H b=some (.tup xs)->H' b=some (.tup xs)) (frzs: ∀b o u,H b=some (.frz o u)->H' b=some (.frz o u)) (tbls: ∀b ps,H b=some (.tbl ps)-> ∃more,H' b=some (.tbl (ps++more)))
  (ns: ∀m,s.heap.Ns X.env.locals m->h'.Ns X.env.locals m) (hok:HOk X.prog X.w H' h') (hg:G2 g'):
  Inv X a5 σ H' {s with heap:=h',gens:=g',drawn:=d',toks:=t'}:=by
 have neL: ∀b o,X.s₀.heap.get? b=some o->b≠X.env.locals:=fun b o e=>As (Aj (Ad e) I.ok.above)
 have neC: ∀b o,X.s₀.heap.get? b=some o->b∉X.ex->b∉ch:=fun b o e hx hb=>by
  rcases(hch b hb).1 with z|z
  ·exact hx z
  ·exact absurd (Aj (Ad e) z) (Bt _)
 have dc: ∀x c,X.env.cells.lookup x=some c-> ∀v,s.heap.IsCell c v->h'.IsCell c v:=fun x c e v q0=>by
  obtain⟨o,ho,hd⟩:=q0
  have nch:c∉ch:=fun z=>(hch c z).2.2.1 x c e rfl
  by_cases hc:c∈X.fs
  ·obtain⟨sl,q⟩:=slot c o (I.cne x c e) hc nch ho (I.freeC x c e)
   exact⟨_,q,hd⟩
  ·exact⟨o,keep c o (I.cne x c e) hc nch ho (I.freeC x c e),hd⟩
 refine⟨I.ok,I.os,hg,⟨fun b o e n hb hx=> ?_,fun b o e n hb hx=> ?_,fun b o e n hx=> ?_,fun b o e hx=> ?_,fun b xs e=>tups b xs (I.base.tups b xs e),fun b o xs e=>frzs b o xs (I.base.frzs b o xs e),fun b ps e=> ?_⟩,?_,fun x c e=> ?_,?_,fun x c e=> ?_,fun p hp=> ?_,hok,I.len⟩
 ·exact keep b o (neL b o e) hb (neC b o e hx) (I.base.keep b o e n hb hx) (I.base.free b o e n hx)
 ·obtain⟨sl,e1⟩:=I.base.slot b o e n hb hx
  obtain⟨sl',e2⟩:=slot b _ (neL b o e) hb (neC b o e hx) e1 (I.base.free b o e n hx)
  exact⟨sl',e2⟩
 ·obtain⟨o',e1⟩:=I.base.there b o e hx
  exact free b o' (neC b o e hx) e1 (I.base.free b o e n hx)
 ·obtain⟨o',e1⟩:=I.base.there b o e hx
  exact there b o' (neC b o e hx) e1
 ·obtain⟨m1,e1⟩:=I.base.tbls b ps e
  obtain⟨m2,e2⟩:=tbls b _ e1
  exact⟨m1++m2,by rw[e2,Array.append_assoc]⟩
 ·obtain⟨m,hn,hl⟩:=I.loc
  refine⟨m,ns m hn,fun i x v e1 e2 e3=> ?_⟩
  obtain⟨u,r,l⟩:=hl i x v e1 e2 e3
  refine⟨u,r,?_⟩
  rcases l with l|⟨k,c,e,z⟩
  ·exact .inl l
  ·exact .inr ⟨k,c,e,dc x c e _ z⟩
 ·obtain⟨v,z⟩:=I.cell x c e
  exact⟨v,dc x c e v z⟩
 ·obtain⟨m,⟨o,_,_,ho,_⟩,_⟩:=I.loc
  exact free _ o (fun z=>(hch _ z).2.1 rfl) ho I.free
 ·obtain⟨v,o,ho,hd⟩:=I.cell x c e
  exact free c o (fun z=>(hch c z).2.2.1 x c e rfl) ho (I.freeC x c e)
 ·obtain⟨e,n,ne,nf,d⟩:=I.pin p hp
  have nch:p.1∉ch:=fun z=>(hch p.1 z).2.2.2 p hp rfl
  exact⟨keep p.1 p.2 ne nf nch e n,free p.1 p.2 nch e n,ne,nf,d⟩
theorem Inv.un{t':Nat}(I:Inv X a5 σ H s)(u:Un X.fs [] H H' s.heap h')(hok:HOk X.prog X.w H' h'):Inv X a5 σ H' {s with heap:=h',toks:=t'}:=by
 obtain⟨m,⟨o,es,ep,ho,r⟩,_⟩:=id I.loc
 obtain⟨sl,hL⟩:=u.any ho I.free (by simp)
 exact I.step (g':=s.gens) (d':=s.drawn) (ch:=[]) (fun _ z=>nomatch z) (fun b o _ hb _ e n=>u.keep b o e n hb (by simp)) (fun b o _ hb _ e n=>u.slot b o e n hb (by simp)) (fun b o _ e n=>u.free b o e n (by simp)) (fun b o _ e=>u.there b o e (by simp)) u.tups u.frzs u.tbls (fun m' hm=>by
  obtain⟨o',es',ep',ho',r'⟩:=hm
  rw[ho] at ho';cases ho'
  exact⟨_,es',ep',hL,r'⟩) hok I.bare
theorem Inv.call{g':Array GenState}{t':Nat}{d':Drawn}{ch:List Addr}(I:Inv X a5 σ H s)(u:Un (frs X.stack) ch H H' s.heap h')(hok:HOk X.prog X.w H' h')(hg:G2 g')
  (hch: ∀b∈ch,(b∈X.ex∨X.s₀.heap.objs.size<=b)/\b≠X.env.locals/\(∀x c,X.env.cells.lookup x=some c->c≠b)/\ ∀p∈X.pn++a5,p.1≠b):
  Inv X a5 σ H' {s with heap:=h',gens:=g',drawn:=d',toks:=t'}:=by
 obtain⟨m,⟨o,es,ep,ho,r⟩,_⟩:=id I.loc
 obtain⟨sl,hL⟩:=u.any ho I.free fun z=>(hch _ z).2.1 rfl
 exact I.step (ch:=ch) hch (fun b o hL hb hc e n=>u.keep b o e n (fun z=>(Ac.mp (I.stkSub b z)).elim hL hb) hc) (fun b o _ _ hc e n=>u.any e n hc) (fun b o hc e n=>u.free b o e n hc) (fun b o hc e=>u.there b o e hc) u.tups u.frzs u.tbls (fun m' hm=>by
  obtain⟨o',es',ep',ho',r'⟩:=hm
  rw[ho] at ho';cases ho'
  exact⟨_,es',ep',hL,r'⟩) hok hg
theorem Inv.turned{t':Nat}{it:Addr}(I:Inv X a5 σ H s)(k: ∀b o,b≠it->s.heap.get? b=some o->h'.get? b=some o)(hn:H it=none)(hL:it≠X.env.locals)
  (h1:it∈X.ex∨X.s₀.heap.objs.size<=it) (h2: ∀x c,X.env.cells.lookup x=some c->c≠it) (h3: ∀p∈X.pn++a5,p.1≠it):Inv X a5 σ H {s with heap:=h',toks:=t'}:=by
 have nit: ∀b u,H b=some u->b≠it:=fun b u e z=>by rw[z,hn] at e;cases e
 refine I.step (g':=s.gens) (d':=s.drawn) (ch:=[it]) (fun b hb=> ?_) (fun b o _ _ hc e _=>k b o (fun z=>hc (by simp[z])) e) (fun b o _ _ hc e _=>⟨o.slots,k b o (fun z=>hc (by simp[z])) e⟩) (fun _ _ _ _ n=>n)
  (fun b o hc e=>⟨o,k b o (fun z=>hc (by simp[z])) e⟩) (fun _ _ e=>e) (fun _ _ _ e=>e) (fun b ps e=>⟨#[],by rw[e];simp⟩) (fun m hm=> ?_) (fun b u e=> ?_) I.bare
 ·have e : b = it := by simpa using hb
  subst e
  exact⟨h1,hL,h2,h3⟩
 ·obtain⟨o,es,ep,ho,r⟩:=hm
  exact⟨o,es,ep,k _ o (C2 hL) ho,r⟩
 ·refine (I.hok b u e).stay (fun c v hc q => k c v ?_ q) (fun _ q => q) fun _ _ q => q
  rcases hc with z|z
  ·rw[z];exact nit b u e
  ·exact nit c _ z
theorem Inv.tok(I:Inv X a5 σ H s)(t:Nat):Inv X a5 σ H {s with toks:=t}:=I.un (h':=s.heap) (t':=t) Un.refl I.hok
theorem Inv.kept{t':Nat}(I:Inv X a5 σ H s)(k: ∀b u,s.heap.get? b=some u->h'.get? b=some u):Inv X a5 σ H {s with heap:=h',toks:=t'}:=I.un (Un.kept k) (I.hok.kept k)
theorem Inv.laid{a:Addr}{o:HO}{t':Nat}(I:Inv X a5 σ H s)(k: ∀b u,s.heap.get? b=some u->h'.get? b=some u)(hp:s.heap.objs.size<=a)(new:zC7 X.prog X.w (upd H a o) h' a o):
  Inv X a5 σ (upd H a o) {s with heap:=h',toks:=t'}:=I.un (Un.laid k hp (I.hok.fresh hp)) (I.hok.laid k hp new)
theorem Inv.write{x e:Addr}{o:HO}{t':Nat}(I:Inv X a5 σ H s)(mu:Mut (H x))(he:e=x∨H e=some (.own x))(k: ∀b u,b≠e->s.heap.get? b=some u->h'.get? b=some u)(heo: ∃u,h'.get? e=some u)
  (new:zC7 X.prog X.w (upd H x o) h' x o):Inv X a5 σ (upd H x o) {s with heap:=h',toks:=t'}:=I.un (Un.write mu he k heo) (I.hok.write mu he k heo new)
theorem Inv.weak{σ':List (Option V)}(I:Inv X a5 σ H s)(hl:σ'.length=σ.length)(w: ∀(i:Nat) v,σ'[i]? =some (some v)->σ[i]? =some (some v)):Inv X a5 σ' H s:=
 ⟨I.ok,I.os,I.bare,I.base,let ⟨m,hn,hl'⟩:=I.loc;⟨m,hn,fun i x v e1 e2 e3=>hl' i x v e1 (w i v e2) e3⟩,I.cell,I.free,I.freeC,I.pin,I.hok,hl.trans I.len⟩
theorem Inv.pins_of{i8:List (Addr×Obj)}(I:Inv X a5 σ H s)(h: ∀p∈i8,s.heap.get? p.1=some p.2/\H p.1=none/\p.1≠X.env.locals/\p.1∉X.fs/\ ∀v,p.2.data≠ .cell v):Inv X i8 σ H s:=
 ⟨I.ok,I.os,I.bare,I.base,I.loc,I.cell,I.free,I.freeC,fun p hp=>(Bg.mp hp).elim (fun z=>I.pin p (Ar _ z)) (h p),I.hok,I.len⟩
theorem zLG{N:List Str}(hN:N.Nodup){i j:Nat}{x:Str}(a:N[i]? =some x)(b:N[j]? =some x):i=j:=by
 obtain⟨h1,e1⟩:=A6.mp a
 obtain⟨h2,e2⟩:=A6.mp b
 exact(Ja hN).mp (e1.trans e2.symm)
theorem zIO{M:Model}{A:Ba}{E:Value->A2->Prop}{i:Nat}{x:Str}{v:V}{u:Value}{Q:Unit->A2->Prop}(I:Inv X a5 σ H s)(hN:X.N.Nodup)(hi:X.N[i]? =some x)(hx:Loc X.env.scope x)(r:RelV v u)
  (h : ∀ s',Inv X a5 (σ.set i (some v)) H s' -> (∃ a,Cz a s.heap s'.heap /\ (a = X.env.locals ∨ X.env.cells.lookup x = some a)) -> Q () s') (hf : X.fn x = true ∨ X.env.scope.names.lookup x = some .local := by first | exact .inl rfl | exact .inr rfl | assumption) : wpAny M A (storeName X.env x u) Q E s := by
 obtain⟨m,hn,hl⟩:=id I.loc
 have og:(X.env.scope.kind== .class || (X.env.scope.kind== .module && X.env.locals !=X.env.globals))=false:=by rw[I.ok.kind];rfl
 have hiσ:i<σ.length:=by rw[I.len];exact(A6.mp hi).1
 have cne:=I.cne
 have dq: ∀{a:Addr} {h':Heap},(∃o,s.heap.get? a=some o/\H a=none)->Cz a s.heap h'->HOk X.prog X.w H h':=fun{a h'} ha hs b ob e=>by
  obtain⟨_,_,b4⟩:=ha
  refine(I.hok b ob e).stay (fun c w' hc q=>(hs.2 c ?_).trans q) (fun _ q=>q) fun _ _ q=>q
  rintro rfl
  rcases hc with rfl|hc
  ·rw[b4] at e;cases e
  ·rw[b4] at hc;cases hc
 rcases hx with hk|hk
 ·refine wpAny_storeName_local hk hn (fun h' hn' hs => ?_) og
  obtain⟨oL,_,_,hoL,_⟩:=id hn
  refine h _ ⟨I.ok,I.os,I.bare,⟨fun b o e n hb hx=> ?_,fun b o e n hb hx=> ?_,I.base.free,fun b o e hx=> ?_,I.base.tups,I.base.frzs,I.base.tbls⟩,⟨_,hn',fun j y v' e1 e2 e3=> ?_⟩,fun y c e=> ?_,I.free,I.freeC,fun p hp=> ?_,dq ⟨oL,hoL,I.free⟩ hs,by simpa using I.len⟩ ⟨_,hs,.inl rfl⟩
  ·exact(hs.2 b (As (Aj (Ad e) I.ok.above))).trans (I.base.keep b o e n hb hx)
  ·obtain⟨sl,e1⟩:=I.base.slot b o e n hb hx
   exact⟨sl,(hs.2 b (As (Aj (Ad e) I.ok.above))).trans e1⟩
  ·obtain⟨o',e1⟩:=I.base.there b o e hx
   exact⟨o',(hs.2 b (As (Aj (Ad e) I.ok.above))).trans e1⟩
  ·by_cases hj:j=i
   ·subst hj
    rw[hi] at e1;cases e1
    rw[Br hiσ] at e2
    cases e2
    exact⟨u,r,.inl ⟨hk,by simp⟩⟩
   ·rw[Ax (C2 hj)] at e2
    obtain⟨u',r',q⟩:=hl j y v' e1 e2 e3
    refine⟨u',r',?_⟩
    rcases q with⟨k,e⟩|⟨k,c,e,z⟩
    ·refine .inl ⟨k,?_⟩
     have:y≠x:=fun e=>hj (zLG hN e1 (e▸hi))
     simp[this,e]
    ·exact .inr ⟨k,c,e,z.sameBut hs (cne y c e)⟩
  ·obtain⟨w',z⟩:=I.cell y c e
   exact⟨w',z.sameBut hs (cne y c e)⟩
  ·obtain⟨e,n,ne,nf,d⟩:=I.pin p hp
   exact⟨(hs.2 p.1 ne).trans e,n,ne,nf,d⟩
 ·have hfn:X.fn x=true:=by
   rcases hf with z|z
   ·exact z
   ·rw[z] at hk;cases hk
  obtain⟨c,hc⟩:=I.ok.has x (.inl hk)
  obtain⟨w',z⟩:=I.cell x c hc
  refine wpAny_storeName_cell I.ok.kind hk hc z (fun h' hc' hs=> ?_)
  obtain⟨oc,hoc,nw⟩:=id z
  refine h {s with heap:=h'} ⟨I.ok,I.os,I.bare,⟨fun b o e n hb hx=> ?_,fun b o e n hb hx=> ?_,I.base.free,fun b o e hx=> ?_,I.base.tups,I.base.frzs,I.base.tbls⟩,⟨m,hn.sameBut hs (C2 (cne x c hc)),fun j y v' e1 e2 e3=> ?_⟩,fun y c' e=> ?_,I.free,I.freeC,fun p hp=> ?_,dq ⟨oc,hoc,I.freeC x c hc⟩ hs,by simpa using I.len⟩ ⟨c,hs,.inr hc⟩
  ·exact(hs.2 b (As (Aj (Ad e) (I.ok.cab x c hfn hc)))).trans (I.base.keep b o e n hb hx)
  ·obtain⟨sl,e1⟩:=I.base.slot b o e n hb hx
   exact⟨sl,(hs.2 b (As (Aj (Ad e) (I.ok.cab x c hfn hc)))).trans e1⟩
  ·obtain⟨o',e1⟩:=I.base.there b o e hx
   exact⟨o',(hs.2 b (As (Aj (Ad e) (I.ok.cab x c hfn hc)))).trans e1⟩
  ·by_cases hj:j=i
   ·subst hj
    rw[hi] at e1;cases e1
    rw[Br hiσ] at e2
    cases e2
    exact⟨u,r,.inr ⟨.inl hk,c,hc,hc'⟩⟩
   ·rw[Ax (C2 hj)] at e2
    obtain⟨u',r',q⟩:=hl j y v' e1 e2 e3
    refine⟨u',r',?_⟩
    rcases q with q|⟨k,c',e,z'⟩
    ·exact .inl q
    ·refine .inr ⟨k,c',e,z'.sameBut hs ?_⟩
     rintro rfl
     exact hj (zLG hN e1 (I.ok.inj _ _ _ e hc▸hi))
  ·by_cases hcc:c'=c
   ·subst hcc;exact⟨_,hc'⟩
   ·obtain⟨w2,z2⟩:=I.cell y c' e
    exact⟨w2,z2.sameBut hs hcc⟩
  ·obtain⟨e,n,ne,nf,d⟩:=I.pin p hp
   refine⟨(hs.2 p.1 ?_).trans e,n,ne,nf,d⟩
   intro q
   rw[q,hoc] at e
   have q':oc=p.2:=B4 e
   exact d w' (by rw[<- q'];exact nw)
theorem zDM{M:Model}{A:Ba}{E:Value->A2->Prop}{i:Nat}{x:Str}{v:V}{u:Value}{Q:Unit->A2->Prop}(I:Inv X a5 σ H s)(hN:X.N.Nodup)(hi:X.N[i]? =some x)(hx:Loc X.env.scope x)(r:RelV v u)
  (h: ∀s',Inv X a5 (σ.set i (some v)) H s'->Q () s') (hf:X.fn x=true∨X.env.scope.names.lookup x=some .local:=by first|exact .inl rfl|exact .inr rfl|assumption):wpAny M A (storeName X.env x u) Q E s:=
 zIO I hN hi hx r (fun s' I' _=>h s' I') hf
theorem Inv.call'{s':A2}{ch:List Addr}(I:Inv X a5 σ H s)(ho:s'.os=s.os)(u:Un (frs X.stack) ch H H' s.heap s'.heap)(hok:HOk X.prog X.w H' s'.heap)(hg:G2 s'.gens)
  (hch: ∀b∈ch,(b∈X.ex∨X.s₀.heap.objs.size<=b)/\b≠X.env.locals/\(∀x c,X.env.cells.lookup x=some c->c≠b)/\ ∀p∈X.pn++a5,p.1≠b):Inv X a5 σ H' s':=by
 obtain⟨h',g',d',t',o'⟩:=s'
 have e:o'=s.os:=ho
 subst e
 exact I.call (g':=g') (t':=t') (d':=d') u hok hg hch
end
abbrev XK:=Value->Option Addr->Hp->Prop
abbrev St:=List (Option V)
abbrev VK:=V->Hp->Prop
abbrev TE:=St->Hp->VK->Prop
abbrev TT:=St->Hp->(Bool->Hp->Prop)->Prop
abbrev TA:=St->Hp->(List V->Hp->Prop)->Prop
structure Ends where
 nx:St->Hp->Prop
 rt:VK
 bk:St->Hp->Prop:=fun _ _=>False
 ct:St->Hp->Prop:=fun _ _=>False
abbrev TS:=Ends->St->Hp->Prop
def EP(X:Cx)(a5:List (Addr×Obj))(σ:St)(Q:VK)(u:Value)(s':A2):Prop:= ∃v H',Inv X a5 σ H' s'/\RelV v u/\Q v H'
def TP(X:Cx)(a5:List (Addr×Obj))(σ:St)(Q:Bool->Hp->Prop)(b:Bool)(s':A2):Prop:= ∃H',Inv X a5 σ H' s'/\Q b H'
def AP(X:Cx)(a5:List (Addr×Obj))(σ:St)(Q:List V->Hp->Prop)(us:List Value)(s':A2):Prop:= ∃vs H',Inv X a5 σ H' s'/\Vals vs us/\Q vs H'
def SP(X:Cx)(a5:List (Addr×Obj))(D:Ends)(f:Flow)(s':A2):Prop:=
 match f with
 | .next=> ∃σ' H',Inv X a5 σ' H' s'/\D.nx σ' H'
 | .brk=> ∃σ' H',Inv X a5 σ' H' s'/\D.bk σ' H'
 | .cont=> ∃σ' H',Inv X a5 σ' H' s'/\D.ct σ' H'
 | .ret u=> ∃v σ' H',Inv X a5 σ' H' s'/\RelV v u/\D.rt v H'
def PE(X:Cx)(e:Expr)(t:TE):Prop:=
 ∀(a5:List (Addr×Obj)) (s:A2) (σ:St) (H:Hp) (Q:VK),Inv X a5 σ H s->t σ H Q->wpAny (model X.prog X.w) X.A (eval e X.env) (EP X a5 σ Q) X.xe s
def PT(X:Cx)(e:Expr)(t:TT):Prop:=
 ∀(a5:List (Addr×Obj)) (s:A2) (σ:St) (H:Hp) (Q:Bool->Hp->Prop),Inv X a5 σ H s->t σ H Q->wpAny (model X.prog X.w) X.A (isTrue e X.env (eval e X.env)) (TP X a5 σ Q) X.xe s
def PW(X:Cx)(e:Expr)(t:TT):Prop:=
 ∀(az:Sem Value) (a5:List (Addr×Obj)) (s:A2) (σ:St) (H:Hp) (Q:Bool->Hp->Prop),Inv X a5 σ H s->t σ H Q->wpAny (model X.prog X.w) X.A (isTrue e X.env az) (TP X a5 σ Q) X.xe s
theorem PW.pt{X:Cx}{e:Expr}{t:TT}(h:PW X e t):PT X e t:=h _
def PA(X:Cx)(es:List Expr)(t:TA):Prop:=
 ∀(pos:Pos) (a5:List (Addr×Obj)) (s:A2) (σ:St) (H:Hp) (Q:List V->Hp->Prop),Inv X a5 σ H s->t σ H Q->wpAny (model X.prog X.w) X.A (spliced (Cj pos (starEach es X.env))) (AP X a5 σ Q) X.xe s
def PS(X:Cx)(st:Stmt)(t:TS):Prop:=
 ∀(a5:List (Addr×Obj)) (s:A2) (σ:St) (H:Hp) (D:Ends),Inv X a5 σ H s->t D σ H->wpAny (model X.prog X.w) X.A (exec st X.env) (SP X a5 D) X.xe s
def PSs(X:Cx)(st:List Stmt)(t:TS):Prop:=
 ∀(a5:List (Addr×Obj)) (s:A2) (σ:St) (H:Hp) (D:Ends),Inv X a5 σ H s->t D σ H->wpAny (model X.prog X.w) X.A (execs st X.env) (SP X a5 D) X.xe s
theorem thn{α:Type}{t:Sem α}{Q Q':α->A2->Prop}{M:Model}{A:Ba}{E:Value->A2->Prop}{s:A2}(h:wpAny M A t Q E s)(hQ: ∀a s,Q a s->Q' a s):wpAny M A t Q' E s:=B6 h hQ fun _ _ x=>x
section
variable{X:Cx}
def tVar(i:Nat):TE:=fun σ H Q=> ∃v,σ[i]? =some (some v)/\Q v H
def tC(v:V):TE:=fun _ H Q=>Q v H
theorem zO0{i:Nat}{x:Str}{pos:Pos}(hN:X.N[i]? =some x)(hv:Vis X.env.scope x)(hd:(x==("__debug__":Str))=false:=by decide) (hcd:(x==("__classdict__":Str))=false:=by decide):PE X (.Name x pos) (tVar i):=by
 intro a5 s σ H Q I h
 obtain⟨v,e,h⟩:=h
 obtain⟨m,hn,hl⟩:=I.loc
 obtain⟨u,r,l⟩:=hl i x v hN e hv
 have fin:EP X a5 σ Q u s:=⟨v,H,I,r,h⟩
 rcases l with⟨hk,hm⟩|⟨hk,c,hc,ik⟩
 ·exact Kg (wpAny_loadName_local I.ok.kind hk hn hm fin) hd
 ·rcases hk with hk|hk
  ·exact Kg (wpAny_loadName_cell I.ok.kind hk hc ik fin) hd
  ·exact Kg (wpAny_loadName_free I.ok.kind hk hc ik fin hcd) hd
theorem zX8{i j pos}:PE X (.Constant (.int i) j pos) (tC (.int i)):=fun _ _ _ H _ I h=>wpAny_Constant_int ⟨.int i,H,I.tok _,⟨_,rfl⟩,h⟩
theorem yB5{b j pos}:PE X (.Constant (.bool b) j pos) (tC (.bl b)):=fun _ _ _ H _ I h=>Constant_bool ⟨.bl b,H,I,rfl,h⟩
theorem zX7{j pos}:PE X (.Constant .none j pos) (tC .non):=fun _ _ _ H _ I h=>Constant_none ⟨.non,H,I,rfl,h⟩
theorem zRZ{x j pos}:PE X (.Constant (.str x) j pos) (tC (.str x)):=fun _ _ _ H _ I h=>Calls.Constant_str ⟨.str x,H,I.tok _,⟨_,rfl⟩,h⟩
def Gl(X:Cx)(x:Str):Prop:=X.env.kindOf x=some .globalImplicit
theorem zFK{E:Value->A2->Prop}{a5:List (Addr×Obj)}{s:A2}{σ:St}{H:Hp}{x:Str}{u:Value}{pos:Pos}{Q:Value->A2->Prop}(I:Inv X a5 σ H s)(hg:Gl X x)(hm:X.mg x=some u)(h:Q u s)
  (hd:(x==("__debug__":Str))=false:=by decide):wpAny (model X.prog X.w) X.A (eval (.Name x pos) X.env) Q E s:=
 Ff I.ok.kind hg (Calls.loadGlobal_global (by rw[I.ok.glob];exact I.mod.glob.keeps I.bk) hm h) hd
theorem zHQ{E:Value->A2->Prop}{a5:List (Addr×Obj)}{s:A2}{σ:St}{H:Hp}{x:Str}{u:Value}{pos:Pos}{Q:Value->A2->Prop}(I:Inv X a5 σ H s)(hg:Gl X x)(hm:X.mg x=none)(hv:Av x=some u)(h:Q u s)
  (hn:x≠ "__name__":=by decide) (hd:(x==("__debug__":Str))=false:=by decide):wpAny (model X.prog X.w) X.A (eval (.Name x pos) X.env) Q E s:=by
 obtain⟨mb,h1,h2⟩:=I.mod.blt
 exact Ff I.ok.kind hg (Calls.loadGlobal_builtin (by rw[I.ok.glob];exact I.mod.glob.keeps I.bk) hm (by rw[I.ok.blt];exact h1.keeps I.bk) ((h2 x hn).trans hv) h) hd
theorem zTO{x:Str}{v:V}{u:Value}{pos:Pos}(hg:Gl X x)(hm:X.mg x=some u)(r:RelV v u)(hd:(x==("__debug__":Str))=false:=by decide):PE X (.Name x pos) (tC v):=
 fun _ _ _ H _ I h=>zFK I hg hm ⟨v,H,I,r,h⟩ hd
theorem zTQ{x:Str}{v:V}{u:Value}{pos:Pos}(hg:Gl X x)(hm:X.mg x=none)(hv:Av x=some u)(r:RelV v u)(hn:x≠ "__name__":=by decide) (hd:(x==("__debug__":Str))=false:=by decide):PE X (.Name x pos) (tC v):=
 fun _ _ _ H _ I h=>zHQ I hg hm hv ⟨v,H,I,r,h⟩ hn hd
variable{a b:Expr}{ta tb:TE}{pos:Pos}
def tB(t:TE):TT:=fun σ H Q=>t σ H fun x H1=> ∃c,x= .bl c/\Q c H1
theorem zWU{e:Expr}{t:TE}(h:PE X e t)(he: ∀az,isTrue e X.env az=(do let v<- az;standAt e.pos;Hv [v] (truthy v)):=by intro _;rfl):PT X e (tB t):=by
 intro a5 s σ H Q I hw
 refine isTrue_plain (thn (h a5 s σ H _ I hw) fun v s1 ⟨x,H1,I1,r1,q1⟩=> ?_) (he _)
 obtain⟨d,rfl,q⟩:=q1
 cases r1
 exact Cn ⟨H1,I1,q⟩
variable{tA tB':TT}{rest:List Expr}
def tAnd(t u:TT):TT:=fun σ H Q=>t σ H fun c H1=>if c=true then u σ H1 Q else Q false H1
def tOr(t u:TT):TT:=fun σ H Q=>t σ H fun c H1=>if c=true then Q true H1 else u σ H1 Q
def tNot(t:TT):TT:=fun σ H Q=>t σ H fun c H1=>Q (!c) H1
theorem zTC(ha:PT X a tA):PW X (.BoolOp .And [a] pos) tA:=by
 intro wh a5 s σ H Q I h
 refine isTrue_and (thn (ha a5 s σ H Q I h) fun c s1 e=> ?_)
 cases c with
 |true=>exact isTrue_and_nil e
 |false=>exact e
theorem zWS(ha:PT X a tA):PW X (.BoolOp .Or [a] pos) tA:=by
 intro wh a5 s σ H Q I h
 refine isTrue_or (thn (ha a5 s σ H Q I h) fun c s1 e=> ?_)
 cases c with
 |false=>exact isTrue_or_nil e
 |true=>exact e
theorem zWT(ha:PT X a tA)(hb:PW X (.BoolOp .And (b::rest) pos) tB'):PW X (.BoolOp .And (a::b::rest) pos) (tAnd tA tB'):=by
 intro wh a5 s σ H Q I h
 refine isTrue_and (thn (ha a5 s σ H _ I h) fun c s1 ⟨H1,I1,q1⟩=> ?_)
 cases c with
 |true=>exact hb wh a5 s1 σ H1 Q I1 q1
 |false=>exact⟨H1,I1,q1⟩
theorem yB1(ha:PT X a tA)(hb:PW X (.BoolOp .Or (b::rest) pos) tB'):PW X (.BoolOp .Or (a::b::rest) pos) (tOr tA tB'):=by
 intro wh a5 s σ H Q I h
 refine isTrue_or (thn (ha a5 s σ H _ I h) fun c s1 ⟨H1,I1,q1⟩=> ?_)
 cases c with
 |true=>exact⟨H1,I1,q1⟩
 |false=>exact hb wh a5 s1 σ H1 Q I1 q1
theorem zWV(ha:PT X a tA):PT X (.UnaryOp .Not a pos) (tNot tA):=by
 intro a5 s σ H Q I h
 exact isTrue_not (ha a5 s σ H (fun c H1=>Q (!c) H1) I h)
def yA7(ta tb:TE):TE:=fun σ H Q=>ta σ H fun x H1=> ∃c,x= .bl c/\if c=true then tb σ H1 Q else Q (.bl false) H1
theorem zX6{op}{t:TE}(h:PE X a t):PE X (.BoolOp op [a] pos) t:=fun a5 s σ H Q I hw=>BoolOp_one (h a5 s σ H Q I hw)
theorem zX9(ha:PE X a ta)(hb:PE X (.BoolOp .And (b::rest) pos) tb):PE X (.BoolOp .And (a::b::rest) pos) (yA7 ta tb):=by
 intro a5 s σ H Q I h
 refine BoolOp_and (thn (ha a5 s σ H _ I h) fun v s1 ⟨x,H1,I1,r1,q1⟩=> ?_)
 obtain⟨c,rfl,q1⟩:=q1
 cases r1
 refine Cn ?_
 cases c with
 |true=>exact hb a5 s1 σ H1 Q I1 q1
 |false=>exact⟨.bl false,H1,I1,rfl,q1⟩
def tIf(t:TT)(ta tb:TE):TE:=fun σ H Q=>t σ H fun c H1=>if c=true then ta σ H1 Q else tb σ H1 Q
theorem zI6{c:Expr}(hc:PT X c tA)(ha:PE X a ta)(hb:PE X b tb):PE X (.IfExp c a b pos) (tIf tA ta tb):=by
 intro a5 s σ H Q I h
 refine wpAny_IfExp (thn (hc a5 s σ H _ I h) fun d s1 ⟨H1,I1,q1⟩=> ?_)
 cases d with
 |true=>exact ha a5 s1 σ H1 Q I1 q1
 |false=>exact hb a5 s1 σ H1 Q I1 q1
end
def SqL(K:A5)(H:Hp)(a:Addr)(xs:List V):Prop:=
 Rd H a (.lst xs)∨
  ∃(o:Obj) (its:Array Value) (n:Nat),K.lookup a=some o/\o.cls= .type "list" /\o.dict=none/\o.data= .seq its n/\its.size<=sizeLine/\Vals xs its.toList
def SqT(K:A5)(H:Hp)(a:Addr)(xs:List V):Prop:=
 Rd H a (.tup xs)∨
  ∃(o:Obj) (its:Array Value) (n:Nat),K.lookup a=some o/\o.cls= .type "tuple" /\o.data= .seq its n/\its.size<=sizeLine/\Vals xs its.toList
noncomputable def absV:Value->Option V
 | .none=>some .non
 | .bool b=>some (.bl b)
 | .int i _=>some (.int i)
 | .str x _=>some (.str x)
 | .bytes b _=>some (.byt b)
 | .float b _=>some (.flt b)
 | .ref a=>some (.ref a)
 | .type n=>some (.ty n)
 |_=>none
theorem RelV.abs{x:V}{u:Value}(r:RelV x u):absV u=some x:=by
 cases x with
 |non=>cases r;rfl
 |bl _=>cases r;rfl
 |int _=>obtain⟨t,rfl⟩:=r;rfl
 |str _=>obtain⟨t,rfl⟩:=r;rfl
 |byt _=>obtain⟨t,rfl⟩:=r;rfl
 |flt _=>obtain⟨t,rfl⟩:=r;rfl
 |ref _=>cases r;rfl
 |ty _=>cases r;rfl
theorem RelV.inj{x y:V}{u:Value}(r:RelV x u)(q:RelV y u):x=y:=B4 (r.abs.symm.trans q.abs)
theorem Vals.inj: ∀{xs ys:List V} {us:List Value},Vals xs us->Vals ys us->xs=ys
 |_,_,_,.nil,.nil=>rfl
 |_,_,_,.cons r t,.cons r' t'=>by rw[r.inj r',Vals.inj t t']
section
variable{X:Cx}{a5:List (Addr×Obj)}{σ:St}{H:Hp}{s:A2}{a:Addr}{xs ys:List V}
theorem SqL.of{K:A5}(h:H a=some (.lst xs)):SqL K H a xs:= .inl (.inl h)
theorem SqT.of{K:A5}(h:H a=some (.tup xs)):SqT K H a xs:= .inl (.inl h)
theorem Inv.list(I:Inv X a5 σ H s)(h:SqL X.K H a xs): ∃its:List Value,Vals xs its/\PlainL s.heap a its.toArray/\xs.length<=sizeLine:=by
 rcases h with h|⟨o,its,n,hk,hc,hd,hs,hz,r⟩
 ·obtain⟨z,its,n,r,e⟩:=h.ok I.hok
  exact⟨its,r,⟨_,n,e,rfl,rfl,rfl⟩,z⟩
 ·refine ⟨its.toList,r,⟨o,n,I.kIn a o hk,hc,hd,by simpa using hs⟩,?_⟩
  have e:=r.length
  simp only[Dg] at e
  omega
theorem Inv.tuple(I:Inv X a5 σ H s)(h:SqT X.K H a xs): ∃its:List Value,Vals xs its/\IsTup s.heap a its.toArray/\xs.length<=sizeLine:=by
 rcases h with h|⟨o,its,n,hk,hc,hs,hz,r⟩
 ·obtain⟨z,its,r,p⟩:=h.ok I.hok
  exact⟨its,r,p,z⟩
 ·refine ⟨its.toList,r,⟨o,I.kIn a o hk,hc,n,by simpa using hs⟩,?_⟩
  have e:=r.length
  simp only[Dg] at e
  omega
theorem Inv.list_inj(I:Inv X a5 σ H s)(h:SqL X.K H a xs)(h':SqL X.K H a ys):xs=ys:=by
 obtain⟨its,r,⟨o,n,e,_,_,d⟩,_⟩:=I.list h
 obtain⟨its',r',⟨o',n',e',_,_,d'⟩,_⟩:=I.list h'
 rw[e] at e';cases e'
 rw[d] at d'
 injection d' with d1 _
 have:its=its':=by simpa using congrArg Ky d1
 subst this
 exact r.inj r'
theorem Inv.tuple_inj(I:Inv X a5 σ H s)(h:SqT X.K H a xs)(h':SqT X.K H a ys):xs=ys:=by
 obtain⟨its,r,⟨o,e,_,n,d⟩,_⟩:=I.tuple h
 obtain⟨its',r',⟨o',e',_,n',d'⟩,_⟩:=I.tuple h'
 rw[e] at e';cases e'
 rw[d] at d'
 injection d' with d1 _
 have:its=its':=by simpa using congrArg Ky d1
 subst this
 exact r.inj r'
end
abbrev Cx.wish(X:Cx)(E:Value->A2->Prop):Cx:={X with xe:=E}
abbrev Cx.nox(X:Cx):Cx:=X.wish fun _ _=>False
theorem Cx.Ok.wish{X:Cx}(ok:X.Ok)(E:Value->A2->Prop):(X.wish E).Ok:=
 ⟨ok.mod,ok.kind,ok.glob,ok.blt,ok.above,ok.inj,ok.has,ok.cab,ok.hd,ok.frames,ok.stk,ok.exf,ok.bs,ok.bsz,ok.noex,ok.exfs,ok.funs,ok.frf⟩
theorem Cx.Ok.unwish{X:Cx}{E:Value->A2->Prop}(ok:(X.wish E).Ok):X.Ok:=
 ⟨ok.mod,ok.kind,ok.glob,ok.blt,ok.above,ok.inj,ok.has,ok.cab,ok.hd,ok.frames,ok.stk,ok.exf,ok.bs,ok.bsz,ok.noex,ok.exfs,ok.funs,ok.frf⟩
section
variable{X:Cx}{a5:List (Addr×Obj)}{σ:St}{H:Hp}{s:A2}{E:Value->A2->Prop}
theorem Inv.wish(I:Inv X a5 σ H s)(E:Value->A2->Prop):Inv (X.wish E) a5 σ H s:=⟨I.ok.wish E,I.os,I.bare,I.base,I.loc,I.cell,I.free,I.freeC,I.pin,I.hok,I.len⟩
theorem Inv.unwish(I:Inv (X.wish E) a5 σ H s):Inv X a5 σ H s:=⟨I.ok.unwish,I.os,I.bare,I.base,I.loc,I.cell,I.free,I.freeC,I.pin,I.hok,I.len⟩
theorem SP.unwish{D:Ends}{f:Flow}{s':A2}(h:SP (X.wish E) a5 D f s'):SP X a5 D f s':=by
 cases f with
 |next=>obtain⟨σ',H',I,q⟩:=h;exact⟨σ',H',I.unwish,q⟩
 |brk=>obtain⟨σ',H',I,q⟩:=h;exact⟨σ',H',I.unwish,q⟩
 |cont=>obtain⟨σ',H',I,q⟩:=h;exact⟨σ',H',I.unwish,q⟩
 |ret u=>obtain⟨v,σ',H',I,r,q⟩:=h;exact⟨v,σ',H',I.unwish,r,q⟩
theorem PSs.nox{st:List Stmt}{t:TS}(h:PSs X.nox st t):PSs X st t:=fun a5 s σ H D I hw=>
 B6 (h a5 s σ H D (I.wish _) hw) (fun _ _ q=>q.unwish) fun _ _ z=>Du z
end
section
variable{X:Cx}{st:Stmt}{rest:List Stmt}{t u:TS}{e:Expr}{te:TE}{pos:Pos}
def yA4:TS:=fun D σ H=>D.nx σ H
def tSeq(t u:TS):TS:=fun D σ H=>t {D with nx:=u D} σ H
theorem zNW:PSs X [] yA4:=fun _ _ σ H _ I h=>Gq ⟨σ,H,I,h⟩
theorem zGE(h1:PS X st t)(h2:PSs X rest u):PSs X (st::rest) (tSeq t u):=by
 intro a5 s σ H D I h
 refine wpAny_execs_cons (thn (h1 a5 s σ H {D with nx:=u D} I h) fun f s1 q=> ?_)
 cases f with
 |next=>
  obtain⟨σ',H',I',q⟩:=q
  exact h2 a5 s1 σ' H' D I' q
 |ret v=>exact q
 |brk=>exact q
 |cont=>exact q
theorem Inv.quiet{a5:List (Addr×Obj)}{σ:St}{H:Hp}{s:A2}(I:Inv X a5 σ H s):interactive X.env=false:=by simp[interactive,I.ok.kind]
def yA6(te:TE):TS:=fun D σ H=>te σ H fun _ H1=>D.nx σ H1
theorem zTG(he:PE X e te)(hs:F3 e none pos.line X.env=pure false:=by rfl):PS X (.Expr e pos) (yA6 te):=by
 intro a5 s σ H D I h
 exact wpAny_Expr_any (thn (he a5 s σ H _ I h) fun v s1 ⟨x,H1,I1,r1,q1⟩=>⟨σ,H1,I1,q1⟩) I.quiet hs
def tRet(te:TE):TS:=fun D σ H=>te σ H D.rt
theorem zRY(he:PE X e te):PS X (.Return (some e) pos) (tRet te):=by
 intro a5 s σ H D I h
 exact wpAny_Return_some (thn (he a5 s σ H _ I h) fun v s1 ⟨x,H1,I1,r1,q1⟩=>⟨x,σ,H1,I1,r1,q1⟩)
def tIfS(c:TT)(t u:TS):TS:=fun D σ H=>c σ H fun b H1=>if b=true then t D σ H1 else u D σ H1
theorem zWY{c:Expr}{a b:List Stmt}{tc:TT}(hc:PT X c tc)(ha:PSs X a t)(hb:PSs X b u):PS X (.If c a b pos) (tIfS tc t u):=by
 intro a5 s σ H D I h
 refine wpAny_If (thn (hc a5 s σ H _ I h) fun d s1 ⟨H1,I1,q1⟩=> ?_)
 cases d with
 |true=>exact ha a5 s1 σ H1 D I1 q1
 |false=>exact hb a5 s1 σ H1 D I1 q1
def zVK:TS:=fun _ _ _=>False
theorem zNX{sts:List Stmt}:PSs X sts zVK:=fun _ _ _ _ _ _ h=>h.elim
end
abbrev TG:=V->St->Hp->(St->Hp->Prop)->Prop
abbrev TGs:=List V->St->Hp->(St->Hp->Prop)->Prop
def PG(X:Cx)(b6:Expr)(t:TG):Prop:=
 ∀(a5:List (Addr×Obj)) (s:A2) (σ:St) (H:Hp) (v:V) (u:Value) (Q:St->Hp->Prop),Inv X a5 σ H s->RelV v u->t v σ H Q→
  wpAny (model X.prog X.w) X.A (assign b6 X.env u) (fun _ s'=> ∃σ' H',Inv X a5 σ' H' s'/\Q σ' H') X.xe s
def PGs(X:Cx)(ts:List Expr)(t:TGs):Prop:=
 ∀(a5:List (Addr×Obj)) (s:A2) (σ:St) (H:Hp) (vs:List V) (us:List Value) (Q:St->Hp->Prop),Inv X a5 σ H s->Vals vs us->t vs σ H Q→
  wpAny (model X.prog X.w) X.A (assignInOrder ((assignEach ts X.env).map (·.2)) us) (fun _ s'=> ∃σ' H',Inv X a5 σ' H' s'/\Q σ' H') X.xe s
abbrev TSet:=V->V->V->Hp->(Hp->Prop)->Prop
def PSet(X:Cx)(t:TSet):Prop:=
 ∀(a5:List (Addr×Obj)) (s:A2) (σ:St) (H:Hp) (o i v:V) (ov iv u:Value) (Q:Hp->Prop),Inv X a5 σ H s->RelV o ov->RelV i iv->RelV v u->t o i v H Q→
  wpAny (model X.prog X.w) X.A (setItem ov iv u) (fun _ s'=> ∃H',Inv X a5 σ H' s'/\Q H') X.xe s
section
variable{X:Cx}{pos:Pos}
def zR9(i:Nat):TG:=fun v σ H Q=>Q (σ.set i (some v)) H
theorem zFH{i:Nat}{x:Str}(hN:X.N.Nodup)(hi:X.N[i]? =some x)(hx:Loc X.env.scope x)(hf:X.fn x=true∨X.env.scope.names.lookup x=some .local:=by first|exact .inl rfl|exact .inr rfl|assumption):PG X (.Name x pos) (zR9 i):=by
 intro a5 s σ H v u Q I r h
 exact Ek (zDM I hN hi hx r (fun s' I'=>⟨_,H,I',h⟩) hf)
def gNil:TGs:=fun vs σ H Q=>vs=[]/\Q σ H
def yCJ(t:TG)(u:TGs):TGs:=fun vs σ H Q=> ∃v r,vs=v::r/\t v σ H fun σ' H'=>u r σ' H' Q
theorem zKB:PGs X [] gNil:=by
 intro a5 s σ H vs us Q I r h
 obtain⟨e,h⟩:=h
 subst e
 cases r
 exact Fv ⟨σ,H,I,h⟩
theorem zED{e:Expr}{es:List Expr}{t:TG}{u:TGs}(h1:PG X e t)(h2:PGs X es u)
  (hs:(assignEach (e::es) X.env).map (·.2)=assign e X.env::(assignEach es X.env).map (·.2):=by rfl):PGs X (e::es) (yCJ t u):=by
 intro a5 s σ H vs us Q I r h
 obtain⟨v,vr,e1,h⟩:=h
 subst e1
 cases r with
 |cons r rr=>
  rw[hs]
  refine Dn (thn (h1 a5 s σ H _ _ _ I r h) fun _ s1 ⟨σ1,H1,I1,q1⟩=> ?_)
  exact h2 a5 s1 σ1 H1 _ _ Q I1 rr q1
def gTup(K:A5)(n:Nat)(t:TGs):TG:=fun v σ H Q=> ∃a xs,v= .ref a/\SqT K H a xs/\xs.length=n/\t xs σ H Q
theorem zX2{es:List Expr}{k:Nat}{t:TGs}{n:Nat}(hc:X.calm=true)(h:PGs X es t)
  (hn:(assignEach es X.env).length=n:=by rfl) (hst:(assignEach es X.env).findIdx? (·.1)=none:=by rfl):PG X (.Tuple es k pos) (gTup X.K n t):=by
 intro a5 s σ H v u Q I r hw
 obtain⟨a,xs,e1,hq,hl,hw⟩:=hw
 subst e1
 cases r
 obtain⟨its,rv,ht,hz⟩:=I.tuple hq
 refine assign_Tuple_tuple (I.ok.hd hc) ht (by simp[hn,<- hl,rv.length]) hst fun h' hx=> ?_
 have I1:Inv X a5 σ H {s with heap:=h'}:=I.kept (t':=s.toks) fun b o e=>hx b o (As (Ad e)) e
 exact h a5 _ σ H xs _ Q I1 (by simpa using rv) hw
def gSub(to ti:TE)(t:TSet):TG:=fun v σ H Q=>to σ H fun o H1=>ti σ H1 fun i H2=>t o i v H2 fun H3=>Q σ H3
theorem zX3{o i:Expr}{to ti:TE}{t:TSet}(ho:PE X o to)(hi:PE X i ti)(hs:PSet X t)
  (ha: ∀v,assign (.Subscript o i pos) X.env v=(do
   let ov<- Hv [v] (eval o X.env)
   let iv<- Hv [v,ov] (eval i X.env)
   standAt pos
   Hv [v,ov,iv] (setItem ov iv v)
   release [v,ov,iv] []):=by intro _;rfl):PG X (.Subscript o i pos) (gSub to ti t):=by
 intro a5 s σ H v u Q I r h
 rw[ha]
 refine A0 (Bf (thn (ho a5 s σ H _ I h) fun ov s1 ⟨x,H1,I1,r1,q1⟩=> ?_))
 refine A0 (Bf (thn (hi a5 s1 σ H1 _ I1 q1) fun iv s2 ⟨y,H2,I2,r2,q2⟩=> ?_))
 refine A0 (E6 (A0 (Bf (thn (hs a5 s2 σ H2 x y v ov iv u _ I2 r1 r2 r q2) fun _ s3 ⟨H3,I3,q3⟩=> ?_))))
 exact wpAny_release ⟨σ,H3,I3,q3⟩
def tAsg(te:TE)(g:TG):TS:=fun D σ H=>te σ H fun x H1=>g x σ H1 D.nx
theorem zIZ{tg e:Expr}{te:TE}{g:TG}(he:PE X e te)(hg:PG X tg g)(hs:Dh [tg] e pos.line X.env=pure false:=by rfl)(hw:Di [tg] e X.env=pure none:=by rfl)
  (h1:(assignEach [tg] X.env).map (·.2)=[assign tg X.env]:=by rfl):PS X (.Assign [tg] e pos) (tAsg te g):=by
 intro a5 s σ H D I h
 refine wpAny_Assign_stores (thn (he a5 s σ H _ I h) fun v s1 ⟨x,H1,I1,r1,q1⟩=> ?_) hs hw
 rw[h1]
 exact thn (hg a5 s1 σ H1 x v _ I1 r1 q1) fun _ s2 q=>q
theorem zWW{i:Nat}{x:Str}{e:Expr}{te:TE}{aq:Pos}(hN:X.N.Nodup)(hi:X.N[i]? =some x)(hx:Loc X.env.scope x)(he:PE X e te)(hs:F3 e (some (.Name x aq)) pos.line X.env=pure false:=by rfl)(hf:X.fn x=true∨X.env.scope.names.lookup x=some .local:=by first|exact .inl rfl|exact .inr rfl|assumption):
  PS X (.Assign [.Name x aq] e pos) (tAsg te (zR9 i)):=by
 intro a5 s σ H D I h
 refine wpAny_Assign_Name (thn (he a5 s σ H _ I h) fun v s1 ⟨y,H1,I1,r1,q1⟩=> ?_) hs
 exact zDM I1 hN hi hx r1 (fun s2 I2=>⟨_,H1,I2,q1⟩) hf
def tPar(i j:Nat)(ta:TA):TS:=fun D σ H=>ta σ H fun vs H1=> ∃v w,vs=[v,w]/\D.nx ((σ.set i (some v)).set j (some w)) H1
theorem zWX{i j:Nat}{x y:Str}{a b:Expr}{ta:TA}{px py pt:Pos}{kt k2 pt2}(hc:X.calm=true)(hN:X.N.Nodup)(hi:X.N[i]? =some x)(hj:X.N[j]? =some y)(hij:i≠j)
  (hx:X.env.scope.names.lookup x=some .local) (hy:X.env.scope.names.lookup y=some .local) (ha:PA X [a,b] ta)
  (hw:Di [.Tuple [.Name x px,.Name y py] kt pt] (.Tuple [a,b] k2 pt2) X.env=pure (some [x,y]))
  (hs : Dh [.Tuple [.Name x px,.Name y py] kt pt] (.Tuple [a,b] k2 pt2) pos.line X.env = pure false := by rfl) :
  PS X (.Assign [.Tuple [.Name x px,.Name y py] kt pt] (.Tuple [a,b] k2 pt2) pos) (tPar i j ta):=by
 intro a5 s σ H D I h
 rw[exec_Assign_arm]
 refine A0 (E6 ?_)
 rw[hs]
 refine A0 (A8 ?_)
 rw [if_neg (by decide)]
 refine A0 (Tuple_ (thn (ha _ a5 s σ H _ I h) fun us s1 ⟨vs,H1,I1,r1,q1⟩=> ?_))
 obtain⟨v,w,e1,q1⟩:=q1
 subst e1
 obtain⟨u1,u2,rfl,rv,rw'⟩: ∃u1 u2,us=[u1,u2]/\RelV v u1/\RelV w u2:=by
  cases r1 with
  |cons p q=>
   cases q with
   |cons p' q'=>
    cases q'
    exact⟨_,_,rfl,p,p'⟩
 refine C6 ?_ (by show 2<=sizeLine;decide)
 have I2:Inv X a5 σ H1 {s1 with heap:=s1.heap.push {cls:= .type "tuple",data:= .seq [u1,u2].toArray}}:=I1.kept (t':=s1.toks) fun b o e=>A3 _ e
 rw[hw]
 refine A0 (A8 ?_)
 show wpAny (model X.prog X.w) X.A (do rule "assign.swapped-stores";let items<- G3 (.ref s1.heap.objs.size) 2 none;assignInOrder [fun v=>Ko X.env y v,fun v=>Ko X.env x v] items.reverse;pure Flow.next) _ _ _
 refine A0 (Hh (A0 (unpackItems_tuple (items:= #[u1,u2]) (I.ok.hd hc) (Fw s1.heap _) fun h' hx'=> ?_)))
 have I3:=I2.kept (h':=h') (t':=s1.toks) fun b o e=>hx' b o (As (Ad e)) e
 show wpAny _ _ (assignInOrder [fun v=>Ko X.env y v,fun v=>Ko X.env x v] [u2,u1]>>=fun _=>pure Flow.next) _ _ _
 refine A0 (Dn (wpAny_bindName (zDM I3 hN hj (.inl hy) rw' (fun s2 I4=> ?_) (.inr hy))))
 refine Dn (wpAny_bindName (zDM I4 hN hi (.inl hx) rv (fun s3 I5=>Fv (A8 ?_)) (.inr hx)))
 rw[E7 _ _ (C2 hij)] at I5
 exact⟨_,H1,I5,q1⟩
end
structure It where
 go:Nat->Hp->Prop
 yld:Nat->Hp->V->Hp->Prop
 stop:Nat->Hp->Prop
def FpOk(X:Cx)(a5:List (Addr×Obj))(H:Hp)(b:Addr):Prop:=
 H b=none/\b≠X.env.locals/\b∉X.fs/\(b∈X.ex∨X.s₀.heap.objs.size<=b)/\(∀x c,X.env.cells.lookup x=some c->c≠b)/\ ∀p∈X.pn++a5,p.1≠b
theorem Inv.fpOk{X:Cx}{a5:List (Addr×Obj)}{σ:St}{H H':Hp}{s:A2}{b:Addr}(I:Inv X a5 σ H s)(hb:s.heap.objs.size<=b)(hn:H' b=none):FpOk X a5 H' b:=by
 refine⟨hn,E3 (Aj I.lt hb),I.nofs hb,.inr (Cy I.sz hb),fun x c e z=> ?_,fun p hp z=> ?_⟩
 ·obtain⟨v,q⟩:=I.cell x c e
  exact absurd (Aj q.lt (by rw[z];exact hb)) (Bt _)
 ·exact absurd (Aj (Ad (I.pin p hp).1) (by rw[z];exact hb)) (Bt _)
structure Turn(P:Al)(w:World)(K:A5)(tg:Expr)(J:It)(fp:List Addr)(it:Addr)(tn:Nat->Heap->Prop):Prop where
 mem:it∈fp
 obj: ∀i h,tn i h-> ∀b∈fp,∃o,h.get? b=some o/\ ∀v,o.data≠ .cell v
 keep: ∀i h h',tn i h->(∀b∈fp,∀o,h.get? b=some o->h'.get? b=some o)->tn i h'
 item: ∀(X:Cx),X.prog=P->X.w=w->X.K=K->X.calm=true-> ∀(i:Nat) (a5:List (Addr×Obj)) (s:A2) (σ:St) (H:Hp) (E:Value->A2->Prop),Inv X a5 σ H s->(∀b∈fp,FpOk X a5 H b)->tn i s.heap->J.go i H→
  wpAny (model P w) X.A (pyNext (.ref it)) (fun r s1=> ∃u,r=some u∧
   wpAny (model P w) X.A (F4 tg (.ref it) u) (fun _ s2=> ∃x H',Inv X a5 σ H' s2/\RelV x u/\J.yld i H x H'/\tn (i+1) s2.heap/\ ∀b∈fp,H' b=none) E s1) E s
 done: ∀(X:Cx),X.prog=P->X.w=w->X.K=K->X.calm=true-> ∀(i:Nat) (a5:List (Addr×Obj)) (s:A2) (σ:St) (H:Hp) (E:Value->A2->Prop),Inv X a5 σ H s->(∀b∈fp,FpOk X a5 H b)->tn i s.heap->J.stop i H→
  wpAny (model P w) X.A (pyNext (.ref it)) (fun r s1=>r=none/\Inv X a5 σ H s1) E s
 self: ∀(A:Ba) (i:Nat) (s:A2) (Q:Value->A2->Prop) (E:Value->A2->Prop),tn i s.heap->Q (.ref it) s->wpAny (model P w) A (pyIter (.ref it)) Q E s
abbrev TI:=St->Hp->(It->Hp->Prop)->Prop
def PIE(X:Cx)(a5:List (Addr×Obj))(σ:St)(tg:Expr)(R:It->Hp->Prop)(itv:Value)(s2:A2):Prop:=
 ∃(it:Addr) (fp:List Addr) (tn:Nat->Heap->Prop) (J:It) (H':Hp),itv= .ref it/\Inv X a5 σ H' s2/\Turn X.prog X.w X.K tg J fp it tn/\tn 0 s2.heap/\(∀b∈fp,FpOk X a5 H' b)/\R J H'
def PI(X:Cx)(tg iter:Expr)(wi:TI):Prop:=
 ∀(a5:List (Addr×Obj)) (s:A2) (σ:St) (H:Hp) (R:It->Hp->Prop),Inv X a5 σ H s->wi σ H R→
  wpAny (model X.prog X.w) X.A (eval iter X.env) (fun v s1=>wpAny (model X.prog X.w) X.A (pyIter v) (PIE X a5 σ tg R) X.xe s1) X.xe s
theorem zUD{M:Model}{A:Ba}{E:Value->A2->Prop}{s:A2}{tg:Expr}{it:Addr}{u:Value}{o:Obj}{n:String}{vs:Array Value}{Q:Unit->A2->Prop}(ho:s.heap.get? it=some o)(hc:o.cls= .type n)(hd:o.data= .fields vs)
    (hn:["enumerate","zip","dict_itemiterator","dict_reverseitemiterator","odict_iterator","itertools.zip_longest","itertools.pairwise"].contains n=false) (hQ:Q () s):wpAny M A (F4 tg (.ref it) u) Q E s:=by
  unfold F4
  cases tg<;>first
    |exact A8 hQ
    |(cases u<;>first
        |exact A8 hQ
        | (refine A0 (wpAny_load ho ?_)
           rw[hc,hd]
           show wpAny M A (if(["enumerate","zip","dict_itemiterator","dict_reverseitemiterator","odict_iterator","itertools.zip_longest","itertools.pairwise"].contains n && vs[0]? ==some (rawInt _))=true then _ else _) Q E s
           rw[if_neg (by intro h;rw[hn,Bool.false_and] at h;cases h)]
           exact A8 hQ))
noncomputable def Itl(K:A5)(a:Addr):It:=
 ⟨fun i H=> ∃xs x,SqL K H a xs/\xs[i]? =some x,fun i H x H'=>H'=H/\ ∀xs,SqL K H a xs->xs[i]? =some x,fun i H=> ∃xs,SqL K H a xs/\xs.length<=i⟩
noncomputable def Itt(K:A5)(a:Addr):It:=
 ⟨fun i H=> ∃xs x,SqT K H a xs/\xs[i]? =some x,fun i H x H'=>H'=H/\ ∀xs,SqT K H a xs->xs[i]? =some x,fun i H=> ∃xs,SqT K H a xs/\xs.length<=i⟩
noncomputable def Itr(lo:Int)(n:Nat):It:=⟨fun i _=>i<n,fun i H x H'=>H'=H/\x= .int (lo+i),fun i _=>n<=i⟩
theorem zN5{P:Al}{w:World}{K:A5}{tg:Expr}(a it:Addr):Turn P w K tg (Itl K a) [it] it (fun i h=>h.IsListIter it a i) where
 mem:=by simp
 obj:=fun i h st b hb=>by
  have e:b=it:=by simpa using hb
  subst e
  obtain⟨o,e,c,d⟩:=st
  exact⟨o,e,fun v z=>by rw[d] at z;cases z⟩
 keep:=fun i h h' st k=>st.at fun o e=>k it (by simp) o e
 item:=by
  intro X hP hw hK hc i a5 s σ H E I hf st hg
  subst hP hw hK
  obtain⟨xs,x,hq,hx⟩:=hg
  obtain⟨its,rv,p,hz⟩:=I.list hq
  obtain⟨u,hu,ru⟩:=rv.get hx
  obtain⟨f0,f1,f2,f3,f4,f5⟩:=hf it (by simp)
  refine Gj st p.isList (x:=u) (by simpa using hu) fun h' st' sb=> ?_
  have I1:Inv X a5 σ H {s with heap:=h'}:=I.turned (t':=s.toks) (fun b o hb e=>(sb.2 b hb).trans e) f0 f1 f3 f4 f5
  obtain⟨o,e,c,d⟩:=id st'
  exact⟨u,rfl,zUD (s:={s with heap:=h'}) e c d (by decide) ⟨x,H,I1,ru,⟨rfl,fun ys hy=>by rw[I.list_inj hy hq];exact hx⟩,st',fun b hb=>(hf b hb).1⟩⟩
 done:=by
  intro X hP hw hK hc i a5 s σ H E I hf st hg
  subst hP hw hK
  obtain⟨xs,hq,hx⟩:=hg
  obtain⟨its,rv,p,hz⟩:=I.list hq
  obtain⟨f0,f1,f2,f3,f4,f5⟩:=hf it (by simp)
  have hl:=rv.length
  exact Gr (I.ok.hd hc) st p.isList (by simp;omega) fun h' eb=>⟨rfl,I.turned (t':=s.toks) (fun b o hb e=>eb b o hb e) f0 f1 f3 f4 f5⟩
 self:=fun _ _ _ _ _ st h=>wpAny_pyIter_listiter st h
theorem zM5{P:Al}{w:World}{K:A5}{tg:Expr}(a it:Addr):Turn P w K tg (Itt K a) [it] it (fun i h=>h.IsTupleIter it a i) where
 mem:=by simp
 obj:=fun i h st b hb=>by
  have e:b=it:=by simpa using hb
  subst e
  obtain⟨o,e,c,d⟩:=st
  exact⟨o,e,fun v z=>by rw[d] at z;cases z⟩
 keep:=fun i h h' st k=>st.at fun o e=>k it (by simp) o e
 item:=by
  intro X hP hw hK hc i a5 s σ H E I hf st hg
  subst hP hw hK
  obtain⟨xs,x,hq,hx⟩:=hg
  obtain⟨its,rv,p,hz⟩:=I.tuple hq
  obtain⟨u,hu,ru⟩:=rv.get hx
  obtain⟨f0,f1,f2,f3,f4,f5⟩:=hf it (by simp)
  refine wpAny_pyNext_tuple_item st (show s.heap.IsTuple a its.toArray from p) (x:=u) (by simpa using hu) fun h' st' sb=> ?_
  have I1:Inv X a5 σ H {s with heap:=h'}:=I.turned (t':=s.toks) (fun b o hb e=>(sb.2 b hb).trans e) f0 f1 f3 f4 f5
  obtain⟨o,e,c,d⟩:=id st'
  exact⟨u,rfl,zUD (s:={s with heap:=h'}) e c d (by decide) ⟨x,H,I1,ru,⟨rfl,fun ys hy=>by rw[I.tuple_inj hy hq];exact hx⟩,st',fun b hb=>(hf b hb).1⟩⟩
 done:=by
  intro X hP hw hK hc i a5 s σ H E I hf st hg
  subst hP hw hK
  obtain⟨xs,hq,hx⟩:=hg
  obtain⟨its,rv,p,hz⟩:=I.tuple hq
  obtain⟨f0,f1,f2,f3,f4,f5⟩:=hf it (by simp)
  have hl:=rv.length
  exact wpAny_pyNext_tuple_end (I.ok.hd hc) st (show s.heap.IsTuple a its.toArray from p) (by simp;omega) fun h' eb=>⟨rfl,I.turned (t':=s.toks) (fun b o hb e=>eb b o hb e) f0 f1 f3 f4 f5⟩
 self:=fun _ _ _ _ _ st h=>wpAny_pyIter_tupleiter st h
theorem zM6{P:Al}{w:World}{K:PySem.W.Frag}{tg:Expr}(it:Addr)(lo:Int)(n:Nat):Turn P w K tg (Itr lo n) [it] it (fun i h=>IsRangeIter h it (lo+(i:Nat)*1) ((n:Int) - (i:Nat)) 1) where
 mem:=by simp
 obj:=fun i h st b hb=>by
  have e:b=it:=by simpa using hb
  subst e
  exact⟨_,st,fun v z=>by
   have z':Data.fields _=Data.cell v:=z
   cases z'⟩
 keep:=fun i h h' st k=>k it (by simp) _ st
 item:=by
  intro X hP hw hK hc i a5 s σ H E I hf st hg
  subst hP hw hK
  obtain⟨f0,f1,f2,f3,f4,f5⟩:=hf it (by simp)
  have W:=Walks.range (prog:=X.prog) (w:=X.w) (I.ok.hd hc) it lo 1 n
  refine W.item i s _ _ hg st fun v h' tk hv st' kk=> ?_
  obtain⟨t,rfl⟩:=hv
  have I1:Inv X a5 σ H {s with heap:=h',toks:=tk}:=I.turned (fun b o hb e=>kk b o (by simpa using hb) e) f0 f1 f3 f4 f5
  refine⟨_,rfl,zUD (s:={s with heap:=h',toks:=tk}) (n:= "range_iterator") st' rfl rfl (by decide) ⟨.int (lo+i),H,I1,⟨t,?_⟩,⟨rfl,rfl⟩,st',fun b hb=>(hf b hb).1⟩⟩
  rw[Int.mul_one]
 done:=by
  intro X hP hw hK hc i a5 s σ H E I hf st hg
  subst hP hw hK
  obtain⟨f0,f1,f2,f3,f4,f5⟩:=hf it (by simp)
  exact wpAny_pyNext_range_end (I.ok.hd hc) st (by have:n<=i:=hg;omega) fun h' eb=>⟨rfl,I.turned (t':=s.toks) (fun b o hb e=>eb b o hb e) f0 f1 f3 f4 f5⟩
 self:=fun _ _ _ _ _ st h=>wpAny_pyIter_rangeiter st h
section
variable{X:Cx}{tg:Expr}
def zZ2(K:A5)(tl:TE):TI:=fun σ H R=>tl σ H fun x H1=> ∃a,x= .ref a/\(∃xs,SqL K H1 a xs)/\R (Itl K a) H1
def iTup(K:A5)(tl:TE):TI:=fun σ H R=>tl σ H fun x H1=> ∃a,x= .ref a/\(∃xs,SqT K H1 a xs)/\R (Itt K a) H1
theorem zTL{l:Expr}{tl:TE}(hl:PE X l tl):PI X tg l (zZ2 X.K tl):=by
 intro a5 s σ H R I h
 refine thn (hl a5 s σ H _ I h) fun v s1 ⟨x,H1,I1,r1,q1⟩=> ?_
 obtain⟨a,e,⟨xs,hq⟩,q⟩:=q1
 subst e
 cases r1
 obtain⟨its,rv,p,hz⟩:=I1.list hq
 refine El p.isList ?_
 refine⟨s1.heap.objs.size,[s1.heap.objs.size],_,_,H1,rfl,I1.kept (t':=s1.toks) fun b o e=>A3 _ e,zN5 a _,⟨_,Ah _ rfl,rfl,rfl⟩,fun b hb=> ?_,q⟩
 have e:b=s1.heap.objs.size:=by simpa using hb
 subst e
 exact I1.fpOk (Ag _) (I1.hok.fresh (Ag _))
theorem zX1{l:Expr}{tl:TE}(hl:PE X l tl):PI X tg l (iTup X.K tl):=by
 intro a5 s σ H R I h
 refine thn (hl a5 s σ H _ I h) fun v s1 ⟨x,H1,I1,r1,q1⟩=> ?_
 obtain⟨a,e,⟨xs,hq⟩,q⟩:=q1
 subst e
 cases r1
 obtain⟨its,rv,p,hz⟩:=I1.tuple hq
 refine E8 (show s1.heap.IsTuple a its.toArray from p) ?_
 refine⟨s1.heap.objs.size,[s1.heap.objs.size],_,_,H1,rfl,I1.kept (t':=s1.toks) fun b o e=>A3 _ e,zM5 a _,⟨_,Ah _ rfl,rfl,rfl⟩,fun b hb=> ?_,q⟩
 have e:b=s1.heap.objs.size:=by simpa using hb
 subst e
 exact I1.fpOk (Ag _) (I1.hok.fresh (Ag _))
theorem zQH{a5:List (Addr×Obj)}{σ:St}{H:Hp}{s:A2}{R:It->Hp->Prop}{E:Value->A2->Prop}{lo hi:Int}{t u v:Tok}{tk:Nat}(I:Inv X a5 σ H s)(h1: -(2 ^ 62)<=lo)(h2:lo<2 ^ 62)(h3: -(2 ^ 62)<=hi)(h4:hi<2 ^ 62)
  (q:R (Itr lo (hi - lo).toNat) H):wpAny (model X.prog X.w) X.A (pyIter (.ref s.heap.objs.size)) (PIE X a5 σ tg R) E {s with heap:=s.heap.push {cls:= .type "range",data:= .fields #[.int lo t,.int hi u,.int 1 v]},toks:=tk}:=by
 refine wpAny_pyIter_range (IsRange.new ..) (small_one h1 h2 h3 h4) ?_
 have I1:Inv X a5 σ H {s with heap:=s.heap.push {cls:= .type "range",data:= .fields #[.int lo t,.int hi u,.int 1 v]},toks:=tk}:=I.kept fun b o e=>A3 _ e
 refine⟨(s.heap.push {cls:= .type "range",data:= .fields #[.int lo t,.int hi u,.int 1 v]}).objs.size,[(s.heap.push {cls:= .type "range",data:= .fields #[.int lo t,.int hi u,.int 1 v]}).objs.size],_,_,H,rfl,
  I1.kept (t':=tk) fun b o e=>A3 _ e,zM6 _ lo (hi - lo).toNat,?_,fun b hb=> ?_,q⟩
 ·have e1 : lo + ((0 : Nat) : Int) * 1 = lo := by simp
  have e2:(((hi - lo).toNat:Nat):Int) - ((0:Nat):Int)=Kp lo hi 1:=by rw[rangeSize_one];split<;>omega
  show IsRangeIter _ _ (lo+((0:Nat):Int)*1) ((((hi - lo).toNat:Nat):Int) - ((0:Nat):Int)) 1
  rw[e1,e2]
  exact Ah _ rfl
 ·have e : b = (s.heap.push { cls := .type "range",data := .fields #[.int lo t,.int hi u,.int 1 v] }).objs.size := by simpa using hb
  subst e
  exact I1.fpOk (Ag _) (I1.hok.fresh (Ag _))
def yCE(ta:TA):TI:=fun σ H R=>ta σ H fun vs H1=> ∃j:Int,vs=[.int j]/\ -(2 ^ 62)<=j/\j<2 ^ 62/\R (Itr 0 j.toNat) H1
theorem zNZ{a:Expr}{ta:TA}{p pos:Pos}(hg:Gl X "range") (hm:X.mg "range"=none) (ha:PA X [a] ta) (hs:starEach [a] X.env=[(false,eval a X.env)]:=by rfl):PI X tg (.Call (.Name "range" p) [a] [] pos) (yCE ta):=by
 intro a5 s σ H R I h
 refine Call_ (zHQ I hg hm boot_range (Cq (thn (ha pos a5 s σ H _ I h) fun us s1 ⟨vs,H1,I1,r1,q1⟩=> ?_) hs rfl))
 obtain⟨j,e,q1,q2,q⟩:=q1
 subst e
 cases r1 with
 |cons r rr=>
  cases rr
  obtain⟨t,rfl⟩:=r
  exact call_range_1 (zQH I1 (by omega) (by omega) q1 q2 (by simpa using q))
def tFor(wi:TI)(g:TG)(tb:TS):TS:=fun D σ H=>wi σ H fun J H1=> ∃W:Nat->Nat->St->Hp->Prop,(∃m,W 0 m σ H1)/\ ∀i m σ H,W i m σ H→
 (J.stop i H/\D.nx σ H)∨(J.go i H/\ ∃N:St->Hp->Prop,(∀σ' H',N σ' H'-> ∃m',m'<m/\W (i+1) m' σ' H')/\ ∀x H',J.yld i H x H'->g x σ H' fun σ2 H2=>tb {D with nx:=N,ct:=N,bk:=D.nx} σ2 H2)
noncomputable def zJ2(fp:List Addr)(h:Heap):List (Addr×Obj):=fp.filterMap fun b=>(h.get? b).map fun o=>(b,o)
theorem zEE{fp:List Addr}{h:Heap}{b:Addr}{o:Obj}(hb:b∈fp)(e:h.get? b=some o):(b,o)∈zJ2 fp h:=Fl.mpr ⟨b,hb,by rw[e];rfl⟩
theorem zO6{fp:List Addr}{h:Heap}{p:Addr×Obj}(hp:p∈zJ2 fp h):p.1∈fp/\h.get? p.1=some p.2:=by
 obtain⟨b,hb,e⟩:=Fl.mp hp
 cases q:h.get? b with
 |none=>rw[q] at e;cases e
 |some o=>
  rw[q] at e
  have e':(b,o)=p:=B4 e
  subst e'
  exact⟨hb,q⟩
theorem Inv.pinned{a5:List (Addr×Obj)}{σ:St}{H:Hp}{s:A2}{fp:List Addr}(I:Inv X a5 σ H s)(hf: ∀b∈fp,FpOk X a5 H b)(ho: ∀b∈fp,∃o,s.heap.get? b=some o/\ ∀v,o.data≠ .cell v):Inv X (a5++zJ2 fp s.heap) σ H s:=
 I.pins_of fun p hp=>(Bg.mp hp).elim (fun z=>I.pin p (Ap _ z)) fun z=>by
  obtain⟨hb,e⟩:=zO6 z
  obtain⟨f0,f1,f2,_⟩:=hf p.1 hb
  obtain⟨o,e',d⟩:=ho p.1 hb
  rw[e] at e';cases e'
  exact⟨e,f0,f1,f2,d⟩
theorem Inv.unpinned{a5 pl:List (Addr×Obj)}{σ:St}{H:Hp}{s:A2}(I:Inv X (a5++pl) σ H s):Inv X a5 σ H s:=I.pins_of fun p hp=>I.pin p (Ap _ (Ar _ hp))
theorem zWZ{iter:Expr}{body:List Stmt}{wi:TI}{g:TG}{tb:TS}{pos:Pos}(hp:PassesOwn (model X.prog X.w) X.A X.env X.xe)(hc:X.calm=true)(hi:PI X tg iter wi)(hg:PG X tg g)(hb:PSs X body tb)
  (hs : ∀ x,foldedSetIterable iter X.env x = pure x := by intro _;rfl) : PS X (.For tg iter body [] pos) (tFor wi g tb) := by
 intro a5 s σ H D I h
 refine wpAny_For (thn (hi a5 s σ H _ I h) fun v s1 h1=>thn h1 fun itv s2 h2=> ?_) hs
 obtain⟨it,fp,tn,J,H2,e,I2,T,st2,f2,W,⟨m0,w0⟩,turn⟩:=h2
 subst e
 have stat: ∀{H':Hp},(∀b∈fp,H' b=none)-> ∀b∈fp,FpOk X a5 H' b:=fun hn b hb=>⟨hn b hb,(f2 b hb).2⟩
 refine codeAny_forLoop_any (fun n s'=> ∃i σ' H',Inv X a5 σ' H' s'/\tn i s'.heap/\(∀b∈fp,H' b=none)/\W i n σ' H') ?_ m0 ⟨0,σ,H2,I2,st2,fun b hb=>(f2 b hb).1,w0⟩
 rintro n s3 ⟨i,σ3,H3,I3,st3,fr3,w3⟩
 rcases turn i n σ3 H3 w3 with⟨stop,qn⟩|⟨go,N,hN,step⟩
 ·refine E9 hp (thn (T.done X rfl rfl rfl hc i a5 s3 σ3 H3 X.xe I3 (stat fr3) st3 stop) fun r s4 ⟨hr,I4⟩ => ?_)
  subst hr
  exact Gq ⟨σ3,H3,I4,qn⟩
 ·refine E9 hp (thn (T.item X rfl rfl rfl hc i a5 s3 σ3 H3 X.xe I3 (stat fr3) st3 go) fun r s4 ⟨u,hr,h4⟩ => ?_)
  subst hr
  refine E9 hp (thn h4 fun _ s5 ⟨x,H5,I5,r5,y5,st5,fr5⟩=> ?_)
  have I5':=I5.pinned (stat fr5) (T.obj _ _ st5)
  refine E9 hp (thn (hg _ s5 σ3 H5 x u _ I5' r5 (step x H5 y5)) fun _ s6 ⟨σ6,H6,I6,q6⟩=> ?_)
  refine E9 hp (thn (hb _ s6 σ6 H6 _ I6 q6) fun f s7 q7=> ?_)
  have zHB: ∀{σ7:St} {H7:Hp},Inv X (a5++zJ2 fp s5.heap) σ7 H7 s7->N σ7 H7-> ∃m,m<n/\ ∃i σ' H',Inv X a5 σ' H' s7/\tn i s7.heap/\(∀b∈fp,H' b=none)/\W i m σ' H':=fun{σ7 H7} I7 n7=>by
   obtain⟨m',hm,w7⟩:=hN σ7 H7 n7
   refine⟨m',hm,i+1,σ7,H7,I7.unpinned,T.keep _ _ _ st5 fun b hb o e=>(I7.pin (b,o) (Ap _ (Ap _ (zEE hb e)))).1,fun b hb=> ?_,w7⟩
   obtain⟨o,e,d⟩:=T.obj _ _ st5 b hb
   exact(I7.pin (b,o) (Ap _ (Ap _ (zEE hb e)))).2.1
  cases f with
  |next=>obtain⟨σ7,H7,I7,n7⟩:=q7;exact zHB I7 n7
  |cont=>obtain⟨σ7,H7,I7,n7⟩:=q7;exact zHB I7 n7
  |brk=>obtain⟨σ7,H7,I7,q7⟩:=q7;exact⟨σ7,H7,I7.unpinned,q7⟩
  |ret v=>obtain⟨x7,σ7,H7,I7,r7,q7⟩:=q7;exact⟨x7,σ7,H7,I7.unpinned,r7,q7⟩
end
abbrev R2:=V->V->Hp->VK->Prop
def OpR(X:Cx)(f:Value->Value->Sem Value)(r:R2):Prop:=
 ∀(a5:List (Addr×Obj)) (s:A2) (σ:St) (H:Hp) (x y:V) (v u:Value) (Q:VK),Inv X a5 σ H s->RelV x v->RelV y u->r x y H Q→
  wpAny (model X.prog X.w) X.A (f v u) (EP X a5 σ Q) X.xe s
def UnR(X:Cx)(f:Value->Sem Value)(r:V->Hp->VK->Prop):Prop:=
 ∀(a5:List (Addr×Obj)) (s:A2) (σ:St) (H:Hp) (x:V) (v:Value) (Q:VK),Inv X a5 σ H s->RelV x v->r x H Q→
  wpAny (model X.prog X.w) X.A (f v) (EP X a5 σ Q) X.xe s
def zC8(X:Cx)(f:Value)(r:List V->Hp->VK->Prop):Prop:=
 ∀(a5:List (Addr×Obj)) (s:A2) (σ:St) (H:Hp) (xs:List V) (us:List Value) (Q:VK),Inv X a5 σ H s->Vals xs us->r xs H Q→
  wpAny (model X.prog X.w) X.A (call f us) (EP X a5 σ Q) X.xe s
def tOp(r:R2)(ta tb:TE):TE:=fun σ H Q=>ta σ H fun x H1=>tb σ H1 fun y H2=>r x y H2 Q
def tUn(r:V->Hp->VK->Prop)(ta:TE):TE:=fun σ H Q=>ta σ H fun x H1=>r x H1 Q
def rI(C:Int->Int->Prop)(g:Int->Int->V):R2:=fun x y H Q=> ∃i j,x= .int i/\y= .int j/\C i j/\Q (g i j) H
def rI0(g:Int->Int->V):R2:=fun x y H Q=> ∃i j,x= .int i/\y= .int j/\Q (g i j) H
def rU(g:Int->V):V->Hp->VK->Prop:=fun x H Q=> ∃i,x= .int i/\Q (g i) H
section
variable{X:Cx}{a b c:Expr}{ta tb tc:TE}{pos:Pos}
theorem binT(ha:PE X a ta)(hb:PE X b tb){a5:List (Addr×Obj)}{s:A2}{σ:St}{H:Hp}{R:V->V->Hp->Prop}(I:Inv X a5 σ H s)
  (h:ta σ H fun x H1=>tb σ H1 fun y H2=>R x y H2) {Q:Value->A2->Prop} {f:Value->Value->Sem Value}
  (hf: ∀v u s2 x y H2,Inv X a5 σ H2 s2->RelV x v->RelV y u->R x y H2->wpAny (model X.prog X.w) X.A (f v u) Q X.xe s2):
  wpAny (model X.prog X.w) X.A (eval a X.env) (fun v s₁=>wpAny (model X.prog X.w) X.A (eval b X.env) (fun u s₂=>wpAny (model X.prog X.w) X.A (f v u) Q X.xe s₂) X.xe s₁) X.xe s:=by
 refine thn (ha a5 s σ H _ I h) fun v s1 ⟨x,H1,I1,r1,q1⟩=> ?_
 refine thn (hb a5 s1 σ H1 _ I1 q1) fun u s2 ⟨y,H2,I2,r2,q2⟩=> ?_
 exact hf v u s2 x y H2 I2 r1 r2 q2
theorem zX5{op:Operator}{r:R2}(ho:OpR X (D0 op) r)(ha:PE X a ta)(hb:PE X b tb):PE X (.BinOp a op b pos) (tOp r ta tb):=by
 intro a5 s σ H Q I h
 exact wpAny_BinOp (binT ha hb I h fun v u s2 x y H2 I2 rx ry q=>ho a5 s2 σ H2 x y v u Q I2 rx ry q)
theorem yB2{op:UnaryOp}{r:V->Hp->VK->Prop}(ho:UnR X (unaryOp op) r)(ha:PE X a ta):PE X (.UnaryOp op a pos) (tUn r ta):=by
 intro a5 s σ H Q I h
 exact UnaryOp_ (thn (ha a5 s σ H _ I h) fun v s1 ⟨x,H1,I1,r1,q1⟩=>ho a5 s1 σ H1 x v Q I1 r1 q1)
theorem opI{f:Value->Value->Sem Value}{C:Int->Int->Prop}{g:Int->Int->Int}
  (rule: ∀(i j:Int) (t u:Tok) (s:A2) (Q:Value->A2->Prop) (E:Value->A2->Prop),C i j->Q (.int (g i j) s.toks) {s with toks:=s.toks+1}->wpAny (model X.prog X.w) X.A (f (.int i t) (.int j u)) Q E s):
  OpR X f (rI C fun i j=> .int (g i j)):=by
 intro a5 s σ H x y v u Q I rx ry h
 obtain⟨i,j,rfl,rfl,hc,q⟩:=h
 obtain⟨t,rfl⟩:=rx
 obtain⟨t',rfl⟩:=ry
 exact rule i j t t' s _ _ hc ⟨.int (g i j),H,I.tok _,⟨_,rfl⟩,q⟩
theorem opI0{f:Value->Value->Sem Value}{g:Int->Int->Int}
  (rule: ∀(i j:Int) (t u:Tok) (s:A2) (Q:Value->A2->Prop) (E:Value->A2->Prop),Q (.int (g i j) s.toks) {s with toks:=s.toks+1}->wpAny (model X.prog X.w) X.A (f (.int i t) (.int j u)) Q E s):
  OpR X f (rI0 fun i j=> .int (g i j)):=by
 intro a5 s σ H x y v u Q I rx ry h
 obtain⟨i,j,rfl,rfl,q⟩:=h
 obtain⟨t,rfl⟩:=rx
 obtain⟨t',rfl⟩:=ry
 exact rule i j t t' s _ _ ⟨.int (g i j),H,I.tok _,⟨_,rfl⟩,q⟩
theorem opB0{f:Value->Value->Sem Value}{g:Int->Int->Bool}
  (rule: ∀(i j:Int) (t u:Tok) (s:A2) (Q:Value->A2->Prop) (E:Value->A2->Prop),Q (.bool (g i j)) s->wpAny (model X.prog X.w) X.A (f (.int i t) (.int j u)) Q E s):
  OpR X f (rI0 fun i j=> .bl (g i j)):=by
 intro a5 s σ H x y v u Q I rx ry h
 obtain⟨i,j,rfl,rfl,q⟩:=h
 obtain⟨t,rfl⟩:=rx
 obtain⟨t',rfl⟩:=ry
 exact rule i j t t' s _ _ ⟨.bl (g i j),H,I,rfl,q⟩
def CDiv(i j:Int):Prop:=0<j/\j<1073741824
def CPow(i j:Int):Prop:=0<=j/\j<=1000000/\i.natAbs<2 ^ 64
def CMul(i j:Int):Prop:=(-(2 ^ 64)<i/\i<2 ^ 64)∨(-(2 ^ 64)<j/\j<2 ^ 64)
theorem CMul.ok{i j:Int}(h:CMul i j):IntMulOk i j:=by
 rcases h with⟨h1,h2⟩|⟨h1,h2⟩
 ·exact .of_left (intBits_le_64 h1 h2)
 ·exact .of_right (intBits_le_64 h1 h2)
theorem zXF:OpR X (D0 .Add) (rI0 fun i j=> .int (i+j)):=opI0 fun _ _ _ _ _ _ _ q=>add_int q
theorem zFX:OpR X (D0 .Sub) (rI0 fun i j=> .int (i - j)):=opI0 fun _ _ _ _ _ _ _ q=>sub_int q
theorem zXC:OpR X (D0 .Mult) (rI CMul fun i j=> .int (i*j)):=opI fun _ _ _ _ _ _ _ hc q=>mul_int q hc.ok
theorem zKD:OpR X (D0 .FloorDiv) (rI CDiv fun i j=> .int (i/j)):=opI fun i j _ _ _ _ _ hc q=>by
 have h1:(0:Int)<j:=hc.1
 have h2:j<1073741824:=hc.2
 exact floordiv_int (by omega) (by rw[Int.fdiv_eq_ediv_of_nonneg i (by omega)];exact q) (.inl (PyProof.noPylong_small (by omega)))
theorem zE4:OpR X (D0 .Mod) (rI (fun _ j=>0<j) fun i j=> .int (i % j)):=opI fun i j _ _ _ _ _ hc q=>by
 have h1:(0:Int)<j:=hc
 exact mod_int' (by omega) (by rw[Int.fmod_eq_emod_of_nonneg i (by omega)];exact q)
theorem zXA:OpR X (D0 .Pow) (rI CPow fun i j=> .int (i ^ j.toNat)):=opI fun _ _ _ _ _ _ _ hc q=>pow_int_small hc.1 hc.2.1 hc.2.2 q
theorem unI{f:Value->Sem Value}{g:Int->Int}
  (rule: ∀(i:Int) (t:Tok) (s:A2) (Q:Value->A2->Prop) (E:Value->A2->Prop),Q (.int (g i) s.toks) {s with toks:=s.toks+1}->wpAny (model X.prog X.w) X.A (f (.int i t)) Q E s):
  UnR X f (rU fun i=> .int (g i)):=by
 intro a5 s σ H x v Q I rx h
 obtain⟨i,rfl,q⟩:=h
 obtain⟨t,rfl⟩:=rx
 exact rule i t s _ _ ⟨.int (g i),H,I.tok _,⟨_,rfl⟩,q⟩
theorem zVA:UnR X (unaryOp .USub) (rU fun i=> .int (-i)):=unI fun _ _ _ _ _ q=>neg_int q
end
section
variable{X:Cx}{a b c:Expr}{ta tb tc:TE}{pos:Pos}
theorem zLP{a5:List (Addr×Obj)}{σ:St}{H:Hp}{s:A2}{Q:VK}{k k':Bool}(I:Inv X a5 σ H s)(q:Q (.bl k) H)(e:k=k'):EP X a5 σ Q (.bool k') s:=by
 subst e
 exact⟨.bl k,H,I,rfl,q⟩
theorem zXD:OpR X (Bl .Lt) (rI0 fun i j=> .bl (decide (i<j))):=opB0 fun _ _ _ _ _ _ _ q=>lt_int q
theorem zQV:OpR X (Bl .LtE) (rI0 fun i j=> .bl (decide (i<=j))):=opB0 fun _ _ _ _ _ _ _ q=>le_int q
theorem yBC:OpR X (Bl .Gt) (rI0 fun i j=> .bl (decide (j<i))):=opB0 fun _ _ _ _ _ _ _ q=>gt_int q
theorem yBD:OpR X (Bl .GtE) (rI0 fun i j=> .bl (decide (j<=i))):=opB0 fun _ _ _ _ _ _ _ q=>ge_int q
theorem zS1:OpR X (Bl .Is) (fun x y H Q=>y= .non/\Q (.bl (decide (x= .non))) H):=by
 intro a5 s σ H x y v u Q I rx ry h
 obtain⟨rfl,q⟩:=h
 cases ry
 refine is_none_gen (zLP I q ?_)
 cases x<;>first
  |(cases rx;rfl)
  |(obtain⟨t,rfl⟩:=rx;rfl)
theorem zKC:OpR X (Bl .IsNot) (fun x y H Q=>y= .non/\Q (.bl (!decide (x= .non))) H):=by
 intro a5 s σ H x y v u Q I rx ry h
 obtain⟨rfl,q⟩:=h
 cases ry
 refine isnot_none_gen (zLP I q ?_)
 cases x<;>first
  |(cases rx;rfl)
  |(obtain⟨t,rfl⟩:=rx;rfl)
theorem OpR.or{f:Value->Value->Sem Value}{r r':R2}(h:OpR X f r)(h':OpR X f r'):OpR X f (fun x y H Q=>r x y H Q∨r' x y H Q):=by
 intro a5 s σ H x y v u Q I rx ry q
 rcases q with q|q
 ·exact h a5 s σ H x y v u Q I rx ry q
 ·exact h' a5 s σ H x y v u Q I rx ry q
theorem zBC(b:Expr){op:CmpOp}(h:op≠ .In:=by decide)(h2:op≠ .NotIn:=by decide):Ea op b=false:=by
 have e1:(op==CmpOp.In)=false:=by cases op<;>first|rfl|exact absurd rfl h
 have e2:(op==CmpOp.NotIn)=false:=by cases op<;>first|rfl|exact absurd rfl h2
 cases b<;>simp[Ea,e1,e2]
theorem zTP{op:CmpOp}{r:R2}(ho:OpR X (Bl op) r)(ha:PE X a ta)(hb:PE X b tb)(hm:Ea op b=false):PE X (.Compare a [op] [b] pos) (tOp r ta tb):=by
 intro a5 s σ H Q I h
 exact wpAny_Compare1 (binT ha hb I h fun v u s2 x y H2 I2 rx ry q=>ho a5 s2 σ H2 x y v u Q I2 rx ry q) hm
def zVJ(t:TE):TT:=fun σ H Q=>t σ H fun x H'=> ∃k,x= .bl k/\Q k H'
theorem zTF{op:CmpOp}{r:R2}(ho:OpR X (Bl op) r)(ha:PE X a ta)(hb:PE X b tb)(hm:Ea op b=false):PT X (.Compare a [op] [b] pos) (zVJ (tOp r ta tb)):=by
 intro a5 s σ H Q I h
 refine wpAny_isTrue_Compare1 (thn (ha a5 s σ H _ I h) fun v s1 ⟨x,H1,I1,r1,q1⟩=>thn (hb a5 s1 σ H1 _ I1 q1) fun u s2 ⟨y,H2,I2,r2,q2⟩=>
  thn (ho a5 s2 σ H2 x y v u _ I2 r1 r2 q2) fun c s3 ⟨z,H3,I3,r3,k,e,q3⟩=> ?_) hm
 subst e
 cases r3
 exact Cn ⟨H3,I3,q3⟩
def zNC(r r':R2)(ta tb tc:TE):TE:=fun σ H Q=>ta σ H fun x H1=>tb σ H1 fun y H2=>r x y H2 fun z H3=> ∃k,z= .bl k∧
 (if k=true then tc σ H3 fun w' H4=>r' y w' H4 Q else Q (.bl false) H3)
theorem zQR{op op':CmpOp}{r r':R2}(ho:OpR X (Bl op) r)(ho':OpR X (Bl op') r')(ha:PE X a ta)(hb:PE X b tb)(hc:PE X c tc)
  (hm:Ju [op,op'] [b,c]=false:=by with_unfolding_all rfl):PE X (.Compare a [op,op'] [b,c] pos) (zNC r r' ta tb tc):=by
 intro a5 s σ H Q I h
 refine Compare_chain (thn (ha a5 s σ H _ I h) fun v s1 ⟨x,H1,I1,r1,q1⟩=>chain_link (thn (hb a5 s1 σ H1 _ I1 q1) fun u s2 ⟨y,H2,I2,r2,q2⟩=>
  thn (ho a5 s2 σ H2 x y v u _ I2 r1 r2 q2) fun d s3 ⟨z,H3,I3,r3,k,e,q3⟩=> ?_)) hm
 subst e
 cases r3
 refine Cn ?_
 cases k with
 |false=>exact ite_ff ⟨.bl false,H3,I3,rfl,q3⟩
 |true=>exact ite_tt (chain_last (thn (hc a5 s3 σ H3 _ I3 q3) fun w' s4 ⟨z',H4,I4,r4,q4⟩=>ho' a5 s4 σ H4 y z' u w' Q I4 r2 r4 q4))
theorem zQJ{op op':CmpOp}{r r':R2}(ho:OpR X (Bl op) r)(ho':OpR X (Bl op') r')(ha:PE X a ta)(hb:PE X b tb)(hc:PE X c tc)
  (hm:Ju [op,op'] [b,c]=false:=by with_unfolding_all rfl):PT X (.Compare a [op,op'] [b,c] pos) (zVJ (zNC r r' ta tb tc)):=by
 intro a5 s σ H Q I h
 refine isTrue_chain (thn (ha a5 s σ H _ I h) fun v s1 ⟨x,H1,I1,r1,q1⟩=>test_link (thn (hb a5 s1 σ H1 _ I1 q1) fun u s2 ⟨y,H2,I2,r2,q2⟩=>
  thn (ho a5 s2 σ H2 x y v u _ I2 r1 r2 q2) fun d s3 ⟨z,H3,I3,r3,k,e,q3⟩=> ?_)) hm
 subst e
 cases r3
 refine Cn ?_
 cases k with
 |false=>
  obtain⟨k',e',q'⟩:=q3
  cases e'
  exact ite_ff ⟨H3,I3,q'⟩
 |true=>
  refine ite_tt (test_last (thn (hc a5 s3 σ H3 _ I3 q3) fun w' s4 ⟨z',H4,I4,r4,q4⟩=>thn (ho' a5 s4 σ H4 y z' u w' _ I4 r2 r4 q4) fun d' s5 ⟨z2,H5,I5,r5,k2,e2,q5⟩=> ?_))
  subst e2
  cases r5
  exact Cn ⟨H5,I5,q5⟩
theorem zHP:(sizeLine:Nat)<2 ^ 63:=by rw[Bb];decide
theorem zMD:OpR X (D0 .Add) (fun x y H Q=> ∃i j,x= .str i/\y= .str j/\i.length+j.length<=sizeLine/\Q (.str (i++j)) H):=by
 intro a5 s σ H x y v u Q I rx ry h
 obtain⟨i,j,rfl,rfl,hz,q⟩:=h
 obtain⟨t,rfl⟩:=rx
 obtain⟨t',rfl⟩:=ry
 exact add_str (fun t' tk=>⟨.str (i++j),H,I.tok _,⟨_,rfl⟩,q⟩) hz
theorem zK5{x:V}{us:List Value}(r:Vals [x] us): ∃u,us=[u]/\RelV x u:=by
 cases r with
 |cons r1 r2=>cases r2;exact⟨_,rfl,r1⟩
theorem zMY{x y:V}{us:List Value}(r:Vals [x,y] us): ∃u w',us=[u,w']/\RelV x u/\RelV y w':=by
 cases r with
 |cons r1 r2=>
  cases r2 with
  |cons r3 r4=>cases r4;exact⟨_,_,rfl,r1,r3⟩
theorem zJN(hc:X.calm=true):zC8 X (.builtin "max") (fun xs H Q=> ∃i j,xs=[.int i,.int j]/\Q (.int (if j>i then j else i)) H):=by
 intro a5 s σ H xs us Q I r h
 obtain⟨i,j,rfl,q⟩:=h
 obtain⟨u,w',rfl,⟨t,rfl⟩,⟨t',rfl⟩⟩:=zMY r
 refine max_two_ints (I.ok.hd hc) fun h' tk k=>⟨_,H,I.kept k,?_,q⟩
 by_cases hj:j>i
 ·rw[if_pos hj,if_pos hj];exact⟨_,rfl⟩
 ·rw[if_neg hj,if_neg hj];exact⟨_,rfl⟩
theorem zJM(hc:X.calm=true):zC8 X (.builtin "min") (fun xs H Q=> ∃i j,xs=[.int i,.int j]/\Q (.int (if j<i then j else i)) H):=by
 intro a5 s σ H xs us Q I r h
 obtain⟨i,j,rfl,q⟩:=h
 obtain⟨u,w',rfl,⟨t,rfl⟩,⟨t',rfl⟩⟩:=zMY r
 refine min_two_ints (I.ok.hd hc) fun h' tk k=>⟨_,H,I.kept k,?_,q⟩
 by_cases hj:j<i
 ·rw[if_pos hj,if_pos hj];exact⟨_,rfl⟩
 ·rw[if_neg hj,if_neg hj];exact⟨_,rfl⟩
end
structure ObjM(h:Heap)(x dx C:Addr)(mA:Str->Option Value):Prop where
 obj:h.get? x=some (Kw C dx)
 ns:h.Ns1 dx mA
 ne:dx≠x
theorem zOG{h:Heap}{dx:Addr}{mA:Str->Option Value}(n:h.Ns1 dx mA): ∃od,h.get? dx=some od/\ ∀name,W.lookIn name od=some (mA name):=by
 obtain⟨o,es,ep,ho,hd,hk,_,hm⟩:=n
 refine⟨o,ho,fun name=> ?_⟩
 have e:=hm name
 unfold nsFind findBy at e
 rw[<- Array.find?_toList] at e
 unfold W.lookIn
 rw[hd]
 dsimp only
 split
 ·rename_i y q
  rw[q] at e
  exact congrArg some e
 ·rename_i q
  rw[q] at e
  have a:es.toList.any (·.refKey)=false:=by
   rw[List.any_eq_false]
   intro y hy
   obtain⟨z,t,o8⟩:=hk y (Array.mem_toList_iff.mp hy)
   simp[DictEntry.refKey,o8]
  have a': ¬es.toList.any (·.refKey)=true:=by rw[a];exact Cg
  rw[if_neg a']
  exact congrArg some e
theorem ObjM.look{h:Heap}{x dx C:Addr}{mA:Str->Option Value}(I:ObjM h x dx C mA): ∃od,W.InstAt h x (Kw C dx) C (some od)/\ ∀name,W.lookIn name od=some (mA name):=
 let ⟨od,ho,hl⟩:=zOG I.ns
 ⟨od,⟨I.obj,rfl,rfl,ho⟩,hl⟩
theorem RelO.some_of{v:V}{o:Option Value}(r:RelO (some v) o): ∃u,o=some u/\RelV v u:=by
 cases o with
 |none=>exact(show False from r).elim
 |some u=>exact⟨u,rfl,r⟩
section
variable{P:Al}{w:World}{H H':Hp}{h h':Heap}{a C dx:Addr}{fs fs':List (Str×V)}
theorem zUB(hok:HOk P w H h)(e:H a=some (.ins C dx fs)): ∃mA,ObjM h a dx C mA/\(∀f,RelO (fs.lookup f) (mA f))/\Kx mA (fs.map (·.1))/\fs.length<=1000/\H dx=some (.own a):=by
 obtain⟨d,z,ne,ob,mA,n,r,q⟩:=(show zC7 P w H h a (.ins C dx fs) from hok a _ e)
 exact⟨mA,⟨ob,n,ne⟩,r,q,z,d⟩
end
structure Cls(K:A5)(C:Addr):Prop where
 pg:W.plainGet K C Str.empty=true
 hd:W.hasDictIn K C=true
 po:W.plainOver K C=true
 sa:Jl K (.ref C) "__setattr__"=some (some (.builtin "object.__setattr__"))
theorem Cls.get{K:A5}{C:Addr}(c:Cls K C)(f:Str):W.plainGet K C f=true:=c.pg
section
variable{X:Cx}{a5:List (Addr×Obj)}{σ:St}{H:Hp}{s:A2}{A:Ba}{E:Value->A2->Prop}{Q:Value->A2->Prop}{c:Value}{b:Bool}
inductive TyOf(K:A5)(H:Hp):V->Value->Prop where
 |non:TyOf K H .non (.type "NoneType")
 |bl (x:Bool):TyOf K H (.bl x) (.type "bool")
 |int (i:Int):TyOf K H (.int i) (.type "int")
 |str (x:Str):TyOf K H (.str x) (.type "str")
 |flt (x:UInt64):TyOf K H (.flt x) (.type "float")
 |lst {a:Addr} {xs:List V} (e:H a=some (.lst xs)):TyOf K H (.ref a) (.type "list")
 |frz {a:Addr} {o:Obj} {xs:List V} (e:H a=some (.frz o (.lst xs))):TyOf K H (.ref a) (.type "list")
 |tup {a:Addr} {xs:List V} (e:H a=some (.tup xs)):TyOf K H (.ref a) (.type "tuple")
 |dK {a:Addr} {kvs:List (Key×V)} (e:H a=some (.dK kvs)):TyOf K H (.ref a) (.type "dict")
 |dT {a:Addr} {kvs:List (List Key×V)} (e:H a=some (.dT kvs)):TyOf K H (.ref a) (.type "dict")
 |ins {a C dx:Addr} {fs:List (Str×V)} (e:H a=some (.ins C dx fs)) (cl:Cls K C) (ha:Jl K (.ref C) "__class__"=some (some (.builtin "object.__class__")))
   (hn:W.specialIn K (.builtin "object.__class__") "__get__"=some (some (.builtin "getset_descriptor.__get__"))) (htk:W.takesIn K (.builtin "object.__class__")=some true)
   (hm:W.mroIn K C (.type "object")=some true):TyOf K H (.ref a) (.ref C)
theorem zF1{x:V}{u t:Value}(I:Inv X a5 σ H s)(rx:RelV x u)(ty:TyOf X.K H x t)(e:Eu X.K t c=some b)(h: ∀tk,Q (.bool b) {s with toks:=tk}):
  wpAny (model X.prog X.w) A (call (.builtin "isinstance") [u,c]) Q E s:=by
 cases ty with
 |non=>cases (show u=Value.none from rx);exact Cr W.kitx_none I.kIn True.intro e (fun z=>nomatch z) h
 |bl y=>cases (show u=Dk y from rx);exact Cr W.kitx_bool I.kIn True.intro e (fun z=>nomatch z) h
 |int i=>obtain⟨t,q⟩:=(show∃t,u=Jq i t from rx);cases q;exact Cr W.kitx_int I.kIn True.intro e (fun z=>nomatch z) h
 |str y=>obtain⟨t,q⟩:=(show∃t,u=Jr y t from rx);cases q;exact Cr W.kitx_str I.kIn True.intro e (fun z=>nomatch z) h
 |flt y=>obtain⟨t,q⟩:=(show∃t,u=L8 y t from rx);cases q;exact Cr W.kitx_float I.kIn True.intro e (fun z=>nomatch z) h
 | @lst a xs ea=>
  cases (show u=Au a from rx)
  obtain⟨_,_,n,_,h1⟩:=(show zC7 X.prog X.w H s.heap a (.lst xs) from I.hok a _ ea)
  exact Cr Hw I.kIn ⟨_,h1,rfl⟩ e (fun z=>nomatch z) h
 | @frz a ob xs ea=>
  cases (show u=Au a from rx)
  obtain⟨_,_,_,n,_,h1⟩:=(show zC7 X.prog X.w H s.heap a (.frz ob (.lst xs)) from I.hok a _ ea)
  exact Cr Hw I.kIn ⟨_,h1,rfl⟩ e (fun z=>nomatch z) h
 | @tup a xs ea=>
  cases (show u=Au a from rx)
  obtain⟨_,_,_,p⟩:=(show zC7 X.prog X.w H s.heap a (.tup xs) from I.hok a _ ea)
  obtain⟨o,h1,h2,_⟩:=p
  exact Cr W.kitx_tuple I.kIn ⟨o,h1,h2⟩ e (fun z=>nomatch z) h
 | @dK a kvs ea=>
  cases (show u=Au a from rx)
  obtain⟨_,_,vs,_,p⟩:=(show zC7 X.prog X.w H s.heap a (.dK kvs) from I.hok a _ ea)
  obtain⟨o,es,ep,h1,h2,_⟩:=p
  exact Cr W.kitx_dict I.kIn ⟨o,h1,h2.1⟩ e (fun z=>nomatch z) h
 | @dT a kvs ea=>
  cases (show u=Au a from rx)
  obtain⟨_,_,xs,_,o,es,ep,h1,h2,_⟩:=(show zC7 X.prog X.w H s.heap a (.dT kvs) from I.hok a _ ea)
  exact Cr W.kitx_dict I.kIn ⟨o,h1,h2.1⟩ e (fun z=>nomatch z) h
 | @ins a C dx fs ea cl ha hn htk hm=>
  cases (show u=Au a from rx)
  obtain⟨mA,O,_⟩:=zUB I.hok ea
  obtain⟨od,J,_⟩:=O.look
  exact Cr (W.kitx_own (cl.get _) cl.hd ha hn htk hm) I.kIn J e (fun z=>nomatch z) h
end
structure Room(k:Nat)(A:Ba):Prop where
 hd:A.handled=none
 dp:A.depth+3*k+5<Fp
 un:A.units+16*k+200<cLine
theorem Room.mono{j k:Nat}{A:Ba}(r:Room k A)(h:j<=k):Room j A:=⟨r.hd,by have:=r.dp;omega,by have:=r.un;omega⟩
theorem Room.deeper{k:Nat}{A:Ba}(r:Room (k+1) A)(env:Env):Room k (A.deeper env):=
 ⟨r.hd,by have:=r.dp;show A.depth+1+3*k+5<_;omega,by have:=r.un;show A.units+3+16*k+200<_;omega⟩
theorem Room.depth{k:Nat}{A:Ba}(r:Room k A):A.depth<Fp:=by have:=r.dp;omega
theorem Room.units{k:Nat}{A:Ba}(r:Room k A):A.units+64<cLine:=by have:=r.un;omega
def tNil:TA:=fun _ H Q=>Q [] H
def zM7(ta:TE)(tr:TA):TA:=fun σ H Q=>ta σ H fun x H1=>tr σ H1 fun xs H2=>Q (x::xs) H2
section
variable{X:Cx}{e:Expr}{es:List Expr}{te:TE}{t:TA}{pos:Pos}
theorem zCU:PA X [] tNil:=fun _ _ _ _ H Q I h=>Em ⟨[],H,I,.nil,h⟩
theorem zB1(ha:PE X e te)(hr:PA X es t)(hs:starEach (e::es) X.env=(false,eval e X.env)::starEach es X.env:=by rfl):PA X (e::es) (zM7 te t):=by
 intro pos a5 s σ H Q I h
 rw[hs]
 show wpAny _ _ (spliced ((false,eval e X.env)::Cj pos (starEach es X.env))) _ _ s
 refine Dq (thn (ha a5 s σ H _ I h) fun u s1 ⟨x,H1,I1,r1,q1⟩=> ?_)
 exact thn (hr pos a5 s1 σ H1 _ I1 q1) fun us s2 ⟨xs,H2,I2,r2,q2⟩=>⟨x::xs,H2,I2,.cons r1 r2,q2⟩
def tTup(t:TA):TE:=fun σ H Q=>t σ H fun xs H1=>xs.length<=sizeLine/\ ∀p,H1 p=none->Q (.ref p) (upd H1 p (.tup xs))
def tLst(t:TA):TE:=fun σ H Q=>t σ H fun xs H1=>xs.length<=sizeLine/\ ∀p,H1 p=none->Q (.ref p) (upd H1 p (.lst xs))
theorem zO1{x1}(h:PA X es t):PE X (.Tuple es x1 pos) (tTup t):=by
 intro a5 s σ H Q I hq
 refine wpAny_Tuple_spliced (thn (h pos a5 s σ H _ I hq) fun us s1 ⟨xs,H1,I1,r,z,q⟩=>⟨by rw[<- r.length];exact z,?_⟩)
 have hf:H1 s1.heap.objs.size=none:=I1.hok.fresh (Ag _)
 refine⟨.ref s1.heap.objs.size,upd H1 s1.heap.objs.size (.tup xs),I1.laid (t':=s1.toks) (fun b u e=>A3 _ e) (Ag _) ?_,rfl,q _ hf⟩
 exact⟨z,us,r,⟨_,Ah _ rfl,rfl,_,rfl⟩⟩
theorem zS0(h:PA X es t):PE X (.List es pos) (tLst t):=by
 intro a5 s σ H Q I hq
 refine wpAny_List_spliced (thn (h pos a5 s σ H _ I hq) fun us s1 ⟨xs,H1,I1,r,z,q⟩=>⟨by rw[<- r.length];exact z,?_⟩)
 have hf:H1 s1.heap.objs.size=none:=I1.hok.fresh (Ag _)
 refine⟨.ref s1.heap.objs.size,upd H1 s1.heap.objs.size (.lst xs),I1.laid (t':=s1.toks) (fun b u e=>A3 _ e) (Ag _) ?_,rfl,q _ hf⟩
 exact⟨z,us,0,r,Ah _ rfl⟩
end
abbrev Sp:=List V->Hp->VK->XK->Prop
abbrev CXT:=List Env->Hp->A2->XK->Value->A2->Prop
structure Env0(P:Al)(w:World)(K:A5)(mg:Str->Option Value)(base:Heap)(A:Ba)(outer:List Env)(s:A2)(H:Hp):Prop where
 frames:A.frames=some outer
 mod:Mod K mg base
 bs: ∀b o,base.get? b=some o->s.heap.get? b=some o/\H b=none
 bsz:base.objs.size<=s.heap.objs.size
 funs:s.heap.FunFrames base outer
 frf: ∀b∈frs outer,H b=none
 hok:HOk P w H s.heap
 bare:G2 s.gens
def CE(outer:List Env)(P:Al)(w:World)(H:Hp)(s:A2)(Q:VK)(u:Value)(s':A2):Prop:=
 ∃v H',s'.os=s.os/\G2 s'.gens/\Un (frs outer) [] H H' s.heap s'.heap/\HOk P w H' s'.heap/\RelV v u/\Q v H'
def CR(CX:CXT)(outer:List Env)(P:Al)(w:World)(H:Hp)(s:A2)(Q:VK)(E:XK)(r:Result)(s':A2):Prop:=
 match r with
 | .ok (.ret u)=>CE outer P w H s Q u s'
 | .ok _=>False
 | .error e=>CX outer H s E e s'
structure FnOk(P:Al)(w:World)(K:A5)(mg:Str->Option Value)(base:Heap)(CX:CXT)(k:Nat)(f:Addr)(fd:By)(ps:List Str)(sp:Sp):Prop where
 len: ∀vs H Q E,sp vs H Q E->vs.length=ps.length
 run: ∀(A:Ba) (outer:List Env) (s:A2) (H:Hp) (args:Args) (us:List Value) (vs:List V) (Q:VK) (E:XK),Room k A->Env0 P w K mg base A outer s H->Iu s fd args (ps.zip us)->Vals vs us->sp vs H Q E→
  G4 (model P w) A (.call (.ref f) args) (CR CX outer P w H s Q E) s
section
variable{X:Cx}{a5:List (Addr×Obj)}{σ:St}{H:Hp}{s s':A2}
theorem Inv.env0(I:Inv X a5 σ H s):Env0 X.prog X.w X.K X.mg X.base X.A X.stack s H:=
 ⟨I.ok.frames,I.ok.mod,I.bs,Cy I.ok.bsz I.sz,I.stack,I.stkFree,I.hok,I.bare⟩
theorem Inv.after{Q:VK}{u:Value}(I:Inv X a5 σ H s)(h:CE X.stack X.prog X.w H s Q u s'):EP X a5 σ Q u s':=by
 obtain⟨v,H',os,bare,un,hok,r,q⟩:=h
 obtain⟨hh,g,d,t,os'⟩:=s'
 obtain rfl:os'=s.os:=os
 exact⟨v,H',I.call (h':=hh) (g':=g) (d':=d) (t':=t) (ch:=[]) un hok bare (fun b z=>absurd z (by simp)),r,q⟩
end
def zQA(sp:Sp)(dvs:List V)(E:XK)(t:TA):TE:=fun σ H Q=>t σ H fun vs H1=>sp (vs++dvs) H1 Q E
def zG9(K:A5)(fd:By)(ps:List Str)(ds:List Value):Prop:=
 ∀(s:A2) (us:List Value),K.In s.heap->(us++ds).length=ps.length->Iu s fd ⟨us,[]⟩ (ps.zip (us++ds))
theorem zG9.all{K:A5}{fd:By}{ps:List Str}(h: ∀us:List Value,us.length=ps.length->bindArgs fd ⟨us,[]⟩=pure (ps.zip us)):zG9 K fd ps []:=fun s us _ hl=>by
 rw[Bp] at hl⊢
 exact .of_eq (h us hl)
def zPS(CX:CXT)(X:Cx)(E:XK):Prop:= ∀(a5:List (Addr×Obj)) (σ:St) (H:Hp) (s:A2) (e:Value) (s':A2),Inv X a5 σ H s->CX X.stack H s E e s'->X.xe e s'
section
variable{X:Cx}{CX:CXT}{k:Nat}{f C:Addr}{fd:By}{ps:List Str}{sp:Sp}{dvs:List V}{ds:List Value}{E:XK}{x m:Str}{p pos ak:Pos}{e o:Expr}{es:List Expr}{ta:TE}{t:TA}
theorem zRU{a5:List (Addr×Obj)}{σ:St}{H:Hp}{s:A2}{Q:VK}{us:List Value}{vs:List V}(F:FnOk X.prog X.w X.K X.mg X.base CX k f fd ps sp)(hr:Room k X.A)(hb:zG9 X.K fd ps ds)(hd:Vals dvs ds)(hx:zPS CX X E)
  (I:Inv X a5 σ H s) (r:Vals vs us) (h:sp (vs++dvs) H Q E):wpAny (model X.prog X.w) X.A (call (.ref f) us) (EP X a5 σ Q) X.xe s:=by
 have r2:Vals (vs++dvs) (us++ds):=r.append hd
 have hl:(us++ds).length=ps.length:=by rw[<- r2.length];exact F.len _ _ _ _ h
 refine Kh (Fm (F.run X.A X.stack s H ⟨us,[]⟩ (us++ds) (vs++dvs) Q E hr I.env0 (hb s us I.kIn hl) r2 h) fun r s' hq=> ?_)
 cases r with
 |error e=>exact hx a5 σ H s e s' I hq
 |ok fl=>
  cases fl with
  |ret u=>exact I.after hq
  |next=>exact Du hq
  |brk=>exact Du hq
  |cont=>exact Du hq
theorem zO2(F:FnOk X.prog X.w X.K X.mg X.base CX k f fd ps sp)(hr:Room k X.A)(hg:Gl X x)(hm:X.mg x=some (.ref f))(hk:Dr X.K (.ref f)=true)(hb:zG9 X.K fd ps ds)(hd:Vals dvs ds)(hx:zPS CX X E)
  (ha:PA X (e::es) t) (hdb:(x==("__debug__":Str))=false:=by decide) (he:starEach (e::es) X.env=(false,eval e X.env)::starEach es X.env:=by rfl) (hpl:(Cj pos (starEach es X.env)).any (·.1)=false:=by rfl):
  PE X (.Call (.Name x p) (e::es) [] pos) (zQA sp dvs E t):=by
 intro a5 s σ H Q I h
 refine Cb (zFK I hg hm ?_ hdb)
 refine Gs (h₀:=X.base) I.ok.mod.kin hk (thn (ha pos a5 s σ H _ I h) fun us s1 ⟨vs,H1,I1,r,q⟩=>⟨I1.kIn,?_⟩) he hpl
 exact zRU F hr hb hd hx I1 r q
end
structure zAG(N P:List Str)(sc:Scope):Prop where
 kind:sc.kind= .function
 co:sc.isCoroutine=false
 gen:sc.isGenerator=false
 nd:N.Nodup
 pre:N.take P.length=P
 par: ∀x∈P,sc.names.lookup x=some .local∨sc.names.lookup x=some .cell
 nofree: ∀y∈sc.names,y.2≠ .free
theorem zJW{kindOf:Str->Option NameKind}{x:Str}: ∀{binds:List (Str×Value)} {m:Str->Option Value},(∀v,(x,v)∉binds)->bindL kindOf binds m x=m x
 | [],_,_ => rfl
 | (n,v) :: r,m,h => by
  unfold bindL
  rw[zJW fun w hw=>h w (Am _ hw)]
  split
  ·have : x ≠ n := by rintro rfl;exact h v Aw
   simp[this]
  ·rfl
theorem zJY{kindOf:Str->Option NameKind}{x:Str}: ∀{binds:List (Str×Value)} {m:Str->Option Value},(∀v,(x,v)∉binds)->bindC kindOf binds m x=m x
 | [],_,_ => rfl
 | (n,v) :: r,m,h => by
  unfold bindC
  rw[zJY fun w hw=>h w (Am _ hw)]
  split
  ·rfl
  ·have : x ≠ n := by rintro rfl;exact h v Aw
   simp[this]
theorem zJX{kindOf:Str->Option NameKind}{x:Str}{v:Value}: ∀{P:List Str} {vs:List Value} {i:Nat} {m:Str->Option Value},P.Nodup->P[i]? =some x->vs[i]? =some v->kindOf x=some .local→
  bindL kindOf (P.zip vs) m x=some v
 |[],_,_,_,_,h,_,_=>by simp at h
 |_::_,[],_,_,_,_,h,_=>by simp at h
 |p::P,w::vs,0,m,nd,h1,h2,hk=>by
  simp at h1 h2;subst h1;subst h2
  show bindL kindOf ((p,w)::P.zip vs) m p=_
  unfold bindL
  rw[zJW fun v hv=>(C4.mp nd).1 (F5 hv).1,if_pos hk]
  simp
 |p::P,w::vs,i+1,m,nd,h1,h2,hk=>by
  show bindL kindOf ((p,w)::P.zip vs) m x=_
  unfold bindL
  exact zJX (i:=i) (C4.mp nd).2 (by simpa using h1) (by simpa using h2) hk
theorem zJZ{kindOf:Str->Option NameKind}{x:Str}{v:Value}: ∀{P:List Str} {vs:List Value} {i:Nat} {m:Str->Option Value},P.Nodup->P[i]? =some x->vs[i]? =some v->kindOf x≠some .local→
  bindC kindOf (P.zip vs) m x=some v
 |[],_,_,_,_,h,_,_=>by simp at h
 |_::_,[],_,_,_,_,h,_=>by simp at h
 |p::P,w::vs,0,m,nd,h1,h2,hk=>by
  simp at h1 h2;subst h1;subst h2
  show bindC kindOf ((p,w)::P.zip vs) m p=_
  unfold bindC
  rw[zJY fun v hv=>(C4.mp nd).1 (F5 hv).1,if_neg hk]
  simp
 |p::P,w::vs,i+1,m,nd,h1,h2,hk=>by
  show bindC kindOf ((p,w)::P.zip vs) m x=_
  unfold bindC
  exact zJZ (i:=i) (C4.mp nd).2 (by simpa using h1) (by simpa using h2) hk
noncomputable def start(N:List Str)(vs:List V):St:=vs.map some++Aa (N.length - vs.length) none
noncomputable def cxOf(CX:CXT)(P:Al)(w:World)(K:A5)(mg:Str->Option Value)(base:Heap)(N:List Str)(qual:Str)(scope:Scope)(f:Addr)(cd:Value)(A:Ba)(outer:List Env)(s:A2)(H:Hp)(E:XK):Cx where
 prog:=P
 w:=w
 K:=K
 mg:=mg
 base:=base
 A:=A.deeper (envOfC qual scope s.heap.objs.size f cd)
 N:=N
 s₀:=s
 H₀:=H
 env:=envOfC qual scope s.heap.objs.size f cd
 outer:=outer
 stack:=envOfC qual scope s.heap.objs.size f cd::outer
 ex:=[]
 calm:=true
 fn:=fun _=>true
 pn:=[]
 xe:=fun e s'=>wpAny (model P w) (A.deeper (envOfC qual scope s.heap.objs.size f cd)) (leaving (envOfC qual scope s.heap.objs.size f cd) e) (fun _ s''=>CX outer H s E e s'') (fun e' s''=>CX outer H s E e' s'') s'
theorem zLV{sc:Scope}{n:Nat}{x:Str}(h:sc.names.lookup x=some .cell): ∃c,(cellsFrom n sc.names []).lookup x=some c:=by
 have q:=Gd sc.names n [] (.inl h)
 exact Option.isSome_iff_exists.mp q
theorem zJD{CX:CXT}{P:Al}{w:World}{K:A5}{mg:Str->Option Value}{base:Heap}{N ps:List Str}{qual:Str}{scope:Scope}{f:Addr}{cd:Value}{A:Ba}{outer:List Env}{s s1:A2}{H:Hp}{E:XK}{us:List Value}{vs:List V}
  (S:zAG N ps scope) (hd:A.handled=none) (e0:Env0 P w K mg base A outer s H) (hl:vs.length=ps.length) (r:Vals vs us)
  (x : InCallC s s.heap.objs.size (bindL (envOfC qual scope s.heap.objs.size f cd).kindOf (ps.zip us) fun _ => none) (cellsFrom (s.heap.objs.size + 1) scope.names []) (bindC (envOfC qual scope s.heap.objs.size f cd).kindOf (ps.zip us) fun _ => none) s1) :
  Inv (cxOf CX P w K mg base N qual scope f cd A outer s H E) [] (start N vs) H s1:=by
 have hpl:ps.length<=N.length:=by have:=congrArg List.length S.pre;rw[Bq] at this;omega
 obtain⟨h1,tk,rfl,hk⟩:=x.done
 have noA: ∀b:Addr,b∉(cxOf CX P w K mg base N qual scope f cd A outer s H E).ex:=fun b z=>absurd (show b∈([]:List Addr) from z) (by simp)
 refine⟨⟨e0.mod,S.kind,rfl,rfl,Ag _,fun y z c h1 h2=> ?_,fun y hy=> ?_,fun y c _ h=> ?_,fun _=>hd,Around.frames_deeper e0.frames,.inr ⟨rfl,rfl⟩,fun b z=>absurd z (noA b),e0.bs,e0.bsz,fun b _ _=>noA b,fun b z=>absurd z (noA b),e0.funs,e0.frf⟩,
  rfl,e0.bare,Un.kept hk,⟨_,x.toInCall.ns,fun i y v h1 h2 h3=> ?_⟩,fun y c h=>⟨_,x.cell y c h⟩,e0.hok.fresh (Ag _),fun y c h=> ?_,fun p hp=>absurd (show p∈([]:List (Addr×Obj)) from hp) (by simp),e0.hok.kept hk,?_⟩
 ·exact name_of_addr x.apart (Bm h1) (Bm h2)
 ·have hy:scope.names.lookup y=some .cell∨scope.names.lookup y=some .free:=hy
  rcases hy with hy|hy
  ·exact zLV hy
  ·exact absurd rfl (S.nofree _ (Bm hy))
 ·exact J5 (x.above y c (Bm h))
 ·have hi:i<vs.length:=by
   unfold start at h2
   by_cases hi:i<vs.length
   ·exact hi
   ·rw [Ai (by simpa using hi)] at h2
    rw[Bz] at h2
    split at h2<;>cases h2
  have ha:vs[i]? =some v:=by
   unfold start at h2
   rw[A7 (by simpa using hi),Co] at h2
   cases e:vs[i]? with
   |none=>rw[e] at h2;cases h2
   |some a=>rw[e] at h2;cases h2;rfl
  obtain⟨u,hu,rv⟩:=r.get ha
  have hp:ps[i]? =some y:=by rw[<- S.pre,Bw (by omega)];exact h1
  have ndP:ps.Nodup:=by rw[<- S.pre];exact S.nd.sublist (List.take_sublist _ _)
  refine⟨u,rv,?_⟩
  rcases S.par y (Ck hp) with k|k
  ·exact .inl ⟨k,zJX ndP hp hu k⟩
  ·obtain⟨c,e⟩:=zLV (n:=s.heap.objs.size+1) k
   refine .inr ⟨.inl k,c,e,?_⟩
   have q:=x.cell y c e
   rw[zJZ ndP hp hu (by show scope.names.lookup y≠_;rw[k];decide)] at q
   exact q
 ·exact e0.hok.fresh (J5 (x.above y c (Bm h)))
 ·unfold start
  show _=N.length
  rw[Bu,D8,Gu]
  omega
theorem zUH{CX:CXT}{P:Al}{w:World}{K:A5}{mg:Str->Option Value}{base:Heap}{k:Nat}{f:Addr}{name qual:Str}{params:Arguments}{body:List Stmt}{scope:Scope}{dV kV doc pm cdv ct oc:Value}{an od:Option Addr}
  {osl:Array (Option Value)} {N ps:List Str} {sp:Sp} (lk:K.lookup f=some ⟨oc,od,.func (Es name qual params body scope dV kV doc pm an cdv ct),osl⟩) (hcd:Fn K cdv qual=true) (S:zAG N ps scope)
  (len: ∀vs H Q E,sp vs H Q E->vs.length=ps.length)
  (aj: ∀(A:Ba) (outer:List Env) (s:A2) (H:Hp) (vs:List V) (Q:VK) (E:XK),Room k (A.deeper (envOfC qual scope s.heap.objs.size f cdv))->sp vs H Q E→
   ∃t,PSs (cxOf CX P w K mg base N qual scope f cdv A outer s H E) body t/\t {nx:=fun _ H'=>Q .non H',rt:=Q} (start N vs) H):
  FnOk P w K mg base CX (k+1) f (Es name qual params body scope dV kV doc pm an cdv ct) ps sp:=by
 refine⟨len,fun A outer s H args us vs Q E hr e0 hb r hsp=> ?_⟩
 have hl:=len _ _ _ _ hsp
 have KX:K.In s.heap:=e0.mod.kin.keeps fun b o e=>(e0.bs b o e).1
 have lim:s.heap.NoLimit:=e0.mod.nolimit.keeps fun b o e=>(e0.bs b o e).1
 have f8: ∀y∈ps.zip us,scope.names.lookup y.1=some .local∨(scope.names.lookup y.1=some .cell/\((cellsFrom (s.heap.objs.size+1) scope.names []).lookup y.1).isSome=true):=fun⟨n,v⟩ hy=>by
  rcases S.par n (F5 hy).1 with q|q
  ·exact .inl q
  ·exact .inr ⟨q,Gd _ _ _ (.inl q)⟩
 refine Gv hr.depth (KX _ _ lk) rfl S.co S.gen rfl (W.codeRec_of KX hcd) (hb _ _ _ _ ?_)
 refine Fg S.kind f8 fun env he s1 x=> ?_
 subst he
 refine⟨lim.keeps x.toInCall.keep,codeAny_func ?_⟩
 obtain⟨t,ht,hq⟩:=aj A outer s H vs Q E (hr.deeper _) hsp
 have I:Inv (cxOf CX P w K mg base N qual scope f cdv A outer s H E) [] (start N vs) H s1:=zJD S hr.hd e0 hl r x
 refine B6 (ht [] s1 (start N vs) H _ I hq) (fun fl s' hs=> ?_) fun e s' hs=>hs
 have fin: ∀{σ':St} {H':Hp} {v:V} {u:Value},Inv (cxOf CX P w K mg base N qual scope f cdv A outer s H E) [] σ' H' s'->RelV v u->Q v H'->CE outer P w H s Q u s':=
  fun{σ' H' v u} J rv q=>⟨v,H',J.os,J.bare,J.base,J.hok,rv,q⟩
 cases fl with
 |ret u=>
  obtain⟨v,σ',H',J,rv,q⟩:=hs
  exact fin J rv q
 |next=>
  obtain⟨σ',H',J,q⟩:=hs
  exact fin (v:=V.non) (u:=Value.none) J rfl q
 |brk=>
  obtain⟨_,_,_,q⟩:=hs
  exact Du q
 |cont=>
  obtain⟨_,_,_,q⟩:=hs
  exact Du q
section
variable{X:Cx}{x:Str}{p pos:Pos}{e:Expr}{es:List Expr}{t:TA}{id T:String}{r:List V->Hp->VK->Prop}
def tCB(r:List V->Hp->VK->Prop)(t:TA):TE:=fun σ H Q=>t σ H fun vs H1=>r vs H1 Q
theorem zLD(hc:zC8 X (.builtin id) r)(hg:Gl X x)(hm:X.mg x=none)(hv:Av x=some (.builtin id))(ha:PA X (e::es) t)(hn:x≠ "__name__":=by decide) (hdb:(x==("__debug__":Str))=false:=by decide)
  (he:starEach (e::es) X.env=(false,eval e X.env)::starEach es X.env:=by rfl) (hpl:(Cj pos (starEach es X.env)).any (·.1)=false:=by rfl):PE X (.Call (.Name x p) (e::es) [] pos) (tCB r t):=by
 intro a5 s σ H Q I h
 refine Cb (zHQ I hg hm hv ?_ hn hdb)
 exact PyProof.Rows.callWith_builtin1 (thn (ha pos a5 s σ H _ I h) fun us s1 ⟨vs,H1,I1,r1,q1⟩=>hc a5 s1 σ H1 vs us Q I1 r1 q1) he hpl
theorem zJ3(hc:zC8 X (.type T) r)(hg:Gl X x)(hm:X.mg x=none)(hv:Av x=some (.type T))(ha:PA X (e::es) t)(hn:x≠ "__name__":=by decide) (hdb:(x==("__debug__":Str))=false:=by decide)
  (he:starEach (e::es) X.env=(false,eval e X.env)::starEach es X.env:=by rfl) (hpl:(Cj pos (starEach es X.env)).any (·.1)=false:=by rfl):PE X (.Call (.Name x p) (e::es) [] pos) (tCB r t):=by
 intro a5 s σ H Q I h
 refine Cb (zHQ I hg hm hv ?_ hn hdb)
 exact Cq (thn (ha pos a5 s σ H _ I h) fun us s1 ⟨vs,H1,I1,r1,q1⟩=>hc a5 s1 σ H1 vs us Q I1 r1 q1) he hpl
end
end L2
namespace HT
open PySem PyProof.Rows
section
variable{prog:Al}{w:World}{A:Ba}{E:Value->A2->Prop}{s:A2}
theorem zUN{t b:Addr}{vs ws:List Value}{Q:Value->A2->Prop}(ht:IsTup s.heap t vs.toArray)(hb:IsTup s.heap b ws.toArray)(hv:vs≠[])
  (h1:ws=[]->Q (.ref t) s) (h2:ws≠[]->Q (.ref s.heap.objs.size) {s with heap:=s.heap.push {cls:= .type "tuple",data:= .seq (vs++ws).toArray}})
  (hsz:vs.length+ws.length<=sizeLine):wpAny (model prog w) A (D0 .Add (.ref t) (.ref b)) Q E s:=by
 obtain⟨⟨cls,dd,data,sl⟩,ho,hc,n,hd⟩:=id ht
 obtain⟨⟨mm,dd2,data2,sl2⟩,ho2,hc2,n2,hd2⟩:=id hb
 simp only at hc hd hc2 hd2
 subst hc hd hc2 hd2
 have e:vs.toArray++ws.toArray=(vs++ws).toArray:=by simp
 by_cases hw:ws=[]
 ·exact Gw ⟨_,ho,rfl⟩ ⟨_,ho2,rfl⟩ Ge Ii Eh Eb (E4 _ _)
   (tuple_addW1 t b vs.toArray ws.toArray n n2 dd dd2 sl sl2 (by simpa using hv) (by simp[hw])) ⟨ho,ho2,h1 hw⟩
 ·refine Gw ⟨_,ho,rfl⟩ ⟨_,ho2,rfl⟩ Ge Ii Eh Eb (E4 _ _)
   (tuple_addW2 t b vs.toArray ws.toArray n n2 dd dd2 sl sl2 (by simpa using hv) (by simpa using hw) (by rw[A9,A9];exact hsz)) ⟨ho,ho2,?_⟩
  rw[e]
  exact h2 hw
noncomputable def sIx(n d:Nat):Option Int->Nat
 |none=>d
 |some v=>if v<0 then(v+(n:Int)).toNat else min v.toNat n
theorem zI3(n d:Nat):sIx n d none=d:=rfl
theorem zNO(n d k:Nat):sIx n d (some (k:Int))=min k n:=by
 show(if(k:Int)<0 then((k:Int)+(n:Int)).toNat else min (k:Int).toNat n)=min k n
 rw[if_neg (by omega),En]
theorem zWF(n d:Nat)(hd:d<=n)(o:Option Int):sIx n d o<=n:=by
 cases o with
 |none=>exact hd
 |some v=>
  show(if v<0 then(v+(n:Int)).toNat else min v.toNat n)<=n
  by_cases hv:v<0
  ·rw[if_pos hv];omega
  ·rw[if_neg hv];exact Nat.min_le_right _ _
theorem zPE(v:Int)(n d:Nat):(if v<0 then max (v+(n:Int)) 0 else min v (n:Int))=((sIx n d (some v):Nat):Int):=by
 show(if v<0 then max (v+(n:Int)) 0 else min v (n:Int))=(((if v<0 then(v+(n:Int)).toNat else min v.toNat n):Nat):Int)
 by_cases hv:v<0
 ·simp only[if_pos hv];omega
 ·simp only[if_neg hv];omega
theorem zMP(lo hi:Option Int)(n:Nat):Dv lo hi 1 (n:Int)=(((sIx n 0 lo:Nat):Int),((sIx n n hi:Nat):Int)):=by
 have h1: ¬((1:Int)<0):=by omega
 unfold Dv
 simp only[h1,if_false]
 refine Prod.ext ?_ ?_
 ·cases lo with
  |none=>rfl
  |some v=>exact zPE v n 0
 ·cases hi with
  |none=>rfl
  |some v=>exact zPE v n n
theorem zMC(i j:Nat):D2 (i:Int) (j:Int) 1=j - i:=by
 unfold D2
 have h1:(1:Int)>0:=by omega
 simp only[h1,if_true,Int.ediv_one]
 split<;>omega
theorem zHH{v:Value}{o:Option Int}{Q:Option Int->A2->Prop}(p:IsPart v o)(h:Q o s):wpAny (model prog w) A (Jm v) Q E s:=by
 cases p with
 |none=>exact slicePart_none h
 |int i t=>exact slicePart_int h
theorem zDW{sl:Addr}{vl vu:Value}{lo hi:Option Int}{n:Nat}{Q:Int×Int×Nat->A2->Prop}(hs:s.heap.IsSliceOf sl vl vu .none)(pl:IsPart vl lo)(pu:IsPart vu hi)
  (h:Q (((sIx n 0 lo:Nat):Int),1,sIx n n hi - sIx n 0 lo) s):wpAny (model prog w) A (Fh (.ref sl) (pure (n:Int))) Q E s:=by
 obtain⟨os,hos,hcs,hds⟩:=id hs
 unfold Fh K8
 refine A0 (A0 (Cc hos hds (x:=vl) rfl (A0 (Cc hos hds (x:=vu) rfl (A0 (Cc hos hds (x:= .none) rfl (A8 ?_)))))))
 refine A0 (slicePart_none ?_)
 show wpAny _ _ (if((1:Int)==0)=true then _ else _) _ _ s
 rw[if_neg (by decide)]
 refine A0 (zHH pl (A0 (zHH pu (A0 (A8 ?_)))))
 show wpAny _ _ (match Dv lo hi 1 (n:Int) with|(lo,hi)=>pure (lo,(1:Int),D2 lo hi 1)) _ _ s
 rw[zMP lo hi n]
 show wpAny _ _ (pure (((sIx n 0 lo:Nat):Int),(1:Int),D2 ((sIx n 0 lo:Nat):Int) ((sIx n n hi:Nat):Int) 1)) _ _ s
 rw[zMC]
 exact A8 h
theorem zQL(xs:Array Value)(i k:Nat):((Bv k).filterMap fun(m:Nat)=>xs[((i:Int)+(m:Int)*1).toNat]?).toArray=((xs.toList.drop i).take k).toArray:=by
 have e:(fun(m:Nat)=>xs[((i:Int)+(m:Int)*1).toNat]?)=fun m=>xs[i+m]? :=by
  funext m
  have:((i:Int)+(m:Int)*1).toNat=i+m:=by omega
  rw[this]
 rw[e]
 have:=pick_run xs i k
 rw[List.filterMap_map] at this
 have e2:((fun x=>xs[x]?)∘fun x=>i+x)=fun m=>xs[i+m]? :=rfl
 rw[e2] at this
 rw[this]
theorem zFM{t sl:Addr}{items:Array Value}{vl vu:Value}{lo hi:Option Int}{Q:Value->A2->Prop}(ht:IsTup s.heap t items)(hs:s.heap.IsSliceOf sl vl vu .none)(pl:IsPart vl lo)(pu:IsPart vu hi)
  (hw: ¬(sIx items.size 0 lo=0/\sIx items.size items.size hi=items.size))
  (h:Q (.ref s.heap.objs.size) {s with heap:=s.heap.push {cls:= .type "tuple",data:= .seq ((items.toList.drop (sIx items.size 0 lo)).take (sIx items.size items.size hi - sIx items.size 0 lo)).toArray}})
  (hsz:items.size<=sizeLine):wpAny (model prog w) A (G5 (.ref t) (.ref sl)) Q E s:=by
 have b7:sizeOk (.seq ((items.toList.drop (sIx items.size 0 lo)).take (sIx items.size items.size hi - sIx items.size 0 lo)).toArray):=by
  show((items.toList.drop (sIx items.size 0 lo)).take (sIx items.size items.size hi - sIx items.size 0 lo)).toArray.size<=sizeLine
  rw[A9,Bq,Jb,Dg]
  omega
 have hj:sIx items.size items.size hi<=items.size:=zWF _ _ (Ag _) hi
 obtain⟨os,hos,hcs,hds⟩:=id hs
 have hTs:s.TypeIs (.ref sl) "slice":=⟨os,hos,hcs⟩
 unfold G5
 try with_reducible refine Bf ?_
 first|refine A0 (A8 ?_)|skip
 refine A0 (Fx ht.typeIs (by decide) ?_)
 refine A0 (C0 (name:=At "__getitem__") ht.typeIs Ce
  (Ch Ce ht.typeIs entry_tuple_getitem ?_ (args_tuple_getitem _ _)))
 show wpAny _ _ (Fi (.ref t)>>=_) _ _ s
 refine A0 (tupleItemsOf_ ht ?_)
 refine A0 (J6 hTs ?_)
 rw[if_pos (by decide)]
 refine A0 (zDW hs pl pu ?_)
 have hno: ¬((((sIx items.size 0 lo:Nat):Int)==0 && (1:Int)==1 && (sIx items.size items.size hi - sIx items.size 0 lo)==items.size)=true):=by
  intro q
  rw[A1,A1] at q
  have q1:((sIx items.size 0 lo:Nat):Int)=0:=eq_of_beq q.1.1
  have q2:sIx items.size items.size hi - sIx items.size 0 lo=items.size:=eq_of_beq q.2
  exact hw ⟨by omega,by omega⟩
 show wpAny _ _ (if(((sIx items.size 0 lo:Nat):Int)==0 && (1:Int)==1 && (sIx items.size items.size hi - sIx items.size 0 lo)==items.size)=true then _ else _) _ _ s
 rw[if_neg hno,zQL]
 first
  |exact A0 (m:=D9 _) (C6 (A8 ⟨_,rfl,A8 h⟩) b7)
  |exact A0 (m:=D9 _) (C6 (A0 (A8 (A8 ⟨_,rfl,A8 h⟩))) b7)
  |exact A0 (A0 (m:=D9 _) (C6 (A8 (A8 ⟨_,rfl,A8 h⟩)) b7))
  |exact A0 (A0 (m:=D9 _) (C6 (A8 ⟨_,rfl,A8 h⟩) b7))
end
end HT
namespace L2
open PySem PySem.Spec PyProof.Rows
abbrev TO:=St->Hp->(Option Int->Hp->Prop)->Prop
def PO(X:Cx)(e:Option Expr)(t:TO):Prop:=
 ∀(a5:List (Addr×Obj)) (s:A2) (σ:St) (H:Hp) (Q:Option Int->Hp->Prop),Inv X a5 σ H s->t σ H Q→
  wpAny (model X.prog X.w) X.A (evalPart e X.env) (fun u s'=> ∃o H',Inv X a5 σ H' s'/\IsPart u o/\Q o H') X.xe s
def zT2:TO:=fun _ H Q=>Q none H
def yA3(t:TE):TO:=fun σ H Q=>t σ H fun x H1=> ∃i,x= .int i/\Q (some i) H1
section
variable{X:Cx}{e:Expr}{te:TE}{lo hi:Option Expr}{tl th:TO}{pos p2:Pos}
theorem zTK:PO X none zT2:=by
 intro a5 s σ H Q I h
 rw[evalPart_none]
 exact A8 ⟨none,H,I,.none,h⟩
theorem zTJ(h:PE X e te):PO X (some e) (yA3 te):=by
 intro a5 s σ H Q I hw
 rw[evalPart_some]
 refine thn (h a5 s σ H _ I hw) fun u s1 ⟨x,H1,I1,r1,q1⟩=> ?_
 obtain⟨i,rfl,q⟩:=q1
 obtain⟨t,rfl⟩:=r1
 exact⟨some i,H1,I1,.int i t,q⟩
def SlR(X:Cx)(r:V->Option Int->Option Int->Hp->VK->Prop):Prop:=
 ∀(a5:List (Addr×Obj)) (s:A2) (σ:St) (H:Hp) (x:V) (v vl vu:Value) (lo hi:Option Int) (sl:Addr) (Q:VK),Inv X a5 σ H s->RelV x v->s.heap.IsSliceOf sl vl vu .none->IsPart vl lo->IsPart vu hi->r x lo hi H Q→
  ∃T id,typeLookup (.type T) "__getitem__"=pure (some (.builtin id))/\s.TypeIs v T/\wpAny (model X.prog X.w) X.A (G5 v (.ref sl)) (EP X a5 σ Q) X.xe s
theorem SlR.or{r r':V->Option Int->Option Int->Hp->VK->Prop}(h:SlR X r)(h':SlR X r'):SlR X (fun x lo hi H Q=>r x lo hi H Q∨r' x lo hi H Q):=by
 intro a5 s σ H x v vl vu lo hi sl Q I rx hs pl pu q
 rcases q with q|q
 ·exact h a5 s σ H x v vl vu lo hi sl Q I rx hs pl pu q
 ·exact h' a5 s σ H x v vl vu lo hi sl Q I rx hs pl pu q
def tSl(r:V->Option Int->Option Int->Hp->VK->Prop)(te:TE)(tl th:TO):TE:=fun σ H Q=>te σ H fun x H1=>tl σ H1 fun l H2=>th σ H2 fun u H3=>r x l u H3 Q
theorem zQM{r:V->Option Int->Option Int->Hp->VK->Prop}(hr:SlR X r)(he:PE X e te)(hl:PO X lo tl)(hu:PO X hi th):PE X (.Subscript e (.Slice lo hi none p2) pos) (tSl r te tl th):=by
 intro a5 s σ H Q I h
 refine Subscript_ (thn (he a5 s σ H _ I h) fun v s1 ⟨x,H1,I1,r1,q1⟩=> ?_)
 refine wpAny_Slice (thn (hl a5 s1 σ H1 _ I1 q1) fun vl s2 ⟨l,H2,I2,pl,q2⟩=>thn (hu a5 s2 σ H2 _ I2 q2) fun vu s3 ⟨u,H3,I3,pu,q3⟩=> ?_)
 rw[evalPart_none]
 refine A8 ?_
 have I4:Inv X a5 σ H3 {s3 with heap:=s3.heap.push {cls:= .type "slice",data:= .fields #[vl,vu,.none]}}:=I3.kept (t':=s3.toks) fun b ob q=>A3 _ q
 obtain⟨T,id,hT,ht,hg⟩:=hr a5 {s3 with heap:=s3.heap.push {cls:= .type "slice",data:= .fields #[vl,vu,.none]}} σ H3 x v vl vu l u s3.heap.objs.size Q I4 r1 (Lb ..) pl pu q3
 show wpAny (model X.prog X.w) X.A (subscriptTail e (.Slice lo hi none p2) v (.ref s3.heap.objs.size)) (EP X a5 σ Q) X.xe {s3 with heap:=s3.heap.push {cls:= .type "slice",data:= .fields #[vl,vu,.none]}}
 exact Kq (ops:=[.ref s3.heap.objs.size,v]) ht hT hg (by with_unfolding_all rfl)
noncomputable def cutV(xs:List V)(lo hi:Option Int):List V:=(xs.drop (HT.sIx xs.length 0 lo)).take (HT.sIx xs.length xs.length hi - HT.sIx xs.length 0 lo)
theorem zH5(xs:List V)(lo hi:Option Int):(cutV xs lo hi).length<=xs.length:=by
 unfold cutV
 rw[Bq,Jb]
 omega
def rSlT(K:A5):V->Option Int->Option Int->Hp->VK->Prop:=fun x lo hi H Q=> ∃a xs,x= .ref a/\SqT K H a xs∧
 ¬(HT.sIx xs.length 0 lo=0/\HT.sIx xs.length xs.length hi=xs.length)/\ ∀p,H p=none->Q (.ref p) (upd H p (.tup (cutV xs lo hi)))
theorem zVP:SlR X (rSlT X.K):=by
 intro a5 s σ H x v vl vu lo hi sl Q I rx hs pl pu h
 obtain⟨a,xs,rfl,hx,hw,q⟩:=h
 cases rx
 obtain⟨its,r,ht,hz⟩:=I.tuple hx
 have ah:its.toArray.size=xs.length:=by rw[A9];exact r.length.symm
 refine⟨"tuple",_,PyProof.Rows.slot_tuple_getitem.lookup,ht.typeIs,?_⟩
 refine HT.zFM ht hs pl pu (by rw[ah];exact hw) ?_ (by rw[ah];exact hz)
 rw[ah]
 refine⟨.ref s.heap.objs.size,_,I.laid (t':=s.toks) (o:= .tup (cutV xs lo hi)) (fun b ob q=>A3 _ q) (Ag _) ?_,rfl,q _ (I.hok.fresh (Ag _))⟩
 exact⟨Cy (zH5 xs lo hi) hz,_,(r.drop (HT.sIx xs.length 0 lo)).take (HT.sIx xs.length xs.length hi - HT.sIx xs.length 0 lo),Fw _ _⟩
theorem Vals.nil_iff{xs:List V}{us:List Value}(r:Vals xs us):us=[]↔xs=[]:=by
 cases r with
 |nil=>simp
 |cons _ _=>simp
end
noncomputable def ixN(n:Nat)(i:Int):Option Nat:=if 0<=i then(if i<n then some i.toNat else none) else if -(n:Int)<=i then some (i+n).toNat else none
noncomputable def atI{α:Type}(xs:List α)(i:Int):Option α:=(ixN xs.length i).bind fun j=>xs[j]?
theorem zON{n:Nat}{i:Int}{j:Nat}(h:ixN n i=some j):seqIndex? i n=some j/\j<n/\ -(n:Int)<=i/\i<n:=by
 unfold ixN at h
 by_cases h0:0<=i
 ·rw[if_pos h0] at h
  by_cases h1:i<n
  ·rw[if_pos h1] at h
   have e:i.toNat=j:=B4 h
   exact⟨by rw[Jv h0 h1,e],by omega,by omega,h1⟩
  ·rw[if_neg h1] at h;cases h
 ·rw[if_neg h0] at h
  by_cases h1: -(n:Int)<=i
  ·rw[if_pos h1] at h
   have e:(i+n).toNat=j:=B4 h
   exact⟨by rw[J7 (by omega) h1,e],by omega,h1,by omega⟩
  ·rw[if_neg h1] at h;cases h
theorem zKV{α:Type}{xs:List α}{i:Int}{v:α}(h:atI xs i=some v): ∃j,seqIndex? i xs.length=some j/\xs[j]? =some v/\j<xs.length/\ -(xs.length:Int)<=i/\i<xs.length:=by
 unfold atI at h
 cases e:ixN xs.length i with
 |none=>rw[e] at h;cases h
 |some j=>
  rw[e] at h
  obtain⟨h1,h2,h3,h4⟩:=zON e
  exact⟨j,h1,h,h2,h3,h4⟩
def zKW(b:Expr):Prop:= ∀o i,subscripted b false o i=operate [o,i] (G5 o i)
def IxR(X:Cx)(r:R2):Prop:=
 ∀(value slice:Expr) (a5:List (Addr×Obj)) (s:A2) (σ:St) (H:Hp) (x y:V) (v u:Value) (Q:VK),Inv X a5 σ H s->RelV x v->RelV y u->r x y H Q→
  subscripted slice false v u=operate [v,u] (G5 v u)->wpAny (model X.prog X.w) X.A (subscriptTail value slice v u) (EP X a5 σ Q) X.xe s
def MtR(X:Cx)(id:String)(r:V->List V->Hp->VK->Prop):Prop:=
 ∀(a5:List (Addr×Obj)) (s:A2) (σ:St) (H:Hp) (x:V) (xs:List V) (v:Value) (us:List Value) (Q:VK),Inv X a5 σ H s->RelV x v->Vals xs us->r x xs H Q→
  wpAny (model X.prog X.w) X.A (call (.builtin id) (v::us)) (EP X a5 σ Q) X.xe s
section
variable{X:Cx}{a b:Expr}{ta tb:TE}{pos:Pos}
theorem IxR.or{r r':R2}(h:IxR X r)(h':IxR X r'):IxR X (fun x y H Q=>r x y H Q∨r' x y H Q):=by
 intro value slice a5 s σ H x y v u Q I rx ry q hs
 rcases q with q|q
 ·exact h value slice a5 s σ H x y v u Q I rx ry q hs
 ·exact h' value slice a5 s σ H x y v u Q I rx ry q hs
theorem yB3{r:R2}(hr:IxR X r)(ha:PE X a ta)(hb:PE X b tb)(hs:zKW b):PE X (.Subscript a b pos) (tOp r ta tb):=by
 intro a5 s σ H Q I h
 exact Subscript_ (binT ha hb I h fun v u s2 x y H2 I2 rx ry q=>hr a b a5 s2 σ H2 x y v u Q I2 rx ry q (hs _ _))
def rIxL(K:A5):R2:=fun x y H Q=> ∃p xs i v,x= .ref p/\y= .int i/\SqL K H p xs/\atI xs i=some v/\Q v H
def rIxT(K:A5):R2:=fun x y H Q=> ∃p xs i v,x= .ref p/\y= .int i/\SqT K H p xs/\atI xs i=some v/\Q v H
def rIxS:R2:=fun x y H Q=> ∃z i c,x= .str z/\y= .int i/\z.length<=sizeLine/\atI z.cps.toList i=some c/\Q (.str ⟨#[c]⟩) H
theorem zU8:IxR X (rIxL X.K):=by
 intro value slice a5 s σ H x y v u Q I rx ry h hs
 obtain⟨p,xs,i,z,rfl,rfl,hq,he,q⟩:=h
 cases rx
 obtain⟨t,rfl⟩:=ry
 obtain⟨its,r,pl,hz⟩:=I.list hq
 obtain⟨j,h1,h2,h3,h4,h5⟩:=zKV he
 obtain⟨w,ew,rw'⟩:=r.get h2
 have hl:=r.length
 have hn:=zHP
 have fin:EP X a5 σ Q w s:=⟨z,H,I,rw',q⟩
 by_cases h0:0<=i
 ·have hj:i.toNat=j:=by
   rw[Jv h0 h5] at h1
   exact B4 h1
  exact item_listR pl.isList h0 (by omega) (by rw[hj];simpa using ew) fin hs
 ·have hj:(i+(its.toArray.size:Int)).toNat=j:=by
   rw[J7 (by omega) h4] at h1
   rw[A9,<- hl]
   exact B4 h1
  exact Gk (x:=w) pl.isList.typeIs slot_list_getitem.lookup
   (wpAny_getItem_list_neg (Q:=fun r s'=>r=w/\EP X a5 σ Q r s') pl.isList (by omega) (by rw[A9]<;>omega) (by omega) (by rw[hj];simpa using ew) ⟨rfl,fin⟩) hs
theorem zYY:IxR X (rIxT X.K):=by
 intro value slice a5 s σ H x y v u Q I rx ry h hs
 obtain⟨p,xs,i,z,rfl,rfl,hq,he,q⟩:=h
 cases rx
 obtain⟨t,rfl⟩:=ry
 obtain⟨its,r,pl,hz⟩:=I.tuple hq
 obtain⟨j,h1,h2,h3,h4,h5⟩:=zKV he
 obtain⟨w,ew,rw'⟩:=r.get h2
 have hl:=r.length
 have hn:=zHP
 have fin:EP X a5 σ Q w s:=⟨z,H,I,rw',q⟩
 exact Gk (x:=w) pl.typeIs slot_tuple_getitem.lookup
  (getItem_tuple (j:=j) (Q:=fun r s'=>r=w/\EP X a5 σ Q r s') pl (by omega) (by omega) (by rw[A9,<- hl];exact h1) (by simpa using ew) ⟨rfl,fin⟩) hs
theorem zYZ:IxR X rIxS:=by
 intro value slice a5 s σ H x y v u Q I rx ry h hs
 obtain⟨z,i,c,rfl,rfl,hz,he,q⟩:=h
 obtain⟨t,rfl⟩:=rx
 obtain⟨t',rfl⟩:=ry
 obtain⟨j,h1,h2,h3,h4,h5⟩:=zKV he
 have hl:z.cps.toList.length=z.length:=by simp[Str.length]
 rw[hl] at h1 h4 h5
 have hn:=zHP
 exact Kq (typeIs_str s z t) slot_str_getitem.lookup (getItem_str (c:=c) (by
  have e1:decide (i< -(2 ^ 63:Int))=false:=decide_eq_false (by omega)
  have e2:decide (i≥2 ^ 63)=false:=decide_eq_false (by omega)
  rw[e1,e2,Kr]) (by rw[h1];simpa using h2) ⟨.str ⟨#[c]⟩,H,I.tok _,⟨_,rfl⟩,q⟩) hs
def rIx(K:A5):R2:=fun x y H Q=>rIxL K x y H Q∨rIxT K x y H Q∨rIxS x y H Q
theorem zZ0:IxR X (rIx X.K):=zU8.or (zYY.or zYZ)
theorem zMI(its:List Value)(n j:Nat)(u:Value):Fy (·.setIfInBounds j u) {cls:= .type "list",data:= .seq its.toArray n}={cls:= .type "list",data:= .seq (its.set j u).toArray n}:=by simp[Fy]
theorem Inv.lst{a5:List (Addr×Obj)}{σ:St}{H:Hp}{s:A2}{p:Addr}{xs:List V}(I:Inv X a5 σ H s)(h:H p=some (.lst xs)):
  ∃(its:List Value) (n:Nat),Vals xs its/\s.heap.get? p=some {cls:= .type "list",data:= .seq its.toArray n}/\xs.length<=sizeLine:=by
 obtain⟨z,its,n,r,e⟩:=I.hok p _ h
 exact⟨its,n,r,e,z⟩
theorem Inv.lstUpd{a5:List (Addr×Obj)}{σ:St}{H:Hp}{s:A2}{p:Addr}{xs ys:List V}{its its':List Value}{n n':Nat}{f:Obj->Obj}(I:Inv X a5 σ H s)(h:H p=some (.lst xs))
  (ho:s.heap.get? p=some {cls:= .type "list",data:= .seq its.toArray n}) (hf:f {cls:= .type "list",data:= .seq its.toArray n}={cls:= .type "list",data:= .seq its'.toArray n'}) (r:Vals ys its') (hz:ys.length<=sizeLine) (t:Nat):
  Inv X a5 σ (upd H p (.lst ys)) {s with heap:=s.heap.update p f,toks:=t}:=by
 have e:(s.heap.update p f).get? p=some {cls:= .type "list",data:= .seq its'.toArray n'}:=by rw[Gx f ho (by rw[hf]<;>rfl),hf]
 refine I.write (x:=p) (e:=p) (by rw[h];trivial) (.inl rfl) (fun b u hb q=>(Gm _ _ (C2 hb)).trans q) ⟨_,e⟩ ?_
 exact⟨hz,its',n',r,e⟩
def yAS:V->V->V->Hp->(Hp->Prop)->Prop:=fun o i v H Q=> ∃p xs k j,o= .ref p/\i= .int k/\H p=some (.lst xs)/\ixN xs.length k=some j/\Q (upd H p (.lst (xs.set j v)))
theorem zQD:PSet X yAS:=by
 intro a5 s σ H o i v ov iv u Q I ro ri rv h
 obtain⟨p,xs,k,j,rfl,rfl,hp,hj,q⟩:=h
 cases ro
 obtain⟨t,rfl⟩:=ri
 obtain⟨its,n,r,ho,hz⟩:=I.lst hp
 obtain⟨h1,h2,h3,h4⟩:=zON hj
 have hl:=r.length
 have hn:=zHP
 have I':Inv X a5 σ (upd H p (.lst (xs.set j v))) {s with heap:=s.heap.update p (Fy (·.setIfInBounds j u))}:=
  I.lstUpd hp ho (zMI its n j u) (r.set rv j) (by rw[B8];exact hz) s.toks
 by_cases h0:0<=k
 ·have hk:k.toNat=j:=by
   rw[Jv h0 h4] at h1
   exact B4 h1
  exact W.ki_setAt ho h0 (by omega) (by rw[A9,<- hl];exact h4) (by rw[hk];exact⟨_,I',q⟩)
 ·have hk:(k+(its.toArray.size:Int)).toNat=j:=by
   rw[J7 (by omega) h3] at h1
   rw[A9,<- hl]
   exact B4 h1
  exact W.ki_setBack ho (by omega) (by rw[A9,<- hl];exact h3) (by omega) (by rw[hk];exact⟨_,I',q⟩)
theorem zIR(lo hi:Option Int)(n:Nat):(Eo lo hi none n).1=((HT.sIx n 0 lo:Nat):Int)/\(Eo lo hi none n).2.1=((HT.sIx n n hi:Nat):Int)/\(Eo lo hi none n).2.2=1:=by
 refine⟨?_,?_,rfl⟩
 ·cases lo with
  |none=>simp[Eo,HT.sIx]
  |some i=>
   simp only[Eo,HT.sIx,Jd,show(1:Int)>0 by decide,if_true]
   by_cases h:i<0
   ·simp only[h,if_true]<;>omega
   ·simp only[h,if_false]<;>omega
 ·cases hi with
  |none=>simp[Eo,HT.sIx]
  |some i=>
   simp only[Eo,HT.sIx,Jd,show(1:Int)>0 by decide,if_true]
   by_cases h:i<0
   ·simp only[h,if_true]<;>omega
   ·simp only[h,if_false]<;>omega
theorem zI2(its:List Value)(lo hi:Option Int):slicePick its.toArray lo hi none=((its.drop (HT.sIx its.length 0 lo)).take (HT.sIx its.length its.length hi - HT.sIx its.length 0 lo)).toArray:=by
 obtain⟨h1,h2,h3⟩:=zIR lo hi its.toArray.size
 unfold slicePick
 rw[h1,h2,h3]
 simp only[sliceRange_one,pick_run,A9]<;>rfl
def rSlL(K:A5):V->Option Int->Option Int->Hp->VK->Prop:=fun x lo hi H Q=> ∃a xs,x= .ref a/\SqL K H a xs/\ ∀p,H p=none->Q (.ref p) (upd H p (.lst (cutV xs lo hi)))
theorem zT7:SlR X (rSlL X.K):=by
 intro a5 s σ H x v vl vu lo hi sl Q I rx hs pl pu h
 obtain⟨a,xs,rfl,hx,q⟩:=h
 cases rx
 obtain⟨its,r,ht,hz⟩:=I.list hx
 have ah:=r.length
 refine⟨"list",_,slot_list_getitem.lookup,ht.isList.typeIs,?_⟩
 refine wpAny_getItem_list_slice ht.isList hs pl pu .none (by simp) ?_ (by rw[A9]<;>omega)
 rw[zI2,<- ah]
 refine⟨.ref s.heap.objs.size,_,I.laid (t':=s.toks) (o:= .lst (cutV xs lo hi)) (fun b ob q=>A3 _ q) (Ag _) ?_,rfl,q _ (I.hok.fresh (Ag _))⟩
 exact⟨Cy (zH5 xs lo hi) hz,_,0,(r.drop (HT.sIx xs.length 0 lo)).take (HT.sIx xs.length xs.length hi - HT.sIx xs.length 0 lo),Ah _ rfl⟩
theorem zJQ:zC8 X (.builtin "len") (fun xs H Q=> ∃p ys,xs=[.ref p]/\(SqL X.K H p ys∨SqT X.K H p ys)/\Q (.int ys.length) H):=by
 intro a5 s σ H xs us Q I r h
 obtain⟨p,ys,rfl,hq,q⟩:=h
 obtain⟨u,rfl,rx⟩:=zK5 r
 cases rx
 have hn:=zHP
 rcases hq with hq|hq
 ·obtain⟨its,r',pl,hz⟩:=I.list hq
  have ah:=r'.length
  exact Calls.call_len_list pl.isList (by simp only[A9]<;>omega) ⟨.int ys.length,H,I.tok _,⟨s.toks+1,by rw[A9,ah]⟩,q⟩
 ·obtain⟨its,r',pl,hz⟩:=I.tuple hq
  have ah:=r'.length
  exact len_tuple pl (by simp only[A9]<;>omega) ⟨.int ys.length,H,I.tok _,⟨s.toks+1,by rw[A9,ah]⟩,q⟩
theorem zJP:zC8 X (.builtin "len") (fun xs H Q=> ∃z,xs=[.str z]/\z.length<=sizeLine/\Q (.int z.length) H):=by
 intro a5 s σ H xs us Q I r h
 obtain⟨z,rfl,hz,q⟩:=h
 obtain⟨u,rfl,t,rfl⟩:=zK5 r
 have hn:=zHP
 exact len_str (by omega) ⟨.int z.length,H,I.tok _,⟨_,rfl⟩,q⟩
theorem zC8.or{f:Value}{r r':List V->Hp->VK->Prop}(h:zC8 X f r)(h':zC8 X f r'):zC8 X f (fun xs H Q=>r xs H Q∨r' xs H Q):=by
 intro a5 s σ H xs us Q I rs q
 rcases q with q|q
 ·exact h a5 s σ H xs us Q I rs q
 ·exact h' a5 s σ H xs us Q I rs q
theorem zJO:zC8 X (.type "list") (fun xs H Q=> ∃p ys,xs=[.ref p]/\(SqL X.K H p ys∨SqT X.K H p ys)/\ ∀l,H l=none->Q (.ref l) (upd H l (.lst ys))):=by
 intro a5 s σ H xs us Q I r h
 obtain⟨p,ys,rfl,hq,q⟩:=h
 obtain⟨u,rfl,rx⟩:=zK5 r
 cases rx
 have fin: ∀(its:List Value),Vals ys its->ys.length<=sizeLine-> ∀(h':Heap) (c':Nat),(∀b o',s.heap.get? b=some o'->h'.get? b=some o')→
   h'.get? s.heap.objs.size=some {cls:= .type "list",dict:=none,data:= .seq its.toArray c',slots:= #[]}->EP X a5 σ Q (.ref s.heap.objs.size) {s with heap:=h'}:=fun its r' hz h' c' kp e=>
  ⟨.ref s.heap.objs.size,_,I.laid (t':=s.toks) kp (Ag _) (show zC7 X.prog X.w _ h' _ (.lst ys) from⟨hz,its,c',r',e⟩),rfl,q _ (I.hok.fresh (Ag _))⟩
 rcases hq with hq|hq
 ·obtain⟨its,r',pl,hz⟩:=I.list hq
  have ah:=r'.length
  obtain⟨o,ho,hc,n,hd⟩:=pl.isList
  exact call_list_seq p (.inl rfl) ho hc hd (fun h' c' kp e=>fin its r' hz h' c' kp e) (by simp only[A9]<;>omega)
 ·obtain⟨its,r',pl,hz⟩:=I.tuple hq
  have ah:=r'.length
  obtain⟨o,ho,hc,n,hd⟩:=pl
  exact call_list_seq p (.inr rfl) ho hc hd (fun h' c' kp e=>fin its r' hz h' c' kp e) (by simp only[A9]<;>omega)
theorem zIC:zC8 X (.type "tuple") (fun xs H Q=> ∃p ys,xs=[.ref p]/\((SqL X.K H p ys/\ ∀l,H l=none->Q (.ref l) (upd H l (.tup ys)))∨(SqT X.K H p ys/\Q (.ref p) H))):=by
 intro a5 s σ H xs us Q I r h
 obtain⟨p,ys,rfl,h⟩:=h
 obtain⟨u,rfl,rx⟩:=zK5 r
 cases rx
 rcases h with⟨hq,q⟩|⟨hq,q⟩
 ·obtain⟨its,r',pl,hz⟩:=I.list hq
  have ah:=r'.length
  refine call_tuple_list pl.isList (fun h' kp=> ?_) (by simp only[A9]<;>omega)
  have I1:Inv X a5 σ H {s with heap:=h'}:=I.kept (t':=s.toks) kp
  have I2:Inv X a5 σ (upd H h'.objs.size (.tup ys)) {s with heap:=h'.push {cls:= .type "tuple",data:= .seq its.toArray}}:=
   I1.laid (t':=s.toks) (fun b o e=>A3 _ e) (Ag _) (show zC7 X.prog X.w _ _ _ (.tup ys) from⟨hz,its,r',Fw _ _⟩)
  exact⟨.ref h'.objs.size,_,I2,rfl,q _ (I1.hok.fresh (Ag _))⟩
 ·obtain⟨its,r',pl,hz⟩:=I.tuple hq
  exact call_tuple_same pl ⟨.ref p,H,I,rfl,q⟩
def tyV(K:A5)(T:String)(x:V)(H:Hp):Prop:=match x with
 | .str _ => T = "str"
 | .int _ => T = "int"
 | .ref p => (T = "list" /\ ∃ xs,SqL K H p xs) ∨ (T = "tuple" /\ ∃ o,K.lookup p = some o /\ o.cls = .type "tuple" /\ o.dict = none) ∨
   (T= "dict" /\((∃kvs,H p=some (.dK kvs))∨ ∃kvs,H p=some (.dT kvs)))∨(T= "set" /\ ∃S n,H p=some (.set S n))
 |_=>False
theorem zVC{a5:List (Addr×Obj)}{σ:St}{H:Hp}{s:A2}{T:String}{x:V}{v:Value}(I:Inv X a5 σ H s)(r:RelV x v)(ty:tyV X.K T x H):
  s.TypeIs v T/\ ∀a,v= .ref a-> ∃ob,s.heap.get? a=some ob/\ob.dict=none:=by
 cases x with
 |str z=>
  obtain⟨t,rfl⟩:=r
  cases (show T= "str" from ty)
  exact⟨typeIs_str s z t,fun _ e=>nomatch e⟩
 |int i=>
  obtain⟨t,rfl⟩:=r
  cases (show T= "int" from ty)
  exact⟨Hi s i t,fun _ e=>nomatch e⟩
 |ref p=>
  cases r
  rcases ty with⟨rfl,xs,hq⟩|⟨rfl,o,hk,hc,hd⟩|⟨rfl,hk⟩|⟨rfl,S,n,hk⟩
  ·obtain⟨its,_,pl,_⟩:=I.list hq
   refine⟨pl.isList.typeIs,fun a e=> ?_⟩
   cases e
   obtain⟨o,n,e,c,hd,_⟩:=pl
   exact⟨o,e,hd⟩
  ·refine ⟨⟨o,I.kIn p o hk,hc⟩,fun a e => ?_⟩
   cases e
   exact⟨o,I.kIn _ o hk,hd⟩
  ·have z: ∃o,s.heap.get? p=some o/\o.ExactDict:=by
    rcases hk with⟨kvs,hk⟩|⟨kvs,hk⟩
    ·obtain⟨_,_,_,_,o,_,_,e,ex,_⟩:=I.hok p _ hk
     exact⟨o,e,ex⟩
    ·obtain⟨_,_,_,_,o,_,_,e,ex,_⟩:=I.hok p _ hk
     exact⟨o,e,ex⟩
   obtain⟨o,e,ex⟩:=z
   refine⟨⟨o,e,ex.1⟩,fun a e2=> ?_⟩
   cases e2
   exact⟨o,e,ex.2.1⟩
  ·obtain⟨o,_,_,_,e,ex,_⟩:=I.hok p _ hk
   refine⟨⟨o,e,ex.1⟩,fun a e2=> ?_⟩
   cases e2
   exact⟨o,e,ex.2.1⟩
 |_=>exact Du ty
def tBM(K:A5)(T:String)(r:V->List V->Hp->VK->Prop)(to:TE)(t:TA):TE:=fun σ H Q=>to σ H fun x H1=>tyV K T x H1/\t σ H1 fun xs H2=>r x xs H2 Q
variable{o e:Expr}{es:List Expr}{to:TE}{t:TA}{name:Str}{ak aa:Pos}{T id:String}{r:V->List V->Hp->VK->Prop}
theorem yB4(pa:PlainAttrs T)(slot:Slot T name id)(hty:J8 (.builtin id)=pure (.type "method_descriptor")) (hm:MtR X id r) (ho:PE X o to) (ha:PA X (e::es) t)
  (bn : Ec o name X.env (eval o X.env) = eval o X.env := by rfl)
  (dh : ((Cj aa (starEach (e :: es) X.env)).all (fun x => !x.1) && (Ij aa (F6 [] X.env)).all (fun x => x.1.isSome)
   && decide ((e::es).length+([]:List F7).length+(if([]:List F7).isEmpty then 0 else 1)<30))=true:=by rfl)
  (bj:(ak.endLine==aa.line)=true:=by rfl) (hs:starEach (e::es) X.env=(false,eval e X.env)::starEach es X.env:=by rfl) (ay:(Cj aa (starEach es X.env)).any (·.1)=false:=by rfl):
  PE X (.Call (.Attribute o name ak) (e::es) [] aa) (tBM X.K T r to t):=by
 intro a5 s σ H Q I h
 refine wpAny_Call_method_late bn dh bj rfl (thn (ho a5 s σ H _ I h) fun v s1 ⟨x,H1,I1,r1,ty,q1⟩=> ?_)
 obtain⟨h1,h2⟩:=zVC I1 r1 ty
 refine⟨T,id,pa,slot,hty,h1,h2,?_⟩
 have hA:=ha aa a5 s1 σ H1 _ I1 q1
 rw[hs] at hA⊢
 refine Dm (by show(false || (Cj aa (starEach es X.env)).any (·.1))=false;rw[ay]<;>rfl) (D6 ?_)
 exact thn hA fun us s2 ⟨vs,H2,I2,r2,q2⟩=>hm a5 s2 σ H2 x vs v us Q I2 r1 r2 q2
end
def MtM(X:Cx)(id:String)(r:V->List V->Hp->VK->Prop):Prop:=
 ∀(a5:List (Addr×Obj)) (s:A2) (σ:St) (H:Hp) (x:V) (xs:List V) (v:Value) (us:List Value) (Q:VK),Inv X a5 σ H s->RelV x v->Vals xs us->r x xs H Q→
  wpAny (model X.prog X.w) X.A (call (.builtin id) (v::us)) (EP X a5 σ Q) X.xe s
theorem Vals.one: ∀{x:V} {us:List Value},Vals [x] us-> ∃u,us=[u]/\RelV x u
 |_,_,.cons r .nil=>⟨_,rfl,r⟩
section
variable{X:Cx}{a5:List (Addr×Obj)}{σ:St}{H:Hp}{s:A2}{l b:Addr}{xs ys zs:List V}
theorem Inv.lset{its its':List Value}{n:Nat}{f:Array Value->Array Value}{t':Nat}(I:Inv X a5 σ H s)(hH:H l=some (.lst xs))
  (e:s.heap.get? l=some {cls:= .type "list",data:= .seq its.toArray n}) (hf:f its.toArray=its'.toArray) (hv:Vals ys its') (hz:ys.length<=sizeLine):
  Inv X a5 σ (upd H l (.lst ys)) {s with heap:=s.heap.update l (Fy f),toks:=t'}:=by
 have q:=PySem.IsL.update e f
 rw[hf] at q
 refine I.write (x:=l) (e:=l) (by rw[hH];exact trivial) (.inl rfl) (fun b' u hb hu=>(Gm s.heap (Fy f) (C2 hb)).trans hu) ⟨_,q⟩ ?_
 exact⟨hz,its',_,hv,q⟩
theorem Inv.lnew{its:List Value}{t':Nat}(I:Inv X a5 σ H s)(hv:Vals ys its)(hz:ys.length<=sizeLine):
  Inv X a5 σ (upd H s.heap.objs.size (.lst ys)) {s with heap:=s.heap.push {cls:= .type "list",data:= .seq its.toArray},toks:=t'}:=
 I.laid (fun _ _ q=>A3 _ q) (Ag _) ⟨hz,its,0,hv,Ah _ rfl⟩
theorem Inv.fresh(I:Inv X a5 σ H s):H s.heap.objs.size=none:=I.hok.fresh (Ag _)
theorem Inv.lstM(I:Inv X a5 σ H s)(hH:H l=some (.lst xs)):xs.length<=sizeLine/\ ∃(its:List Value) (n:Nat),Vals xs its/\xs.length=its.length/\s.heap.get? l=some {cls:= .type "list",data:= .seq its.toArray n}:=by
 obtain⟨z,its,n,r,e⟩:=I.hok l _ hH
 exact⟨z,its,n,r,r.length,e⟩
theorem zQZ{n:Nat}(h:n<=sizeLine):Db n=false:=by
 unfold Db
 exact decide_eq_false (by omega)
end
section
variable{X:Cx}
def zNT:V->List V->Hp->VK->Prop:=fun x vs H Q=> ∃l xs y,x= .ref l/\vs=[y]/\H l=some (.lst xs)/\xs.length<sizeLine/\Q .non (upd H l (.lst (xs++[y])))
theorem zBD:MtM X "list.append" zNT:=by
 intro a5 s σ H x vs v us Q I rx rv h
 obtain⟨l,xs,y,rfl,rfl,hH,hz,q⟩:=h
 cases rx
 obtain⟨u,rfl,ru⟩:=rv.one
 obtain⟨z,its,n,r,hl,e⟩:=I.lstM hH
 refine E5 F.slot_list_append ⟨_,e,rfl⟩ F.entry_list_append (F.args_list_append_2 _ _) (PySem.list_append l its.toArray n u (by rw[A9];omega)) ⟨e,?_⟩
 refine⟨.non,_,I.lset (its':=its++[u]) hH e (by simp) (r.append (.cons ru .nil)) ?_,rfl,q⟩
 rw[Bu,Gy]
 omega
end
section
variable{prog:Al}{w:World}{A:Ba}{E:Value->A2->Prop}{s:A2}
set_option maxRecDepth 100000 in
end
section
variable{κ:Type}[DecidableEq κ]
noncomputable def valV(kvs:List (κ×V))(k:κ):Option V:=(kvs.find? fun kv=>decide (kv.1=k)).map (·.2)
noncomputable def putK(kvs:List (κ×V))(k:κ)(v:V):List (κ×V):=
 if(kvs.any fun kv=>decide (kv.1=k))=true then kvs.map (fun kv=>if kv.1=k then(kv.1,v) else kv) else kvs++[(k,v)]
theorem zGB{p:κ×V}{r:List (κ×V)}{k:κ}(e:p.1=k):valV (p::r) k=some p.2:=by simp[valV,Ds,e]
theorem zEV{p:κ×V}{r:List (κ×V)}{k:κ}(e: ¬p.1=k):valV (p::r) k=valV r k:=by simp[valV,Ds,e]
theorem zL2(k:κ): ∀kvs:List (κ×V),(kvs.any fun kv=>decide (kv.1=k))=(valV kvs k).isSome
 |[]=>rfl
 |p::r=>by
  rw[G6]
  by_cases e:p.1=k
  ·simp only[zGB e,decide_eq_true e,Bool.true_or,Ik]
  ·rw[zEV e,decide_eq_false e,Ks];exact zL2 k r
theorem zGW(kvs:List (κ×V))(k:κ)(v:V):(putK kvs k v).length<=kvs.length+1:=by
 unfold putK
 split
 ·rw[D8];omega
 ·rw[Bu,Ci,Gz];omega
theorem RelO.isSome_eq{o:Option V}{u:Option Value}(r:RelO o u):o.isSome=u.isSome:=by
 cases o with
 |none=>cases u with
  |none=>rfl
  |some _=>exact(show False from r).elim
 |some _=>cases u with
  |none=>exact(show False from r).elim
  |some _=>rfl
theorem RelO.getD{o:Option V}{u:Option Value}{d:V}{d':Value}(r:RelO o u)(rd:RelV d d'):RelV (o.getD d) (u.getD d'):=by
 cases o with
 |none=>cases u with
  |none=>exact rd
  |some _=>exact(show False from r).elim
 |some _=>cases u with
  |none=>exact(show False from r).elim
  |some _=>exact r
theorem KV.val{kvs:List (κ×V)}{vs:List (κ×Value)}(r:KV kvs vs)(k:κ):RelO (valV kvs k) (Iv vs k):=by
 unfold KV at r
 induction r with
 | nil => exact True.intro
 | @cons p q ps qs h t ih=>
  obtain⟨h1,h2⟩:=h
  by_cases e:p.1=k
  ·have e':q.1=k:=h1.symm.trans e
   have b:Iv (q::qs) k=some q.2:=by simp[Iv,Ds,e']
   rw[zGB e,b];exact h2
  ·have e' : ¬ q.1 = k := fun z => e (h1.trans z)
   have b:Iv (q::qs) k=Iv qs k:=by simp[Iv,Ds,e']
   rw[zEV e,b];exact ih
theorem KV.any{kvs:List (κ×V)}{vs:List (κ×Value)}(r:KV kvs vs)(k:κ):(kvs.any fun kv=>decide (kv.1=k))=vs.any fun kv=>decide (kv.1=k):=by
 unfold KV at r
 induction r with
 |nil=>rfl
 |cons h t ih=>rw[G6,G6,ih,h.1]
theorem KV.repl{kvs:List (κ×V)}{vs:List (κ×Value)}(r:KV kvs vs)(k:κ){y:V}{u:Value}(ry:RelV y u):
  KV (kvs.map fun kv=>if kv.1=k then(kv.1,y) else kv) (vs.map fun kv=>if kv.1=k then(kv.1,u) else kv):=by
 unfold KV at r⊢
 induction r with
 |nil=>exact .nil
 | @cons p q ps qs h t ih=>
  rw[B9,B9]
  refine .cons ?_ ih
  obtain⟨h1,h2⟩:=h
  by_cases e:p.1=k
  ·rw[if_pos e,if_pos (h1.symm.trans e)];exact⟨h1,ry⟩
  ·rw[if_neg e,if_neg (fun z=>e (h1.trans z))];exact⟨h1,h2⟩
theorem KV.put{kvs:List (κ×V)}{vs:List (κ×Value)}(r:KV kvs vs)(k:κ){y:V}{u:Value}(ry:RelV y u):KV (putK kvs k y) (stored vs k u):=by
 unfold putK stored
 rw[r.any k]
 by_cases e:(vs.any fun kv=>decide (kv.1=k))=true
 ·rw[if_pos e,if_pos e];exact r.repl k ry
 ·rw[if_neg e,if_neg e];exact L9 r ⟨rfl,ry⟩
theorem KV.length{kvs:List (κ×V)}{vs:List (κ×Value)}(r:KV kvs vs):kvs.length=vs.length:=Ig r
end
theorem zOL{P:Al}{w:World}{k:Key}{u:Value}(r:RelV (kV k) u):(zBT P w).is k u=true:=by
 cases k with
 |inl i=>obtain⟨t,e⟩:=(show∃t,u=Jq i t from r);subst e;exact zKK P w i t
 |inr x=>obtain⟨t,e⟩:=(show∃t,u=Jr x t from r);subst e;exact zKJ P w x t
theorem zJA{P:Al}{w:World}: ∀{ks:List Key} {us:List Value},Vals (ks.map kV) us->ItemsAre (zBT P w) ks us
 |[],_,r=>by rw[Dt] at r;cases r;exact .nil
 |k::ks,_,r=>by
  rw[B9] at r
  cases r with
  |cons h t=>exact .cons (zOL h) (zJA t)
abbrev KT(H:Hp):List (List Key×V)->List (List Key×Addr×Value)->Prop:=Paired fun p q=>p.1=q.1/\H q.2.1=some (.tup (p.1.map kV))/\RelV p.2 q.2.2
theorem KT.val{H:Hp}{kvs:List (List Key×V)}{xs:List (List Key×Addr×Value)}(r:KT H kvs xs)(k:List Key):RelO (valV kvs k) ((atKey xs k).map (·.2)):=by
 induction r with
 | nil => exact True.intro
 | @cons p q ps qs h t ih=>
  obtain⟨h1,_,h2⟩:=h
  by_cases e:p.1=k
  ·have e':q.1=k:=h1.symm.trans e
   have b:atKey (q::qs) k=some q.2:=by simp[atKey,Ds,e']
   rw[zGB e,b];exact h2
  ·have e' : ¬ q.1 = k := fun z => e (h1.trans z)
   have b:atKey (q::qs) k=atKey qs k:=by simp[atKey,Ds,e']
   rw[zEV e,b];exact ih
theorem KT.repl{H:Hp}{kvs:List (List Key×V)}{xs:List (List Key×Addr×Value)}(r:KT H kvs xs)(k:List Key){y:V}{u:Value}(ry:RelV y u):
  KT H (kvs.map fun kv=>if kv.1=k then(kv.1,y) else kv) (xs.map (putAt k u)):=by
 induction r with
 |nil=>exact .nil
 | @cons p q ps qs h t ih=>
  rw[B9,B9]
  refine .cons ?_ ih
  obtain⟨h1,h2,h3⟩:=h
  unfold putAt
  by_cases e:p.1=k
  ·rw[if_pos e,if_pos (h1.symm.trans e)];exact⟨h1,h2,ry⟩
  ·rw[if_neg e,if_neg (fun z=>e (h1.trans z))];exact⟨h1,h2,h3⟩
theorem KT.put{H:Hp}{kvs:List (List Key×V)}{xs:List (List Key×Addr×Value)}(r:KT H kvs xs)(k:List Key){b:Addr}{y:V}{u:Value}(hb:H b=some (.tup (k.map kV)))(ry:RelV y u):
  KT H (putK kvs k y) (storedH xs k b u):=by
 have e:(kvs.any fun kv=>decide (kv.1=k))=(atKey xs k).isSome:=by rw[zL2,(r.val k).isSome_eq,Option.isSome_map]
 unfold putK storedH
 rw[e]
 by_cases q:(atKey xs k).isSome=true
 ·rw[if_pos q,if_pos q];exact r.repl k ry
 ·rw[if_neg q,if_neg q];exact L9 r ⟨rfl,hb,ry⟩
theorem KT.keeps{H H':Hp}{kvs:List (List Key×V)}{xs:List (List Key×Addr×Value)}(r:KT H kvs xs)(ht: ∀b ys,H b=some (.tup ys)->H' b=some (.tup ys)):KT H' kvs xs:=
 Paired.mapP r fun _ _ z=>⟨z.1,ht _ _ z.2.1,z.2.2⟩
section
variable{P:Al}{w:World}{H:Hp}{h:Heap}{a:Addr}
theorem zWG{u:HO}(ok:HOk P w H h)(e:Rd H a u):zC7 P w H h a u:=e.ok ok
theorem zMN{kvs:List (Key×V)}(ok:HOk P w H h)(e:Rd H a (.dK kvs)):kvs.length<=sizeLine/\(a==Cw)=false/\ ∃vs,KV kvs vs/\h.DictOf (zBT P w) a vs:=
 show zC7 P w H h a (.dK kvs) from zWG ok e
theorem yCN{kvs:List (Key×V)}(ok:HOk P w H h)(e:H a=some (.dK kvs)):kvs.length<=sizeLine/\(a==Cw)=false/\ ∃vs,KV kvs vs/\h.DictOf (zBT P w) a vs:=zMN ok (.inl e)
theorem zJ8{ks:List Key}(ok:HOk P w H h)(e:H a=some (.tup (ks.map kV))):(tupleKind (zBT P w)).is h ks a:=by
 obtain⟨_,its,r,o,h1,h2,n,h3⟩:=(show zC7 P w H h a (.tup (ks.map kV)) from ok a _ e)
 exact⟨o,its.toArray,n,h1,h2,h3,by simpa using zJA r⟩
theorem zMM{kvs:List (List Key×V)}(ok:HOk P w H h)(e:Rd H a (.dT kvs)):kvs.length<=sizeLine/\(a==Cw)=false∧
  ∃xs,KT H kvs xs/\h.DictOfH (tupleKind (zBT P w)) a xs:=by
 obtain⟨z,y,xs,r,o,es,ep,h1,h2,h3,h4,h5⟩:=(show zC7 P w H h a (.dT kvs) from zWG ok e)
 refine⟨z,y,xs,r,o,es,ep,h1,h2,h3,h4,fun x hx=> ?_,h5⟩
 have all: ∀{l:List (List Key×V)} {m:List (List Key×Addr×Value)},KT H l m-> ∀x∈m,(tupleKind (zBT P w)).is h x.1 x.2.1:=by
  intro l m q
  induction q with
  | nil => intro x hx;exact nomatch hx
  | @cons p q ps qs hq t ih=>
   intro x hx
   rcases Ac.mp hx with e|hx
   ·subst e
    exact zJ8 ok (by rw[<- hq.1];exact hq.2.1)
   ·exact ih x hx
 exact all r x hx
theorem yCM{kvs:List (List Key×V)}(ok:HOk P w H h)(e:H a=some (.dT kvs)):kvs.length<=sizeLine/\(a==Cw)=false∧
  ∃xs,KT H kvs xs/\h.DictOfH (tupleKind (zBT P w)) a xs:=zMM ok (.inl e)
end
def DGet(H:Hp)(a:Addr)(y:V)(r:Option V):Prop:=
 (∃kvs k,Rd H a (.dK kvs)/\y=kV k/\r=valV kvs k)∨ ∃kvs k b,Rd H a (.dT kvs)/\y= .ref b/\H b=some (.tup (k.map kV))/\r=valV kvs k
def DPut(H:Hp)(a:Addr)(y v:V)(H':Hp):Prop:=
 (∃kvs k,H a=some (.dK kvs)/\y=kV k/\kvs.length<sizeLine/\H'=upd H a (.dK (putK kvs k v)))∨
 ∃kvs k b,H a=some (.dT kvs)/\y= .ref b/\H b=some (.tup (k.map kV))/\kvs.length<sizeLine/\H'=upd H a (.dT (putK kvs k v))
theorem DGet.k{H:Hp}{a:Addr}{kvs:List (Key×V)}{k:Key}(e:H a=some (.dK kvs)):DGet H a (kV k) (valV kvs k):= .inl ⟨kvs,k,.inl e,rfl,rfl⟩
theorem DPut.k{H:Hp}{a:Addr}{kvs:List (Key×V)}{k:Key}{v:V}(e:H a=some (.dK kvs))(hl:kvs.length<sizeLine):DPut H a (kV k) v (upd H a (.dK (putK kvs k v))):= .inl ⟨kvs,k,e,rfl,hl,rfl⟩
section
variable{X:Cx}{a5:List (Addr×Obj)}{σ:St}{H:Hp}{s:A2}{a:Addr}{y v:V}{u r:Value}{o:Option V}{A:Ba}{E:Value->A2->Prop}
theorem Inv.big(I:Inv X a5 σ H s):Cw<s.heap.objs.size:=by
 have h:mainGlobals<s.heap.objs.size:=(I.mod.glob.keeps I.bk).lt
 exact Nat.lt_trans (by decide) h
theorem zP9{Q:Value->A2->Prop}(hu:A.units+1<cLine)(I:Inv X a5 σ H s)(g:DGet H a y (some v))(ry:RelV y u)(h: ∀w' s',Inv X a5 σ H s'->RelV v w'->Q w' s'):
  wpAny (model X.prog X.w) A (G5 (.ref a) u) Q E s:=by
 rcases g with⟨kvs,k,e,ey,l⟩|⟨kvs,k,b,e,ey,eb,l⟩
 ·subst ey
  obtain⟨z,hd,vs,rel,dd⟩:=zMN I.hok e
  obtain⟨w',hw,rw'⟩:=RelO.some_of (v:=v) (o:=Iv vs k) (by rw[l];exact rel.val k)
  exact wpAny_getItem_of (zOL ry) dd.mapOf hw (h w' _ (I.tok _) rw')
 ·subst ey
  cases (show u=Au b from ry)
  obtain⟨z,hd,xs,rel,dd⟩:=zMM I.hok e
  obtain⟨w',hw,rw'⟩:=RelO.some_of (v:=v) (o:=(atKey xs k).map (·.2)) (by rw[l];exact rel.val k)
  obtain⟨p,hp,hp2⟩:=Option.map_eq_some_iff.mp hw
  refine wpAny_getItem_heap (Ed hu) (zJ8 I.hok eb) dd hp ?_
  rw[hp2]
  exact h w' _ (I.tok _) rw'
theorem zP7{h':Heap}{t':Nat}{ob:HO}(I:Inv X a5 σ H s)(mu:Mut (H a))(hs:Cz a s.heap h')(he: ∃q,h'.get? a=some q)(new:zC7 X.prog X.w (upd H a ob) h' a ob):
  Inv X a5 σ (upd H a ob) {s with heap:=h',toks:=t'}:=
 I.write (x:=a) (e:=a) mu (.inl rfl) (fun b q hb z=>(hs.2 b hb).trans z) he new
theorem zZ6{P:Al}{w:World}{H':Hp}{h':Heap}{kvs:List (Key×V)}{vs:List (Key×Value)}(z:kvs.length<=sizeLine)(hd:(a==Cw)=false)(rel:KV kvs vs)(dd:h'.DictOf (zBT P w) a vs):
  zC7 P w H' h' a (.dK kvs):=⟨z,hd,vs,rel,dd⟩
theorem zP8{H':Hp}{Q:Unit->A2->Prop}(hu:A.units+1<cLine)(I:Inv X a5 σ H s)(g:DPut H a y v H')(ry:RelV y u)(rv:RelV v r)(h: ∀s',Inv X a5 σ H' s'->Q () s'):
  wpAny (model X.prog X.w) A (setItem (.ref a) u r) Q E s:=by
 rcases g with⟨kvs,k,e,ey,l,eH⟩|⟨kvs,k,b,e,ey,eb,l,eH⟩
 ·subst ey eH
  obtain⟨z,hd,vs,rel,dd⟩:=yCN I.hok e
  have hz:vs.length<=sizeLine:=by rw[<- rel.length];exact z
  have hl:(putK kvs k v).length<=sizeLine:=by have:=zGW kvs k v;omega
  refine wpAny_setItem_pairs (hsz:=hz) (zOL ry) dd fun h' dd' hs=>h _ ?_
  have he: ∃q,h'.get? a=some q:=let ⟨q,_,_,hq,_⟩:=dd';⟨q,hq⟩
  exact zP7 I (by rw[e];exact True.intro) hs he (zZ6 hl hd (rel.put k rv) dd')
 ·subst ey eH
  cases (show u=Au b from ry)
  obtain⟨z,hd,xs,rel,dd⟩:=yCM I.hok e
  have hz:xs.length<=sizeLine:=by rw[<- Ig rel];exact z
  have hl:(putK kvs k v).length<=sizeLine:=by have:=zGW kvs k v;omega
  refine wpAny_setItem_heap (hsz:=hz) (Ed hu) (zJ8 I.hok eb) dd fun h' dd' hs=>h _ ?_
  obtain⟨q,es,ep,hq,h2,h3,h4,_,h5⟩:=dd'
  refine zP7 I (by rw[e];exact True.intro) hs ⟨q,hq⟩ ⟨hl,hd,_,(rel.put k eb rv).keeps fun c ys ec=> ?_,q,es,ep,hq,h2,h3,h4,h5⟩
  rw[zAX (yC1 ec e (fun z=>nomatch z))]
  exact ec
end
theorem zKQ{X:Cx}{a5:List (Addr×Obj)}{σ:St}{H:Hp}{s:A2}{a:Addr}{y:V}{o:Option V}(I:Inv X a5 σ H s)(g:DGet H a y o):s.TypeIs (.ref a) "dict":=by
 rcases g with⟨kvs,k,e,_,_⟩|⟨kvs,k,b,e,_,_,_⟩
 ·obtain⟨_,_,vs,_,dd⟩:=zMN I.hok e
  exact dd.typeIs
 ·obtain⟨_,_,xs,_,dd⟩:=zMM I.hok e
  exact dd.typeIs
def yAR(td ty tv:TE):TS:=fun D σ H=>tv σ H fun v H1=>td σ H1 fun x H2=>ty σ H2 fun y H3=> ∃a H4,x= .ref a/\DPut H3 a y v H4/\D.nx σ H4
section
variable{X:Cx}{o i e value:Expr}{pos aq cv:Pos}{td ty tv:TE}
theorem zTH(hu:X.A.units+1<cLine)(ho:PE X o td)(hi:PE X i ty)(hv:PE X value tv)(hs:F3 value (some (.Subscript o i aq)) pos.line X.env=pure false):
  PS X (.Assign [.Subscript o i aq] value pos) (yAR td ty tv):=by
 intro a5 s σ H D I h
 refine wpAny_Assign_Subscript (thn (hv a5 s σ H _ I h) fun r s1 ⟨v,H1,I1,rv,q1⟩=>thn (ho a5 s1 σ H1 _ I1 q1) fun u s2 ⟨x,H2,I2,rx,q2⟩=>thn (hi a5 s2 σ H2 _ I2 q2) fun iv s3 ⟨y,H3,I3,ry,a,H4,ex,g,q3⟩=> ?_) hs
 subst ex
 obtain rfl:u=Au a:=rx
 exact zP8 hu I3 g ry rv fun s4 I4=>⟨σ,H4,I4,q3⟩
end
theorem zRB{P:Al}{w:World}{H:Hp}(h:Heap)(hb:Cw<h.objs.size):zC7 P w H (h.push {cls:= .type "dict",data:= .dict #[]}) h.objs.size (.dK []):=
 ⟨D3 _,beq_eq_false_iff_ne.mpr (C2 (As hb)),[],.nil,Heap.DictOf.new h⟩
def zVL:TE:=fun _ H Q=> ∀p,H p=none->Q (.ref p) (upd H p (.dK []))
section
variable{X:Cx}{pos:Pos}
theorem zQO:PE X (.Dict [] [] pos) zVL:=fun a5 s σ H Q I h=>
 wpAny_Dict_empty ⟨.ref s.heap.objs.size,_,I.laid (a:=s.heap.objs.size) (o:= .dK []) (t':=s.toks) (fun _ _ q=>A3 _ q) (Ag _) (zRB s.heap I.big),rfl,h _ (I.hok.fresh (Ag _))⟩
end
structure M1(X:Cx)(o:Expr)(m:Str)(ak:Pos)(e:Expr)(aa:Pos):Prop where
 base:Ec o m X.env (eval o X.env)=eval o X.env
 few:((Cj aa (starEach [e] X.env)).all (fun x=> !x.1) && (Ij aa (F6 [] X.env)).all (fun x=>x.1.isSome)
  && decide (([e]:List Expr).length+([]:List F7).length+(if([]:List F7).isEmpty then 0 else 1)<30))=true
 line:(ak.endLine==aa.line)=true
 trees:Cj aa (starEach [e] X.env)=[(false,eval e X.env)]
structure M2(X:Cx)(o:Expr)(m:Str)(ak:Pos)(e f:Expr)(aa:Pos):Prop where
 base:Ec o m X.env (eval o X.env)=eval o X.env
 few:((Cj aa (starEach [e,f] X.env)).all (fun x=> !x.1) && (Ij aa (F6 [] X.env)).all (fun x=>x.1.isSome)
  && decide (([e,f]:List Expr).length+([]:List F7).length+(if([]:List F7).isEmpty then 0 else 1)<30))=true
 line:(ak.endLine==aa.line)=true
 trees:Cj aa (starEach [e,f] X.env)=[(false,eval e X.env),(false,eval f X.env)]
def IsD(H:Hp)(a:Addr):Prop:=(∃kvs,Rd H a (.dK kvs))∨ ∃kvs,Rd H a (.dT kvs)
theorem zS8{X:Cx}{a5:List (Addr×Obj)}{σ:St}{H:Hp}{s:A2}{a:Addr}(I:Inv X a5 σ H s)(d:IsD H a):
  s.TypeIs (.ref a) "dict" /\(∀b,Au a= .ref b-> ∃ob,s.heap.get? b=some ob/\ob.dict=none)/\(a==Cw)=false:=by
 rcases d with⟨kvs,e⟩|⟨kvs,e⟩
 ·obtain⟨_,hd,vs,_,dd⟩:=zMN I.hok e
  refine⟨dd.typeIs,fun b q=> ?_,hd⟩
  cases q
  obtain⟨ob,_,_,h1,h2,_⟩:=dd
  exact⟨ob,h1,h2.2.1⟩
 ·obtain⟨_,hd,xs,_,dd⟩:=zMM I.hok e
  refine⟨dd.typeIs,fun b q=> ?_,hd⟩
  cases q
  obtain⟨ob,_,_,h1,h2,_⟩:=dd
  exact⟨ob,h1,h2.2.1⟩
section
variable{X:Cx}{a5:List (Addr×Obj)}{σ:St}{H:Hp}{s:A2}{a:Addr}{y d:V}{u r:Value}{o:Option V}{A:Ba}{E:Value->A2->Prop}
theorem zZ8{Q:Value->A2->Prop}(hu:A.units+1<cLine)(I:Inv X a5 σ H s)(g:DGet H a y o)(ry:RelV y u)(h: ∀w' s',Inv X a5 σ H s'->RelV (o.getD .non) w'->Q w' s'):
  wpAny (model X.prog X.w) A (call (.builtin "dict.get") [.ref a,u]) Q E s:=by
 rcases g with⟨kvs,k,e,ey,l⟩|⟨kvs,k,b,e,ey,eb,l⟩
 ·subst ey
  obtain⟨z,hd,vs,rel,dd⟩:=zMN I.hok e
  refine Ha C7 dd.typeIs Cu (Ee _ _) (meets_dict_get (zBT X.prog X.w) a (zOL ry) hd) ⟨_,dd.mapOf,h _ _ (I.tok _) ?_⟩
  rw[l]
  exact(rel.val k).getD rfl
 ·subst ey
  cases (show u=Au b from ry)
  obtain⟨z,hd,xs,rel,dd⟩:=zMM I.hok e
  refine Ha C7 dd.typeIs Cu (Ee _ _) (meetsH_dict_get (tupleKind (zBT X.prog X.w)) a b hd) ⟨Ed hu,k,xs,zJ8 I.hok eb,dd,h _ _ (I.tok _) ?_⟩
  rw[l]
  exact(rel.val k).getD rfl
theorem zZ7{Q:Value->A2->Prop}(hu:A.units+1<cLine)(I:Inv X a5 σ H s)(g:DGet H a y o)(ry:RelV y u)(rd:RelV d r)(h: ∀w' s',Inv X a5 σ H s'->RelV (o.getD d) w'->Q w' s'):
  wpAny (model X.prog X.w) A (call (.builtin "dict.get") [.ref a,u,r]) Q E s:=by
 rcases g with⟨kvs,k,e,ey,l⟩|⟨kvs,k,b,e,ey,eb,l⟩
 ·subst ey
  obtain⟨z,hd,vs,rel,dd⟩:=zMN I.hok e
  refine Ha C7 dd.typeIs Cu (G7 _ _ _) (meets_dict_get_default (zBT X.prog X.w) a (zOL ry) hd r) ⟨_,dd.mapOf,h _ _ (I.tok _) ?_⟩
  rw[l]
  exact(rel.val k).getD rd
 ·subst ey
  cases (show u=Au b from ry)
  obtain⟨z,hd,xs,rel,dd⟩:=zMM I.hok e
  refine Ha C7 dd.typeIs Cu (G7 _ _ _) (meetsH_dict_get_default (tupleKind (zBT X.prog X.w)) a b hd r) ⟨Ed hu,k,xs,zJ8 I.hok eb,dd,h _ _ (I.tok _) ?_⟩
  rw[l]
  exact(rel.val k).getD rd
end
def zVM(td ty tx:TE):TE:=fun σ H Q=>td σ H fun x H1=> ∃a,x= .ref a/\IsD H1 a/\ty σ H1 fun y H2=>tx σ H2 fun z H3=> ∃o,DGet H3 a y o/\Q (o.getD z) H3
section
variable{X:Cx}{o e f:Expr}{ak aa:Pos}{td ty tx:TE}
theorem zQP(hu:X.A.units+1<cLine)(ho:PE X o td)(he:PE X e ty)(hf:PE X f tx)(m:M2 X o "get" ak e f aa):PE X (.Call (.Attribute o "get" ak) [e,f] [] aa) (zVM td ty tx):=by
 intro a5 s σ H Q I h
 refine Iw m.base m.few m.line G8 C7 Hb (thn (ho a5 s σ H _ I h) fun u s1 ⟨x,H1,I1,rx,a,ex,d,q1⟩=> ?_)
 subst ex
 obtain rfl:u=Au a:=rx
 obtain⟨t1,t2,_⟩:=zS8 I1 d
 refine⟨t1,t2,?_⟩
 rw[m.trees]
 refine Dm rfl (D6 (Dq (thn (he a5 s1 σ H1 _ I1 q1) fun iv s2 ⟨y,H2,I2,ry,q2⟩=>
  Dq (thn (hf a5 s2 σ H2 _ I2 q2) fun fv s3 ⟨z,H3,I3,rz,ov,g,q3⟩=>Em ?_))))
 exact zZ7 hu I3 g ry rz fun w' s4 I4 rw'=>⟨_,H3,I4,rw',q3⟩
end
end L2
namespace Att
open PySem PySem.W PySem.Calls PyProof.Rows
theorem zGX{P:Jp}{h:Heap}: ∀(ns:List Int) (vs:List Value),WellAll P h vs (ns.map WData.int)->Jw vs ns:=by
 intro ns
 induction ns with
 |nil=>
  intro vs w
  rw[Dt] at w
  cases w
  exact .nil
 |cons n ns ih=>
  intro vs w
  rw[B9] at w
  cases w with
  |cons a b=>
   cases a
   exact .cons _ _ (ih _ b)
theorem zNF{l:OpenLaw}{n:Nat}(hn:l.most=some n){P:Jp}{h:Heap}{args:List WData}{vals:List Value}
  (hpre:l.row.toRowW.claim.pre args=true) (hwl:WellAll P h vals args):
  ∃a vs ns,vals=[Au a]/\args=[WData.list (ns.map WData.int)]/\h.get? a=some {cls:= .type "list",data:= .seq vs.toArray}/\Jw vs ns/\ns.length<=n:=by
 have hsh:WShape.hasAll [] args [.list .int]=true:=(pre_splitW hpre).1
 have hc:l.pre.holds [] {args:=args}=true:=(pre_splitW hpre).2
 obtain⟨d,r,rfl,h1,h2⟩:=hasAllW_cons hsh
 obtain rfl:=hasAllW_nil h2
 obtain⟨xs,rfl,h3⟩:=hasW_list h1
 obtain⟨ns,rfl⟩:=items_int h3
 have ah:ns.length<=n:=by
  unfold OpenLaw.pre at hc
  have h4:(WTm.not (.lt (.lit (.int (n:Int))) (.len (.arg 0)))).holds [] {args:=[.list (ns.map .int)]}=true:=by
   have h4:=(holds_andW hc).1
   rw[hn] at h4
   exact h4
  have h5:=condW_of h4 (w_not (w_lt w_lit (w_len_list (w_arg rfl))))
  rw[D8] at h5
  refine Nat.le_of_not_lt fun q=> ?_
  have q':(n:Int)<((ns.length:Nat):Int):=by omega
  first
   |(rw[decide_eq_true q'] at h5;exact absurd h5 (by decide))
   |(simp at h5;omega)
 cases hwl with
 |cons w1 w2=>
  cases w2
  cases w1 with
  |list ho j3=>exact⟨_,_,ns,rfl,rfl,ho,zGX ns _ j3,ah⟩
theorem zNY(l:OpenLaw)(args:List WData):l.row.toRowW.claim.post args (.bool true) args=true:=
 postW_of (r:=l.row.toRowW) (X:=(true==true))
  (show Lc [] (.bool true) .bool=true by first|rfl|decide|simp[Lc,WShape.arms,WShape.armsAll])
  (show(WTm.eq .res (.lit (.bool true))).value [] {args:=args,res:=some (.bool true),after:=args}=some (.bool (true==true)) from w_eq_bool (w_res rfl) w_lit) rfl
theorem zKU{l:OpenLaw}{n:Nat}{q:Al}{loose:List Str}{XP:(Str->Option Value)->Heap->Prop}{YP:World->Heap->Prop}{d:DefRec}
  (hn:l.most=some n) (hdf:d.params.defaults=[])
  (call: ∀(w:World) (s₀ s₁:A2) (mg mb:Str->Option Value) (fa:Addr) (o:Obj) (pm cd doc:Value) (a:Addr) (vs:List Value) (ns:List Int),
   Ground q loose [] XP w s₀ mg mb s₁.heap->YP w s₁.heap→
   s₁.heap.get? fa=some o->o.data= .func (docDef d.name d.params d.body d.scope pm cd doc)->s₁.heap.CodeRec cd d.name->mg d.name=some (.ref fa)→
   s₁.heap.get? a=some {cls:= .type "list",data:= .seq vs.toArray}->Jw vs ns->ns.length<=n->s₁.gens= #[]→
   G4 (model l.prog w) Hx (.call (.ref fa) ⟨[.ref a],[]⟩) (fun r s'=>r= .ok (.ret (.bool true))/\OldK s₁.heap s'.heap/\s'.os=s₁.os/\G2 s'.gens) s₁):
  WalkO q loose XP YP l.row.toRowW d [] (fun f vs=>Ki f vs):=by
 intro w s₀ s₁ mg mb G Y fa o pm cd doc dV kV ho hd hcd hD hmg hg args vals as hpre hlay hrd hwl hlo
 obtain rfl:dV= .none:=Dflts.none hD hdf
 obtain rfl:kV= .none:=Dflts.noKw hD
 obtain⟨a,vs,ns,rfl,rfl,hobj,hints,ah⟩:=zNF hn hpre hwl
 refine enter_call (Fm (call w s₀ s₁ mg mb fa o pm cd doc a vs ns G Y ho (fd_plain hd) hcd hmg hobj hints ah hg) fun r s' hq=> ?_)
 obtain⟨rfl,h2,h3,h4⟩:=hq
 exact⟨.inl ⟨.bool true,.bool true,[],rfl,fun _=>rfl,.bool true,zNY l _,fun _=>⟨Ix,fun _ hm=>(nomatch hm)⟩⟩,h2,h3,h4⟩
end Att
namespace L2
open PySem PySem.Spec PyProof.Rows
theorem zIN: ∀{vs:List Value} {ns:List Int},Jw vs ns->Vals (ns.map V.int) vs
 |_,_,.nil=> .nil
 |_,_,.cons n t h=> .cons ⟨t,rfl⟩ (zIN h)
def Only(H:Hp):Prop:= ∀b,H b=none∨ ∃o xs,H b=some (.frz o (.lst xs))
theorem zR2{P:Al}{w:World}{K:A5}{mg mb:Str->Option Value}{CX:CXT}{k:Nat}{fa a:Addr}{fd:By}{x:Str}{sp:Sp}{s₁:A2}{vs:List Value}{ns:List Int}
  (KX:K.In s₁.heap) (hns:s₁.heap.Ns mainGlobals mg) (hb:s₁.heap.Ns builtinsNs mb) (hbb: ∀x:Str,x≠ "__name__" ->mb x=Av x) (o6:s₁.heap.NoLimit) (hg:s₁.gens= #[])
  (ha:s₁.heap.get? a=some {cls:= .type "list",data:= .seq vs.toArray}) (hi:Jw vs ns) (hl:ns.length<=sizeLine) (hr:Room k Hx)
  (F: ∀base:Heap,K.In base->base.Ns mainGlobals mg->FnOk P w K mg base CX k fa fd [x] sp) (mi: ∀(s:A2) (u:Value),Iu s fd ⟨[u],[]⟩ [(x,u)])
  (hsp : ∀ H : Hp,Only H -> SqL K H a (ns.map V.int) -> sp [.ref a] H (fun v _ => v = .bl true) fun _ _ _ => False)
  (hCX : ∀ H e s',CX [] H s₁ (fun _ _ _ => False) e s' -> False) :
  G4 (model P w) Hx (.call (.ref fa) ⟨[.ref a],[]⟩) (fun r s'=>r= .ok (.ret (.bool true))/\OldK s₁.heap s'.heap/\s'.os=s₁.os/\G2 s'.gens) s₁:=by
 have rv:=zIN hi
 have nj:=hi.length
 have mj: ∀H:Hp,Only H->SqL K H a (ns.map V.int)->HOk P w H s₁.heap->(∀b,H b≠none->b=a)->(H a≠none->K.lookup a=none)→
   G4 (model P w) Hx (.call (.ref fa) ⟨[.ref a],[]⟩) (fun r s'=>r= .ok (.ret (.bool true))/\OldK s₁.heap s'.heap/\s'.os=s₁.os/\G2 s'.gens) s₁:=by
  intro H hO hS hok hA hK
  have dz: ∀{b:Addr} {o:Obj},s₁.heap.get? b=some o->H b=none->(hidT s₁.heap H).get? b=some o:=fun e n=>zR6 e n
  have noA: ∀{b:Addr} {o:Obj} {es:Array Gp} {ep:Nat},s₁.heap.get? b=some o->o.data= .dict es ep->H b=none:=fun{b o es ep} e d=>by
   cases q:H b with
   | none => rfl
   |some u=>
    have e':b=a:=hA b (by rw[q];simp)
    subst e'
    rw[ha] at e;cases e
    have d':Data.seq vs.toArray _=Data.dict es ep:=d
    cases d'
  have nsK: ∀{b:Addr} {m:Str->Option Value},s₁.heap.Ns b m->(hidT s₁.heap H).Ns b m:=fun{b m} ⟨o,es,ep,e,d,r⟩=>⟨o,es,ep,dz e (noA e d),d,r⟩
  have hKb:K.In (hidT s₁.heap H):=fun b o e=>dz (KX b o e) (by
   cases q:H b with
   | none => rfl
   |some u=>
    have e':b=a:=hA b (by rw[q];simp)
    subst e'
    rw[hK (by rw[q];simp)] at e;cases e)
  have hM:Mod K mg (hidT s₁.heap H):=⟨hKb,nsK hns,⟨mb,nsK hb,hbb⟩,let ⟨mc,h1,h2⟩:=o6;⟨mc,nsK h1,h2⟩⟩
  have e0:Env0 P w K mg (hidT s₁.heap H) Hx [] s₁ H:=⟨rfl,hM,fun b o e=>zU0 e,Nat.le_of_eq (zOT _ _),trivial,fun b hb=>absurd (show b∈([]:List Addr) from hb) (by simp),hok,.of_eq hg⟩
  refine Fm ((F _ hKb (nsK hns)).run Hx [] s₁ H ⟨[.ref a],[]⟩ [.ref a] [.ref a] _ _ hr e0 (mi s₁ (.ref a)) (.cons rfl .nil) (hsp H hO hS)) fun r s' h=> ?_
  cases r with
  | error e => exact (hCX H e s' h).elim
  |ok fl=>
   cases fl with
   | next => exact Du h
   | brk => exact Du h
   | cont => exact Du h
   |ret u=>
    obtain⟨v,H',os,bare,un,nv,r',q⟩:=h
    have q':v= .bl true:=q
    subst q'
    obtain rfl:u=Dk true:=r'
    refine⟨rfl,OldK.of_keep fun b o e=> ?_,os,bare⟩
    cases q:H b with
    | none => exact un.keep b o e q (by intro z;exact absurd (show b ∈ ([] : List Addr) from z) (by simp)) (by simp)
    |some u=>
     rcases hO b with z|⟨ob,xs,z⟩
     ·rw[q] at z;cases z
     ·have z2:=un.frzs b ob _ z
      obtain⟨e1,_⟩:=hok b _ z
      obtain⟨e2,_⟩:=nv b _ z2
      rw[e] at e1;cases e1
      exact e2
 cases hk:K.lookup a with
 |some o=>
  have e:=KX a o hk
  rw[ha] at e
  cases e
  refine mj (fun _=>none) (fun _=> .inl rfl) (.inr ⟨_,vs.toArray,_,hk,rfl,rfl,rfl,by rw[A9,nj];exact hl,by simpa using rv⟩) (fun b u z=>by have z':(none:Option HO)=some u:=z;cases z') (fun b z=>absurd rfl z) fun z=>absurd rfl z
 |none=>
  refine mj (fun b=>if b=a then some (.frz {cls:= .type "list",data:= .seq vs.toArray} (.lst (ns.map V.int))) else none) (fun b=> ?_) (.inl (.inr ⟨{cls:= .type "list",data:= .seq vs.toArray},if_pos rfl⟩)) (fun b u z=> ?_) (fun b z=> ?_) fun _=>hk
  ·by_cases hb:b=a
   ·exact .inr ⟨_,_,if_pos hb⟩
   ·exact .inl (if_neg hb)
  ·by_cases hb:b=a
   ·have z':=(if_pos hb).symm.trans z
    cases z'
    subst hb
    exact⟨ha,by rw[D8];exact hl,vs,_,rv,ha⟩
   ·have z':=(if_neg hb).symm.trans z
    cases z'
  ·by_cases hb:b=a
   ·exact hb
   ·exact absurd (if_neg hb) z
theorem zSN{l:Kz}{n k:Nat}{q:Al}{loose:List Str}{XP:(Str->Option Value)->Heap->Prop}{YP:World->Heap->Prop}{d:DefRec}{K:Jp->A5}{CX:World->CXT}{sp:World->Sp}{x:Str}
  (hn:l.most=some n) (hn2:n<=sizeLine) (hdf:d.params.defaults=[]) (hr:Room k Hx)
  (hY: ∀(w:World) (h:Heap),YP w h->(K w.params).In h)
  (F: ∀(w:World) (mg:Str->Option Value) (fa:Addr) (h:Heap),(K w.params).In h->h.Ns mainGlobals mg->mg d.name=some (.ref fa)→
   ∃fd:By,(∀(s:A2) (u:Value),Iu s fd ⟨[u],[]⟩ [(x,u)])∧
    ∀base:Heap,(K w.params).In base->base.Ns mainGlobals mg->FnOk l.prog w (K w.params) mg base (CX w) k fa fd [x] (sp w))
  (hsp: ∀(w:World) (H:Hp) (a:Addr) (ns:List Int),ns.length<=n->Only H->SqL (K w.params) H a (ns.map V.int)->sp w [.ref a] H (fun v _=>v= .bl true) fun _ _ _=>False)
  (hCX: ∀(w:World) (H:Hp) (s:A2) (e:Value) (s':A2),CX w [] H s (fun _ _ _=>False) e s'->False):
  W.WalkO q loose XP YP l.row.toRowW d [] (fun f vs=>Ki f vs):=by
 refine Att.zKU hn hdf fun w s₀ s₁ mg mb fa o pm cd doc a vs ns G Y ho hd hcd hmg hobj hints ah hg=> ?_
 have KX:=hY w _ Y
 obtain⟨fd,hb,hF⟩:=F w mg fa _ KX G.T.g hmg
 exact zR2 KX G.T.g G.T.b G.T.builtins G.T.nolimit hg hobj hints (Cy ah hn2) hr hF hb (fun H hO hS=>hsp w H a ns ah hO hS) fun H e s'=>hCX w H s₁ e s'
theorem zPX{l:Kz}{n k:Nat}{q:Al}{loose:List Str}{XP:(Str->Option Value)->Heap->Prop}{YP:World->Heap->Prop}{d:DefRec}{K:Jp->A5}{CX:CXT}{sp:A5->Sp}{x:Str}
  (hn:l.most=some n) (hn2:n<=sizeLine) (hdf:d.params.defaults=[]) (hr:Room k Hx)
  (hY: ∀(w:World) (h:Heap),YP w h->(K w.params).In h)
  (F: ∀(w:World) (mg:Str->Option Value) (fa:Addr) (h:Heap),(K w.params).In h->h.Ns mainGlobals mg->mg d.name=some (.ref fa)→
   ∃fd:By,(∀(s:A2) (u:Value),Iu s fd ⟨[u],[]⟩ [(x,u)])∧
    ∀base:Heap,(K w.params).In base->base.Ns mainGlobals mg->FnOk l.prog w (K w.params) mg base CX k fa fd [x] (sp (K w.params)))
  (hsp: ∀(K:A5) (H:Hp) (a:Addr) (ns:List Int),ns.length<=n->Only H->SqL K H a (ns.map V.int)->sp K [.ref a] H (fun v _=>v= .bl true) fun _ _ _=>False)
  (hCX: ∀(H:Hp) (s:A2) (e:Value) (s':A2),CX [] H s (fun _ _ _=>False) e s'->False):
  W.WalkO q loose XP YP l.row.toRowW d [] (fun f vs=>Ki f vs):=
 zSN (K:=K) (CX:=fun _=>CX) (sp:=fun w=>sp (K w.params)) hn hn2 hdf hr hY F (fun w H a ns h1 h2 h3=>hsp (K w.params) H a ns h1 h2 h3) fun _ H s e s'=>hCX H s e s'
noncomputable def zBW(s:Stmt):Arguments:=match s with
 | .FunctionDef _ a _ _ _ _ _ _ _ _=>a
 |_=>{posonlyargs:=[],args:=[],vararg:=none,kwonlyargs:=[],kw_defaults:=[],kwarg:=none,defaults:=[]}
noncomputable def zB3(s:Stmt):List Stmt:=match s with
 | .FunctionDef _ _ b _ _ _ _ _ _ _=>b
 |_=>[]
noncomputable def zA4(s:Stmt):Scope:=match s with
 | .FunctionDef _ _ _ _ _ _ sc _ _ _=>sc
 |_=>{kind:= .function,names:=[],isGenerator:=false,isCoroutine:=false}
abbrev CX0:CXT:=fun _ _ _ _ _ _=>False
abbrev E0:XK:=fun _ _ _=>False
theorem zTR{X:Cx}:zPS CX0 X E0:=fun _ _ _ _ _ _ _ h=>h.elim
structure Fun(K:A5)(x qual:Str)(st:Stmt)(f:Addr)(fd:By):Prop where
 ex: ∃(oc:Value) (od:Option Addr) (kV doc pm:Value) (an:Option Addr) (cdv ct:Value) (osl:Array (Option Value)),
  fd=Es x qual (zBW st) (zB3 st) (zA4 st) .none kV doc pm an cdv ct/\K.lookup f=some ⟨oc,od,.func fd,osl⟩/\Fn K cdv qual=true
 kp:Dr K (.ref f)=true
section
variable{P:Al}{w:World}{K:A5}{mg:Str->Option Value}{base:Heap}
theorem Fun.ok{x qual:Str}{st:Stmt}{f:Addr}{fd:By}{N ps:List Str}{k:Nat}{sp:Sp}(F:Fun K x qual st f fd)(S:zAG N ps (zA4 st))(len: ∀vs H Q E,sp vs H Q E->vs.length=ps.length)
  (aj: ∀(cdv:Value) (A:Ba) (outer:List Env) (s:A2) (H:Hp) (vs:List V) (Q:VK) (E:XK),Room k (A.deeper (envOfC qual (zA4 st) s.heap.objs.size f cdv))->sp vs H Q E→
   ∃t,PSs (cxOf CX0 P w K mg base N qual (zA4 st) f cdv A outer s H E).nox (zB3 st) t/\t {nx:=fun _ H'=>Q .non H',rt:=Q} (start N vs) H):FnOk P w K mg base CX0 (k+1) f fd ps sp:=by
 obtain⟨oc,od,kV,doc,pm,an,cdv,ct,osl,rfl,lk,hcd⟩:=F.ex
 refine zUH lk hcd S len fun A outer s H vs Q E hr hsp=> ?_
 obtain⟨t,h,q⟩:=aj cdv A outer s H vs Q E hr hsp
 exact⟨t,h.nox,q⟩
theorem Fun.binds{x qual:Str}{st:Stmt}{f:Addr}{fd:By}{ps:List Str}(F:Fun K x qual st f fd)
  (h: ∀(kV doc pm:Value) (an:Option Addr) (cdv ct:Value) (us:List Value),us.length=ps.length->bindArgs (Es x qual (zBW st) (zB3 st) (zA4 st) .none kV doc pm an cdv ct) ⟨us,[]⟩=pure (ps.zip us)):zG9 K fd ps []:=by
 obtain⟨oc,od,kV,doc,pm,an,cdv,ct,osl,rfl,lk,hcd⟩:=F.ex
 exact .all (h kV doc pm an cdv ct)
theorem zLO{x qual:Str}{st:Stmt}{f:Addr}{oc:Value}{od an:Option Addr}{osl:Array (Option Value)}{kV doc pm cdv ct:Value}(l:K.lookup f=some ⟨oc,od,.func (Es x qual (zBW st) (zB3 st) (zA4 st) .none kV doc pm an cdv ct),osl⟩)
  (c:Fn K cdv qual=true) (k:Dr K (.ref f)=true):Fun K x qual st f (Es x qual (zBW st) (zB3 st) (zA4 st) .none kV doc pm an cdv ct):=⟨⟨oc,od,kV,doc,pm,an,cdv,ct,osl,rfl,l,c⟩,k⟩
end
theorem zUC{A:Ba}{k:Nat}(hr:Room k A):A.units+1<cLine:=Nat.lt_of_le_of_lt (Nat.add_le_add_left (by decide:1<=64) _) hr.units
section
variable{X:Cx}
theorem pv(i:Nat){x:Str}{pos:Pos}(hN:X.N[i]? =some x:=by rfl)(hv:Vis X.env.scope x:=by first|exact Gf rfl|exact Hq (Gf rfl)|exact Hq (Hq rfl))(hd:(x==("__debug__":Str))=false:=by decide)
  (hcd:(x==("__classdict__":Str))=false:=by decide):PE X (.Name x pos) (tVar i):=zO0 hN hv hd hcd
end
theorem iteF{A B:Prop}(h:B):if false=true then A else B:=by
 rw[if_neg Cg]
 exact h
theorem iteT{A B:Prop}(h:A):if true=true then A else B:=by
 rw[if_pos rfl]
 exact h
def Same(H H':Hp):Prop:= ∀b o,H b=some o->H' b=some o
theorem Same.refl(H:Hp):Same H H:=fun _ _ h=>h
theorem Same.trans{H H1 H2:Hp}(a:Same H H1)(b:Same H1 H2):Same H H2:=fun c o h=>b c o (a c o h)
theorem zKR{env:Env}{f:Str×NameKind->List (Str×Addr)->Sem (ForInStep (List (Str×Addr)))}
  (hf : ∀ n k r,f (n,k) r = if (k == Aq) = true then (cellOf env n >>= fun c => pure (Cs ((n,c) :: r))) else pure (Cs r)) :
  ∀(names:List (Str×NameKind)) (cs:List (Str×Addr)),(∀y∈names,y.2= .free-> ∃c,env.cells.lookup y.1=some c)→
   ∃cl,forIn names cs f=(pure cl:Sem (List (Str×Addr)))/\(∀x c,cl.lookup x=some c->cs.lookup x=some c∨env.cells.lookup x=some c)∧
    (∀x c,cs.lookup x=some c-> ∃c',cl.lookup x=some c')/\ ∀x,(x,Aq)∈names-> ∃c,cl.lookup x=some c
 | [],cs,_ => ⟨cs,rfl,fun _ _ e => .inl e,fun _ c e => ⟨c,e⟩,fun _ h => nomatch h⟩
 | (n,k) :: r,cs,h => by
  have hr: ∀y∈r,y.2= .free-> ∃c,env.cells.lookup y.1=some c:=fun y hy=>h y (Am _ hy)
  by_cases hk:k= .free
  ·subst hk
   obtain⟨c,hc⟩:=h (n,.free) Aw rfl
   have hc:env.cells.lookup n=some c:=hc
   obtain⟨cl,e1,e2,e3,e4⟩:=zKR hf r ((n,c)::cs) hr
   refine⟨cl,?_,fun x c' e=> ?_,fun x c' e=> ?_,fun x hx=> ?_⟩
   ·rw [F8,hf,if_pos (show (Aq == Aq) = true by decide)]
    have ec:cellOf env n=pure c:=by unfold cellOf;rw[hc]
    rw[ec,pure_bind,pure_bind]
    exact e1
   ·rcases e2 x c' e with q|q
    ·by_cases hx:x=n
     ·subst hx
      rw[C8] at q
      cases q
      exact .inr hc
     ·rw[B7,beq_eq_false_iff_ne.mpr hx] at q
      exact .inl q
    ·exact .inr q
   ·by_cases hx:x=n
    ·subst hx
     exact e3 x c (C8 ..)
    ·refine e3 x c' ?_
     rw[B7,beq_eq_false_iff_ne.mpr hx]
     exact e
   ·rcases Ac.mp hx with q|q
    ·cases q
     exact e3 n c (C8 ..)
    ·exact e4 x q
  ·obtain⟨cl,e1,e2,e3,e4⟩:=zKR hf r cs hr
   refine⟨cl,?_,e2,e3,fun x hx=> ?_⟩
   ·have hb : ¬ (k == Aq) = true := by simpa using hk
    rw[F8,hf,if_neg hb,pure_bind]
    exact e1
   ·rcases Ac.mp hx with q|q
    ·cases q
     exact absurd rfl hk
    ·exact e4 x q
theorem zPD{env:Env}{scope:Scope}(h: ∀y∈scope.names,y.2= .free-> ∃c,env.cells.lookup y.1=some c):
  ∃cl,closureFor scope env=pure cl/\(∀x c,cl.lookup x=some c->env.cells.lookup x=some c)/\ ∀x,(x,Aq)∈scope.names-> ∃c,cl.lookup x=some c:=by
 simp only[closureFor]
 obtain⟨cl,e1,e2,_,e4⟩:=zKR (env:=env) (f:=fun x r=>match x with
  |(name,kind)=>if(kind==Aq)=true then(cellOf env name>>=fun c=>pure (Cs ((name,c)::r))) else pure (Cs r)) (fun _ _ _=>rfl) scope.names [] h
 refine⟨cl,?_,fun x c e=> ?_,e4⟩
 ·first
   |exact e1
   |(refine Eq.trans (congrArg (fun m=>m>>=pure) e1) ?_;exact pure_bind _ _)
 ·rcases e2 x c e with q|q
  ·cases q
  ·exact q
noncomputable def caps(ix:List Nat)(σ:St):St:=ix.map fun i=>(σ[i]?).join
def PTs(Y:Cx)(ifs:List Expr)(tt:TT):Prop:=
 ∀(a5:List (Addr×Obj)) (s:A2) (σ:St) (H:Hp) (Q:Bool->Hp->Prop),Inv Y a5 σ H s->tt σ H Q→
  wpAny (model Y.prog Y.w) Y.A (forIn ifs true fun c r=>if r=true then do let ok<- isTrue c Y.env (eval c Y.env);pure (Cs ok) else pure (Cs r)) (TP Y a5 σ Q) Y.xe s
def tYes:TT:=fun _ H Q=>Q true H
theorem zTE{Y:Cx}:PTs Y [] tYes:=fun _ _ _ H _ I h=>wpAny_tests_nil ⟨H,I,h⟩
theorem zTD{Y:Cx}{c:Expr}{tt:TT}(h:PT Y c tt):PTs Y [c] tt:=fun a5 s σ H Q I hw=>wpAny_tests_one (h a5 s σ H Q I hw)
structure Blk(Y:Cx)(tg:Expr)(ifs:List Expr)(elt:Expr)(g:TG)(tt:TT)(te:TE):Prop where
 tg:PG Y tg g
 ts:PTs Y ifs tt
 el:PE Y elt te
theorem zPB{prog:Al}{w:World}{A:Ba}{s:A2}{elt b6 iter:Expr}{ifs:List Expr}{scope:Scope}{pos:Pos}{it acc:Value}{env:Env}{R:Result->A2->Prop}(I:Nat->A2->Prop)
  (turn : ∀ n s,I n s -> wpAny (model prog w) A (pyNext it) (fun r s₁ => match r with
   | none => R (.ok .next) s₁
   | some v => wpAny (model prog w) A (F4 b6 it v) (fun _ s₀ => wpAny (model prog w) A (assign b6 env v) (fun _ s₂ =>
     wpAny (model prog w) A (forIn ifs true fun c r=>if r=true then do let ok<- isTrue c env (eval c env);pure (Cs ok) else pure (Cs r)) (fun ok s₃=>if ok=true then wpAny (model prog w) A (eval elt env) (fun x s₄=>
      wpAny (model prog w) A (call (.builtin "list.append") [acc,x]) (fun _ s₅=> ∃m,m<n/\I m s₅) (fun _ _=>False) s₄) (fun _ _=>False) s₃
      else∃m,m<n/\I m s₃) (fun _ _=>False) s₂)
     (fun _ _=>False) s₀) (fun _ _=>False) s₁) (fun _ _=>False) s)
  (n:Nat) (h:I n s):G4 (model prog w) A (.compLoop (.ListComp elt [⟨b6,iter,ifs,0⟩] scope pos) 0 it acc env) R s:=by
 refine codeAny_loop rfl I (fun n s hI=> ?_) n h
 show wpAny _ A ((compTurn (.ListComp elt [⟨b6,iter,ifs,0⟩] scope pos) 0 it acc env).onRaise (fun x=>do noteFrame x env;theTreesLotGoes x)) _ _ s
 refine wpAny_noted ?_
 rw[compTurn_list]
 refine A0 (E6 (A0 (B6 (turn n s hI) (fun r s₁ h₁=> ?_) fun _ _ h'=>h'.elim)))
 cases r with
 |none=>exact A8 h₁
 |some v=>
  refine A0 (B6 h₁ (fun _ s₀ h₀'=> ?_) fun _ _ h'=>h'.elim)
  refine A0 (B6 h₀' (fun _ s₂ h₂=> ?_) fun _ _ h'=>h'.elim)
  refine A0 (B6 h₂ (fun okb s₃ h₃=> ?_) fun _ _ h'=>h'.elim)
  cases okb with
  |false=>exact A8 ⟨rfl,h₃⟩
  |true=>exact A0 (A0 (B6 h₃ (fun x s₄ h₄=>A0 (B6 h₄ (fun _ s₅ h₅=>A8 (A8 ⟨rfl,h₅⟩)) fun _ _ h'=>h'.elim)) fun _ _ h'=>h'.elim))
section
variable{X:Cx}{a5:List (Addr×Obj)}{σ:St}{H H':Hp}{s s1 s':A2}{h'':Heap}
theorem Inv.offNew{σ':St}{H1:Hp}(I1:Inv X a5 σ H1 s1)(I':Inv X a5 σ' H' s')(hn:H' s1.heap.objs.size=none)(sb: ∀b o,b≠s1.heap.objs.size->s'.heap.get? b=some o->h''.get? b=some o):
  Inv X a5 σ' H' {s' with heap:=h''}:=
 I'.turned (t':=s'.toks) (it:=s1.heap.objs.size) sb hn (E3 I1.lt) (.inr I1.sz)
  (fun x c e z => by
   obtain⟨v,q⟩:=I1.cell x c e
   have:=q.lt
   rw[z] at this
   exact Bt _ this)
  fun p hp z=>by
   have:=Ad (I1.pin p hp).1
   rw[z] at this
   exact Bt _ this
end
def zZL(D:Addr)(ix:List Nat)(nl:Nat)(J:It)(g:TG)(tt:TT)(te:TE)(σ:St)(H0:Hp)(Q:Hp->Prop):Prop:=
 ∃W:Nat->Nat->List V->Hp->Prop,(∃m,W 0 m [] (upd H0 D (.lst [])))/\ ∀i m acc H1,W i m acc H1→
  (J.stop i H1/\Q H1)∨
  (J.go i H1/\ ∃N:List V->Hp->Prop,(∀bh H',N bh H'-> ∃m',m'<m/\W (i+1) m' bh H')∧
   ∀x H2,J.yld i H1 x H2->g x (caps ix σ++Aa nl none) H2 fun σ2 H3=>σ2.take ix.length=caps ix σ∧
    tt σ2 H3 fun b H4=>if b=true then te σ2 H4 fun v H5=>H5 D=some (.lst acc)/\acc.length<sizeLine/\N (acc++[v]) (upd H5 D (.lst (acc++[v]))) else N acc H4)
theorem zFW{env:Env}{x:Str}: ∀{l:List (Str×NameKind)},l.lookup x=some .free→
  (l.map fun (n,k) => if (k == Aq && env.scope.kind == .function && env.kindOf n == some .cell) then (n,B5) else (n,k)).lookup x = some .cell ∨
  (l.map fun (n,k) => if (k == Aq && env.scope.kind == .function && env.kindOf n == some .cell) then (n,B5) else (n,k)).lookup x = some .free
 | [],h => by cases h
 | (n,k) :: r,h => by
  show Hy x ((if(k==Aq && env.scope.kind== .function && env.kindOf n==some .cell)=true then(n,B5) else(n,k))::_)=some .cell∨Hy x ((if(k==Aq && env.scope.kind== .function && env.kindOf n==some .cell)=true then(n,B5) else(n,k))::_)=some .free
  by_cases hx:x=n
  ·subst hx
   rw[C8] at h
   cases h
   by_cases hc:(Aq==Aq && env.scope.kind== .function && env.kindOf x==some .cell)=true
   ·left
    rw[if_pos hc,C8]
   ·right
    rw[if_neg hc,C8]
  ·have hb:(x==n)=false:=beq_eq_false_iff_ne.mpr hx
   simp only[B7,hb] at h
   have ih:=zFW (env:=env) h
   by_cases hc:(k==Aq && env.scope.kind== .function && env.kindOf n==some .cell)=true
   ·rw[if_pos hc]
    simp only[B7,hb]
    exact ih
   ·rw[if_neg hc]
    simp only[B7,hb]
    exact ih
def zT3(ix:List Nat)(nl:Nat)(wi:TI)(g:TG)(tt:TT)(te:TE):TE:=fun σ H Q=>wi σ H fun J H0=> ∀D,H0 D=none->zZL D ix nl J g tt te σ H0 fun H'=>Q (.ref D) H'
mutual
inductive Dp(K:A5)(H:Hp):V->Hr->Prop
 |non:Dp K H .non .none
 |bl (b:Bool):Dp K H (.bl b) (.bool b)
 |int (i:Int):Dp K H (.int i) (.int i)
 |str (x:Str):Dp K H (.str x) (.str x)
 |lst {a:Addr} {xs:List V} {ds:List Hr}:SqL K H a xs->zKX K H xs ds->Dp K H (.ref a) (.list ds)
 |tup {a:Addr} {xs:List V} {ds:List Hr}:SqT K H a xs->zKX K H xs ds->Dp K H (.ref a) (.tuple ds)
inductive zKX(K:A5)(H:Hp):List V->List Hr->Prop
 |nil:zKX K H [] []
 |cons {v:V} {vs:List V} {d:Hr} {ds:List Hr}:Dp K H v d->zKX K H vs ds->zKX K H (v::vs) (d::ds)
end
section
variable{X:Cx}{a5:List (Addr×Obj)}{σ:St}{H:Hp}{s:A2}
mutual
theorem Inv.reads(I:Inv X a5 σ H s): ∀{v:V} {d:Hr} {u:Value},Dp X.K H v d->RelV v u-> ∃as,Reads s.heap u d as
 |_,_,_,.non,r=>by cases r;exact⟨_,.none⟩
 |_,_,_,.bl b,r=>by cases r;exact⟨_,.bool b⟩
 |_,_,_,.int i,r=>by obtain⟨t,rfl⟩:=r;exact⟨_,.int i t⟩
 |_,_,_,.str x,r=>by obtain⟨t,rfl⟩:=r;exact⟨_,.str x t⟩
 |_,_,_,.lst q all,r=>by
  cases r
  obtain⟨its,rv,⟨o,n,e,c,_,d⟩,_⟩:=I.list q
  obtain⟨as,h⟩:=Inv.readsAll I all rv
  exact⟨_,.list e c d (by simpa using h)⟩
 |_,_,_,.tup q all,r=>by
  cases r
  obtain⟨its,rv,⟨o,e,c,n,d⟩,_⟩:=I.tuple q
  obtain⟨as,h⟩:=Inv.readsAll I all rv
  exact⟨_,.tuple e c d (by simpa using h)⟩
theorem Inv.readsAll(I:Inv X a5 σ H s): ∀{vs:List V} {ds:List Hr} {us:List Value},zKX X.K H vs ds->Vals vs us-> ∃as,ReadsAll s.heap us ds as
 | _,_,_,.nil,r => by cases r;exact ⟨_,.nil⟩
 | _,_,_,.cons h t,r => by
  cases r with
  |cons r1 r2=>
   obtain⟨as,h1⟩:=Inv.reads I h r1
   obtain⟨bs,h2⟩:=Inv.readsAll I t r2
   exact⟨_,.cons h1 h2⟩
end
end
def rEqD(K:A5):R2:=fun x y H Q=> ∃d e,Dp K H x d/\Dp K H y e/\Cf d=true/\Cf e=true/\Q (.bl (Ez d e)) H
def rNeD(K:A5):R2:=fun x y H Q=> ∃d e,Dp K H x d/\Dp K H y e/\Cf d=true/\Cf e=true/\Q (.bl (!PyData.eqv d e)) H
section
variable{X:Cx}
theorem zXE(hu:X.A.units+64<cLine):OpR X (Bl .Eq) (rEqD X.K):=by
 intro a5 s σ H x y v u Q I rx ry h
 obtain⟨d,e,hd,he,sd,se,q⟩:=h
 obtain⟨as,h1⟩:=I.reads hd rx
 obtain⟨bs,h2⟩:=I.reads he ry
 exact eq_dataH h1 h2 sd se hu (zLP I q rfl)
theorem zXB(hu:X.A.units+64<cLine):OpR X (Bl .NotEq) (rNeD X.K):=by
 intro a5 s σ H x y v u Q I rx ry h
 obtain⟨d,e,hd,he,sd,se,q⟩:=h
 obtain⟨as,h1⟩:=I.reads hd rx
 obtain⟨bs,h2⟩:=I.reads he ry
 exact ne_dataH h1 h2 sd se hu (zLP I q rfl)
theorem zG1: ∀{ns:List Int} {us:List Value},Vals (ns.map V.int) us->Jw us ns
 |[],_,.nil=> .nil
 |i::ns,_,.cons r t=>by
  obtain⟨k,rfl⟩:=r
  exact .cons i k (zG1 t)
inductive zMQ:List Gp->List (Str×V)->Prop
 |nil:zMQ [] []
 |cons {e:Gp} {es:List Gp} {x:Str} {t:Tok} {v:V} {D:List (Str×V)}:e.key= .str x t->RelV v e.val->zMQ es D->zMQ (e::es) ((x,v)::D)
def KTab(K:A5)(a:Addr)(D:List (Str×V)):Prop:=
 (a==Cw)=false/\ ∃o es ep,K.lookup a=some o/\o.ExactDict/\o.data= .dict es ep/\zMQ es.toList D
theorem zMQ.rows{es:List Gp}{D:List (Str×V)}(h:zMQ es D):KTD.Rows RelV es D:=by
 induction h with
 |nil=>exact .nil
 |cons h1 h2 _ ih=>exact .cons h1 h2 ih
theorem zLI{A:Ba}{E:Value->A2->Prop}{s:A2}{K:A5}{prog:Al}{w:World}{a:Addr}{D:List (Str×V)}{k:Str}{tk:Tok}{Q:Option Value->A2->Prop}(hK:K.In s.heap)(T:KTab K a D)
  (h1: ∀d v,D4 k D=some d->RelV d v->Q (some v) {s with toks:=s.toks+1}) (h2:D4 k D=none->Q none {s with toks:=s.toks+1}):
  wpAny (model prog w) A (dictGet a (.str k tk)) Q E s:=by
 obtain⟨_,o,es,ep,ho,hc,hd,hr⟩:=T
 have ho:=hK _ _ ho
 have hr:=hr.rows
 unfold dictGet
 try with_reducible refine Bf ?_
 refine A0 (wpAny_pyHash_str (A0 (KTD.kt_dictFind_strs (s:={s with toks:=s.toks+1}) ho hd (by obtain⟨l⟩:=es;simpa using hr.exact) ?_)))
 have hq:Q (findBy (fun k v=>v.isStr k) es k) {s with toks:=s.toks+1}:=by
  have hf:findBy (fun k v=>v.isStr k) es k=(es.toList.find? fun e=>e.key.isStr k).map (·.val):=by
   obtain⟨l⟩:=es
   simp[findBy]
  rw[hf]
  cases hat:D4 k D with
  |some d=>obtain⟨v,hv,hfl⟩:=hr.find_some hat;rw[hv];exact h1 d v hat hfl
  |none=>rw[hr.find_none hat];exact h2 hat
 rw[findBy_of_findIdx?] at hq
 cases hi:es.findIdx? fun e=>e.key.isStr k with
 |none=>rw[hi] at hq;exact A8 hq
 |some i=>rw[hi] at hq;exact A0 (wpAny_dictEntries (s:={s with toks:=s.toks+1}) ho hd (A8 hq))
theorem zU9:IxR X (fun x y H Q=> ∃a k D v,x= .ref a/\y= .str k/\KTab X.K a D/\D4 k D=some v/\Q v H):=by
 intro value slice a5 s σ H x y v u Q I rx ry h hs
 obtain⟨a,k,D,d,rfl,rfl,T,hk,q⟩:=h
 cases rx
 obtain⟨t,rfl⟩:=ry
 have hT:s.TypeIs (.ref a) "dict":=by
  obtain⟨_,o,es,ep,ho,hc,_⟩:=T
  exact⟨o,I.kIn _ _ ho,hc.1⟩
 have main:wpAny (model X.prog X.w) X.A (G5 (.ref a) (.str k t)) (EP X a5 σ Q) X.xe s:=by
  unfold G5
  try with_reducible refine Bf ?_
  refine A0 (Fx hT (by decide) ?_)
  refine A0 (C0 (name:=At "__getitem__") hT Fq
   (Ch Fq hT PySem.F.entry_dict_getitem ?_ (PySem.F.args_dict_getitem_2 _ _)))
  show wpAny _ _ (dictGet a (.str k t)>>=_) _ _ s
  exact A0 (zLI I.kIn T (fun d' v' ha hv=>A8 ⟨v',rfl,A8 (by
   rw[hk] at ha;cases ha
   exact⟨d,H,I.tok _,hv,q⟩)⟩) fun hn=>by rw[hk] at hn;cases hn)
 exact Kq hT PySem.F.slot_dict_getitem.lookup main hs
end
section
variable{prog:Al}{w:World}{A:Ba}{E:Value->A2->Prop}{s:A2}
theorem zJI{it t:Addr}{items:Array Value}(hne:t≠it): ∀(n i:Nat) (s:A2) (Q:List Value->A2->Prop),s.heap.IsListIter it t i->s.heap.IsList t items->i+n<=items.size→
  (∀h',h'.IsListIter it t (i+n)->Cz it s.heap h'->Q ((items.toList.drop i).take n) {s with heap:=h'})->wpAny (model prog w) A (draw (.ref it) n) Q E s
 |0,i,s,Q,hit,_,_,hQ=>by
  show wpAny _ _ (pure []) Q E s
  exact A8 (by simpa using hQ s.heap hit (Heap.SameBut.refl ..))
 |n+1,i,s,Q,hit,ht,hle,hQ=>by
  have hlt:i<items.size:=by omega
  show wpAny _ _ (pyNext (.ref it)>>=_) Q E s
  refine A0 (Gj hit ht (x:=items[i]) (by simp[hlt]) fun h₁ hit₁ hs₁=> ?_)
  refine A0 (Bf (zJI hne n (i+1) _ _ hit₁ (ht.extBut hs₁.extBut hne) (by omega) fun h₂ hit₂ hs₂=>A8 ?_))
  have hd:items.toList.drop i=items[i]::items.toList.drop (i+1):=by simp[Dw,hlt]
  have:=hQ h₂ (by rw[show i+(n+1)=i+1+n by omega];exact hit₂) (hs₁.trans hs₂)
  rw[hd,E2] at this
  exact this
theorem zG5{t:Addr}{items:Array Value}{Q:List Value->A2->Prop}(hh:A.handled=none)(ht:s.heap.IsList t items)
  (hQ: ∀h',F9 s.heap.objs.size s.heap h'->Q items.toList {s with heap:=h'}):wpAny (model prog w) A (G3 (.ref t) items.size none) Q E s:=by
 have hlt:t≠s.heap.objs.size:=by obtain⟨o,ho,_⟩:=ht;exact As (Ad ho)
 unfold G3
 refine A0 ?_
 ·unfold notIterableAtAll
  refine A0 (wpAny_specialOf ht.typeIs PySem.F.slot_list_iter.lookup ?_)
  refine A8 ?_
  simp only[Ef,if_false]
  refine A0 (Bf (El ht ?_))
  have htp:(s.heap.push {cls:= .type "list_iterator",data:= .fields #[.ref t,.int 0 0]}).IsList t items:=by
   obtain⟨o,ho,r⟩:=ht
   exact⟨o,A3 _ ho,r⟩
  refine A0 (Bf (zJI hlt items.size 0 _ _ ⟨_,Ah _ rfl,rfl,rfl⟩ htp (by omega) fun h₁ hit₁ hs₁=> ?_))
  have j3:List.take items.size (List.drop 0 items.toList)=items.toList:=by rw[Fs];exact Be (by simp)
  rw[j3]
  rw[if_neg (by simp)]
  have ht₁:h₁.IsList t items:=htp.extBut hs₁.extBut hlt
  refine A0 (Bf (Gr hh hit₁ ht₁ (by simp) fun h₂ he₂=> ?_))
  simp only[Option.isSome_none,Ef,if_false]
  refine A8 (hQ h₂ fun b o hb e=>he₂ b o hb (hs₁.extBut b o hb (A3 _ e)))
theorem zFS{env:Env}{i5:List Expr}{x1}{pos:Pos}{t:Addr}{items:Array Value}{Q:Unit->A2->Prop}(hh:A.handled=none)(ht:s.heap.IsList t items)
  (hn:(assignEach i5 env).length=items.size) (m9:(assignEach i5 env).findIdx? (·.1)=none)
  (h: ∀h',F9 s.heap.objs.size s.heap h'->wpAny (model prog w) A (assignInOrder ((assignEach i5 env).map (·.2)) items.toList) Q E {s with heap:=h'}):
  wpAny (model prog w) A (assign (.Tuple i5 x1 pos) env (.ref t)) Q E s:=by
 rw[assign_Tuple]
 refine A0 (E6 ?_)
 unfold unpack
 rw[hn,m9]
 exact A0 (Bf (zG5 hh ht h))
end
section
variable{X:Cx}{pos:Pos}
def gLst(K:A5)(n:Nat)(t:TGs):TG:=fun v σ H Q=> ∃a xs,v= .ref a/\SqL K H a xs/\xs.length=n/\t xs σ H Q
theorem zX4{es:List Expr}{k:Nat}{t:TGs}{n:Nat}(hc:X.calm=true)(h:PGs X es t)
  (hn:(assignEach es X.env).length=n:=by rfl) (hst:(assignEach es X.env).findIdx? (·.1)=none:=by rfl):PG X (.Tuple es k pos) (gLst X.K n t):=by
 intro a5 s σ H v u Q I r hw
 obtain⟨a,xs,e1,hq,hl,hw⟩:=hw
 subst e1
 cases r
 obtain⟨its,rv,ht,hz⟩:=I.list hq
 refine zFS (I.ok.hd hc) ht.isList (by simp[hn,<- hl,rv.length]) hst fun h' hx=> ?_
 have I1:Inv X a5 σ H {s with heap:=h'}:=I.kept (t':=s.toks) fun b o e=>hx b o (As (Ad e)) e
 exact h a5 _ σ H xs _ Q I1 (by simpa using rv) hw
def FnAt(X:Cx)(f:Addr)(sp:Sp):Prop:= ∃(k:Nat) (fd:By) (ps:List Str),FnOk X.prog X.w X.K X.mg X.base CX0 k f fd ps sp/\Room k X.A/\Dr X.K (.ref f)=true/\zG9 X.K fd ps []
def zVN(X:Cx)(tf:TE)(t:TA):TE:=fun σ H Q=>tf σ H fun x H1=> ∃f sp,x= .ref f/\FnAt X f sp/\t σ H1 fun vs H2=>sp vs H2 Q E0
theorem zQT{x:Str}{p pos:Pos}{e:Expr}{es:List Expr}{tf:TE}{t:TA}(hf:PE X (.Name x p) tf)(ha:PA X (e::es) t)
  (he:starEach (e::es) X.env=(false,eval e X.env)::starEach es X.env:=by rfl) (hpl:(Cj pos (starEach es X.env)).any (·.1)=false:=by rfl):
  PE X (.Call (.Name x p) (e::es) [] pos) (zVN X tf t):=by
 intro a5 s σ H Q I h
 refine Cb (thn (hf a5 s σ H _ I h) fun u s1 ⟨x,H1,I1,rx,f,sp,ex,F,q⟩=> ?_)
 subst ex
 obtain rfl:u=Au f:=rx
 obtain⟨k,fd,ps,F,hr,hk,hb⟩:=F
 refine Gs (h₀:=X.base) I.ok.mod.kin hk (thn (ha pos a5 s1 σ H1 _ I1 q) fun us s2 ⟨vs,H2,I2,r,q2⟩=>⟨I2.kIn,?_⟩) he hpl
 refine zRU (dvs:=[]) (ds:=[]) F hr hb .nil zTR I2 r ?_
 rw[Bp]
 exact q2
end
section
variable{X:Cx}{K:A5}
theorem yC8(h:X.K=K):zC8 X (.type "list") (fun xs H Q=> ∃p ys,xs=[.ref p]/\(SqL K H p ys∨SqT K H p ys)/\ ∀l,H l=none->Q (.ref l) (upd H l (.lst ys))):=by subst h;exact zJO
theorem zYX(h:X.K=K):zC8 X (.type "tuple") (fun xs H Q=> ∃p ys,xs=[.ref p]/\((SqL K H p ys/\ ∀l,H l=none->Q (.ref l) (upd H l (.tup ys)))∨(SqT K H p ys/\Q (.ref p) H))):=by subst h;exact zIC
theorem kEqD(h:X.K=K)(hu:X.A.units+64<cLine):OpR X (Bl .Eq) (rEqD K):=by subst h;exact zXE hu
theorem kNeD(h:X.K=K)(hu:X.A.units+64<cLine):OpR X (Bl .NotEq) (rNeD K):=by subst h;exact zXB hu
theorem zU5(h:X.K=K){es:List Expr}{k:Nat}{t:TGs}{n:Nat}{pos:Pos}(hc:X.calm=true)(hg:PGs X es t)(hn:(assignEach es X.env).length=n:=by rfl)(hst:(assignEach es X.env).findIdx? (·.1)=none:=by rfl):PG X (.Tuple es k pos) (gTup K n t):=by subst h;exact zX2 hc hg hn hst
theorem yC6(h:X.K=K){es:List Expr}{k:Nat}{t:TGs}{n:Nat}{pos:Pos}(hc:X.calm=true)(hg:PGs X es t)(hn:(assignEach es X.env).length=n:=by rfl)(hst:(assignEach es X.env).findIdx? (·.1)=none:=by rfl):PG X (.Tuple es k pos) (gLst K n t):=by subst h;exact zX4 hc hg hn hst
theorem zYR(h:X.K=K){tg l:Expr}{tl:TE}(hl:PE X l tl):PI X tg l (zZ2 K tl):=by subst h;exact zTL hl
theorem yC5(h:X.K=K){tg l:Expr}{tl:TE}(hl:PE X l tl):PI X tg l (iTup K tl):=by subst h;exact zX1 hl
theorem kBm(h:X.K=K){o e:Expr}{es:List Expr}{to:TE}{t:TA}{name:Str}{ak aa:Pos}{T id:String}{r:V->List V->Hp->VK->Prop}(pa:PlainAttrs T)(slot:Slot T name id)(hty:J8 (.builtin id)=pure (.type "method_descriptor")) (hm:MtR X id r) (ho:PE X o to) (ha:PA X (e::es) t)
  (bn : Ec o name X.env (eval o X.env) = eval o X.env := by rfl)
  (dh : ((Cj aa (starEach (e :: es) X.env)).all (fun x => !x.1) && (Ij aa (F6 [] X.env)).all (fun x => x.1.isSome)
   && decide ((e::es).length+([]:List F7).length+(if([]:List F7).isEmpty then 0 else 1)<30))=true:=by rfl)
  (bj:(ak.endLine==aa.line)=true:=by rfl) (hs:starEach (e::es) X.env=(false,eval e X.env)::starEach es X.env:=by rfl) (ay:(Cj aa (starEach es X.env)).any (·.1)=false:=by rfl):
  PE X (.Call (.Attribute o name ak) (e::es) [] aa) (tBM K T r to t):=by
 subst h;exact yB4 pa slot hty hm ho ha bn dh bj hs ay
end
theorem zZD:Av "len"=some (.builtin "len"):=by decide+kernel
theorem zSH:Av "min"=some (.builtin "min"):=by decide+kernel
theorem zSI:Av "max"=some (.builtin "max"):=by decide+kernel
theorem zAQ:Av "isinstance"=some (.builtin "isinstance"):=by decide+kernel
theorem zKS:Av "list"=some (.type "list"):=by decide+kernel
theorem zCP:Av "tuple"=some (.type "tuple"):=by decide+kernel
theorem zUO:Av "bool"=some (.type "bool"):=by decide+kernel
theorem zZE:Av "int"=some (.type "int"):=by decide+kernel
theorem zPO:Av "str"=some (.type "str"):=by decide+kernel
structure Def(P:Al)(w:World)(K:A5)(mg:Str->Option Value)(base:Heap)(x:Str)(k:Nat)(ps:List Str)(sp:Sp)(f:Addr):Prop where
 at_:mg x=some (.ref f)
 ok: ∃fd,FnOk P w K mg base CX0 k f fd ps sp/\zG9 K fd ps []
 kp:Dr K (.ref f)=true
section
variable{X:Cx}{x:Str}{k j:Nat}{ps:List Str}{sp:Sp}{f:Addr}{p pos:Pos}{e:Expr}{es:List Expr}{t:TA}
theorem zLC(D:Def X.prog X.w X.K X.mg X.base x k ps sp f)(hr:Room j X.A)(hk:k<=j)(hg:Gl X x)(ha:PA X (e::es) t)(hdb:(x==("__debug__":Str))=false:=by decide)
  (he:starEach (e::es) X.env=(false,eval e X.env)::starEach es X.env:=by rfl) (hpl:(Cj pos (starEach es X.env)).any (·.1)=false:=by rfl):
  PE X (.Call (.Name x p) (e::es) [] pos) (zQA sp [] E0 t):=by
 obtain⟨fd,F,B⟩:=D.ok
 exact zO2 F (hr.mono hk) hg D.at_ D.kp B .nil zTR ha hdb he hpl
theorem Def.fnAt(D:Def X.prog X.w X.K X.mg X.base x k ps sp f)(hr:Room j X.A)(hk:k<=j):FnAt X f sp:=by
 obtain⟨fd,F,B⟩:=D.ok
 exact⟨k,fd,ps,F,hr.mono hk,D.kp,B⟩
end
theorem zA9{H:Hp}{p:Addr}{o:HO}(hp:H p=none):Same H (upd H p o):=fun b o' e=>by
 rw[zAX (zCQ e hp)]
 exact e
theorem zK7(ns:List Int):Cf (.list (ns.map Iy))=true:=by
 have h1:Dx (.list (ns.map Iy))=true:=by simp only[Dx,canLayAll_ints]
 have h2:Fo (.list (ns.map Iy))<=64:=by
  simp only[Fo,depthAll_ints]
  decide
 unfold Cf
 rw[h1,decide_eq_true h2]
 rfl
inductive Dat where
 |non|bl (b:Bool)|int (i:Int)|str (x:Str)|ty (n:String)|fn (x:Str)|tup (ds:List Dat)|lst (ds:List Dat)|dct (ks:List Key) (ds:List Dat)|exn (x:Str)
def FzL(K:A5)(H:Hp)(a:Addr)(xs:List V):Prop:=
 (∃o,H a=some (.frz o (.lst xs)))∨
  ∃(o:Obj) (its:Array Value) (n:Nat),K.lookup a=some o/\o.cls= .type "list" /\o.dict=none/\o.data= .seq its n/\its.size<=sizeLine/\Vals xs its.toList
theorem FzL.sq{K:A5}{H:Hp}{a:Addr}{xs:List V}(h:FzL K H a xs):SqL K H a xs:=by
 rcases h with⟨o,h⟩|h
 ·exact .inl (.inr ⟨o,h⟩)
 ·exact .inr h
def zRH(h:Heap)(a C:Addr):Prop:= ∃o vs,h.get? a=some o/\o.cls= .ref C/\o.data= .fields vs
mutual
inductive Rep(K:A5)(N:Addr->Prop)(H:Hp):(Addr->Prop)->V->Dat->Prop
 |non {M:Addr->Prop}:Rep K N H M .non .non
 |bl {M:Addr->Prop} (b:Bool):Rep K N H M (.bl b) (.bl b)
 |int {M:Addr->Prop} (i:Int):Rep K N H M (.int i) (.int i)
 |str {M:Addr->Prop} (x:Str):Rep K N H M (.str x) (.str x)
 |ty {M:Addr->Prop} (n:String):Rep K N H M (.ty n) (.ty n)
 |fn {M:Addr->Prop} {a:Addr} {x:Str}:Dy K mainGlobals x=some (some (.ref a))->Rep K N H M (.ref a) (.fn x)
 |tup {M:Addr->Prop} {a:Addr} {xs:List V} {ds:List Dat}:SqT K H a xs->RepA K N H xs ds->Rep K N H M (.ref a) (.tup ds)
 |lst {M:Addr->Prop} {a:Addr} {xs:List V} {ds:List Dat}:H a=some (.lst xs)-> ¬M a->RepA K N H xs ds->Rep K N H M (.ref a) (.lst ds)
 |fzl {M:Addr->Prop} {a:Addr} {xs:List V} {ds:List Dat}:FzL K H a xs->RepA K N H xs ds->Rep K N H M (.ref a) (.lst ds)
 |dct {M:Addr->Prop} {a:Addr} {kvs:List (Key×V)} {ds:List Dat}:H a=some (.dK kvs)-> ¬M a->RepA K N H (kvs.map Ew) ds->Rep K N H M (.ref a) (.dct (kvs.map Ex) ds)
 |ktb {M:Addr->Prop} {a:Addr} {D:List (Str×V)} {ds:List Dat}:KTab K a D->RepA K N H (D.map Ew) ds->Rep K N H M (.ref a) (.dct (D.map fun p=> .inr p.1) ds)
 |exn {M:Addr->Prop} {a C:Addr} {x:Str} {φ:Heap->Prop}:Dy K mainGlobals x=some (some (.ref C))->H a=some (.ext φ)->(∀h,φ h->zRH h a C)->Rep K N H M (.ref a) (.exn x)
inductive RepA(K:A5)(N:Addr->Prop)(H:Hp):List V->List Dat->Prop
 |nil:RepA K N H [] []
 |cons {v:V} {vs:List V} {d:Dat} {ds:List Dat}:Rep K N H N v d->RepA K N H vs ds->RepA K N H (v::vs) (d::ds)
end
def Hard:HO->Prop
 | .tup _=>True
 | .frz _ _=>True
 | .ext _=>True
 |_=>False
def Fr(P:Addr->Prop)(H H':Hp):Prop:= ∀b o,H b=some o->(P b->Hard o)->H' b=some o
theorem Fr.refl(P:Addr->Prop)(H:Hp):Fr P H H:=fun _ _ h _=>h
theorem Fr.trans{P:Addr->Prop}{H H1 H2:Hp}(a:Fr P H H1)(b:Fr P H1 H2):Fr P H H2:=fun c o h n=>b c o (a c o h n) n
theorem Fr.mono{P P':Addr->Prop}{H H':Hp}(a:Fr P H H')(h: ∀b,P b->P' b):Fr P' H H':=fun c o e n=>a c o e fun z=>n (h c z)
theorem Same.fr{P:Addr->Prop}{H H':Hp}(a:Same H H'):Fr P H H':=fun c o h _=>a c o h
section
variable{K:A5}{N N' M M' P:Addr->Prop}{H H':Hp}
theorem Fr.tup(f:Fr P H H'){a:Addr}{xs:List V}(h:SqT K H a xs):SqT K H' a xs:=by
 rcases h with(h|⟨o,h⟩)|h
 ·exact .inl (.inl (f _ _ h fun _=>trivial))
 ·exact .inl (.inr ⟨o,f _ _ h fun _=>trivial⟩)
 ·exact .inr h
theorem Fr.fzl(f:Fr P H H'){a:Addr}{xs:List V}(h:FzL K H a xs):FzL K H' a xs:=by
 rcases h with⟨o,h⟩|h
 ·exact .inl ⟨o,f _ _ h fun _=>trivial⟩
 ·exact .inr h
mutual
theorem Rep.fr(f:Fr P H H')(hN: ∀a,P a->N a): ∀{M:Addr->Prop} {v:V} {d:Dat},(∀a,P a->M a)->Rep K N H M v d->Rep K N H' M v d
 |_,_,_,_,.non=> .non
 |_,_,_,_,.bl b=> .bl b
 |_,_,_,_,.int i=> .int i
 |_,_,_,_,.str x=> .str x
 |_,_,_,_,.ty n=> .ty n
 |_,_,_,_,.fn h=> .fn h
 |_,_,_,_,.tup q r=> .tup (f.tup q) (RepA.fr f hN r)
 |_,_,_,hM,.lst q n r=> .lst (f _ _ q fun z=>absurd (hM _ z) n) n (RepA.fr f hN r)
 |_,_,_,_,.fzl q r=> .fzl (f.fzl q) (RepA.fr f hN r)
 |_,_,_,hM,.dct q n r=> .dct (f _ _ q fun z=>absurd (hM _ z) n) n (RepA.fr f hN r)
 |_,_,_,_,.ktb q r=> .ktb q (RepA.fr f hN r)
 |_,_,_,_,.exn p q r=> .exn p (f _ _ q fun _=>trivial) r
theorem RepA.fr(f:Fr P H H')(hN: ∀a,P a->N a): ∀{vs:List V} {ds:List Dat},RepA K N H vs ds->RepA K N H' vs ds
 |_,_,.nil=> .nil
 |_,_,.cons h t=> .cons (Rep.fr f hN hN h) (RepA.fr f hN t)
end
mutual
theorem Rep.mono(hN: ∀a,N' a->N a): ∀{M M':Addr->Prop} {v:V} {d:Dat},(∀a,M' a->M a)->Rep K N H M v d->Rep K N' H M' v d
 |_,_,_,_,_,.non=> .non
 |_,_,_,_,_,.bl b=> .bl b
 |_,_,_,_,_,.int i=> .int i
 |_,_,_,_,_,.str x=> .str x
 |_,_,_,_,_,.ty n=> .ty n
 |_,_,_,_,_,.fn h=> .fn h
 |_,_,_,_,_,.tup q r=> .tup q (RepA.mono hN r)
 |_,_,_,_,hM,.lst q n r=> .lst q (fun z=>n (hM _ z)) (RepA.mono hN r)
 |_,_,_,_,_,.fzl q r=> .fzl q (RepA.mono hN r)
 |_,_,_,_,hM,.dct q n r=> .dct q (fun z=>n (hM _ z)) (RepA.mono hN r)
 |_,_,_,_,_,.ktb q r=> .ktb q (RepA.mono hN r)
 |_,_,_,_,_,.exn p q r=> .exn p q r
theorem RepA.mono(hN: ∀a,N' a->N a): ∀{vs:List V} {ds:List Dat},RepA K N H vs ds->RepA K N' H vs ds
 |_,_,.nil=> .nil
 |_,_,.cons h t=> .cons (Rep.mono hN hN h) (RepA.mono hN t)
end
theorem Rep.same(f:Same H H'){v:V}{d:Dat}(h:Rep K N H M v d):Rep K N H' M v d:=h.fr f.fr (fun _ z=>z.elim) (P:=fun _=>False) fun _ z=>z.elim
theorem RepA.same(f:Same H H'){vs:List V}{ds:List Dat}(h:RepA K N H vs ds):RepA K N H' vs ds:=h.fr f.fr (P:=fun _=>False) fun _ z=>z.elim
theorem RepA.length: ∀{vs:List V} {ds:List Dat},RepA K N H vs ds->vs.length=ds.length
 |_,_,.nil=>rfl
 |_,_,.cons _ t=>congrArg (· +1) (RepA.length t)
theorem RepA.append: ∀{vs ws:List V} {ds es:List Dat},RepA K N H vs ds->RepA K N H ws es->RepA K N H (vs++ws) (ds++es)
 |_,_,_,_,.nil,s=>s
 |_,_,_,_,.cons h t,s=> .cons h (RepA.append t s)
theorem RepA.get: ∀{vs:List V} {ds:List Dat} {i:Nat} {d:Dat},RepA K N H vs ds->ds[i]? =some d-> ∃v,vs[i]? =some v/\Rep K N H N v d
 |_,_,_,_,.nil,e=>by simp at e
 |_,_,0,_,.cons r _,e=>by simp at e;subst e;exact⟨_,rfl,r⟩
 |_,_,i+1,x,.cons _ t,e=>by
  obtain⟨u,h1,h2⟩:=RepA.get (i:=i) (d:=x) t (by simpa using e)
  exact⟨u,by simpa using h1,h2⟩
theorem RepA.take: ∀{vs:List V} {ds:List Dat} (n:Nat),RepA K N H vs ds->RepA K N H (vs.take n) (ds.take n)
 |_,_,0,_=> .nil
 |_,_,_+1,.nil=> .nil
 |_,_,n+1,.cons r t=> .cons r (RepA.take n t)
theorem RepA.drop: ∀{vs:List V} {ds:List Dat} (n:Nat),RepA K N H vs ds->RepA K N H (vs.drop n) (ds.drop n)
 |_,_,0,r=>r
 |_,_,_+1,.nil=> .nil
 |_,_,n+1,.cons _ t=>RepA.drop n t
theorem RepA.set{v:V}{d:Dat}(h:Rep K N H N v d): ∀{vs:List V} {ds:List Dat} (i:Nat),RepA K N H vs ds->RepA K N H (vs.set i v) (ds.set i d)
 |_,_,_,.nil=> .nil
 |_,_,0,.cons _ t=> .cons h t
 |_,_,i+1,.cons q t=> .cons q (RepA.set h i t)
theorem RepA.snoc{vs:List V}{ds:List Dat}{v:V}{d:Dat}(r:RepA K N H vs ds)(h:Rep K N H N v d):RepA K N H (vs++[v]) (ds++[d]):=r.append (.cons h .nil)
end
mutual
def Dat.isD:Dat->Bool
 | .non=>true
 | .bl _=>true
 | .int _=>true
 | .str _=>true
 | .ty _=>false
 | .fn _=>false
 | .tup ds=>isDs ds
 | .lst ds=>isDs ds
 | .dct _ _=>false
 | .exn _=>false
def isDs:List Dat->Bool
 |[]=>true
 |d::ds=>d.isD && isDs ds
end
mutual
def Dat.pd:Dat->Hr
 | .non=> .none
 | .bl b=> .bool b
 | .int i=> .int i
 | .str x=> .str x
 | .ty _=> .none
 | .fn _=> .none
 | .tup ds=> .tuple (pds ds)
 | .lst ds=> .list (pds ds)
 | .dct _ _=> .none
 | .exn _=> .none
def pds:List Dat->List Hr
 |[]=>[]
 |d::ds=>d.pd::pds ds
end
mutual
def Dat.hard:Dat->Bool
 | .tup ds=>zHD ds
 | .lst _=>false
 | .dct _ _=>false
 |_=>true
def zHD:List Dat->Bool
 |[]=>true
 |d::ds=>d.hard && zHD ds
end
section
variable{K:A5}{N:Addr->Prop}{H:Hp}
mutual
theorem Rep.dp: ∀{M:Addr->Prop} {v:V} {d:Dat},Rep K N H M v d->d.isD=true->Dp K H v d.pd
 |_,_,_,.non,_=> .non
 |_,_,_,.bl b,_=> .bl b
 |_,_,_,.int i,_=> .int i
 |_,_,_,.str x,_=> .str x
 |_,_,_,.ty n,h=>by simp[Dat.isD] at h
 |_,_,_,.fn _,h=>by simp[Dat.isD] at h
 |_,_,_,.tup q r,h=> .tup q (RepA.dp r (by simpa[Dat.isD] using h))
 |_,_,_,.lst q n r,h=> .lst (SqL.of q) (RepA.dp r (by simpa[Dat.isD] using h))
 |_,_,_,.fzl q r,h=> .lst q.sq (RepA.dp r (by simpa[Dat.isD] using h))
 |_,_,_,.dct _ _ _,h=>by simp[Dat.isD] at h
 |_,_,_,.ktb _ _,h=>by simp[Dat.isD] at h
 |_,_,_,.exn _ _ _,h=>by simp[Dat.isD] at h
theorem RepA.dp: ∀{vs:List V} {ds:List Dat},RepA K N H vs ds->isDs ds=true->zKX K H vs (pds ds)
 |_,_,.nil,_=> .nil
 |_,_,.cons h t,e=> .cons (Rep.dp h (by simp[isDs] at e;exact e.1)) (RepA.dp t (by simp[isDs] at e;exact e.2))
end
mutual
theorem Rep.hard{N':Addr->Prop}: ∀{M M':Addr->Prop} {v:V} {d:Dat},Rep K N H M v d->d.hard=true->Rep K N' H M' v d
 |_,_,_,_,.non,_=> .non
 |_,_,_,_,.bl b,_=> .bl b
 |_,_,_,_,.int i,_=> .int i
 |_,_,_,_,.str x,_=> .str x
 |_,_,_,_,.ty n,h=> .ty n
 |_,_,_,_,.fn q,h=> .fn q
 |_,_,_,_,.tup q r,h=> .tup q (RepA.hard r (by simpa[Dat.hard] using h))
 |_,_,_,_,.lst q n r,h=>by simp[Dat.hard] at h
 |_,_,_,_,.fzl q r,h=>by simp[Dat.hard] at h
 |_,_,_,_,.dct _ _ _,h=>by simp[Dat.hard] at h
 |_,_,_,_,.ktb _ _,h=>by simp[Dat.hard] at h
 |_,_,_,_,.exn p q r,_=> .exn p q r
theorem RepA.hard{N':Addr->Prop}: ∀{vs:List V} {ds:List Dat},RepA K N H vs ds->zHD ds=true->RepA K N' H vs ds
 |_,_,.nil,_=> .nil
 |_,_,.cons h t,e=> .cons (Rep.hard h (by simp[zHD] at e;exact e.1)) (RepA.hard t (by simp[zHD] at e;exact e.2))
end
end
inductive Sl where
 |no|va (d:Dat)|ow (d:Dat)
abbrev Ev:=List Sl
structure Bs where
 Z:Addr->Prop
 P:Addr->Prop
 H0:Hp
 mu:Nat->Option Addr
 kp:List (V×Dat)
def Nn(B:Bs)(O:Nat->Option Addr):Addr->Prop:=fun a=>B.Z a∨ ∃i,O i=some a
def OA(O:Nat->Option Addr):Addr->Prop:=fun a=> ∃i,O i=some a
inductive Own(K:A5)(N:Addr->Prop)(H:Hp)(a:Addr):Dat->Prop
 |lst {xs:List V} {ds:List Dat}:H a=some (.lst xs)->RepA K N H xs ds->Own K N H a (.lst ds)
 |dct {kvs:List (Key×V)} {ds:List Dat}:H a=some (.dK kvs)->RepA K N H (kvs.map Ew) ds->Own K N H a (.dct (kvs.map Ex) ds)
theorem Own.fr{K:A5}{N P:Addr->Prop}{H H':Hp}{a:Addr}{d:Dat}(f:Fr P H H')(hN: ∀a,P a->N a)(ha: ¬P a):Own K N H a d->Own K N H' a d
 | .lst q r=> .lst (f _ _ q fun z=>absurd z ha) (r.fr f hN)
 | .dct q r=> .dct (f _ _ q fun z=>absurd z ha) (r.fr f hN)
theorem Own.mono{K:A5}{N N':Addr->Prop}{H:Hp}{a:Addr}{d:Dat}(h: ∀b,N' b->N b):Own K N H a d->Own K N' H a d
 | .lst q r=> .lst q (r.mono h)
 | .dct q r=> .dct q (r.mono h)
theorem Own.soft{K:A5}{N:Addr->Prop}{H:Hp}{a:Addr}{d:Dat}(h:Own K N H a d): ∃o,H a=some o/\¬Hard o:=by
 cases h with
 |lst q _=>exact⟨_,q,fun z=>z⟩
 |dct q _=>exact⟨_,q,fun z=>z⟩
theorem Own.rep{K:A5}{N M:Addr->Prop}{H:Hp}{a:Addr}{d:Dat}(h:Own K N H a d)(hM: ¬M a):Rep K N H M (.ref a) d:=by
 cases h with
 |lst q r=>exact .lst q hM r
 |dct q r=>exact .dct q hM r
structure Sta(K:A5)(ml:List Nat)(B:Bs)(O:Nat->Option Addr)(H:Hp)(σ:St)(δ:Ev):Prop where
 len:σ.length=δ.length
 va: ∀(i:Nat) (d:Dat),δ[i]? =some (Sl.va d)-> ∃v,σ[i]? =some (some v)/\Rep K (Nn B O) H (Nn B O) v d
 ow: ∀(i:Nat) (d:Dat),δ[i]? =some (Sl.ow d)-> ∃a,O i=some a/\σ[i]? =some (some (.ref a))/\Own K (Nn B O) H a d
 dom: ∀(i:Nat) a,O i=some a-> ∃d,δ[i]? =some (Sl.ow d)
 inj: ∀i j a,O i=some a->O j=some a->i=j
 old: ∀i a,O i=some a-> ¬B.Z a/\(B.P a∨B.H0 a=none)
 zin: ∀a,B.Z a-> ∃o,H a=some o
 frm:Fr B.P B.H0 H
 par:(∀i a,B.mu i=some a->i∈ml)/\ ∀i∈ml,O i=B.mu i
 pin: ∀a,B.P a-> ∃o,H a=some o
 kep: ∀p∈B.kp,Rep K (Nn B O) H (Nn B O) p.1 p.2
section
variable{K:A5}{ml:List Nat}{B:Bs}{O:Nat->Option Addr}{H H':Hp}{σ:St}{δ δ':Ev}
theorem Sta.nin(S:Sta K ml B O H σ δ){a:Addr}(h:Nn B O a): ∃o,H a=some o:=by
 rcases h with h|⟨i,h⟩
 ·exact S.zin a h
 ·obtain⟨d,e⟩:=S.dom i a h
  obtain⟨a',e1,_,w⟩:=S.ow i d e
  rw[h] at e1
  cases e1
  obtain⟨o,q,_⟩:=w.soft
  exact⟨o,q⟩
theorem Sta.new(S:Sta K ml B O H σ δ){a:Addr}(h:H a=none): ¬Nn B O a:=fun z=>by
 obtain⟨o,q⟩:=S.nin z
 rw[h] at q
 cases q
theorem Sta.same(S:Sta K ml B O H σ δ)(f:Same H H'):Sta K ml B O H' σ δ where
 len:=S.len
 va:=fun i d e=>let ⟨v,a,b⟩:=S.va i d e;⟨v,a,b.same f⟩
 ow:=fun i d e=>let ⟨a,b,c,w⟩:=S.ow i d e;⟨a,b,c,w.fr (P:=fun _=>False) f.fr (fun _ z=>z.elim) fun z=>z⟩
 dom:=S.dom
 inj:=S.inj
 old:=S.old
 zin:=fun a h=>let ⟨o,q⟩:=S.zin a h;⟨o,f _ _ q⟩
 frm:=S.frm.trans f.fr
 par:=S.par
 pin:=fun a h=>let ⟨o,q⟩:=S.pin a h;⟨o,f _ _ q⟩
 kep:=fun p h=>(S.kep p h).same f
theorem Sta.fresh(S:Sta K ml B O H σ δ){a:Addr}(h:H a=none):B.H0 a=none:=by
 cases q:B.H0 a with
 | none => rfl
 |some o=>
  by_cases hp:B.P a
  ·obtain⟨o',e⟩:=S.pin a hp
   rw[h] at e
   cases e
  ·have := S.frm a o q fun z => absurd z hp
   rw[h] at this
   cases this
def Bs.add(B:Bs)(p:Addr):Bs:={B with Z:=fun a=>B.Z a∨a=p}
theorem zGU{p:Addr}: ∀a,Nn B O a->Nn (B.add p) O a:=fun a h=>by
 rcases h with h|h
 ·exact .inl (.inl h)
 ·exact .inr h
mutual
theorem Rep.away{p:Addr}(hp:H p=none)(N N':Addr->Prop)(hN: ∀a,N' a->N a∨a=p): ∀{M M':Addr->Prop} {v:V} {d:Dat},(∀a,M' a->M a∨a=p)->Rep K N H M v d->Rep K N' H M' v d
 |_,_,_,_,_,.non=> .non
 |_,_,_,_,_,.bl b=> .bl b
 |_,_,_,_,_,.int i=> .int i
 |_,_,_,_,_,.str x=> .str x
 |_,_,_,_,_,.ty n=> .ty n
 |_,_,_,_,_,.fn h=> .fn h
 |_,_,_,_,_,.tup q r=> .tup q (RepA.away hp N N' hN r)
 |_,_,_,_,hM,.lst q n r=> .lst q (fun z=>by rcases hM _ z with z|z;exact n z;rw[z,hp] at q;cases q) (RepA.away hp N N' hN r)
 |_,_,_,_,_,.fzl q r=> .fzl q (RepA.away hp N N' hN r)
 |_,_,_,_,hM,.dct q n r=> .dct q (fun z=>by rcases hM _ z with z|z;exact n z;rw[z,hp] at q;cases q) (RepA.away hp N N' hN r)
 |_,_,_,_,_,.ktb q r=> .ktb q (RepA.away hp N N' hN r)
 |_,_,_,_,_,.exn p q r=> .exn p q r
theorem RepA.away{p:Addr}(hp:H p=none)(N N':Addr->Prop)(hN: ∀a,N' a->N a∨a=p): ∀{vs:List V} {ds:List Dat},RepA K N H vs ds->RepA K N' H vs ds
 |_,_,.nil=> .nil
 |_,_,.cons h t=> .cons (Rep.away hp N N' hN hN h) (RepA.away hp N N' hN t)
end
theorem zEM{p:Addr}: ∀a,Nn (B.add p) O a->Nn B O a∨a=p:=fun a h=>by
 rcases h with(h|h)|h
 ·exact .inl (.inl h)
 ·exact .inr h
 ·exact .inl (.inr h)
theorem Sta.laid(S:Sta K ml B O H σ δ){p:Addr}{o:HO}(hp:H p=none):Sta K ml (B.add p) O (upd H p o) σ δ where
 len:=S.len
 va:=fun i d e=>let ⟨v,a,b⟩:=S.va i d e;⟨v,a,(b.away hp _ _ zEM zEM).same (zA9 hp)⟩
 ow:=fun i d e=>by
  obtain⟨a,b,c,w⟩:=S.ow i d e
  refine⟨a,b,c,?_⟩
  have hne: ∀o,H a=some o->upd H p o=upd H p o:=fun _ _=>rfl
  cases w with
  |lst q r=>exact .lst (zA9 hp _ _ q) ((r.away hp _ _ zEM).same (zA9 hp))
  |dct q r=>exact .dct (zA9 hp _ _ q) ((r.away hp _ _ zEM).same (zA9 hp))
 dom:=S.dom
 inj:=S.inj
 old:=fun i a h=>by
  refine⟨fun z=> ?_,(S.old i a h).2⟩
  rcases z with z|z
  ·exact(S.old i a h).1 z
  ·obtain⟨o,q⟩:=S.nin (.inr ⟨i,h⟩)
   rw[z,hp] at q
   cases q
 zin:=fun a h=>by
  rcases h with h|h
  ·obtain⟨o,q⟩:=S.zin a h
   exact⟨o,zA9 hp _ _ q⟩
  ·exact⟨_,by rw[h];exact zAR⟩
 frm:=S.frm.trans (zA9 hp).fr
 par:=S.par
 pin:=fun a h=>let ⟨o,q⟩:=S.pin a h;⟨o,zA9 hp _ _ q⟩
 kep:=fun p h=>((S.kep p h).away hp _ _ zEM zEM).same (zA9 hp)
theorem zJ5{i:Nat}{o:Option Addr}: ∀a,Nn B (fun j=>if j=i then none else O j) a->Nn B O a:=fun a h=>by
 rcases h with h|⟨j,h⟩
 ·exact .inl h
 ·refine .inr ⟨j,?_⟩
  by_cases hj:j=i
  ·simp[hj] at h
  ·simpa[hj] using h
theorem zFG{α:Type}{l:List α}{i j:Nat}{x y:α}(h:(l.set i x)[j]? =some y):(j=i/\y=x/\i<l.length)∨(j≠i/\l[j]? =some y):=by
 by_cases hj:j=i
 ·subst hj
  rw[List.getElem?_set_self'] at h
  cases q:l[j]? with
  |none=>rw[q] at h;cases h
  |some z=>
   rw[q] at h
   cases h
   exact .inl ⟨rfl,rfl,(A6.mp q).1⟩
 ·rw[Ax (C2 hj)] at h
  exact .inr ⟨hj,h⟩
theorem Sta.setVa(S:Sta K ml B O H σ δ){i:Nat}{v:V}{d:Dat}(hm:i∉ml)(h:Rep K (Nn B O) H (Nn B O) v d):Sta K ml B (fun j=>if j=i then none else O j) H (σ.set i (some v)) (δ.set i (.va d)) where
 len:=by rw[B8,B8,S.len]
 va:=fun j e q=>by
  rcases zFG q with⟨rfl,z,hl⟩|⟨hj,q⟩
  ·cases z
   exact⟨v,by rw[Br (by rw[S.len];exact hl)],h.mono (zJ5 (o:=none)) (zJ5 (o:=none))⟩
  ·obtain⟨u,e1,r⟩:=S.va j e q
   exact⟨u,by rw[Ax (C2 hj)];exact e1,r.mono (zJ5 (o:=none)) (zJ5 (o:=none))⟩
 ow:=fun j e q=>by
  rcases zFG q with⟨rfl,z,hl⟩|⟨hj,q⟩
  ·cases z
  ·obtain⟨a,e1,e2,w⟩:=S.ow j e q
   exact⟨a,by simpa[hj] using e1,by rw[Ax (C2 hj)];exact e2,w.mono (zJ5 (o:=none))⟩
 dom:=fun j a e=>by
  by_cases hj:j=i
  ·simp[hj] at e
  ·obtain ⟨d,q⟩ := S.dom j a (by simpa [hj] using e)
   exact⟨d,by rw[Ax (C2 hj)];exact q⟩
 inj:=fun j k a e1 e2=>by
  by_cases hj:j=i
  ·simp[hj] at e1
  ·by_cases hk:k=i
   ·simp[hk] at e2
   ·exact S.inj j k a (by simpa[hj] using e1) (by simpa[hk] using e2)
 old:=fun j a e=>by
  by_cases hj:j=i
  ·simp[hj] at e
  ·exact S.old j a (by simpa[hj] using e)
 zin:=S.zin
 frm:=S.frm
 par:=⟨S.par.1,fun j hj=>by
  have hne:j≠i:=fun z=>hm (z▸hj)
  have h2:O j=B.mu j:=S.par.2 j hj
  simpa[hne] using h2⟩
 pin:=S.pin
 kep:=fun p hp=>(S.kep p hp).mono (zJ5 (o:=none)) (zJ5 (o:=none))
theorem zHM{i:Nat}{p:Addr}: ∀a,Nn B (fun j=>if j=i then some p else O j) a->Nn (B.add p) O a:=fun a h=>by
 rcases h with h|⟨j,h⟩
 ·exact .inl (.inl h)
 ·by_cases hj:j=i
  ·simp[hj] at h
   exact .inl (.inr h.symm)
  ·exact .inr ⟨j,by simpa[hj] using h⟩
theorem Sta.setOw{p:Addr}(S:Sta K ml (B.add p) O H σ δ){i:Nat}{d:Dat}(hm:i∉ml)(hl:i<δ.length)(hz: ¬B.Z p)(h0:B.H0 p=none)(h:Own K (Nn (B.add p) O) H p d):
  Sta K ml B (fun j=>if j=i then some p else O j) H (σ.set i (some (.ref p))) (δ.set i (.ow d)) where
 len:=by rw[B8,B8,S.len]
 va := fun j e q => by
  rcases zFG q with⟨rfl,z,_⟩|⟨hj,q⟩
  ·cases z
  ·obtain⟨u,e1,r⟩:=S.va j e q
   exact⟨u,by rw[Ax (C2 hj)];exact e1,r.mono zHM zHM⟩
 ow := fun j e q => by
  rcases zFG q with⟨rfl,z,hl⟩|⟨hj,q⟩
  ·cases z
   exact⟨p,by simp,by rw[Br (by rw[S.len];exact hl)],h.mono zHM⟩
  ·obtain⟨a,e1,e2,w⟩:=S.ow j e q
   exact⟨a,by simpa[hj] using e1,by rw[Ax (C2 hj)];exact e2,w.mono zHM⟩
 dom:=fun j a e=>by
  by_cases hj:j=i
  ·subst hj
   exact⟨d,by rw[Br hl]⟩
  ·obtain ⟨d,q⟩ := S.dom j a (by simpa [hj] using e)
   exact⟨d,by rw[Ax (C2 hj)];exact q⟩
 inj:=fun j k a e1 e2=>by
  by_cases hj:j=i
  ·by_cases hk:k=i
   ·rw[hj,hk]
   ·simp[hj] at e1
    simp[hk] at e2
    exact absurd (.inr e1.symm) (S.old k a e2).1
  ·by_cases hk:k=i
   ·simp[hk] at e2
    simp[hj] at e1
    exact absurd (.inr e2.symm) (S.old j a e1).1
   ·exact S.inj j k a (by simpa[hj] using e1) (by simpa[hk] using e2)
 old:=fun j a e=>by
  by_cases hj:j=i
  ·simp[hj] at e
   subst e
   exact⟨hz,.inr h0⟩
  ·have := S.old j a (by simpa [hj] using e)
   exact⟨fun z=>this.1 (.inl z),this.2⟩
 zin:=fun a h=>S.zin a (.inl h)
 frm:=S.frm
 par:=⟨S.par.1,fun j hj=>by
  have hne:j≠i:=fun z=>hm (z▸hj)
  have h2:O j=B.mu j:=S.par.2 j hj
  simpa[hne] using h2⟩
 pin:=S.pin
 kep:=fun p hp=>(S.kep p hp).mono zHM zHM
theorem Sta.wrote(S:Sta K ml B O H σ δ){i:Nat}{a:Addr}{d:Dat}{o:HO}(e:O i=some a)(ho: ¬Hard o)(h:Own K (Nn B O) (upd H a o) a d):Sta K ml B O (upd H a o) σ (δ.set i (.ow d)):=by
 have hf:Fr (fun b=>b=a) H (upd H a o):=fun b u q n=>by
  by_cases hb:b=a
  ·subst hb
   obtain⟨d',q'⟩:=S.dom i b e
   obtain⟨a',e1,_,w⟩:=S.ow i d' q'
   rw[e] at e1
   cases e1
   obtain⟨u',q1,hh⟩:=w.soft
   rw[q] at q1
   cases q1
   exact absurd (n rfl) hh
  ·rw[zAX hb]
   exact q
 have hN: ∀b,b=a->Nn B O b:=fun b z=> .inr ⟨i,z▸e⟩
 have hin: ∀b,(∃u,H b=some u)-> ∃u,upd H a o b=some u:=fun b q0=>by
  obtain⟨u,q⟩:=q0
  by_cases hb:b=a
  ·exact ⟨o,by rw [hb];exact zAR⟩
  ·exact ⟨u,by rw [zAX hb];exact q⟩
 refine⟨by rw[B8,S.len],fun j d' q=> ?_,fun j d' q=> ?_,fun j b q=> ?_,S.inj,S.old,fun b h=>hin b (S.zin b h),?_,S.par,fun b h=>hin b (S.pin b h),fun p hp=>(S.kep p hp).fr hf hN hN⟩
 ·rcases zFG q with⟨_,z,_⟩|⟨hj,q⟩
  ·cases z
  ·obtain⟨v,e1,r⟩:=S.va j d' q
   exact⟨v,e1,r.fr hf hN hN⟩
 ·rcases zFG q with⟨rfl,z,hl⟩|⟨hj,q⟩
  ·cases z
   obtain⟨d0,q0⟩:=S.dom j a e
   obtain⟨a',e1,e2,_⟩:=S.ow j d0 q0
   rw[e] at e1
   cases e1
   exact⟨a,e,e2,h⟩
  ·obtain⟨a',e1,e2,w⟩:=S.ow j d' q
   exact⟨a',e1,e2,w.fr hf hN fun z=>hj (S.inj j i a (z▸e1) e)⟩
 ·by_cases hj:j=i
  ·subst hj
   obtain⟨d0,q0⟩:=S.dom j b q
   exact⟨d,by rw[Br (A6.mp q0).1]⟩
  ·obtain⟨d0,q0⟩:=S.dom j b q
   exact⟨d0,by rw[Ax (C2 hj)];exact q0⟩
 ·intro b u q n
  have h1:=S.frm b u q n
  by_cases hb:b=a
  ·subst hb
   rcases(S.old i b e).2 with z|z
   ·obtain⟨d',q'⟩:=S.dom i b e
    obtain⟨a',e1,_,w⟩:=S.ow i d' q'
    rw[e] at e1
    cases e1
    obtain⟨u',q1,hh⟩:=w.soft
    rw[h1] at q1
    cases q1
    exact absurd (n z) hh
   ·rw[q] at z
    cases z
  ·rw[zAX hb]
   exact h1
theorem Sta.keepV(S:Sta K ml B O H σ δ){ps:List (V×Dat)}(h: ∀p∈ps,Rep K (Nn B O) H (Nn B O) p.1 p.2):Sta K ml {B with kp:=ps++B.kp} O H σ δ:=
 ⟨S.len,S.va,S.ow,S.dom,S.inj,S.old,S.zin,S.frm,S.par,S.pin,fun p hp=>(Bg.mp hp).elim (h p) (S.kep p)⟩
theorem Sta.unkeep{ps:List (V×Dat)}(S:Sta K ml {B with kp:=ps++B.kp} O H σ δ):Sta K ml B O H σ δ:=
 ⟨S.len,S.va,S.ow,S.dom,S.inj,S.old,S.zin,S.frm,S.par,S.pin,fun p hp=>S.kep p (Ap _ hp)⟩
end
def rz(B:Bs):Addr->Prop:=fun a=>B.Z a∨ ∃i,B.mu i=some a
def av(B:Bs)(O:Nat->Option Addr)(b:Bool):Addr->Prop:=if b then Nn B O else fun a=>Nn B O a/\rz B a
def at_(B:Bs)(O:Nat->Option Addr)(b:Bool):Addr->Prop:=if b then Nn B O else fun _=>False
theorem zZI{B:Bs}{O:Nat->Option Addr}{b:Bool}: ∀a,at_ B O b a->av B O b a:=fun a h=>by
 cases b with
 |true=>exact h
 |false=>exact h.elim
theorem zUV{B:Bs}{O:Nat->Option Addr}{b c:Bool}(h:b=true->c=true): ∀a,at_ B O b a->at_ B O c a:=fun a z=>by
 cases b with
 |true=>rw[h rfl];exact z
 |false=>exact z.elim
theorem Sta.rzn{K:A5}{ml:List Nat}{B:Bs}{O:Nat->Option Addr}{H:Hp}{σ:St}{δ:Ev}(S:Sta K ml B O H σ δ): ∀a,rz B a->Nn B O a:=fun a h=>by
 rcases h with h|⟨i,h⟩
 ·exact .inl h
 ·exact .inr ⟨i,(S.par.2 i (S.par.1 i a h)).trans h⟩
theorem Sta.rza{K:A5}{ml:List Nat}{B:Bs}{O:Nat->Option Addr}{H:Hp}{σ:St}{δ:Ev}(S:Sta K ml B O H σ δ){b:Bool}: ∀a,rz B a->av B O b a:=fun a h=>by
 cases b with
 |true=>exact S.rzn a h
 |false=>exact⟨S.rzn a h,h⟩
theorem zHA{B:Bs}{O:Nat->Option Addr}{b c:Bool}(h:b=true->c=true): ∀a,av B O b a->av B O c a:=fun a z=>by
 cases b with
 |true=>rw[h rfl];exact z
 |false=>cases c with
  |true=>exact z.1
  |false=>exact z
structure Res(K:A5)(ml:List Nat)(B:Bs)(O:Nat->Option Addr)(H:Hp)(σ:St)(pu bt bi:Bool)(H':Hp)(δ':Ev)(v:V)(d:Dat):Prop where
 sta:Sta K ml B O H' σ δ'
 frm:Fr (OA O) H H'
 pur:pu=true->Same H H'
 rep:Rep K (av B O bi) H' (at_ B O bt) v d
abbrev VF:=Ev->Option (Dat×Ev)
def TV(K:A5)(ml:List Nat)(pu bt bi:Bool)(f:VF):TE:=fun σ H Q=> ∃B O δ d δ',Sta K ml B O H σ δ/\f δ=some (d,δ')/\ ∀v H',Res K ml B O H σ pu bt bi H' δ' v d->Q v H'
theorem PE.imp{X:Cx}{e:Expr}{t u:TE}(h:PE X e t)(k: ∀σ H Q,u σ H Q->t σ H Q):PE X e u:=fun a5 s σ H Q I w=>h a5 s σ H Q I (k σ H Q w)
theorem PT.imp{X:Cx}{e:Expr}{t u:TT}(h:PT X e t)(k: ∀σ H Q,u σ H Q->t σ H Q):PT X e u:=fun a5 s σ H Q I w=>h a5 s σ H Q I (k σ H Q w)
theorem PW.imp{X:Cx}{e:Expr}{t u:TT}(h:PW X e t)(k: ∀σ H Q,u σ H Q->t σ H Q):PW X e u:=fun az a5 s σ H Q I w=>h az a5 s σ H Q I (k σ H Q w)
theorem PA.imp{X:Cx}{e:List Expr}{t u:TA}(h:PA X e t)(k: ∀σ H Q,u σ H Q->t σ H Q):PA X e u:=fun pos a5 s σ H Q I w=>h pos a5 s σ H Q I (k σ H Q w)
theorem PS.imp{X:Cx}{e:Stmt}{t u:TS}(h:PS X e t)(k: ∀D σ H,u D σ H->t D σ H):PS X e u:=fun a5 s σ H D I w=>h a5 s σ H D I (k D σ H w)
theorem PSs.imp{X:Cx}{e:List Stmt}{t u:TS}(h:PSs X e t)(k: ∀D σ H,u D σ H->t D σ H):PSs X e u:=fun a5 s σ H D I w=>h a5 s σ H D I (k D σ H w)
section
variable{X:Cx}{K:A5}{ml:List Nat}{e a b c:Expr}{pa ta ia pb tb ib pc tc ic:Bool}{fa fb fc:VF}{r:R2}{o:Dat->Dat->Option Dat}{B:Bs}{O:Nat->Option Addr}{H H1 H':Hp}{σ:St}{δ δ':Ev}{v:V}{d:Dat}
noncomputable def fC(d:Dat):VF:=fun δ=>some (d,δ)
theorem Res.refl{pu bt bi:Bool}(S:Sta K ml B O H σ δ)(h:Rep K (av B O bi) H (at_ B O bt) v d):Res K ml B O H σ pu bt bi H δ v d:=⟨S,Fr.refl _ _,fun _=>Same.refl _,h⟩
theorem ve_c(h:PE X e (tC v))(hr: ∀N H M,Rep K N H M v d):PE X e (TV K ml true true true (fC d)):=h.imp fun σ H Q q0=>by
 obtain⟨B,O,δ,d',δ',S,q,k⟩:=q0
 cases q
 exact k v H (Res.refl S (hr _ _ _))
theorem zA2{i j pos}:PE X (.Constant (.int i) j pos) (TV K ml true true true (fC (.int i))):=ve_c zX8 fun _ _ _=> .int i
theorem zC6{i j pos}:PE X (.Constant (.bool i) j pos) (TV K ml true true true (fC (.bl i))):=ve_c yB5 fun _ _ _=> .bl i
theorem zBA{j pos}:PE X (.Constant .none j pos) (TV K ml true true true (fC .non)):=ve_c zX7 fun _ _ _=> .non
theorem zAC{i j pos}:PE X (.Constant (.str i) j pos) (TV K ml true true true (fC (.str i))):=ve_c zRZ fun _ _ _=> .str i
noncomputable def fV(i:Nat):VF:=fun δ=>match δ[i]? with
 |some (.va d)=>some (d,δ)
 |_=>none
noncomputable def fO(i:Nat):VF:=fun δ=>match δ[i]? with
 |some (.va d)=>some (d,δ)
 |some (.ow d)=>some (d,δ)
 |_=>none
theorem zV5{i:Nat}(h:PE X e (tVar i)):PE X e (TV K ml true true true (fV i)):=h.imp fun σ H Q q0=>by
 obtain⟨B,O,δ,d',δ',S,q,k⟩:=q0
 unfold fV at q
 split at q
 ·rename_i d hd
  cases q
  obtain⟨v,e1,r⟩:=S.va i _ hd
  exact⟨v,e1,k v H (Res.refl S r)⟩
 ·cases q
theorem zV6{i:Nat}(h:PE X e (tVar i)):PE X e (TV K ml true false true (fO i)):=h.imp fun σ H Q q0=>by
 obtain⟨B,O,δ,d',δ',S,q,k⟩:=q0
 unfold fO at q
 split at q
 ·rename_i d hd
  cases q
  obtain⟨v,e1,r⟩:=S.va i _ hd
  exact⟨v,e1,k v H (Res.refl S (r.mono (fun _ z=>z) fun a z=>z.elim))⟩
 ·rename_i d hd
  cases q
  obtain⟨a,e1,e2,w⟩:=S.ow i _ hd
  exact⟨.ref a,e2,k _ H (Res.refl S (w.rep fun z=>z))⟩
 ·cases q
theorem Res.live{H2:Hp}{v2:V}{d2:Dat}(R2:Res K ml B O H1 σ pb tb ib H2 δ' v2 d2)(hs:(pb || (ta && ia))=true)(h:Rep K (av B O ia) H1 (at_ B O ta) v d):Rep K (av B O ia) H2 (at_ B O ta) v d:=by
 cases pb with
 |true=>exact h.same (R2.pur rfl)
 |false=>
  have hs:(ta && ia)=true:=by simpa using hs
  obtain⟨h1,h2⟩:=(A1 _ _).mp hs
  subst h1 h2
  exact h.fr R2.frm (fun a z=> .inr z) fun a z=> .inr z
noncomputable def f2(o:Dat->Dat->Option Dat)(fa fb:VF):VF:=fun δ=>(fa δ).bind fun p=>(fb p.2).bind fun q=>(o p.1 q.1).map fun c=>(c,q.2)
theorem zHX{δ2:Ev}(h:f2 o fa fb δ=some (d,δ2)): ∃x δ1 y,fa δ=some (x,δ1)/\fb δ1=some (y,δ2)/\o x y=some d:=by
 unfold f2 at h
 cases h1:fa δ with
 | none => rw [h1] at h;cases h
 |some p=>
  rw[h1] at h
  cases h2:fb p.2 with
  | none => simp [h2] at h
  |some q=>
   simp only[Ae,h2] at h
   cases h3:o p.1 q.1 with
   |none=>rw[h3] at h;cases h
   |some c=>
    rw[h3] at h
    cases h
    exact⟨p.1,p.2,q.1,rfl,h2,h3⟩
def OpS(K:A5)(r:R2)(o:Dat->Dat->Option Dat):Prop:= ∀(H:Hp) (N N' M M':Addr->Prop) (x y:V) (d e c:Dat) (Q:VK),Rep K N H M x d->Rep K N' H M' y e->o d e=some c->(∀v,(∀H' N M,Rep K N H' M v c)->Q v H)->r x y H Q
def OpC(K:A5)(r:R2)(o:Dat->Dat->Option Dat):Prop:= ∀(H:Hp) (N M M':Addr->Prop) (x y:V) (d e c:Dat) (Q:VK),Rep K N H M x d->Rep K N H M' y e->o d e=some c→
 (∀v H',Same H H'->(∀M,(∀a,M a-> ∃o,H a=some o)->Rep K N H' M v c)->Q v H')->r x y H Q
def OpI(K:A5)(r:R2)(o:Dat->Dat->Option Dat):Prop:= ∀(H:Hp) (N N' M M':Addr->Prop) (x y:V) (d e c:Dat) (Q:VK),Rep K N H M x d->Rep K N' H M' y e->o d e=some c->(∀v,Rep K N H N v c->Q v H)->r x y H Q
theorem zMZ(ho:OpS K r o)(hs:(pb || (ta && ia))=true){Q:VK}(h:TV K ml (pa && pb) true true (f2 o fa fb) σ H Q):tOp r (TV K ml pa ta ia fa) (TV K ml pb tb ib fb) σ H Q:=by
 obtain⟨B,O,δ,d,δ2,S,q,k⟩:=h
 obtain⟨x,δ1,y,h1,h2,h3⟩:=zHX q
 refine⟨B,O,δ,x,δ1,S,h1,fun v1 H1 R1=>⟨B,O,δ1,y,δ2,R1.sta,h2,fun v2 H2 R2=> ?_⟩⟩
 exact ho H2 _ _ _ _ v1 v2 x y d Q (R2.live hs R1.rep) R2.rep h3 fun v hv=>k v H2 ⟨R2.sta,R1.frm.trans R2.frm,fun z=>by
  obtain⟨z1,z2⟩:=(A1 _ _).mp z
  exact(R1.pur z1).trans (R2.pur z2),hv _ _ _⟩
theorem zVE(ho:OpC K r o)(hs:(pb || (ta && ia))=true){Q:VK}(h:TV K ml (pa && pb) true (ia && ib) (f2 o fa fb) σ H Q):tOp r (TV K ml pa ta ia fa) (TV K ml pb tb ib fb) σ H Q:=by
 obtain⟨B,O,δ,d,δ2,S,q,k⟩:=h
 obtain⟨x,δ1,y,h1,h2,h3⟩:=zHX q
 refine⟨B,O,δ,x,δ1,S,h1,fun v1 H1 R1=>⟨B,O,δ1,y,δ2,R1.sta,h2,fun v2 H2 R2=> ?_⟩⟩
 have g1: ∀a,av B O (ia && ib) a->av B O ia a:=zHA fun z=>((A1 _ _).mp z).1
 have g2: ∀a,av B O (ia && ib) a->av B O ib a:=zHA fun z=>((A1 _ _).mp z).2
 refine ho H2 (av B O (ia && ib)) _ _ v1 v2 x y d Q ((R2.live hs R1.rep).mono g1 fun _ z=>z) (R2.rep.mono g2 fun _ z=>z) h3 fun v H3 s3 hv=>k v H3 ⟨R2.sta.same s3,(R1.frm.trans R2.frm).trans s3.fr,fun z=> ?_,hv _ fun a z=>R2.sta.nin z⟩
 obtain⟨z1,z2⟩:=(A1 _ _).mp z
 exact((R1.pur z1).trans (R2.pur z2)).trans s3
theorem zVD(ho:OpI K r o)(hs:(pb || (ta && ia))=true){Q:VK}(h:TV K ml (pa && pb) ia ia (f2 o fa fb) σ H Q):tOp r (TV K ml pa ta ia fa) (TV K ml pb tb ib fb) σ H Q:=by
 obtain⟨B,O,δ,d,δ2,S,q,k⟩:=h
 obtain⟨x,δ1,y,h1,h2,h3⟩:=zHX q
 refine⟨B,O,δ,x,δ1,S,h1,fun v1 H1 R1=>⟨B,O,δ1,y,δ2,R1.sta,h2,fun v2 H2 R2=> ?_⟩⟩
 exact ho H2 _ _ _ _ v1 v2 x y d Q (R2.live hs R1.rep) R2.rep h3 fun v hv=>k v H2 ⟨R2.sta,R1.frm.trans R2.frm,fun z=>by
  obtain⟨z1,z2⟩:=(A1 _ _).mp z
  exact(R1.pur z1).trans (R2.pur z2),hv.mono (fun _ z=>z) zZI⟩
theorem zCS{op:Operator}{pos:Pos}(ho:OpR X (D0 op) r)(hv:OpS K r o)(ha:PE X a (TV K ml pa ta ia fa))(hb:PE X b (TV K ml pb tb ib fb))(hs:(pb || (ta && ia))=true:=by rfl):PE X (.BinOp a op b pos) (TV K ml (pa && pb) true true (f2 o fa fb)):=
 (zX5 ho ha hb).imp fun _ _ _ h=>zMZ hv hs h
theorem zAW{op:Operator}{pos:Pos}(ho:OpR X (D0 op) r)(hv:OpC K r o)(ha:PE X a (TV K ml pa ta ia fa))(hb:PE X b (TV K ml pb tb ib fb))(hs:(pb || (ta && ia))=true:=by rfl):PE X (.BinOp a op b pos) (TV K ml (pa && pb) true (ia && ib) (f2 o fa fb)):=
 (zX5 ho ha hb).imp fun _ _ _ h=>zVE hv hs h
theorem zHF{op:CmpOp}{pos:Pos}(ho:OpR X (Bl op) r)(hv:OpS K r o)(ha:PE X a (TV K ml pa ta ia fa))(hb:PE X b (TV K ml pb tb ib fb))(hm:Ea op b=false)(hs:(pb || (ta && ia))=true:=by rfl):PE X (.Compare a [op] [b] pos) (TV K ml (pa && pb) true true (f2 o fa fb)):=
 (zTP ho ha hb hm).imp fun _ _ _ h=>zMZ hv hs h
theorem zZY{pos:Pos}(ho:IxR X r)(hv:OpI K r o)(ha:PE X a (TV K ml pa ta ia fa))(hb:PE X b (TV K ml pb tb ib fb))(hx:zKW b)(hs:(pb || (ta && ia))=true:=by rfl):PE X (.Subscript a b pos) (TV K ml (pa && pb) ia ia (f2 o fa fb)):=
 (yB3 ho ha hb hx).imp fun _ _ _ h=>zVD hv hs h
noncomputable def oI(C:Int->Int->Bool)(g:Int->Int->Dat):Dat->Dat->Option Dat
 | .int i,.int j=>if C i j=true then some (g i j) else none
 |_,_=>none
theorem zS6{C:Int->Int->Bool}{g:Int->Int->Dat}{d e c:Dat}(h:oI C g d e=some c): ∃i j,d= .int i/\e= .int j/\C i j=true/\c=g i j:=by
 unfold oI at h
 split at h
 ·split at h
  ·rename_i hc
   cases h
   exact⟨_,_,rfl,rfl,hc,rfl⟩
  ·cases h
 ·cases h
theorem zQU{C:Int->Int->Prop}{C':Int->Int->Bool}{g:Int->Int->V}{g':Int->Int->Dat}(hC: ∀i j,C' i j=true->C i j)(hg: ∀i j N H M,Rep K N H M (g i j) (g' i j)):OpS K (rI C g) (oI C' g'):=by
 intro H N N' M M' x y d e c Q hx hy h k
 obtain⟨i,j,rfl,rfl,hc,rfl⟩:=zS6 h
 cases hx
 cases hy
 exact⟨_,_,rfl,rfl,hC _ _ hc,k _ fun _ _ _=>hg ..⟩
theorem zJ4{g:Int->Int->V}{g':Int->Int->Dat}(hg: ∀i j N H M,Rep K N H M (g i j) (g' i j)):OpS K (rI0 g) (oI (fun _ _=>true) g'):=by
 intro H N N' M M' x y d e c Q hx hy h k
 obtain⟨i,j,rfl,rfl,hc,rfl⟩:=zS6 h
 cases hx
 cases hy
 exact⟨_,_,rfl,rfl,k _ fun _ _ _=>hg ..⟩
noncomputable def cMul(i j:Int):Bool:=(decide (-18446744073709551616<i) && decide (i<18446744073709551616)) || (decide (-18446744073709551616<j) && decide (j<18446744073709551616))
noncomputable def cDiv(i j:Int):Bool:=decide (0<j) && decide (j<1073741824)
noncomputable def cPow(i j:Int):Bool:=decide (0<=j) && decide (j<=1000000) && decide (i.natAbs<18446744073709551616)
noncomputable abbrev oSub:=oI (fun _ _=>true) fun i j=> .int (i - j)
noncomputable abbrev oMul:=oI cMul fun i j=> .int (i*j)
noncomputable abbrev zO9:=oI cDiv fun i j=> .int (i/j)
noncomputable abbrev oMod:=oI (fun _ j=>decide (0<j)) fun i j=> .int (i % j)
noncomputable abbrev oPow:=oI cPow fun i j=> .int (i ^ j.toNat)
noncomputable abbrev oLt:=oI (fun _ _=>true) fun i j=> .bl (decide (i<j))
noncomputable abbrev oLe:=oI (fun _ _=>true) fun i j=> .bl (decide (i<=j))
noncomputable abbrev oGt:=oI (fun _ _=>true) fun i j=> .bl (decide (j<i))
noncomputable abbrev oGe:=oI (fun _ _=>true) fun i j=> .bl (decide (j<=i))
theorem zIU:OpS K (rI0 fun i j=> .int (i - j)) oSub:=zJ4 fun i j _ _ _=> .int _
theorem yAJ:OpS K (rI CMul fun i j=> .int (i*j)) oMul:=zQU (fun i j h=>by
 have p:(2:Int) ^ 64=18446744073709551616:=by decide
 unfold CMul
 rw[p]
 simpa[cMul] using h) fun i j _ _ _=> .int _
theorem zNK:OpS K (rI CDiv fun i j=> .int (i/j)) zO9:=zQU (fun i j h=>by show 0<j/\j<1073741824;simpa[cDiv] using h) fun i j _ _ _=> .int _
theorem zGP:OpS K (rI (fun _ j=>0<j) fun i j=> .int (i % j)) oMod:=zQU (fun i j h=>by simpa using h) fun i j _ _ _=> .int _
theorem yAI:OpS K (rI CPow fun i j=> .int (i ^ j.toNat)) oPow:=zQU (fun i j h=>by
 have p:(2:Nat) ^ 64=18446744073709551616:=by decide
 unfold CPow
 rw[p]
 simpa[cPow,and_assoc] using h) fun i j _ _ _=> .int _
theorem s_lt:OpS K (rI0 fun i j=> .bl (decide (i<j))) oLt:=zJ4 fun i j _ _ _=> .bl _
theorem s_le:OpS K (rI0 fun i j=> .bl (decide (i<=j))) oLe:=zJ4 fun i j _ _ _=> .bl _
theorem s_gt:OpS K (rI0 fun i j=> .bl (decide (j<i))) oGt:=zJ4 fun i j _ _ _=> .bl _
theorem s_ge:OpS K (rI0 fun i j=> .bl (decide (j<=i))) oGe:=zJ4 fun i j _ _ _=> .bl _
noncomputable def okD(d:Dat):Bool:=d.isD && Cf d.pd
noncomputable def eqD(d e:Dat):Bool:=Ez d.pd e.pd
noncomputable def oEq(d e:Dat):Option Dat:=if(okD d && okD e)=true then some (.bl (eqD d e)) else none
noncomputable def oNe(d e:Dat):Option Dat:=if(okD d && okD e)=true then some (.bl (!eqD d e)) else none
theorem s_eq:OpS K (rEqD K) oEq:=by
 intro H N N' M M' x y d e c Q hx hy h k
 unfold oEq at h
 split at h
 ·rename_i hh
  cases h
  simp only[okD,A1] at hh
  exact⟨d.pd,e.pd,hx.dp hh.1.1,hy.dp hh.2.1,hh.1.2,hh.2.2,k _ fun _ _ _=> .bl _⟩
 ·cases h
theorem s_ne:OpS K (rNeD K) oNe:=by
 intro H N N' M M' x y d e c Q hx hy h k
 unfold oNe at h
 split at h
 ·rename_i hh
  cases h
  simp only[okD,A1] at hh
  exact⟨d.pd,e.pd,hx.dp hh.1.1,hy.dp hh.2.1,hh.1.2,hh.2.2,k _ fun _ _ _=> .bl _⟩
 ·cases h
noncomputable def isN:Dat->Bool
 | .non=>true
 |_=>false
noncomputable def oIsN:Dat->Dat->Option Dat
 |d,.non=>some (.bl (isN d))
 |_,_=>none
noncomputable def zI7:Dat->Dat->Option Dat
 |d,.non=>some (.bl (!isN d))
 |_,_=>none
theorem zNP{N M:Addr->Prop}(h:Rep K N H M v d):decide (v=V.non)=isN d:=by
 cases h<;>simp[isN]
theorem zWC:OpS K (fun x y H Q=>y= .non/\Q (.bl (decide (x= .non))) H) oIsN:=by
  intro H N N' M M' x y d e c Q hx hy h k
  cases hy<;>first
    | (cases h
       refine⟨rfl,?_⟩
       rw[zNP hx]
       exact k _ fun _ _ _=> .bl _)
    |(simp[oIsN] at h)
theorem zNJ:OpS K (fun x y H Q=>y= .non/\Q (.bl (!decide (x= .non))) H) zI7:=by
  intro H N N' M M' x y d e c Q hx hy h k
  cases hy<;>first
    | (cases h
       refine⟨rfl,?_⟩
       rw[zNP hx]
       exact k _ fun _ _ _=> .bl _)
    |(simp[zI7] at h)
noncomputable def seqD:Dat->Option (List Dat)
 | .tup ds=>some ds
 | .lst ds=>some ds
 |_=>none
theorem Rep.seq{N M:Addr->Prop}{ds:List Dat}(h:Rep K N H M v d)(e:seqD d=some ds): ∃a xs,v= .ref a/\(SqL K H a xs∨SqT K H a xs)/\RepA K N H xs ds:=by
 cases h<;>first
  |(cases e;rename_i q r;exact⟨_,_,rfl,.inr q,r⟩)
  |(cases e;rename_i q n r;exact⟨_,_,rfl,.inl (SqL.of q),r⟩)
  |(cases e;rename_i q r;exact⟨_,_,rfl,.inl q.sq,r⟩)
  |cases e
theorem zUW{N:Addr->Prop}{xs:List V}{ds:List Dat}{i:Int}(r:RepA K N H xs ds)(h:atI ds i=some d): ∃v,atI xs i=some v/\Rep K N H N v d:=by
 unfold atI at h⊢
 rw[r.length]
 cases hi:ixN ds.length i with
 |none=>rw[hi] at h;cases h
 |some j=>
  rw[hi] at h
  exact r.get h
end
section
variable{X:Cx}{K:A5}{ml:List Nat}{e a b c:Expr}{es:List Expr}{pa ta ia pb tb ib pc tc ic pu bt bi ps bs:Bool}{fa fb fc:VF}{r r':R2}{o o':Dat->Dat->Option Dat}{B:Bs}{O:Nat->Option Addr}{H H1 H':Hp}{σ:St}{δ δ':Ev}{v:V}{d:Dat}{p:Addr}{pos:Pos}
theorem Sta.unadd(S:Sta K ml (B.add p) O H σ δ):Sta K ml B O H σ δ where
 len:=S.len
 va:=fun i d e=>let ⟨v,a,b⟩:=S.va i d e;⟨v,a,b.mono zGU zGU⟩
 ow:=fun i d e=>let ⟨a,b,c,w⟩:=S.ow i d e;⟨a,b,c,w.mono zGU⟩
 dom:=S.dom
 inj:=S.inj
 old:=fun i a h=>⟨fun z=>(S.old i a h).1 (.inl z),(S.old i a h).2⟩
 zin:=fun a h=>S.zin a (.inl h)
 frm:=S.frm
 par:=S.par
 pin:=S.pin
 kep:=fun p h=>(S.kep p h).mono zGU zGU
structure ResN(K:A5)(ml:List Nat)(B:Bs)(O:Nat->Option Addr)(H:Hp)(σ:St)(pu:Bool)(H':Hp)(δ':Ev)(p:Addr)(d:Dat):Prop where
 sta:Sta K ml (B.add p) O H' σ δ'
 frm:Fr (OA O) H H'
 pur:pu=true->Same H H'
 own:Own K (Nn (B.add p) O) H' p d
 nz: ¬Nn B O p
 h0:B.H0 p=none
def TN(K:A5)(ml:List Nat)(pu:Bool)(f:VF):TE:=fun σ H Q=> ∃B O δ d δ',Sta K ml B O H σ δ/\f δ=some (d,δ')/\ ∀p H',ResN K ml B O H σ pu H' δ' p d->Q (.ref p) H'
theorem zAZ{f:VF}(h:PE X e (TN K ml pu f)):PE X e (TV K ml pu true true f):=h.imp fun σ H Q ⟨B,O,δ,d,δ',S,q,k⟩=>
 ⟨B,O,δ,d,δ',S,q,fun p H' R=>k _ H' ⟨R.sta.unadd,R.frm,R.pur,(R.own.mono zGU).rep R.nz⟩⟩
theorem mkN{xs:List V}{ds:List Dat}(S:Sta K ml B O H1 σ δ')(f:Fr (OA O) H H1)(s:pu=true->Same H H1)(hp:H1 p=none)(r:RepA K (Nn B O) H1 xs ds):ResN K ml B O H σ pu (upd H1 p (.lst xs)) δ' p (.lst ds):=
 ⟨S.laid hp,f.trans (zA9 hp).fr,fun z=>(s z).trans (zA9 hp),.lst zAR ((r.away hp _ _ zEM).same (zA9 hp)),S.new hp,S.fresh hp⟩
abbrev VFs:=Ev->Option (List Dat×Ev)
structure ResA(K:A5)(ml:List Nat)(B:Bs)(O:Nat->Option Addr)(H:Hp)(σ:St)(pu b:Bool)(H':Hp)(δ':Ev)(vs:List V)(ds:List Dat):Prop where
 sta:Sta K ml B O H' σ δ'
 frm:Fr (OA O) H H'
 pur:pu=true->Same H H'
 rep:RepA K (av B O b) H' vs ds
def TAV(K:A5)(ml:List Nat)(pu b:Bool)(f:VFs):TA:=fun σ H Q=> ∃B O δ d δ',Sta K ml B O H σ δ/\f δ=some (d,δ')/\ ∀vs H',ResA K ml B O H σ pu b H' δ' vs d->Q vs H'
noncomputable def fNil:VFs:=fun δ=>some ([],δ)
noncomputable def zA1(fa:VF)(fs:VFs):VFs:=fun δ=>(fa δ).bind fun p=>(fs p.2).map fun q=>(p.1::q.1,q.2)
theorem zJH{fs:VFs}{ds:List Dat}(h:zA1 fa fs δ=some (ds,δ')): ∃x δ1 xs,fa δ=some (x,δ1)/\fs δ1=some (xs,δ')/\ds=x::xs:=by
 unfold zA1 at h
 cases h1:fa δ with
 | none => rw [h1] at h;cases h
 |some p=>
  rw[h1] at h
  cases h2:fs p.2 with
  |none=>simp[h2] at h
  |some q=>
   simp only[Ae,h2] at h
   cases h
   exact⟨p.1,p.2,q.1,rfl,h2,rfl⟩
theorem zA8:PA X [] (TAV K ml true true fNil):=zCU.imp fun σ H Q q0=>by
 obtain⟨B,O,δ,d,δ',S,q,k⟩:=q0
 cases q
 exact k [] H ⟨S,Fr.refl _ _,fun _=>Same.refl _,.nil⟩
theorem zA0{fs:VFs}(ha:PE X a (TV K ml pa ta ia fa))(hr:PA X es (TAV K ml ps bs fs))(hs:starEach (a::es) X.env=(false,eval a X.env)::starEach es X.env:=by rfl)(hl:(ps || (ta && ia))=true:=by rfl)(ht:ta=true:=by rfl):
  PA X (a::es) (TAV K ml (pa && ps) (ta && ia && bs) (zA1 fa fs)):=(zB1 ha hr hs).imp fun σ H Q ⟨B,O,δ,d,δ2,S,q,k⟩=>by
 obtain⟨x,δ1,xs,h1,h2,rfl⟩:=zJH q
 refine⟨B,O,δ,x,δ1,S,h1,fun v1 H1 R1=>⟨B,O,δ1,xs,δ2,R1.sta,h2,fun vs H2 R2=>k _ H2 ⟨R2.sta,R1.frm.trans R2.frm,fun z=> ?_,?_⟩⟩⟩
 ·obtain⟨z1,z2⟩:=(A1 _ _).mp z
  exact(R1.pur z1).trans (R2.pur z2)
 ·have g : ∀ c,((ta && ia && bs) = true -> c = true) -> ∀ a,av B O (ta && ia && bs) a -> av B O c a := fun c h => zHA h
  have g1:=g ta fun z=>by simp only[A1] at z;exact z.1.1
  have g2:=g ia fun z=>by simp only[A1] at z;exact z.1.2
  have g3:=g bs fun z=>by simp only[A1] at z;exact z.2
  refine .cons ?_ (R2.rep.mono g3)
  have h:Rep K (av B O ia) H2 (at_ B O ta) v1 x:=by
   cases ps with
   |true=>exact R1.rep.same (R2.pur rfl)
   |false=>
    have hs:(ta && ia)=true:=by simpa using hl
    obtain⟨h1,h2⟩:=(A1 _ _).mp hs
    subst h1 h2
    exact R1.rep.fr R2.frm (fun a z=> .inr z) fun a z=> .inr z
  subst ht
  exact h.mono g2 g1
theorem Sta.lone(S:Sta K ml B O H σ δ){i:Nat}{x:Dat}(hm:i∉ml)(h:fO i δ=some (x,δ')):δ'=δ/\ ∃v,σ[i]? =some (some v)/\Rep K (av B O false) H (av B O false) v x:=by
 unfold fO at h
 split at h
 ·rename_i d hd
  cases h
  obtain⟨v,e1,r⟩:=S.va i _ hd
  exact⟨rfl,v,e1,r.mono (fun a z=>z.1) fun a z=>z.1⟩
 ·rename_i d hd
  cases h
  obtain⟨a,e1,e2,w⟩:=S.ow i _ hd
  refine⟨rfl,.ref a,e2,(w.mono fun a z=>z.1).rep fun z=> ?_⟩
  rcases z.2 with z|⟨j,z⟩
  ·exact(S.old i a e1).1 z
  ·have hj:=S.par.1 j a z
   have:i=j:=S.inj i j a e1 ((S.par.2 j hj).trans z)
   exact hm (this▸hj)
 ·cases h
theorem zGC{i:Nat}{fs:VFs}(ha:PE X a (tVar i))(hr:PA X es (TAV K ml ps bs fs))(hs:starEach (a::es) X.env=(false,eval a X.env)::starEach es X.env:=by rfl)(hl:ps=true:=by rfl)(hm:i∉ml:=by decide):
  PA X (a::es) (TAV K ml ps false (zA1 (fO i) fs)):=(zB1 ha hr hs).imp fun σ H Q ⟨B,O,δ,d,δ2,S,q,k⟩=>by
 obtain⟨x,δ1,xs,h1,h2,rfl⟩:=zJH q
 obtain⟨rfl,v,e1,r⟩:=S.lone hm h1
 exact⟨v,e1,B,O,δ1,xs,δ2,S,h2,fun vs H2 R2=>k _ H2 ⟨R2.sta,R2.frm,R2.pur,.cons (r.same (R2.pur hl)) (R2.rep.mono (zHA (b:=false) fun z=>nomatch z))⟩⟩
noncomputable def fTup(fs:VFs):VF:=fun δ=>(fs δ).bind fun p=>if p.1.length<=16777216 then some (.tup p.1,p.2) else none
noncomputable def fLst(fs:VFs):VF:=fun δ=>(fs δ).bind fun p=>if p.1.length<=16777216 then some (.lst p.1,p.2) else none
theorem zI9{fs:VFs}{g:List Dat->Dat}(h:((fs δ).bind fun p=>if p.1.length<=16777216 then some (g p.1,p.2) else none)=some (d,δ')): ∃ds,fs δ=some (ds,δ')/\ds.length<=16777216/\d=g ds:=by
 cases h1:fs δ with
 | none => rw [h1] at h;cases h
 |some p=>
  rw[h1] at h
  have h:(if p.1.length<=16777216 then some (g p.1,p.2) else none)=some (d,δ'):=h
  split at h
  ·cases h
   exact⟨p.1,rfl,by assumption,rfl⟩
  ·cases h
theorem zAH{x1}{fs:VFs}(h:PA X es (TAV K ml pu bs fs)):PE X (.Tuple es x1 pos) (TV K ml pu true bs (fTup fs)):=(zO1 h).imp fun σ H Q q0=>by
 obtain⟨B,O,δ,d,δ',S,q,k⟩:=q0
 obtain⟨ds,h1,hl,rfl⟩:=zI9 (g:=Dat.tup) q
 refine⟨B,O,δ,ds,δ',S,h1,fun vs H1 R=>⟨by rw[R.rep.length,Bb];exact hl,fun p hp=>k _ _ ⟨R.sta.same (zA9 hp),R.frm.trans (zA9 hp).fr,fun z=>(R.pur z).trans (zA9 hp),.tup (SqT.of zAR) (R.rep.same (zA9 hp))⟩⟩⟩
theorem zV8{fs:VFs}(h:PA X es (TAV K ml pu bs fs)):PE X (.List es pos) (TV K ml pu true bs (fLst fs)):=(zS0 h).imp fun σ H Q q0=>by
 obtain⟨B,O,δ,d,δ',S,q,k⟩:=q0
 obtain⟨ds,h1,hl,rfl⟩:=zI9 (g:=Dat.lst) q
 refine⟨B,O,δ,ds,δ',S,h1,fun vs H1 R=>⟨by rw[R.rep.length,Bb];exact hl,fun p hp=>k _ _ ⟨R.sta.same (zA9 hp),R.frm.trans (zA9 hp).fr,fun z=>(R.pur z).trans (zA9 hp),.lst zAR (R.sta.new hp) (R.rep.same (zA9 hp))⟩⟩⟩
theorem zB8{fs:VFs}(h:PA X es (TAV K ml pu true fs)):PE X (.List es pos) (TN K ml pu (fLst fs)):=(zS0 h).imp fun σ H Q q0=>by
 obtain⟨B,O,δ,d,δ',S,q,k⟩:=q0
 obtain⟨ds,h1,hl,rfl⟩:=zI9 (g:=Dat.lst) q
 exact⟨B,O,δ,ds,δ',S,h1,fun vs H1 R=>⟨by rw[R.rep.length,Bb];exact hl,fun p hp=>k p _ (mkN R.sta R.frm R.pur hp R.rep)⟩⟩
abbrev VB:=Ev->Option (Bool×Ev)
structure ResB(K:A5)(ml:List Nat)(B:Bs)(O:Nat->Option Addr)(H:Hp)(σ:St)(pu:Bool)(H':Hp)(δ':Ev):Prop where
 sta:Sta K ml B O H' σ δ'
 frm:Fr (OA O) H H'
 pur:pu=true->Same H H'
def TB(K:A5)(ml:List Nat)(pu:Bool)(f:VB):TT:=fun σ H Q=> ∃B O δ k δ',Sta K ml B O H σ δ/\f δ=some (k,δ')/\ ∀H',ResB K ml B O H σ pu H' δ'->Q k H'
noncomputable def fB(f:VF):VB:=fun δ=>(f δ).bind fun p=>match p.1 with
 | .bl k=>some (k,p.2)
 |_=>none
theorem zZ4{f:VF}{k:Bool}(h:fB f δ=some (k,δ')):f δ=some (.bl k,δ'):=by
 unfold fB at h
 cases h1:f δ with
 | none => rw [h1] at h;cases h
 |some p=>
  obtain⟨x,δ1⟩:=p
  rw[h1] at h
  cases x<;>first
   |(cases h;rfl)
   |cases h
theorem zK6{f:VF}{t:TE}(ht: ∀σ H Q,TV K ml pu bt bi f σ H Q->t σ H Q){Q:Bool->Hp->Prop}(h:TB K ml pu (fB f) σ H Q):t σ H fun x H'=> ∃k,x= .bl k/\Q k H':=by
 obtain⟨B,O,δ,k,δ',S,q,w⟩:=h
 refine ht σ H _ ⟨B,O,δ,.bl k,δ',S,zZ4 q,fun v H' R=>⟨k,?_,w H' ⟨R.sta,R.frm,R.pur⟩⟩⟩
 cases R.rep
 rfl
theorem zB4{op:CmpOp}(ho:OpR X (Bl op) r)(hv:OpS K r o)(ha:PE X a (TV K ml pa ta ia fa))(hb:PE X b (TV K ml pb tb ib fb))(hm:Ea op b=false)(hs:(pb || (ta && ia))=true:=by rfl):PT X (.Compare a [op] [b] pos) (TB K ml (pa && pb) (fB (f2 o fa fb))):=
 (zTF ho ha hb hm).imp fun _ _ _ h=>zK6 (fun _ _ _=>zMZ hv hs) h
theorem zBH{f:VF}(h:PE X e (TV K ml pu bt bi f))(he: ∀az,isTrue e X.env az=(do let v<- az;standAt e.pos;Hv [v] (truthy v)):=by intro _;rfl):PT X e (TB K ml pu (fB f)):=
 (zWU h he).imp fun _ _ _ h=>zK6 (fun _ _ _ z=>z) h
noncomputable def bAnd(x y:VB):VB:=fun δ=>(x δ).bind fun p=>if p.1=true then y p.2 else some (false,p.2)
noncomputable def bOr(x y:VB):VB:=fun δ=>(x δ).bind fun p=>if p.1=true then some (true,p.2) else y p.2
noncomputable def bNot(x:VB):VB:=fun δ=>(x δ).map fun p=>(!p.1,p.2)
theorem ResB.refl(S:Sta K ml B O H σ δ):ResB K ml B O H σ pu H δ:=⟨S,Fr.refl _ _,fun _=>Same.refl _⟩
theorem zVH{x y:VB}{Q:Bool->Hp->Prop}(h:TB K ml (pa && pb) (bAnd x y) σ H Q):tAnd (TB K ml pa x) (TB K ml pb y) σ H Q:=by
 obtain⟨B,O,δ,k,δ',S,q,w⟩:=h
 unfold bAnd at q
 cases h1:x δ with
 | none => rw [h1] at q;cases q
 |some p=>
  obtain⟨kk,δ1⟩:=p
  rw[h1] at q
  refine⟨B,O,δ,kk,δ1,S,h1,fun H1 R1=> ?_⟩
  cases kk with
  |true=>
   have q:y δ1=some (k,δ'):=q
   exact iteT ⟨B,O,δ1,k,δ',R1.sta,q,fun H2 R2=>w H2 ⟨R2.sta,R1.frm.trans R2.frm,fun z=>by
    obtain⟨z1,z2⟩:=(A1 _ _).mp z
    exact(R1.pur z1).trans (R2.pur z2)⟩⟩
  |false=>
   have q:some (false,δ1)=some (k,δ'):=q
   cases q
   exact iteF (w H1 ⟨R1.sta,R1.frm,fun z=>R1.pur ((A1 _ _).mp z).1⟩)
theorem yA2{x y:VB}{Q:Bool->Hp->Prop}(h:TB K ml (pa && pb) (bOr x y) σ H Q):tOr (TB K ml pa x) (TB K ml pb y) σ H Q:=by
 obtain⟨B,O,δ,k,δ',S,q,w⟩:=h
 unfold bOr at q
 cases h1:x δ with
 | none => rw [h1] at q;cases q
 |some p=>
  obtain⟨kk,δ1⟩:=p
  rw[h1] at q
  refine⟨B,O,δ,kk,δ1,S,h1,fun H1 R1=> ?_⟩
  cases kk with
  |false=>
   have q:y δ1=some (k,δ'):=q
   exact iteF ⟨B,O,δ1,k,δ',R1.sta,q,fun H2 R2=>w H2 ⟨R2.sta,R1.frm.trans R2.frm,fun z=>by
    obtain⟨z1,z2⟩:=(A1 _ _).mp z
    exact(R1.pur z1).trans (R2.pur z2)⟩⟩
  |true=>
   have q:some (true,δ1)=some (k,δ'):=q
   cases q
   exact iteT (w H1 ⟨R1.sta,R1.frm,fun z=>R1.pur ((A1 _ _).mp z).1⟩)
theorem zBS{x:VB}(h:PT X a (TB K ml pu x)):PT X (.UnaryOp .Not a pos) (TB K ml pu (bNot x)):=(zWV h).imp fun σ H Q q0=>by
 obtain⟨B,O,δ,k,δ',S,q,w⟩:=q0
 unfold bNot at q
 cases h1:x δ with
 |none=>rw[h1] at q;cases q
 |some p=>
  rw[h1] at q
  cases q
  exact⟨B,O,δ,p.1,p.2,S,h1,w⟩
theorem zSQ{x:VB}(h:PT X a (TB K ml pu x)):PW X (.BoolOp .And [a] pos) (TB K ml pu x):=zTC h
theorem zCA{x:VB}(h:PT X a (TB K ml pu x)):PW X (.BoolOp .Or [a] pos) (TB K ml pu x):=zWS h
theorem zRI{x y:VB}(ha:PT X a (TB K ml pa x))(hb:PW X (.BoolOp .And (b::es) pos) (TB K ml pb y)):PW X (.BoolOp .And (a::b::es) pos) (TB K ml (pa && pb) (bAnd x y)):=(zWT ha hb).imp fun _ _ _ h=>zVH h
theorem zDA{x y:VB}(ha:PT X a (TB K ml pa x))(hb:PW X (.BoolOp .Or (b::es) pos) (TB K ml pb y)):PW X (.BoolOp .Or (a::b::es) pos) (TB K ml (pa && pb) (bOr x y)):=(yB1 ha hb).imp fun _ _ _ h=>yA2 h
theorem vt_w{x:VB}(h:PW X e (TB K ml pu x)):PT X e (TB K ml pu x):=h.pt
noncomputable def fAnd(x y:VF):VF:=fun δ=>(x δ).bind fun p=>match p.1 with
 | .bl true=>y p.2
 | .bl false=>some (.bl false,p.2)
 |_=>none
theorem zHE{op}{f:VF}(h:PE X a (TV K ml pu bt bi f)):PE X (.BoolOp op [a] pos) (TV K ml pu bt bi f):=zX6 h
theorem zGM(ha:PE X a (TV K ml pa ta ia fa))(hb:PE X (.BoolOp .And (b::es) pos) (TV K ml pb tb ib fb)):PE X (.BoolOp .And (a::b::es) pos) (TV K ml (pa && pb) tb ib (fAnd fa fb)):=(zX9 ha hb).imp fun σ H Q q0=>by
 obtain⟨B,O,δ,d,δ',S,q,k⟩:=q0
 unfold fAnd at q
 cases h1:fa δ with
 | none => rw [h1] at q;cases q
 |some p=>
  obtain⟨x,δ1⟩:=p
  rw[h1] at q
  refine⟨B,O,δ,x,δ1,S,h1,fun v1 H1 R1=> ?_⟩
  cases x with
  |bl kk=>
   have e1:v1= .bl kk:=by cases R1.rep;rfl
   refine⟨kk,e1,?_⟩
   cases kk with
   |true=>
    exact iteT ⟨B,O,δ1,d,δ',R1.sta,q,fun v2 H2 R2=>k v2 H2 ⟨R2.sta,R1.frm.trans R2.frm,fun z=>by
     obtain⟨z1,z2⟩:=(A1 _ _).mp z
     exact(R1.pur z1).trans (R2.pur z2),R2.rep⟩⟩
   |false=>
    cases q
    exact iteF (k _ H1 ⟨R1.sta,R1.frm,fun z=>R1.pur ((A1 _ _).mp z).1,.bl _⟩)
  |_=>cases q
noncomputable def fIf(t:VB)(x y:VF):VF:=fun δ=>(t δ).bind fun p=>if p.1=true then x p.2 else y p.2
theorem zFF{t:VB}(ht:PT X c (TB K ml pc t))(ha:PE X a (TV K ml pa ta ia fa))(hb:PE X b (TV K ml pb tb ib fb)):PE X (.IfExp c a b pos) (TV K ml (pc && pa && pb) (ta && tb) (ia && ib) (fIf t fa fb)):=(zI6 ht ha hb).imp fun σ H Q q0=>by
 obtain⟨B,O,δ,d,δ',S,q,k⟩:=q0
 unfold fIf at q
 cases h1:t δ with
 | none => rw [h1] at q;cases q
 |some p=>
  obtain⟨kk,δ1⟩:=p
  rw[h1] at q
  refine⟨B,O,δ,kk,δ1,S,h1,fun H1 R1=> ?_⟩
  have g1: ∀c,((ta && tb)=true->c=true)-> ∀a,at_ B O (ta && tb) a->at_ B O c a:=fun c h=>zUV h
  have g2: ∀c,((ia && ib)=true->c=true)-> ∀a,av B O (ia && ib) a->av B O c a:=fun c h=>zHA h
  cases kk with
  |true=>
   exact iteT ⟨B,O,δ1,d,δ',R1.sta,q,fun v2 H2 R2=>k v2 H2 ⟨R2.sta,R1.frm.trans R2.frm,fun z=>by
    simp only[A1] at z
    exact(R1.pur z.1.1).trans (R2.pur z.1.2),R2.rep.mono (g2 _ fun z=>((A1 _ _).mp z).1) (g1 _ fun z=>((A1 _ _).mp z).1)⟩⟩
  |false=>
   exact iteF ⟨B,O,δ1,d,δ',R1.sta,q,fun v2 H2 R2=>k v2 H2 ⟨R2.sta,R1.frm.trans R2.frm,fun z=>by
    simp only[A1] at z
    exact(R1.pur z.1.1).trans (R2.pur z.2),R2.rep.mono (g2 _ fun z=>((A1 _ _).mp z).2) (g1 _ fun z=>((A1 _ _).mp z).2)⟩⟩
noncomputable def f3(o o':Dat->Dat->Option Dat)(fa fb fc:VF):VF:=fun δ=>(fa δ).bind fun p=>(fb p.2).bind fun q=>(o p.1 q.1).bind fun z=>match z with
 | .bl true=>(fc q.2).bind fun s=>(o' q.1 s.1).map fun u=>(u,s.2)
 | .bl false=>some (.bl false,q.2)
 |_=>none
theorem zL3(ho:OpS K r o)(ho':OpS K r' o')(hs:(pb || (ta && ia))=true)(hs':(pc || (tb && ib))=true){Q:VK}(h:TV K ml (pa && pb && pc) true true (f3 o o' fa fb fc) σ H Q):zNC r r' (TV K ml pa ta ia fa) (TV K ml pb tb ib fb) (TV K ml pc tc ic fc) σ H Q:=by
 obtain⟨B,O,δ,d,δ3,S,q,k⟩:=h
 unfold f3 at q
 cases h1:fa δ with
 | none => rw [h1] at q;cases q
 |some p=>
  obtain⟨x,δ1⟩:=p
  rw[h1] at q
  cases h2:fb δ1 with
  | none => simp [h2] at q
  |some p2=>
   obtain⟨y,δ2⟩:=p2
   simp only[Ae,h2] at q
   refine⟨B,O,δ,x,δ1,S,h1,fun v1 H1 R1=>⟨B,O,δ1,y,δ2,R1.sta,h2,fun v2 H2 R2=> ?_⟩⟩
   cases h3:o x y with
   | none => rw [h3] at q;cases q
   |some z=>
    rw[h3] at q
    refine ho H2 _ _ _ _ v1 v2 x y z _ (R2.live hs R1.rep) R2.rep h3 fun v hv=> ?_
    have hv := hv (fun _ => none) (fun _ => True) fun _ => True
    cases z with
    |bl kk=>
     have e1:v= .bl kk:=by cases hv;rfl
     refine⟨kk,e1,?_⟩
     cases kk with
     |false=>
      cases q
      exact iteF (k _ H2 ⟨R2.sta,R1.frm.trans R2.frm,fun z=>by
       simp only[A1] at z
       exact(R1.pur z.1.1).trans (R2.pur z.1.2),.bl _⟩)
     |true=>
      have q:((fc δ2).bind fun s=>(o' y s.1).map fun u=>(u,s.2))=some (d,δ3):=q
      cases h4:fc δ2 with
      | none => rw [h4] at q;cases q
      |some p4=>
       obtain⟨z4,δ4⟩:=p4
       rw[h4] at q
       have q:((o' y z4).map fun u=>(u,δ4))=some (d,δ3):=q
       cases h5:o' y z4 with
       | none => rw [h5] at q;cases q
       |some u=>
        rw[h5] at q
        cases q
        refine iteT ⟨B,O,δ2,z4,_,R2.sta,h4,fun v4 H4 R4=> ?_⟩
        exact ho' H4 _ _ _ _ v2 v4 y z4 d Q (R4.live hs' R2.rep) R4.rep h5 fun v hv=>k v H4 ⟨R4.sta,(R1.frm.trans R2.frm).trans R4.frm,fun z=>by
         simp only[A1] at z
         exact((R1.pur z.1.1).trans (R2.pur z.1.2)).trans (R4.pur z.2),hv _ _ _⟩
    |_=>cases q
theorem zQ2{op op':CmpOp}(ho:OpR X (Bl op) r)(ho':OpR X (Bl op') r')(hv:OpS K r o)(hv':OpS K r' o')(ha:PE X a (TV K ml pa ta ia fa))(hb:PE X b (TV K ml pb tb ib fb))(hc:PE X c (TV K ml pc tc ic fc))
  (hm:Ju [op,op'] [b,c]=false:=by with_unfolding_all rfl) (hs:(pb || (ta && ia))=true:=by rfl) (hs':(pc || (tb && ib))=true:=by rfl):PE X (.Compare a [op,op'] [b,c] pos) (TV K ml (pa && pb && pc) true true (f3 o o' fa fb fc)):=
 (zQR ho ho' ha hb hc hm).imp fun _ _ _ h=>zL3 hv hv' hs hs' h
theorem zPZ{op op':CmpOp}(ho:OpR X (Bl op) r)(ho':OpR X (Bl op') r')(hv:OpS K r o)(hv':OpS K r' o')(ha:PE X a (TV K ml pa ta ia fa))(hb:PE X b (TV K ml pb tb ib fb))(hc:PE X c (TV K ml pc tc ic fc))
  (hm:Ju [op,op'] [b,c]=false:=by with_unfolding_all rfl) (hs:(pb || (ta && ia))=true:=by rfl) (hs':(pc || (tb && ib))=true:=by rfl):PT X (.Compare a [op,op'] [b,c] pos) (TB K ml (pa && pb && pc) (fB (f3 o o' fa fb fc))):=
 (zQJ ho ho' ha hb hc hm).imp fun _ _ _ h=>zK6 (fun _ _ _=>zL3 hv hv' hs hs') h
end
section
variable{X:Cx}{K:A5}{ml:List Nat}{e a b c:Expr}{es:List Expr}{pa ta ia pb tb ib pc tc ic pu bt bi ps bs:Bool}{fa fb fc:VF}{B:Bs}{O:Nat->Option Addr}{H H1 H':Hp}{σ:St}{δ δ':Ev}{v:V}{d:Dat}{p:Addr}{pos:Pos}
noncomputable def f1(o:Dat->Option Dat)(fa:VF):VF:=fun δ=>(fa δ).bind fun p=>(o p.1).map fun c=>(c,p.2)
theorem zLR{o:Dat->Option Dat}(h:f1 o fa δ=some (d,δ')): ∃x,fa δ=some (x,δ')/\o x=some d:=by
 unfold f1 at h
 cases h1:fa δ with
 | none => rw [h1] at h;cases h
 |some p=>
  rw[h1] at h
  have h:((o p.1).map fun c=>(c,p.2))=some (d,δ'):=h
  cases h3:o p.1 with
  |none=>rw[h3] at h;cases h
  |some c=>
   rw[h3] at h
   cases h
   exact⟨p.1,rfl,h3⟩
abbrev RC:=List V->Hp->VK->Prop
def CalS(K:A5)(r:RC)(o:Dat->Option Dat):Prop:= ∀(H:Hp) (N M:Addr->Prop) (x:V) (d c:Dat) (Q:VK),Rep K N H M x d->o d=some c->(∀v,(∀H' N M,Rep K N H' M v c)->Q v H)->r [x] H Q
def CalC(K:A5)(r:RC)(o:Dat->Option Dat):Prop:= ∀(H:Hp) (N M:Addr->Prop) (x:V) (d c:Dat) (Q:VK),Rep K N H M x d->o d=some c→
 (∀v H',Same H H'->(∀M,(∀a,M a-> ∃o,H a=some o)->Rep K N H' M v c)->Q v H')->r [x] H Q
def CalN(K:A5)(r:RC)(o:Dat->Option Dat):Prop:= ∀(H:Hp) (N M:Addr->Prop) (x:V) (d c:Dat) (Q:VK),Rep K N H M x d->o d=some c→
 (∀p xs ds,H p=none->RepA K N H xs ds->c= .lst ds->Q (.ref p) (upd H p (.lst xs)))->r [x] H Q
def zKY(K:A5)(r:RC)(o:Dat->Dat->Option Dat):Prop:= ∀(H:Hp) (N N' M M':Addr->Prop) (x y:V) (d e c:Dat) (Q:VK),Rep K N H M x d->Rep K N' H M' y e->o d e=some c->(∀v,(∀H' N M,Rep K N H' M v c)->Q v H)->r [x,y] H Q
theorem zN2{r:RC}{o:Dat->Option Dat}(ho:CalS K r o){Q:VK}(h:TV K ml pa true true (f1 o fa) σ H Q):tCB r (zM7 (TV K ml pa ta ia fa) tNil) σ H Q:=by
 obtain⟨B,O,δ,d,δ',S,q,k⟩:=h
 obtain⟨x,h1,h2⟩:=zLR q
 exact⟨B,O,δ,x,δ',S,h1,fun v1 H1 R1=>ho H1 _ _ v1 x d Q R1.rep h2 fun v hv=>k v H1 ⟨R1.sta,R1.frm,R1.pur,hv _ _ _⟩⟩
theorem zN4{r:RC}{o:Dat->Option Dat}(ho:CalC K r o){Q:VK}(h:TV K ml pa true ia (f1 o fa) σ H Q):tCB r (zM7 (TV K ml pa ta ia fa) tNil) σ H Q:=by
 obtain⟨B,O,δ,d,δ',S,q,k⟩:=h
 obtain⟨x,h1,h2⟩:=zLR q
 exact⟨B,O,δ,x,δ',S,h1,fun v1 H1 R1=>ho H1 _ _ v1 x d Q R1.rep h2 fun v H2 s2 hv=>k v H2 ⟨R1.sta.same s2,R1.frm.trans s2.fr,fun z=>(R1.pur z).trans s2,hv _ fun a z=>R1.sta.nin z⟩⟩
theorem zN3{r:RC}{o:Dat->Option Dat}(ho:CalN K r o){Q:VK}(h:TN K ml pa (f1 o fa) σ H Q):tCB r (zM7 (TV K ml pa ta true fa) tNil) σ H Q:=by
 obtain⟨B,O,δ,d,δ',S,q,k⟩:=h
 obtain⟨x,h1,h2⟩:=zLR q
 refine⟨B,O,δ,x,δ',S,h1,fun v1 H1 R1=>ho H1 _ _ v1 x d Q R1.rep h2 fun p xs ds hp hr he=> ?_⟩
 subst he
 exact k p _ (mkN R1.sta R1.frm R1.pur hp hr)
theorem zN1{r:RC}{o:Dat->Dat->Option Dat}(ho:zKY K r o)(hs:(pb || (ta && ia))=true){Q:VK}(h:TV K ml (pa && pb) true true (f2 o fa fb) σ H Q):tCB r (zM7 (TV K ml pa ta ia fa) (zM7 (TV K ml pb tb ib fb) tNil)) σ H Q:=by
 obtain⟨B,O,δ,d,δ2,S,q,k⟩:=h
 obtain⟨x,δ1,y,h1,h2,h3⟩:=zHX q
 refine⟨B,O,δ,x,δ1,S,h1,fun v1 H1 R1=>⟨B,O,δ1,y,δ2,R1.sta,h2,fun v2 H2 R2=> ?_⟩⟩
 exact ho H2 _ _ _ _ v1 v2 x y d Q (R2.live hs R1.rep) R2.rep h3 fun v hv=>k v H2 ⟨R2.sta,R1.frm.trans R2.frm,fun z=>by
  obtain⟨z1,z2⟩:=(A1 _ _).mp z
  exact(R1.pur z1).trans (R2.pur z2),hv _ _ _⟩
section
variable{x:Str}{p':Pos}{id T:String}{r:RC}
theorem zK4{o:Dat->Option Dat}(hc:zC8 X (.builtin id) r)(ho:CalS K r o)(hg:Gl X x)(hm:X.mg x=none)(hv:Av x=some (.builtin id))(ha:PE X a (TV K ml pa ta ia fa))(hn:x≠ "__name__":=by decide) (hdb:(x==("__debug__":Str))=false:=by decide)
  (he:starEach (a::[]) X.env=(false,eval a X.env)::starEach [] X.env:=by rfl):PE X (.Call (.Name x p') [a] [] pos) (TV K ml pa true true (f1 o fa)):=
 (zLD hc hg hm hv (zB1 ha zCU he) hn hdb he).imp fun _ _ _ h=>zN2 ho h
theorem zDB{o:Dat->Dat->Option Dat}(hc:zC8 X (.builtin id) r)(ho:zKY K r o)(hg:Gl X x)(hm:X.mg x=none)(hv:Av x=some (.builtin id))(ha:PE X a (TV K ml pa ta ia fa))(hb:PE X b (TV K ml pb tb ib fb))(hn:x≠ "__name__":=by decide) (hdb:(x==("__debug__":Str))=false:=by decide)
  (he:starEach (a::[b]) X.env=(false,eval a X.env)::starEach [b] X.env:=by rfl) (he2:starEach (b::[]) X.env=(false,eval b X.env)::starEach [] X.env:=by rfl) (hpl:(Cj pos (starEach [b] X.env)).any (·.1)=false:=by rfl) (hs:(pb || (ta && ia))=true:=by rfl):
  PE X (.Call (.Name x p') [a,b] [] pos) (TV K ml (pa && pb) true true (f2 o fa fb)):=
 (zLD hc hg hm hv (zB1 ha (zB1 hb zCU he2) he) hn hdb he hpl).imp fun _ _ _ h=>zN1 ho hs h
theorem zQ6{o:Dat->Option Dat}(hc:zC8 X (.type T) r)(ho:CalC K r o)(hg:Gl X x)(hm:X.mg x=none)(hv:Av x=some (.type T))(ha:PE X a (TV K ml pa ta ia fa))(hn:x≠ "__name__":=by decide) (hdb:(x==("__debug__":Str))=false:=by decide)
  (he:starEach (a::[]) X.env=(false,eval a X.env)::starEach [] X.env:=by rfl):PE X (.Call (.Name x p') [a] [] pos) (TV K ml pa true ia (f1 o fa)):=
 (zJ3 hc hg hm hv (zB1 ha zCU he) hn hdb he).imp fun _ _ _ h=>zN4 ho h
theorem zV3{o:Dat->Option Dat}(hc:zC8 X (.type T) r)(ho:CalN K r o)(hg:Gl X x)(hm:X.mg x=none)(hv:Av x=some (.type T))(ha:PE X a (TV K ml pa ta true fa))(hn:x≠ "__name__":=by decide) (hdb:(x==("__debug__":Str))=false:=by decide)
  (he:starEach (a::[]) X.env=(false,eval a X.env)::starEach [] X.env:=by rfl):PE X (.Call (.Name x p') [a] [] pos) (TN K ml pa (f1 o fa)):=
 (zJ3 hc hg hm hv (zB1 ha zCU he) hn hdb he).imp fun _ _ _ h=>zN3 ho h
end
noncomputable def oLen:Dat->Option Dat
 | .tup ds=>some (.int ds.length)
 | .lst ds=>some (.int ds.length)
 | .str z=>if z.length<=16777216 then some (.int z.length) else none
 |_=>none
def rLen(K:A5):RC:=fun xs H Q=>(∃p ys,xs=[.ref p]/\(SqL K H p ys∨SqT K H p ys)/\Q (.int ys.length) H)∨ ∃z,xs=[.str z]/\z.length<=sizeLine/\Q (.int z.length) H
theorem yC9(h:X.K=K):zC8 X (.builtin "len") (rLen K):=by subst h;exact zJQ.or zJP
theorem yAK:CalS K (rLen K) oLen:=by
  intro H N M x d c Q hx h k
  cases d<;>first
    | (rename_i ds
       obtain⟨a,xs,rfl,sq,r⟩:=hx.seq rfl
       cases h
       refine .inl ⟨a,xs,rfl,sq,?_⟩
       rw[r.length]
       exact k _ fun _ _ _=> .int _)
    | (cases hx
       simp only[oLen] at h
       split at h
       · cases h
         exact .inr ⟨_,rfl,by rw[Bb];assumption,k _ fun _ _ _=> .int _⟩
       · cases h)
    |cases h
noncomputable def zO8(d:Dat):Option Dat:=(seqD d).map Dat.lst
noncomputable def zGT(d:Dat):Option Dat:=(seqD d).map Dat.tup
def zRX(K:A5):RC:=fun xs H Q=> ∃p ys,xs=[.ref p]/\(SqL K H p ys∨SqT K H p ys)/\ ∀l,H l=none->Q (.ref l) (upd H l (.lst ys))
def zNS(K:A5):RC:=fun xs H Q=> ∃p ys,xs=[.ref p]/\((SqL K H p ys/\ ∀l,H l=none->Q (.ref l) (upd H l (.tup ys)))∨(SqT K H p ys/\Q (.ref p) H))
theorem zS7(h:X.K=K):zC8 X (.type "list") (zRX K):=yC8 h
theorem zI8(h:X.K=K):zC8 X (.type "tuple") (zNS K):=zYX h
theorem zL4{d:Dat}{g:List Dat->Dat}{c:Dat}(h:(seqD d).map g=some c): ∃ds,seqD d=some ds/\c=g ds:=by
 cases h1:seqD d with
 |none=>rw[h1] at h;cases h
 |some ds=>rw[h1] at h;cases h;exact⟨ds,rfl,rfl⟩
theorem zHN:CalN K (zRX K) zO8:=by
 intro H N M x d c Q hx h k
 obtain⟨ds,h1,rfl⟩:=zL4 h
 obtain⟨a,xs,rfl,sq,r⟩:=hx.seq h1
 exact⟨a,xs,rfl,sq,fun l hl=>k l xs ds hl r rfl⟩
theorem zID:CalC K (zNS K) zGT:=by
 intro H N M x d c Q hx h k
 obtain⟨ds,h1,rfl⟩:=zL4 h
 obtain⟨a,xs,rfl,sq,r⟩:=hx.seq h1
 rcases sq with sq|sq
 ·exact⟨a,xs,rfl,.inl ⟨sq,fun l hl=>k _ _ (zA9 hl) fun M hM=> .tup (SqT.of zAR) (r.same (zA9 hl))⟩⟩
 ·exact⟨a,xs,rfl,.inr ⟨sq,k _ _ (Same.refl _) fun M hM=> .tup sq r⟩⟩
noncomputable def o2I(g:Int->Int->Int):Dat->Dat->Option Dat
 | .int i,.int j=>some (.int (g i j))
 |_,_=>none
theorem zRT{g:Int->Int->Int}:zKY K (fun xs H Q=> ∃i j,xs=[.int i,.int j]/\Q (.int (g i j)) H) (o2I g):=by
 intro H N N' M M' x y d e c Q hx hy h k
 unfold o2I at h
 split at h
 ·cases h
  cases hx
  cases hy
  exact⟨_,_,rfl,k _ fun _ _ _=> .int _⟩
 ·cases h
noncomputable abbrev oMax:=o2I fun i j=>if j>i then j else i
noncomputable abbrev oMin:=o2I fun i j=>if j<i then j else i
theorem zWB:zKY K (fun xs H Q=> ∃i j,xs=[.int i,.int j]/\Q (.int (if j>i then j else i)) H) oMax:=zRT
theorem zWA:zKY K (fun xs H Q=> ∃i j,xs=[.int i,.int j]/\Q (.int (if j<i then j else i)) H) oMin:=zRT
noncomputable def tyD:Dat->Option String
 | .non=>some "NoneType"
 | .bl _=>some "bool"
 | .int _=>some "int"
 | .str _=>some "str"
 | .tup _=>some "tuple"
 | .lst _=>some "list"
 |_=>none
noncomputable def isiT(t n:String):Option Bool:=if((Fu t)==(Fu n))=true then some true else if W.kitMeta n=true then(PySem.fastBuiltinMro t).map (·.contains (.type n)) else none
theorem zUA{t n:String}{k:Bool}(h:isiT t n=some k):Eu K (.type t) (.type n)=some k:=h
noncomputable def oIsi:Dat->Dat->Option Dat
 |d,.ty n=>(tyD d).bind fun t=>(isiT t n).map Dat.bl
 |_,_=>none
def rIsi(K:A5):RC:=fun xs H Q=> ∃x n d N M t k,xs=[x,.ty n]/\Rep K N H M x d/\tyD d=some t/\isiT t n=some k/\Q (.bl k) H
theorem zPJ:zC8 X (.builtin "isinstance") (rIsi X.K):=by
 intro a5 s σ H xs us Q I r h
 obtain⟨x,n,d,N,M,t,k,rfl,hx,ht,hk,q⟩:=h
 obtain⟨u,c,rfl,rx,rc⟩:=zMY r
 cases (show c=Fu n from rc)
 have e:=zUA (K:=X.K) hk
 have fin: ∀tk,EP X a5 σ Q (.bool k) {s with toks:=tk}:=fun tk=>⟨.bl k,H,I.tok tk,rfl,q⟩
 cases hx with
 |non=>cases ht;exact zF1 I rx (.non) e fin
 |bl y=>cases ht;exact zF1 I rx (.bl y) e fin
 |int i=>cases ht;exact zF1 I rx (.int i) e fin
 |str y=>cases ht;exact zF1 I rx (.str y) e fin
 |ty n=>cases ht
 |fn _=>cases ht
 |dct _ _ _=>cases ht
 |ktb _ _=>cases ht
 |exn _ _ _=>cases ht
 |tup q _=>
  cases ht
  cases rx
  obtain⟨its,_,⟨o,h1,h2,_⟩,_⟩:=I.tuple q
  exact Cr W.kitx_tuple I.kIn ⟨o,h1,h2⟩ e (fun z=>nomatch z) fin
 |lst q _ _=>
  cases ht
  cases rx
  obtain⟨its,_,⟨o,n,h1,h2,_⟩,_⟩:=I.list (SqL.of q)
  exact Cr Hw I.kIn ⟨o,h1,h2⟩ e (fun z=>nomatch z) fin
 |fzl q _=>
  cases ht
  cases rx
  obtain⟨its,_,⟨o,n,h1,h2,_⟩,_⟩:=I.list q.sq
  exact Cr Hw I.kIn ⟨o,h1,h2⟩ e (fun z=>nomatch z) fin
theorem kIsi(h:X.K=K):zC8 X (.builtin "isinstance") (rIsi K):=by subst h;exact zPJ
theorem yAL:zKY K (rIsi K) oIsi:=by
  intro H N N' M M' x y d e c Q hx hy h k
  cases hy<;>first
    | (simp only [oIsi] at h
       cases h1:tyD d with
       | none => rw [h1] at h;cases h
       |some t=>
         rw[h1] at h
         rename_i n
         have h:(isiT t n).map Dat.bl=some c:=h
         cases h2:isiT t n with
         | none => rw [h2] at h;cases h
         |some kk=>
           rw[h2] at h
           cases h
           exact⟨x,n,d,N,M,t,kk,rfl,hx,h1,h2,k _ fun _ _ _=> .bl _⟩)
    |cases h
noncomputable def oNeg:Dat->Option Dat
 | .int i=>some (.int (-i))
 |_=>none
theorem zGL(ha:PE X a (TV K ml pa ta ia fa)):PE X (.UnaryOp .USub a pos) (TV K ml pa true true (f1 oNeg fa)):=(yB2 zVA ha).imp fun σ H Q q0=>by
 obtain⟨B,O,δ,d,δ',S,q,k⟩:=q0
 obtain⟨x,h1,h2⟩:=zLR q
 refine⟨B,O,δ,x,δ',S,h1,fun v1 H1 R1=> ?_⟩
 cases x with
 |int i=>
  cases h2
  have e1:v1= .int i:=by cases R1.rep;rfl
  exact⟨i,e1,k _ H1 ⟨R1.sta,R1.frm,R1.pur,.int _⟩⟩
 |_=>cases h2
abbrev VP:=Ev->Option (Option Int×Ev)
def TPO(K:A5)(ml:List Nat)(pu:Bool)(f:VP):TO:=fun σ H Q=> ∃B O δ k δ',Sta K ml B O H σ δ/\f δ=some (k,δ')/\ ∀H',ResB K ml B O H σ pu H' δ'->Q k H'
noncomputable def pNo:VP:=fun δ=>some (none,δ)
noncomputable def pSo(f:VF):VP:=fun δ=>(f δ).bind fun p=>match p.1 with
 | .int i=>some (some i,p.2)
 |_=>none
theorem PO.imp{e:Option Expr}{t u:TO}(h:PO X e t)(k: ∀σ H Q,u σ H Q->t σ H Q):PO X e u:=fun a5 s σ H Q I w=>h a5 s σ H Q I (k σ H Q w)
theorem zK2:PO X none (TPO K ml true pNo):=zTK.imp fun σ H Q q0=>by
 obtain⟨B,O,δ,d,δ',S,q,k⟩:=q0
 cases q
 exact k H (ResB.refl S)
theorem zK1(h:PE X a (TV K ml pa ta ia fa)):PO X (some a) (TPO K ml pa (pSo fa)):=(zTJ h).imp fun σ H Q q0=>by
 obtain⟨B,O,δ,d,δ',S,q,k⟩:=q0
 unfold pSo at q
 cases h1:fa δ with
 | none => rw [h1] at q;cases q
 |some p=>
  obtain⟨x,δ1⟩:=p
  rw[h1] at q
  refine⟨B,O,δ,x,δ1,S,h1,fun v1 H1 R1=> ?_⟩
  cases x with
  |int i=>
   have e1:v1= .int i:=by cases R1.rep;rfl
   cases q
   exact⟨i,e1,k H1 ⟨R1.sta,R1.frm,R1.pur⟩⟩
  |_=>cases q
noncomputable def cutD(ds:List Dat)(lo hi:Option Int):List Dat:=(ds.drop (HT.sIx ds.length 0 lo)).take (HT.sIx ds.length ds.length hi - HT.sIx ds.length 0 lo)
theorem zIB{N:Addr->Prop}{xs:List V}{ds:List Dat}(r:RepA K N H xs ds)(lo hi:Option Int):RepA K N H (cutV xs lo hi) (cutD ds lo hi):=by
 unfold cutV cutD
 rw[r.length]
 exact(r.drop _).take _
noncomputable def oSl(d:Dat)(lo hi:Option Int):Option Dat:=match d with
 | .lst ds=>some (.lst (cutD ds lo hi))
 | .tup ds=>some (.tup (cutD ds lo hi))
 |_=>none
noncomputable def fSl(fa:VF)(fl fh:VP):VF:=fun δ=>(fa δ).bind fun p=>(fl p.2).bind fun l=>(fh l.2).bind fun u=>(oSl p.1 l.1 u.1).map fun c=>(c,u.2)
theorem zN7{prog:Al}{w:World}{A:Ba}{E:Value->A2->Prop}{s:A2}{t sl:Addr}{items:Array Value}{vl vu:Value}{lo hi:Option Int}{Q:Value->A2->Prop}(ht:IsTup s.heap t items)(hs:s.heap.IsSliceOf sl vl vu .none)(pl:IsPart vl lo)
  (pu:IsPart vu hi) (h1:HT.sIx items.size 0 lo=0) (h2:HT.sIx items.size items.size hi=items.size) (h:Q (.ref t) s):wpAny (model prog w) A (G5 (.ref t) (.ref sl)) Q E s:=by
 obtain⟨os,hos,hcs,hds⟩:=id hs
 have hT:s.TypeIs (.ref sl) "slice":=⟨os,hos,hcs⟩
 unfold G5
 try with_reducible refine Bf ?_
 first|refine A0 (A8 ?_)|skip
 refine A0 (Fx ht.typeIs (by decide) ?_)
 refine A0 (C0 (name:=At "__getitem__") ht.typeIs Ce
  (Ch Ce ht.typeIs PyProof.Rows.entry_tuple_getitem ?_ (PyProof.Rows.args_tuple_getitem _ _)))
 show wpAny _ _ (Fi (.ref t)>>=_) _ _ s
 refine A0 (PyProof.Rows.tupleItemsOf_ ht ?_)
 refine A0 (J6 hT ?_)
 rw[if_pos (by decide)]
 refine A0 (HT.zDW hs pl pu ?_)
 rw[h1,h2]
 show wpAny _ _ (if((((0:Nat):Int)==0 && (1:Int)==1 && (items.size - 0)==items.size)=true) then _ else _) _ _ s
 rw[if_pos (by simp)]
 refine A0 (m:=K7 _) (A0 (J6 ht.typeIs (A8 ?_)))
 rw[if_pos (by decide)]
 exact A0 (Hh (A8 ⟨_,rfl,A8 h⟩))
def rSlW(K:A5):V->Option Int->Option Int->Hp->VK->Prop:=fun x lo hi H Q=> ∃a xs,x= .ref a/\SqT K H a xs/\(HT.sIx xs.length 0 lo=0/\HT.sIx xs.length xs.length hi=xs.length)/\Q (.ref a) H
theorem zT6:SlR X (rSlW X.K):=by
 intro a5 s σ H x v vl vu lo hi sl Q I rx hs pl pu h
 obtain⟨a,xs,rfl,hx,hw,q⟩:=h
 cases rx
 obtain⟨its,r,ht,hz⟩:=I.tuple hx
 have ah:its.toArray.size=xs.length:=by rw[A9];exact r.length.symm
 refine⟨"tuple",_,PyProof.Rows.slot_tuple_getitem.lookup,ht.typeIs,?_⟩
 exact zN7 ht hs pl pu (by rw[ah];exact hw.1) (by rw[ah];exact hw.2) ⟨.ref a,H,I,rfl,q⟩
def rSl(K:A5):V->Option Int->Option Int->Hp->VK->Prop:=fun x lo hi H Q=>(rSlT K x lo hi H Q∨rSlL K x lo hi H Q)∨rSlW K x lo hi H Q
theorem kSl(h:X.K=K):SlR X (rSl K):=by subst h;exact(zVP.or zT7).or zT6
theorem zUI{fl fh:VP}(h:fSl fa fl fh δ=some (d,δ')): ∃x δ1 l δ2 u,fa δ=some (x,δ1)/\fl δ1=some (l,δ2)/\fh δ2=some (u,δ')/\oSl x l u=some d:=by
 unfold fSl at h
 cases h1:fa δ with
 | none => rw [h1] at h;cases h
 |some p=>
  rw[h1] at h
  cases h2:fl p.2 with
  | none => simp [h2] at h
  |some q=>
   simp only[Ae,h2] at h
   cases h3:fh q.2 with
   | none => simp [h3] at h
   |some s=>
    simp only[Ae,h3] at h
    cases h4:oSl p.1 q.1 s.1 with
    |none=>rw[h4] at h;cases h
    |some c=>
     rw[h4] at h
     cases h
     exact⟨p.1,p.2,q.1,q.2,s.1,rfl,h2,h3,h4⟩
theorem zK3{lo hi:Option Expr}{p2:Pos}{fl fh:VP}(hK:X.K=K)(ha:PE X a (TV K ml pa ta ia fa))(hl:PO X lo (TPO K ml pb fl))(hh:PO X hi (TPO K ml pc fh))(hs:(pb && pc || (ta && ia))=true:=by rfl):
  PE X (.Subscript a (.Slice lo hi none p2) pos) (TV K ml (pa && pb && pc) true ia (fSl fa fl fh)) := (zQM (kSl hK) ha hl hh).imp fun σ H Q ⟨B,O,δ,d,δ3,S,q,k⟩ => by
 obtain⟨x,δ1,l,δ2,u,h1,h2,h3,h4⟩:=zUI q
 refine⟨B,O,δ,x,δ1,S,h1,fun v1 H1 R1=>⟨B,O,δ1,l,δ2,R1.sta,h2,fun H2 R2=>⟨B,O,δ2,u,δ3,R2.sta,h3,fun H3 R3=> ?_⟩⟩⟩
 have hx:Rep K (av B O ia) H3 (at_ B O ta) v1 x:=by
  rcases(Fa _ _).mp hs with z|z
  ·obtain⟨z1,z2⟩:=(A1 _ _).mp z
   exact(R1.rep.same (R2.pur z1)).same (R3.pur z2)
  ·obtain⟨z1,z2⟩:=(A1 _ _).mp z
   subst z1 z2
   exact(R1.rep.fr R2.frm (fun a z=> .inr z) fun a z=> .inr z).fr R3.frm (fun a z=> .inr z) fun a z=> .inr z
 have f7:(pa && pb && pc)=true->Same H H3:=fun z=>by
  simp only[A1] at z
  exact((R1.pur z.1.1).trans (R2.pur z.1.2)).trans (R3.pur z.2)
 have hfr:=(R1.frm.trans R2.frm).trans R3.frm
 cases x with
 |lst ds=>
  cases h4
  obtain⟨a,xs,rfl,sq,r⟩:=hx.seq rfl
  rcases sq with sq|sq
  ·exact .inl (.inr ⟨a,xs,rfl,sq,fun p hp => k _ _ ⟨R3.sta.same (zA9 hp),hfr.trans (zA9 hp).fr,fun z => (f7 z).trans (zA9 hp),.lst zAR (R3.sta.new hp) ((zIB r l u).same (zA9 hp))⟩⟩)
  ·cases hx with
   | lst q n r' => exact .inl (.inr ⟨a,_,rfl,SqL.of q,fun p hp => k _ _ ⟨R3.sta.same (zA9 hp),hfr.trans (zA9 hp).fr,fun z => (f7 z).trans (zA9 hp),.lst zAR (R3.sta.new hp) ((zIB r' l u).same (zA9 hp))⟩⟩)
   | fzl q r' => exact .inl (.inr ⟨a,_,rfl,q.sq,fun p hp => k _ _ ⟨R3.sta.same (zA9 hp),hfr.trans (zA9 hp).fr,fun z => (f7 z).trans (zA9 hp),.lst zAR (R3.sta.new hp) ((zIB r' l u).same (zA9 hp))⟩⟩)
 |tup ds=>
  cases h4
  cases hx with
  |tup q r'=>
   by_cases hw:HT.sIx ds.length 0 l=0/\HT.sIx ds.length ds.length u=ds.length
   ·refine .inr ⟨_,_,rfl,q,by rw [r'.length];exact hw,k _ _ ⟨R3.sta,hfr,f7,?_⟩⟩
    have e:cutD ds l u=ds:=by
     unfold cutD
     rw[hw.1,hw.2]
     simp
    rw[e]
    exact .tup q r'
   ·exact .inl (.inl ⟨_,_,rfl,q,by rw[r'.length];exact hw,fun p hp=>k _ _ ⟨R3.sta.same (zA9 hp),hfr.trans (zA9 hp).fr,fun z=>(f7 z).trans (zA9 hp),.tup (SqT.of zAR) ((zIB r' l u).same (zA9 hp))⟩⟩)
 |_=>cases h4
end
inductive Ou where
 |nx (δ:Ev)|rt (d:Dat) (δ:Ev)|bk (δ:Ev)|ct (δ:Ev)
abbrev VS:=Ev->Option Ou
def Post(K:A5)(ml:List Nat)(B:Bs)(D:Ends):Ou->Prop
 | .nx δ'=> ∀σ' H' O',Sta K ml B O' H' σ' δ'->D.nx σ' H'
 | .rt d δ'=> ∀v σ' H' O',Sta K ml B O' H' σ' δ'->Rep K (rz B) H' (rz B) v d->D.rt v H'
 | .bk δ'=> ∀σ' H' O',Sta K ml B O' H' σ' δ'->D.bk σ' H'
 | .ct δ'=> ∀σ' H' O',Sta K ml B O' H' σ' δ'->D.ct σ' H'
def TSt(K:A5)(ml:List Nat)(g:VS):TS:=fun D σ H=> ∃B O δ o,Sta K ml B O H σ δ/\g δ=some o/\Post K ml B D o
section
variable{X:Cx}{K:A5}{ml:List Nat}{e a b c:Expr}{es:List Expr}{pa ta ia pb tb ib pc tc ic pu bt bi ps bs:Bool}{fa fb fc f:VF}{B B':Bs}{O:Nat->Option Addr}{H H1 H':Hp}{σ:St}{δ δ':Ev}{v:V}{d:Dat}{p:Addr}{pos:Pos}{st:Stmt}{rest:List Stmt}{g g':VS}
noncomputable def sNil:VS:=fun δ=>some (.nx δ)
noncomputable def sSeq(g g':VS):VS:=fun δ=>(g δ).bind fun o=>match o with
 | .nx δ'=>g' δ'
 |o=>some o
theorem zAI:PSs X [] (TSt K ml sNil):=zNW.imp fun D σ H q0=>by
 obtain⟨B,O,δ,o,S,q,k⟩:=q0
 cases q
 exact k σ H O S
theorem zA3(h1:PS X st (TSt K ml g))(h2:PSs X rest (TSt K ml g')):PSs X (st::rest) (TSt K ml (sSeq g g')):=(zGE h1 h2).imp fun D σ H q0=>by
 obtain⟨B,O,δ,o,S,q,k⟩:=q0
 unfold sSeq at q
 cases h1:g δ with
 |none=>rw[h1] at q;cases q
 |some z=>
  rw[h1] at q
  refine⟨B,O,δ,z,S,h1,?_⟩
  cases z with
  |nx δ1=>exact fun σ' H' O' S'=>⟨B,O',δ1,o,S',q,k⟩
  |rt d δ1=>cases q;exact k
  |bk δ1=>cases q;exact k
  |ct δ1=>cases q;exact k
theorem zA5(h1:PS X st (TSt K ml g)):PSs X [st] (TSt K ml g):=(zGE h1 zNW).imp fun D σ H ⟨B,O,δ,o,S,q,k⟩=>⟨B,O,δ,o,S,q,by cases o<;>exact k⟩
noncomputable def sRet(f:VF):VS:=fun δ=>(f δ).map fun p=> .rt p.1 p.2
theorem zAD(h:PE X e (TV K ml pu bt bi f))(ht:bt=true:=by rfl):PS X (.Return (some e) pos) (TSt K ml (sRet f)):=(zRY h).imp fun D σ H q0=>by
 obtain⟨B,O,δ,o,S,q,k⟩:=q0
 unfold sRet at q
 cases h1:f δ with
 |none=>rw[h1] at q;cases q
 |some p=>
  rw[h1] at q
  cases q
  subst ht
  exact⟨B,O,δ,p.1,p.2,S,h1,fun v H' R=>k v σ H' O R.sta (R.rep.mono R.sta.rza R.sta.rzn)⟩
noncomputable def sIf(t:VB)(g g':VS):VS:=fun δ=>(t δ).bind fun p=>if p.1=true then g p.2 else g' p.2
theorem zAY{x y:List Stmt}{t:VB}(ht:PT X c (TB K ml pc t))(ha:PSs X x (TSt K ml g))(hb:PSs X y (TSt K ml g')):PS X (.If c x y pos) (TSt K ml (sIf t g g')):=(zWY ht ha hb).imp fun D σ H q0=>by
 obtain⟨B,O,δ,o,S,q,k⟩:=q0
 unfold sIf at q
 cases h1:t δ with
 |none=>rw[h1] at q;cases q
 |some p=>
  obtain⟨kk,δ1⟩:=p
  rw[h1] at q
  refine⟨B,O,δ,kk,δ1,S,h1,fun H1 R1=> ?_⟩
  cases kk with
  |true=>exact iteT ⟨B,O,δ1,o,R1.sta,q,k⟩
  |false=>exact iteF ⟨B,O,δ1,o,R1.sta,q,k⟩
abbrev VX:=Ev->Option (Sl×Ev)
inductive St1(K:A5)(B:Bs)(O:Nat->Option Addr)(H:Hp):Bs->V->Sl->Prop
 |va {v:V} {d:Dat}:St1 K B O H {B with kp:=[(v,d)]++B.kp} v (.va d)
 |ol {p:Addr} {xs:List V} {ds:List Dat}:H p=some (.lst xs)->xs.length=ds.length-> ¬Nn B O p->B.H0 p=none->St1 K B O H {B.add p with kp:=xs.zip ds++B.kp} (.ref p) (.ow (.lst ds))
 |od {p:Addr} {kvs:List (Key×V)} {ds:List Dat}:H p=some (.dK kvs)->kvs.length=ds.length-> ¬Nn B O p->B.H0 p=none->St1 K B O H {B.add p with kp:=(kvs.map Ew).zip ds++B.kp} (.ref p) (.ow (.dct (kvs.map Ex) ds))
theorem St1.fr{s:Sl}(h:St1 K B O H B' v s)(f:Fr (OA O) H H'):St1 K B O H' B' v s:=by
 cases h with
 |va=>exact .va
 |ol q l n z=>exact .ol (f _ _ q fun w=>absurd (.inr w) n) l n z
 |od q l n z=>exact .od (f _ _ q fun w=>absurd (.inr w) n) l n z
def TX(K:A5)(ml:List Nat)(f:VX):TE:=fun σ H Q=> ∃B O δ s δ',Sta K ml B O H σ δ/\f δ=some (s,δ')/\ ∀v H' B',Sta K ml B' O H' σ δ'->St1 K B O H' B' v s->Fr (OA O) H H'->Q v H'
noncomputable def xV(f:VF):VX:=fun δ=>(f δ).map fun p=>(.va p.1,p.2)
noncomputable def xO(f:VF):VX:=fun δ=>(f δ).map fun p=>(.ow p.1,p.2)
theorem zC9(h:PE X e (TV K ml pu true true f)):PE X e (TX K ml (xV f)):=h.imp fun σ H Q q0=>by
 obtain⟨B,O,δ,o,δ',S,q,k⟩:=q0
 unfold xV at q
 cases h1:f δ with
 | none => rw [h1] at q;cases q
 |some p=>
  rw[h1] at q
  cases q
  exact⟨B,O,δ,p.1,p.2,S,h1,fun v H' R=>k v H' _ (R.sta.keepV (ps:=[(v,p.1)]) fun z hz=>by
   rw[Af.mp hz]
   exact R.rep) .va R.frm⟩
theorem zFE{N:Addr->Prop}: ∀{xs:List V} {ds:List Dat},RepA K N H xs ds-> ∀z∈xs.zip ds,Rep K N H N z.1 z.2
 |_,_,.nil,z,hz=>nomatch hz
 |_,_,.cons h t,z,hz=>by
  rcases Ac.mp hz with e|e
  ·rw[e];exact h
  ·exact zFE t z e
theorem zGR{N:Addr->Prop}: ∀{xs:List V} {ds:List Dat},xs.length=ds.length->(∀z∈xs.zip ds,Rep K N H N z.1 z.2)->RepA K N H xs ds
 |[],[],_,_=> .nil
 |x::xs,d::ds,hl,h=> .cons (h (x,d) (Aw ..)) (zGR (by simpa using hl) fun z hz=>h z (Am _ hz))
theorem zGJ(h:PE X e (TN K ml pu f)):PE X e (TX K ml (xO f)):=h.imp fun σ H Q q0=>by
 obtain⟨B,O,δ,o,δ',S,q,k⟩:=q0
 unfold xO at q
 cases h1:f δ with
 |none=>rw[h1] at q;cases q
 |some p=>
  obtain⟨d,δ1⟩:=p
  rw[h1] at q
  cases q
  refine⟨B,O,δ,d,δ1,S,h1,fun p H' R=> ?_⟩
  have w:=R.own
  cases w with
  |lst q r=>exact k _ H' _ (R.sta.keepV (zFE r)) (.ol q r.length R.nz R.h0) R.frm
  |dct q r=>exact k _ H' _ (R.sta.keepV (zFE r)) (.od q (by simpa using r.length) R.nz R.h0) R.frm
theorem St1.bind{O':Nat->Option Addr}{s:Sl}{i:Nat}(h:St1 K B O H' B' v s)(S:Sta K ml B' O' H' σ δ)(hm:i∉ml)(hl:i<δ.length): ∃O'',Sta K ml B O'' H' (σ.set i (some v)) (δ.set i s):=by
 cases h with
 |va=>
  refine⟨_,Sta.unkeep (ps:=_) (S.setVa hm (S.kep _ (Ar _ (Af.mpr rfl))))⟩
 |ol q l n z=>
  refine⟨_,Sta.setOw (Sta.unkeep (B:=B.add _) S) hm hl (fun w=>n (.inl w)) z (.lst q (zGR l fun z hz=>S.kep z (Ar _ hz)))⟩
 |od q l n z=>
  refine⟨_,Sta.setOw (Sta.unkeep (B:=B.add _) S) hm hl (fun w=>n (.inl w)) z (.dct q (zGR (by simpa using l) fun z hz=>S.kep z (Ar _ hz)))⟩
noncomputable def sSet(i:Nat)(x:VX):VS:=fun δ=>(x δ).bind fun p=>if i<p.2.length then some (.nx (p.2.set i p.1)) else none
theorem zBJ{i:Nat}{y:Str}{x:VX}{aq:Pos}(hN:X.N.Nodup)(he:PE X e (TX K ml x))(hi:X.N[i]? =some y:=by rfl)(hx:Loc X.env.scope y:=by first|exact .inl rfl|exact .inr rfl)(hm:i∉ml:=by decide)(hs:F3 e (some (.Name y aq)) pos.line X.env=pure false:=by rfl)
  (hf : X.fn y = true ∨ X.env.scope.names.lookup y = some .local := by first | exact .inl rfl | exact .inr rfl | assumption) : PS X (.Assign [.Name y aq] e pos) (TSt K ml (sSet i x)) := (zWW hN hi hx he hs hf).imp fun D σ H ⟨B,O,δ,o,S,q,k⟩ => by
 unfold sSet at q
 cases h1:x δ with
 | none => rw [h1] at q;cases q
 |some p=>
  obtain⟨s,δ1⟩:=p
  rw[h1] at q
  have q:(if i<δ1.length then some (Ou.nx (δ1.set i s)) else none)=some o:=q
  split at q
  ·rename_i hl
   cases q
   refine⟨B,O,δ,s,δ1,S,h1,fun v H' B' S' h' f'=> ?_⟩
   obtain⟨O'',S''⟩:=h'.bind S' hm hl
   exact k _ _ _ S''
  ·cases q
noncomputable def zHC(i j:Nat)(x y:VX):VS:=fun δ=>(x δ).bind fun p=>(y p.2).bind fun q=>if i<q.2.length/\j<q.2.length then some (.nx ((q.2.set j q.1).set i p.1)) else none
theorem zI1{i j:Nat}{y z:Str}{fx fy:VX}{px py pt:Pos}{kt k2 pt2}(hc:X.calm=true)(hN:X.N.Nodup)(hi:X.N[i]? =some y)(hj:X.N[j]? =some z)(hij:i≠j)
  (hx:X.env.scope.names.lookup y=some .local) (hy:X.env.scope.names.lookup z=some .local) (ha:PE X a (TX K ml fx)) (hb:PE X b (TX K ml fy))
  (hw : Di [.Tuple [.Name y px,.Name z py] kt pt] (.Tuple [a,b] k2 pt2) X.env = pure (some [y,z])) (hmi : i ∉ ml := by decide) (hmj : j ∉ ml := by decide)
  (hs : Dh [.Tuple [.Name y px,.Name z py] kt pt] (.Tuple [a,b] k2 pt2) pos.line X.env = pure false := by rfl)
  (he : starEach (a :: [b]) X.env = (false,eval a X.env) :: starEach [b] X.env := by rfl) (he2 : starEach (b :: []) X.env = (false,eval b X.env) :: starEach [] X.env := by rfl) :
  PS X (.Assign [.Tuple [.Name y px,.Name z py] kt pt] (.Tuple [a,b] k2 pt2) pos) (TSt K ml (zHC i j fx fy)):=(zWX hc hN hi hj hij hx hy (zB1 ha (zB1 hb zCU he2) he) hw hs).imp fun D σ H ⟨B,O,δ,o,S,q,k⟩=>by
 unfold zHC at q
 cases h1:fx δ with
 | none => rw [h1] at q;cases q
 |some p=>
  obtain⟨s,δ1⟩:=p
  rw[h1] at q
  cases h2:fy δ1 with
  | none => simp [h2] at q
  |some p2=>
   obtain⟨s2,δ2⟩:=p2
   simp only[Ae,h2] at q
   split at q
   ·rename_i hl
    cases q
    refine⟨B,O,δ,s,δ1,S,h1,fun v H1 B1 S1 w1 f1=>⟨B1,O,δ1,s2,δ2,S1,h2,fun v2 H2 B2 S2 w2 f2=>⟨v,v2,rfl,?_⟩⟩⟩
    obtain⟨O3,S3⟩:=w2.bind S2 hmj hl.2
    obtain⟨O4,S4⟩:=(w1.fr f2).bind S3 hmi (by rw[B8];exact hl.1)
    rw[E7 _ _ (C2 hij)] at S4
    exact k _ _ _ S4
   ·cases q
abbrev VG:=Dat->Ev->Option Ev
def TGV(K:A5)(ml:List Nat)(h:VG):TG:=fun v σ H Q=> ∃B O δ d δ',Sta K ml B O H σ δ/\Rep K (Nn B O) H (Nn B O) v d/\h d δ=some δ'/\ ∀σ' O',Sta K ml B O' H σ' δ'->(∀i∈ml,σ'[i]? =σ[i]?)->Q σ' H
theorem PG.imp{t u:TG}(h:PG X e t)(k: ∀v σ H Q,u v σ H Q->t v σ H Q):PG X e u:=fun a5 s σ H v w Q I r z=>h a5 s σ H v w Q I r (k v σ H Q z)
theorem PGs.imp{t u:TGs}(h:PGs X es t)(k: ∀v σ H Q,u v σ H Q->t v σ H Q):PGs X es u:=fun a5 s σ H v w Q I r z=>h a5 s σ H v w Q I r (k v σ H Q z)
theorem PG.or{t u:TG}(h:PG X e t)(h':PG X e u):PG X e (fun v σ H Q=>t v σ H Q∨u v σ H Q):=fun a5 s σ H v w Q I r z=>by
 rcases z with z|z
 ·exact h a5 s σ H v w Q I r z
 ·exact h' a5 s σ H v w Q I r z
noncomputable def gN(i:Nat):VG:=fun d δ=>some (δ.set i (.va d))
theorem zAL{i:Nat}{x:Str}(hN:X.N.Nodup)(hi:X.N[i]? =some x:=by rfl)(hx:Loc X.env.scope x:=by first|exact .inl rfl|exact .inr rfl)(hm:i∉ml:=by decide)(hf:X.fn x=true∨X.env.scope.names.lookup x=some .local:=by first|exact .inl rfl|exact .inr rfl|assumption):PG X (.Name x pos) (TGV K ml (gN i)):=
 (zFH hN hi hx hf).imp fun v σ H Q q0 => by
  obtain⟨B,O,δ,d,δ',S,r,q,k⟩:=q0
  cases q
  exact k _ _ (S.setVa hm r) fun j hj=>Ax fun(z:i=j)=>hm (z▸hj)
abbrev VGs:=List Dat->Ev->Option Ev
def TGVs(K:A5)(ml:List Nat)(h:VGs):TGs:=fun vs σ H Q=> ∃B O δ ds δ',Sta K ml B O H σ δ/\RepA K (Nn B O) H vs ds/\h ds δ=some δ'/\ ∀σ' O',Sta K ml B O' H σ' δ'->(∀i∈ml,σ'[i]? =σ[i]?)->Q σ' H
noncomputable def zEO:VGs:=fun ds δ=>match ds with
 |[]=>some δ
 |_=>none
noncomputable def zB2(g:VG)(gs:VGs):VGs:=fun ds δ=>match ds with
 |d::r=>(g d δ).bind fun δ1=>gs r δ1
 |[]=>none
theorem zCJ:PGs X [] (TGVs K ml zEO):=zKB.imp fun vs σ H Q q0=>by
 obtain⟨B,O,δ,ds,δ',S,r,q,k⟩:=q0
 cases r with
 |nil=>cases q;exact⟨rfl,k _ _ S fun _ _=>rfl⟩
 |cons _ _=>cases q
theorem zAS{g:VG}{gs:VGs}(h1:PG X e (TGV K ml g))(h2:PGs X es (TGVs K ml gs))(hs:(assignEach (e::es) X.env).map (·.2)=assign e X.env::(assignEach es X.env).map (·.2):=by rfl):PGs X (e::es) (TGVs K ml (zB2 g gs)):=
 (zED h1 h2 hs).imp fun vs σ H Q q0 => by
  obtain⟨B,O,δ,ds,δ',S,r,q,k⟩:=q0
  cases r with
  | nil => cases q
  | @cons v vs d ds h t=>
   have q:((g d δ).bind fun δ1=>gs ds δ1)=some δ':=q
   cases h1:g d δ with
   |none=>rw[h1] at q;cases q
   |some δ1=>
    rw[h1] at q
    have S0:=S.keepV (zFE t)
    exact⟨v,vs,rfl,_,O,δ,d,δ1,S0,h,h1,fun σ1 O1 S1 m1=>⟨B,O1,δ1,ds,δ',S1.unkeep,zGR t.length fun z hz=>S1.kep z (Ar _ hz),q,fun σ2 O2 S2 m2=>k σ2 O2 S2 fun i hi=>(m2 i hi).trans (m1 i hi)⟩⟩
noncomputable def gTp(n:Nat)(gs:VGs):VG:=fun d δ=>(seqD d).bind fun ds=>if ds.length=n then gs ds δ else none
theorem zDV{gs:VGs}{k n:Nat}(hK:X.K=K)(hc:X.calm=true)(h:PGs X es (TGVs K ml gs))(hn:(assignEach es X.env).length=n:=by rfl)(hst:(assignEach es X.env).findIdx? (·.1)=none:=by rfl):PG X (.Tuple es k pos) (TGV K ml (gTp n gs)):=
 ((zU5 (K := K) hK hc h hn hst).or (yC6 (K := K) hK hc h hn hst)).imp fun v σ H Q q0 => by
  obtain⟨B,O,δ,d,δ',S,r,q,k⟩:=q0
  unfold gTp at q
  cases h1:seqD d with
  | none => rw [h1] at q;cases q
  |some ds=>
   rw[h1] at q
   have q:(if ds.length=n then gs ds δ else none)=some δ':=q
   split at q
   ·rename_i hl
    obtain⟨a,xs,rfl,sq,ra⟩:=r.seq h1
    have fin:TGVs K ml gs xs σ H Q:=⟨B,O,δ,ds,δ',S,ra,q,k⟩
    rcases sq with sq|sq
    ·exact .inr ⟨a,xs,rfl,sq,ra.length.trans hl,fin⟩
    ·exact .inl ⟨a,xs,rfl,sq,ra.length.trans hl,fin⟩
   ·cases q
noncomputable def sAsg(f:VF)(g:VG):VS:=fun δ=>(f δ).bind fun p=>(g p.1 p.2).map Ou.nx
theorem zEU{tg:Expr}{gg:VG}(he:PE X e (TV K ml pu true true f))(hg:PG X tg (TGV K ml gg))(hs:Dh [tg] e pos.line X.env=pure false:=by rfl)(hw:Di [tg] e X.env=pure none:=by rfl)
  (h1 : (assignEach [tg] X.env).map (·.2) = [assign tg X.env] := by rfl) : PS X (.Assign [tg] e pos) (TSt K ml (sAsg f gg)) := (zIZ he hg hs hw h1).imp fun D σ H ⟨B,O,δ,o,S,q,k⟩ => by
 unfold sAsg at q
 cases h1:f δ with
 | none => rw [h1] at q;cases q
 |some p=>
  obtain⟨d,δ1⟩:=p
  rw[h1] at q
  have q:(gg d δ1).map Ou.nx=some o:=q
  cases h2:gg d δ1 with
  |none=>rw[h2] at q;cases q
  |some δ2=>
   rw[h2] at q
   cases q
   exact⟨B,O,δ,d,δ1,S,h1,fun v H' R=>⟨B,O,δ1,d,δ2,R.sta,R.rep,h2,fun σ' O' S' _=>k σ' H' O' S'⟩⟩
def MuV(K:A5)(r:V->List V->Hp->VK->Prop)(m:List Dat->List Dat->Option (List Dat)):Prop:= ∀(H:Hp) (N:Addr->Prop) (l:Addr) (xs vs:List V) (ds es ds':List Dat) (Q:VK),
 H l=some (.lst xs)->N l->RepA K N H xs ds->RepA K N H vs es->m ds es=some ds'->(∀v xs',RepA K N H xs' ds'->Q v (upd H l (.lst xs')))->r (.ref l) vs H Q
noncomputable def ownL(δ:Ev)(i:Nat):Option (List Dat):=match δ[i]? with
 |some (.ow (.lst ds))=>some ds
 |_=>none
noncomputable def sMut(i:Nat)(m:List Dat->List Dat->Option (List Dat))(fs:VFs):VS:=fun δ=>(ownL δ i).bind fun _=>(fs δ).bind fun p=>(ownL p.2 i).bind fun ds=>(m ds p.1).map fun ds'=> .nx (p.2.set i (.ow (.lst ds')))
theorem zEX{i:Nat}{ds:List Dat}(h:ownL δ i=some ds):δ[i]? =some (.ow (.lst ds)):=by
 unfold ownL at h
 split at h
 ·cases h;assumption
 ·cases h
theorem zGS{N:Addr->Prop}{l:Addr}{o:HO}{xs:List V}{ds ys:List Dat}{zs:List V}(ho:H l=some (.lst zs))(hN:N l)(h:RepA K N H xs ds):RepA K N (upd H l o) xs ds:=
 h.fr (P:=fun b=>b=l) (fun b u q n=>by
  by_cases hb:b=l
  ·subst hb
   rw[ho] at q
   cases q
   exact absurd (n rfl) fun z=>z
  ·rw[zAX hb]
   exact q) fun a z=>z▸hN
theorem zBZ{i:Nat}{x:Str}{name:Str}{ak aa ek:Pos}{id:String}{r:V->List V->Hp->VK->Prop}{m:List Dat->List Dat->Option (List Dat)}{fs:VFs}(hK:X.K=K)(slot:Slot "list" name id) (hty:J8 (.builtin id)=pure (.type "method_descriptor")) (hm:MtR X id r) (hmu:MuV K r m)
  (ho:PE X (.Name x ek) (tVar i)) (ha:PA X (e::es) (TAV K ml pu true fs))
  (bn : Ec (.Name x ek) name X.env (eval (.Name x ek) X.env) = eval (.Name x ek) X.env := by rfl)
  (dh : ((Cj aa (starEach (e :: es) X.env)).all (fun x => !x.1) && (Ij aa (F6 [] X.env)).all (fun x => x.1.isSome)
   && decide ((e :: es).length + ([] : List F7).length + (if ([] : List F7).isEmpty then 0 else 1) < 30)) = true := by rfl)
  (bj : (ak.endLine == aa.line) = true := by rfl) (hs : starEach (e :: es) X.env = (false,eval e X.env) :: starEach es X.env := by rfl) (ay : (Cj aa (starEach es X.env)).any (·.1) = false := by rfl)
  (hsw : F3 (.Call (.Attribute (.Name x ek) name ak) (e :: es) [] aa) none pos.line X.env = pure false := by rfl) :
  PS X (.Expr (.Call (.Attribute (.Name x ek) name ak) (e::es) [] aa) pos) (TSt K ml (sMut i m fs)):=
 (zTG (kBm (K := K) hK G9 slot hty hm ho ha bn dh bj hs ay) hsw).imp fun D σ H q0 => by
  obtain⟨B,O,δ,o,S,q,k⟩:=q0
  unfold sMut at q
  cases h0:ownL δ i with
  | none => rw [h0] at q;cases q
  |some ds0=>
   rw[h0] at q
   have q : ((fs δ).bind fun p => (ownL p.2 i).bind fun ds => (m ds p.1).map fun ds' => Ou.nx (p.2.set i (.ow (.lst ds')))) = some o := q
   cases h1:fs δ with
   | none => rw [h1] at q;cases q
   |some p=>
    obtain⟨es',δ1⟩:=p
    rw[h1] at q
    have q:((ownL δ1 i).bind fun ds=>(m ds es').map fun ds'=>Ou.nx (δ1.set i (.ow (.lst ds'))))=some o:=q
    cases h2:ownL δ1 i with
    | none => rw [h2] at q;cases q
    |some ds=>
     rw[h2] at q
     have q:((m ds es').map fun ds'=>Ou.nx (δ1.set i (.ow (.lst ds'))))=some o:=q
     cases h3:m ds es' with
     | none => rw [h3] at q;cases q
     |some ds'=>
      rw[h3] at q
      cases q
      obtain⟨l,e1,e2,w⟩:=S.ow i _ (zEX h0)
      cases w with
      |lst hl0 _=>
       refine⟨.ref l,e2,.inl ⟨rfl,_,SqL.of hl0⟩,B,O,δ,es',δ1,S,h1,fun vs H1 R=> ?_⟩
       obtain⟨l',e3,_,w1⟩:=R.sta.ow i _ (zEX h2)
       rw[e1] at e3
       cases e3
       cases w1 with
       |lst hl1 r1=>
        refine hmu H1 (Nn B O) l _ vs ds es' ds' _ hl1 (.inr ⟨i,e1⟩) r1 R.rep h3 fun v xs' r2=> ?_
        exact k σ _ O (R.sta.wrote e1 (fun z=>z) (.lst zAR (zGS (ys:=[]) hl1 (.inr ⟨i,e1⟩) r2)))
noncomputable def mApp:List Dat->List Dat->Option (List Dat)
 |ds,[d]=>if ds.length<16777216 then some (ds++[d]) else none
 |_,_=>none
theorem zDD:MuV K zNT mApp:=by
 intro H N l xs vs ds es ds' Q hl hN rx re h k
 cases re with
 | nil => cases h
 | @cons v vs d es hd t=>
  cases t with
  | cons _ _ => cases h
  |nil=>
   simp only[mApp] at h
   split at h
   ·rename_i hz
    cases h
    exact⟨l,xs,v,rfl,rfl,hl,by rw[rx.length,Bb];exact hz,k _ _ (rx.snoc hd)⟩
   ·cases h
end
section
variable{X:Cx}{K:A5}{ml:List Nat}{e a b c:Expr}{es:List Expr}{pa ta ia pb tb ib pc tc ic pu bt bi ps bs:Bool}{fa fb fc f:VF}{B B':Bs}{O:Nat->Option Addr}{H H1 H':Hp}{σ:St}{δ δ':Ev}{v:V}{d:Dat}{p:Addr}{pos:Pos}{st:Stmt}{rest:List Stmt}{g g':VS}
noncomputable def zHB(nxt:VS):Ou->Option Ou
 | .nx δ=>nxt δ
 | .ct δ=>nxt δ
 | .bk δ=>some (.nx δ)
 | .rt d δ=>some (.rt d δ)
open Classical in
def Walk(K:A5)(J:It)(kps:List (V×Dat))(ds:List Dat):Prop:= ∀(N:Addr->Prop) (H:Hp),(∀p∈kps,Rep K N H N p.1 p.2)→
 (∀(i:Nat) (d:Dat),ds[i]? =some d->J.go i H/\ ∀x H',J.yld i H x H'->Same H H'/\Rep K N H' N x d)/\J.stop ds.length H
abbrev VI:=Ev->Option (List Dat×Ev)
def TIV(K:A5)(ml:List Nat)(pu:Bool)(f:VI):TI:=fun σ H R=> ∃B O δ ds δ',Sta K ml B O H σ δ/\f δ=some (ds,δ')∧
 ∀J kps H',Sta K ml {B with kp:=kps++B.kp} O H' σ δ'->Fr (OA O) H H'->(pu=true->Same H H')->Walk K J kps ds->R J H'
theorem PI.imp{tg:Expr}{t u:TI}(h:PI X tg e t)(k: ∀σ H R,u σ H R->t σ H R):PI X tg e u:=fun a5 s σ H R I w=>h a5 s σ H R I (k σ H R w)
theorem PI.or{tg:Expr}{t u:TI}(h:PI X tg e t)(h':PI X tg e u):PI X tg e (fun σ H R=>t σ H R∨u σ H R):=fun a5 s σ H R I z=>by
 rcases z with z|z
 ·exact h a5 s σ H R I z
 ·exact h' a5 s σ H R I z
noncomputable def iSeq(f:VF):VI:=fun δ=>(f δ).bind fun p=>(seqD p.1).map fun ds=>(ds,p.2)
theorem zPY{a:Addr}{ds:List Dat}:Walk K (Itl K a) [(.ref a,.lst ds)] ds:=by
 intro N H h
 have r:=h _ (Af.mpr rfl)
 have fin: ∀xs,SqL K H a xs->RepA K N H xs ds->(∀(i:Nat) (d:Dat),ds[i]? =some d->(Itl K a).go i H/\ ∀x H',(Itl K a).yld i H x H'->Same H H'/\Rep K N H' N x d)/\(Itl K a).stop ds.length H:=fun xs sq r=>by
  refine⟨fun i d e=> ?_,xs,sq,by rw[r.length];exact Ag _⟩
  obtain⟨x,e1,r1⟩:=r.get e
  refine⟨⟨xs,x,sq,e1⟩,fun y H' hy=> ?_⟩
  obtain⟨e2,e3⟩:=hy
  subst e2
  have:=e3 xs sq
  rw[e1] at this
  cases this
  exact⟨Same.refl _,r1⟩
 cases r with
 |lst q n r=>exact fin _ (SqL.of q) r
 |fzl q r=>exact fin _ q.sq r
theorem zPV{a:Addr}{ds:List Dat}:Walk K (Itt K a) [(.ref a,.tup ds)] ds:=by
 intro N H h
 have r:=h _ (Af.mpr rfl)
 cases r with
 |tup sq r=>
  refine⟨fun i d e=> ?_,_,sq,by rw[r.length];exact Ag _⟩
  obtain⟨x,e1,r1⟩:=r.get e
  refine⟨⟨_,x,sq,e1⟩,fun y H' hy=> ?_⟩
  obtain⟨e2,e3⟩:=hy
  subst e2
  have:=e3 _ sq
  rw[e1] at this
  cases this
  exact⟨Same.refl _,r1⟩
theorem zE0{tg:Expr}(hK:X.K=K)(h:PE X e (TV K ml pu true true f)):PI X tg e (TIV K ml pu (iSeq f)):=((zYR (K:=K) hK h).or (yC5 (K:=K) hK h)).imp fun σ H R q0=>by
 obtain⟨B,O,δ,ds,δ',S,q,k⟩:=q0
 unfold iSeq at q
 cases h1:f δ with
 | none => rw [h1] at q;cases q
 |some p=>
  obtain⟨x,δ1⟩:=p
  rw[h1] at q
  cases x with
  |lst ds'=>
   cases q
   refine .inl ⟨B,O,δ,_,δ1,S,h1,fun v H1 R1=> ?_⟩
   obtain⟨a,xs,rfl,sq,r⟩:=R1.rep.seq rfl
   refine⟨a,rfl,?_,k _ [(.ref a,.lst ds)] H1 (R1.sta.keepV fun p hp=>by rw[Af.mp hp];exact R1.rep) R1.frm R1.pur zPY⟩
   have r:=R1.rep
   cases r with
   |lst q _ _=>exact⟨_,SqL.of q⟩
   |fzl q _=>exact⟨_,q.sq⟩
  |tup ds'=>
   cases q
   refine .inr ⟨B,O,δ,_,δ1,S,h1,fun v H1 R1=> ?_⟩
   obtain⟨a,xs,rfl,sq,r⟩:=R1.rep.seq rfl
   refine⟨a,rfl,?_,k _ [(.ref a,.tup ds)] H1 (R1.sta.keepV fun p hp=>by rw[Af.mp hp];exact R1.rep) R1.frm R1.pur zPV⟩
   have r:=R1.rep
   cases r with
   |tup q _=>exact⟨_,q⟩
  |_=>cases q
noncomputable def rngD(lo:Int)(n:Nat):List Dat:=(Bv n).map fun k:Nat=> .int (lo+k)
noncomputable def iR1(f:VF):VI:=fun δ=>(f δ).bind fun p=>match p.1 with
 | .int j=>if -4611686018427387904<=j/\j<4611686018427387904 then some (rngD 0 j.toNat,p.2) else none
 |_=>none
theorem zQG{lo:Int}{n i:Nat}{d:Dat}(h:(rngD lo n)[i]? =some d):i<n/\d= .int (lo+i):=by
 unfold rngD at h
 rw[Co] at h
 cases h1:(Bv n)[i]? with
 |none=>rw[h1] at h;cases h
 |some k=>
  rw[h1] at h
  cases h
  have:=A6.mp h1
  obtain⟨hl,e⟩:=this
  rw[List.length_range] at hl
  rw[List.getElem_range] at e
  subst e
  exact⟨hl,rfl⟩
theorem zPW{lo:Int}{n:Nat}:Walk K (Itr lo n) [] (rngD lo n):=by
 intro N H _
 refine⟨fun i d e=> ?_,by simp[Itr,rngD]⟩
 obtain⟨hl,rfl⟩:=zQG e
 refine⟨hl,fun x H' hy=> ?_⟩
 obtain⟨rfl,rfl⟩:=hy
 exact⟨Same.refl _,.int _⟩
theorem zCH{tg:Expr}{p':Pos}(hg:Gl X "range") (hm:X.mg "range"=none) (h:PE X a (TV K ml pa ta ia fa)) (hs:starEach [a] X.env=[(false,eval a X.env)]:=by rfl) (hs1:starEach (a::[]) X.env=(false,eval a X.env)::starEach [] X.env:=by rfl):
  PI X tg (.Call (.Name "range" p') [a] [] pos) (TIV K ml pa (iR1 fa)):=(zNZ hg hm (zB1 h zCU hs1) hs).imp fun σ H R ⟨B,O,δ,ds,δ',S,q,k⟩=>by
 unfold iR1 at q
 cases h1:fa δ with
 | none => rw [h1] at q;cases q
 |some p=>
  obtain⟨x,δ1⟩:=p
  rw[h1] at q
  cases x with
  |int j=>
   have q:(if -4611686018427387904<=j/\j<4611686018427387904 then some (rngD 0 j.toNat,δ1) else none)=some (ds,δ'):=q
   split at q
   ·rename_i hj
    cases q
    have p62:(2:Int) ^ 62=4611686018427387904:=by decide
    refine⟨B,O,δ,_,_,S,h1,fun v H1 R1=>⟨j,?_,by rw[p62];exact hj.1,by rw[p62];exact hj.2,k _ [] H1 (R1.sta.keepV fun _ z=>nomatch z) R1.frm R1.pur zPW⟩⟩
    have r:=R1.rep
    cases r
    rfl
   ·cases q
  |_=>cases q
noncomputable def forV(gg:VG)(s:VS):List Dat->VS
 |[]=>fun δ=>some (.nx δ)
 |d::r=>fun δ=>(gg d δ).bind fun δ1=>(s δ1).bind (zHB (forV gg s r))
noncomputable def sFor(fi:VI)(gg:VG)(s:VS):VS:=fun δ=>(fi δ).bind fun p=>forV gg s p.1 p.2
theorem zGK{tg iter:Expr}{body:List Stmt}{fi:VI}{gg:VG}(hp:PassesOwn (model X.prog X.w) X.A X.env X.xe)(hc:X.calm=true)(hi:PI X tg iter (TIV K ml pu fi))(hg:PG X tg (TGV K ml gg))(hb:PSs X body (TSt K ml g))
  (hs : ∀ x,foldedSetIterable iter X.env x = pure x := by intro _;rfl) : PS X (.For tg iter body [] pos) (TSt K ml (sFor fi gg g)) := (zWZ hp hc hi hg hb hs).imp fun D σ H ⟨B,O,δ,o,S,q,k⟩ => by
 unfold sFor at q
 cases h1:fi δ with
 | none => rw [h1] at q;cases q
 |some p=>
  obtain⟨ds,δ1⟩:=p
  rw[h1] at q
  have q:forV gg g ds δ1=some o:=q
  refine⟨B,O,δ,ds,δ1,S,h1,fun J kps H1 S1 _ _ wk=> ?_⟩
  refine⟨fun i m σ H=>m=ds.length - i/\i<=ds.length/\ ∃O δ,Sta K ml {B with kp:=kps++B.kp} O H σ δ/\forV gg g (ds.drop i) δ=some o,⟨ds.length,rfl,D3 _,O,δ1,S1,q⟩,?_⟩
  rintro i m σ H ⟨rfl,hi,O,δ,S,hf⟩
  have w:=wk (Nn B O) H fun p hp=>S.kep p (Ar _ hp)
  by_cases hlt:i<ds.length
  ·obtain ⟨go,yl⟩ := w.1 i ds[i] (by simp [hlt])
   rw[Dw hlt] at hf
   refine .inr ⟨go,fun σ' H'=> ∃O δ,Sta K ml {B with kp:=kps++B.kp} O H' σ' δ/\forV gg g (ds.drop (i+1)) δ=some o,fun σ' H' w'=>⟨ds.length - (i+1),by omega,rfl,hlt,w'⟩,fun x H' hy=> ?_⟩
   obtain⟨sm,rx⟩:=yl x H' hy
   have hf:((gg ds[i] δ).bind fun δ1=>(g δ1).bind (zHB (forV gg g (ds.drop (i+1)))))=some o:=hf
   cases h2:gg ds[i] δ with
   | none => rw [h2] at hf;cases hf
   |some δ2=>
    rw[h2] at hf
    have hf:(g δ2).bind (zHB (forV gg g (ds.drop (i+1))))=some o:=hf
    refine⟨_,O,δ,ds[i],δ2,S.same sm,rx,h2,fun σ2 O2 S2 _=> ?_⟩
    cases h3:g δ2 with
    |none=>rw[h3] at hf;cases hf
    |some z=>
     rw[h3] at hf
     refine⟨_,O2,δ2,z,S2,h3,?_⟩
     cases z with
     |nx δ3=>exact fun σ' H' O' S'=>⟨O',δ3,S',hf⟩
     |ct δ3=>exact fun σ' H' O' S'=>⟨O',δ3,S',hf⟩
     |bk δ3=>cases hf;exact fun σ' H' O' S'=>k σ' H' O' S'.unkeep
     |rt d δ3=>cases hf;exact fun v σ' H' O' S' r=>k v σ' H' O' S'.unkeep r
  ·have e : i = ds.length := by omega
   subst e
   rw[Gg] at hf
   cases hf
   exact .inl ⟨w.2,k σ H O S.unkeep⟩
end
section
variable{X:Cx}{K:A5}{ml:List Nat}{e a b c:Expr}{es:List Expr}{pa ta ia pb tb ib pc tc ic pu bt bi ps bs:Bool}{fa fb fc f:VF}{B B':Bs}{O:Nat->Option Addr}{H H1 H':Hp}{σ:St}{δ δ':Ev}{v:V}{d:Dat}{p:Addr}{pos:Pos}{st:Stmt}{rest:List Stmt}{g g':VS}
theorem Sta.call{P:Addr->Prop}(S:Sta K ml B O H σ δ)(hl:δ'.length=δ.length)(h: ∀i:Nat,(δ'[i]? =δ[i]? /\ ∀a,O i=some a-> ¬P a)∨ ∃a d',O i=some a/\δ'[i]? =some (Sl.ow d')/\Own K (Nn B O) H' a d')
  (f:Fr P H H') (hP: ∀a,P a->OA O a):Sta K ml B O H' σ δ' where
 len:=by rw[hl,S.len]
 va := fun i d e => by
  rcases h i with⟨e1,_⟩|⟨a,d',_,e1,_⟩
  ·rw[e1] at e
   obtain⟨v,e2,r⟩:=S.va i d e
   exact⟨v,e2,r.fr f (fun a z=> .inr (hP a z)) fun a z=> .inr (hP a z)⟩
  ·rw[e1] at e
   cases e
 ow := fun i d e => by
  rcases h i with⟨e1,n⟩|⟨a,d',e2,e1,w⟩
  ·rw[e1] at e
   obtain⟨a,e2,e3,w⟩:=S.ow i d e
   exact⟨a,e2,e3,w.fr f (fun a z=> .inr (hP a z)) (n a e2)⟩
  ·rw[e1] at e
   cases e
   obtain⟨d0,q0⟩:=S.dom i a e2
   obtain⟨a',e3,e4,_⟩:=S.ow i d0 q0
   rw[e2] at e3
   cases e3
   exact⟨a,e2,e4,w⟩
 dom:=fun i a e=>by
  rcases h i with⟨e1,n⟩|⟨a,d',e2,e1,w⟩
  ·obtain⟨d0,q0⟩:=S.dom i a e
   exact⟨d0,e1.trans q0⟩
  ·exact⟨d',e1⟩
 inj:=S.inj
 old:=S.old
 zin:=fun a h'=>by
  obtain⟨o,q⟩:=S.zin a h'
  exact⟨o,f a o q fun z=>by
   obtain⟨i,e⟩:=hP a z
   exact absurd h' (S.old i a e).1⟩
 frm:=fun b o q n=>by
  have h1:=S.frm b o q n
  refine f b o h1 fun z=> ?_
  obtain⟨i,e⟩:=hP b z
  rcases(S.old i b e).2 with w|w
  ·exact n w
  ·rw[q] at w;cases w
 par:=S.par
 pin:=fun a h'=>by
  obtain⟨o,q⟩:=S.pin a h'
  by_cases z:P a
  ·obtain⟨i,e⟩:=hP a z
   rcases h i with⟨_,n⟩|⟨a',d',e2,e1,w⟩
   ·exact absurd z (n a e)
   ·rw[e] at e2
    cases e2
    obtain⟨o,q,_⟩:=w.soft
    exact⟨o,q⟩
  ·exact⟨o,f a o q fun y=>absurd y z⟩
 kep:=fun p hp=>(S.kep p hp).fr f (fun a z=> .inr (hP a z)) fun a z=> .inr (hP a z)
abbrev VFun:=List Dat->Option (Dat×List Dat)
def argP(ml:List Nat)(vs:List V):Addr->Prop:=fun a=> ∃i∈ml,vs[i]? =some (.ref a)
def Zp(Z:Addr->Prop)(ml:List Nat)(vs:List V):Addr->Prop:=fun a=>Z a∨argP ml vs a
structure zUX(K:A5)(ml:List Nat)(Z:Addr->Prop)(H:Hp)(vs:List V)(ds:List Dat):Prop where
 len:vs.length=ds.length
 mem: ∀i∈ml,i<ds.length
 va: ∀(i:Nat) (d:Dat),i∉ml->ds[i]? =some d-> ∃v,vs[i]? =some v/\Rep K (Zp Z ml vs) H (Zp Z ml vs) v d
 ow: ∀(i:Nat) (d:Dat),i∈ml->ds[i]? =some d-> ∃a,vs[i]? =some (.ref a)/\Own K (Zp Z ml vs) H a d/\¬Z a
 inj: ∀(i j:Nat) (a:Addr),i∈ml->j∈ml->vs[i]? =some (.ref a)->vs[j]? =some (.ref a)->i=j
 zin: ∀a,Z a-> ∃o,H a=some o
def spV(K:A5)(ml:List Nat)(n:Nat)(F:VFun):Sp:=fun vs H Q _=> ∃(Z:Addr->Prop) (ds:List Dat) (r:Dat) (os:List Dat),ds.length=n/\zUX K ml Z H vs ds/\F ds=some (r,os)∧
 ∀v H',Fr (argP ml vs) H H'->(∀(k i:Nat) (a:Addr) (o:Dat),ml[k]? =some i->vs[i]? =some (.ref a)->os[k]? =some o->Own K (Zp Z ml vs) H' a o)->Rep K (Zp Z ml vs) H' (Zp Z ml vs) v r->Q v H'
noncomputable def envD(ml:List Nat)(n:Nat)(ds:List Dat):Ev:=ds.mapIdx (fun i d=>if i∈ml then Sl.ow d else Sl.va d)++Aa (n - ds.length) Sl.no
noncomputable def outs(ml:List Nat)(δ:Ev):Option (List Dat):=ml.mapM fun(i:Nat)=>match(δ[i]? :Option Sl) with
 |some (Sl.ow d)=>some d
 |_=>none
noncomputable def runV(n:Nat)(ml:List Nat)(g:VS):VFun:=fun ds=>(g (envD ml n ds)).bind fun o=>match o with
 | .rt d δ=>(outs ml δ).map fun os=>(d,os)
 | .nx δ=>(outs ml δ).map fun os=>(.non,os)
 |_=>none
theorem zLF: ∀{ml:List Nat} {δ:Ev} {os:List Dat},outs ml δ=some os-> ∀(k i:Nat) (o:Dat),ml[k]? =some i->os[k]? =some o->δ[i]? =some (.ow o)
 | [],_,_,h,k,i,o,e1,e2 => by simp at e1
 | j :: ml,δ,os,h,k,i,o,e1,e2 => by
  unfold outs at h
  rw[K9] at h
  split at h
  ·rename_i d hd
   cases h2:(ml.mapM fun(i:Nat)=>match(δ[i]? :Option Sl) with
    |some (Sl.ow d)=>some d
    |_=>none:Option (List Dat)) with
   | none => rw [h2] at h;cases h
   |some os2=>
    rw[h2] at h
    cases h
    cases k with
    |zero=>
     cases e1
     cases e2
     exact hd
    |succ k=>exact zLF (ml:=ml) h2 k i o (by simpa using e1) (by simpa using e2)
  ·cases h
theorem zIP{N:List Str}{Z:Addr->Prop}{vs:List V}{ds:List Dat}(A:zUX K ml Z H vs ds)(hn:ds.length<=N.length):
  ∃mu:Nat->Option Addr,(∀i a,mu i=some a↔i∈ml/\vs[i]? =some (.ref a))/\Sta K ml ⟨Z,argP ml vs,H,mu,[]⟩ mu H (start N vs) (envD ml N.length ds):=by
 classical
 let mu : Nat -> Option Addr := fun i => if i ∈ ml then (match vs[i]? with
  | some (.ref a) => some a
  | _ => none) else none
 have hmu: ∀i a,mu i=some a↔i∈ml/\vs[i]? =some (.ref a):=fun i a=>by
  show(if i∈ml then(match vs[i]? with
   | some (.ref a) => some a
   | _ => none) else none) = some a ↔ _
  by_cases hi:i∈ml
  ·rw[if_pos hi]
   constructor
   ·intro h
    split at h
    ·rename_i b hb
     cases h
     exact⟨hi,hb⟩
    ·cases h
   ·rintro ⟨_,h⟩
    rw[h]
  ·rw[if_neg hi]
   exact⟨(fun h=>nomatch h),fun h=>absurd h.1 hi⟩
 have hN: ∀a,Nn ⟨Z,argP ml vs,H,mu,[]⟩ mu a->Zp Z ml vs a:=fun a h=>by
  rcases h with h|⟨i,h⟩
  ·exact .inl h
  ·exact .inr ⟨i,(hmu i a).mp h⟩
 have eo: ∀(i:Nat) (s:Sl),(envD ml N.length ds)[i]? =some s->(∃d,ds[i]? =some d/\s=if i∈ml then .ow d else .va d)∨s= .no:=fun i s h=>by
  unfold envD at h
  by_cases hi:i<ds.length
  ·rw [A7 (by simpa using hi),Hk] at h
   cases q:ds[i]? with
   |none=>rw[q] at h;cases h
   |some d=>rw[q] at h;cases h;exact .inl ⟨d,rfl,rfl⟩
  ·rw [Ai (by simpa using hi),Bz] at h
   split at h
   ·cases h;exact .inr rfl
   ·cases h
 have hst: ∀(i:Nat) (v:V),vs[i]? =some v->(start N vs)[i]? =some (some v):=fun i v h=>by
  unfold start
  have hi:i<vs.length:=(A6.mp h).1
  rw[A7 (by simpa using hi),Co,h]
  rfl
 refine⟨mu,hmu,?_,fun i d q=> ?_,fun i d q=> ?_,fun i a q=> ?_,fun i j a q1 q2=> ?_,fun i a q=> ?_,A.zin,Fr.refl _ _,⟨fun i a q=>((hmu i a).mp q).1,fun i _=>rfl⟩,fun a q=> ?_,fun p hp=>nomatch hp⟩
 ·unfold start envD
  have:=A.len
  simp
  omega
 ·rcases eo i _ q with⟨e,h1,h2⟩|h
  ·by_cases hi:i∈ml
   ·rw[if_pos hi] at h2;cases h2
   ·rw[if_neg hi] at h2
    cases h2
    obtain⟨v,e1,r⟩:=A.va i d hi h1
    exact⟨v,hst i v e1,r.mono hN hN⟩
  ·cases h
 ·rcases eo i _ q with⟨e,h1,h2⟩|h
  ·by_cases hi:i∈ml
   ·rw[if_pos hi] at h2
    cases h2
    obtain⟨a,e1,w,_⟩:=A.ow i d hi h1
    exact⟨a,(hmu i a).mpr ⟨hi,e1⟩,hst i _ e1,w.mono hN⟩
   ·rw[if_neg hi] at h2;cases h2
  ·cases h
 ·obtain⟨hi,e1⟩:=(hmu i a).mp q
  have hl:=A.mem i hi
  refine⟨ds[i],?_⟩
  unfold envD
  rw[A7 (by simpa using hl),Hk]
  simp[hl,hi]
 ·exact A.inj i j a ((hmu i a).mp q1).1 ((hmu j a).mp q2).1 ((hmu i a).mp q1).2 ((hmu j a).mp q2).2
 ·obtain⟨hi,e1⟩:=(hmu i a).mp q
  refine⟨fun z=> ?_,.inl ⟨i,hi,e1⟩⟩
  obtain⟨a',e2,_,n⟩:=A.ow i (ds[i]'(A.mem i hi)) hi (by simp[A.mem i hi])
  rw[e1] at e2
  cases e2
  exact n z
 ·obtain⟨i,hi,e1⟩:=q
  obtain⟨a',e2,w,n⟩:=A.ow i (ds[i]'(A.mem i hi)) hi (by simp[A.mem i hi])
  rw[e1] at e2
  cases e2
  obtain⟨o,q,_⟩:=w.soft
  exact⟨o,q⟩
theorem zUP{N ps:List Str}{vs:List V}{Q:VK}{E:XK}(hps:ps.length<=N.length)(h:spV K ml ps.length (runV N.length ml g) vs H Q E):TSt K ml g {nx:=fun _ H'=>Q .non H',rt:=Q} (start N vs) H:=by
 obtain⟨Z,ds,r,os,hn,AV,hF,k⟩:=h
 obtain⟨mu,hmu,S0⟩:=zIP (N:=N) AV (by rw[hn];exact hps)
 unfold runV at hF
 cases h1:g (envD ml N.length ds) with
 | none => rw [h1] at hF;cases hF
 |some o=>
  rw[h1] at hF
  refine⟨_,mu,_,o,S0,h1,?_⟩
  have fin: ∀(δ':Ev) (v:V) (σ':St) (H':Hp) (O':Nat->Option Addr),outs ml δ'=some os->Sta K ml ⟨Z,argP ml vs,H,mu,[]⟩ O' H' σ' δ'->Rep K (rz ⟨Z,argP ml vs,H,mu,[]⟩) H' (rz ⟨Z,argP ml vs,H,mu,[]⟩) v r->Q v H':=fun δ' v σ' H' O' ho S' hr'=>by
   have hz: ∀a,Zp Z ml vs a->rz ⟨Z,argP ml vs,H,mu,[]⟩ a:=fun a h=>by
    rcases h with h|⟨i,hi,e⟩
    ·exact .inl h
    ·exact .inr ⟨i,(hmu i a).mpr ⟨hi,e⟩⟩
   refine k v H' S'.frm (fun kk i a o e1 e2 e3=> ?_) (hr'.mono hz hz)
   have hd:=zLF ho kk i o e1 e3
   obtain⟨a',e4,_,w⟩:=S'.ow i o hd
   have hi:i∈ml:=Ck e1
   have:=(S'.par.2 i hi).trans ((hmu i a).mpr ⟨hi,e2⟩)
   rw[this] at e4
   cases e4
   refine w.mono fun b hb=> ?_
   rcases hb with hb|⟨j,hj,e5⟩
   ·exact .inl hb
   ·exact .inr ⟨j,(S'.par.2 j hj).trans ((hmu j b).mpr ⟨hj,e5⟩)⟩
  cases o with
  |rt d δ'=>
   have hF:(outs ml δ').map (fun os=>(d,os))=some (r,os):=hF
   cases h2:outs ml δ' with
   |none=>rw[h2] at hF;cases hF
   |some os'=>
    rw[h2] at hF
    cases hF
    exact fun v σ' H' O' S' hr'=>fin δ' v σ' H' O' h2 S' hr'
  |nx δ'=>
   have hF:(outs ml δ').map (fun os=>(Dat.non,os))=some (r,os):=hF
   cases h2:outs ml δ' with
   |none=>rw[h2] at hF;cases hF
   |some os'=>
    rw[h2] at hF
    cases hF
    exact fun σ' H' O' S'=>fin δ' .non σ' H' O' h2 S' .non
  |bk δ'=>cases hF
  |ct δ'=>cases hF
theorem Fun.okV{P:Al}{w:World}{mg:Str->Option Value}{base:Heap}{x qual:Str}{st:Stmt}{f:Addr}{fd:By}{N ps:List Str}{k:Nat}(F:Fun K x qual st f fd)(S:zAG N ps (zA4 st))(hps:ps.length<=N.length)
  (aj: ∀(cdv:Value) (A:Ba) (outer:List Env) (s:A2) (H:Hp) (E:XK),Room k (A.deeper (envOfC qual (zA4 st) s.heap.objs.size f cdv))→
   PSs (cxOf CX0 P w K mg base N qual (zA4 st) f cdv A outer s H E).nox (zB3 st) (TSt K ml g)):FnOk P w K mg base CX0 (k+1) f fd ps (spV K ml ps.length (runV N.length ml g)):=by
 refine F.ok S (fun vs H Q E h=> ?_) (fun cdv A outer s H vs Q E hr h=>⟨_,aj cdv A outer s H E hr,zUP hps h⟩)
 obtain⟨Z,ds,r,os,hn,AV,_⟩:=h
 rw[AV.len,hn]
inductive AV where
 |d (d:Dat)|o (j:Nat)
inductive RepG(K:A5)(N:Addr->Prop)(H:Hp)(σ:St):List V->List AV->Prop
 |nil:RepG K N H σ [] []
 |d {v:V} {vs:List V} {d:Dat} {as:List AV}:Rep K N H N v d->RepG K N H σ vs as->RepG K N H σ (v::vs) (.d d::as)
 |o {v:V} {vs:List V} {j:Nat} {as:List AV}:σ[j]? =some (some v)->RepG K N H σ vs as->RepG K N H σ (v::vs) (.o j::as)
abbrev VFg:=Ev->Option (List AV×Ev)
structure ResG(K:A5)(ml:List Nat)(B:Bs)(O:Nat->Option Addr)(H:Hp)(σ:St)(pu:Bool)(H':Hp)(δ':Ev)(vs:List V)(as:List AV):Prop where
 sta:Sta K ml B O H' σ δ'
 frm:Fr (OA O) H H'
 pur:pu=true->Same H H'
 rep:RepG K (Nn B O) H' σ vs as
def TAG(K:A5)(ml:List Nat)(pu:Bool)(f:VFg):TA:=fun σ H Q=> ∃B O δ as δ',Sta K ml B O H σ δ/\f δ=some (as,δ')/\ ∀vs H',ResG K ml B O H σ pu H' δ' vs as->Q vs H'
noncomputable def aNil:VFg:=fun δ=>some ([],δ)
noncomputable def aE(f:VF)(fs:VFg):VFg:=fun δ=>(f δ).bind fun p=>(fs p.2).map fun q=>(.d p.1::q.1,q.2)
noncomputable def slot(δ:Ev)(j:Nat):Option Dat:=match δ[j]? with
 |some (.va d)=>some d
 |some (.ow d)=>some d
 |_=>none
noncomputable def aO(j:Nat)(fs:VFg):VFg:=fun δ=>(slot δ j).bind fun _=>(fs δ).map fun q=>(.o j::q.1,q.2)
theorem zA6:PA X [] (TAG K ml true aNil):=zCU.imp fun σ H Q q0=>by
 obtain⟨B,O,δ,d,δ',S,q,k⟩:=q0
 cases q
 exact k [] H ⟨S,Fr.refl _ _,fun _=>Same.refl _,.nil⟩
theorem zA7{fs:VFg}(ha:PE X a (TV K ml pa true true fa))(hr:PA X es (TAG K ml ps fs))(hs:starEach (a::es) X.env=(false,eval a X.env)::starEach es X.env:=by rfl):PA X (a::es) (TAG K ml (pa && ps) (aE fa fs)):=(zB1 ha hr hs).imp fun σ H Q q0=>by
 obtain⟨B,O,δ,as,δ2,S,q,k⟩:=q0
 unfold aE at q
 cases h1:fa δ with
 | none => rw [h1] at q;cases q
 |some p=>
  obtain⟨x,δ1⟩:=p
  rw[h1] at q
  have q:((fs δ1).map fun q=>(AV.d x::q.1,q.2))=some (as,δ2):=q
  cases h2:fs δ1 with
  |none=>rw[h2] at q;cases q
  |some p2=>
   rw[h2] at q
   cases q
   refine⟨B,O,δ,x,δ1,S,h1,fun v1 H1 R1=>⟨B,O,δ1,_,_,R1.sta,h2,fun vs H2 R2=>k _ H2 ⟨R2.sta,R1.frm.trans R2.frm,fun z=> ?_,.d (R1.rep.fr R2.frm (fun a z=> .inr z) fun a z=> .inr z) R2.rep⟩⟩⟩
   obtain⟨z1,z2⟩:=(A1 _ _).mp z
   exact(R1.pur z1).trans (R2.pur z2)
theorem zIQ{j:Nat}{d:Dat}(h:slot δ j=some d):δ[j]? =some (.va d)∨δ[j]? =some (.ow d):=by
 unfold slot at h
 split at h
 ·cases h;exact .inl (by assumption)
 ·cases h;exact .inr (by assumption)
 ·cases h
theorem Sta.slot(S:Sta K ml B O H σ δ){j:Nat}{d:Dat}(h:slot δ j=some d): ∃v,σ[j]? =some (some v):=by
 rcases zIQ h with h|h
 ·obtain⟨v,e,_⟩:=S.va j d h
  exact⟨v,e⟩
 ·obtain⟨a,_,e,_⟩:=S.ow j d h
  exact⟨_,e⟩
theorem zB7{fs:VFg}{j:Nat}(ha:PE X a (tVar j))(hr:PA X es (TAG K ml ps fs))(hs:starEach (a::es) X.env=(false,eval a X.env)::starEach es X.env:=by rfl):PA X (a::es) (TAG K ml ps (aO j fs)):=(zB1 ha hr hs).imp fun σ H Q q0=>by
 obtain⟨B,O,δ,as,δ2,S,q,k⟩:=q0
 unfold aO at q
 cases h1:slot δ j with
 | none => rw [h1] at q;cases q
 |some d=>
  rw[h1] at q
  have q:((fs δ).map fun q=>(AV.o j::q.1,q.2))=some (as,δ2):=q
  cases h2:fs δ with
  |none=>rw[h2] at q;cases q
  |some p2=>
   rw[h2] at q
   cases q
   obtain⟨v,e⟩:=S.slot h1
   exact⟨v,e,B,O,δ,_,_,S,h2,fun vs H2 R2=>k _ H2 ⟨R2.sta,R2.frm,R2.pur,.o e R2.rep⟩⟩
theorem RepG.length: ∀{N:Addr->Prop} {vs:List V} {as:List AV},RepG K N H σ vs as->vs.length=as.length
 |_,_,_,.nil=>rfl
 |_,_,_,.d _ t=>congrArg (· +1) (RepG.length t)
 |_,_,_,.o _ t=>congrArg (· +1) (RepG.length t)
theorem RepG.getD: ∀{N:Addr->Prop} {vs:List V} {as:List AV} {i:Nat} {d:Dat},RepG K N H σ vs as->as[i]? =some (.d d)-> ∃v,vs[i]? =some v/\Rep K N H N v d
 |_,_,_,_,_,.nil,e=>by simp at e
 |_,_,_,0,_,.d h _,e=>by simp at e;subst e;exact⟨_,rfl,h⟩
 |_,_,_,0,_,.o h _,e=>by simp at e
 |_,_,_,i+1,_,.d _ t,e=>by
  obtain⟨u,h1,h2⟩:=RepG.getD (i:=i) t (by simpa using e)
  exact⟨u,by simpa using h1,h2⟩
 |_,_,_,i+1,_,.o _ t,e=>by
  obtain⟨u,h1,h2⟩:=RepG.getD (i:=i) t (by simpa using e)
  exact⟨u,by simpa using h1,h2⟩
theorem RepG.getO: ∀{N:Addr->Prop} {vs:List V} {as:List AV} {i j:Nat},RepG K N H σ vs as->as[i]? =some (.o j)-> ∃v,vs[i]? =some v/\σ[j]? =some (some v)
 |_,_,_,_,_,.nil,e=>by simp at e
 |_,_,_,0,_,.d h _,e=>by simp at e
 |_,_,_,0,_,.o h _,e=>by simp at e;subst e;exact⟨_,rfl,h⟩
 |_,_,_,i+1,_,.d _ t,e=>by
  obtain⟨u,h1,h2⟩:=RepG.getO (i:=i) t (by simpa using e)
  exact⟨u,by simpa using h1,h2⟩
 |_,_,_,i+1,_,.o _ t,e=>by
  obtain⟨u,h1,h2⟩:=RepG.getO (i:=i) t (by simpa using e)
  exact⟨u,by simpa using h1,h2⟩
noncomputable def argD(δ:Ev):AV->Option Dat
 | .d d=>some d
 | .o j=>slot δ j
noncomputable def zES(δ:Ev):List AV->Option (List Dat)
 |[]=>some []
 |a::as=>(argD δ a).bind fun d=>(zES δ as).map fun ds=>d::ds
theorem zK0: ∀{as:List AV} {ds:List Dat},zES δ as=some ds->as.length=ds.length/\ ∀(i:Nat) (d:Dat),ds[i]? =some d-> ∃a,as[i]? =some a/\argD δ a=some d
 | [],ds,h => by cases h;exact ⟨rfl,fun i d e => by simp at e⟩
 | a :: as,ds,h => by
  unfold zES at h
  cases h1:argD δ a with
  | none => rw [h1] at h;cases h
  |some d=>
   rw[h1] at h
   cases h2:zES δ as with
   | none => simp [h2] at h
   |some ds'=>
    simp only[Ae,h2] at h
    cases h
    obtain⟨l,g⟩:=zK0 h2
    refine⟨by simp[l],fun i e he=> ?_⟩
    cases i with
    |zero=>cases he;exact⟨a,rfl,h1⟩
    |succ i=>
     obtain⟨b,e1,e2⟩:=g i e (by simpa using he)
     exact⟨b,by simpa using e1,e2⟩
noncomputable def jsOf:List AV->List Nat
 |[]=>[]
 | .d _::as=>jsOf as
 | .o j::as=>j::jsOf as
theorem zHR: ∀{as:List AV} {i j:Nat},as[i]? =some (.o j)->j∈jsOf as
 |[],_,_,e=>by simp at e
 | .d _::as,0,j,e=>by simp at e
 | .o k::as,0,j,e=>by simp at e;subst e;exact Aw
 | .d _::as,i+1,j,e=>zHR (as:=as) (i:=i) (by simpa using e)
 | .o k::as,i+1,j,e=>Am _ (zHR (as:=as) (i:=i) (by simpa using e))
theorem zR4: ∀{as:List AV} {j:Nat},j∈jsOf as-> ∃i:Nat,as[i]? =some (AV.o j)
 | [],_,h => nomatch h
 | .d _ :: as,j,h => by
  obtain⟨i,e⟩:=zR4 (as:=as) h
  exact⟨i+1,by simpa using e⟩
 | .o k :: as,j,h => by
  rcases Ac.mp h with e|e
  ·exact ⟨0,by rw [e];rfl⟩
  ·obtain⟨i,e⟩:=zR4 (as:=as) e
   exact⟨i+1,by simpa using e⟩
theorem zLK: ∀{as:List AV} {i k j:Nat},(jsOf as).Nodup->as[i]? =some (.o j)->as[k]? =some (.o j)->i=k
 |[],_,_,_,_,e,_=>by simp at e
 | .d _::as,0,_,j,_,e,_=>by simp at e
 | .d _::as,_+1,0,j,_,_,e=>by simp at e
 | .d _::as,i+1,k+1,j,n,e1,e2=>congrArg (· +1) (zLK (as:=as) n (by simpa using e1) (by simpa using e2))
 | .o x::as,0,0,j,_,_,_=>rfl
 | .o x::as,0,k+1,j,n,e1,e2=>by
  simp at e1
  subst e1
  have h:as[k]? =some (.o x):=by simpa using e2
  exact absurd (zHR h) (C4.mp n).1
 | .o x::as,i+1,0,j,n,e1,e2=>by
  simp at e2
  subst e2
  have h:as[i]? =some (.o x):=by simpa using e1
  exact absurd (zHR h) (C4.mp n).1
 | .o x::as,i+1,k+1,j,n,e1,e2=>congrArg (· +1) (zLK (as:=as) (C4.mp n).2 (by simpa using e1) (by simpa using e2))
noncomputable def zR0(δ:Ev)(as:List AV)(i:Nat):Bool:=match as[i]? with
 |some (.o j)=>match δ[j]? with
  |some (.ow _)=>true
  |_=>false
 |_=>false
noncomputable def zET(mF:List Nat):List AV->Nat->Bool
 |[],_=>true
 | .d _::as,i=>zET mF as (i+1)
 | .o _::as,i=>decide (i∈mF) && zET mF as (i+1)
theorem zFB{mF:List Nat}: ∀{as:List AV} {k i j:Nat},zET mF as k=true->as[i]? =some (.o j)->k+i∈mF
 |[],_,_,_,_,e=>by simp at e
 | .d _::as,k,0,j,h,e=>by simp at e
 | .o _::as,k,0,j,h,e=>by
  simp only[zET,A1,decide_eq_true_eq] at h
  exact h.1
 | .d _::as,k,i+1,j,h,e=>by
  have:=zFB (as:=as) (k:=k+1) (i:=i) (j:=j) h (by simpa using e)
  rwa[show k+(i+1)=k+1+i by omega]
 | .o _::as,k,i+1,j,h,e=>by
  simp only[zET,A1] at h
  have:=zFB (as:=as) (k:=k+1) (i:=i) (j:=j) h.2 (by simpa using e)
  rwa[show k+(i+1)=k+1+i by omega]
noncomputable def zGG:Dat->Bool
 | .lst ds=>zHD ds
 | .dct _ ds=>zHD ds
 |_=>false
theorem Own.kids{N N':Addr->Prop}{a:Addr}(w:Own K N H a d)(h:zGG d=true):Own K N' H a d:=by
 cases w with
 |lst q r=>exact .lst q (r.hard h)
 |dct q r=>exact .dct q (r.hard h)
noncomputable def putO(as:List AV):List Nat->List Dat->Ev->Ev
 |i::is,o::os,δ=>match as[i]? with
  |some (.o j)=>putO as is os (δ.set j (.ow o))
  |_=>putO as is os δ
 |_,_,δ=>δ
theorem zGD{as:List AV}: ∀{is:List Nat} {os:List Dat} {δ:Ev},(putO as is os δ).length=δ.length
 |[],_,_=>rfl
 |_::_,[],_=>rfl
 |i::is,o::os,δ=>by
  unfold putO
  split
  ·rw[zGD,B8]
  ·rw[zGD]
theorem zI5{as:List AV}: ∀{is:List Nat} {os:List Dat} {δ:Ev} (j:Nat),is.length=os.length->j<δ.length→
  (∃(k i:Nat) (o:Dat),is[k]? =some i/\os[k]? =some o/\as[i]? =some (AV.o j)/\(putO as is os δ)[j]? =some (Sl.ow o))∨((∀i∈is,as[i]? ≠some (AV.o j))/\(putO as is os δ)[j]? =δ[j]?)
 | [],[],δ,j,_,_ => .inr ⟨(fun i h => nomatch h),rfl⟩
 | i :: is,o :: os,δ,j,hl,hj => by
  unfold putO
  split
  ·rename_i j0 e0
   rcases zI5 (is:=is) (os:=os) (δ:=δ.set j0 (.ow o)) j (by simpa using hl) (by rw[B8];exact hj) with⟨k,i',o',h1,h2,h3,h4⟩|⟨h1,h2⟩
   ·exact .inl ⟨k + 1,i',o',by simpa using h1,by simpa using h2,h3,h4⟩
   ·by_cases hjj:j=j0
    ·subst hjj
     rw[Br hj] at h2
     exact .inl ⟨0,i,o,rfl,rfl,e0,h2⟩
    ·rw[Ax (C2 hjj)] at h2
     refine .inr ⟨fun i' hi'=> ?_,h2⟩
     rcases Ac.mp hi' with z|z
     ·rw[z,e0]
      intro w
      cases w
      exact hjj rfl
     ·exact h1 i' z
  ·rename_i hn
   rcases zI5 (is:=is) (os:=os) (δ:=δ) j (by simpa using hl) hj with⟨k,i',o',h1,h2,h3,h4⟩|⟨h1,h2⟩
   ·exact .inl ⟨k + 1,i',o',by simpa using h1,by simpa using h2,h3,h4⟩
   ·refine .inr ⟨fun i' hi' => ?_,h2⟩
    rcases Ac.mp hi' with z|z
    ·rw[z]
     exact fun w=>hn j w
    ·exact h1 i' z
noncomputable def zF6(mF:List Nat)(as:List AV)(δ:Ev):Bool:=mF.all (zR0 δ as) && decide (jsOf as).Nodup
noncomputable def zEJ(mF:List Nat)(as:List AV)(r:Dat)(os:List Dat):Bool:=(zET mF as 0 || r.hard) && (zET mF as 0 || os.all zGG) && decide (mF.length=os.length)
noncomputable def zAE(n:Nat)(mF:List Nat)(F:VFun)(fs:VFg):VF:=fun δ=>(fs δ).bind fun p=>(zES p.2 p.1).bind fun ds=>if ds.length=n/\zF6 mF p.1 p.2=true then(F ds).bind fun q=>if zEJ mF p.1 q.1 q.2=true then some (q.1,putO p.1 mF q.2 p.2) else none else none
theorem zGN{n:Nat}{mF:List Nat}{F:VFun}{fs:VFg}{Q:VK}(h:TV K ml (ps && mF.isEmpty) true true (zAE n mF F fs) σ H Q):zQA (spV K mF n F) [] E0 (TAG K ml ps fs) σ H Q:=by
 obtain⟨B,O,δ,d,δ2,S,q,k⟩:=h
 unfold zAE at q
 cases h1:fs δ with
 | none => rw [h1] at q;cases q
 |some p=>
  obtain⟨as,δ1⟩:=p
  rw[h1] at q
  have q : ((zES δ1 as).bind fun ds => if ds.length = n /\ zF6 mF as δ1 = true then (F ds).bind fun q => if zEJ mF as q.1 q.2 = true then some (q.1,putO as mF q.2 δ1) else none else none) = some (d,δ2) := q
  cases h2:zES δ1 as with
  | none => rw [h2] at q;cases q
  |some ds=>
   rw[h2] at q
   have q : (if ds.length = n /\ zF6 mF as δ1 = true then (F ds).bind fun q => if zEJ mF as q.1 q.2 = true then some (q.1,putO as mF q.2 δ1) else none else none) = some (d,δ2) := q
   split at q
   ·rename_i hc
    cases h3:F ds with
    | none => rw [h3] at q;cases q
    |some z=>
     obtain⟨r,os⟩:=z
     rw[h3] at q
     have q:(if zEJ mF as r os=true then some (r,putO as mF os δ1) else none)=some (d,δ2):=q
     split at q
     ·rename_i hb
      cases q
      obtain⟨hn,hc⟩:=hc
      simp only[zF6,A1,decide_eq_true_eq,B0] at hc
      simp only[zEJ,A1,decide_eq_true_eq] at hb
      obtain⟨hmu,hnd⟩:=hc
      obtain⟨⟨nu,o7⟩,ah⟩:=hb
      refine⟨B,O,δ,as,δ1,S,h1,fun vs H1 R=> ?_⟩
      show spV K mF n F (vs++[]) H1 Q E0
      rw[Bp]
      obtain⟨hal,hag⟩:=zK0 h2
      have hm: ∀i∈mF,∃j a x,as[i]? =some (.o j)/\δ1[j]? =some (.ow x)/\O j=some a/\vs[i]? =some (.ref a)/\Own K (Nn B O) H1 a x:=fun i hi=>by
       have:=hmu i hi
       unfold zR0 at this
       split at this
       ·rename_i j ej
        split at this
        ·rename_i x ex
         obtain⟨a,e1,e2,w⟩:=R.sta.ow j x ex
         obtain⟨v,e3,e4⟩:=R.rep.getO ej
         rw[e2] at e4
         cases e4
         exact⟨j,a,x,ej,ex,e1,e3,w⟩
        ·cases this
       ·cases this
      have hP: ∀a,argP mF vs a-> ∃i j,i∈mF/\as[i]? =some (.o j)/\O j=some a:=fun a q0=>by
       obtain⟨i,hi,e⟩:=q0
       obtain⟨j,a',x,e1,_,e2,e3,_⟩:=hm i hi
       rw[e] at e3
       cases e3
       exact⟨i,j,hi,e1,e2⟩
      have hPO: ∀a,argP mF vs a->OA O a:=fun a h=>by
       obtain⟨i,j,_,_,e⟩:=hP a h
       exact⟨j,e⟩
      have hZp: ∀a,Zp (fun a=>Nn B O a/\ ∀j∈jsOf as,O j≠some a) mF vs a->Nn B O a:=fun a h=>by
       rcases h with h|h
       ·exact h.1
       ·exact .inr (hPO a h)
      refine⟨fun a=>Nn B O a/\ ∀j∈jsOf as,O j≠some a,ds,_,os,hn,⟨by rw[<- hal,R.rep.length],fun i hi=> ?_,fun i x hi e=> ?_,fun i x hi e=> ?_,fun i j a hi hj e1 e2=> ?_,fun a h=>R.sta.nin h.1⟩,h3,fun v H2 f2 w2 r2=> ?_⟩
      ·obtain⟨j,a,x,e1,_⟩:=hm i hi
       rw[<- hal]
       exact(A6.mp e1).1
      ·obtain⟨a,e1,e2⟩:=hag i x e
       cases a with
       |d y=>
        cases e2
        obtain⟨v,e3,r⟩:=R.rep.getD e1
        exact⟨v,e3,r.mono hZp hZp⟩
       |o j=>
        obtain⟨v,e3,e4⟩:=R.rep.getO e1
        refine⟨v,e3,?_⟩
        rcases zIQ e2 with e5|e5
        ·obtain⟨v',e6,r⟩:=R.sta.va j x e5
         rw[e4] at e6
         cases e6
         exact r.mono hZp hZp
        ·obtain⟨a,e7,e6,w⟩:=R.sta.ow j x e5
         rw[e4] at e6
         cases e6
         refine(w.mono hZp).rep fun z=> ?_
         rcases z with z|z
         ·exact z.2 j (zHR e1) e7
         ·obtain⟨i',j',hi',e8,e9⟩:=hP a z
          have:j=j':=R.sta.inj j j' a e7 e9
          subst this
          have:=zLK hnd e1 e8
          subst this
          exact hi hi'
      ·obtain⟨a,e1,e2⟩:=hag i x e
       obtain⟨j,b,y,e3,e4,e5,e6,w⟩:=hm i hi
       rw[e3] at e1
       cases e1
       have e7 : slot δ1 j = some y := by unfold slot;rw [e4]
       have e2:slot δ1 j=some x:=e2
       rw[e7] at e2
       cases e2
       exact⟨b,e6,w.mono hZp,fun z=>z.2 j (zHR e3) e5⟩
      ·obtain⟨j1,b1,_,e3,_,e4,e5,_⟩:=hm i hi
       obtain⟨j2,b2,_,e6,_,e7,e8,_⟩:=hm j hj
       rw[e1] at e5
       cases e5
       rw[e2] at e8
       cases e8
       have:j1=j2:=R.sta.inj j1 j2 a e4 e7
       subst this
       exact zLK hnd e3 e6
      ·have S2:Sta K ml B O H2 σ (putO as mF os δ1):=by
        refine R.sta.call zGD (fun j=> ?_) f2 hPO
        by_cases hj:j<δ1.length
        ·rcases zI5 (as:=as) (is:=mF) (os:=os) (δ:=δ1) j ah hj with⟨kk,i,o,e1,e2,e3,e4⟩|⟨e1,e2⟩
         ·obtain⟨j',a,x,e5,_,e6,e7,_⟩:=hm i (Ck e1)
          rw[e3] at e5
          cases e5
          have w:=w2 kk i a o e1 e7 e2
          refine .inr ⟨a,o,e6,e4,?_⟩
          rcases(Fa _ _).mp o7 with z|z
          ·refine w.mono fun b hb => ?_
           by_cases hjs: ∃j'∈jsOf as,O j'=some b
           ·obtain⟨j',hj',e8⟩:=hjs
            obtain⟨i',e9⟩:=zR4 hj'
            have hi':=zFB z e9
            rw[Fk] at hi'
            obtain⟨j'',a'',_,e10,_,e11,e12,_⟩:=hm i' hi'
            rw[e9] at e10
            cases e10
            rw[e8] at e11
            cases e11
            exact .inr ⟨i',hi',e12⟩
           ·exact .inl ⟨hb,fun j' hj' e=>hjs ⟨j',hj',e⟩⟩
          ·exact w.kids (B0.mp z o (Ck e2))
         ·refine .inl ⟨e2,fun a ea hPa => ?_⟩
          obtain⟨i,j',hi,e3,e4⟩:=hP a hPa
          have:j=j':=R.sta.inj j j' a ea e4
          subst this
          exact e1 i hi e3
        ·refine .inl ⟨?_,fun a ea => ?_⟩
         ·rw [C9 (by rw [zGD];omega),C9 (by omega)]
         ·obtain⟨x,ex⟩:=R.sta.dom j a ea
          exact absurd (A6.mp ex).1 hj
       refine k v H2 ⟨S2,R.frm.trans (f2.mono hPO),fun z=> ?_,?_⟩
       ·obtain⟨z1,z2⟩:=(A1 _ _).mp z
        refine(R.pur z1).trans fun b o e=>f2 b o e fun w=> ?_
        obtain⟨i,hi,_⟩:=w
        rw[List.isEmpty_iff.mp z2] at hi
        cases hi
       ·rcases(Fa _ _).mp nu with z|z
        ·have hN : ∀ a,Nn B O a -> Zp (fun a => Nn B O a /\ ∀ j ∈ jsOf as,O j ≠ some a) mF vs a := fun b hb => by
          by_cases hjs: ∃j'∈jsOf as,O j'=some b
          ·obtain⟨j',hj',e8⟩:=hjs
           obtain⟨i',e9⟩:=zR4 hj'
           have hi':=zFB z e9
           rw[Fk] at hi'
           obtain⟨j'',a'',_,e10,_,e11,e12,_⟩:=hm i' hi'
           rw[e9] at e10
           cases e10
           rw[e8] at e11
           cases e11
           exact .inr ⟨i',hi',e12⟩
          ·exact .inl ⟨hb,fun j' hj' e=>hjs ⟨j',hj',e⟩⟩
         exact r2.mono hN hN
        ·exact r2.hard z
     ·cases q
   ·cases q
theorem zSX{x:Str}{kk j n:Nat}{qs:List Str}{mF:List Nat}{F:VFun}{ff:Addr}{p':Pos}{fs:VFg}(hK:X.K=K)(D:Def X.prog X.w K X.mg X.base x kk qs (spV K mF n F) ff)(hr:Room j X.A)(hk:kk<=j)(hg:Gl X x)(ha:PA X (e::es) (TAG K ml ps fs))(hdb:(x==("__debug__":Str))=false:=by decide)
  (he:starEach (e::es) X.env=(false,eval e X.env)::starEach es X.env:=by rfl) (hpl:(Cj pos (starEach es X.env)).any (·.1)=false:=by rfl):
  PE X (.Call (.Name x p') (e::es) [] pos) (TV K ml (ps && mF.isEmpty) true true (zAE n mF F fs)):=by
 subst hK
 exact(zLC D hr hk hg ha hdb he hpl).imp fun _ _ _ h=>zGN h
end
section
variable{X:Cx}{K:A5}{ml:List Nat}{e a b c:Expr}{es:List Expr}{pi pt pe pu bt bi ps bs:Bool}{f:VF}{B B':Bs}{O:Nat->Option Addr}{H H0 H1 H':Hp}{σ:St}{δ δ':Ev}{v:V}{d:Dat}{p:Addr}{pos:Pos}{ix:List Nat}{nl:Nat}
noncomputable def zBR(ix:List Nat)(δ:Ev):Ev:=ix.map fun i=>(δ[i]?).getD .no
noncomputable def nos(nl:Nat):Ev:=Aa nl Sl.no
noncomputable def zCN(n nl:Nat)(gg:VG)(tb:VB)(fe:VF):List Dat->List Dat->Ev->Option (List Dat×Ev)
 |[],acc,δ=>some (acc,δ)
 |d::r,acc,δ=>(gg d (δ++nos nl)).bind fun δ1=>(tb δ1).bind fun p=>if p.1=true then(fe p.2).bind fun q=>if acc.length<16777216 then zCN n nl gg tb fe r (acc++[q.1]) (q.2.take n) else none else zCN n nl gg tb fe r acc (p.2.take n)
noncomputable def zD8:List Nat->Ev->Ev->Ev
 |i::is,s::ss,δ=>match s with
  | .ow d=>zD8 is ss (δ.set i (.ow d))
  |_=>zD8 is ss δ
 |_,_,δ=>δ
noncomputable def zD7(ix:List Nat)(nl:Nat)(fi:VI)(gg:VG)(tb:VB)(fe:VF):VF:=fun δ=>(fi δ).bind fun p=>(zCN ix.length nl gg tb fe p.1 [] (zBR ix p.2)).map fun q=>(.lst q.1,zD8 ix q.2 p.2)
noncomputable def bYes:VB:=fun δ=>some (true,δ)
theorem zH8: ∀{ix:List Nat} {ss δ:Ev},(zD8 ix ss δ).length=δ.length
 |[],_,_=>rfl
 |_::_,[],_=>rfl
 |i::is,s::ss,δ=>by
  cases s<;>simp only[zD8]<;>rw[zH8]<;>try rw[B8]
theorem zFA: ∀{ix:List Nat} {ss δ:Ev} (i:Nat),i<δ.length->ix.length=ss.length→
  (∃(j:Nat) (d:Dat),ix[j]? =some i/\ss[j]? =some (Sl.ow d)/\(zD8 ix ss δ)[i]? =some (Sl.ow d))∨((∀(j:Nat) (d:Dat),ix[j]? =some i->ss[j]? ≠some (Sl.ow d))/\(zD8 ix ss δ)[i]? =δ[i]?)
 | [],ss,δ,i,hi,hl => .inr ⟨(fun j d h => by simp at h),rfl⟩
 | k :: is,[],δ,i,hi,hl => by cases hl
 | k :: is,s :: ss,δ,i,hi,hl => by
  have hl2:is.length=ss.length:=by simpa using hl
  cases s with
  |ow d=>
   simp only[zD8]
   rcases zFA (ix:=is) (ss:=ss) (δ:=δ.set k (.ow d)) i (by rw[B8];exact hi) hl2 with⟨j,d',h1,h2,h3⟩|⟨h1,h2⟩
   ·exact .inl ⟨j + 1,d',by simpa using h1,by simpa using h2,h3⟩
   ·by_cases hk:i=k
    ·subst hk
     rw[Br hi] at h2
     exact .inl ⟨0,d,rfl,rfl,h2⟩
    ·rw[Ax (C2 hk)] at h2
     refine .inr ⟨fun j d' e=> ?_,h2⟩
     cases j with
     |zero=>cases e;exact absurd rfl hk
     |succ j=>simpa using h1 j d' (by simpa using e)
  |va d=>
   simp only[zD8]
   rcases zFA (ix:=is) (ss:=ss) (δ:=δ) i hi hl2 with⟨j,d',h1,h2,h3⟩|⟨h1,h2⟩
   ·exact .inl ⟨j + 1,d',by simpa using h1,by simpa using h2,h3⟩
   ·refine .inr ⟨fun j d' e => ?_,h2⟩
    cases j with
    |zero=>simp
    |succ j=>simpa using h1 j d' (by simpa using e)
  |no=>
   simp only[zD8]
   rcases zFA (ix:=is) (ss:=ss) (δ:=δ) i hi hl2 with⟨j,d',h1,h2,h3⟩|⟨h1,h2⟩
   ·exact .inl ⟨j + 1,d',by simpa using h1,by simpa using h2,h3⟩
   ·refine .inr ⟨fun j d' e => ?_,h2⟩
    cases j with
    |zero=>simp
    |succ j=>simpa using h1 j d' (by simpa using e)
noncomputable def Oc(ix:List Nat)(O:Nat->Option Addr):Nat->Option Addr:=fun j=>(ix[j]?).bind O
noncomputable def Bc(ix:List Nat)(B:Bs)(O:Nat->Option Addr)(H0:Hp)(D:Addr)(kp:List (V×Dat)):Bs:=
 ⟨fun a=>(B.Z a∨a=D)∨ ∃i,O i=some a/\i∉ix,OA (Oc ix O),H0,Oc ix O,kp⟩
theorem zME{D:Addr}{kp:List (V×Dat)}: ∀a,Nn (Bc ix B O H0 D kp) (Oc ix O) a->Nn B O a∨a=D:=fun a h=>by
 rcases h with((h|h)|⟨i,h,_⟩)|⟨j,h⟩
 ·exact .inl (.inl h)
 ·exact .inr h
 ·exact .inl (.inr ⟨i,h⟩)
 ·unfold Oc at h
  cases q:ix[j]? with
  |none=>rw[q] at h;cases h
  |some i=>rw[q] at h;exact .inl (.inr ⟨i,h⟩)
theorem zOA{D:Addr}{kp:List (V×Dat)}: ∀a,Nn (B.add D) O a->Nn (Bc ix B O H0 D kp) (Oc ix O) a:=fun a h=>by
 rcases h with h|⟨i,h⟩
 ·exact .inl (.inl h)
 ·by_cases hi:i∈ix
  ·obtain⟨j,hj⟩:=Hc.mp hi
   exact .inr ⟨j,by unfold Oc;rw[hj];exact h⟩
  ·exact .inl (.inr ⟨i,h,hi⟩)
theorem Sta.withKp{kp:List (V×Dat)}(S:Sta K ml B O H σ δ)(h: ∀p∈kp,Rep K (Nn B O) H (Nn B O) p.1 p.2):Sta K ml {B with kp:=kp} O H σ δ:=
 ⟨S.len,S.va,S.ow,S.dom,S.inj,S.old,S.zin,S.frm,S.par,S.pin,h⟩
theorem Sta.writeZ{D:Addr}{o:HO}{acc:List V}(S:Sta K ml B O H σ δ)(hD:B.Z D)(hl:H D=some (.lst acc))(h0:B.H0 D=none):Sta K ml B O (upd H D o) σ δ:=by
 have hf:Fr (fun b=>b=D) H (upd H D o):=fun b u q n=>by
  by_cases hb:b=D
  ·subst hb
   rw[hl] at q
   cases q
   exact absurd (n rfl) fun z=>z
  ·rw[zAX hb]
   exact q
 have hN: ∀b,b=D->Nn B O b:=fun b z=> .inl (z▸hD)
 have hin: ∀b,(∃u,H b=some u)-> ∃u,upd H D o b=some u:=fun b q0=>by
  obtain⟨u,q⟩:=q0
  by_cases hb:b=D
  ·exact⟨o,by rw[hb];exact zAR⟩
  ·exact⟨u,by rw[zAX hb];exact q⟩
 refine⟨S.len,fun i d q=> ?_,fun i d q=> ?_,S.dom,S.inj,S.old,fun b h=>hin b (S.zin b h),fun b u q n=> ?_,S.par,fun b h=>hin b (S.pin b h),fun p hp=>(S.kep p hp).fr hf hN hN⟩
 ·obtain⟨v,e,r⟩:=S.va i d q
  exact⟨v,e,r.fr hf hN hN⟩
 ·obtain⟨a,e,e2,w⟩:=S.ow i d q
  exact⟨a,e,e2,w.fr hf hN fun z=>(S.old i a e).1 (z▸hD)⟩
 ·have hb : b ≠ D := fun z => by rw [z,h0] at q;cases q
  rw[zAX hb]
  exact S.frm b u q n
theorem zJL{j:Nat}{s:Sl}(h:(zBR ix δ++nos nl)[j]? =some s):(∃i,ix[j]? =some i/\s=(δ[i]?).getD .no)∨s= .no:=by
 unfold zBR nos at h
 by_cases hj:j<ix.length
 ·rw [A7 (by simpa using hj),Co] at h
  cases q:ix[j]? with
  |none=>rw[q] at h;cases h
  |some i=>rw[q] at h;cases h;exact .inl ⟨i,rfl,rfl⟩
 ·rw [Ai (by simpa using hj),Bz] at h
  split at h
  ·cases h;exact .inr rfl
  ·cases h
theorem zLX{i j:Nat}{v:V}(hi:ix[j]? =some i)(h:σ[i]? =some (some v)):(caps ix σ++Aa nl none)[j]? =some (some v):=by
 have hj:j<ix.length:=(A6.mp hi).1
 unfold caps
 rw[A7 (by simpa using hj),Co,hi]
 show some ((σ[i]?).join)=_
 rw[h]
 rfl
theorem Sta.inner{D:Addr}(S:Sta K ml B O H0 σ δ)(hD:H0 D=none)(hnd:ix.Nodup){kps:List (V×Dat)}(hk: ∀p∈kps,Rep K (Nn B O) H0 (Nn B O) p.1 p.2):
  Sta K (Bv ix.length) (Bc ix B O H0 D kps) (Oc ix O) (upd H0 D (.lst [])) (caps ix σ++Aa nl none) (zBR ix δ++nos nl) where
 len:=by simp[caps,zBR,nos]
 va := fun j d e => by
  rcases zJL e with⟨i,hi,q⟩|q
  ·have q:δ[i]? =some (.va d):=by
    cases w:δ[i]? with
    |none=>rw[w] at q;cases q
    |some s=>rw[w] at q;rw[show s= .va d from q.symm]
   obtain⟨v,e1,r⟩:=S.va i d q
   exact⟨v,zLX hi e1,(r.away hD _ _ zME zME).same (zA9 hD)⟩
  ·cases q
 ow := fun j d e => by
  rcases zJL e with⟨i,hi,q⟩|q
  ·have q:δ[i]? =some (.ow d):=by
    cases w:δ[i]? with
    |none=>rw[w] at q;cases q
    |some s=>rw[w] at q;rw[show s= .ow d from q.symm]
   obtain⟨a,e1,e2,w⟩:=S.ow i d q
   refine⟨a,by unfold Oc;rw[hi];exact e1,zLX hi e2,?_⟩
   cases w with
   |lst q' r=>exact .lst (zA9 hD _ _ q') ((r.away hD _ _ zME).same (zA9 hD))
   |dct q' r=>exact .dct (zA9 hD _ _ q') ((r.away hD _ _ zME).same (zA9 hD))
  ·cases q
 dom:=fun j a e=>by
  unfold Oc at e
  cases hi:ix[j]? with
  | none => rw [hi] at e;cases e
  |some i=>
   rw[hi] at e
   obtain⟨d,q⟩:=S.dom i a e
   refine⟨d,?_⟩
   have hj:j<ix.length:=(A6.mp hi).1
   unfold zBR
   rw[A7 (by simpa using hj),Co,hi]
   show some ((δ[i]?).getD .no)=_
   rw[q]
   rfl
 inj:=fun j k a e1 e2=>by
  unfold Oc at e1 e2
  cases hi:ix[j]? with
  | none => rw [hi] at e1;cases e1
  |some i=>
   cases hk:ix[k]? with
   |none=>rw[hk] at e2;cases e2
   |some i'=>
    rw[hi] at e1
    rw[hk] at e2
    have:i=i':=S.inj i i' a e1 e2
    subst this
    obtain⟨l1,q1⟩:=A6.mp hi
    obtain⟨l2,q2⟩:=A6.mp hk
    exact(Ja hnd).mp (q1.trans q2.symm)
 old:=fun j a e=>by
  have e':=e
  unfold Oc at e'
  cases hi:ix[j]? with
  | none => rw [hi] at e';cases e'
  |some i=>
   rw[hi] at e'
   refine⟨fun z=> ?_,.inl ⟨j,e⟩⟩
   rcases z with(z|z)|⟨i',z,n⟩
   ·exact(S.old i a e').1 z
   ·obtain⟨o,q⟩:=S.nin (.inr ⟨i,e'⟩)
    rw[z,hD] at q
    cases q
   ·have:i=i':=S.inj i i' a e' z
    subst this
    exact n (Ck hi)
 zin:=fun a h=>by
  rcases h with(h|h)|⟨i,h,_⟩
  ·obtain⟨o,q⟩:=S.zin a h
   exact⟨o,zA9 hD _ _ q⟩
  ·exact ⟨_,by rw [h];exact zAR⟩
  ·obtain⟨o,q⟩:=S.nin (.inr ⟨i,h⟩)
   exact⟨o,zA9 hD _ _ q⟩
 frm:=(zA9 hD).fr
 par:=⟨fun j a e=>by
  have e:(ix[j]?).bind O=some a:=e
  cases hi:ix[j]? with
  |none=>rw[hi] at e;cases e
  |some i=>exact Cm.mpr (A6.mp hi).1,fun j _=>rfl⟩
 pin:=fun a q0=>by
  obtain⟨j,e⟩:=q0
  unfold Oc at e
  cases hi:ix[j]? with
  |none=>rw[hi] at e;cases e
  |some i=>
   rw[hi] at e
   obtain⟨o,q⟩:=S.nin (.inr ⟨i,e⟩)
   exact⟨o,zA9 hD _ _ q⟩
 kep:=fun p hp=>((hk p hp).away hD _ _ zME zME).same (zA9 hD)
theorem Sta.turn{O':Nat->Option Addr}{σ':St}{n:Nat}{m:St}(S:Sta K (Bv n) B O' H σ' δ)(hmu: ∀j,n<=j->B.mu j=none)(hm:m.length=n)(hσ:σ'.take n=m)(hn:n<=δ.length):Sta K (Bv n) B B.mu H (m++Aa nl none) (δ.take n++nos nl):=by
 have hO: ∀j,j<n->O' j=B.mu j:=fun j hj=>S.par.2 j (Cm.mpr hj)
 have hle: ∀j a,B.mu j=some a->O' j=some a:=fun j a e=>by rw[hO j (Cm.mp (S.par.1 j a e))];exact e
 have hN: ∀a,Nn B B.mu a->Nn B O' a:=fun a h=>by
  rcases h with h|⟨j,h⟩
  ·exact .inl h
  ·exact .inr ⟨j,hle j a h⟩
 have hg: ∀(j:Nat) (s:Sl),(δ.take n++nos nl)[j]? =some s->(j<n/\δ[j]? =some s)∨s= .no:=fun j s h=>by
  have hl:(δ.take n).length=n:=by rw[Bq];omega
  by_cases hj:j<n
  ·rw [A7 (by rw [hl];exact hj),Bw hj] at h
   exact .inl ⟨hj,h⟩
  ·unfold nos at h
   rw[Ai (by rw[hl];omega),Bz] at h
   split at h
   ·cases h;exact .inr rfl
   ·cases h
 have hs: ∀(j:Nat) (v:V),j<n->σ'[j]? =some (some v)->(m++Aa nl none)[j]? =some (some v):=fun j v hj e=>by
  rw[A7 (by rw[hm];exact hj),<- hσ,Bw hj]
  exact e
 refine⟨?_,fun j d e=> ?_,fun j d e=> ?_,fun j a e=> ?_,fun j k a e1 e2=>S.inj j k a (hle j a e1) (hle k a e2),fun j a e=>S.old j a (hle j a e),S.zin,S.frm,⟨S.par.1,fun j _=>rfl⟩,S.pin,fun p hp=>(S.kep p hp).mono hN hN⟩
 ·simp[hm,nos,Bq]
  omega
 ·rcases hg j _ e with⟨hj,e⟩|e
  ·obtain⟨v,e1,r⟩:=S.va j d e
   exact⟨v,hs j v hj e1,r.mono hN hN⟩
  ·cases e
 ·rcases hg j _ e with⟨hj,e⟩|e
  ·obtain⟨a,e1,e2,w⟩:=S.ow j d e
   exact⟨a,(hO j hj)▸e1,hs j _ hj e2,w.mono hN⟩
  ·cases e
 ·have hj:=Cm.mp (S.par.1 j a e)
  obtain⟨d,q⟩:=S.dom j a (hle j a e)
  refine⟨d,?_⟩
  rw[A7 (by rw[Bq];omega),Bw hj]
  exact q
theorem zF5(ix:List Nat)(σ:St):(caps ix σ).length=ix.length:=by simp[caps]
theorem zN9{σ':St}(hl:ix.length<=σ'.length)(h: ∀i∈Bv ix.length,σ'[i]? =(caps ix σ++Aa nl none)[i]?):σ'.take ix.length=caps ix σ:=by
 refine List.ext_getElem? fun j=> ?_
 by_cases hj:j<ix.length
 ·rw[Bw hj,h j (Cm.mpr hj),A7 (by rw[zF5];exact hj)]
 ·rw[C9 (by rw[Bq];omega),C9 (by rw[zF5];omega)]
theorem zN0{fi:VI}{gg:VG}{tb:VB}{fe:VF}(hnd:ix.Nodup){Q:VK}(h:TN K ml (pi && pt && pe) (zD7 ix nl fi gg tb fe) σ H Q):
  zT3 ix nl (TIV K ml pi fi) (TGV K (Bv ix.length) gg) (TB K (Bv ix.length) pt tb) (TV K (Bv ix.length) pe true true fe) σ H Q:=by
 obtain⟨B,O,δ,d,δ2,S,q,k⟩:=h
 unfold zD7 at q
 cases h1:fi δ with
 | none => rw [h1] at q;cases q
 |some p=>
  obtain⟨ds,δ1⟩:=p
  rw[h1] at q
  have q : ((zCN ix.length nl gg tb fe ds [] (zBR ix δ1)).map fun q => (Dat.lst q.1,zD8 ix q.2 δ1)) = some (d,δ2) := q
  cases h2:zCN ix.length nl gg tb fe ds [] (zBR ix δ1) with
  | none => rw [h2] at q;cases q
  |some z=>
   obtain⟨res,δf⟩:=z
   rw[h2] at q
   cases q
   refine⟨B,O,δ,ds,δ1,S,h1,fun J kps H0 S0 f0 p0 wk D hD=> ?_⟩
   have hDO : ∀ j,Oc ix O j ≠ some D := fun j e => by
    unfold Oc at e
    cases hi:ix[j]? with
    | none => rw [hi] at e;cases e
    |some i=>
     rw[hi] at e
     obtain⟨o,q⟩:=S0.nin (.inr ⟨i,e⟩)
     rw[hD] at q
     cases q
   have ma : ∀ kp j,ix.length <= j -> (Bc ix B O H0 D kp).mu j = none := fun kp j hj => by
    show(ix[j]?).bind O=none
    rw[C9 hj]
    rfl
   refine⟨fun i m acc H1=>m=ds.length - i/\i<=ds.length/\ ∃(aw:List Dat) (δc:Ev),δc.length=ix.length/\acc.length=aw.length∧
     Sta K (Bv ix.length) (Bc ix B O H0 D (kps++acc.zip aw)) (Oc ix O) H1 (caps ix σ++Aa nl none) (δc++nos nl)/\H1 D=some (.lst acc)/\((pt && pe)=true->Same H0 H1)∧
     zCN ix.length nl gg tb fe (ds.drop i) aw δc=some (res,δf),
    ⟨ds.length,rfl,D3 _,[],zBR ix δ1,by simp [zBR],rfl,by
     rw[List.zip_nil_left,Bp]
     exact S0.unkeep.inner hD hnd fun p hp=>S0.kep p (Ar _ hp),zAR,fun _=>zA9 hD,h2⟩,?_⟩
   rintro i m acc H1 ⟨rfl,hi,aw,δc,hlc,bo,S1,hD1,ip,hc⟩
   have w := wk (Nn (Bc ix B O H0 D (kps ++ acc.zip aw)) (Oc ix O)) H1 fun p hp => S1.kep p (Ar _ hp)
   by_cases hlt:i<ds.length
   ·obtain ⟨go,yl⟩ := w.1 i ds[i] (by simp [hlt])
    rw[Dw hlt] at hc
    simp only[zCN] at hc
    cases g1:gg ds[i] (δc++nos nl) with
    | none => rw [g1] at hc;cases hc
    |some δ3=>
     rw[g1] at hc
     simp only[Ae] at hc
     cases g2:tb δ3 with
     | none => rw [g2] at hc;cases hc
     |some z=>
      obtain⟨kk,δ4⟩:=z
      rw[g2] at hc
      simp only[Ae] at hc
      refine .inr ⟨go,fun bh H'=> ∃(aw:List Dat) (δc:Ev),δc.length=ix.length/\bh.length=aw.length∧
       Sta K (Bv ix.length) (Bc ix B O H0 D (kps++bh.zip aw)) (Oc ix O) H' (caps ix σ++Aa nl none) (δc++nos nl)/\H' D=some (.lst bh)/\((pt && pe)=true->Same H0 H')∧
       zCN ix.length nl gg tb fe (ds.drop (i + 1)) aw δc = some (res,δf),fun bh H' w' => ⟨ds.length - (i + 1),by omega,rfl,hlt,w'⟩,fun x H2 hy => ?_⟩
      obtain⟨sm,rx⟩:=yl x H2 hy
      refine⟨_,_,_,ds[i],δ3,S1.same sm,rx,g1,fun σ3 O3 S3 m3=> ?_⟩
      have ln3:ix.length<=σ3.length:=by
       by_cases hz:ix.length=0
       ·omega
       ·have hj : ix.length - 1 < ix.length := by omega
        have:=m3 (ix.length - 1) (Cm.mpr hj)
        have hs:(caps ix σ++Aa nl none)[ix.length - 1]? ≠none:=by
         rw [A7 (by rw [zF5];exact hj)]
         simp[caps,hj]
        rw[<- this] at hs
        have ou:ix.length - 1<σ3.length:=Nat.lt_of_not_le fun z=>hs (List.getElem?_eq_none_iff.mpr z)
        omega
      have hσ3:=zN9 ln3 m3
      refine⟨hσ3,_,_,δ3,kk,δ4,S3,g2,fun H4 R4=> ?_⟩
      have hD4 : H4 D = some (.lst acc) := R4.frm _ _ (sm _ _ hD1) fun z => by
       obtain⟨j,e⟩:=z
       have:=(R4.sta.old j D e).1
       exact absurd (.inl (.inr rfl)) this
      have ln4 : ix.length <= δ4.length := by rw [<- R4.sta.len];exact ln3
      cases kk with
      |false=>
       rw[if_neg Cg] at hc
       refine iteF ⟨aw,δ4.take ix.length,by rw[Bq];omega,bo,R4.sta.turn (ma _) (zF5 ix σ) hσ3 ln4,hD4,fun z=> ?_,hc⟩
       exact((ip z).trans sm).trans (R4.pur ((A1 _ _).mp z).1)
      |true=>
       rw[if_pos rfl] at hc
       cases g3:fe δ4 with
       | none => rw [g3] at hc;cases hc
       |some z=>
        obtain⟨dv,δ5⟩:=z
        rw[g3] at hc
        simp only[Ae] at hc
        split at hc
        ·rename_i hz
         refine iteT ⟨_,_,δ4,dv,δ5,R4.sta,g3,fun v H5 R5=> ?_⟩
         have hD5:H5 D=some (.lst acc):=R5.frm _ _ hD4 fun z=>by
          obtain⟨j,e⟩:=z
          have:=(R5.sta.old j D e).1
          exact absurd (.inl (.inr rfl)) this
         have ln5:ix.length<=δ5.length:=by rw[<- R5.sta.len];exact ln3
         have S6:=R5.sta.turn (nl:=nl) (ma _) (zF5 ix σ) hσ3 ln5
         have hv:Rep K (Nn (Bc ix B O H0 D (kps++acc.zip aw)) (Oc ix O)) H5 (Nn (Bc ix B O H0 D (kps++acc.zip aw)) (Oc ix O)) v dv:=by
          have hN: ∀a,Nn (Bc ix B O H0 D (kps++acc.zip aw)) (Oc ix O) a->av (Bc ix B O H0 D (kps++acc.zip aw)) O3 true a:=fun a h=>by
           rcases h with h|⟨j,h⟩
           ·exact .inl h
           ·refine .inr ⟨j,?_⟩
            have hj:j∈Bv ix.length:=R5.sta.par.1 j a h
            rw[R5.sta.par.2 j hj]
            exact h
          exact R5.rep.mono hN hN
         have S7:=S6.withKp (kp:=kps++(acc++[v]).zip (aw++[dv])) fun p hp=>by
          rw[List.zip_append bo,<- Fz] at hp
          rcases Bg.mp hp with z|z
          ·exact S6.kep p z
          ·rw[Af.mp (show p∈[(v,dv)] from z)]
           exact hv
         refine⟨hD5,by rw[bo,Bb];exact hz,aw++[dv],δ5.take ix.length,by rw[Bq];omega,by simp[bo],?_,zAR,fun z=> ?_,hc⟩
         ·exact S7.writeZ (.inl (.inr rfl)) hD5 hD
         ·intro b o e
          have hb:b≠D:=fun z=>by rw[z,hD] at e;cases e
          rw[zAX hb]
          obtain⟨z1,z2⟩:=(A1 _ _).mp z
          exact(((ip z).trans sm).trans ((R4.pur z1).trans (R5.pur z2))) b o e
        ·cases hc
   ·have e : i = ds.length := by omega
    subst e
    rw[Gg] at hc
    cases hc
    refine .inl ⟨w.2,k D H1 ?_⟩
    have fP:Fr (OA (Oc ix O)) H0 H1:=S1.frm
    have hPO: ∀a,OA (Oc ix O) a->OA O a:=fun a q0=>by
     obtain⟨j,e⟩:=q0
     unfold Oc at e
     cases hi:ix[j]? with
     | none => rw [hi] at e;cases e
     | some i => rw [hi] at e;exact ⟨i,e⟩
    have SL:=S0.unkeep.laid (o:= .lst acc) hD
    have fL:Fr (OA (Oc ix O)) (upd H0 D (.lst acc)) H1:=fun b o e n=>by
     by_cases hb:b=D
     ·subst hb
      rw[zAR] at e
      cases e
      exact hD1
     ·rw[zAX hb] at e
      exact fP b o e n
    refine⟨SL.call (zH8) (fun i=> ?_) fL hPO,f0.trans (fP.mono hPO),fun z=> ?_,.lst hD1 (zGR bo fun p hp=>(S1.kep p (Ap _ hp)).mono zOA zOA),S0.unkeep.new hD,S0.fresh hD⟩
    ·by_cases me:i<δ1.length
     ·rcases zFA (ix:=ix) (ss:=δf) (δ:=δ1) i me hlc.symm with⟨j,x,e1,e2,e3⟩|⟨e1,e2⟩
      ·have e4:(δf++nos nl)[j]? =some (.ow x):=by
        rw[A7 (A6.mp e2).1]
        exact e2
       obtain⟨a,e5,_,w⟩:=S1.ow j x e4
       refine .inr ⟨a,x,?_,e3,w.mono zOA⟩
       unfold Oc at e5
       rw[e1] at e5
       exact e5
      ·refine .inl ⟨e2,fun a ea ⟨j,ej⟩ => ?_⟩
       obtain⟨x,ex⟩:=S1.dom j a ej
       unfold Oc at ej
       cases hi:ix[j]? with
       |none=>rw[hi] at ej;cases ej
       |some i'=>
        rw[hi] at ej
        have:i=i':=S0.inj i i' a ea ej
        subst this
        have hj:j<δf.length:=by rw[hlc];exact(A6.mp hi).1
        rw[A7 hj] at ex
        exact e1 j x hi ex
     ·refine .inl ⟨?_,fun a ea => ?_⟩
      ·rw [C9 (by rw [zH8];omega),C9 (by omega)]
      ·obtain⟨x,ex⟩:=S0.dom i a ea
       exact absurd (A6.mp ex).1 me
    ·simp only[A1] at z
     exact(p0 z.1.1).trans (ip (by simp[z.1.2,z.2]))
theorem zVG{Q:Bool->Hp->Prop}(h:TB K ml true bYes σ H Q):tYes σ H Q:=by
 obtain⟨B,O,δ,k,δ',S,q,w⟩:=h
 cases q
 exact w H (ResB.refl S)
theorem zV9{Y:Cx}{t:VB}(h:PT Y c (TB K ml pt t)):PTs Y [c] (TB K ml pt t):=zTD h
theorem zCY{Y:Cx}:PTs Y [] (TB K ml true bYes):=fun a5 s σ H Q I hw=>zTE a5 s σ H Q I (zVG hw)
theorem yA1{Q:VK}{o:Bool}(h:TX K ml (if o then xO f else xV f) σ H Q):TN K ml pu f σ H Q:=by
 obtain⟨B,O,δ,s,δ',S,q,k⟩:=h
 have e: ∃d,f δ=some (d,δ')/\s=if o then .ow d else .va d:=by
  cases o with
  |true=>
   have q:(f δ).map (fun p=>(Sl.ow p.1,p.2))=some (s,δ'):=q
   cases h1:f δ with
   |none=>rw[h1] at q;cases q
   |some p=>rw[h1] at q;cases q;exact⟨p.1,rfl,rfl⟩
  |false=>
   have q:(f δ).map (fun p=>(Sl.va p.1,p.2))=some (s,δ'):=q
   cases h1:f δ with
   |none=>rw[h1] at q;cases q
   |some p=>rw[h1] at q;cases q;exact⟨p.1,rfl,rfl⟩
 obtain⟨d,h1,hs⟩:=e
 refine⟨B,O,δ,d,δ',S,h1,fun p H' R=> ?_⟩
 cases o with
 |true=>
  cases hs
  have w:=R.own
  cases w with
  |lst q1 r=>exact k _ H' _ (R.sta.keepV (zFE r)) (.ol q1 r.length R.nz R.h0) R.frm
  |dct q1 r=>exact k _ H' _ (R.sta.keepV (zFE r)) (.od q1 (by simpa using r.length) R.nz R.h0) R.frm
 |false=>
  cases hs
  exact k _ H' _ (R.sta.unadd.keepV (ps:=[(.ref p,d)]) fun z hz=>by
   rw[Af.mp hz]
   exact(R.own.mono zGU).rep R.nz) .va R.frm
theorem zVF{i:Nat}{x:VX}{te:TE}(hte: ∀σ H Q,TX K ml x σ H Q->te σ H Q)(hm:i∉ml){D:Ends}(h:TSt K ml (sSet i x) D σ H):tAsg te (zR9 i) D σ H:=by
 obtain⟨B,O,δ,o,S,q,k⟩:=h
 unfold sSet at q
 cases h1:x δ with
 | none => rw [h1] at q;cases q
 |some p=>
  obtain⟨s,δ1⟩:=p
  rw[h1] at q
  have q:(if i<δ1.length then some (Ou.nx (δ1.set i s)) else none)=some o:=q
  split at q
  ·rename_i hl
   cases q
   refine hte _ _ _ ⟨B,O,δ,s,δ1,S,h1,fun v H' B' S' h' f'=> ?_⟩
   obtain⟨O'',S''⟩:=h'.bind S' hm hl
   exact k _ _ _ S''
  ·cases q
end
abbrev DefV(P:Al)(w:World)(K:A5)(mg:Str->Option Value)(base:Heap)(x:Str)(k:Nat)(ps:List Str)(mF:List Nat)(F:VFun)(f:Addr):Prop:=Def P w K mg base x k ps (spV K mF ps.length F) f
section
variable{X:Cx}{K:A5}{ml:List Nat}{e a b c:Expr}{es:List Expr}{pa ta ia pb tb ib pc tc ic pu bt bi ps bs:Bool}{fa fb fc f:VF}{B B':Bs}{O:Nat->Option Addr}{H H0 H1 H':Hp}{σ:St}{δ δ':Ev}{v:V}{d:Dat}{p:Addr}{pos:Pos}
theorem zAP{x:Str}(hg:Gl X x)(h: ∃u v,X.mg x=some u/\RelV v u/\ ∀N H M,Rep K N H M v d)(hd:(x==("__debug__":Str))=false:=by decide):PE X (.Name x pos) (TV K ml true true true (fC d)):=by
 obtain⟨u,v,h1,h2,h3⟩:=h
 exact ve_c (zTO hg h1 h2 hd) h3
def zWM(K:A5):R2:=fun x y H Q=> ∃a b xs ys,x= .ref a/\y= .ref b/\SqT K H a xs/\SqT K H b ys/\xs.length+ys.length<=sizeLine∧
 (xs=[]->Q (.ref b) H)/\(xs≠[]->ys=[]->Q (.ref a) H)/\(xs≠[]->ys≠[]-> ∀p,H p=none->Q (.ref p) (upd H p (.tup (xs++ys))))
theorem zTW:OpR X (D0 .Add) (zWM X.K):=by
 intro a5 s σ H x y v u Q I rx ry h
 obtain⟨a,b,xs,ys,rfl,rfl,ha,hb,hz,q0,q1,q2⟩:=h
 cases rx
 cases ry
 obtain⟨its,r1,p1,_⟩:=I.tuple ha
 obtain⟨ck,r2,p2,_⟩:=I.tuple hb
 by_cases hx:xs=[]
 ·subst hx
  have e0:its=[]:=r1.nil_iff.mpr rfl
  subst e0
  obtain⟨⟨cls,dd,data,sl⟩,ho,hc,n,hd⟩:=id p1
  obtain⟨⟨mm,dd2,data2,sl2⟩,ho2,hc2,n2,hd2⟩:=id p2
  simp only at hc hd hc2 hd2
  subst hc hd hc2 hd2
  exact Gw ⟨_,ho,rfl⟩ ⟨_,ho2,rfl⟩ Ge Ii Eh Eb (E4 _ _)
   (tuple_addW0 a b _ ck.toArray n n2 dd dd2 sl sl2 (by simp)) ⟨ho,ho2,⟨.ref b,H,I,rfl,q0 rfl⟩⟩
 ·refine HT.zUN p1 p2 (fun z => hx (r1.nil_iff.mp z)) (fun z => ⟨.ref a,H,I,rfl,q1 hx (r2.nil_iff.mp z)⟩) (fun z => ?_) (by rw [<- r1.length,<- r2.length];exact hz)
  refine⟨.ref s.heap.objs.size,_,I.laid (t':=s.toks) (o:= .tup (xs++ys)) (fun b ob q=>A3 _ q) (Ag _) ?_,rfl,q2 hx (fun w=>z (r2.nil_iff.mpr w)) _ (I.hok.fresh (Ag _))⟩
  exact⟨by rw[Bu];exact hz,_,r1.append r2,Fw _ _⟩
def zWL(K:A5):R2:=fun x y H Q=> ∃l b xs zs,x= .ref l/\y= .ref b/\SqL K H l xs/\SqL K H b zs/\xs.length+zs.length<=sizeLine/\ ∀p,H p=none->Q (.ref p) (upd H p (.lst (xs++zs)))
theorem zTV:OpR X (D0 .Add) (zWL X.K):=by
 intro a5 s σ H x y v u Q I rx ry h
 obtain⟨l,b,xs,zs,rfl,rfl,hH,hB,hz,q⟩:=h
 cases rx
 cases ry
 obtain⟨its,r,p1,_⟩:=I.list hH
 obtain⟨ck,r2,p2,_⟩:=I.list hB
 obtain⟨⟨cls,dd,data,sl⟩,n,ho,hc,_,hd⟩:=id p1
 obtain⟨⟨mm,dd2,data2,sl2⟩,n2,ho2,hc2,_,hd2⟩:=id p2
 simp only at hc hd hc2 hd2
 subst hc hd hc2 hd2
 have ea:its.toArray++ck.toArray=(its++ck).toArray:=by simp
 have hl:=r.length
 have hl2:=r2.length
 refine Gw ⟨_,ho,rfl⟩ ⟨_,ho2,rfl⟩ noFill_list_add seq_list_add PySem.F.slot_list_add PySem.F.entry_list_add (PySem.F.args_list_add_2 _ _) (list_addW l b its.toArray ck.toArray n n2 dd dd2 sl sl2 (by rw[A9,A9,<- hl,<- hl2];exact hz)) ⟨ho,ho2,?_⟩
 rw[ea]
 exact⟨.ref _,_,I.lnew (t':=s.toks) (r.append r2) (by rw[Bu];omega),rfl,q _ I.fresh⟩
def zWK(K:A5):R2:=fun x y H Q=>((rI0 (fun i j=> .int (i+j)) x y H Q∨zWM K x y H Q)∨zWL K x y H Q)∨ ∃i j,x= .str i/\y= .str j/\i.length+j.length<=sizeLine/\Q (.str (i++j)) H
theorem zD6(h:X.K=K):OpR X (D0 .Add) (zWK K):=by subst h;exact((zXF.or zTW).or zTV).or zMD
noncomputable def zBY:Dat->Dat->Option Dat
 | .int i,.int j=>some (.int (i+j))
 | .tup ds,.tup es=>if ds.length+es.length<=16777216 then some (.tup (ds++es)) else none
 | .lst ds,.lst es=>if ds.length+es.length<=16777216 then some (.lst (ds++es)) else none
 | .str x,.str y=>if x.length+y.length<=16777216 then some (.str (x++y)) else none
 |_,_=>none
theorem Rep.tupE{N M:Addr->Prop}{ds:List Dat}(h:Rep K N H M v (.tup ds)): ∃a xs,v= .ref a/\SqT K H a xs/\RepA K N H xs ds:=by
 cases h with
 |tup q r=>exact⟨_,_,rfl,q,r⟩
theorem Rep.lstE{N M:Addr->Prop}{ds:List Dat}(h:Rep K N H M v (.lst ds)): ∃a xs,v= .ref a/\SqL K H a xs/\RepA K N H xs ds:=by
 cases h with
 |lst q n r=>exact⟨_,_,rfl,SqL.of q,r⟩
 |fzl q r=>exact⟨_,_,rfl,q.sq,r⟩
theorem zC0:OpC K (zWK K) zBY:=by
 intro H N M M' x y d e c Q hx hy h k
 cases d with
 |int i=>
  cases e with
  |int j=>
   cases h
   cases hx
   cases hy
   exact .inl (.inl (.inl ⟨_,_,rfl,rfl,k _ _ (Same.refl _) fun _ _=> .int _⟩))
  | _ => cases h
 |str i=>
  cases e with
  |str j=>
   simp only[zBY] at h
   split at h
   ·cases h
    cases hx
    cases hy
    exact .inr ⟨_,_,rfl,rfl,by rw[Bb];assumption,k _ _ (Same.refl _) fun _ _=> .str _⟩
   ·cases h
  | _ => cases h
 |tup ds=>
  cases e with
  |tup es=>
   simp only[zBY] at h
   split at h
   ·rename_i hz
    cases h
    obtain⟨a,xs,rfl,q1,r1⟩:=hx.tupE
    obtain⟨b,ys,rfl,q2,r2⟩:=hy.tupE
    refine .inl (.inl (.inr ⟨a,b,xs,ys,rfl,rfl,q1,q2,by rw[r1.length,r2.length,Bb];exact hz,fun z=> ?_,fun z1 z2=> ?_,fun z1 z2 p hp=> ?_⟩))
    ·subst z
     have:ds=[]:=Ga.mp r1.length.symm
     subst this
     exact k _ _ (Same.refl _) fun M hM=> .tup q2 r2
    ·subst z2
     have:es=[]:=Ga.mp r2.length.symm
     subst this
     rw[Bp] at k
     exact k _ _ (Same.refl _) fun M hM=> .tup q1 r1
    ·exact k _ _ (zA9 hp) fun M hM => .tup (SqT.of zAR) ((r1.append r2).same (zA9 hp))
   ·cases h
  | _ => cases h
 |lst ds=>
  cases e with
  |lst es=>
   simp only[zBY] at h
   split at h
   ·rename_i hz
    cases h
    obtain⟨a,xs,rfl,q1,r1⟩:=hx.lstE
    obtain⟨b,ys,rfl,q2,r2⟩:=hy.lstE
    exact .inl (.inr ⟨a,b,xs,ys,rfl,rfl,q1,q2,by rw[r1.length,r2.length,Bb];exact hz,fun p hp=>k _ _ (zA9 hp) fun M hM=> .lst zAR (fun z=>by
     obtain⟨o,q⟩:=hM _ z
     rw[hp] at q
     cases q) ((r1.append r2).same (zA9 hp))⟩)
   ·cases h
  |_=>cases h
 |_=>cases h
def zRW:A5->R2:=fun _=>rI CMul fun i j=> .int (i*j)
theorem zG0(h:X.K=K):OpR X (D0 .Mult) (zRW K):=zXC
noncomputable abbrev zE6:=oMul
theorem zE9:OpC K (zRW K) zE6:=by
 intro H N M M' x y d e c Q hx hy h k
 exact yAJ H N N M M' x y d e c Q hx hy h fun v hv=>k v H (Same.refl _) fun M _=>hv _ _ _
noncomputable def keyD:Dat->Option Key
 | .int i=>some (.inl i)
 | .str x=>some (.inr x)
 |_=>none
theorem Rep.key{N M:Addr->Prop}{k:Key}(h:Rep K N H M v d)(e:keyD d=some k):v=kV k:=by
 cases h<;>first
  |(cases e;rfl)
  |cases e
noncomputable def zBU(ks:List Key)(ds:List Dat)(k:Key):Option Dat:=match ks,ds with
 |k'::ks,d::ds=>if k'=k then some d else zBU ks ds k
 |_,_=>none
theorem zGF{N:Addr->Prop}{k:Key}: ∀{kvs:List (Key×V)} {ds:List Dat},RepA K N H (kvs.map Ew) ds→
  (∃v d,valV kvs k=some v/\zBU (kvs.map Ex) ds k=some d/\Rep K N H N v d)∨(valV kvs k=none/\zBU (kvs.map Ex) ds k=none)
 | [],_,.nil => .inr ⟨rfl,rfl⟩
 | (k',v) :: kvs,_,.cons h t => by
  by_cases hk:k'=k
  ·refine .inl ⟨v,_,zGB (p:=(k',v)) hk,?_,h⟩
   simp[zBU,hk]
  ·rcases zGF (k:=k) t with⟨v',d',h1,h2,h3⟩|⟨h1,h2⟩
   ·exact .inl ⟨v',d',(zEV (p:=(k',v)) hk).trans h1,by simpa[zBU,hk] using h2,h3⟩
   ·exact .inr ⟨(zEV (p:=(k',v)) hk).trans h1,by simpa[zBU,hk] using h2⟩
theorem yCA(hu:X.A.units+1<cLine):IxR X (fun x y H Q=> ∃a v,x= .ref a/\DGet H a y (some v)/\Q v H):=by
 intro value slice a5 s σ H x y v u Q I rx ry h hs
 obtain⟨a,w,rfl,g,q⟩:=h
 cases rx
 exact Kq (zKQ I g) PySem.F.slot_dict_getitem.lookup (zP9 hu I g ry fun w' s3 I3 rw'=>⟨w,H,I3,rw',q⟩) hs
def rIxA(K:A5):R2:=fun x y H Q=>(rIx K x y H Q∨ ∃a v,x= .ref a/\DGet H a y (some v)/\Q v H)∨ ∃a k D v,x= .ref a/\y= .str k/\KTab K a D/\D4 k D=some v/\Q v H
theorem kIxA(h:X.K=K)(hu:X.A.units+1<cLine):IxR X (rIxA K):=by subst h;exact(zZ0.or (yCA hu)).or zU9
noncomputable def oIxA:Dat->Dat->Option Dat
 | .tup ds,.int i=>atI ds i
 | .lst ds,.int i=>atI ds i
 | .dct ks ds,e=>(keyD e).bind (zBU ks ds)
 | .str z,.int i=>if z.length<=16777216 then(atI z.cps.toList i).map fun c=> .str ⟨#[c]⟩ else none
 |_,_=>none
theorem zH4{N:Addr->Prop}{k:Str}: ∀{D:List (Str×V)} {ds:List Dat},RepA K N H (D.map Ew) ds→
  (∃ v d,D4 k D = some v /\ zBU (D.map fun p => .inr p.1) ds (.inr k) = some d /\ Rep K N H N v d) ∨ (D4 k D = none /\ zBU (D.map fun p => .inr p.1) ds (.inr k) = none)
 | [],_,.nil => .inr ⟨rfl,rfl⟩
 | (k',v) :: D,_,.cons h t => by
  by_cases hk:k'=k
  ·subst hk
   exact .inl ⟨v,_,by simp[D4],by simp[zBU],h⟩
  ·have hk2 : ¬ k = k' := fun z => hk z.symm
   rcases zH4 (k:=k) t with⟨v',d',h1,h2,h3⟩|⟨h1,h2⟩
   ·exact .inl ⟨v',d',by simpa[D4,hk,hk2] using h1,by simpa[zBU,hk] using h2,h3⟩
   ·exact .inr ⟨by simpa[D4,hk,hk2] using h1,by simpa[zBU,hk] using h2⟩
theorem zLH{i:Int}: ∀{D:List (Str×V)} {ds:List Dat},zBU (D.map fun p=> .inr p.1) ds (.inl i)=none
 |[],_=>by simp[zBU]
 |_::_,[]=>by simp[zBU]
 |p::D,d::ds=>by simpa[zBU] using zLH (D:=D) (ds:=ds)
theorem yCD:OpI K (rIxA K) oIxA:=by
 intro H N N' M M' x y d e c Q hx hy h k
 have seq : ∀ ds i,seqD d = some ds -> e = .int i -> atI ds i = some c -> rIxA K x y H Q := fun ds i h1 h2 h3 => by
  subst h2
  cases hy
  obtain⟨a,xs,rfl,sq,r⟩:=hx.seq h1
  obtain⟨v,hv,rv⟩:=zUW r h3
  rcases sq with sq|sq
  ·exact .inl (.inl (.inl ⟨a,xs,i,v,rfl,rfl,sq,hv,k v rv⟩))
  ·exact .inl (.inl (.inr (.inl ⟨a,xs,i,v,rfl,rfl,sq,hv,k v rv⟩)))
 cases d with
 |tup ds=>
  cases e with
  | int i => exact seq ds i rfl rfl h
  | _ => cases h
 |lst ds=>
  cases e with
  | int i => exact seq ds i rfl rfl h
  | _ => cases h
 |str z=>
  cases e with
  |int i=>
   simp only[oIxA] at h
   split at h
   ·cases hc:atI z.cps.toList i with
    | none => rw [hc] at h;cases h
    |some ch=>
     rw[hc] at h
     cases h
     cases hx
     cases hy
     exact .inl (.inl (.inr (.inr ⟨z,i,ch,rfl,rfl,by rw[Bb];assumption,hc,k _ (.str _)⟩)))
   ·cases h
  | _ => cases h
 |dct ks ds=>
  simp only[oIxA] at h
  cases hk:keyD e with
  | none => rw [hk] at h;cases h
  |some kk=>
   rw[hk] at h
   have h:zBU ks ds kk=some c:=h
   have ey:=hy.key hk
   subst ey
   cases hx with
   |dct q n r=>
    rcases zGF (k:=kk) r with⟨v,d',h1,h2,h3⟩|⟨h1,h2⟩
    ·rw[h] at h2
     cases h2
     exact .inl (.inr ⟨_,v,rfl,h1▸DGet.k q,k v h3⟩)
    ·rw[h] at h2;cases h2
   |ktb T r=>
    cases kk with
    | inl i => rw [zLH] at h;cases h
    |inr x=>
     rcases zH4 (k:=x) r with⟨v,d',h1,h2,h3⟩|⟨h1,h2⟩
     ·rw[h] at h2
      cases h2
      exact .inr ⟨_,x,_,v,rfl,rfl,T,h1,k v h3⟩
     ·rw[h] at h2;cases h2
 |_=>cases h
noncomputable def ownD(δ:Ev)(i:Nat):Option (List Key×List Dat):=match δ[i]? with
 |some (.ow (.dct ks ds))=>some (ks,ds)
 |_=>none
theorem zEY{i:Nat}{ks:List Key}{ds:List Dat}(h:ownD δ i=some (ks,ds)):δ[i]? =some (.ow (.dct ks ds)):=by
 unfold ownD at h
 split at h
 ·cases h;assumption
 ·cases h
noncomputable def zLQ(i:Nat)(fk fx:VF):VF:=fun δ=>(ownD δ i).bind fun _=>(fk δ).bind fun p=>(fx p.2).bind fun q=>(keyD p.1).bind fun k=>(ownD q.2 i).map fun z=>((zBU z.1 z.2 k).getD q.1,q.2)
theorem zQ1{i:Nat}{fk fx:VF}{ak aa:Pos}(hu:X.A.units+1<cLine)(ho:PE X a (tVar i))(hk:PE X b (TV K ml pa ta ia fk))(hx:PE X c (TV K ml pb true true fx))(m:M2 X a "get" ak b c aa):
  PE X (.Call (.Attribute a "get" ak) [b,c] [] aa) (TV K ml (pa && pb) true true (zLQ i fk fx)) := (zQP hu ho hk hx m).imp fun σ H Q ⟨B,O,δ,d,δ3,S,q,k⟩ => by
 unfold zLQ at q
 cases h0:ownD δ i with
 | none => rw [h0] at q;cases q
 |some z0=>
  obtain⟨ks0,ds0⟩:=z0
  rw[h0] at q
  cases h1:fk δ with
  | none => simp [h1] at q
  |some p1=>
   obtain⟨y,δ1⟩:=p1
   simp only[Ae,h1] at q
   cases h2:fx δ1 with
   | none => simp [h2] at q
   |some p2=>
    obtain⟨z,δ2⟩:=p2
    simp only[Ae,h2] at q
    cases h3:keyD y with
    | none => simp [h3] at q
    |some kk=>
     simp only[Ae,h3] at q
     cases h4:ownD δ2 i with
     | none => simp [h4] at q
     |some zz=>
      obtain⟨ks,ds⟩:=zz
      simp only[h4] at q
      cases q
      obtain⟨l,e1,e2,w⟩:=S.ow i _ (zEY h0)
      refine⟨.ref l,e2,l,rfl,?_,B,O,δ,y,δ1,S,h1,fun v1 H1 R1=>⟨B,O,δ1,z,_,R1.sta,h2,fun v2 H2 R2=> ?_⟩⟩
      ·generalize hw:Dat.dct ks0 ds0=dd at w
       cases w with
       |lst _ _=>cases hw
       |dct q _=>exact .inl ⟨_,.inl q⟩
      ·have ey:=R1.rep.key h3
       subst ey
       obtain⟨l',e3,_,w2⟩:=R2.sta.ow i _ (zEY h4)
       rw[e1] at e3
       cases e3
       have fin: ∀o,Rep K (Nn B O) H2 (Nn B O) (o:V) ((zBU ks ds kk).getD z)->Q o H2:=fun o ho=>k o H2 ⟨R2.sta,R1.frm.trans R2.frm,fun z=>by
        obtain⟨z1,z2⟩:=(A1 _ _).mp z
        exact(R1.pur z1).trans (R2.pur z2),ho⟩
       generalize hw:Dat.dct ks ds=dd at w2
       cases w2 with
       |lst _ _=>cases hw
       |dct q r=>
        cases hw
        refine⟨_,DGet.k q,fin _ ?_⟩
        rcases zGF (k:=kk) r with⟨v,d',g1,g2,g3⟩|⟨g1,g2⟩
        ·rw[g1,g2];exact g3
        ·rw[g1,g2];exact R2.rep
noncomputable def zDN:List Key->List Dat->Key->Dat->List Key×List Dat
 |k'::ks,d::ds,k,v=>if k'=k then(k'::ks,v::ds) else let r:=zDN ks ds k v;(k'::r.1,d::r.2)
 |_,_,k,v=>([k],[v])
noncomputable def zQF(i:Nat)(fk fv:VF):VS:=fun δ=>(fv δ).bind fun p=>(ownD p.2 i).bind fun _=>(fk p.2).bind fun q=>(keyD q.1).bind fun k=>(ownD q.2 i).bind fun z=>if z.1.length<16777216/\z.1.Nodup then some (.nx (q.2.set i (.ow (let r:=zDN z.1 z.2 k p.1;.dct r.1 r.2)))) else none
theorem zIY{N:Addr->Prop}{k:Key}{v:V}(h:Rep K N H N v d): ∀{kvs:List (Key×V)} {ds:List Dat},(kvs.map Ex).Nodup->RepA K N H (kvs.map Ew) ds→
  (putK kvs k v).map Ex=(zDN (kvs.map Ex) ds k d).1/\RepA K N H ((putK kvs k v).map Ew) (zDN (kvs.map Ex) ds k d).2
 | [],_,_,.nil => ⟨rfl,.cons h .nil⟩
 | (k',u) :: kvs,_,nd,.cons hu t => by
  obtain⟨n1,n2⟩:=C4.mp nd
  by_cases hk:k'=k
  ·subst hk
   have e:putK ((k',u)::kvs) k' v=(k',v)::kvs:=by
    unfold putK
    rw[if_pos (by simp)]
    simp only[B9,if_true]
    congr 1
    refine(List.map_congr_left fun p hp=> ?_).trans (List.map_id _)
    have:p.1≠k':=fun z=>n1 (Cd.mpr ⟨p,hp,z⟩)
    simp[this]
   rw[e]
   exact⟨by simp[zDN],by simpa[zDN] using RepA.cons h t⟩
  ·obtain⟨h1,h2⟩:=zIY (k:=k) h n2 t
   have e:putK ((k',u)::kvs) k v=(k',u)::putK kvs k v:=by
    unfold putK
    simp only[G6,hk,decide_false,Ks]
    split
    ·simp[hk]
    ·rfl
   rw[e]
   exact⟨by simpa[zDN,hk] using h1,by simpa[zDN,hk] using RepA.cons hu h2⟩
theorem zIX{N:Addr->Prop}{l:Addr}{o:HO}{xs:List V}{ds:List Dat}{kvs:List (Key×V)}(ho:H l=some (.dK kvs))(hN:N l)(h:RepA K N H xs ds):RepA K N (upd H l o) xs ds:=
 h.fr (P:=fun b=>b=l) (fun b u q n=>by
  by_cases hb:b=l
  ·subst hb
   rw[ho] at q
   cases q
   exact absurd (n rfl) fun z=>z
  ·rw[zAX hb]
   exact q) fun a z=>z▸hN
theorem zST{i:Nat}{fk fv:VF}{aq:Pos}(hu:X.A.units+1<cLine)(ho:PE X a (tVar i))(hk:PE X b (TV K ml pa ta ia fk))(hv:PE X c (TV K ml pb true true fv))(hs:F3 c (some (.Subscript a b aq)) pos.line X.env=pure false):
  PS X (.Assign [.Subscript a b aq] c pos) (TSt K ml (zQF i fk fv)) := (zTH hu ho hk hv hs).imp fun D σ H ⟨B,O,δ,o,S,q,k⟩ => by
 unfold zQF at q
 cases h1:fv δ with
 | none => rw [h1] at q;cases q
 |some p1=>
  obtain⟨z,δ1⟩:=p1
  rw[h1] at q
  have q : ((ownD δ1 i).bind fun _ => (fk δ1).bind fun q => (keyD q.1).bind fun k => (ownD q.2 i).bind fun z_1 => if z_1.1.length < 16777216 /\ z_1.1.Nodup then some (Ou.nx (q.2.set i (.ow (let r := zDN z_1.1 z_1.2 k z;.dct r.1 r.2)))) else none) = some o := q
  cases h0:ownD δ1 i with
  | none => rw [h0] at q;cases q
  |some z0=>
  obtain⟨ks0,ds0⟩:=z0
  rw[h0] at q
  cases h2:fk δ1 with
  | none => simp [h2] at q
  |some p2=>
   obtain⟨y,δ2⟩:=p2
   simp only[Ae,h2] at q
   cases h3:keyD y with
   | none => simp [h3] at q
   |some kk=>
    simp only[Ae,h3] at q
    cases h4:ownD δ2 i with
    | none => simp [h4] at q
    |some zz=>
     obtain⟨ks,ds⟩:=zz
     simp only[h4,Ae] at q
     split at q
     ·rename_i hz
      cases q
      refine⟨B,O,δ,z,δ1,S,h1,fun v1 H1 R1=> ?_⟩
      obtain⟨l,e1,e2,_⟩:=R1.sta.ow i _ (zEY h0)
      refine⟨.ref l,e2,B,O,δ1,y,δ2,R1.sta,h2,fun v2 H2 R2=> ?_⟩
      have ey:=R2.rep.key h3
      subst ey
      obtain⟨l',e3,_,w2⟩:=R2.sta.ow i _ (zEY h4)
      rw[e1] at e3
      cases e3
      generalize hw:Dat.dct ks ds=dd at w2
      cases w2 with
      |lst _ _=>cases hw
      |dct qd r=>
       cases hw
       have rv:=R1.rep.fr R2.frm (fun a z=> .inr z) fun a z=> .inr z
       obtain⟨g1,g2⟩:=zIY (k:=kk) rv hz.2 r
       refine⟨l,_,rfl,DPut.k qd (by rw[Bb];simpa using hz.1),k σ _ O (R2.sta.wrote e1 (fun z=>z) ?_)⟩
       have w:Own K (Nn B O) (upd H2 l (.dK (putK _ kk v1))) l (.dct ((putK _ kk v1).map Ex) _):= .dct zAR (zIX qd (.inr ⟨i,e1⟩) g2)
       rw[g1] at w
       exact w
     ·cases q
end
section
variable{X:Cx}{K:A5}{ml:List Nat}{e a b c:Expr}{es:List Expr}{pa ta ia pb tb ib pc tc ic pu bt bi ps bs:Bool}{fa fb fc f:VF}{B B':Bs}{O:Nat->Option Addr}{H H0 H1 H':Hp}{σ:St}{δ δ':Ev}{v:V}{d:Dat}{p:Addr}{pos:Pos}
noncomputable def zNN(i j k:Nat)(x y z:VX):VS:=fun δ=>(x δ).bind fun p=>(y p.2).bind fun q=>(z q.2).bind fun r=>if i<r.2.length/\j<r.2.length/\k<r.2.length then some (.nx (((r.2.set k r.1).set j q.1).set i p.1)) else none
theorem zNM{i j k:Nat}{x y z:VX}{o:Ou}(h:zNN i j k x y z δ=some o): ∃s1 δ1 s2 δ2 s3 δ3,x δ=some (s1,δ1)/\y δ1=some (s2,δ2)/\z δ2=some (s3,δ3)/\(i<δ3.length/\j<δ3.length/\k<δ3.length)/\o= .nx (((δ3.set k s3).set j s2).set i s1):=by
 unfold zNN at h
 cases h1:x δ with
 | none => rw [h1] at h;cases h
 |some p=>
  rw[h1] at h
  cases h2:y p.2 with
  | none => simp [h2] at h
  |some q=>
   simp only[Ae,h2] at h
   cases h3:z q.2 with
   | none => simp [h3] at h
   |some r=>
    simp only[Ae,h3] at h
    split at h
    ·cases h
     exact⟨p.1,p.2,q.1,q.2,r.1,r.2,rfl,h2,h3,by assumption,rfl⟩
    ·cases h
theorem zSR{i j k:Nat}{x y z:Str}{fx fy fz:VX}{px py pz pt:Pos}{kt k2 pt2}(hK:X.K=K)(hc:X.calm=true)(hN:X.N.Nodup)(hi:X.N[i]? =some x)(hj:X.N[j]? =some y)(hk:X.N[k]? =some z)(hij:i≠j)(hik:i≠k)(hjk:j≠k)
  (hx:Loc X.env.scope x) (hy:Loc X.env.scope y) (hz:Loc X.env.scope z) (ha:PE X a (TX K ml fx)) (hb:PE X b (TX K ml fy)) (hcc:PE X c (TX K ml fz))
  (hmi:i∉ml:=by decide) (hmj:j∉ml:=by decide) (hmk:k∉ml:=by decide)
  (hs:Dh [.Tuple [.Name x px,.Name y py,.Name z pz] kt pt] (.Tuple [a,b,c] k2 pt2) pos.line X.env=pure false:=by rfl)
  (hw:Di [.Tuple [.Name x px,.Name y py,.Name z pz] kt pt] (.Tuple [a,b,c] k2 pt2) X.env=pure none:=by rfl)
  (hn:(assignEach [.Name x px,.Name y py,.Name z pz] X.env).length=3:=by rfl) (hst:(assignEach [.Name x px,.Name y py,.Name z pz] X.env).findIdx? (·.1)=none:=by rfl)
  (g1:(assignEach [.Name x px,.Name y py,.Name z pz] X.env).map (·.2)=assign (.Name x px) X.env::(assignEach [.Name y py,.Name z pz] X.env).map (·.2):=by rfl)
  (g2:(assignEach [.Name y py,.Name z pz] X.env).map (·.2)=assign (.Name y py) X.env::(assignEach [.Name z pz] X.env).map (·.2):=by rfl)
  (g3:(assignEach [.Name z pz] X.env).map (·.2)=assign (.Name z pz) X.env::(assignEach [] X.env).map (·.2):=by rfl)
  (fx':X.fn x=true∨X.env.scope.names.lookup x=some .local:=by first|exact .inl rfl|exact .inr rfl|assumption) (fy':X.fn y=true∨X.env.scope.names.lookup y=some .local:=by first|exact .inl rfl|exact .inr rfl|assumption) (fz':X.fn z=true∨X.env.scope.names.lookup z=some .local:=by first|exact .inl rfl|exact .inr rfl|assumption)
  (h1:(assignEach [.Tuple [.Name x px,.Name y py,.Name z pz] kt pt] X.env).map (·.2)=[assign (.Tuple [.Name x px,.Name y py,.Name z pz] kt pt) X.env]:=by rfl)
  (he:starEach (a::[b,c]) X.env=(false,eval a X.env)::starEach [b,c] X.env:=by rfl) (he2:starEach (b::[c]) X.env=(false,eval b X.env)::starEach [c] X.env:=by rfl) (he3:starEach (c::[]) X.env=(false,eval c X.env)::starEach [] X.env:=by rfl):
  PS X (.Assign [.Tuple [.Name x px,.Name y py,.Name z pz] kt pt] (.Tuple [a,b,c] k2 pt2) pos) (TSt K ml (zNN i j k fx fy fz)):=
 (zIZ (zO1 (zB1 ha (zB1 hb (zB1 hcc zCU he3) he2) he)) (zU5 (K := K) hK hc (zED (zFH hN hi hx fx') (zED (zFH hN hj hy fy') (zED (zFH hN hk hz fz') zKB g3) g2) g1) hn hst) hs hw h1).imp fun D σ H q0 => by
  obtain⟨B,O,δ,o,S,q,k⟩:=q0
  obtain⟨s1,δ1,s2,δ2,s3,δ3,h1,h2,h3,hl,rfl⟩:=zNM q
  refine⟨B,O,δ,s1,δ1,S,h1,fun v H1 B1 S1 w1 f1=>⟨B1,O,δ1,s2,δ2,S1,h2,fun v2 H2 B2 S2 w2 f2=>⟨B2,O,δ2,s3,δ3,S2,h3,fun v3 H3 B3 S3 w3 f3=>⟨(by show 3<=sizeLine;decide),fun p hp=>⟨p,_,rfl,SqT.of zAR,rfl,v,_,rfl,v2,_,rfl,v3,_,rfl,rfl,?_⟩⟩⟩⟩⟩
  have f4:Fr (OA O) H3 (upd H3 p (.tup [v,v2,v3])):=(zA9 hp).fr
  obtain⟨O4,S4⟩:=(w3.fr f4).bind (S3.same (zA9 hp)) hmk hl.2.2
  obtain⟨O5,S5⟩:=((w2.fr f3).fr f4).bind S4 hmj (by rw[B8];exact hl.2.1)
  obtain⟨O6,S6⟩:=(((w1.fr f2).fr f3).fr f4).bind S5 hmi (by rw[B8,B8];exact hl.1)
  rw[E7 _ _ (C2 hij),E7 _ _ (C2 hik),E7 _ _ (C2 hjk)] at S6
  exact k _ _ _ S6
theorem zSS{i j:Nat}{x y:Str}{fx fy:VX}{px py pt:Pos}{kt k2 pt2}(hK:X.K=K)(hc:X.calm=true)(hN:X.N.Nodup)(hi:X.N[i]? =some x)(hj:X.N[j]? =some y)(hij:i≠j)
  (hx:Loc X.env.scope x) (hy:Loc X.env.scope y) (ha:PE X a (TX K ml fx)) (hb:PE X b (TX K ml fy))
  (hmi : i ∉ ml := by decide) (hmj : j ∉ ml := by decide)
  (hs : Dh [.Tuple [.Name x px,.Name y py] kt pt] (.Tuple [a,b] k2 pt2) pos.line X.env = pure false := by rfl)
  (hw : Di [.Tuple [.Name x px,.Name y py] kt pt] (.Tuple [a,b] k2 pt2) X.env = pure none := by rfl)
  (hn : (assignEach [.Name x px,.Name y py] X.env).length = 2 := by rfl) (hst : (assignEach [.Name x px,.Name y py] X.env).findIdx? (·.1) = none := by rfl)
  (g1 : (assignEach [.Name x px,.Name y py] X.env).map (·.2) = assign (.Name x px) X.env :: (assignEach [.Name y py] X.env).map (·.2) := by rfl)
  (g2 : (assignEach [.Name y py] X.env).map (·.2) = assign (.Name y py) X.env :: (assignEach [] X.env).map (·.2) := by rfl)
  (fx' : X.fn x = true ∨ X.env.scope.names.lookup x = some .local := by first | exact .inl rfl | exact .inr rfl | assumption) (fy' : X.fn y = true ∨ X.env.scope.names.lookup y = some .local := by first | exact .inl rfl | exact .inr rfl | assumption)
  (h1 : (assignEach [.Tuple [.Name x px,.Name y py] kt pt] X.env).map (·.2) = [assign (.Tuple [.Name x px,.Name y py] kt pt) X.env] := by rfl)
  (he : starEach (a :: [b]) X.env = (false,eval a X.env) :: starEach [b] X.env := by rfl) (he2 : starEach (b :: []) X.env = (false,eval b X.env) :: starEach [] X.env := by rfl) :
  PS X (.Assign [.Tuple [.Name x px,.Name y py] kt pt] (.Tuple [a,b] k2 pt2) pos) (TSt K ml (zHC i j fx fy)):=
 (zIZ (zO1 (zB1 ha (zB1 hb zCU he2) he)) (zU5 (K := K) hK hc (zED (zFH hN hi hx fx') (zED (zFH hN hj hy fy') zKB g2) g1) hn hst) hs hw h1).imp fun D σ H q0 => by
  obtain⟨B,O,δ,o,S,q,k⟩:=q0
  unfold zHC at q
  cases h1:fx δ with
  | none => rw [h1] at q;cases q
  |some p=>
   obtain⟨s,δ1⟩:=p
   rw[h1] at q
   cases h2:fy δ1 with
   | none => simp [h2] at q
   |some p2=>
    obtain⟨s2,δ2⟩:=p2
    simp only[Ae,h2] at q
    split at q
    ·rename_i hl
     cases q
     refine⟨B,O,δ,s,δ1,S,h1,fun v H1 B1 S1 w1 f1=>⟨B1,O,δ1,s2,δ2,S1,h2,fun v2 H2 B2 S2 w2 f2=>⟨(by show 2<=sizeLine;decide),fun p hp=>⟨p,_,rfl,SqT.of zAR,rfl,v,_,rfl,v2,_,rfl,rfl,?_⟩⟩⟩⟩
     have f4:Fr (OA O) H2 (upd H2 p (.tup [v,v2])):=(zA9 hp).fr
     obtain⟨O3,S3⟩:=(w2.fr f4).bind (S2.same (zA9 hp)) hmj hl.2
     obtain⟨O4,S4⟩:=((w1.fr f2).fr f4).bind S3 hmi (by rw[B8];exact hl.1)
     rw[E7 _ _ (C2 hij)] at S4
     exact k _ _ _ S4
    ·cases q
noncomputable def zQE(i:Nat)(fi fv:VF):VS:=fun δ=>(fv δ).bind fun p=>(ownL p.2 i).bind fun _=>(fi p.2).bind fun q=>(ownL q.2 i).bind fun ds=>match q.1 with
 | .int k=>(ixN ds.length k).map fun j=> .nx (q.2.set i (.ow (.lst (ds.set j p.1))))
 |_=>none
theorem zV2{i:Nat}{fi fv:VF}{aq:Pos}(hK:X.K=K)(ho:PE X a (tVar i))(hi:PE X b (TV K ml pa ta ia fi))(hv:PE X c (TV K ml pb true true fv))
  (ha: ∀v,assign (.Subscript a b aq) X.env v=(do
   let ov<- Hv [v] (eval a X.env)
   let iv<- Hv [v,ov] (eval b X.env)
   standAt aq
   Hv [v,ov,iv] (setItem ov iv v)
   release [v,ov,iv] []):=by intro _;rfl)
  (hs : Dh [.Subscript a b aq] c pos.line X.env = pure false := by rfl) (hw : Di [.Subscript a b aq] c X.env = pure none := by rfl)
  (h1 : (assignEach [.Subscript a b aq] X.env).map (·.2) = [assign (.Subscript a b aq) X.env] := by rfl) : PS X (.Assign [.Subscript a b aq] c pos) (TSt K ml (zQE i fi fv)) :=
 (zIZ hv (zX3 ho hi zQD ha) hs hw h1).imp fun D σ H q0 => by
  obtain⟨B,O,δ,o,S,q,k⟩:=q0
  unfold zQE at q
  cases h1:fv δ with
  | none => rw [h1] at q;cases q
  |some p1=>
   obtain⟨z,δ1⟩:=p1
   rw[h1] at q
   cases h0:ownL δ1 i with
   | none => simp [h0] at q
   |some ds0=>
    simp only[Ae,h0] at q
    cases h2:fi δ1 with
    | none => simp [h2] at q
    |some p2=>
     obtain⟨y,δ2⟩:=p2
     simp only[Ae,h2] at q
     cases h4:ownL δ2 i with
     | none => simp [h4] at q
     |some ds=>
      simp only[h4,Ae] at q
      cases y with
      |int kk=>
       have q:((ixN ds.length kk).map fun j=>Ou.nx (δ2.set i (.ow (.lst (ds.set j z)))))=some o:=q
       cases h5:ixN ds.length kk with
       | none => rw [h5] at q;cases q
       |some j=>
        rw[h5] at q
        cases q
        refine⟨B,O,δ,z,δ1,S,h1,fun v1 H1 R1=> ?_⟩
        obtain⟨l,e1,e2,_⟩:=R1.sta.ow i _ (zEX h0)
        refine⟨.ref l,e2,B,O,δ1,_,δ2,R1.sta,h2,fun v2 H2 R2=> ?_⟩
        have ey:v2= .int kk:=by
         have r:=R2.rep
         cases r
         rfl
        subst ey
        obtain⟨l',e3,_,w2⟩:=R2.sta.ow i _ (zEX h4)
        rw[e1] at e3
        cases e3
        cases w2 with
        |lst hl r=>
         have rv:=R1.rep.fr R2.frm (fun a z=> .inr z) fun a z=> .inr z
         refine⟨l,_,kk,j,rfl,rfl,hl,by rw[r.length];exact h5,k σ _ O (R2.sta.wrote e1 (fun z=>z) (.lst zAR (zGS (ys:=[]) hl (.inr ⟨i,e1⟩) (r.set rv j))))⟩
      |_=>cases q
def rIsB(neg:Bool):R2:=fun x y H Q=> ∃k,y= .bl k/\Q (.bl (if neg then !decide (x= .bl k) else decide (x= .bl k))) H
theorem zS2:OpR X (Bl .Is) (rIsB false):=by
 intro a5 s σ H x y v u Q I rx ry h
 obtain⟨k,rfl,q⟩:=h
 cases ry
 have e:(v==Dk k)=decide (x=V.bl k):=by
  cases x<;>first
   |(cases rx;first|rfl|(rename_i z;cases z<;>cases k<;>rfl))
   |(obtain⟨t,rfl⟩:=rx;rfl)
 exact wpAny_is_plain (by cases x<;>first|(cases rx;cases k<;>rfl)|(obtain⟨t,rfl⟩:=rx;cases k<;>rfl)) (by rw[e];exact⟨.bl _,H,I,rfl,q⟩)
theorem zFI:OpR X (Bl .IsNot) (rIsB true):=by
 intro a5 s σ H x y v u Q I rx ry h
 obtain⟨k,rfl,q⟩:=h
 cases ry
 have e:(v==Dk k)=decide (x=V.bl k):=by
  cases x<;>first
   |(cases rx;first|rfl|(rename_i z;cases z<;>cases k<;>rfl))
   |(obtain⟨t,rfl⟩:=rx;rfl)
 exact wpAny_isNot_plain (by cases x<;>first|(cases rx;cases k<;>rfl)|(obtain⟨t,rfl⟩:=rx;cases k<;>rfl)) (by rw[e];exact⟨.bl _,H,I,rfl,q⟩)
noncomputable def isBl(k:Bool):Dat->Bool
 | .bl x=>x==k
 |_=>false
noncomputable def oIsB:Dat->Dat->Option Dat
 |d,.bl k=>some (.bl (isBl k d))
 |_,_=>none
noncomputable def zEL:Dat->Dat->Option Dat
 |d,.bl k=>some (.bl (!isBl k d))
 |_,_=>none
theorem zNQ{N M:Addr->Prop}{k:Bool}(h:Rep K N H M v d):decide (v=V.bl k)=isBl k d:=by
 cases h<;>simp[isBl]
 rename_i b
 cases b<;>cases k<;>rfl
theorem zWD:OpS K (rIsB false) oIsB:=by
  intro H N N' M M' x y d e c Q hx hy h k
  cases hy<;>first
    | (cases h
       refine⟨_,rfl,?_⟩
       simp only[Ef,if_false]
       rw[zNQ hx]
       exact k _ fun _ _ _=> .bl _)
    |(simp[oIsB] at h)
theorem zHJ:OpS K (rIsB true) zEL:=by
  intro H N N' M M' x y d e c Q hx hy h k
  cases hy<;>first
    | (cases h
       refine⟨_,rfl,?_⟩
       simp only[if_true]
       rw[zNQ hx]
       exact k _ fun _ _ _=> .bl _)
    |(simp[zEL] at h)
end
section
variable{prog:Al}{w:World}{A:Ba}{E:Value->A2->Prop}{s:A2}
theorem zEZ{it t:Addr}{i:Nat}{items:Array Value}{x:Value}{Q:Value->A2->Prop}(hit:s.heap.IsTupleIter it t i)(ht:s.heap.IsTuple t items)(hx:items[i]? =some x)
  (hQ: ∀h',h'.IsTupleIter it t (i+1)->Cz it s.heap h'->Q x {s with heap:=h'}):wpAny (model prog w) A (Az (.ref it)) Q E s:=by
 obtain⟨oi,g1,c1,d1⟩:=id hit
 obtain⟨ot,g2,_,nt,d2⟩:=ht
 unfold Az
 refine A0 (C0 (name:=At "__next__") hit.typeIs Cv (Ch Cv hit.typeIs Fb ?_ (Ey _)))
 show wpAny _ _ (field (Au it) 0>>=_) _ _ s
 refine A0 (Cc g1 d1 (x:= .ref t) rfl ?_)
 show wpAny _ _ (if(Au t== .none)=true then _ else _) _ _ s
 rw[if_neg (show¬(Au t==Value.none)=true from Cg)]
 show wpAny _ _ (field (Au it) 1>>=_) _ _ s
 refine A0 (Cc g1 d1 (x:= .int i 0) rfl ?_)
 show wpAny _ _ (seqItems? (Au t)>>=_) _ _ s
 refine A0 (D5 g2 d2 ?_)
 simp only[hx,En]
 refine A0 (wpAny_setField g1 d1 (by simp) (A8 ⟨x,rfl,A8 (hQ _ ⟨_,Gx _ g1 (Obj.isFreed_of_fields (Il d1 _)),(Obj.cls_mapFields ..).trans c1,?_⟩ (Hz ..))⟩))
 rw[Il d1]
 simp[rawInt]
theorem zFY{it t:Addr}{i:Nat}{items:Array Value}{Q:Value->A2->Prop}(hh:A.handled=none)(hit:s.heap.IsTupleIter it t i)(ht:s.heap.IsTuple t items)(hx:items[i]? =none)
  (hE: ∀h' e,F9 it s.heap h'->(∃o,h'.get? e=some o/\o.cls= .type "StopIteration")->E (.ref e) {s with heap:=h'}):wpAny (model prog w) A (Az (.ref it)) Q E s:=by
 obtain⟨oi,g1,c1,d1⟩:=id hit
 obtain⟨ot,g2,_,nt,d2⟩:=ht
 unfold Az
 refine A0 (C0 (name:=At "__next__") hit.typeIs Cv (Ch Cv hit.typeIs Fb ?_ (Ey _)))
 show wpAny _ _ (field (Au it) 0>>=_) _ _ s
 refine A0 (Cc g1 d1 (x:= .ref t) rfl ?_)
 show wpAny _ _ (if(Au t== .none)=true then _ else _) _ _ s
 rw[if_neg (show¬(Au t==Value.none)=true from Cg)]
 show wpAny _ _ (field (Au it) 1>>=_) _ _ s
 refine A0 (Cc g1 d1 (x:= .int i 0) rfl ?_)
 show wpAny _ _ (seqItems? (Au t)>>=_) _ _ s
 refine A0 (D5 g2 d2 ?_)
 simp only[hx,En]
 refine A0 (Hh (A0 (wpAny_setField g1 d1 (by simp) ?_)))
 show wpAny _ _ (newExc (Fu "StopIteration") []>>=_) _ _ _
 refine A0 ?_
 unfold newExc newTuple
 refine A0 (C6 ?_ (by size_fits))
 refine A0 (m:=firstArgMember _ _) (wpAny_of_eq (a:=Value.none) (by first|rfl|(unfold firstArgMember;rfl)) (C6 ?_ (by size_fits)))
 unfold raiseNew
 refine A0 (wpAny_handled ?_)
 first|rw[hh]|rw[show A.in1.handled=none from hh]
 refine A0 (A8 (wpAny_throw (hE _ _ (((Hz ..).extBut.push _).push _) ⟨_,Ah _ rfl,rfl⟩)))
end
theorem zP6{prog:Al}{w:World}{A:Ba}(hh:A.handled=none)(it t:Addr)(hne:t≠it)(items:Array Value):
  Draws prog w A it [it,t] items.size (fun i v=>items[i]? =some v) (fun i h=>h.IsTupleIter it t i/\h.IsTuple t items) where
 live:=fun _ _ st=>let ⟨o,ho,_⟩:=st.1;⟨o,ho⟩
 frame:=fun _ _ _ st hk=>⟨st.1.at fun o e=>hk it (by simp) o e,by obtain⟨o,ho,r⟩:=st.2;exact⟨o,hk t (by simp) o ho,r⟩⟩
 item:=fun i s Q E hi st hQ=>zEZ st.1 st.2 (x:=items[i]) (by simp[hi]) fun h' a b=>hQ _ h' s.toks (by simp[hi]) ⟨a,st.2.extBut b.extBut hne⟩ b
 done:=fun s Q E st hE=>zFY hh st.1 st.2 (by simp) hE
section
variable{X:Cx}{a5:List (Addr×Obj)}{σ:St}{H:Hp}{s:A2}{h':Heap}
theorem Inv.turnedL{t':Nat}{fp:List Addr}(I:Inv X a5 σ H s)(k: ∀b o,b∉fp->s.heap.get? b=some o->h'.get? b=some o)(there: ∀b∈fp,∃o,h'.get? b=some o)(hf: ∀b∈fp,FpOk X a5 H b):Inv X a5 σ H {s with heap:=h',toks:=t'}:=by
 have nit: ∀b u,H b=some u->b∉fp:=fun b u e z=>by rw[(hf b z).1] at e;cases e
 have hL:X.env.locals∉fp:=fun z=>(hf _ z).2.1 rfl
 refine I.step (g':=s.gens) (d':=s.drawn) (ch:=fp) (fun b hb=> ?_) (fun b o _ _ hc e _=>k b o hc e) (fun b o _ _ hc e _=>⟨o.slots,k b o hc e⟩) (fun _ _ _ _ n=>n)
  (fun b o hc e=>⟨o,k b o hc e⟩) (fun _ _ e=>e) (fun _ _ _ e=>e) (fun b ps e=>⟨#[],by rw[e];simp⟩) (fun m hm=> ?_) (fun b u e=> ?_) I.bare
 ·obtain⟨_,f1,f2,f3,f4,f5⟩:=hf b hb
  exact⟨f3,f1,f4,f5⟩
 ·obtain⟨o,es,ep,ho,r⟩:=hm
  exact⟨o,es,ep,k _ o hL ho,r⟩
 ·refine (I.hok b u e).stay (fun c v hc q => k c v ?_ q) (fun _ q => q) fun _ _ q => q
  rcases hc with z|z
  ·rw[z];exact nit b u e
  ·exact nit c _ z
end
section
variable{X:Cx}{a5:List (Addr×Obj)}{σ:St}{H:Hp}{s:A2}{h':Heap}
theorem Inv.turnedL'{t':Nat}{fp:List Addr}(I:Inv X a5 σ H s)(k: ∀b o,b∉fp->s.heap.get? b=some o->h'.get? b=some o)(hf: ∀b∈fp,FpOk X a5 H b):Inv X a5 σ H {s with heap:=h',toks:=t'}:=by
 have nit: ∀b u,H b=some u->b∉fp:=fun b u e z=>by rw[(hf b z).1] at e;cases e
 have hL:X.env.locals∉fp:=fun z=>(hf _ z).2.1 rfl
 refine I.step (g':=s.gens) (d':=s.drawn) (ch:=fp) (fun b hb=> ?_) (fun b o _ _ hc e _=>k b o hc e) (fun b o _ _ hc e _=>⟨o.slots,k b o hc e⟩) (fun _ _ _ _ n=>n)
  (fun b o hc e=>⟨o,k b o hc e⟩) (fun _ _ e=>e) (fun _ _ _ e=>e) (fun b ps e=>⟨#[],by rw[e];simp⟩) (fun m hm=> ?_) (fun b u e=> ?_) I.bare
 ·obtain⟨_,f1,f2,f3,f4,f5⟩:=hf b hb
  exact⟨f3,f1,f4,f5⟩
 ·obtain⟨o,es,ep,ho,r⟩:=hm
  exact⟨o,es,ep,k _ o hL ho,r⟩
 ·refine (I.hok b u e).stay (fun c v hc q => k c v ?_ q) (fun _ q => q) fun _ _ q => q
  rcases hc with z|z
  ·rw[z];exact nit b u e
  ·exact nit c _ z
end
def SqA(K:A5)(tup:Bool)(H:Hp)(a:Addr)(xs:List V):Prop:=if tup=true then SqT K H a xs else SqL K H a xs
def Src(tup:Bool)(h:Heap)(a:Addr)(items:Array Value):Prop:=if tup=true then h.IsTuple a items else h.IsList a items
def IsIt(tup:Bool)(h:Heap)(it a:Addr)(i:Nat):Prop:=if tup=true then h.IsTupleIter it a i else h.IsListIter it a i
theorem zSF{prog:Al}{w:World}{A:Ba}(hh:A.handled=none)(tup:Bool)(it t:Addr)(hne:t≠it)(items:Array Value):
  Draws prog w A it [it,t] items.size (fun i v=>items[i]? =some v) (fun i h=>IsIt tup h it t i/\Src tup h t items):=by
 cases tup with
 |true=>exact zP6 hh it t hne items
 |false=>exact Draws.list hh it t hne items
theorem Src.lt{tup:Bool}{h:Heap}{a:Addr}{items:Array Value}(s:Src tup h a items):a<h.objs.size:=by
 cases tup with
 |true=>obtain⟨o,e,_⟩:=s;exact Ad e
 |false=>obtain⟨o,e,_⟩:=s;exact Ad e
theorem Inv.srcA{X:Cx}{a5:List (Addr×Obj)}{σ:St}{H:Hp}{s:A2}{a:Addr}{xs:List V}{tup:Bool}(I:Inv X a5 σ H s)(h:SqA X.K tup H a xs): ∃its:List Value,Vals xs its/\Src tup s.heap a its.toArray/\xs.length<=sizeLine:=by
 cases tup with
 |true=>
  obtain⟨its,r,p,z⟩:=I.tuple h
  exact⟨its,r,p,z⟩
 |false=>
  obtain⟨its,r,p,z⟩:=I.list h
  exact⟨its,r,p.isList,z⟩
theorem Inv.sq_inj{X:Cx}{a5:List (Addr×Obj)}{σ:St}{H:Hp}{s:A2}{a:Addr}{xs ys:List V}{tup:Bool}(I:Inv X a5 σ H s)(h:SqA X.K tup H a xs)(h':SqA X.K tup H a ys):xs=ys:=by
 cases tup with
 |true=>exact I.tuple_inj h h'
 |false=>exact I.list_inj h h'
theorem IsIt.at{tup:Bool}{h h':Heap}{it a:Addr}{i:Nat}(st:IsIt tup h it a i)(k: ∀o,h.get? it=some o->h'.get? it=some o):IsIt tup h' it a i:=by
 cases tup with
 |true=>exact Heap.IsTupleIter.at st k
 |false=>exact Heap.IsListIter.at st k
theorem IsIt.obj{tup:Bool}{h:Heap}{it a:Addr}{i:Nat}(st:IsIt tup h it a i): ∃o,h.get? it=some o/\ ∀v,o.data≠ .cell v:=by
 cases tup with
 |true=>
  obtain⟨o,e,c,d⟩:=st
  exact⟨o,e,fun v z=>by rw[d] at z;cases z⟩
 |false=>
  obtain⟨o,e,c,d⟩:=st
  exact⟨o,e,fun v z=>by rw[d] at z;cases z⟩
noncomputable def Ite(K:A5)(tup:Bool)(a:Addr):It:=
 ⟨fun i H=> ∃xs x,SqA K tup H a xs/\xs[i]? =some x,fun i H v H'=> ∃p x,(∀xs,SqA K tup H a xs->xs[i]? =some x)/\H p=none/\H'=upd H p (.tup [.int i,x])/\v= .ref p,fun i H=> ∃xs,SqA K tup H a xs/\xs.length=i⟩
theorem zN6{P:Al}{w:World}{K:A5}{es:List Expr}{k:Nat}{pos:Pos}(tup:Bool)(a e it:Addr)(hei:e≠it)(hae:a≠e)(hai:a≠it):
  Turn P w K (.Tuple es k pos) (Ite K tup a) [e,it] e (fun i h=>(∃old,IsEnum h e it i old)/\IsIt tup h it a i) where
 mem := by simp
 obj := fun i h st b hb => by
  obtain⟨⟨old,he⟩,hi⟩:=st
  rcases Ac.mp hb with z|z
  ·subst z
   exact⟨_,he,fun v z=>by cases z⟩
  ·have:=Af.mp z
   subst this
   exact hi.obj
 keep:=fun i h h' st kk=>by
  obtain⟨⟨old,he⟩,hi⟩:=st
  exact⟨⟨old,kk e (by simp) _ he⟩,hi.at fun o q=>kk it (by simp) o q⟩
 item:=by
  intro X hP hw hK hc i a5 s σ H E I hf st hg
  subst hP hw hK
  obtain⟨⟨old,he⟩,hi⟩:=st
  obtain⟨xs,x,hq,hx⟩:=hg
  obtain⟨its,rv,src,hz⟩:=I.srcA hq
  have hlt:i<its.toArray.size:=by
   have:=(A6.mp hx).1
   have:=rv.length
   simp only[A9]
   omega
  have hh:X.A.in1.handled=none:=I.ok.hd hc
  refine wpAny_pyNext_enum_itemD (zSF hh tup it a hai its.toArray) he ⟨hi,src⟩ hlt hei (by simp[hei,C2 hae]) fun u h1 tk hu ho st1 ht hsz hk=>⟨_,rfl,?_⟩
  refine wpAny_letOwnedTupleGo_enum (s:={s with heap:=h1,toks:=tk+1}) ho fun h2 he2 sb2=> ?_
  have sb2:Cz e h1 h2:=sb2
  obtain⟨u',hu',ru⟩:=rv.get hx
  have hu:its.toArray[i]? =some u:=hu
  rw[List.getElem?_toArray,hu'] at hu
  have hu:=B4 hu
  subst hu
  have kk: ∀b o,b∉[e,it]->s.heap.get? b=some o->h2.get? b=some o:=fun b o hb q=>by
   have h1b:b≠e:=fun z=>hb (by simp[z])
   have h2b:b≠it:=fun z=>hb (by simp[z])
   exact(sb2.2 b h1b).trans (hk b o h1b h2b q)
  have iy:h2.get? s.heap.objs.size=some {cls:= .type "tuple",data:= .seq #[.int i tk,u']}:=(sb2.2 _ (E3 (Ad he))).trans ht
  have b4:H s.heap.objs.size=none:=I.hok.fresh (Ag _)
  have md: ∀b∈[e,it],b<s.heap.objs.size:=fun b hb=>by
   rcases Ac.mp hb with z|z
   ·rw[z];exact Ad he
   ·rw[Af.mp z]
    obtain⟨o,q,_⟩:=hi.obj
    exact Ad q
  have I0:Inv X a5 σ (upd H s.heap.objs.size (.tup [.int i,x])) {s with heap:=s.heap.push {cls:= .type "tuple",data:= .seq #[.int i tk,u']},toks:=tk}:=
   I.laid (fun b o q=>A3 _ q) (Ag _) ⟨by show 2<=sizeLine;decide,[.int i tk,u'],.cons ⟨tk,rfl⟩ (.cons ru .nil),Fw _ _⟩
  have I1:Inv X a5 σ (upd H s.heap.objs.size (.tup [.int i,x])) {s with heap:=h2,toks:=tk+1}:=by
   refine Inv.turnedL (s:={s with heap:=s.heap.push {cls:= .type "tuple",data:= .seq #[.int i tk,u']},toks:=tk}) (h':=h2) (t':=tk+1) (fp:=[e,it]) I0 (fun b o hb q=> ?_) (fun b hb=> ?_) fun b hb=>⟨by rw[zAX (As (md b hb))];exact(hf b hb).1,(hf b hb).2⟩
   ·by_cases hbn:b=s.heap.objs.size
    ·subst hbn
     have q:(s.heap.push {cls:= .type "tuple",data:= .seq #[.int i tk,u']}).get? s.heap.objs.size=some o:=q
     rw[Ah _ rfl] at q
     cases q
     exact iy
    ·exact kk b o hb ((Iz _ _ _ hbn).symm.trans q)
   ·rcases Ac.mp hb with z|z
    ·rw[z];exact⟨_,he2⟩
    ·rw[Af.mp z]
     obtain⟨o,q,_⟩:=st1.1.obj
     exact⟨o,(sb2.2 it (C2 hei)).trans q⟩
  refine⟨.ref s.heap.objs.size,upd H s.heap.objs.size (.tup [.int i,x]),?_,rfl,⟨_,x,fun ys hy=>by rw[I.sq_inj hy hq];exact hx,b4,rfl,rfl⟩,⟨⟨_,by simpa using he2⟩,st1.1.at fun o q=>(sb2.2 it (C2 hei)).trans q⟩,fun b hb=> ?_⟩
  ·exact I1
  ·rw[zAX (As (md b hb))]
   exact(hf b hb).1
 done:=by
  intro X hP hw hK hc i a5 s σ H E I hf st hg
  subst hP hw hK
  obtain⟨⟨old,he⟩,hi⟩:=st
  obtain⟨xs,hq,hx⟩:=hg
  obtain⟨its,rv,src,hz⟩:=I.srcA hq
  have hh:X.A.in1.handled=none:=I.ok.hd hc
  have hn:its.toArray.size=i:=by rw[A9,<- rv.length];exact hx
  refine wpAny_pyNext_enum_endD (zSF hh tup it a hai its.toArray) he ⟨by rw[hn];exact hi,src⟩ fun h1 xb=>⟨rfl,?_⟩
  obtain⟨f0,f1,f2,f3,f4,f5⟩:=hf it (by simp)
  exact I.turned (t':=s.toks) (fun b o hb q=>xb b o hb q) f0 f1 f3 f4 f5
 self:=fun _ i _ _ _ st h=>J0 st.1.choose_spec h
theorem zP4(a:Addr)(items:Array Value)(n:Nat)(dd:Option Addr)(sl:Array (Option Value)):
  Meets (D7.«enumerate.__new__» ⟨[.type "enumerate",.ref a],[]⟩) (fun _ R s=>s.heap.get? a=some {cls:= .type "tuple",dict:=dd,data:= .seq items n,slots:=sl}∧
   R (.ok (.ret (.ref (s.heap.push {cls:= .type "tuple_iterator",data:= .fields #[.ref a,.int 0 0]}).objs.size)))
    {s with heap:=(s.heap.push {cls:= .type "tuple_iterator",data:= .fields #[.ref a,.int 0 0]}).push {cls:= .type "enumerate",data:= .fields #[.none,.bool false,.ref s.heap.objs.size,rawInt 0,.none,.none]}}):=by
 refine .of_wp fun prog w A R s h=> ?_
 obtain⟨hp,g,d,tk,os⟩:=s
 obtain⟨ha,h⟩:=h
 have hs:=sub_enumerate
 have hT:Heap.IsTuple (Jx ⟨hp,g,d,tk,os⟩) a items:=⟨_,ha,rfl,n,rfl⟩
 wp_walk using Bi ha
 refine wpAny_stack_any fun st=>A8 ?_
 split
 ·rename_i c _ _ _ _ _
  cases (c==Fu "enumerate")<;>(wp_walk using Bi ha,E8 hT;exact⟨_,rfl,h⟩)
 ·wp_walk using Bi ha,E8 hT
  exact⟨_,rfl,h⟩
theorem zMO{prog:Al}{w:World}{A:Ba}{E:Value->A2->Prop}{s:A2}{a:Addr}{items:Array Value}{tup:Bool}{Q:Value->A2->Prop}(hs:Src tup s.heap a items)
  (h: ∀h',IsEnum h' (s.heap.objs.size+1) s.heap.objs.size 0 .none->IsIt tup h' s.heap.objs.size a 0->(∀b o,s.heap.get? b=some o->h'.get? b=some o)->Q (.ref (s.heap.objs.size+1)) {s with heap:=h'}):
  wpAny (model prog w) A (call (.type "enumerate") [.ref a]) Q E s:=by
 cases tup with
 |false=>exact call_enumerate_list hs fun h' a1 a2 _ a4=>h h' a1 a2 a4
 |true=>
  obtain⟨⟨cc,dd,dt,sl⟩,g1,hc,n,hd⟩:=hs
  replace hc:cc= .type "tuple":=hc
  replace hd:dt= .seq items n:=hd
  subst hc hd
  have hz:(s.heap.push {cls:= .type "tuple_iterator",data:= .fields #[.ref a,.int 0 0]}).objs.size=s.heap.objs.size+1:=Ca ..
  refine callType_new F.called_enumerate (by decide) (F.typeCall_enumerate_1 _) (F.newCall_enumerate_1 _) (fun obj=>F.args_object_init_2 obj _) F.entry_enumerate_new (zP4 a items n dd sl) ⟨g1,?_⟩
  show _/\_
  rw[hz]
  have he:=Ah (s.heap.push {cls:= .type "tuple_iterator",data:= .fields #[.ref a,.int 0 0]}) (o:={cls:= .type "enumerate",data:= .fields #[.none,.bool false,.ref s.heap.objs.size,rawInt 0,.none,.none]}) rfl
  rw[hz] at he
  exact⟨⟨_,he,rfl⟩,h _ he ⟨_,A3 _ (Ah _ rfl),rfl,rfl⟩ fun b o x=>A3 _ (A3 _ x)⟩
theorem zJT:Av "enumerate"=some (.type "enumerate"):=by decide+kernel
theorem zZB:Av "zip"=some (.type "zip"):=by decide+kernel
section
variable{X:Cx}{K:A5}{ml:List Nat}{l:Expr}{pu:Bool}{f:VF}{p pos cv:Pos}{es:List Expr}{tk:Nat}{δ:Ev}
def iEnu(K:A5)(tl:TE):TI:=fun σ H R=>tl σ H fun x H1=> ∃a tup,x= .ref a/\(∃xs,SqA K tup H1 a xs)/\R (Ite K tup a) H1
theorem zTM{tl:TE}(hg:Gl X "enumerate") (hm:X.mg "enumerate"=none) (hl:PE X l tl) (he:starEach (l::[]) X.env=(false,eval l X.env)::starEach [] X.env:=by rfl):
  PI X (.Tuple es tk cv) (.Call (.Name "enumerate" p) [l] [] pos) (iEnu X.K tl):=by
 intro a5 s σ H R I h
 refine Cb (zHQ I hg hm zJT ?_ (by decide) (by decide))
 refine Cq (thn (zB1 hl zCU he pos a5 s σ H (fun vs H1=>match vs with
  | [x] => ∃ a tup,x = .ref a /\ (∃ xs,SqA X.K tup H1 a xs) /\ R (Ite X.K tup a) H1
  | _ => False) I h) fun us s1 ⟨vs,H1,I1,r1,q1⟩ => ?_) he (by rfl)
 match vs,r1,q1 with
 |[x],r1,q1=>
  obtain⟨a,tup,rfl,⟨xs,hq⟩,hR⟩:=q1
  obtain⟨u,rfl,ru⟩:=zK5 r1
  cases ru
  obtain⟨its,rv,src,_⟩:=I1.srcA hq
  refine zMO src fun h' he' hi' kp=> ?_
  have I2:Inv X a5 σ H1 {s1 with heap:=h'}:=I1.kept (t':=s1.toks) kp
  have hn: ∀b,s1.heap.objs.size<=b->H1 b=none:=fun b hb=>I1.hok.fresh hb
  refine J0 he' ⟨s1.heap.objs.size+1,[s1.heap.objs.size+1,s1.heap.objs.size],_,Ite X.K tup a,H1,rfl,I2,zN6 tup a (s1.heap.objs.size+1) s1.heap.objs.size (Nat.succ_ne_self _) (fun z=> ?_) (fun z=> ?_),⟨⟨_,he'⟩,hi'⟩,fun b hb=> ?_,hR⟩
  ·have:=src.lt
   rw[z] at this
   exact absurd this (Nat.not_lt_of_le (Gb _))
  ·have:=src.lt
   rw[z] at this
   exact absurd this (Bt _)
  ·have hb':s1.heap.objs.size<=b:=by
    rcases Ac.mp hb with z|z
    ·rw[z];exact Gb _
    ·rw[Af.mp z];exact Ag _
   exact I1.fpOk hb' (hn b hb')
theorem zYS(h:X.K=K){tl:TE}(hg:Gl X "enumerate") (hm:X.mg "enumerate"=none) (hl:PE X l tl) (he:starEach (l::[]) X.env=(false,eval l X.env)::starEach [] X.env:=by rfl):
  PI X (.Tuple es tk cv) (.Call (.Name "enumerate" p) [l] [] pos) (iEnu K tl):=by subst h;exact zTM hg hm hl he
noncomputable def enuD:Nat->List Dat->List Dat
 |_,[]=>[]
 |i,d::ds=> .tup [.int i,d]::enuD (i+1) ds
noncomputable def zR5(f:VF):VI:=fun δ=>(f δ).bind fun p=>(seqD p.1).map fun ds=>(enuD 0 ds,p.2)
theorem zLT: ∀{ds:List Dat} {n i:Nat} {d:Dat},(enuD n ds)[i]? =some d-> ∃x,ds[i]? =some x/\d= .tup [.int (n+i:Nat),x]
 |[],_,_,_,h=>by simp[enuD] at h
 |x::ds,n,0,d,h=>by simp[enuD] at h;exact⟨x,rfl,h.symm⟩
 |x::ds,n,i+1,d,h=>by
  have h:(enuD (n+1) ds)[i]? =some d:=by simpa[enuD] using h
  obtain⟨y,h1,h2⟩:=zLT h
  exact⟨y,by simpa using h1,by rw[h2,show n+1+i=n+(i+1) by omega]⟩
theorem zLS: ∀(ds:List Dat) (n:Nat),(enuD n ds).length=ds.length
 |[],_=>rfl
 |_::ds,n=>congrArg (· +1) (zLS ds (n+1))
theorem zIM{a:Addr}{tup:Bool}{ds:List Dat}:Walk K (Ite K tup a) [(.ref a,if tup=true then .tup ds else .lst ds)] (enuD 0 ds):=by
 intro N H h
 have r:=h _ (Af.mpr rfl)
 have fin: ∀xs,SqA K tup H a xs->RepA K N H xs ds->(∀(i:Nat) (d:Dat),(enuD 0 ds)[i]? =some d->(Ite K tup a).go i H/\ ∀x H',(Ite K tup a).yld i H x H'->Same H H'/\Rep K N H' N x d)/\(Ite K tup a).stop (enuD 0 ds).length H:=fun xs sq r=>by
  refine⟨fun i d e=> ?_,xs,sq,by rw[r.length,zLS]⟩
  obtain⟨z,e1,rfl⟩:=zLT e
  obtain⟨x,e2,r1⟩:=r.get e1
  refine⟨⟨xs,x,sq,e2⟩,fun y H' hy=> ?_⟩
  obtain⟨p,x',e3,hp,rfl,rfl⟩:=hy
  have:=e3 xs sq
  rw[e2] at this
  cases this
  refine⟨zA9 hp,.tup (SqT.of zAR) (.cons ?_ (.cons (r1.same (zA9 hp)) .nil))⟩
  rw[Fk]
  exact .int _
 cases tup with
 |true=>
  have r:Rep K N H N (.ref a) (.tup ds):=r
  cases r with
  |tup sq r=>exact fin _ sq r
 |false=>
  have r:Rep K N H N (.ref a) (.lst ds):=r
  cases r with
  |lst q n r=>exact fin _ (SqL.of q) r
  |fzl q r=>exact fin _ q.sq r
theorem zSU(hK:X.K=K)(hg:Gl X "enumerate") (hm:X.mg "enumerate"=none) (h:PE X l (TV K ml pu true true f)) (he:starEach (l::[]) X.env=(false,eval l X.env)::starEach [] X.env:=by rfl):
  PI X (.Tuple es tk cv) (.Call (.Name "enumerate" p) [l] [] pos) (TIV K ml pu (zR5 f)):=(zYS (K:=K) hK hg hm h he).imp fun σ H R ⟨B,O,δ,ds,δ',S,q,k⟩=>by
 unfold zR5 at q
 cases h1:f δ with
 | none => rw [h1] at q;cases q
 |some p=>
  obtain⟨x,δ1⟩:=p
  rw[h1] at q
  refine⟨B,O,δ,x,δ1,S,h1,fun v H1 R1=> ?_⟩
  cases x with
  |lst ds'=>
   cases q
   obtain⟨a,xs,rfl,sq,r⟩:=R1.rep.lstE
   exact⟨a,false,rfl,⟨xs,sq⟩,k _ [(.ref a,.lst ds')] H1 (R1.sta.keepV fun p hp=>by rw[Af.mp hp];exact R1.rep) R1.frm R1.pur (zIM (tup:=false))⟩
  |tup ds'=>
   cases q
   obtain⟨a,xs,rfl,sq,r⟩:=R1.rep.tupE
   exact⟨a,true,rfl,⟨xs,sq⟩,k _ [(.ref a,.tup ds')] H1 (R1.sta.keepV fun p hp=>by rw[Af.mp hp];exact R1.rep) R1.frm R1.pur (zIM (tup:=true))⟩
  |_=>cases q
end
section
variable{prog:Al}{w:World}{A:Ba}{E:Value->A2->Prop}{s:A2}
theorem IsIt.ext{tup:Bool}{h h':Heap}{it a b:Addr}{i:Nat}(x:IsIt tup h it a i)(hs:F9 b h h')(hne:it≠b):IsIt tup h' it a i:=x.at fun o e=>hs _ _ hne e
theorem Src.ext{tup:Bool}{h h':Heap}{a b:Addr}{xs:Array Value}(x:Src tup h a xs)(hs:F9 b h h')(hne:a≠b):Src tup h' a xs:=by
 cases tup with
 |true=>obtain⟨o,e,r⟩:=x;exact⟨o,hs _ _ hne e,r⟩
 |false=>obtain⟨o,e,r⟩:=x;exact⟨o,hs _ _ hne e,r⟩
theorem zFJ{tup:Bool}{it a:Addr}{i:Nat}{xs:Array Value}{x:Value}{Q:Value->A2->Prop}(hi:IsIt tup s.heap it a i)(hs:Src tup s.heap a xs)(hx:xs[i]? =some x)
  (hQ: ∀h',IsIt tup h' it a (i+1)->Cz it s.heap h'->Q x {s with heap:=h'}):wpAny (model prog w) A (Az (.ref it)) Q E s:=by
 cases tup with
 |true=>exact zEZ hi hs hx hQ
 |false=>exact wpAny_nextOf_list_item hi hs hx hQ
theorem zJ6{tup:Bool}{it a:Addr}{i:Nat}{xs:Array Value}{Q:Value->A2->Prop}(hh:A.handled=none)(hi:IsIt tup s.heap it a i)(hs:Src tup s.heap a xs)(hx:xs[i]? =none)
  (hE: ∀h' e,F9 it s.heap h'->(∃o,h'.get? e=some o/\o.cls= .type "StopIteration")->E (.ref e) {s with heap:=h'}):wpAny (model prog w) A (Az (.ref it)) Q E s:=by
 cases tup with
 |true=>exact zFY hh hi hs hx hE
 |false=>exact wpAny_nextOf_list_end hh hi hs hx hE
structure ZSt(t1 t2:Bool)(h:Heap)(z p q i1 i2 a b:Addr)(k:Nat)(f0:Value):Prop where
 zip:IsZip h z p q f0
 its:IsPair h p (.ref i1) (.ref i2)
 res: ∃u v,IsPair h q u v
 one:IsIt t1 h i1 a k
 two:IsIt t2 h i2 b k
theorem zMS{t1 t2:Bool}{z p q i1 i2 a b:Addr}{k:Nat}{xs ys:Array Value}{x y:Value}{Q:Value->A2->Prop}(D:Hj z p q i1 i2 a b)(S:ZSt t1 t2 s.heap z p q i1 i2 a b k .none)
  (s1:Src t1 s.heap a xs) (s2:Src t2 s.heap b ys) (hx:xs[k]? =some x) (hy:ys[k]? =some y)
  (hQ: ∀h',ZSt t1 t2 h' z p q i1 i2 a b (k+1) (rawInt s.heap.objs.size)->IsPair h' s.heap.objs.size x y->h'.objs.size=s.heap.objs.size+1→
   (∀c o,c≠z->c≠q->c≠i1->c≠i2->s.heap.get? c=some o->h'.get? c=some o)->Q (.ref s.heap.objs.size) {s with heap:=h'}):
  wpAny (model prog w) A (D7.«zip.__next__» ⟨[.ref z],[]⟩) (fun fin s'=> ∃v,fin= .done (.ret v)/\Q v s') E s:=by
 obtain⟨gz,gi,⟨u,v,gr⟩,g1,g2⟩:=S
 show wpAny _ _ (field (Au z) 2>>=_) _ _ _
 refine A0 (Cc gz rfl (x:= .bool false) rfl ?_)
 show wpAny _ _ (field (Au z) 3>>=_) _ _ _
 refine A0 (Cc gz rfl (x:= .ref p) rfl (A0 (D5 gi rfl ?_)))
 show wpAny _ _ (C5 (Au z)>>=_) _ _ _
 refine A0 ?_
 (unfold C5)
 refine A0 (Cc gz rfl (x:= .none) rfl (A8 ?_))
 simp only[if_true]
 refine A0 (Hh (A0 (Cc gz rfl (x:= .ref q) rfl (A0 (D1 gz (by simp) fun ha za ba=>A0 ?_)))))
 have za:IsZip ha z p q .ellipsis:=za
 simp only[Jy,Je,Hs,F8]
 refine A0 (A0 (Gc ?_))
 show wpAny _ _ (Az (Au i1)>>=_) _ _ _
 refine A0 (zFJ (g1.ext ba.extBut D.i1z) (s1.ext ba.extBut D.l1z) hx fun hb n1 bb=>A8 ?_)
 have rb:IsPair hb q u v:=bb.extBut _ _ D.TOi1 (ba.extBut _ _ D.TOz gr)
 refine A0 (D5 rb rfl (A0 (Et rb fun hc rc bc=>A0 (Jz (A8 ?_)))))
 have rc:IsPair hc q x v:=rc
 refine A0 (A0 (Gc ?_))
 show wpAny _ _ (Az (Au i2)>>=_) _ _ _
 refine A0 (zFJ (((g2.ext ba.extBut D.i2z).ext bb.extBut D.i12.symm).ext bc.extBut D.TOi2.symm) (((s2.ext ba.extBut D.l2z).ext bb.extBut D.l2i1).ext bc.extBut D.l2TO) hy fun hd n2 bd=>A8 ?_)
 have rd:IsPair hd q x v:=bd.extBut _ _ D.TOi2 rc
 refine A0 (D5 rd rfl (A0 (Et rd fun he re be=>A0 (Jz (A8 (A8 ?_))))))
 have re:IsPair he q x y:=re
 refine A0 (D5 re rfl (A0 (wpAny_newTuple ?_)))
 have size:he.objs.size=s.heap.objs.size:=by rw[be.1,bd.1,bc.1,bb.1,ba.1]
 have ze:IsZip he z p q .ellipsis:=be.extBut _ _ D.TOz.symm (bd.extBut _ _ D.i2z.symm (bc.extBut _ _ D.TOz.symm (bb.extBut _ _ D.i1z.symm za)))
 have ke: ∀c o,c≠z->c≠q->c≠i1->c≠i2->s.heap.get? c=some o->he.get? c=some o:=fun c o c1 c2 c3 c4 g=>be.extBut _ _ c2 (bd.extBut _ _ c4 (bc.extBut _ _ c2 (bb.extBut _ _ c3 (ba.extBut _ _ c1 g))))
 have e1:IsIt t1 he i1 a (k+1):=((n1.ext bc.extBut D.TOi1.symm).ext bd.extBut D.i12).ext be.extBut D.TOi1.symm
 have e2:IsIt t2 he i2 b (k+1):=n2.ext be.extBut D.TOi2.symm
 have ie:IsPair he p (.ref i1) (.ref i2):=ke _ _ D.TIz D.TITO D.TIi1 D.TIi2 gi
 have zlt:z<he.objs.size:=Ad ze
 show wpAny _ _ (Dz (Au z) (.ref he.objs.size)>>=_) _ _ _
 refine A0 ?_
 (unfold Dz)
 have zf:IsZip (he.push {cls:= .type "tuple",data:= .seq #[x,y]}) z p q .ellipsis:=A3 _ ze
 refine A0 (D1 zf (by simp) fun hg zg bg=> ?_)
 have zg:IsZip hg z p q (rawInt he.objs.size):=zg
 refine D1 zg (by simp) fun hk zk bk=> ?_
 have zk:IsZip hk z p q (rawInt he.objs.size):=zk
 have up: ∀c o,c≠z->he.get? c=some o->hk.get? c=some o:=fun c o c1 g=>bk.extBut _ _ c1 (bg.extBut _ _ c1 (A3 _ g))
 have tk:IsPair hk he.objs.size x y:=bk.extBut _ _ (E3 zlt) (bg.extBut _ _ (E3 zlt) (Ah _ rfl))
 have szk:hk.objs.size=he.objs.size+1:=by rw[bk.1,bg.1,Ca]
 rw[size] at zk tk szk
 refine A8 ⟨_,rfl,?_⟩
 show Q (.ref he.objs.size) _
 rw[size]
 exact hQ hk ⟨zk,up _ _ D.TIz ie,⟨x,y,up _ _ D.TOz re⟩,e1.at fun o g=>up _ o D.i1z g,e2.at fun o g=>up _ o D.i2z g⟩ tk szk fun c o c1 c2 c3 c4 g=>up c o c1 (ke c o c1 c2 c3 c4 g)
theorem zPU{t1 t2:Bool}{z p q i1 i2 a b:Addr}{k:Nat}{xs ys:Array Value}{Q:Fin->A2->Prop}(hh:A.handled=none)(D:Hj z p q i1 i2 a b)(S:ZSt t1 t2 s.heap z p q i1 i2 a b k .none)
  (s1:Src t1 s.heap a xs) (s2:Src t2 s.heap b ys) (fj:xs[k]? =none∨ys[k]? =none)
  (hE: ∀h' e,(∀c o,c≠z->c≠q->c≠i1->c≠i2->s.heap.get? c=some o->h'.get? c=some o)->(∃o,h'.get? e=some o/\o.cls= .type "StopIteration")->E (.ref e) {s with heap:=h'}):
  wpAny (model prog w) A (D7.«zip.__next__» ⟨[.ref z],[]⟩) Q E s:=by
 obtain⟨gz,gi,⟨u,v,gr⟩,g1,g2⟩:=S
 show wpAny _ _ (field (Au z) 2>>=_) _ _ _
 refine A0 (Cc gz rfl (x:= .bool false) rfl ?_)
 show wpAny _ _ (field (Au z) 3>>=_) _ _ _
 refine A0 (Cc gz rfl (x:= .ref p) rfl (A0 (D5 gi rfl ?_)))
 show wpAny _ _ (C5 (Au z)>>=_) _ _ _
 refine A0 ?_
 (unfold C5)
 refine A0 (Cc gz rfl (x:= .none) rfl (A8 ?_))
 simp only[if_true]
 refine A0 (Hh (A0 (Cc gz rfl (x:= .ref q) rfl (A0 (D1 gz (by simp) fun ha za ba=>A0 ?_)))))
 have za:IsZip ha z p q .ellipsis:=za
 simp only[Jy,Je,Hs,F8]
 refine A0 (A0 (Gc ?_))
 show wpAny _ _ (Az (Au i1)>>=_) _ _ _
 cases hx:xs[k]? with
 |none=>
  refine A0 (zJ6 hh (g1.ext ba.extBut D.i1z) (s1.ext ba.extBut D.l1z) hx fun hb e bb ⟨oe,ge,ce⟩=> ?_)
  have zb:IsZip hb z p q .ellipsis:=bb _ _ D.i1z.symm za
  have ne:e≠z:=fun w=>by subst w;rw[zb] at ge;cases ge;simp at ce
  exact D1 zb (by simp) fun hc _ bc=>hE hc e (fun c o c1 _ c3 _ g=>bc.extBut _ _ c1 (bb _ _ c3 (ba.extBut _ _ c1 g))) ⟨oe,bc.extBut _ _ ne ge,ce⟩
 |some x=>
  have hy:ys[k]? =none:=fj.resolve_left fun w=>by rw[hx] at w;cases w
  refine A0 (zFJ (g1.ext ba.extBut D.i1z) (s1.ext ba.extBut D.l1z) hx fun hb n1 bb=>A8 ?_)
  have rb:IsPair hb q u v:=bb.extBut _ _ D.TOi1 (ba.extBut _ _ D.TOz gr)
  refine A0 (D5 rb rfl (A0 (Et rb fun hc rc bc=>A0 (Jz (A8 (A0 (A0 (Gc ?_))))))))
  show wpAny _ _ (Az (Au i2)>>=_) _ _ _
  refine A0 (zJ6 hh (((g2.ext ba.extBut D.i2z).ext bb.extBut D.i12.symm).ext bc.extBut D.TOi2.symm) (((s2.ext ba.extBut D.l2z).ext bb.extBut D.l2i1).ext bc.extBut D.l2TO) hy fun hd e bd ⟨oe,ge,ce⟩=> ?_)
  have zd:IsZip hd z p q .ellipsis:=bd _ _ D.i2z.symm (bc.extBut _ _ D.TOz.symm (bb.extBut _ _ D.i1z.symm za))
  have ne:e≠z:=fun w=>by subst w;rw[zd] at ge;cases ge;simp at ce
  exact D1 zd (by simp) fun hf _ bf=>hE hf e (fun c o c1 c2 c3 c4 g=>bf.extBut _ _ c1 (bd _ _ c4 (bc.extBut _ _ c2 (bb.extBut _ _ c3 (ba.extBut _ _ c1 g))))) ⟨oe,bf.extBut _ _ ne ge,ce⟩
theorem zMF{t1 t2:Bool}{z p q i1 i2 a b:Addr}{k:Nat}{xs ys:Array Value}{x y:Value}{Q:Option Value->A2->Prop}(D:Hj z p q i1 i2 a b)(S:ZSt t1 t2 s.heap z p q i1 i2 a b k .none)
  (s1:Src t1 s.heap a xs) (s2:Src t2 s.heap b ys) (hx:xs[k]? =some x) (hy:ys[k]? =some y)
  (hQ: ∀h',ZSt t1 t2 h' z p q i1 i2 a b (k+1) (rawInt s.heap.objs.size)->IsPair h' s.heap.objs.size x y->h'.objs.size=s.heap.objs.size+1→
   (∀c o,c≠z->c≠q->c≠i1->c≠i2->s.heap.get? c=some o->h'.get? c=some o)->Q (some (.ref s.heap.objs.size)) {s with heap:=h'}):wpAny (model prog w) A (pyNext (.ref z)) Q E s:=by
 have ty:s.TypeIs (.ref z) "zip":=⟨_,S.zip,rfl⟩
 (unfold pyNext)
 exact A0 (Im (C0 (name:=At "__next__") ty Fc (Ch Fc ty Jf (zMS D S s1 s2 hx hy fun h' a1 a2 a3 a4=>A8 (hQ h' a1 a2 a3 a4)) (J1 _))))
theorem zOB{t1 t2:Bool}{z p q i1 i2 a b:Addr}{k:Nat}{xs ys:Array Value}{Q:Option Value->A2->Prop}(hh:A.handled=none)(D:Hj z p q i1 i2 a b)(S:ZSt t1 t2 s.heap z p q i1 i2 a b k .none)
  (s1:Src t1 s.heap a xs) (s2:Src t2 s.heap b ys) (fj:xs[k]? =none∨ys[k]? =none)
  (hQ: ∀h',(∀c o,c≠z->c≠q->c≠i1->c≠i2->s.heap.get? c=some o->h'.get? c=some o)->Q none {s with heap:=h'}):wpAny (model prog w) A (pyNext (.ref z)) Q E s:=by
 have ty:s.TypeIs (.ref z) "zip":=⟨_,S.zip,rfl⟩
 (unfold pyNext)
 refine A0 (Im (C0 (name:=At "__next__") ty Fc (Ch Fc ty Jf (zPU hh D S s1 s2 fj fun h' e kk ⟨o,ge,ce⟩=> ?_) (J1 _))))
 exact A0 (wpAny_isInstance (T:= "StopIteration") (b:=true) ⟨o,ge,ce⟩ isSubtype_stop (A8 (hQ _ kk)))
end
noncomputable def yCB(tup:Bool):String:=if tup=true then "tuple_iterator" else "list_iterator"
noncomputable abbrev zO(tup:Bool)(a:Addr):Obj:={cls:= .type (yCB tup),data:= .fields #[.ref a,.int 0 0]}
theorem zZ1{prog:Al}{w:World}{A:Ba}{E:Value->A2->Prop}{s:A2}{tup:Bool}{a:Addr}{xs:Array Value}{Q:Value->A2->Prop}(h:Src tup s.heap a xs)(hQ:Q (.ref s.heap.objs.size) {s with heap:=s.heap.push (zO tup a)}):
  wpAny (model prog w) A (pyIter (.ref a)) Q E s:=by
 cases tup with
 |true=>exact E8 h hQ
 |false=>exact El h hQ
theorem Src.push{tup:Bool}{h:Heap}{a:Addr}{xs:Array Value}(x:Src tup h a xs)(o:Obj):Src tup (h.push o) a xs:=by
 cases tup with
 |true=>obtain⟨o,e,r⟩:=x;exact⟨o,A3 _ e,r⟩
 |false=>obtain⟨o,e,r⟩:=x;exact⟨o,A3 _ e,r⟩
theorem zPT(t1 t2:Bool)(a b:Addr)(xs ys:Array Value):
  Meets (D7.«zip.__new__» ⟨[.type "zip",.ref a,.ref b],[]⟩) (fun _ R s=>Src t1 s.heap a xs/\Src t2 s.heap b ys/\ ∀h1 h2 h3 h4 h5,h1=s.heap.push (zO t1 a)->h2=h1.push (zO t2 b)->h3=h2.push {cls:= .type "tuple",data:= .seq #[.ref s.heap.objs.size,.ref h1.objs.size]}→
   h4=h3.push {cls:= .type "tuple",data:= .seq #[.none,.none]}->h5=h4.push {cls:= .type "zip",data:= .fields #[.none,.bool false,.bool false,.ref h2.objs.size,.ref h3.objs.size]}->R (.ok (.ret (.ref h4.objs.size))) {s with heap:=h5}):=by
 refine .of_wp fun prog w A R s h=> ?_
 obtain⟨hp,g,d,tk,os⟩:=s
 obtain⟨g1,g2,h⟩:=h
 have hs:=sub_zip
 have k1:Src t1 (Jx ⟨hp,g,d,tk,os⟩) a xs:=g1
 have k2:Src t2 (Jx ⟨hp.push (zO t1 a),g,d,tk,os⟩) b ys:=Src.push g2 _
 wp_walk using zZ1 k1,zZ1 k2
 exact⟨_,rfl,h _ _ _ _ _ rfl rfl rfl rfl rfl⟩
theorem zPH{prog:Al}{w:World}{A:Ba}{E:Value->A2->Prop}{s:A2}{t1 t2:Bool}{a b:Addr}{xs ys:Array Value}{Q:Value->A2->Prop}(g1:Src t1 s.heap a xs)(g2:Src t2 s.heap b ys)
  (h: ∀h',ZSt t1 t2 h' (s.heap.objs.size+4) (s.heap.objs.size+2) (s.heap.objs.size+3) s.heap.objs.size (s.heap.objs.size+1) a b 0 .none->(∀c o,s.heap.get? c=some o->h'.get? c=some o)->Q (.ref (s.heap.objs.size+4)) {s with heap:=h'}):
  wpAny (model prog w) A (call (.type "zip") [.ref a,.ref b]) Q E s:=by
 refine callType_new F.called_zip (by decide) (F.typeCall_zip_2 _ _) (F.newCall_zip_2 _ _) (fun obj=>F.args_object_init_3 obj _ _) F.entry_zip_new (zPT t1 t2 a b xs ys) ⟨g1,g2,?_⟩
 rintro h1 h2 h3 h4 h5 e1 e2 e3 e4 e5
 have z1:h1.objs.size=s.heap.objs.size+1:=by rw[e1,Ca]
 have z2:h2.objs.size=s.heap.objs.size+2:=by rw[e2,Ca,z1]
 have z3:h3.objs.size=s.heap.objs.size+3:=by rw[e3,Ca,z2]
 have z4:h4.objs.size=s.heap.objs.size+4:=by rw[e4,Ca,z3]
 have u4: ∀c o,h4.get? c=some o->h5.get? c=some o:=fun c o q=>by rw[e5];exact A3 _ q
 have u3: ∀c o,h3.get? c=some o->h5.get? c=some o:=fun c o q=>u4 c o (by rw[e4];exact A3 _ q)
 have u2: ∀c o,h2.get? c=some o->h5.get? c=some o:=fun c o q=>u3 c o (by rw[e3];exact A3 _ q)
 have u1: ∀c o,h1.get? c=some o->h5.get? c=some o:=fun c o q=>u2 c o (by rw[e2];exact A3 _ q)
 have u0: ∀c o,s.heap.get? c=some o->h5.get? c=some o:=fun c o q=>u1 c o (by rw[e1];exact A3 _ q)
 have o5:h5.get? h4.objs.size=some {cls:= .type "zip",data:= .fields #[.none,.bool false,.bool false,.ref h2.objs.size,.ref h3.objs.size]}:=by rw[e5];exact Ah _ rfl
 have o4:h5.get? h3.objs.size=some {cls:= .type "tuple",data:= .seq #[.none,.none]}:=u4 _ _ (by rw[e4];exact Ah _ rfl)
 have o3:h5.get? h2.objs.size=some {cls:= .type "tuple",data:= .seq #[.ref s.heap.objs.size,.ref h1.objs.size]}:=u3 _ _ (by rw[e3];exact Ah _ rfl)
 have o2:h5.get? h1.objs.size=some (zO t2 b):=u2 _ _ (by rw[e2];exact Ah _ rfl)
 have o1:h5.get? s.heap.objs.size=some (zO t1 a):=u1 _ _ (by rw[e1];exact Ah _ rfl)
 show _/\_
 rw[z2,z3,z4] at o5
 rw[z3] at o4
 rw[z1,z2] at o3
 rw[z1] at o2
 rw[z4]
 refine⟨⟨_,o5,rfl⟩,h _ ⟨o5,o3,⟨_,_,o4⟩,?_,?_⟩ u0⟩
 ·cases t1 with
  |true=>exact⟨_,o1,rfl,rfl⟩
  |false=>exact⟨_,o1,rfl,rfl⟩
 ·cases t2 with
  |true=>exact⟨_,o2,rfl,rfl⟩
  |false=>exact⟨_,o2,rfl,rfl⟩
theorem zUY(n a b:Nat)(ha:a<n)(hb:b<n):Hj (n+4) (n+2) (n+3) n (n+1) a b:=by
 have f: ∀x y:Nat,x<y∨y<x->x≠y:=fun x y h=>by omega
 exact⟨f _ _ (by omega),f _ _ (by omega),f _ _ (by omega),f _ _ (by omega),f _ _ (by omega),f _ _ (by omega),f _ _ (by omega),f _ _ (by omega),f _ _ (by omega),f _ _ (by omega),f _ _ (by omega),f _ _ (by omega),f _ _ (by omega),f _ _ (by omega),f _ _ (by omega),f _ _ (by omega),f _ _ (by omega),f _ _ (by omega)⟩
noncomputable def Itz(K:A5)(t1 t2:Bool)(a b:Addr):It:=
  ⟨fun i H => ∃ xs ys x y,SqA K t1 H a xs /\ SqA K t2 H b ys /\ xs[i]? = some x /\ ys[i]? = some y,
   fun i H v H'=> ∃p x y,(∀xs,SqA K t1 H a xs->xs[i]? =some x)/\(∀ys,SqA K t2 H b ys->ys[i]? =some y)/\H p=none/\H'=upd H p (.tup [x,y])/\v= .ref p,
   fun i H=> ∃xs ys,SqA K t1 H a xs/\SqA K t2 H b ys/\(xs.length<=i∨ys.length<=i)⟩
theorem zQ7{P:Al}{w:World}{K:A5}{es:List Expr}{k:Nat}{pos:Pos}(t1 t2:Bool)(z p q i1 i2 a b:Addr)(D:Hj z p q i1 i2 a b):
  Turn P w K (.Tuple es k pos) (Itz K t1 t2 a b) [z,p,q,i1,i2] z (fun i h=>ZSt t1 t2 h z p q i1 i2 a b i .none) where
 mem := by simp
 obj := fun i h st c hc => by
  simp only[Ac,Ak,or_false] at hc
  rcases hc with rfl|rfl|rfl|rfl|rfl
  ·exact ⟨_,st.zip,fun v e => by cases e⟩
  ·exact ⟨_,st.its,fun v e => by cases e⟩
  ·obtain⟨u,v,g⟩:=st.res
   exact⟨_,g,fun v e=>by cases e⟩
  ·exact st.one.obj
  ·exact st.two.obj
 keep:=fun i h h' st kk=>by
  obtain⟨u,v,g⟩:=st.res
  exact⟨kk z (by simp) _ st.zip,kk p (by simp) _ st.its,⟨u,v,kk q (by simp) _ g⟩,st.one.at fun o e=>kk i1 (by simp) o e,st.two.at fun o e=>kk i2 (by simp) o e⟩
 item:=by
  intro X hP hw hK hc i a5 s σ H E I hf st hg
  subst hP hw hK
  obtain⟨xs,ys,x,y,hq1,hq2,hx,hy⟩:=hg
  obtain⟨us,r1,g1,_⟩:=I.srcA hq1
  obtain⟨vs,r2,g2,_⟩:=I.srcA hq2
  obtain⟨u,hu,ru⟩:=r1.get hx
  obtain⟨v,hv,rv⟩:=r2.get hy
  refine zMF D st g1 g2 (by simpa using hu) (by simpa using hv) fun h1 st1 hp hsz hk=>⟨_,rfl,?_⟩
  refine wpAny_letOwnedTupleGo_zip (s:={s with heap:=h1}) st1.zip fun h2 z2 sb=> ?_
  have sb:Cz z h1 h2:=sb
  have lt: ∀c∈[z,p,q,i1,i2],c<s.heap.objs.size:=fun c hc=>by
   simp only[Ac,Ak,or_false] at hc
   rcases hc with rfl|rfl|rfl|rfl|rfl
   ·exact Ad st.zip
   ·exact Ad st.its
   ·obtain⟨u,v,g⟩:=st.res
    exact Ad g
   ·obtain⟨o,e,_⟩:=st.one.obj
    exact Ad e
   ·obtain⟨o,e,_⟩:=st.two.obj
    exact Ad e
  have up: ∀c o,c≠z->h1.get? c=some o->h2.get? c=some o:=fun c o hcz e=>(sb.2 c hcz).trans e
  have st2:ZSt t1 t2 h2 z p q i1 i2 a b (i+1) .none:=by
   obtain⟨u',v',g⟩:=st1.res
   exact⟨z2,up _ _ D.TIz st1.its,⟨u',v',up _ _ D.TOz g⟩,st1.one.at fun o e=>up _ o D.i1z e,st1.two.at fun o e=>up _ o D.i2z e⟩
  have iy:h2.get? s.heap.objs.size=some {cls:= .type "tuple",data:= .seq #[u,v]}:=up _ _ (E3 (lt z (by simp))) hp
  have b4:H s.heap.objs.size=none:=I.hok.fresh (Ag _)
  have I0:Inv X a5 σ (upd H s.heap.objs.size (.tup [x,y])) {s with heap:=s.heap.push {cls:= .type "tuple",data:= .seq #[u,v]},toks:=s.toks}:=
   I.laid (fun c o e=>A3 _ e) (Ag _) ⟨by show 2<=sizeLine;decide,[u,v],.cons ru (.cons rv .nil),Fw _ _⟩
  have I1:Inv X a5 σ (upd H s.heap.objs.size (.tup [x,y])) {s with heap:=h2,toks:=s.toks}:=by
   refine Inv.turnedL (s:={s with heap:=s.heap.push {cls:= .type "tuple",data:= .seq #[u,v]},toks:=s.toks}) (h':=h2) (t':=s.toks) (fp:=[z,p,q,i1,i2]) I0 (fun c o hc e=> ?_) (fun c hc=> ?_) fun c hc=>⟨by rw[zAX (As (lt c hc))];exact(hf c hc).1,(hf c hc).2⟩
   ·by_cases hcn:c=s.heap.objs.size
    ·subst hcn
     have e:(s.heap.push {cls:= .type "tuple",data:= .seq #[u,v]}).get? s.heap.objs.size=some o:=e
     rw[Ah _ rfl] at e
     cases e
     exact iy
    ·have e':=(Iz _ _ _ hcn).symm.trans e
     exact up c o (fun w=>hc (by simp[w])) (hk c o (fun w=>hc (by simp[w])) (fun w=>hc (by simp[w])) (fun w=>hc (by simp[w])) (fun w=>hc (by simp[w])) e')
   ·simp only[Ac,Ak,or_false] at hc
    rcases hc with rfl|rfl|rfl|rfl|rfl
    ·exact⟨_,st2.zip⟩
    ·exact⟨_,st2.its⟩
    ·obtain⟨u,v,g⟩:=st2.res
     exact⟨_,g⟩
    ·obtain⟨o,e,_⟩:=st2.one.obj
     exact⟨o,e⟩
    ·obtain⟨o,e,_⟩:=st2.two.obj
     exact⟨o,e⟩
  exact⟨.ref s.heap.objs.size,_,I1,rfl,⟨_,x,y,fun zs hz=>by rw[I.sq_inj hz hq1];exact hx,fun zs hz=>by rw[I.sq_inj hz hq2];exact hy,b4,rfl,rfl⟩,st2,fun c hc=>by
   rw[zAX (As (lt c hc))]
   exact(hf c hc).1⟩
 done:=by
  intro X hP hw hK hc i a5 s σ H E I hf st hg
  subst hP hw hK
  obtain⟨xs,ys,hq1,hq2,fj⟩:=hg
  obtain⟨us,r1,g1,_⟩:=I.srcA hq1
  obtain⟨vs,r2,g2,_⟩:=I.srcA hq2
  have l1:=r1.length
  have l2:=r2.length
  have he:us.toArray[i]? =none∨vs.toArray[i]? =none:=by
   rcases fj with z|z
   ·exact .inl (by simp;omega)
   ·exact .inr (by simp;omega)
  refine zOB (I.ok.hd hc) D st g1 g2 he fun h1 hk=>⟨rfl,?_⟩
  have fq: ∀c∈[z,q,i1,i2],c∈[z,p,q,i1,i2]:=fun c hc=>by
   simp only[Ac,Ak,or_false] at hc⊢
   rcases hc with w|w|w|w<;>simp[w]
  have I':=Inv.turnedL' (s:=s) (h':=h1) (t':=s.toks) (fp:=[z,q,i1,i2]) I (fun c o hc e=>hk c o (fun w=>hc (by simp[w])) (fun w=>hc (by simp[w])) (fun w=>hc (by simp[w])) (fun w=>hc (by simp[w])) e) fun c hc=>hf c (fq c hc)
  exact I'
 self:=fun _ i _ _ _ st h=>wpAny_pyIter_zip st.zip h
section
variable{X:Cx}{K:A5}{ml:List Nat}{l m:Expr}{pa ta ia pb tb ib:Bool}{f g:VF}{p pos cv:Pos}{es:List Expr}{tk:Nat}{δ:Ev}
def iZp(K:A5)(tl tm:TE):TI:=fun σ H R=>tl σ H fun x H1=>tm σ H1 fun y H2=> ∃a b t1 t2,x= .ref a/\y= .ref b/\(∃xs,SqA K t1 H2 a xs)/\(∃ys,SqA K t2 H2 b ys)/\R (Itz K t1 t2 a b) H2
theorem zX0{tl tm:TE}(hg:Gl X "zip") (hm:X.mg "zip"=none) (hl:PE X l tl) (hr:PE X m tm) (he:starEach (l::[m]) X.env=(false,eval l X.env)::starEach [m] X.env:=by rfl) (he2:starEach (m::[]) X.env=(false,eval m X.env)::starEach [] X.env:=by rfl)
  (hpl : (Cj pos (starEach [m] X.env)).any (·.1) = false := by rfl) : PI X (.Tuple es tk cv) (.Call (.Name "zip" p) [l,m] [] pos) (iZp X.K tl tm) := by
 intro a5 s σ H R I h
 refine Cb (zHQ I hg hm zZB ?_ (by decide) (by decide))
 refine Cq (thn (zB1 hl (zB1 hr zCU he2) he pos a5 s σ H (fun vs H1=>match vs with
  |[x,y]=> ∃a b t1 t2,x= .ref a/\y= .ref b/\(∃xs,SqA X.K t1 H1 a xs)/\(∃ys,SqA X.K t2 H1 b ys)/\R (Itz X.K t1 t2 a b) H1
  |_=>False) I h) fun us s1 ⟨vs,H1,I1,r1,q1⟩=> ?_) he hpl
 match vs,r1,q1 with
 |[x,y],r1,q1=>
  obtain⟨a,b,t1,t2,rfl,rfl,⟨xs,hq1⟩,⟨ys,hq2⟩,hR⟩:=q1
  obtain⟨u,v,rfl,ru,rv⟩:=zMY r1
  cases ru
  cases rv
  obtain⟨us,w1,g1,_⟩:=I1.srcA hq1
  obtain⟨vs,w2,g2,_⟩:=I1.srcA hq2
  refine zPH g1 g2 fun h' st kp=> ?_
  have I2:Inv X a5 σ H1 {s1 with heap:=h'}:=I1.kept (t':=s1.toks) kp
  have ha:=g1.lt
  have hb:=g2.lt
  have D:Hj (s1.heap.objs.size+4) (s1.heap.objs.size+2) (s1.heap.objs.size+3) s1.heap.objs.size (s1.heap.objs.size+1) a b:=by exact zUY _ a b ha hb
  refine wpAny_pyIter_zip st.zip ⟨s1.heap.objs.size+4,[s1.heap.objs.size+4,s1.heap.objs.size+2,s1.heap.objs.size+3,s1.heap.objs.size,s1.heap.objs.size+1],_,Itz X.K t1 t2 a b,H1,rfl,I2,zQ7 t1 t2 _ _ _ _ _ a b D,st,fun c hc=> ?_,hR⟩
  have hc':s1.heap.objs.size<=c:=by
   simp only[Ac,Ak,or_false] at hc
   rcases hc with w|w|w|w|w<;>rw[w]<;>first|exact Nat.le_add_right _ _|exact Ag _
  exact I1.fpOk hc' (I1.hok.fresh hc')
theorem yC4(h:X.K=K){tl tm:TE}(hg:Gl X "zip") (hm:X.mg "zip"=none) (hl:PE X l tl) (hr:PE X m tm) (he:starEach (l::[m]) X.env=(false,eval l X.env)::starEach [m] X.env:=by rfl) (he2:starEach (m::[]) X.env=(false,eval m X.env)::starEach [] X.env:=by rfl)
  (hpl:(Cj pos (starEach [m] X.env)).any (·.1)=false:=by rfl):PI X (.Tuple es tk cv) (.Call (.Name "zip" p) [l,m] [] pos) (iZp K tl tm):=by subst h;exact zX0 hg hm hl hr he he2 hpl
noncomputable def zipD:List Dat->List Dat->List Dat
 |d::ds,e::es=> .tup [d,e]::zipD ds es
 |_,_=>[]
noncomputable def iZip(f g:VF):VI:=fun δ=>(f δ).bind fun p=>(g p.2).bind fun q=>(seqD p.1).bind fun ds=>(seqD q.1).map fun es=>(zipD ds es,q.2)
theorem zL0: ∀{ds es:List Dat} {i:Nat} {d:Dat},(zipD ds es)[i]? =some d-> ∃x y,ds[i]? =some x/\es[i]? =some y/\d= .tup [x,y]
 |[],_,_,_,h=>by simp[zipD] at h
 |_::_,[],_,_,h=>by simp[zipD] at h
 |x::ds,y::es,0,d,h=>by simp[zipD] at h;exact⟨x,y,rfl,rfl,h.symm⟩
 |x::ds,y::es,i+1,d,h=>by
  obtain⟨x',y',h1,h2,h3⟩:=zL0 (ds:=ds) (es:=es) (i:=i) (d:=d) (by simpa[zipD] using h)
  exact⟨x',y',by simpa using h1,by simpa using h2,h3⟩
theorem zKZ: ∀{ds es:List Dat},ds.length<=(zipD ds es).length∨es.length<=(zipD ds es).length
 |[],_=> .inl (D3 _)
 |_::_,[]=> .inr (D3 _)
 |x::ds,y::es=>by
  rcases zKZ (ds:=ds) (es:=es) with h|h
  ·exact .inl (Jg h)
  ·exact .inr (Jg h)
noncomputable def yCC:Dat->Bool
 | .tup _=>true
 |_=>false
theorem Rep.sqA{N M:Addr->Prop}{H:Hp}{v:V}{d:Dat}{ds:List Dat}(h:Rep K N H M v d)(e:seqD d=some ds): ∃a tup xs,v= .ref a/\SqA K tup H a xs/\RepA K N H xs ds/\tup=yCC d:=by
  cases d<;>first
    | (cases e
       obtain⟨a,xs,h1,h2,h3⟩:=h.tupE
       exact⟨a,true,xs,h1,h2,h3,rfl⟩)
    | (cases e
       obtain⟨a,xs,h1,h2,h3⟩:=h.lstE
       exact⟨a,false,xs,h1,h2,h3,rfl⟩)
    |cases e
theorem zRJ(hK:X.K=K)(hg:Gl X "zip") (hm:X.mg "zip"=none) (h:PE X l (TV K ml pa true true f)) (h':PE X m (TV K ml pb true true g)) (he:starEach (l::[m]) X.env=(false,eval l X.env)::starEach [m] X.env:=by rfl) (he2:starEach (m::[]) X.env=(false,eval m X.env)::starEach [] X.env:=by rfl)
  (hpl : (Cj pos (starEach [m] X.env)).any (·.1) = false := by rfl) : PI X (.Tuple es tk cv) (.Call (.Name "zip" p) [l,m] [] pos) (TIV K ml (pa && pb) (iZip f g)) := (yC4 (K := K) hK hg hm h h' he he2 hpl).imp fun σ H R ⟨B,O,δ,ds,δ2,S,q,k⟩ => by
 unfold iZip at q
 cases h1:f δ with
 | none => rw [h1] at q;cases q
 |some p1=>
  obtain⟨x,δ1⟩:=p1
  rw[h1] at q
  cases h2:g δ1 with
  | none => simp [h2] at q
  |some p2=>
   obtain⟨y,δ3⟩:=p2
   simp only[Ae,h2] at q
   cases h3:seqD x with
   | none => rw [h3] at q;cases q
   |some xs=>
    rw[h3] at q
    have q:(seqD y).map (fun es=>(zipD xs es,δ3))=some (ds,δ2):=q
    cases h4:seqD y with
    | none => rw [h4] at q;cases q
    |some ys=>
     rw[h4] at q
     cases q
     refine⟨B,O,δ,x,δ1,S,h1,fun v1 H1 R1=>⟨B,O,δ1,y,_,R1.sta,h2,fun v2 H2 R2=> ?_⟩⟩
     have r1:=R1.rep.fr R2.frm (fun a z=> .inr z) fun a z=> .inr z
     obtain⟨a,t1,us,e1,q1,w1,et1⟩:=r1.sqA h3
     obtain⟨b,t2,vs,e2,q2,w2,et2⟩:=R2.rep.sqA h4
     refine⟨a,b,t1,t2,e1,e2,⟨us,q1⟩,⟨vs,q2⟩,k _ [(v1,x),(v2,y)] H2 (R2.sta.keepV fun z hz=> ?_) (R1.frm.trans R2.frm) (fun z=> ?_) ?_⟩
     ·simp only[Ac,Ak,or_false] at hz
      rcases hz with rfl|rfl
      ·exact r1
      ·exact R2.rep
     ·obtain⟨z1,z2⟩:=(A1 _ _).mp z
      exact(R1.pur z1).trans (R2.pur z2)
     ·intro N H h
      obtain⟨a',t1',us',f1,f2,f3,f4⟩:=(h (v1,x) (by simp)).sqA h3
      obtain⟨b',t2',vs',g1,g2,g3,g4⟩:=(h (v2,y) (by simp)).sqA h4
      have f1:v1= .ref a':=f1
      have g1:v2= .ref b':=g1
      rw[e1] at f1
      rw[e2] at g1
      cases f1
      cases g1
      have:t1'=t1:=f4.trans et1.symm
      subst this
      have:t2'=t2:=g4.trans et2.symm
      subst this
      refine⟨fun i d e=> ?_,us',vs',f2,g2,?_⟩
      ·obtain⟨dx,dy,hx,hy,rfl⟩:=zL0 e
       obtain⟨ux,ex,rx⟩:=f3.get hx
       obtain⟨uy,ey,ry⟩:=g3.get hy
       refine⟨⟨us',vs',ux,uy,f2,g2,ex,ey⟩,fun z H' hz=> ?_⟩
       obtain⟨pp,x',y',c1,c2,hp,rfl,rfl⟩:=hz
       have d1:=c1 us' f2
       have d2:=c2 vs' g2
       rw[ex] at d1
       rw[ey] at d2
       cases d1
       cases d2
       exact⟨zA9 hp,.tup (SqT.of zAR) (.cons (rx.same (zA9 hp)) (.cons (ry.same (zA9 hp)) .nil))⟩
      ·rcases zKZ (ds:=xs) (es:=ys) with w|w
       ·exact .inl (by rw[f3.length];exact w)
       ·exact .inr (by rw[g3.length];exact w)
end
end L2
namespace L2
open PySem PySem.Spec PyProof.Rows PySem.W
section
variable{prog:Al}{w:World}{A:Ba}{E:Value->A2->Prop}{s:A2}
theorem zM8{t:Addr}{items:Array Value}{Q:List Value->A2->Prop}(hh:A.handled=none)(ht:IsTup s.heap t items)(h1:1<=items.size)(hz:items.size<=16777216)
  (hQ: ∀(x:Value) (hb:Heap) (tk:Nat),items[0]? =some x->(∀b o,s.heap.get? b=some o->hb.get? b=some o)->Q [x,.ref hb.objs.size] {s with heap:=hb.push {cls:= .type "list",data:= .seq (items.toList.drop 1).toArray},toks:=tk}):
  wpAny (model prog w) A (G3 (.ref t) 2 (some 1)) Q E s:=by
 have hne:t≠s.heap.objs.size:=by obtain⟨o,e,_⟩:=ht;exact As (Ad e)
 (unfold G3)
 refine A0 ?_
 (unfold notIterableAtAll)
 refine A0 (wpAny_specialOf ht.typeIs slot_tuple_iter.lookup (A8 ?_))
 simp only[Ef,if_false]
 refine A0 (Bf (iter_tuple ht (A0 (Bf (draw_tuple hne 1 0 _ _ ⟨_,Ah _ rfl,rfl,rfl⟩ (ht.push _) (by omega) fun ha ia ba=> ?_)))))
 have ta:IsTup ha t items:=(ht.push _).extBut ba.extBut hne
 have ia:ha.IsTupleIter s.heap.objs.size t 1:=ia
 obtain⟨oi,gi,_⟩:=id ia
 obtain⟨ot,gt,_⟩:=id ta
 have hsz:ha.objs.size=s.heap.objs.size+1:=by rw[ba.1,Ca]
 have nk:((items.toList.drop 0).take 1).length=1:=by simp;omega
 rw[if_neg (show¬((items.toList.drop 0).take 1).length<1 by rw[nk];exact Bt _)]
 refine A0 (Bf (kun_collect (s:={s with heap:=ha}) (T:= "tuple_iterator") (.inr (.inr (.inr rfl))) (Walks.tuple (A:=A.in1) hh s.heap.objs.size t hne items) (fun j u st=>st.1.typeIs) (k:=1) h1 ⟨ia,ta⟩ (Ad gi) (Ad gt) (fun hb tk kb=> ?_) (by rw[Bb];exact hz)))
 have om:(items.toList.drop 1).length=items.size - 1:=by simp
 show wpAny _ _ (if(items.toList.drop 1).length<2 - 1 - 1 then _ else _) _ _ _
 rw[if_neg (K0 _)]
 show wpAny _ _ (newList ((items.toList.drop 1).take ((items.toList.drop 1).length - (2 - 1 - 1)))>>=fun d=>pure ((items.toList.drop 0).take 1++[d]++(items.toList.drop 1).drop ((items.toList.drop 1).length - (2 - 1 - 1)))) _ _ _
 have e1:(items.toList.drop 1).take ((items.toList.drop 1).length - (2 - 1 - 1))=items.toList.drop 1:=Be (Ag _)
 have e2:(items.toList.drop 1).drop ((items.toList.drop 1).length - (2 - 1 - 1))=[]:=Gg
 rw[e1,e2]
 refine A0 (C6 (A8 ?_) (by show _<=sizeLine;rw[Bb];simp;omega))
 obtain⟨x,hx⟩: ∃x,items[0]? =some x:=⟨items[0],by simp[show 0<items.size by omega]⟩
 have e3:(items.toList.drop 0).take 1=[x]:=by
  rw[Fs]
  have:items.toList[0]? =some x:=by simpa using hx
  cases hl:items.toList with
  |nil=>rw[hl] at this;cases this
  |cons y r=>rw[hl] at this;cases this;rfl
 rw[e3]
 have keep: ∀b o,s.heap.get? b=some o->hb.get? b=some o:=fun b o e=>kb b o (As (Ad e)) (ba.extBut b o (As (Ad e)) (A3 _ e))
 exact hQ x hb tk hx keep
end
section
variable{X:Cx}{K:A5}{ml:List Nat}{e a b c:Expr}{es:List Expr}{pa ta ia pb tb ib pc tc ic pu bt bi ps bs:Bool}{fa fb fc f:VF}{B B':Bs}{O:Nat->Option Addr}{H H0 H1 H':Hp}{σ:St}{δ δ':Ev}{v:V}{d:Dat}{p:Addr}{pos:Pos}
def yCI(K:A5)(i j:Nat):TG:=fun v σ H Q=> ∃a x xs,v= .ref a/\SqT K H a (x::xs)/\ ∀p,H p=none->Q ((σ.set i (some x)).set j (some (.ref p))) (upd H p (.lst xs))
theorem zTN{i j:Nat}{x y:Str}{px py ps tp:Pos}{k:Nat}(hc:X.calm=true)(hN:X.N.Nodup)(hi:X.N[i]? =some x)(hj:X.N[j]? =some y)(hx:Loc X.env.scope x)(hy:Loc X.env.scope y)
  (fx:X.fn x=true∨X.env.scope.names.lookup x=some .local) (fy:X.fn y=true∨X.env.scope.names.lookup y=some .local)
  (hl:(assignEach [.Name x px,.Starred (.Name y py) ps] X.env).map (·.2)=[assign (.Name x px) X.env,assign (.Name y py) X.env]) (hn:(assignEach [.Name x px,.Starred (.Name y py) ps] X.env).length=2) (hst:(assignEach [.Name x px,.Starred (.Name y py) ps] X.env).findIdx? (·.1)=some 1):
  PG X (.Tuple [.Name x px,.Starred (.Name y py) ps] k tp) (yCI X.K i j):=by
 intro a5 s σ H v u Q I r hw
 obtain⟨a,z,zs,e1,hq,q⟩:=hw
 subst e1
 cases r
 obtain⟨its,rv,ht,hz⟩:=I.tuple hq
 rw[assign_Tuple]
 refine A0 (E6 ?_)
 (unfold unpack)
 rw[hn,hst]
 have ah:=rv.length
 rw[Ci] at ah
 have hz':its.length<=16777216:=by rw[<- Bb,<- ah];exact hz
 refine A0 (Bf (zM8 (I.ok.hd hc) ht (by rw[A9];omega) (by rw[A9];exact hz') fun u hb tk hu kp=> ?_))
 rw[hl]
 cases rv with
 | @cons _ w _ ws rz rzs=>
  have hu:some w=some u:=by simpa using hu
  cases hu
  have I1:Inv X a5 σ H {s with heap:=hb,toks:=tk}:=I.kept kp
  have I2:=Inv.lnew (s:={s with heap:=hb,toks:=tk}) (t':=tk) I1 rzs (by rw[Bb];simp only[Ci] at hz' ah;have:=rzs.length;omega)
  refine Dn (Ek (zDM I2 hN hi hx rz (fun s3 I3=> ?_) fx))
  refine Dn (Ek (zDM I3 hN hj hy (v:= .ref hb.objs.size) rfl (fun s4 I4=>Fv ⟨_,_,I4,q _ (I1.hok.fresh (Ag _))⟩) fy))
noncomputable def zM9(i j:Nat)(f:VF):VS:=fun δ=>(f δ).bind fun p=>match p.1 with
 | .tup (d::ds)=>some (.nx ((p.2.set i (.va d)).set j (.va (.lst ds))))
 |_=>none
theorem zMX{i j:Nat}{x y:Str}{px py sp tp:Pos}{k:Nat}(hK:X.K=K)(hc:X.calm=true)(hN:X.N.Nodup)(hi:X.N[i]? =some x)(hj:X.N[j]? =some y)(hij:i≠j)(hx:Loc X.env.scope x)(hy:Loc X.env.scope y)(he:PE X e (TV K ml pu true true f))
  (hmi : i ∉ ml := by decide) (hmj : j ∉ ml := by decide)
  (fx : X.fn x = true ∨ X.env.scope.names.lookup x = some .local := by first | exact .inl rfl | exact .inr rfl | assumption) (fy : X.fn y = true ∨ X.env.scope.names.lookup y = some .local := by first | exact .inl rfl | exact .inr rfl | assumption)
  (hl : (assignEach [.Name x px,.Starred (.Name y py) sp] X.env).map (·.2) = [assign (.Name x px) X.env,assign (.Name y py) X.env] := by rfl) (hn : (assignEach [.Name x px,.Starred (.Name y py) sp] X.env).length = 2 := by rfl) (hst : (assignEach [.Name x px,.Starred (.Name y py) sp] X.env).findIdx? (·.1) = some 1 := by rfl)
  (hs : Dh [.Tuple [.Name x px,.Starred (.Name y py) sp] k tp] e pos.line X.env = pure false := by rfl) (hw : Di [.Tuple [.Name x px,.Starred (.Name y py) sp] k tp] e X.env = pure none := by rfl)
  (h1 : (assignEach [.Tuple [.Name x px,.Starred (.Name y py) sp] k tp] X.env).map (·.2) = [assign (.Tuple [.Name x px,.Starred (.Name y py) sp] k tp) X.env] := by rfl) :
  PS X (.Assign [.Tuple [.Name x px,.Starred (.Name y py) sp] k tp] e pos) (TSt K ml (zM9 i j f)):=by
 subst hK
 refine(zIZ he (zTN hc hN hi hj hx hy fx fy hl hn hst) hs hw h1).imp fun D σ H ⟨B,O,δ,o,S,q,k⟩=> ?_
 unfold zM9 at q
 cases h1:f δ with
 | none => rw [h1] at q;cases q
 |some p1=>
  obtain⟨z,δ1⟩:=p1
  rw[h1] at q
  refine⟨B,O,δ,z,δ1,S,h1,fun v H1 R=> ?_⟩
  cases z with
  |tup ds=>
   cases ds with
   | nil => cases q
   |cons d ds=>
    cases q
    obtain⟨a,xs,rfl,sq,r⟩:=R.rep.tupE
    cases r with
    | @cons v0 vs _ _ r1 r2=>
     refine⟨a,v0,vs,rfl,sq,fun p hp=> ?_⟩
     have S1:=(R.sta.same (zA9 (o:= .lst vs) hp)).setVa hmi (r1.same (zA9 (o:= .lst vs) hp))
     have N1: ∀c,Nn B (fun j=>if j=i then none else O j) c->Nn B O c:=zJ5 (o:=none)
     refine k _ _ _ (S1.setVa hmj (.lst zAR (fun z=>R.sta.new hp (N1 _ z)) ((r2.same (zA9 hp)).mono N1)))
  |_=>cases q
end
end L2
namespace L2
open PySem PySem.Spec PyProof.Rows
section
variable{X:Cx}{K:A5}{ml:List Nat}{e a b c:Expr}{es:List Expr}{pa ta ia pb tb ib pc tc ic pu bt bi ps bs:Bool}{fa fb fc f:VF}{B B':Bs}{O:Nat->Option Addr}{H H0 H1 H':Hp}{σ:St}{δ δ':Ev}{v:V}{d:Dat}{p:Addr}{pos:Pos}
def rInD(K:A5)(neg:Bool):R2:=fun x y H Q=> ∃d e ds,Dp K H x d/\Dp K H y e/\(e= .list ds∨e= .tuple ds)/\Cf d=true/\Cf e=true/\Q (.bl (if neg then !ds.any (fun z=>Ez z d) else ds.any fun z=>Ez z d)) H
theorem zFU{d:Hr}(h:Cf d=true):d.canLay0=true/\d.depth<=64:=by
 unfold Cf at h
 simp only[A1,decide_eq_true_eq] at h
 exact h
theorem zS3(neg:Bool)(hu:X.A.units+64<cLine):OpR X (Bl (if neg then .NotIn else .In)) (rInD X.K neg):=by
 intro a5 s σ H x y v u Q I rx ry h
 obtain⟨d,e,ds,hd,he,hk,sd,se,q⟩:=h
 obtain⟨as,h1⟩:=I.reads hd rx
 obtain⟨bs,h2⟩:=I.reads he ry
 obtain⟨c1,d1⟩:=zFU sd
 obtain⟨c2,d2⟩:=zFU se
 have fin: ∀k,(k=if neg then !ds.any (fun z=>Ez z d) else ds.any fun z=>Ez z d)->EP X a5 σ Q (.bool k) s:=fun k hk=>by subst hk;exact⟨.bl _,H,I,rfl,q⟩
 rcases hk with rfl|rfl
 ·have hc : Ep ds = true := by simpa [Dx] using c2
  have iz:Ct ds<=63:=by simp only[Fo] at d2;omega
  have hm:X.A.units+1+min (Ct ds) d.depth<cLine:=by have:=K1 (Ct ds) d.depth;omega
  cases neg with
  |false=>exact SeqAt.in_list_reads h2 h1 hc c1 hm (fin _ rfl)
  |true=>exact SeqAt.notIn_list_reads h2 h1 hc c1 hm (fin _ rfl)
 ·have hc : Ep ds = true := by simpa [Dx] using c2
  have iz:Ct ds<=63:=by simp only[Fo] at d2;omega
  have hm:X.A.units+1+min (Ct ds) d.depth<cLine:=by have:=K1 (Ct ds) d.depth;omega
  cases neg with
  |false=>exact SeqAt.in_tuple_reads h2 h1 hc c1 hm (fin _ rfl)
  |true=>exact SeqAt.notIn_tuple_reads h2 h1 hc c1 hm (fin _ rfl)
theorem kInD(h:X.K=K)(hu:X.A.units+64<cLine):OpR X (Bl .In) (rInD K false):=by subst h;exact zS3 false hu
theorem zOM(h:X.K=K)(hu:X.A.units+64<cLine):OpR X (Bl .NotIn) (rInD K true):=by subst h;exact zS3 true hu
noncomputable def inE(d:Dat)(ds:List Dat):Bool:=(pds ds).any fun z=>Ez z d.pd
noncomputable def oInD(neg:Bool)(d e:Dat):Option Dat:=(seqD e).bind fun ds=>if(okD d && okD e)=true then some (.bl (if neg then !inE d ds else inE d ds)) else none
theorem zGQ{neg:Bool}:OpS K (rInD K neg) (oInD neg):=by
 intro H N N' M M' x y d e c Q hx hy h k
 unfold oInD at h
 cases hs:seqD e with
 | none => rw [hs] at h;cases h
 |some ds=>
  rw[hs] at h
  have h:(if(okD d && okD e)=true then some (Dat.bl (if neg then !inE d ds else inE d ds)) else none)=some c:=h
  split at h
  ·rename_i hh
   cases h
   simp only[okD,A1] at hh
   refine⟨d.pd,e.pd,pds ds,hx.dp hh.1.1,hy.dp hh.2.1,?_,hh.1.2,hh.2.2,k _ fun _ _ _=> .bl _⟩
   cases e<;>first
    |(cases hs;exact .inr rfl)
    |(cases hs;exact .inl rfl)
    |cases hs
  ·cases h
def yA5(K:A5)(td ty:TE):TE:=fun σ H Q=>td σ H fun x H1=> ∃a,x= .ref a/\((IsD H1 a/\ty σ H1 fun y H2=> ∃o,DGet H2 a y o/\Q (o.getD .non) H2)∨ ∃D,KTab K a D/\ty σ H1 fun y H2=> ∃k,y= .str k/\Q ((D4 k D).getD .non) H2)
theorem zQN{ak aa:Pos}{td ty:TE}(hu:X.A.units+1<cLine)(ho:PE X a td)(he:PE X e ty)(m:M1 X a "get" ak e aa):PE X (.Call (.Attribute a "get" ak) [e] [] aa) (yA5 X.K td ty):=by
 intro a5 s σ H Q I h
 refine Iw m.base m.few m.line G8 C7 Hb (thn (ho a5 s σ H _ I h) fun u s1 ⟨x,H1,I1,rx,l,ex,q1⟩=> ?_)
 subst ex
 obtain rfl:u=Au l:=rx
 rcases q1 with⟨hd,q1⟩|⟨D,T,q1⟩
 ·obtain⟨t1,t2,_⟩:=zS8 I1 hd
  refine⟨t1,t2,?_⟩
  rw[m.trees]
  refine Dm rfl (D6 (Dq (thn (he a5 s1 σ H1 _ I1 q1) fun iv s2 ⟨y,H2,I2,ry,ov,g,q2⟩=>Em ?_)))
  exact zZ8 hu I2 g ry fun w' s3 I3 rw'=>⟨_,H2,I3,rw',q2⟩
 ·obtain⟨nr,o,oy,ep,hk,hex,b9,_⟩:=id T
  refine⟨⟨o,I1.kIn _ _ hk,hex.1⟩,fun b q=> ?_,?_⟩
  ·cases q
   exact⟨o,I1.kIn _ _ hk,hex.2.1⟩
  rw[m.trees]
  refine Dm rfl (D6 (Dq (thn (he a5 s1 σ H1 _ I1 q1) fun iv s2 ⟨y,H2,I2,ry,k,ey,q2⟩=>Em ?_)))
  subst ey
  obtain⟨t,rfl⟩:=ry
  have hT:s2.TypeIs (.ref l) "dict":=⟨o,I2.kIn _ _ hk,hex.1⟩
  refine Ch C7 hT Cu ?_ (Ee _ _)
  show wpAny _ _ (dictGet l (.str k t)>>=_) _ _ s2
  refine A0 (zLI I2.kIn T (fun d' v' ha hv=>A8 ⟨v',rfl,?_⟩) fun hn=> ?_)
  ·rw[ha] at q2
   exact⟨d',H2,I2.tok _,hv,q2⟩
  ·rw[hn] at q2
   show wpAny _ _ (Ia l (.str k t)>>=_) _ _ _
   unfold Ia
   rw[if_neg (by rw[nr];exact Cg)]
   exact A0 (A8 (A8 ⟨.none,rfl,.non,H2,I2.tok _,rfl,q2⟩))
noncomputable def zYI:Dat->Dat->Option Dat
 | .dct ks ds,.str x=>some ((zBU ks ds (.inr x)).getD .non)
 |_,_=>none
theorem zSW{ak aa:Pos}(hK:X.K=K)(hu:X.A.units+1<cLine)(ha:PE X a (TV K ml pa ta ia fa))(hb:PE X b (TV K ml pb tb ib fb))(m:M1 X a "get" ak b aa) (hs:(pb || (ta && ia))=true:=by rfl):
  PE X (.Call (.Attribute a "get" ak) [b] [] aa) (TV K ml (pa && pb) ia ia (f2 zYI fa fb)):=by
 subst hK
 refine(zQN hu ha hb m).imp fun σ H Q ⟨B,O,δ,d,δ2,S,q,k⟩=> ?_
 obtain⟨x,δ1,y,h1,h2,h3⟩:=zHX q
 refine⟨B,O,δ,x,δ1,S,h1,fun v1 H1 R1=> ?_⟩
 have fin : ∀ v2 H2 (R2 : Res X.K ml B O H1 σ pb tb ib H2 δ2 v2 y) o,Rep X.K (av B O ia) H2 (av B O ia) o d -> Q o H2 := fun v2 H2 R2 o ho => k o H2 ⟨R2.sta,R1.frm.trans R2.frm,fun z => by
  obtain⟨z1,z2⟩:=(A1 _ _).mp z
  exact(R1.pur z1).trans (R2.pur z2),ho.mono (fun _ z=>z) zZI⟩
 cases x with
 |dct ks ds=>
  cases y with
  |str z=>
   cases h3
   generalize hx:Dat.dct ks ds=dd at R1
   have r1:=R1.rep
   cases r1 with
   | @dct _ l kvs ds' qd n r=>
    cases hx
    refine⟨l,rfl,.inl ⟨.inl ⟨_,.inl qd⟩,B,O,δ1,_,δ2,R1.sta,h2,fun v2 H2 R2=> ?_⟩⟩
    have r2:=R2.rep
    cases r2
    have h4:H2 l=some (.dK kvs)/\RepA X.K (av B O ia) H2 (kvs.map Ew) ds:=by
     cases pb with
     |true=>exact⟨R2.pur rfl _ _ qd,r.same (R2.pur rfl)⟩
     |false=>
      have hs:(ta && ia)=true:=by simpa using hs
      obtain⟨z1,z2⟩:=(A1 _ _).mp hs
      subst z1 z2
      exact⟨R2.frm _ _ qd fun w=>absurd (.inr w) n,r.fr R2.frm fun a z=> .inr z⟩
    refine⟨_,DGet.k (k:= .inr z) h4.1,fin _ _ R2 _ ?_⟩
    rcases zGF (k:= .inr z) h4.2 with⟨v,d',g1,g2,g3⟩|⟨g1,g2⟩
    ·rw[g1,g2];exact g3
    ·rw[g1,g2];exact .non
   | @ktb _ l D ds' T r=>
    cases hx
    refine⟨l,rfl,.inr ⟨D,T,B,O,δ1,_,δ2,R1.sta,h2,fun v2 H2 R2=> ?_⟩⟩
    have r2:=R2.rep
    cases r2
    refine⟨z,rfl,fin _ _ R2 _ ?_⟩
    have r':RepA X.K (av B O ia) H2 (D.map Ew) ds:=by
     cases pb with
     |true=>exact r.same (R2.pur rfl)
     |false=>
      have hs:(ta && ia)=true:=by simpa using hs
      obtain⟨z1,z2⟩:=(A1 _ _).mp hs
      subst z1 z2
      exact r.fr R2.frm fun a z=> .inr z
    rcases zH4 (k:=z) r' with⟨v,d',g1,g2,g3⟩|⟨g1,g2⟩
    ·rw[g1,g2];exact g3
    ·rw[g1,g2];exact .non
   |_=>cases hx
  |_=>cases h3
 |_=>cases h3
end
theorem zJU:Av "all"=some (.builtin "all"):=by decide+kernel
section
variable{X:Cx}{K:A5}{ml:List Nat}{e a b c:Expr}{es:List Expr}{pa ta ia pb tb ib pc tc ic pu bt bi ps bs:Bool}{fa fb fc f:VF}{B B':Bs}{O:Nat->Option Addr}{H H0 H1 H':Hp}{σ:St}{δ δ':Ev}{v:V}{d:Dat}{p:Addr}{pos:Pos}
theorem zUQ{ks:List Bool}{us:List Value}(r:Vals (ks.map V.bl) us){i:Nat}{u:Value}(h:us[i]? =some u): ∃k,ks[i]? =some k/\u= .bool k:=by
 have hl:=r.length
 rw[D8] at hl
 have hi:i<us.length:=(A6.mp h).1
 have e:(ks.map V.bl)[i]? =some (.bl ks[i]):=by simp[hl▸hi]
 obtain⟨w,h1,h2⟩:=r.get e
 rw[h] at h1
 cases h1
 exact⟨ks[i],by simp[hl▸hi],h2⟩
theorem zNR{ks:List Bool}:(Bv ks.length).all (fun i=>(ks[i]?).getD true)=ks.all id:=by
 induction ks with
 |nil=>rfl
 |cons k ks ih=>
  rw[Ci,List.range_succ_eq_map,Kt,L5,Kt,<- ih]
  rfl
def zQI(K:A5)(g:List Bool->Bool):RC:=fun xs H Q=> ∃p ks,xs=[.ref p]/\SqL K H p (ks.map V.bl)/\Q (.bl (g ks)) H
theorem zQ8{prog:Al}{w:World}{A:Ba}{ks:List Bool}{us:List Value}(r:Vals (ks.map V.bl) us):TruthOf prog w A (fun i v=>us.toArray[i]? =some v) fun i=>(ks[i]?).getD true:=by
 intro i v s Q E hP hQ
 obtain⟨k,h1,rfl⟩:=zUQ r (by simpa using hP)
 have hQ:Q ((ks[i]?).getD true) s:=hQ
 rw[h1] at hQ
 exact Cn hQ
theorem zPL(hc:X.calm=true):zC8 X (.builtin "all") (zQI X.K fun ks=>ks.all id):=by
 intro a5 s σ H xs us Q I r h
 obtain⟨l,ks,rfl,hq,q⟩:=h
 obtain⟨u,rfl,rx⟩:=zK5 r
 cases rx
 obtain⟨its,rv,pl,hz⟩:=I.list hq
 have hl:=pl.isList
 have hne:l≠s.heap.objs.size:=by obtain⟨o,g,_⟩:=hl;exact As (Ad g)
 have ah:=rv.length
 rw[D8] at ah
 refine call_all_walk (El hl ⟨_,_,_,_,_,_,_,rfl,Walks.list (show X.A.in1.handled=none from I.ok.hd hc) s.heap.objs.size l hne its.toArray,⟨⟨_,Ah _ rfl,rfl,rfl⟩,?_⟩,zQ8 rv,fun h' tk hk=> ?_⟩)
 ·obtain⟨o,g,r⟩:=hl
  exact⟨o,A3 _ g,r⟩
 ·rw[A9,<- ah,zNR]
  exact⟨.bl _,H,I.kept (t':=tk) fun b o g=>hk b o (by simp;exact As (Ad g)) (A3 _ g),rfl,q⟩
theorem kAll(h:X.K=K)(hc:X.calm=true):zC8 X (.builtin "all") (zQI K fun ks=>ks.all id):=by subst h;exact zPL hc
noncomputable def blsD:List Dat->Option (List Bool)
 |[]=>some []
 | .bl k::ds=>(blsD ds).map fun ks=>k::ks
 |_=>none
theorem zPP{N:Addr->Prop}: ∀{xs:List V} {ds:List Dat} {ks:List Bool},RepA K N H xs ds->blsD ds=some ks->xs=ks.map V.bl
 | _,_,_,.nil,h => by cases h;rfl
 | _,_,_,@RepA.cons _ _ _ v vs d ds h t,e => by
  cases d with
  |bl k=>
   cases h
   have e:(blsD ds).map (fun ks=>k::ks)=some _:=e
   cases h2:blsD ds with
   |none=>rw[h2] at e;cases e
   |some ks'=>
    rw[h2] at e
    cases e
    rw[zPP t h2,B9]
  |_=>cases e
noncomputable def zU2(g:List Bool->Bool):Dat->Option Dat
 | .lst ds=>(blsD ds).map fun ks=> .bl (g ks)
 |_=>none
noncomputable abbrev oAll:=zU2 fun ks=>ks.all id
theorem zWE{g:List Bool->Bool}:CalS K (zQI K g) (zU2 g):=by
 intro H N M x d c Q hx h k
 cases d with
 |lst ds=>
  have h:(blsD ds).map (fun ks=>Dat.bl (g ks))=some c:=h
  cases h1:blsD ds with
  |none=>rw[h1] at h;cases h
  |some ks=>
   rw[h1] at h
   cases h
   obtain⟨a,xs,rfl,sq,r⟩:=hx.lstE
   have:=zPP r h1
   subst this
   exact⟨a,ks,rfl,sq,k _ fun _ _ _=> .bl _⟩
 |_=>cases h
theorem zNL:CalS K (zQI K fun ks=>ks.all id) oAll:=zWE
noncomputable def zKP:List Dat->Option (List Int)
 |[]=>some []
 | .int i::ds=>(zKP ds).map fun ns=>i::ns
 |_=>none
theorem zLM{N:Addr->Prop}: ∀{xs:List V} {ds:List Dat} {ns:List Int},RepA K N H xs ds->zKP ds=some ns->xs=ns.map V.int
 | _,_,_,.nil,h => by cases h;rfl
 | _,_,_,@RepA.cons _ _ _ v vs d ds h t,e => by
  cases d with
  |int k=>
   cases h
   have e:(zKP ds).map (fun ks=>k::ks)=some _:=e
   cases h2:zKP ds with
   |none=>rw[h2] at e;cases e
   |some ks'=>
    rw[h2] at e
    cases e
    rw[zLM t h2,B9]
  |_=>cases e
end
section
variable{X:Cx}{K:A5}{ml:List Nat}{e:Expr}{es:List Expr}{pu bt bi bs:Bool}{f:VF}{fs:VFs}
theorem zAA(h:PE X e (TV K ml pu bt bi f))(hb:(bt && bi)=true:=by rfl):PE X e (TV K ml pu true true f):=by
 obtain⟨h1,h2⟩:=(A1 _ _).mp hb
 subst h1 h2
 exact h
theorem zZZ(h:PE X e (TV K ml pu bt bi f))(hb:bi=true:=by rfl):PE X e (TV K ml pu bt true f):=by
 subst hb
 exact h
theorem zAK(h:PA X es (TAV K ml pu bs fs))(hb:bs=true:=by rfl):PA X es (TAV K ml pu true fs):=by
 subst hb
 exact h
theorem zGA{st:Stmt}:PS X st (TSt K ml fun _=>none):=fun _ _ _ _ _ _ ⟨_,_,_,_,_,q,_⟩=>nomatch q
variable{a b c:Expr}{pa ta ia pb tb ib pc tc ic:Bool}{fa fb fc:VF}{pos:Pos}{δ:Ev}
end
theorem zH7: ∀(names:List (Str×NameKind)) (n:Nat) (acc:List (Str×Addr)),cellsFrom n names acc=cellsFrom n names []++acc
 | [],_,_ => rfl
 | (x,k) :: r,n,acc => by
  unfold cellsFrom
  split
  ·rw[zH7 r (n+1) ((x,n)::acc),zH7 r (n+1) [(x,n)]]
   simp
  ·exact zH7 r n acc
theorem zPF: ∀{names:List (Str×NameKind)} {n:Nat} {x:Str} {c:Addr},(x,c)∈cellsFrom n names []->(x,B5)∈names
 | [],_,_,_,h => nomatch h
 | (y,k) :: r,n,x,c,h => by
  unfold cellsFrom at h
  split at h
  ·rename_i hk
   rw[zH7] at h
   rcases Bg.mp h with h|h
   ·exact Am _ (zPF h)
   ·cases Af.mp h
    rw[show k=B5 from beq_iff_eq.mp hk]
    exact Aw
  ·exact Am _ (zPF h)
theorem zPG: ∀{names:List (Str×NameKind)} {n:Nat} {x:Str},(x,B5)∈names-> ∃c,(x,c)∈cellsFrom n names []
 | (y,k) :: r,n,x,h => by
  unfold cellsFrom
  rcases Ac.mp h with e|h
  ·cases e
   rw[if_pos (by decide),zH7]
   exact⟨n,Ap _ (Af.mpr rfl)⟩
  ·split
   ·rw[zH7]
    obtain⟨c,hc⟩:=zPG (n:=n+1) h
    exact⟨c,Ar _ hc⟩
   ·exact zPG h
theorem zHO: ∀{l:List (Str×Addr)} {x:Str} {c:Addr},(x,c)∈l-> ∃c',l.lookup x=some c'
 | (y,d) :: r,x,c,h => by
  rw[B7]
  cases hb:x==y with
  | true => exact ⟨d,rfl⟩
  |false=>
   rcases Ac.mp h with e|h
   ·cases e
    simp at hb
   ·exact zHO h
theorem zCB: ∀{l m:List (Str×Addr)} {x:Str} {c:Addr},(l++m).lookup x=some c->l.lookup x=some c∨(l.lookup x=none/\m.lookup x=some c)
 |[],_,_,_,h=> .inr ⟨rfl,h⟩
 |(y,d)::r,m,x,c,h=>by
  rw[E1,B7] at h
  rw[B7]
  cases hb:x==y with
  |true=>rw[hb] at h;exact .inl h
  |false=>rw[hb] at h;exact zCB h
theorem zFT: ∀{l m:List (Str×Addr)} {x:Str},l.lookup x=none->(l++m).lookup x=m.lookup x
 |[],_,_,_=>rfl
 |(y,d)::r,m,x,h=>by
  rw[B7] at h
  rw[E1,B7]
  cases hb:x==y with
  |true=>rw[hb] at h;cases h
  |false=>rw[hb] at h;exact zFT h
theorem zKI{M:Model}{A:Ba}{E:Value->A2->Prop}{s:A2}{scope:Scope}{globals:Addr}{dw:List (Str×Addr)}{qual:Str}{outer:Env}{Q:Env->A2->Prop}
  (hQ:Q (newEnv scope s.heap.objs.size globals (cellsFrom (s.heap.objs.size+1) scope.names dw) qual none .none (some outer) builtinsNs) {s with heap:=K2 (s.heap.push {cls:= .type "dict",data:= .dict #[]}) scope.names}):
  wpAny M A (Ht scope globals dw [] qual none .none (some outer)) Q E s:=by
 simp only[Ht,Ik,if_true]
 refine A0 (wpAny_alloc ?_)
 refine A0 (wpAny_layCells _ (fun name kind cells=>by cases hkc:kind==B5<;>simp[hkc]) _ _ _ _ ?_)
 rw[show({s with heap:=s.heap.push {cls:= .type "dict",data:= .dict #[]}}:A2).heap.objs.size=s.heap.objs.size+1 from Ca ..]
 rw[Hs]
 exact A0 (A8 (A8 hQ))
theorem zEN: ∀{l m:List (Str×Addr)} {x:Str} {c:Addr},l.lookup x=some c->(l++m).lookup x=some c
 |(y,d)::r,m,x,c,h=>by
  rw[B7] at h
  rw[E1,B7]
  cases hb:x==y with
  |true=>rw[hb] at h;exact h
  |false=>rw[hb] at h;exact zEN h
structure zIK(X:Cx)(N':List Str)(ix:List Nat)(scope:Scope):Prop where
 kind:scope.kind= .function
 cel: ∀y∈scope.names,y.2= .cell->scope.names.lookup y.1=some .cell
 names: ∀y∈scope.names,y.2= .local->scope.names.lookup y.1=some .local
 free: ∀y∈scope.names,y.2= .free->X.env.kindOf y.1=some .cell∨X.env.kindOf y.1=some .free
 nd:N'.Nodup
 cap: ∀j,j<ix.length->N'[j]? =(ix[j]?).bind fun i=>X.N[i]?
 capf: ∀x∈N'.take ix.length,scope.names.lookup x=some .free
noncomputable def zC3(X:Cx)(N':List Str)(scope:Scope)(cl:List (Str×Addr))(s1:A2)(H1:Hp)(fp:List Addr):Cx:=
 {X with N:=N',s₀:=s1,H₀:=H1,env:=compEnvC scope cl s1.heap.objs.size X.env,outer:=X.stack,stack:=X.stack,ex:=fp,fn:=fun x=>scope.names.lookup x==some B5,pn:=[],xe:=fun _ _=>False}
theorem zE2{env:Env}{x:Str}: ∀{l:List (Str×NameKind)},
  ((l.map fun (n,k) => if (k == Aq && env.scope.kind == .function && env.kindOf n == some .cell) then (n,B5) else (n,k)).lookup x = some .cell ∨
  (l.map fun (n,k) => if (k == Aq && env.scope.kind == .function && env.kindOf n == some .cell) then (n,B5) else (n,k)).lookup x = some .free) -> (x,Aq) ∈ l ∨ (x,B5) ∈ l
 | [],h => by rcases h with z | z <;> cases z
 | (n,k) :: r,h => by
  have h:Hy x ((if(k==Aq && env.scope.kind== .function && env.kindOf n==some .cell)=true then(n,B5) else(n,k))::r.map fun(n,k)=>if(k==Aq && env.scope.kind== .function && env.kindOf n==some .cell) then(n,B5) else(n,k))=some .cell∨
   Hy x ((if(k==Aq && env.scope.kind== .function && env.kindOf n==some .cell)=true then(n,B5) else(n,k))::r.map fun(n,k)=>if(k==Aq && env.scope.kind== .function && env.kindOf n==some .cell) then(n,B5) else(n,k))=some .free:=h
  by_cases hc:(k==Aq && env.scope.kind== .function && env.kindOf n==some .cell)=true
  ·rw[if_pos hc] at h
   by_cases hx:x=n
   ·subst hx
    have hk:k= .free:=by
     simp only[A1] at hc
     exact beq_iff_eq.mp hc.1.1
    subst hk
    exact .inl Aw
   ·have hb:(x==n)=false:=beq_eq_false_iff_ne.mpr hx
    simp only[B7,hb] at h
    rcases zE2 (env:=env) h with z|z
    ·exact .inl (Am _ z)
    ·exact .inr (Am _ z)
  ·rw[if_neg hc] at h
   by_cases hx:x=n
   ·subst hx
    rw[C8] at h
    rcases h with z|z
    ·cases z;exact .inr Aw
    ·cases z;exact .inl Aw
   ·have hb:(x==n)=false:=beq_eq_false_iff_ne.mpr hx
    simp only[B7,hb] at h
    rcases zE2 (env:=env) h with z|z
    ·exact .inl (Am _ z)
    ·exact .inr (Am _ z)
theorem zHY{X:Cx}{a5:List (Addr×Obj)}{σ:St}{H2:Hp}{s2:A2}{E:Value->A2->Prop}{tg iter elt:Expr}{ifs:List Expr}{scope:Scope}{pos:Pos}{N':List Str}{ix:List Nat}{nl:Nat}{g:TG}{tt:TT}{te:TE}
  {cl:List (Str×Addr)} {J:It} {fp:List Addr} {it:Addr} {tn:Nat->Heap->Prop} {Q:V->Hp->Prop} {RR:Value->Addr->Result->A2->Prop}
  (hc:X.calm=true) (S:zIK X N' ix scope) (hnl:N'.length=ix.length+nl)
  (di: ∀x c,cl.lookup x=some c->X.env.cells.lookup x=some c) (mh: ∀x,(x,Aq)∈scope.names-> ∃c,cl.lookup x=some c)
  (blk: ∀(cl:List (Str×Addr)) (s1:A2) (H1:Hp) (fp:List Addr),Blk (zC3 X N' scope cl s1 H1 fp) tg ifs elt g tt te)
  (I2:Inv X a5 σ H2 s2) (T:Turn X.prog X.w X.K tg J fp it tn) (st2:tn 0 s2.heap) (f2: ∀b∈fp,FpOk X a5 H2 b)
  (h : ∀ D,H2 D = none -> zZL D ix nl J g tt te σ H2 fun H' => Q (.ref D) H')
  (fin: ∀(D C:Addr) (s':A2) (H':Hp),Inv X a5 σ H' s'->(∃m,s'.heap.Ns C m)->C≠X.env.locals->(∀x c,X.env.cells.lookup x=some c->c≠C)→
   (∀(σ':St) (s'':A2) (h'':Heap),Inv X a5 σ' H' s''->Cz C s''.heap h''->Inv X a5 σ' H' {s'' with heap:=h''})->Q (.ref D) H'->RR (.ref D) C (.ok .next) s'):
  wpAny (model X.prog X.w) X.A (newList []) (fun acc s₃=>wpAny (model X.prog X.w) X.A (Ht scope X.env.globals cl [] X.env.qual none .none (some X.env)) (fun mn s₄=>
   G4 (model X.prog X.w) X.A (.compStart (.ListComp elt [⟨tg,iter,ifs,0⟩] scope pos) 0 (.ref it) acc {mn with scope:=relabel scope X.env}) (RR acc mn.locals) s₄) E s₃) E s2:=by
 refine C6 (zKI ?_)
 dsimp only
 have I1:Inv X a5 σ (upd H2 s2.heap.objs.size (.lst [])) {s2 with heap:=s2.heap.push {cls:= .type "list",dict:=none,data:= .seq ([]:List Value).toArray}}:=
  I2.lnew (t':=s2.toks) (ys:=[]) (its:=[]) .nil (D3 _)
 have hDn:H2 s2.heap.objs.size=none:=I2.hok.fresh (Ag _)
 obtain⟨W,⟨m0,w0⟩,turn⟩:=h _ hDn
 generalize hs1:({s2 with heap:=s2.heap.push {cls:= .type "list",dict:=none,data:= .seq ([]:List Value).toArray}}:A2)=s1 at I1
 have f9:s2.heap.push {cls:= .type "list",dict:=none,data:= .seq ([]:List Value).toArray}=s1.heap:=by rw[<- hs1]
 rw[f9]
 have old: ∀b o,s1.heap.get? b=some o->(K2 (s1.heap.push {cls:= .type "dict",data:= .dict #[]}) scope.names).get? b=some o:=fun b o e=>pushCells_keeps _ _ _ _ (A3 _ e)
 have hns₁:(K2 (s1.heap.push {cls:= .type "dict",data:= .dict #[]}) scope.names).Ns s1.heap.objs.size (fun _=>none):=(Heap.Ns.new s1.heap (.type "dict")).keeps fun b o e=>pushCells_keeps _ _ _ _ e
 have okc:=cellsFrom_ok scope.names (s1.heap.push {cls:= .type "dict",data:= .dict #[]}) (s1.heap.objs.size+1) [] ⟨fun _ _ hm=>(nomatch hm),Ix⟩ (by rw[Ca];exact Ag _)
 rw[Ca] at okc
 generalize hz1:K2 (s1.heap.push {cls:= .type "dict",data:= .dict #[]}) scope.names=h₁ at old hns₁ okc
 rw[zH7]
 generalize hnc:cellsFrom (s1.heap.objs.size+1) scope.names []=nc at okc
 have ncm: ∀x c,nc.lookup x=some c->(x,B5)∈scope.names/\h₁.IsCell c none/\s1.heap.objs.size+1<=c:=fun x c e=>by
  have hm:=Bm e
  exact⟨zPF (n:=s1.heap.objs.size+1) (by rw[hnc];exact hm),okc.empty x c hm⟩
 have nch: ∀x,(x,B5)∈scope.names-> ∃c,nc.lookup x=some c:=fun x h=>by
  obtain⟨c,hc⟩:=zPG (n:=s1.heap.objs.size+1) h
  rw[hnc] at hc
  exact zHO hc
 have j5: ∀b∈fp,b<s2.heap.objs.size:=fun b hb=>by
  obtain⟨o,e,_⟩:=T.obj _ _ st2 b hb
  exact Ad e
 have m8:s1.heap.objs.size=s2.heap.objs.size+1:=by rw[<- f9,Ca]
 have mz: ∀b o,s2.heap.get? b=some o->s1.heap.get? b=some o:=fun b o e=>by rw[<- f9];exact A3 _ e
 have fm: ∀x c,cl.lookup x=some c->c<s1.heap.objs.size:=fun x c e=>by
  obtain⟨v,q⟩:=I1.cell x c (di x c e)
  exact q.lt
 have oo: ∀b∈frs X.stack,b<s1.heap.objs.size:=fun b hb=>by
  obtain⟨_,o,ho,_⟩:=(I1.stack).mem hb
  exact Ad ho
 have okY:(zC3 X N' scope (nc++cl) s1 (upd H2 s2.heap.objs.size (.lst [])) fp).Ok:=by
  refine⟨I1.ok.mod,S.kind,I1.ok.glob,I1.ok.blt,Ag _,fun x y c e1 e2=> ?_,fun x hx=> ?_,fun x c hf e=> ?_,I1.ok.hd,I1.ok.frames,.inl rfl,fun b hb=>⟨?_,fun x c e=> ?_⟩,fun b o e=> ?_,
   Cy I1.ok.bsz I1.sz,fun b o e hb=> ?_,fun b hb hb2=> ?_,I1.stack,I1.stkFree⟩
  ·rcases zCB e1 with n1|⟨_,o1⟩
   ·rcases zCB e2 with n2|⟨_,o2⟩
    ·exact PySem.name_of_addr okc.apart (Bm n1) (Bm n2)
    ·exact absurd (Aj (fm y c o2) (Er (ncm x c n1).2.2)) (Bt _)
   ·rcases zCB e2 with n2|⟨_,o2⟩
    ·exact absurd (Aj (fm x c o1) (Er (ncm y c n2).2.2)) (Bt _)
    ·exact I1.ok.inj x y c (di x c o1) (di y c o2)
  ·cases q:nc.lookup x with
   | some c => exact ⟨c,zEN q⟩
   |none=>
    rcases zE2 hx with h|h
    ·obtain⟨c,hc⟩:=mh x h
     exact⟨c,(zFT q).trans hc⟩
    ·obtain⟨c,hc⟩:=nch x h
     rw[q] at hc
     cases hc
  ·have hx:(x,B5)∈scope.names:=Bm (beq_iff_eq.mp hf)
   obtain⟨c',hc'⟩:=nch x hx
   have:=zEN (m:=cl) hc'
   have e:(nc++cl).lookup x=some c:=e
   rw[this] at e
   cases e
   exact Er (ncm x c hc').2.2
  ·exact As (Aj (j5 b hb) (by show s2.heap.objs.size <= s1.heap.objs.size;rw [m8];exact Gb _))
  ·rcases zCB e with n1|⟨_,o1⟩
   ·have h1:=j5 b hb
    have h2:=(ncm x c n1).2.2
    rw[m8] at h2
    exact fun z=>absurd (z▸h2) (Nat.not_le_of_lt (Aj h1 (Cy (Gb _) (Gb _))))
   ·exact(f2 b hb).2.2.2.2.1 x c (di x c o1)
  ·exact I1.bs b o e
  ·have:=(f2 b hb)
   obtain⟨o',e',_⟩:=T.obj _ _ st2 b hb
   have hlt:=Aj (Ad e) I1.ok.bsz
   rcases this.2.2.2.1 with z|z
   ·exact I1.ok.noex b o e z
   ·exact absurd (Aj hlt z) (Bt _)
  ·rcases Ac.mp (I1.stkSub b hb2) with z|z
   ·exact(f2 b hb).2.1 z
   ·exact(f2 b hb).2.2.1 z
 have ij : (caps ix σ ++ Aa nl none).length = N'.length := by rw [Bu,Gu,hnl];simp [caps]
 have IY:Inv (zC3 X N' scope (nc++cl) s1 (upd H2 s2.heap.objs.size (.lst [])) fp) [] (caps ix σ++Aa nl none) (upd H2 s2.heap.objs.size (.lst [])) {s2 with heap:=h₁}:=by
  refine⟨okY,?_,I2.bare,Un.kept old,⟨_,hns₁,fun j x v e1 e2 e3=> ?_⟩,fun x c e=> ?_,I1.hok.fresh (Ag _),fun x c e=> ?_,fun p hp=>absurd (show p∈([]:List (Addr×Obj)) from hp) (by simp),I1.hok.kept old,ij⟩
  ·show s2.os=s1.os
   rw[<- hs1]
  ·have hj:j<ix.length:=by
    by_cases hj:j<ix.length
    ·exact hj
    ·exfalso
     have hl:(caps ix σ).length=ix.length:=by simp[caps]
     rw[Ai (by rw[hl];omega),Bz] at e2
     split at e2<;>cases e2
   have hl:(caps ix σ).length=ix.length:=by simp[caps]
   rw [A7 (by rw [hl];exact hj)] at e2
   have hci:=S.cap j hj
   obtain⟨i,hi⟩: ∃i,ix[j]? =some i:=⟨ix[j],by simp[hj]⟩
   rw[hi] at hci
   have hNi:X.N[i]? =some x:=by
    have:N'[j]? =X.N[i]? :=hci
    rw[<- this];exact e1
   have hσ:σ[i]? =some (some v):=by
    unfold caps at e2
    rw[Co,hi] at e2
    have e2':(σ[i]?).join=some v:=by simpa using e2
    cases q:σ[i]? with
    | none => rw [q] at e2';cases e2'
    | some o => rw [q] at e2';rw [show o = some v from e2']
   have hfl:scope.names.lookup x=some .free:=S.capf x (by
    rw[Hc]
    exact⟨j,by rw[Bw hj];exact e1⟩)
   have b4:(x,Aq)∈scope.names:=Bm hfl
   have hpk:X.env.kindOf x=some .cell∨X.env.kindOf x=some .free:=by exact S.free (x,.free) b4 rfl
   have nq:Vis X.env.scope x:=by
    rcases hpk with z|z
    ·exact .inr (.inl z)
    ·exact .inr (.inr z)
   obtain⟨m,hn,o0⟩:=I1.loc
   obtain⟨u,ru,l⟩:=o0 i x v hNi hσ nq
   refine⟨u,ru,?_⟩
   rcases l with⟨hk,_⟩|⟨hk,c,ec,z⟩
   ·rcases hpk with q|q<;>rw[hk] at q<;>cases q
   ·obtain⟨c',hc'⟩:=mh x b4
    have:c'=c:=by
     have:=di x c' hc'
     rw[ec] at this;exact(B4 this).symm
    subst this
    have ny:nc.lookup x=none:=by
     cases q:nc.lookup x with
     |none=>rfl
     |some d=>
      have:=S.cel (x,.cell) (ncm x d q).1 rfl
      rw[hfl] at this
      cases this
    refine .inr ⟨zFW hfl,c',(zFT ny).trans hc',?_⟩
    ·obtain⟨o,ho,hd⟩:=z
     exact⟨o,old _ _ ho,hd⟩
  ·rcases zCB e with n1|⟨_,o1⟩
   ·exact⟨none,(ncm x c n1).2.1⟩
   ·obtain⟨v,o,ho,hd⟩:=I1.cell x c (di x c o1)
    exact⟨v,o,old _ _ ho,hd⟩
  ·rcases zCB e with n1|⟨_,o1⟩
   ·exact I1.hok.fresh (Er (ncm x c n1).2.2)
   ·exact I1.freeC x c (di x c o1)
 have back: ∀{pY:List (Addr×Obj)} {σ':St} {H':Hp} {s':A2},Inv (zC3 X N' scope (nc++cl) s1 (upd H2 s2.heap.objs.size (.lst [])) fp) pY σ' H' s'->Inv X a5 σ H' s':=fun{pY σ' H' s'} J'=>
  I1.call' J'.os J'.base J'.hok J'.bare fun b hb=>⟨(f2 b hb).2.2.2.1,(f2 b hb).2.1,(f2 b hb).2.2.2.2.1,(f2 b hb).2.2.2.2.2⟩
 have stat: ∀{H':Hp} {pY:List (Addr×Obj)},(∀b∈fp,H' b=none)->pY=[]-> ∀b∈fp,FpOk (zC3 X N' scope (nc++cl) s1 (upd H2 s2.heap.objs.size (.lst [])) fp) pY H' b:=fun{H' pY} hn hp b hb=>by
  subst hp
  refine⟨hn b hb,(okY.exf b hb).1,okY.exfs b hb,.inl hb,(okY.exf b hb).2,fun p hp=>absurd (show p∈([]:List (Addr×Obj)) from hp) (by simp)⟩
 have st1:tn 0 h₁:=T.keep 0 s2.heap h₁ st2 fun b hb o e=>old b o (mz b o e)
 have fr1: ∀b∈fp,(upd H2 s2.heap.objs.size (.lst [])) b=none:=fun b hb=>by
  rw[zAX (As (j5 b hb))]
  exact(f2 b hb).1
 have loop: ∀s₃:A2,s₃={s2 with heap:=h₁}→
   G4 (model X.prog X.w) X.A (.compLoop (.ListComp elt [⟨tg,iter,ifs,0⟩] scope pos) 0 (.ref it) (.ref s2.heap.objs.size) (compEnvC scope (nc++cl) s1.heap.objs.size X.env)) (RR (.ref s2.heap.objs.size) s1.heap.objs.size) s₃:=by
  rintro s₃ rfl
  refine zPB (fun n s'=> ∃i σ' H' acc,Inv (zC3 X N' scope (nc++cl) s1 (upd H2 s2.heap.objs.size (.lst [])) fp) [] σ' H' s'/\σ'.take ix.length=caps ix σ/\tn i s'.heap/\(∀b∈fp,H' b=none)/\W i n acc H') ?_ m0
   ⟨0,_,_,[],IY,by rw [Dj (by simp [caps])];exact Be (by simp [caps]),st1,fr1,w0⟩
  rintro n s' ⟨i,σ',H',acc,J',hσ,st',fr',w'⟩
  have Jc:Inv (zC3 X N' scope (nc++cl) s1 (upd H2 s2.heap.objs.size (.lst [])) fp) [] (caps ix σ++Aa nl none) H' s':=by
   refine J'.weak (by rw[ij];exact J'.len.symm) fun j v e=> ?_
   have hl:(caps ix σ).length=ix.length:=by simp[caps]
   by_cases hj:j<ix.length
   ·rw [A7 (by rw [hl];exact hj),<- hσ,Bw hj] at e
    exact e
   ·rw [Ai (by rw [hl];omega),Bz] at e
    split at e<;>cases e
  rcases turn i n acc H' w' with⟨stop,q⟩|⟨go,N,hN,step⟩
  ·refine B6 (T.done (zC3 X N' scope (nc ++ cl) s1 (upd H2 s2.heap.objs.size (.lst [])) fp) rfl rfl rfl hc i [] s' _ H' (fun _ _ => False) Jc (stat fr' rfl) st' stop) (fun r s4 ⟨hr,I4⟩ => ?_) fun _ _ z => z
   subst hr
   have IX:=back I4
   obtain⟨m,hm,_⟩:=I4.loc
   exact fin _ _ s4 H' IX ⟨m,hm⟩ (E3 I1.lt) (fun x c e z=>by
    obtain⟨v,q⟩:=I1.cell x c e
    have:=q.lt
    rw[z] at this
    exact Bt _ this) (fun σ'' s'' h'' I'' sb=>Inv.offNew I1 I'' I4.free fun b o hb e=>(sb.2 b hb).trans e) q
  ·refine B6 (T.item (zC3 X N' scope (nc ++ cl) s1 (upd H2 s2.heap.objs.size (.lst [])) fp) rfl rfl rfl hc i [] s' _ H' (fun _ _ => False) Jc (stat fr' rfl) st' go) (fun r s4 ⟨u,hr,h4⟩ => ?_) fun _ _ z => z
   subst hr
   refine B6 h4 (fun _ s5 ⟨x,H5,I5,r5,y5,st5,fr5⟩=> ?_) fun _ _ z=>z
   have I5':=I5.pinned (stat fr5 rfl) (T.obj _ _ st5)
   obtain⟨btg,bts,bel⟩:=blk (nc++cl) s1 (upd H2 s2.heap.objs.size (.lst [])) fp
   refine B6 (btg _ s5 _ H5 x u _ I5' r5 (step x H5 y5)) (fun _ s6 ⟨σ6,H6,I6,hσ6,q6⟩=> ?_) fun _ _ z=>z
   have zHB: ∀{H7:Hp} {s7:A2} {bh:List V},Inv (zC3 X N' scope (nc++cl) s1 (upd H2 s2.heap.objs.size (.lst [])) fp) ([]++zJ2 fp s5.heap) σ6 H7 s7->N bh H7→
     ∃m,m<n/\ ∃i σ' H' acc,Inv (zC3 X N' scope (nc++cl) s1 (upd H2 s2.heap.objs.size (.lst [])) fp) [] σ' H' s7/\σ'.take ix.length=caps ix σ/\tn i s7.heap/\(∀b∈fp,H' b=none)/\W i m acc H':=fun{H7 s7 bh} I7 n7=>by
    obtain⟨m',hm,w7⟩:=hN bh H7 n7
    refine⟨m',hm,i+1,σ6,H7,bh,I7.unpinned,hσ6,T.keep _ _ _ st5 fun b hb o e=>(I7.pin (b,o) (Ap _ (Ap _ (zEE hb e)))).1,fun b hb=> ?_,w7⟩
    obtain⟨o,e,d⟩:=T.obj _ _ st5 b hb
    exact(I7.pin (b,o) (Ap _ (Ap _ (zEE hb e)))).2.1
   refine B6 (bts _ s6 σ6 H6 _ I6 q6) (fun okb s7 ⟨H7,I7,q7⟩=> ?_) fun _ _ z=>z
   cases okb with
   | false => exact zHB I7 q7
   |true=>
    refine B6 (bel _ s7 σ6 H7 _ I7 q7) (fun v s8 ⟨y,H8,I8,r8,hD8,hz8,n8⟩=> ?_) fun _ _ z=>z
    refine B6 (zBD (X:=zC3 X N' scope (nc++cl) s1 (upd H2 s2.heap.objs.size (.lst [])) fp) _ s8 σ6 H8 (.ref s2.heap.objs.size) [y] (.ref s2.heap.objs.size) [v] (fun _ H9=>N (acc++[y]) H9) I8 rfl (.cons r8 .nil)
     ⟨s2.heap.objs.size,acc,y,rfl,rfl,hD8,hz8,n8⟩) (fun _ s9 ⟨_,H9,I9,_,n9⟩=>zHB I9 n9) fun _ _ z=>z
 have he:({newEnv scope s1.heap.objs.size X.env.globals (nc++cl) X.env.qual none .none (some X.env) builtinsNs with scope:=relabel scope X.env}:Env)=compEnvC scope (nc++cl) s1.heap.objs.size X.env:=rfl
 exact codeAny_compStart_list (loop _ rfl) (T.self _ 0 _ _ _ st1 (loop _ rfl))
theorem zQQ{X:Cx}{tg iter elt:Expr}{ifs:List Expr}{scope:Scope}{pos:Pos}{N':List Str}{ix:List Nat}{nl:Nat}{wi:TI}{g:TG}{tt:TT}{te:TE}
  (hc:X.calm=true) (S:zIK X N' ix scope) (hnl:N'.length=ix.length+nl) (hi:PI X tg iter wi)
  (blk: ∀(cl:List (Str×Addr)) (s1:A2) (H1:Hp) (fp:List Addr),Blk (zC3 X N' scope cl s1 H1 fp) tg ifs elt g tt te)
  (hs: ∀x,foldedSetIterable iter X.env x=pure x:=by intro _;rfl):PE X (.ListComp elt [⟨tg,iter,ifs,0⟩] scope pos) (zT3 ix nl wi g tt te):=by
 intro a5 s σ H Q I h
 rw[eval_ListComp]
 obtain⟨cl,e1,e2,e3⟩:=zPD (env:=X.env) (scope:=scope) fun y hy hf=>I.ok.has y.1 (S.free y hy hf)
 refine G0 (use:=none) (cl:=cl) rfl hs e1 S.kind S.names (B6 (hi a5 s σ H _ I h) (fun xv s₁ h₁=>B6 h₁ (fun itv s₂ h₂=> ?_) fun _ _ e=>e) fun _ _ e=>e)
 obtain⟨it,fp,tn,J,H2,e,I2,T,st2,f2,q⟩:=h₂
 subst e
 refine zHY (Q:=Q) (RR:=fun acc C=>compPost (model X.prog X.w) X.A X.xe none (EP X a5 σ Q) acc C) hc S hnl e2 e3 blk I2 T st2 f2 q ?_
 intro D C s' H' I' hm hC1 hC2 hb hq
 obtain⟨m,hm⟩:=hm
 exact⟨m,hm,fun h'' sb=>⟨.ref D,H',hb σ s' h'' I' sb,rfl,hq⟩⟩
section
variable{X:Cx}{K:A5}{ml:List Nat}{pi pt pe pu:Bool}{pos:Pos}{ix:List Nat}{nl:Nat}{f:VF}
noncomputable def zLU(N N':List Str)(ix:List Nat)(names:List (Str×NameKind))(k:Str->Option NameKind):Bool:=
 names.all (fun y=>y.2 != .cell || names.lookup y.1==some .cell) && (names.all (fun y=>y.2 != .local || names.lookup y.1==some .local) && (names.all (fun y=>y.2 != .free || (k y.1==some .cell || k y.1==some .free)) &&
  (decide N'.Nodup && ((Bv ix.length).all (fun j=>N'[j]? ==(ix[j]?).bind fun i=>N[i]?) && (N'.take ix.length).all fun x=>names.lookup x==some .free))))
theorem zF4{N':List Str}{scope:Scope}(hk:scope.kind= .function)(h:zLU X.N N' ix scope.names X.env.kindOf=true):zIK X N' ix scope:=by
 unfold zLU at h
 simp only[A1,B0,Fa,bne_iff_ne,beq_iff_eq,decide_eq_true_eq,Cm] at h
 obtain⟨h1,h2,h3,h4,h5,h6⟩:=h
 exact⟨hk,fun y hy e=>(h1 y hy).resolve_left fun z=>z e,fun y hy e=>(h2 y hy).resolve_left fun z=>z e,fun y hy e=>(h3 y hy).resolve_left fun z=>z e,h4,h5,h6⟩
abbrev BlkC(X:Cx)(K:A5)(N':List Str)(ix:List Nat)(scope:Scope)(tg:Expr)(ifs:List Expr)(elt:Expr)(gg:VG)(pt:Bool)(tb:VB)(pe:Bool)(fe:VF):Prop:=N'.Nodup-> ∀(cl:List (Str×Addr)) (s1:A2) (H1:Hp) (fp:List Addr),Blk (zC3 X N' scope cl s1 H1 fp) tg ifs elt (TGV K (Bv ix.length) gg) (TB K (Bv ix.length) pt tb) (TV K (Bv ix.length) pe true true fe)
theorem zBP{tg iter elt:Expr}{ifs:List Expr}{scope:Scope}{fi:VI}{gg:VG}{tb:VB}{fe:VF}(N':List Str)(ix:List Nat)(nl:Nat)(hi:PI X tg iter (TIV K ml pi fi))(blk:BlkC X K N' ix scope tg ifs elt gg pt tb pe fe)(hc:X.calm=true:=by rfl)(hk:scope.kind= .function:=by rfl)(hok:zLU X.N N' ix scope.names X.env.kindOf=true:=by rfl)(hnl:N'.length=ix.length+nl:=by rfl)(hnd:ix.Nodup:=by decide)
  (hs: ∀x,foldedSetIterable iter X.env x=pure x:=by intro _;rfl):PE X (.ListComp elt [⟨tg,iter,ifs,0⟩] scope pos) (TN K ml (pi && pt && pe) (zD7 ix nl fi gg tb fe)):=
 (zQQ hc (zF4 hk hok) hnl hi (blk (zF4 hk hok).nd) hs).imp fun _ _ _ h=>zN0 hnd h
theorem zQK{i:Nat}{y:Str}{py ev:Pos}{tg iter elt:Expr}{ifs:List Expr}{scope:Scope}{N':List Str}{wi:TI}{g:TG}{tt:TT}{te:TE}
  (hN:X.N.Nodup) (hi':X.N[i]? =some y) (hy:X.env.scope.names.lookup y=some .local)
  (hc:X.calm=true) (S:zIK X N' ix scope) (hnl:N'.length=ix.length+nl) (hi:PI X tg iter wi)
  (blk: ∀(cl:List (Str×Addr)) (s1:A2) (H1:Hp) (fp:List Addr),Blk (zC3 X N' scope cl s1 H1 fp) tg ifs elt g tt te)
  (hsw:F3 (.ListComp elt [⟨tg,iter,ifs,0⟩] scope pos) (some (.Name y py)) ev.line X.env=pure true:=by rfl)
  (hs: ∀x,foldedSetIterable iter X.env x=pure x:=by intro _;rfl):PS X (.Assign [.Name y py] (.ListComp elt [⟨tg,iter,ifs,0⟩] scope pos) ev) (tAsg (zT3 ix nl wi g tt te) (zR9 i)):=by
 intro a5 s σ H D I h
 rw[exec_Assign_Name_used _ _ _ _ hsw]
 refine A0 (E6 (A0 ?_))
 show wpAny _ X.A (do let _<- comprehension (.ListComp elt [⟨tg,iter,ifs,0⟩] scope pos) scope X.env _ (newList []) false (eval iter X.env) (some (assign (.Name y py) X.env))) _ _ s
 obtain⟨cl,e1,e2,e3⟩:=zPD (env:=X.env) (scope:=scope) fun y hy hf=>I.ok.has y.1 (S.free y hy hf)
 refine A0 (B6 (G0 (use:=some (assign (.Name y py) X.env)) (cl:=cl) (Q:=fun _ s'=>SP X a5 D .next s') rfl hs e1 S.kind S.names
  (B6 (hi a5 s σ H _ I h) (fun xv s₁ h₁=>B6 h₁ (fun itv s₂ h₂=> ?_) fun _ _ e=>e) fun _ _ e=>e)) (fun _ s' hq=>A8 (A8 hq)) fun _ _ e=>e)
 obtain⟨it,fp,tn,J,H2,e,I2,T,st2,f2,q⟩:=h₂
 subst e
 refine zHY (Q:=fun v H'=>D.nx (σ.set i (some v)) H') (RR:=fun acc C=>compPost (model X.prog X.w) X.A X.xe (some (assign (.Name y py) X.env)) (fun _ s'=>SP X a5 D .next s') acc C) hc S hnl e2 e3 blk I2 T st2 f2 q ?_
 intro Dl C s' H' I' hm hC1 hC2 hb hq
 obtain⟨m,hm⟩:=hm
 show wpAny _ X.A (assign (.Name y py) X.env (.ref Dl)) _ _ _
 refine Ek (zIO I' hN hi' (.inl hy) (v:= .ref Dl) rfl (fun s'' I'' ⟨a,hsb,ha⟩=> ?_) (.inr hy))
 have hCa:C≠a:=by
  rcases ha with z|z
  ·rw[z];exact hC1
  ·exact C2 (hC2 y a z)
 exact⟨m,hm.sameBut hsb hCa,fun h'' sb=>⟨_,H',hb _ s'' h'' I'' sb,hq⟩⟩
theorem zQ0{i:Nat}{y:Str}{py ev:Pos}{tg iter elt:Expr}{ifs:List Expr}{scope:Scope}{fi:VI}{gg:VG}{tb:VB}{fe:VF}(o:Bool)(hN:X.N.Nodup)(N':List Str)(ix:List Nat)(nl:Nat)(hi:PI X tg iter (TIV K ml pi fi))(blk:BlkC X K N' ix scope tg ifs elt gg pt tb pe fe)(hi':X.N[i]? =some y:=by rfl)(hy:X.env.scope.names.lookup y=some .local:=by rfl)
  (hc:X.calm=true:=by rfl) (hk:scope.kind= .function:=by rfl) (hok:zLU X.N N' ix scope.names X.env.kindOf=true:=by rfl) (hnl:N'.length=ix.length+nl:=by rfl) (hnd:ix.Nodup:=by decide) (hm:i∉ml:=by decide)
  (hsw:F3 (.ListComp elt [⟨tg,iter,ifs,0⟩] scope pos) (some (.Name y py)) ev.line X.env=pure true:=by rfl)
  (hs: ∀x,foldedSetIterable iter X.env x=pure x:=by intro _;rfl):PS X (.Assign [.Name y py] (.ListComp elt [⟨tg,iter,ifs,0⟩] scope pos) ev) (TSt K ml (sSet i (if o then xO (zD7 ix nl fi gg tb fe) else xV (zD7 ix nl fi gg tb fe)))):=
 (zQK hN hi' hy hc (zF4 hk hok) hnl hi (blk (zF4 hk hok).nd) hsw hs).imp fun D σ H h=>zVF (fun σ H Q z=>zN0 hnd (yA1 (pu:=pi && pt && pe) z)) hm h
end
section
variable{X:Cx}{K:A5}{ml:List Nat}{e a b c:Expr}{es:List Expr}{pa ta ia pb tb ib pc tc ic pu bt bi ps bs:Bool}{fa fb fc f:VF}{B B':Bs}{O:Nat->Option Addr}{H H1 H':Hp}{σ:St}{δ δ':Ev}{v:V}{d:Dat}{p:Addr}{pos:Pos}
def rSum(K:A5):RC:=fun xs H Q=> ∃(p:Addr) (ns:List Int),xs=[.ref p]/\SqL K H p (ns.map V.int)/\Q (.int ns.sum) H
theorem zPI(hc:X.calm=true):zC8 X (.builtin "sum") (rSum X.K):=by
 intro a5 s σ H xs us Q I r h
 obtain⟨l,ns,rfl,hq,q⟩:=h
 obtain⟨u,rfl,rx⟩:=zK5 r
 cases rx
 obtain⟨its,rv,pl,hz⟩:=I.list hq
 have hi:=zG1 rv
 obtain⟨xs,ex⟩:=hi.allInts.items
 have hns:ns=xs.toList.map (·.1):=by rw[<- hi.numsOf,<- nums_intItems,<- ex]
 have hl:=pl.isList
 rw[ex] at hl
 refine sum_intListG (I.ok.hd hc) hl fun h' tk t' hk=> ?_
 have e:preSum (numAt xs) xs.size=ns.sum:=by rw[preSum_eq,Be (by simp),hns]
 rw[e]
 exact⟨.int ns.sum,H,I.kept (t':=tk) hk,⟨_,rfl⟩,q⟩
theorem yC7(h:X.K=K)(hc:X.calm=true):zC8 X (.builtin "sum") (rSum K):=by subst h;exact zPI hc
noncomputable def oSum:Dat->Option Dat
 | .lst ds=>(zKP ds).map fun ns=> .int ns.sum
 |_=>none
theorem yAH:CalS K (rSum K) oSum:=by
 intro H N M x d c Q hx h k
 cases d with
 |lst ds=>
  have h:(zKP ds).map (fun ns=>Dat.int ns.sum)=some c:=h
  cases h1:zKP ds with
  |none=>rw[h1] at h;cases h
  |some ns=>
   rw[h1] at h
   cases h
   obtain⟨a,xs,rfl,sq,r⟩:=hx.lstE
   have e:=zLM r h1
   subst e
   exact⟨a,ns,rfl,sq,k _ fun _ _ _=> .int _⟩
 |_=>cases h
theorem zZC:Av "sum"=some (.builtin "sum"):=by decide+kernel
structure FunD(K:A5)(x qual:Str)(st:Stmt)(dV:Value)(f:Addr)(fd:By):Prop where
 ex: ∃(oc:Value) (od:Option Addr) (kV doc pm:Value) (an:Option Addr) (cdv ct:Value) (osl:Array (Option Value)),
  fd=Es x qual (zBW st) (zB3 st) (zA4 st) dV kV doc pm an cdv ct/\K.lookup f=some ⟨oc,od,.func fd,osl⟩/\Fn K cdv qual=true
 kp:Dr K (.ref f)=true
theorem zUG{x qual:Str}{st:Stmt}{dV:Value}{f:Addr}{oc:Value}{od an:Option Addr}{osl:Array (Option Value)}{kV doc pm cdv ct:Value}(l:K.lookup f=some ⟨oc,od,.func (Es x qual (zBW st) (zB3 st) (zA4 st) dV kV doc pm an cdv ct),osl⟩)
  (c:Fn K cdv qual=true) (k:Dr K (.ref f)=true):FunD K x qual st dV f (Es x qual (zBW st) (zB3 st) (zA4 st) dV kV doc pm an cdv ct):=⟨⟨oc,od,kV,doc,pm,an,cdv,ct,osl,rfl,l,c⟩,k⟩
theorem FunD.okV{P:Al}{w:World}{mg:Str->Option Value}{base:Heap}{x qual:Str}{st:Stmt}{dV:Value}{f:Addr}{fd:By}{N ps:List Str}{k:Nat}{g:VS}(F:FunD K x qual st dV f fd)(S:zAG N ps (zA4 st))(hps:ps.length<=N.length)
  (aj: ∀(cdv:Value) (A:Ba) (outer:List Env) (s:A2) (H:Hp) (E:XK),Room k (A.deeper (envOfC qual (zA4 st) s.heap.objs.size f cdv))→
   PSs (cxOf CX0 P w K mg base N qual (zA4 st) f cdv A outer s H E).nox (zB3 st) (TSt K ml g)):FnOk P w K mg base CX0 (k+1) f fd ps (spV K ml ps.length (runV N.length ml g)):=by
 obtain⟨oc,od,kV,doc,pm,an,cdv,ct,osl,rfl,lk,hcd⟩:=F.ex
 refine zUH lk hcd S (fun vs H Q E h=> ?_) fun A outer s H vs Q E hr hsp=>⟨_,(aj cdv A outer s H E hr).nox,zUP hps hsp⟩
 obtain⟨Z,ds,r,os,hn,AV,_⟩:=h
 rw[AV.len,hn]
theorem FunD.binds{x qual:Str}{st:Stmt}{T f:Addr}{fd:By}{ps:List Str}{o:Obj}{its:Array Value}{n m:Nat}{ds:List Value}(F:FunD K x qual st (.ref T) f fd)(ho:K.lookup T=some o)(hs:o.data= .seq its n)
  (h: ∀(kV doc pm:Value) (an:Option Addr) (cdv ct:Value) (us:List Value),us.length=m-> ∃k,bindArgs (Es x qual (zBW st) (zB3 st) (zA4 st) (.ref T) kV doc pm an cdv ct) ⟨us,[]⟩=seqItems? (.ref T)>>=k/\k (some its)=pure (ps.zip (us++ds)))
  (hm:m+ds.length=ps.length:=by rfl):zG9 K fd ps ds:=by
 obtain⟨oc,od,kV,doc,pm,an,cdv,ct,osl,rfl,lk,hcd⟩:=F.ex
 intro s us hK hl
 obtain⟨k,h1,h2⟩:=h kV doc pm an cdv ct us (by rw[Bu] at hl;omega)
 exact BindsTo.of_defaults rfl (hK _ _ ho) hs h1 h2
structure DefD(P:Al)(w:World)(K:A5)(mg:Str->Option Value)(base:Heap)(x:Str)(k:Nat)(ps:List Str)(sp:Sp)(f:Addr)(v0:V):Prop where
 at_:mg x=some (.ref f)
 ok: ∃fd u0,FnOk P w K mg base CX0 k f fd ps sp/\zG9 K fd ps [u0]/\RelV v0 u0
 kp:Dr K (.ref f)=true
noncomputable def dflt(F:VFun)(d:Dat):VFun:=fun ds=>F (ds++[d])
theorem zQC{mF:List Nat}{m:Nat}{F:VFun}{vs:List V}{Q:VK}{E:XK}(hv: ∀N H M,Rep K N H M v d)(hn: ∀a,v≠ .ref a)(h:spV K mF m (dflt F d) vs H Q E):spV K mF (m+1) F (vs++[v]) H Q E:=by
 obtain⟨Z,ds,r,os,hl,A,hF,k⟩:=h
 have eo: ∀(i:Nat) (a:Addr),(vs++[v])[i]? =some (.ref a)->vs[i]? =some (.ref a):=fun i a h=>by
  by_cases hi:i<vs.length
  ·rwa[A7 hi] at h
  ·rw [Ai (by omega)] at h
   cases hj:i - vs.length with
   |zero=>rw[hj] at h;cases h;exact absurd rfl (hn a)
   |succ j=>rw[hj] at h;simp at h
 have i3: ∀(i:Nat) (u:V),vs[i]? =some u->(vs++[v])[i]? =some u:=fun i u h=>by
  rw[A7 (A6.mp h).1]
  exact h
 have hP: ∀a,argP mF (vs++[v]) a->argP mF vs a:=fun a ⟨i,hi,e⟩=>⟨i,hi,eo i a e⟩
 have hP': ∀a,argP mF vs a->argP mF (vs++[v]) a:=fun a ⟨i,hi,e⟩=>⟨i,hi,i3 i _ e⟩
 have hZ: ∀a,Zp Z mF (vs++[v]) a->Zp Z mF vs a:=fun a h=>h.imp id (hP a)
 have hZ': ∀a,Zp Z mF vs a->Zp Z mF (vs++[v]) a:=fun a h=>h.imp id (hP' a)
 refine⟨Z,ds++[d],r,os,by simp[hl],⟨by simp[A.len],fun i hi=> ?_,fun i x hi e=> ?_,fun i x hi e=> ?_,fun i j a hi hj e1 e2=>A.inj i j a hi hj (eo i a e1) (eo j a e2),A.zin⟩,hF,fun u H' f w rr=>k u H' (f.mono hP) (fun kk i a o e1 e2 e3=>(w kk i a o e1 (i3 i _ e2) e3).mono hZ') (rr.mono hZ' hZ')⟩
 ·have:=A.mem i hi
  simp
  omega
 ·by_cases hi':i<ds.length
  ·rw[A7 hi'] at e
   obtain⟨u,e1,r1⟩:=A.va i x hi e
   exact⟨u,i3 i u e1,r1.mono hZ hZ⟩
  ·rw [Ai (by omega)] at e
   cases hj:i - ds.length with
   |zero=>
    rw[hj] at e
    cases e
    have:i=vs.length:=by have:=A.len;omega
    subst this
    exact⟨v,by rw[Ai (by omega)];simp,hv _ _ _⟩
   |succ j=>rw[hj] at e;simp at e
 ·have hi':=A.mem i hi
  rw[A7 hi'] at e
  obtain⟨u,e1,w1,z1⟩:=A.ow i x hi e
  exact⟨u,i3 i _ e1,w1.mono hZ,z1⟩
theorem zQ5{x:Str}{kk j m:Nat}{qs:List Str}{mF:List Nat}{F:VFun}{ff:Addr}{p':Pos}{fs:VFg}(hK:X.K=K)(D:DefD X.prog X.w K X.mg X.base x kk qs (spV K mF (m+1) F) ff v)(hv: ∀N H M,Rep K N H M v d)(hn: ∀a,v≠ .ref a)(hr:Room j X.A)(hk:kk<=j)(hg:Gl X x)(ha:PA X (e::es) (TAG K ml ps fs))(hdb:(x==("__debug__":Str))=false:=by decide)
  (he:starEach (e::es) X.env=(false,eval e X.env)::starEach es X.env:=by rfl) (hpl:(Cj pos (starEach es X.env)).any (·.1)=false:=by rfl):
  PE X (.Call (.Name x p') (e::es) [] pos) (TV K ml (ps && mF.isEmpty) true true (zAE m mF (dflt F d) fs)):=by
 subst hK
 obtain⟨fd,u0,F',Bd,hd⟩:=D.ok
 refine(zO2 F' (hr.mono hk) hg D.at_ D.kp Bd (.cons hd .nil) zTR ha hdb he hpl).imp fun σ H Q h=> ?_
 obtain⟨B,O,δ,as,δ',S,q,k⟩:=zGN h
 exact⟨B,O,δ,as,δ',S,q,fun vs H' R=>zQC hv hn (by have z:spV X.K mF m (dflt F d) (vs++[]) H' Q E0:=k vs H' R;rwa[Bp] at z)⟩
noncomputable def zNB:List (Str×VFun)->Str->Option VFun
 |[],_=>none
 |(y,F)::r,x=>if y=x then some F else zNB r x
def zRG(X:Cx)(K:A5)(mF:List Nat)(n:Nat)(tb:List (Str×VFun)):Prop:= ∀x F a,zNB tb x=some F->Dy K mainGlobals x=some (some (.ref a))->FnAt X a (spV K mF n F)
theorem zT1{mF:List Nat}{n:Nat}:zRG X K mF n []:=fun _ _ _ h=>nomatch h
theorem zDL{x:Str}{kk j n:Nat}{qs:List Str}{mF:List Nat}{F:VFun}{ff:Addr}{tb:List (Str×VFun)}(hK:X.K=K)(hm: ∀x a,Dy K mainGlobals x=some (some (.ref a))->X.mg x=some (.ref a))(hr:Room j X.A)
  (D:Def X.prog X.w K X.mg X.base x kk qs (spV K mF n F) ff) (hk:kk<=j) (t:zRG X K mF n tb):zRG X K mF n ((x,F)::tb):=fun y G a h1 h2=>by
 unfold zNB at h1
 split at h1
 ·rename_i hxy
  subst hxy
  cases h1
  have e:=(hm x a h2).symm.trans D.at_
  cases e
  subst hK
  exact D.fnAt hr hk
 ·exact t y G a h1 h2
noncomputable def zOZ(n:Nat)(mF:List Nat)(tb:List (Str×VFun))(i:Nat)(fs:VFg):VF:=fun δ=>match δ[i]? with
 |some (.va (.fn x))=>(zNB tb x).bind fun F=>zAE n mF F fs δ
 |_=>none
theorem zQ3{y:Str}{i n:Nat}{mF:List Nat}{tb:List (Str×VFun)}{p':Pos}{fs:VFg}(ht:zRG X K mF n tb)(hf:PE X (.Name y p') (tVar i))(ha:PA X (e::es) (TAG K ml ps fs))
  (he : starEach (e :: es) X.env = (false,eval e X.env) :: starEach es X.env := by rfl) (hpl : (Cj pos (starEach es X.env)).any (·.1) = false := by rfl) :
  PE X (.Call (.Name y p') (e::es) [] pos) (TV K ml (ps && mF.isEmpty) true true (zOZ n mF tb i fs)):=(zQT hf ha he hpl).imp fun σ H Q h=>by
 obtain⟨B,O,δ,d,δ',S,q,k⟩:=h
 unfold zOZ at q
 split at q
 ·rename_i x hx
  cases hF:zNB tb x with
  | none => rw [hF] at q;cases q
  |some F=>
   rw[hF] at q
   obtain⟨v,e1,r⟩:=S.va i _ hx
   cases r with
   |fn h=>
    refine⟨_,e1,_,_,rfl,ht x F _ hF h,?_⟩
    obtain⟨B,O,δ,as,δ',S,q,k⟩:=zGN (F:=F) (fs:=fs) (K:=K) (ml:=ml) (ps:=ps) (n:=n) (mF:=mF) (σ:=σ) (H:=H) (Q:=Q) ⟨B,O,δ,d,δ',S,q,k⟩
    exact⟨B,O,δ,as,δ',S,q,fun vs H' R=>by have z:spV K mF n F (vs++[]) H' Q E0:=k vs H' R;rwa[Bp] at z⟩
 ·cases q
end
section
variable{X:Cx}{K:A5}{ml:List Nat}{e a b c:Expr}{es:List Expr}{pa ta ia pb tb ib pc tc ic pu bt bi ps bs:Bool}{fa fb fc f:VF}{B B':Bs}{O:Nat->Option Addr}{H H1 H':Hp}{σ:St}{δ δ':Ev}{v:V}{d:Dat}{p:Addr}{pos:Pos}
noncomputable def insD(i:Nat)(F:VFun):VFun:=fun ds=>(F (ds.take i++ .dct [] []::ds.drop i)).map fun q=>(q.1,q.2.dropLast)
theorem Own.away{N N':Addr->Prop}{q:Addr}{o:HO}(hp:H p=none)(hN: ∀a,N' a->N a∨a=p)(w:Own K N H q d):Own K N' (upd H p o) q d:=by
 cases w with
 |lst q r=>exact .lst (zA9 hp _ _ q) ((r.away hp _ _ hN).same (zA9 hp))
 |dct q r=>exact .dct (zA9 hp _ _ q) ((r.away hp _ _ hN).same (zA9 hp))
theorem zT5{mF:List Nat}{i:Nat}{F:VFun}{vs1:List V}{Q:VK}{E:XK}(hm: ∀j∈mF,j<i)(hp:H p=none)(h:spV K mF (i+1) (insD i F) (vs1++[v]) H Q E):spV K (mF++[i]) (i+2) F (vs1++[.ref p,v]) (upd H p (.dK [])) Q E:=by
 obtain⟨Z,ds,r,os,hl,A,hF,k⟩:=h
 obtain⟨ds1,d,rfl⟩: ∃ds1 d,ds=ds1++[d]:=⟨ds.dropLast,ds.getLast (fun z=>by rw[z] at hl;cases hl),(List.dropLast_concat_getLast _).symm⟩
 have hd1:ds1.length=i:=by simpa using hl
 have hv1:vs1.length=i:=by have:=A.len;simp at this;omega
 unfold insD at hF
 rw[K3 hd1,List.drop_left' hd1] at hF
 cases h0:F (ds1++ .dct [] []::[d]) with
 | none => rw [h0] at hF;cases hF
 |some z=>
  obtain⟨r',os0⟩:=z
  rw[h0] at hF
  cases hF
  have lo: ∀(j:Nat),j<i->(vs1++[.ref p,v])[j]? =(vs1++[v])[j]? :=fun j hj=>by rw[A7 (by omega),A7 (by omega)]
  have at1:(vs1++[.ref p,v])[i]? =some (.ref p):=by rw[Ai (by omega),hv1,Hd];rfl
  have at2:(vs1++[.ref p,v])[i+1]? =some v:=by rw[Ai (by omega),hv1,show i+1 - i=1 by omega];rfl
  have at3:(vs1++[v])[i]? =some v:=by rw[Ai (by omega),hv1,Hd];rfl
  have dlo: ∀(j:Nat),j<i->(ds1++ .dct [] []::[d])[j]? =(ds1++[d])[j]? :=fun j hj=>by rw[A7 (by omega),A7 (by omega)]
  have dt1:(ds1++ .dct [] []::[d])[i]? =some (.dct [] []):=by rw[Ai (by omega),hd1,Hd];rfl
  have dt2:(ds1++ .dct [] []::[d])[i+1]? =some d:=by rw[Ai (by omega),hd1,show i+1 - i=1 by omega];rfl
  have dt3:(ds1++[d])[i]? =some d:=by rw[Ai (by omega),hd1,Hd];rfl
  have hP: ∀a,argP (mF++[i]) (vs1++[.ref p,v]) a->argP mF (vs1++[v]) a∨a=p:=fun a q0=>by
   obtain⟨j,hj,e⟩:=q0
   rcases Bg.mp hj with hj|hj
   ·exact .inl ⟨j,hj,by rw [<- lo j (hm j hj)];exact e⟩
   ·rw[Af.mp hj,at1] at e
    cases e
    exact .inr rfl
  have hP': ∀a,argP mF (vs1++[v]) a->argP (mF++[i]) (vs1++[.ref p,v]) a:=fun a ⟨j,hj,e⟩=>⟨j,Ar _ hj,by rw[lo j (hm j hj)];exact e⟩
  have hZ: ∀a,Zp Z (mF++[i]) (vs1++[.ref p,v]) a->Zp Z mF (vs1++[v]) a∨a=p:=fun a h=>by
   rcases h with h|h
   ·exact .inl (.inl h)
   ·exact(hP a h).imp .inr id
  have hZ': ∀a,Zp Z mF (vs1++[v]) a->Zp Z (mF++[i]) (vs1++[.ref p,v]) a:=fun a h=>h.imp id (hP' a)
  have up: ∀{u:V} {x:Dat},Rep K (Zp Z mF (vs1++[v])) H (Zp Z mF (vs1++[v])) u x->Rep K (Zp Z (mF++[i]) (vs1++[.ref p,v])) (upd H p (.dK [])) (Zp Z (mF++[i]) (vs1++[.ref p,v])) u x:=fun r=>(r.away hp _ _ hZ hZ).same (zA9 hp)
  have nop: ∀{j:Nat},j∈mF->(vs1++[v])[j]? ≠some (.ref p):=fun{j} hj e=>by
   have hj':=A.mem j hj
   obtain⟨a,e1,w,_⟩:=A.ow j ((ds1++[d])[j]'hj') hj (by simp)
   rw[e] at e1
   cases e1
   obtain⟨o,q,_⟩:=w.soft
   rw[hp] at q
   cases q
  refine⟨Z,ds1++ .dct [] []::[d],_,os0,by simp[hd1],⟨by simp;omega,fun j hj=> ?_,fun j x hj e=> ?_,fun j x hj e=> ?_,fun j1 j2 a h1 h2 e1 e2=> ?_,fun a h=>let ⟨o,q⟩:=A.zin a h;⟨o,zA9 hp _ _ q⟩⟩,h0,fun u H' f w rr=>k u H' (fun b o hb hc=>f b o (zA9 hp _ _ hb) fun z=> ?_) (fun kk j a o e1 e2 e3=> ?_) (rr.mono hZ' hZ')⟩
  ·rcases Bg.mp hj with hj|hj
   ·have:=hm j hj
    simp
    omega
   ·rw[Af.mp hj]
    simp
    omega
  ·have hjm : j ∉ mF := fun z => hj (Ar _ z)
   have hji:j≠i:=fun z=>hj (Ap _ (Af.mpr z))
   by_cases h1:j<i
   ·rw[dlo j h1] at e
    obtain⟨u,e1,r1⟩:=A.va j x hjm e
    exact⟨u,by rw[lo j h1];exact e1,up r1⟩
   ·have hjj:j=i+1:=by
     have:=(A6.mp e).1
     simp at this
     omega
    subst hjj
    rw[dt2] at e
    cases e
    obtain⟨u,e1,r1⟩:=A.va i d (fun z=>absurd (hm i z) (Bt _)) dt3
    rw[at3] at e1
    cases e1
    exact⟨v,at2,up r1⟩
  ·rcases Bg.mp hj with hj|hj
   ·rw[dlo j (hm j hj)] at e
    obtain⟨u,e1,w1,z1⟩:=A.ow j x hj e
    exact⟨u,by rw[lo j (hm j hj)];exact e1,w1.away hp hZ,z1⟩
   ·have:=Af.mp hj
    subst this
    rw[dt1] at e
    cases e
    exact⟨p,at1,.dct (kvs:=[]) zAR .nil,fun z=>by
     obtain⟨o,q⟩:=A.zin p z
     rw[hp] at q
     cases q⟩
  ·rcases Bg.mp h1 with h1|h1
   ·rw[lo j1 (hm j1 h1)] at e1
    rcases Bg.mp h2 with h2|h2
    ·rw[lo j2 (hm j2 h2)] at e2
     exact A.inj j1 j2 a h1 h2 e1 e2
    ·rw[Af.mp h2,at1] at e2
     cases e2
     exact absurd e1 (nop h1)
   ·rcases Bg.mp h2 with h2|h2
    ·rw[lo j2 (hm j2 h2)] at e2
     rw[Af.mp h1,at1] at e1
     cases e1
     exact absurd e2 (nop h2)
    ·rw[Af.mp h1,Af.mp h2]
  ·rcases hP b z with z|z
   ·exact hc z
   ·rw[z,hp] at hb
    cases hb
  ·refine(w kk j a o ?_ ?_ ?_).mono hZ'
   ·rw[A7 (A6.mp e1).1]
    exact e1
   ·rw[lo j (hm j (Ck e1))]
    exact e2
   ·rw[List.getElem?_dropLast] at e3
    split at e3
    ·exact e3
    ·cases e3
def TAGE(K:A5)(ml:List Nat)(pu:Bool)(f:VFg):TA:=fun σ H Q=> ∃B O δ as δ',Sta K ml B O H σ δ/\f δ=some (as,δ')/\ ∀vs H',ResG K ml B O H σ pu H' δ' vs as-> ∀vs1 v,vs=vs1++[v]-> ∀p,H' p=none->Q (vs1++[.ref p,v]) (upd H' p (.dK []))
theorem zSV{j:Nat}{j6:Pos}(hb:PE X b (tVar j))(hs:starEach (.Dict [] [] j6::b::[]) X.env=(false,eval (.Dict [] [] j6) X.env)::starEach (b::[]) X.env:=by rfl)(hs2:starEach (b::[]) X.env=(false,eval b X.env)::starEach [] X.env:=by rfl):
  PA X [.Dict [] [] j6,b] (TAGE K ml true (aE (fV j) aNil)):=(zB1 zQO (zB1 hb zCU hs2) hs).imp fun σ H Q ⟨B,O,δ,as,δ2,S,q,k⟩=>by
 unfold aE at q
 cases h1:fV j δ with
 | none => rw [h1] at q;cases q
 |some z=>
  rw[h1] at q
  cases q
  unfold fV at h1
  split at h1
  ·rename_i d hd
   cases h1
   intro p hp
   obtain⟨v,e,r⟩:=S.va j _ hd
   exact⟨v,e,k [v] H ⟨S,Fr.refl _ _,fun _=>Same.refl _,.d r .nil⟩ [] v rfl p hp⟩
  ·cases h1
theorem zZX{fs:VFg}(ha:PE X a (TV K ml pa true true fa))(hr:PA X es (TAGE K ml ps fs))(hs:starEach (a::es) X.env=(false,eval a X.env)::starEach es X.env:=by rfl):PA X (a::es) (TAGE K ml (pa && ps) (aE fa fs)):=(zB1 ha hr hs).imp fun σ H Q q0=>by
 obtain⟨B,O,δ,as,δ2,S,q,k⟩:=q0
 unfold aE at q
 cases h1:fa δ with
 | none => rw [h1] at q;cases q
 |some p=>
  obtain⟨x,δ1⟩:=p
  rw[h1] at q
  have q:((fs δ1).map fun q=>(AV.d x::q.1,q.2))=some (as,δ2):=q
  cases h2:fs δ1 with
  |none=>rw[h2] at q;cases q
  |some p2=>
   rw[h2] at q
   cases q
   refine⟨B,O,δ,x,δ1,S,h1,fun v1 H1 R1=>⟨B,O,δ1,_,_,R1.sta,h2,fun vs H2 R2 vs1 v hv p hp=>k (v1::vs) H2 ⟨R2.sta,R1.frm.trans R2.frm,fun z=> ?_,.d (R1.rep.fr R2.frm (fun a z=> .inr z) fun a z=> .inr z) R2.rep⟩ (v1::vs1) v (by rw[hv];rfl) p hp⟩⟩
   obtain⟨z1,z2⟩:=(A1 _ _).mp z
   exact(R1.pur z1).trans (R2.pur z2)
theorem zZW{fs:VFg}{j:Nat}(ha:PE X a (tVar j))(hr:PA X es (TAGE K ml ps fs))(hs:starEach (a::es) X.env=(false,eval a X.env)::starEach es X.env:=by rfl):PA X (a::es) (TAGE K ml ps (aO j fs)):=(zB1 ha hr hs).imp fun σ H Q q0=>by
 obtain⟨B,O,δ,as,δ2,S,q,k⟩:=q0
 unfold aO at q
 cases h1:slot δ j with
 | none => rw [h1] at q;cases q
 |some d=>
  rw[h1] at q
  have q:((fs δ).map fun q=>(AV.o j::q.1,q.2))=some (as,δ2):=q
  cases h2:fs δ with
  |none=>rw[h2] at q;cases q
  |some p2=>
   rw[h2] at q
   cases q
   obtain⟨v,e⟩:=S.slot h1
   exact⟨v,e,B,O,δ,_,_,S,h2,fun vs H2 R2 vs1 u hv p hp=>k (v::vs) H2 ⟨R2.sta,R2.frm,R2.pur,.o e R2.rep⟩ (v::vs1) u (by rw[hv];rfl) p hp⟩
noncomputable def aIf(t:VB)(i j:Nat)(fs:VFg):VFg:=fun δ=>(t δ).bind fun p=>if p.1=true then aO i fs p.2 else aO j fs p.2
theorem zSK{fs:VFg}{j:Nat}{as:List AV}(q:aO j fs δ=some (as,δ')): ∃d as',slot δ j=some d/\fs δ=some (as',δ')/\as= .o j::as':=by
 unfold aO at q
 cases h1:slot δ j with
 | none => rw [h1] at q;cases q
 |some d=>
  rw[h1] at q
  have q:((fs δ).map fun q=>(AV.o j::q.1,q.2))=some (as,δ'):=q
  cases h2:fs δ with
  |none=>rw[h2] at q;cases q
  |some p2=>
   rw[h2] at q
   cases q
   exact⟨d,_,rfl,rfl,rfl⟩
theorem zV4{t:VB}{fs:VFg}{i j:Nat}{iq:Pos}(ht:PT X c (TB K ml pc t))(ha:PE X a (tVar i))(hb:PE X b (tVar j))(hr:PA X es (TAGE K ml ps fs))(hs:starEach (.IfExp c a b iq::es) X.env=(false,eval (.IfExp c a b iq) X.env)::starEach es X.env:=by rfl):
  PA X (.IfExp c a b iq::es) (TAGE K ml (pc && ps) (aIf t i j fs)):=(zB1 (zI6 ht ha hb) hr hs).imp fun σ H Q ⟨B,O,δ,as,δ2,S,q,k⟩=>by
 unfold aIf at q
 cases h1:t δ with
 | none => rw [h1] at q;cases q
 |some z=>
  obtain⟨kk,δ1⟩:=z
  rw[h1] at q
  have q:(if kk=true then aO i fs δ1 else aO j fs δ1)=some (as,δ2):=q
  refine⟨B,O,δ,kk,δ1,S,h1,fun H1 R1=> ?_⟩
  cases kk with
  |true=>
   obtain⟨d,as',e1,e2,rfl⟩:=zSK q
   obtain⟨v,e⟩:=R1.sta.slot e1
   exact iteT ⟨v,e,B,O,δ1,_,_,R1.sta,e2,fun vs H2 R2 vs1 u hv p hp=>k (v::vs) H2 ⟨R2.sta,R1.frm.trans R2.frm,fun z=>by
    obtain⟨z1,z2⟩:=(A1 _ _).mp z
    exact(R1.pur z1).trans (R2.pur z2),.o e R2.rep⟩ (v::vs1) u (by rw[hv];rfl) p hp⟩
  |false=>
   obtain⟨d,as',e1,e2,rfl⟩:=zSK q
   obtain⟨v,e⟩:=R1.sta.slot e1
   exact iteF ⟨v,e,B,O,δ1,_,_,R1.sta,e2,fun vs H2 R2 vs1 u hv p hp=>k (v::vs) H2 ⟨R2.sta,R1.frm.trans R2.frm,fun z=>by
    obtain⟨z1,z2⟩:=(A1 _ _).mp z
    exact(R1.pur z1).trans (R2.pur z2),.o e R2.rep⟩ (v::vs1) u (by rw[hv];rfl) p hp⟩
theorem zQ4{x:Str}{kk j i:Nat}{qs:List Str}{mF:List Nat}{F:VFun}{ff:Addr}{p':Pos}{fs:VFg}(hK:X.K=K)(D:Def X.prog X.w K X.mg X.base x kk qs (spV K (mF++[i]) (i+2) F) ff)(hm: ∀j∈mF,j<i)(hr:Room j X.A)(hk:kk<=j)(hg:Gl X x)(ha:PA X (e::es) (TAGE K ml ps fs))(hdb:(x==("__debug__":Str))=false:=by decide)
  (he:starEach (e::es) X.env=(false,eval e X.env)::starEach es X.env:=by rfl) (hpl:(Cj pos (starEach es X.env)).any (·.1)=false:=by rfl):
  PE X (.Call (.Name x p') (e::es) [] pos) (TV K ml (ps && mF.isEmpty) true true (zAE (i+1) mF (insD i F) fs)):=by
 subst hK
 refine(zLC D hr hk hg ha hdb he hpl).imp fun σ H Q h=> ?_
 obtain⟨B,O,δ,as,δ',S,q,k⟩:=zGN h
 refine⟨B,O,δ,as,δ',S,q,fun vs H' R vs1 v hv p hp=> ?_⟩
 subst hv
 have z:spV X.K mF (i+1) (insD i F) ((vs1++[v])++[]) H' Q E0:=k _ H' R
 show spV X.K (mF++[i]) (i+2) F ((vs1++[.ref p,v])++[]) (upd H' p (.dK [])) Q E0
 rw[Bp] at z⊢
 exact zT5 hm hp z
end
section
variable{X:Cx}{K:A5}{ml:List Nat}{e a b c:Expr}{es:List Expr}{pa ta ia pb tb ib pc tc ic pu bt bi ps bs:Bool}{fa fb fc f:VF}{pos p':Pos}{d:Dat}{x:Str}
theorem vv(i:Nat)(hN:X.N[i]? =some x:=by rfl)(hv:Vis X.env.scope x:=by first|exact Gf rfl|exact Hq (Gf rfl)|exact Hq (Hq rfl))(hd:(x==("__debug__":Str))=false:=by decide)
  (hcd:(x==("__classdict__":Str))=false:=by decide):PE X (.Name x pos) (TV K ml true true true (fV i)):=zV5 (zO0 hN hv hd hcd)
theorem vo(i:Nat)(hN:X.N[i]? =some x:=by rfl)(hv:Vis X.env.scope x:=by first|exact Gf rfl|exact Hq (Gf rfl)|exact Hq (Hq rfl))(hd:(x==("__debug__":Str))=false:=by decide)
  (hcd:(x==("__classdict__":Str))=false:=by decide):PE X (.Name x pos) (TV K ml true false true (fO i)):=zV6 (zO0 hN hv hd hcd)
theorem vix(hu:X.A.units+1<cLine)(ha:PE X a (TV K ml pa ta ia fa))(hb:PE X b (TV K ml pb tb ib fb))(hK:X.K=K:=by rfl)(hx:zKW b:=by exact fun _ _=>rfl)(hs:(pb || (ta && ia))=true:=by rfl):PE X (.Subscript a b pos) (TV K ml (pa && pb) ia ia (f2 oIxA fa fb)):=
 zZY (kIxA hK hu) yCD ha hb hx hs
theorem veq(hu:X.A.units+64<cLine)(ha:PE X a (TV K ml pa ta ia fa))(hb:PE X b (TV K ml pb tb ib fb))(hK:X.K=K:=by rfl)(hs:(pb || (ta && ia))=true:=by rfl):PE X (.Compare a [.Eq] [b] pos) (TV K ml (pa && pb) true true (f2 oEq fa fb)):=
 zHF (kEqD hK hu) s_eq ha hb (zBC _) hs
theorem vteq(hu:X.A.units+64<cLine)(ha:PE X a (TV K ml pa ta ia fa))(hb:PE X b (TV K ml pb tb ib fb))(hK:X.K=K:=by rfl)(hs:(pb || (ta && ia))=true:=by rfl):PT X (.Compare a [.Eq] [b] pos) (TB K ml (pa && pb) (fB (f2 oEq fa fb))):=
 zB4 (kEqD hK hu) s_eq ha hb (zBC _) hs
theorem vcal{kk j n:Nat}{qs:List Str}{mF:List Nat}{F:VFun}{ff:Addr}{fs:VFg}(D:Def X.prog X.w K X.mg X.base x kk qs (spV K mF n F) ff)(hr:Room j X.A)(ha:PA X (e::es) (TAG K ml ps fs))(hK:X.K=K:=by rfl)(hk:kk<=j:=by decide)(hg:Gl X x:=by rfl)(hdb:(x==("__debug__":Str))=false:=by decide)
  (he:starEach (e::es) X.env=(false,eval e X.env)::starEach es X.env:=by rfl) (hpl:(Cj pos (starEach es X.env)).any (·.1)=false:=by rfl):
  PE X (.Call (.Name x p') (e::es) [] pos) (TV K ml (ps && mF.isEmpty) true true (zAE n mF F fs)):=zSX hK D hr hk hg ha hdb he hpl
theorem vlen(hm:X.mg "len"=none) (ha:PE X a (TV K ml pa ta ia fa)) (hK:X.K=K:=by rfl) (hg:Gl X "len":=by rfl) (he:starEach (a::[]) X.env=(false,eval a X.env)::starEach [] X.env:=by rfl):PE X (.Call (.Name "len" p') [a] [] pos) (TV K ml pa true true (f1 oLen fa)):=
 zK4 (yC9 hK) yAK hg hm zZD ha (by decide) (by decide) he
theorem vty{n:String}(hm:X.mg x=none)(hv:Av x=some (.type n))(hg:Gl X x:=by rfl)(hn:x≠ "__name__":=by decide) (hd:(x==("__debug__":Str))=false:=by decide):PE X (.Name x pos) (TV K ml true true true (fC (.ty n))):=
 ve_c (zTQ (v:= .ty n) hg hm hv rfl hn hd) fun _ _ _=> .ty _
theorem visi(hm:X.mg "isinstance"=none) (ha:PE X a (TV K ml pa ta ia fa)) (hb:PE X b (TV K ml pb tb ib fb)) (hK:X.K=K:=by rfl) (hg:Gl X "isinstance":=by rfl)
  (he:starEach (a::[b]) X.env=(false,eval a X.env)::starEach [b] X.env:=by rfl) (he2:starEach (b::[]) X.env=(false,eval b X.env)::starEach [] X.env:=by rfl) (hpl:(Cj pos (starEach [b] X.env)).any (·.1)=false:=by rfl) (hs:(pb || (ta && ia))=true:=by rfl):
  PE X (.Call (.Name "isinstance" p') [a,b] [] pos) (TV K ml (pa && pb) true true (f2 oIsi fa fb)):=zDB (kIsi hK) yAL hg hm zAQ ha hb (by decide) (by decide) he he2 hpl hs
end
def A4(K:A5)(x:Str)(st:Stmt)(f:Addr):Prop:= ∃(oc:Value) (od:Option Addr) (kV doc pm:Value) (an:Option Addr) (cdv ct:Value) (osl:Array (Option Value)),Dy K mainGlobals x=some (some (.ref f))∧
 K.lookup f=some ⟨oc,od,.func (Es x x (zBW st) (zB3 st) (zA4 st) .none kV doc pm an cdv ct),osl⟩/\Fn K cdv x=true/\Dr K (.ref f)=true
theorem a4{K:A5}{x:Str}{st:Stmt}{f:Addr}{oc:Value}{od:Option Addr}{kV doc pm:Value}{an:Option Addr}{cdv ct:Value}{osl:Array (Option Value)}(a:Dy K mainGlobals x=some (some (.ref f)))
  (b:K.lookup f=some ⟨oc,od,.func (Es x x (zBW st) (zB3 st) (zA4 st) .none kV doc pm an cdv ct),osl⟩) (c:Fn K cdv x=true) (d:Dr K (.ref f)=true):A4 K x st f:=⟨oc,od,kV,doc,pm,an,cdv,ct,osl,a,b,c,d⟩
theorem A4.ns{K:A5}{x:Str}{st:Stmt}{f:Addr}(p:A4 K x st f):Dy K mainGlobals x=some (some (.ref f)):=by
 obtain⟨_,_,_,_,_,_,_,_,_,a,_⟩:=p
 exact a
theorem mkDf{P:Al}{w:World}{K:A5}{mg:Str->Option Value}{base h:Heap}{x:Str}{st:Stmt}{f:Addr}{ps:List Str}{sp:Sp}{k:Nat}(X:K.In h)(G:h.Ns mainGlobals mg)(p:A4 K x st f)(ok: ∀{fd:By},Fun K x x st f fd->FnOk P w K mg base CX0 k f fd ps sp)
  (hb: ∀{kV doc pm:Value} {an:Option Addr} {cdv ct:Value} (us:List Value),us.length=ps.length->bindArgs (Es x x (zBW st) (zB3 st) (zA4 st) .none kV doc pm an cdv ct) ⟨us,[]⟩=pure (ps.zip us)):Def P w K mg base x k ps sp f:=by
 obtain⟨oc,od,kV,doc,pm,an,cdv,ct,osl,a,b,c,d⟩:=p
 have U:=zLO (st:=st) b c d
 exact⟨Bx X G a,⟨_,ok U,U.binds fun _ _ _ _ _ _=>hb⟩,d⟩
theorem okW(P:Al)(w:World)(K:A5)(mg:Str->Option Value)(base:Heap){x qual:Str}{st:Stmt}{f:Addr}{fd:By}(N ps:List Str)(k:Nat)(g:VS)(ml:List Nat)(F:Fun K x qual st f fd)(S:zAG N ps (zA4 st))
  (aj: ∀(cdv:Value) (A:Ba) (outer:List Env) (s:A2) (H:Hp) (E:XK) (hr:Room k (A.deeper (envOfC qual (zA4 st) s.heap.objs.size f cdv))) (_:(A.deeper (envOfC qual (zA4 st) s.heap.objs.size f cdv)).units+64<cLine) (_:(A.deeper (envOfC qual (zA4 st) s.heap.objs.size f cdv)).units+1<cLine),
   PSs (cxOf CX0 P w K mg base N qual (zA4 st) f cdv A outer s H E).nox (zB3 st) (TSt K ml g)) (hps:ps.length<=N.length:=by decide):FnOk P w K mg base CX0 (k+1) f fd ps (spV K ml ps.length (runV N.length ml g)):=
 Fun.okV F S hps fun cdv A outer s H E hr=>aj cdv A outer s H E hr hr.units (zUC hr)
theorem mkSc{N P:List Str}{sc:Scope}(a:sc.kind= .function:=by rfl)(b:sc.isCoroutine=false:=by rfl)(c:sc.isGenerator=false:=by rfl)(d:N.Nodup:=by decide+kernel)(e:N.take P.length=P:=by rfl)
  (f: ∀x∈P,sc.names.lookup x=some .local∨sc.names.lookup x=some .cell:=by decide+kernel) (g: ∀y∈sc.names,y.2≠Aq:=by decide+kernel):zAG N P sc:=⟨a,b,c,d,e,f,g⟩
end L2
namespace TS
open PySem PySem.W PyProof.Rows
end TS
namespace L2
open PySem PySem.Spec PyProof.Rows
variable{X:Cx}{K:A5}
variable{X:Cx}{K:A5}{H:Hp}{σ:St}{s:A2}{a5:List (Addr×Obj)}{ml:List Nat}{pa ta ia:Bool}{fa:VF}{a:Expr}{p' pos:Pos}
theorem zC7.alive{P:Al}{w:World}{H:Hp}{h:Heap}{a:Addr}{o:HO}(x:zC7 P w H h a o): ∃u,h.get? a=some u:=by
 cases o with
 |lst xs=>obtain⟨_,_,_,_,e⟩:=x;exact⟨_,e⟩
 |tup xs=>obtain⟨_,_,_,ob,e,_⟩:=x;exact⟨_,e⟩
 |dK kvs=>obtain⟨_,_,_,_,o,_,_,e,_⟩:=x;exact⟨_,e⟩
 |dT kvs=>obtain⟨_,_,_,_,o,_,_,e,_⟩:=x;exact⟨_,e⟩
 |set S n=>obtain⟨o,_,_,_,e,_⟩:=x;exact⟨_,e⟩
 |ins C dx fs=>obtain⟨_,_,_,e,_⟩:=x;exact⟨_,e⟩
 |own y=>exact x
 |xd fs=>obtain⟨_,⟨_,_,_,e,_⟩,_⟩:=x;exact⟨_,e⟩
 |rng lo hi=>obtain⟨_,_,_,e⟩:=x;exact⟨_,e⟩
 |frz ob u=>obtain⟨e,_⟩:=x;exact⟨_,e⟩
 |tbl ps=>exact⟨_,(show h.get? a=some _ from x)⟩
 |met f y=>exact⟨_,(show h.get? a=some _ from x)⟩
 |ext φ=>exact x.2.1
structure XA(K:A5)(C:Addr):Prop where
 mro:W.mroIn K C (.type "object")=some true
 cls:Jl K (.ref C) "__class__"=some (some (.builtin "object.__class__"))
 get:W.specialIn K (.builtin "object.__class__") "__get__"=some (some (.builtin "getset_descriptor.__get__"))
 tak:W.takesIn K (.builtin "object.__class__")=some true
 ga:Jl K (.ref C) "__getattribute__"=some (some (.builtin "BaseException.__getattribute__"))
 no:Jl K (.ref C) "__getattr__"=some none
 sub:W.subIn K (.ref C) (.type "BaseException")=some true
structure XP(K:A5)(C Cp:Addr):Prop where
 at_:Dy K mainGlobals "PackError"=some (some (.ref Cp))
 ty:W.typeIn K (.ref Cp)=some (.type "type")
 cls:(La K Cp).isSome=true
 base:W.subIn K (.ref Cp) (.type "BaseException")=some true
 sub:W.subIn K (.ref C) (.ref Cp)=some true
noncomputable abbrev vbs:List Value:=[.type "ValueError",.type "Exception",.type "BaseException",.type "object"]
structure XC(K:A5)(x:Str)(C:Addr):Prop where
 at_:Dy K mainGlobals x=some (some (.ref C))
 exc:W.excIn K C vbs "ValueError.__new__"=true
 att:XA K C
 cls:(La K C).isSome=true
 pk: ∃Cp,XP K C Cp
def ExcF(l:List Env)(g:Heap)(H:Hp)(C:Addr)(e:Value)(h:Heap):Prop:=
 ∃a a0 B,e= .ref a/\He B l a (.ref C) a0 h/\(∀b o,g.get? b=some o->b∉frs l-> ∃o',h.get? b=some o'/\B.get? b=some o')/\ ∀b u,H b=some u-> ∃o,h.get? b=some o/\B.get? b=some o
def CXv(P:Al)(w:World):CXT:=fun outer H s E e s'=> ∃C H1,s'.os=s.os/\G2 s'.gens/\Un (frs outer) [] H H1 s.heap s'.heap/\HOk P w H1 s'.heap/\ExcF outer s.heap H1 C e s'.heap/\E (.ref C) none H1
theorem zOS{P:Al}{w:World}{H:Hp}{h h' B:Heap}(ok:HOk P w H h)(st:B.StaysIn h')(c2: ∀b u,H b=some u-> ∃o,h.get? b=some o/\B.get? b=some o):HOk P w H h':=fun b u e=>
 (ok b u e).stay (fun c v hc q => by
  have: ∃u,H c=some u:=by
   rcases hc with rfl|hc
   ·exact⟨u,e⟩
   ·exact⟨_,hc⟩
  obtain⟨u',e'⟩:=this
  obtain⟨o,e1,e2⟩:=c2 c u' e'
  rw[q] at e1
  cases e1
  exact st c v e2) (fun _ q=>q) fun _ _ q=>q
section
variable{X:Cx}{a5:List (Addr×Obj)}{σ:St}{H H1:Hp}{s s':A2}{g h' B:Heap}{C a:Addr}{a0:Value}
theorem Inv.fly(I:Inv X a5 σ H s)(st:B.StaysIn h')(up:s.heap.UpToSlots h')(c1: ∀b o,X.s₀.heap.get? b=some o->b∉frs X.stack-> ∃o',s.heap.get? b=some o'/\B.get? b=some o')
  (cp: ∀p∈X.pn++a5,B.get? p.1=some p.2) (c2: ∀b u,H b=some u-> ∃o,s.heap.get? b=some o/\B.get? b=some o):Inv X a5 σ H {s with heap:=h'}:=by
 have neL: ∀b o,X.s₀.heap.get? b=some o->b≠X.env.locals:=fun b o e=>As (Aj (Ad e) I.ok.above)
 have out: ∀b o,X.s₀.heap.get? b=some o->b∉X.fs->b∉frs X.stack:=fun b o e hb z=>(Ac.mp (I.stkSub b z)).elim (neL b o e) hb
 have cw: ∀b∈X.fs,∀o,s.heap.get? b=some o-> ∃sl,h'.get? b=some {o with slots:=sl}:=fun b hb o e=>by
  obtain⟨_,o',e',nf⟩:=I.funs.mem hb
  rw[e] at e'
  cases e'
  exact up b o e nf
 have dc: ∀x c,X.env.cells.lookup x=some c-> ∀v,s.heap.IsCell c v->h'.IsCell c v:=fun x c _ v q0=>by
  obtain⟨o,ho,hd⟩:=q0
  obtain⟨sl,e⟩:=up c o ho fun vs q=>by rw[hd] at q;cases q
  exact⟨_,e,hd⟩
 refine⟨I.ok,I.os,I.bare,⟨fun b o e n hb hx=> ?_,fun b o e n hb hx=> ?_,I.base.free,fun b o e hx=> ?_,I.base.tups,I.base.frzs,I.base.tbls⟩,?_,fun x c e=> ?_,I.free,I.freeC,fun p hp=> ?_,zOS I.hok st c2,I.len⟩
 ·obtain⟨o',e1,e2⟩:=c1 b o e (out b o e hb)
  rw[I.base.keep b o e n hb hx] at e1
  cases e1
  exact st b o e2
 ·obtain⟨sl,e1⟩:=I.base.slot b o e n hb hx
  obtain⟨sl',e2⟩:=cw b hb _ e1
  exact⟨sl',e2⟩
 ·by_cases hb:b∈X.fs
  ·obtain⟨o',e1⟩:=I.base.there b o e hx
   obtain⟨sl',e2⟩:=cw b hb _ e1
   exact⟨_,e2⟩
  ·obtain⟨o',e1,e2⟩:=c1 b o e (out b o e hb)
   exact⟨o',st b o' e2⟩
 ·obtain⟨m,hn,hl⟩:=I.loc
  refine⟨m,up.ns hn,fun i x v e1 e2 e3=> ?_⟩
  obtain⟨u,r,l⟩:=hl i x v e1 e2 e3
  refine⟨u,r,?_⟩
  rcases l with l|⟨k,c,e,z⟩
  ·exact .inl l
  ·exact .inr ⟨k,c,e,dc x c e _ z⟩
 ·obtain⟨v,z⟩:=I.cell x c e
  exact⟨v,dc x c e v z⟩
 ·obtain⟨e,n,ne,nf,d⟩:=I.pin p hp
  exact⟨st _ _ (cp p hp),n,ne,nf,d⟩
structure Low(X:Cx)(a5:List (Addr×Obj))(g:Heap):Prop where
 s0: ∀b o,X.s₀.heap.get? b=some o->b∉frs X.stack-> ∃o',g.get? b=some o'
 pin: ∀p∈X.pn++a5,∃o,g.get? p.1=some o
theorem Inv.low(I:Inv X a5 σ H s)(hx:X.ex=[]):Low X a5 s.heap:=
 ⟨fun b o e _=>I.base.there b o e (by rw[hx];simp),fun p hp=>⟨_,(I.pin p hp).1⟩⟩
theorem Inv.flyG(I:Inv X a5 σ H s)(lo:Low X a5 g)(st:B.StaysIn h')(up:s.heap.UpToSlots h')(c1: ∀b o,g.get? b=some o->b∉frs X.stack-> ∃o',s.heap.get? b=some o'/\B.get? b=some o')
  (c2: ∀b u,H b=some u-> ∃o,s.heap.get? b=some o/\B.get? b=some o):Inv X a5 σ H {s with heap:=h'}:=by
 refine I.fly st up (fun b o e hb=> ?_) (fun p hp=> ?_) c2
 ·obtain⟨o',e'⟩:=lo.s0 b o e hb
  exact c1 b o' e' hb
 ·obtain⟨o,e⟩:=lo.pin p hp
  obtain⟨e1,_,ne,nf,_⟩:=I.pin p hp
  obtain⟨o',e2,e3⟩:=c1 p.1 o e fun z=>(Ac.mp (I.stkSub _ z)).elim ne nf
  rw[e1] at e2
  cases e2
  exact e3
def RzF(X:Cx)(R:Str->St->Hp->Prop):Prop:= ∀(a5:List (Addr×Obj)) (x:Str) (C:Addr) (σ:St) (H1:Hp) (e:Value) (s':A2) (g:Heap),XC X.K x C->Inv X a5 σ H1 s'->ExcF X.stack g H1 C e s'.heap->Low X a5 g->R x σ H1->X.xe e s'
def RzM(X:Cx)(R:Str->St->Hp->Prop):Prop:= ∀(a5:List (Addr×Obj)) (x:Str) (C a:Addr) (args:List Value) (σ:St) (H1:Hp) (h:Heap) (s':A2),XC X.K x C->Inv X a5 σ H1 {s' with heap:=h}->Heap.MadeExcOf h s'.heap a (.ref C) args->R x σ H1->X.xe (.ref a) s'
end
section
variable{P:Al}{w:World}{K:A5}{mg:Str->Option Value}{base:Heap}{N:List Str}{qual:Str}{scope:Scope}{f:Addr}{cd:Value}{A:Ba}{outer:List Env}{s:A2}{H:Hp}{E:XK}
def rE(K:A5)(E:XK):Str->St->Hp->Prop:=fun x _ H1=> ∀C,XC K x C->E (.ref C) none H1
theorem zTS{a5:List (Addr×Obj)}{σ:St}{H1:Hp}{s':A2}{g h' B:Heap}{C a:Addr}{a0:Value}{d:Drawn}{tk:Nat}(I:Inv (cxOf (CXv P w) P w K mg base N qual scope f cd A outer s H E) a5 σ H1 s')
  (lo: ∀b o,s.heap.get? b=some o->b∉frs (envOfC qual scope s.heap.objs.size f cd::outer)-> ∃o',g.get? b=some o') (fl:He B outer a (.ref C) a0 h') (up:s'.heap.UpToSlots h')
  (c1: ∀b o,g.get? b=some o->b∉frs (envOfC qual scope s.heap.objs.size f cd::outer)-> ∃o',s'.heap.get? b=some o'/\B.get? b=some o')
  (c2: ∀b u,H1 b=some u-> ∃o,s'.heap.get? b=some o/\B.get? b=some o) (hE:E (.ref C) none H1):CXv P w outer H s E (.ref a) {s' with heap:=h',drawn:=d,toks:=tk}:=by
 have bs:Un (frs outer) [] H H1 s.heap s'.heap:=I.base
 have stk:s'.heap.FunFrames base (envOfC qual scope s.heap.objs.size f cd::outer):=I.stack
 have got: ∀b o,s.heap.get? b=some o->b∉frs outer-> ∃o',s'.heap.get? b=some o'/\B.get? b=some o':=fun b o q hb=>by
  have nL:b∉frs (envOfC qual scope s.heap.objs.size f cd::outer):=fun z=>by
   rcases Ac.mp (show b∈s.heap.objs.size::frs outer from z) with z|z
   ·have:=Ad q
    rw[z] at this
    exact absurd this (Bt _)
   ·exact hb z
  obtain⟨o',e⟩:=lo b o q nL
  exact c1 b o' e nL
 have cw: ∀b∈frs outer,∀o,s'.heap.get? b=some o-> ∃sl,h'.get? b=some {o with slots:=sl}:=fun b hb o e=>by
  obtain⟨_,o',e',nf⟩:=stk.mem (Am _ hb:b∈s.heap.objs.size::frs outer)
  rw[e] at e'
  cases e'
  exact up b o e nf
 refine⟨C,H1,I.os,I.bare,⟨fun b o q n hb hx=> ?_,fun b o q n hb hx=> ?_,bs.free,fun b o q hx=> ?_,bs.tups,bs.frzs,bs.tbls⟩,zOS I.hok fl.1 c2,⟨a,a0,B,rfl,fl,fun b o e hn=> ?_,fun b u e=> ?_⟩,hE⟩
 ·obtain⟨o',e1,e2⟩:=got b o q hb
  rw[bs.keep b o q n hb hx] at e1
  cases e1
  exact fl.1 b o e2
 ·obtain⟨sl,e1⟩:=bs.slot b o q n hb hx
  obtain⟨sl',e3⟩:=cw b hb _ e1
  exact⟨sl',e3⟩
 ·by_cases hb:b∈frs outer
  ·obtain⟨o',e1⟩:=bs.there b o q hx
   obtain⟨sl',e3⟩:=cw b hb _ e1
   exact⟨_,e3⟩
  ·obtain⟨o',e1,e2⟩:=got b o q hb
   exact⟨o',fl.1 b o' e2⟩
 ·obtain⟨o',e1,e2⟩:=got b o e hn
  exact⟨o',fl.1 b o' e2,e2⟩
 ·obtain⟨o,e1,e2⟩:=c2 b u e
  exact⟨o,fl.1 b o e2,e2⟩
theorem zK8:RzM (cxOf (CXv P w) P w K mg base N qual scope f cd A outer s H E) (rE K E):=by
 intro a5 x C a args σ H1 h s' hx I M hR
 have stk:h.FunFrames base (envOfC qual scope s.heap.objs.size f cd::outer):=I.stack
 have hin: ∀env∈(envOfC qual scope s.heap.objs.size f cd::outer),∀b,env.frame=some b->b∈frs (envOfC qual scope s.heap.objs.size f cd::outer):=fun env he b hb=>Fl.mpr ⟨env,he,hb⟩
 refine wpAny_leaves_madeW (base:=W.hideAll h (frs (envOfC qual scope s.heap.objs.size f cd::outer))) (h:=h) (I.ok.frames.trans rfl) rfl (fun b o q=>W.of_hideAll _ q) (W.funFrames_hide stk hin) M fun h' t fl _ _ up=> ?_
 have up':h.UpToSlots h':=(Ku M.keeps).trans up
 exact zTS (s':={s' with heap:=h}) (g:=h) (d:=s'.drawn) (tk:=s'.toks) I (fun b o q _=>I.base.there b o q (fun z=>nomatch z)) fl up' (fun b o e hb=>⟨o,e,Ih _ e hb⟩) (fun b u e=>by
  obtain⟨o,q⟩:=(I.hok b u e).alive
  exact⟨o,q,Ih _ q fun z=>by have:=I.stkFree b z;rw[e] at this;cases this⟩) (hR C hx)
end
theorem zO7{K:A5}{h:Heap}{C:Addr}{bmB:List Value}{ii:String}(X:K.In h)(q:W.excIn K C bmB ii=true):
  ∃bm N nm q bs hdct sn sub ab col dd k0 k1 k2 k3 k5 mN,h.get? C=some (excClassObj nm q C N bs bm hdct sn sub ab col dd k0 k1 k2 k3 k5 ii)/\h.Ns N mN/\mN "__init__"=none/\OwnTail h bmB bm:=by
 unfold W.excIn at q
 split at q
 ·rename_i dd cd sl ho
  split at q
  ·rename_i C' bm k0 k1 k2 k3 n k5 hm hs
   simp only[A1,beq_iff_eq,Bool.not_eq_true'] at q
   obtain⟨⟨⟨⟨⟨rfl,rfl⟩,mf⟩,ht⟩,hok⟩,hni⟩:=q
   obtain⟨nm,bs,mro,ns,qn,hd,sn,sub,ab,col,del⟩:=cd
   dsimp only at hm mf hok hni
   subst hm mf
   obtain⟨sl⟩:=sl
   simp only at hs
   subst hs
   exact⟨bm,ns,nm,qn,bs,hd,sn,sub,ab,col,dd,k0,k1,k2,k3,k5,_,X _ _ ho,.of_isNs (W.isNs_of_in X hok),W.nsMap_none_of_in X hok hni,W.tail_of_in X ht⟩
  ·cases q
 ·cases q
abbrev VZ:=Ev->Option (Str×Ev)
def TZ(R:Str->St->Hp->Prop)(K:A5)(ml:List Nat)(z:VZ)(σ:St)(H:Hp):Prop:= ∃B O δ x δ',Sta K ml B O H σ δ/\z δ=some (x,δ')/\ ∀σ' H' O',Sta K ml B O' H' σ' δ'->R x σ' H'
abbrev ZE(R:Str->St->Hp->Prop)(K:A5)(ml:List Nat)(z:VZ):TE:=fun σ H _=>TZ R K ml z σ H
abbrev ZS(R:Str->St->Hp->Prop)(K:A5)(ml:List Nat)(z:VZ):TS:=fun _ σ H=>TZ R K ml z σ H
section
variable{X:Cx}{K:A5}{ml:List Nat}{e a b c:Expr}{es:List Expr}{pa ta ia pb tb ib pc tc ic pu bt bi ps bs:Bool}{fa fb fc f:VF}{B B':Bs}{O:Nat->Option Addr}{H H1 H':Hp}{σ:St}{δ δ':Ev}{v:V}{d:Dat}{pos:Pos}{st:Stmt}{rest:List Stmt}{g g':VS}{z z':VZ}{R:Str->St->Hp->Prop}
noncomputable def zNo:VZ:=fun _=>none
theorem zMV{sts:List Stmt}:PSs X sts (ZS R K ml zNo):=fun _ _ _ _ _ _ h=>by
 obtain⟨_,_,_,_,_,_,q,_⟩:=h
 cases q
noncomputable def zAlt(z z':VZ):VZ:=fun δ=>match z δ with
 |some r=>some r
 |none=>z' δ
theorem zVB(h:TZ R K ml (zAlt z z') σ H):TZ R K ml z σ H∨TZ R K ml z' σ H:=by
 obtain⟨B,O,δ,x,δ',S,q,k⟩:=h
 unfold zAlt at q
 cases h1:z δ with
 |some r=>rw[h1] at q;exact .inl ⟨B,O,δ,x,δ',S,h1.trans q,k⟩
 |none=>rw[h1] at q;exact .inr ⟨B,O,δ,x,δ',S,q,k⟩
theorem zSO{sts:List Stmt}(h1:PSs X sts (ZS R K ml z))(h2:PSs X sts (ZS R K ml z')):PSs X sts (ZS R K ml (zAlt z z')):=fun a5 s σ H D I h=>
 (zVB h).elim (h1 a5 s σ H D I) (h2 a5 s σ H D I)
noncomputable def zSeq(g:VS)(z:VZ):VZ:=fun δ=>match g δ with
 |some (.nx δ')=>z δ'
 |_=>none
theorem zMU(h1:PS X st (TSt K ml g))(h2:PSs X rest (ZS R K ml z)):PSs X (st::rest) (ZS R K ml (zSeq g z)):=(zGE h1 h2).imp fun D σ H q0=>by
 obtain⟨B,O,δ,x,δ',S,q,k⟩:=q0
 unfold zSeq at q
 split at q
 ·rename_i δ1 hg
  exact⟨B,O,δ,.nx δ1,S,hg,fun σ' H' O' S'=>⟨B,O',δ1,x,δ',S',q,k⟩⟩
 ·cases q
theorem zDK(h:PS X st (ZS R K ml z)):PSs X (st::rest) (ZS R K ml z):=(zGE h zNX).imp fun _ _ _ h=>h
noncomputable def zIf(t:VB)(z z':VZ):VZ:=fun δ=>(t δ).bind fun p=>if p.1=true then z p.2 else z' p.2
theorem zSP{x y:List Stmt}{t:VB}(ht:PT X c (TB K ml pc t))(ha:PSs X x (ZS R K ml z))(hb:PSs X y (ZS R K ml z')):PS X (.If c x y pos) (ZS R K ml (zIf t z z')):=(zWY ht ha hb).imp fun D σ H q0=>by
 obtain⟨B,O,δ,x,δ',S,q,k⟩:=q0
 unfold zIf at q
 cases h1:t δ with
 |none=>rw[h1] at q;cases q
 |some p=>
  obtain⟨kk,δ1⟩:=p
  rw[h1] at q
  refine⟨B,O,δ,kk,δ1,S,h1,fun H1 R1=> ?_⟩
  cases kk with
  |true=>exact iteT ⟨B,O,δ1,x,δ',R1.sta,q,k⟩
  |false=>exact iteF ⟨B,O,δ1,x,δ',R1.sta,q,k⟩
theorem zV0{t:VB}(ht:PT X c (TB K ml pc t))(ha:PE X a (ZE R K ml z))(hb:PE X b (ZE R K ml z')):PE X (.IfExp c a b pos) (ZE R K ml (zIf t z z')):=(zI6 ht ha hb).imp fun σ H Q q0=>by
 obtain⟨B,O,δ,x,δ',S,q,k⟩:=q0
 unfold zIf at q
 cases h1:t δ with
 |none=>rw[h1] at q;cases q
 |some p=>
  obtain⟨kk,δ1⟩:=p
  rw[h1] at q
  refine⟨B,O,δ,kk,δ1,S,h1,fun H1 R1=> ?_⟩
  cases kk with
  |true=>exact iteT ⟨B,O,δ1,x,δ',R1.sta,q,k⟩
  |false=>exact iteF ⟨B,O,δ1,x,δ',R1.sta,q,k⟩
theorem zUZ(h:PE X e (ZE R K ml z)):PS X (.Return (some e) pos) (ZS R K ml z):=(zRY h).imp fun _ _ _ h=>h
theorem zI0{x:Str}{np aa p1:Pos}{t:Str}{j:Nat}(hK:X.K=K)(hz:RzM X R)(hc:X.calm=true)(hg:Gl X x)(hx: ∃C,XC K x C/\X.mg x=some (.ref C))(hdb:(x==("__debug__":Str))=false:=by decide)
  (hpl:(Cj aa (starEach [.Constant (.str t) j p1] X.env)).any (·.1)=false:=by rfl):
  PS X (.Raise (some (.Call (.Name x np) [.Constant (.str t) j p1] [] aa)) none pos) (ZS R K ml fun δ=>some (x,δ)):=by
 intro a5 s σ H D I h
 obtain⟨B,O,δ,x',δ',S,q,k⟩:=h
 cases q
 subst hK
 obtain⟨C,hC,hm⟩:=hx
 obtain⟨bm,N,nm,q,bs,hdct,sn,sub,ab,col,dd,k0,k1,k2,k3,k5,mN,o1,o2,o3,o4⟩:=zO7 I.ok.mod.kin hC.exc
 refine wpAny_Raise_call_subT (C:=C) (nm:=nm) (q:=q) (N:=N) (bs:=bs) (bm:=bm) (hdct:=hdct) (sn:=sn) (sub:=sub) (ab:=ab) (col:=col) (dd:=dd) (k0:=k0) (k1:=k1) (k2:=k2) (k3:=k3) (k5:=k5) (mN:=mN) PySem.F.excBase_ValueError (o4.hasType (by decide)) (I.ok.hd hc) hpl o3 (zFK I hg hm ⟨rfl,?_⟩ hdb)
 have pa:PA X [.Constant (.str t) j p1] _:=zB1 zRZ zCU
 refine D6 (B6 (pa aa a5 s σ H (fun vs H'=>H'=H/\vs.length=1) I ⟨rfl,rfl⟩) (fun us s2 hq=> ?_) fun _ _ z=>z)
 obtain⟨vs,H2,I2,rv,rfl,hl⟩:=hq
 have kp: ∀b o,X.base.get? b=some o->s2.heap.get? b=some o:=fun b o e=>(I2.bs b o e).1
 refine⟨rfl,?_,kp _ _ o1,o2.keeps kp,o4.keeps kp,fun h' a hm'=>hz a5 x C a us σ H2 s2.heap _ hC I2 hm' (k σ H2 O S)⟩
 show us.length<=sizeLine
 rw[<- rv.length,hl]
 decide
theorem zQS{x:Str}{kk:Nat}{qs:List Str}{sp:Sp}{ff:Addr}{fd:By}{p':Pos}{t:TA}{CX:CXT}(F:FnOk X.prog X.w X.K X.mg X.base CX kk ff fd qs sp)(hr:Room kk X.A)(hg:Gl X x)(hm:X.mg x=some (.ref ff))(hk:Dr X.K (.ref ff)=true)(hb:zG9 X.K fd qs [])
  (ha:PA X (e::es) t) (hdb:(x==("__debug__":Str))=false:=by decide) (he:starEach (e::es) X.env=(false,eval e X.env)::starEach es X.env:=by rfl) (hpl:(Cj pos (starEach es X.env)).any (·.1)=false:=by rfl):
  PE X (.Call (.Name x p') (e::es) [] pos) (fun σ H Q=>t σ H fun vs H1=> ∃E,(∀(a5:List (Addr×Obj)) (s:A2) (e':Value) (s':A2),Inv X a5 σ H1 s->CX X.stack H1 s E e' s'->X.xe e' s')/\sp vs H1 Q E):=by
 intro a5 s σ H Q I h
 refine Cb (zFK I hg hm (Gs (h₀:=X.base) I.ok.mod.kin hk (thn (ha pos a5 s σ H _ I h) fun us s1 hq=> ?_) he hpl) hdb)
 obtain⟨vs,H1,I1,rv,E,hE,hs⟩:=hq
 have hl:us.length=qs.length:=by rw[<- rv.length];exact F.len _ _ _ _ hs
 have hb:=hb s1 us I1.kIn (by simpa using hl)
 rw[Bp] at hb
 refine⟨I1.kIn,Kh (Fm (F.run X.A X.stack s1 H1 ⟨us,[]⟩ us vs Q E hr I1.env0 hb rv hs) fun r s' hq=> ?_)⟩
 cases r with
 |error e'=>exact hE a5 s1 e' s' I1 hq
 |ok fl=>cases fl with
  |ret u=>exact I1.after hq
  |next=>cases hq
  |brk=>cases hq
  |cont=>cases hq
def spX(K:A5)(n:Nat)(XF:List Dat->Option Str):Sp:=fun vs H _ E=> ∃(Z:Addr->Prop) (ds:List Dat) (x:Str),ds.length=n/\zUX K [] Z H vs ds/\XF ds=some x/\ ∀C H',XC K x C->Same H H'->E (.ref C) none H'
structure DefX(P:Al)(w:World)(K:A5)(mg:Str->Option Value)(base:Heap)(x:Str)(k:Nat)(ps:List Str)(XF:List Dat->Option Str)(f:Addr):Prop where
 at_:mg x=some (.ref f)
 ok: ∃fd,FnOk P w K mg base (CXv P w) k f fd ps (spX K ps.length XF)/\zG9 K fd ps []
 kp:Dr K (.ref f)=true
noncomputable def zE3:List AV->Option (List Dat)
 |[]=>some []
 | .d d::as=>(zE3 as).map fun ds=>d::ds
 | .o _::_=>none
theorem zJ1{N:Addr->Prop}: ∀{vs:List V} {as:List AV} {ds:List Dat},RepG K N H σ vs as->zE3 as=some ds->vs.length=ds.length/\ ∀(i:Nat) (d:Dat),ds[i]? =some d-> ∃v,vs[i]? =some v/\Rep K N H N v d
 | _,_,_,.nil,h => by cases h;exact ⟨rfl,fun i d e => by simp at e⟩
 | _,.d d0 :: as,_,.d r t,h => by
  unfold zE3 at h
  cases e:zE3 as with
  |none=>rw[e] at h;cases h
  |some ds=>
   rw[e] at h
   cases h
   obtain⟨h1,h2⟩:=zJ1 t e
   refine⟨by simp[h1],fun i d q=> ?_⟩
   cases i with
   |zero=>simp at q;subst q;exact⟨_,rfl,r⟩
   |succ i=>exact h2 i d (by simpa using q)
 |_,.o _::_,_,.o _ _,h=>by cases h
noncomputable def zIL(n:Nat)(XF:List Dat->Option Str)(fs:VFg):VZ:=fun δ=>(fs δ).bind fun p=>(zE3 p.1).bind fun ds=>if ds.length=n then(XF ds).map fun x=>(x,p.2) else none
theorem zSY{fs:VFg}{XF:List Dat->Option Str}{n:Nat}{Q:VK}(hz:RzF X R)(hK:X.K=K)(hex:X.ex=[])(h:TZ R K ml (zIL n XF fs) σ H):
  TAG K ml ps fs σ H fun vs H1 => ∃ E,(∀ (a5 : List (Addr × Obj)) (s : A2) (e' : Value) (s' : A2),Inv X a5 σ H1 s -> CXv X.prog X.w X.stack H1 s E e' s' -> X.xe e' s') /\ spX K n XF vs H1 Q E := by
 subst hK
 obtain⟨B,O,δ,x,δ',S,q,k⟩:=h
 unfold zIL at q
 cases h1:fs δ with
 | none => rw [h1] at q;cases q
 |some p=>
  obtain⟨as,δ1⟩:=p
  rw[h1,Ae] at q
  cases h2:zE3 as with
  | none => rw [h2] at q;cases q
  |some ds=>
   rw[h2,Ae] at q
   split at q
   ·rename_i hn
    cases h3:XF ds with
    | none => rw [h3] at q;cases q
    |some x'=>
     rw[h3] at q
     cases q
     refine⟨B,O,δ,as,δ1,S,h1,fun vs H1 G=>⟨fun v _ H2=> ∃x C,v= .ref C/\XC X.K x C/\R x σ H2,fun a5 s e' s' I hc=> ?_,?_⟩⟩
     ·obtain⟨C,H2,os,bare,un,ok,F,x1,C1,hv,hx,hR⟩:=hc
      cases hv
      exact hz a5 x1 C σ H2 e' s' s.heap hx (I.call' os un ok bare fun b hb=>nomatch hb) F (I.low hex) hR
     ·obtain⟨g1,g2⟩:=zJ1 G.rep h2
      have zp: ∀a,Zp (Nn B O) [] vs a->Nn B O a:=fun a z=>z.elim id fun⟨i,hi,_⟩=>nomatch hi
      refine⟨Nn B O,ds,x,hn,⟨g1,fun i hi=>(nomatch hi),fun i d _ e=> ?_,fun i d hi=>(nomatch hi),fun i j a hi=>(nomatch hi),fun a z=>G.sta.nin z⟩,h3,fun C H2 hx hs=>⟨x,C,rfl,hx,k σ H2 O (G.sta.same hs)⟩⟩
      obtain⟨v,e1,r⟩:=g2 i d e
      exact⟨v,e1,r.mono zp zp⟩
   ·cases q
theorem zMW{x:Str}{kk j:Nat}{qs:List Str}{XF:List Dat->Option Str}{ff:Addr}{p':Pos}{fs:VFg}(hz:RzF X R)(hK:X.K=K)(D:DefX X.prog X.w K X.mg X.base x kk qs XF ff)(hr:Room j X.A)(hk:kk<=j)(hg:Gl X x)(hex:X.ex=[])(ha:PA X (e::es) (TAG K ml ps fs))
  (hdb:(x==("__debug__":Str))=false:=by decide) (he:starEach (e::es) X.env=(false,eval e X.env)::starEach es X.env:=by rfl) (hpl:(Cj pos (starEach es X.env)).any (·.1)=false:=by rfl):
  PE X (.Call (.Name x p') (e::es) [] pos) (ZE R K ml (zIL qs.length XF fs)):=by
 obtain⟨fd,F,Bd⟩:=D.ok
 subst hK
 exact(zQS F (hr.mono hk) hg D.at_ D.kp Bd ha hdb he hpl).imp fun σ H Q h=>zSY hz rfl hex h
end
noncomputable def runZ(n:Nat)(z:VZ):List Dat->Option Str:=fun ds=>(z (envD [] n ds)).map (·.1)
theorem Fun.okX{P:Al}{w:World}{K:A5}{mg:Str->Option Value}{base:Heap}{x qual:Str}{st:Stmt}{f:Addr}{fd:By}{N ps:List Str}{k:Nat}{z:VZ}(F:Fun K x qual st f fd)(S:zAG N ps (zA4 st))(hps:ps.length<=N.length)
  (aj: ∀(cdv:Value) (A:Ba) (outer:List Env) (s:A2) (H:Hp) (E:XK),Room k (A.deeper (envOfC qual (zA4 st) s.heap.objs.size f cdv))→
   PSs (cxOf (CXv P w) P w K mg base N qual (zA4 st) f cdv A outer s H E) (zB3 st) (ZS (rE K E) K [] z)):FnOk P w K mg base (CXv P w) (k+1) f fd ps (spX K ps.length (runZ N.length z)):=by
 obtain⟨oc,od,kV,doc,pm,an,cdv,ct,osl,rfl,lk,hcd⟩:=F.ex
 refine zUH lk hcd S (fun vs H Q E h=> ?_) fun A outer s H vs Q E hr hsp=>⟨_,aj cdv A outer s H E hr,?_⟩
 ·obtain⟨Z,ds,x,hn,AV,_⟩:=h
  rw[AV.len,hn]
 ·obtain⟨Z,ds,x,hn,AV,hX,hE⟩:=hsp
  obtain⟨mu,hmu,S0⟩:=zIP (N:=N) AV (by rw[hn];exact hps)
  unfold runZ at hX
  cases h1:z (envD [] N.length ds) with
  |none=>rw[h1] at hX;cases hX
  |some p=>
   obtain⟨x',δ'⟩:=p
   rw[h1] at hX
   cases hX
   exact⟨_,mu,_,x',δ',S0,h1,fun σ' H' O' S' C hC=>hE C H' hC fun b o q=>S'.frm b o q fun⟨i,hi,_⟩=>nomatch hi⟩
end L2
namespace L2
open PySem PySem.Spec PyProof.Rows PySem.W PySem.Calls PySem.Builtin PySem.Builtin.ObjectAttr PySem.Builtin.Getset_descriptor
section
variable{prog:Al}{w:World}{A:Ba}{E:Value->A2->Prop}{s:A2}{K:Frag}{x C:Addr}{o:Obj}{R:Result->A2->Prop}
theorem zUJ{tp:Value}(X:K.In s.heap)(hx:s.heap.get? x=some o)(hc:o.cls= .ref C)(F:XA K C)
  (h:R (.ok (.ret (.ref C))) s):G4 (model prog w) A (.call (.builtin "getset_descriptor.__get__") ⟨[.builtin "object.__class__",.ref x,tp],[]⟩) R s:=by
 obtain⟨hh,g,dr,t,os⟩:=s
 have L0:Looks (model prog w) hh (J8 (.ref x)) (.ref C):=hc▸(Jn hx).andThen .now
 have L1:=looks_mroIn (M:=model prog w) X F.mro
 refine Hl KF.slot_gs.plain KF.entry_gs (KF.slot_gs.check _ _ _ _ _ _ _ _ KF.type_class (KF.args_gs _ _ _) ?_)
 unfold D7.«getset_descriptor.__get__» descrGet
 rw[dga_obj]
 refine A0 (A8 ?_)
 unfold descrGetter descrCheckInstance descrNameAndClass Kj
 simp only[KF.owner_class]
 repeat lk
 refine⟨Code.quiet_builtin _ (by decide+kernel),codeAny_builtin KF.entry_class ?_⟩
 unfold D7.«object.__class__» shownTypeOf
 repeat lk
 exact h
theorem zP2{tk:Tok}{Q:Fin->A2->Prop}(X:K.In s.heap)(hx:s.heap.get? x=some o)(hc:o.cls= .ref C)(F:XA K C)
  (h:Q (.done (.ret (.ref C))) s):wpAny (model prog w) A (D7.«object.__getattribute__» ⟨[.ref x,.str "__class__" tk],[]⟩) Q E s:=by
 obtain⟨hh,g,dr,t,os⟩:=s
 have L0:Looks (model prog w) hh (J8 (.ref x)) (.ref C):=hc▸(Jn hx).andThen .now
 have L1:=J9 (M:=model prog w) X F.cls
 have L2:Looks (model prog w) hh (getOf (some (.builtin "object.__class__"))) (some (.builtin "getset_descriptor.__get__")):=looks_specialIn X F.get
 have L3:=looks_takesIn (M:=model prog w) X F.tak
 have LF:Looks (model prog w) hh (find (.ref x) (.ref C) "__class__") (.bind (.builtin "getset_descriptor.__get__") (.builtin "object.__class__")):=
  L1.andThen (L2.andThen ((show Looks (model prog w) hh (dataDescriptor? (some (.builtin "object.__class__")) (some (.builtin "getset_descriptor.__get__"))) (some (.builtin "getset_descriptor.__get__",.builtin "object.__class__")) from L3.andThen .now).andThen (Looks.tag .now)))
 unfold D7.«object.__getattribute__»
 repeat (any_goals (first|assumption|with_reducible refine Looks.at L0 ?_|with_reducible refine Looks.at LF ?_|wp_step))
 refine zUJ (s:=⟨hh,g,dr,t,os⟩) X hx hc F ?_
 exact A8 h
theorem zZ5{tk:Tok}(X:K.In s.heap)(hx:s.heap.get? x=some o)(hc:o.cls= .ref C)(F:XA K C)(h:R (.ok (.ret (.ref C))) s):
  G4 (model prog w) A (.call (.builtin "BaseException.__getattribute__") ⟨[.ref x,.str "__class__" tk],[]⟩) R s:=by
 obtain⟨hh,g,dr,t,os⟩:=s
 have L0:Looks (model prog w) hh (J8 (.ref x)) (.ref C):=hc▸(Jn hx).andThen .now
 have L1:=looks_subIn (M:=model prog w) X F.sub
 have hk:builtinKind "BaseException.__getattribute__"=some .slot:=by decide+kernel
 have hs:splitId "BaseException.__getattribute__"=some ("BaseException","__getattribute__"):=by decide+kernel
 have ha:=PySem.F.args_bexc_ga (.ref x) (.str "__class__" tk)
 refine Hl PySem.F.excAttr_ValueError.ga.plain PySem.F.entry_bexc_ga (B6 (Q:=fun _ s'=>s'=⟨hh,g,dr,t,os⟩) ?_ (fun _ s' z=> ?_) fun _ _ z=>z)
 ·simp only[checkBuiltinCall,hk,hs]
  unfold Kj
  repeat (any_goals (first|rfl|assumption|with_reducible refine Looks.at L0 ?_|with_reducible refine Looks.at L1 ?_|wp_step))
 ·subst z
  refine zP2 (s:=⟨hh,g,dr,t,os⟩) X hx hc F ?_
  exact h
theorem zP3{Q:Option Value->A2->Prop}(X:K.In s.heap)(hx:s.heap.get? x=some o)(hc:o.cls= .ref C)(F:XA K C)(h:Q (some (.ref C)) {s with toks:=s.toks+1}):
  wpAny (model prog w) A (getAttr? (.ref x) "__class__") Q E s:=by
 obtain⟨hh,g,dr,t,os⟩:=s
 have L0:Looks (model prog w) hh (J8 (.ref x)) (.ref C):=hc▸(Jn hx).andThen .now
 have L1:=J9 (M:=model prog w) X F.ga
 have L2:=J9 (M:=model prog w) X F.no
 have fb:=PySem.F.excAttr_ValueError.ga.bind (.ref x)
 unfold getAttr? getAttrBy? getAttrBy
 refine A0 (wpAny_mkText (A0 (Im (Bf (A0 (L0.at (A0 (L1.at ?_))))))))
 show wpAny _ _ (getAttrByItsOwn _ _ _ _ _ _) _ _ _
 unfold getAttrByItsOwn hookBefore callGetattribute boundAndCalled
 repeat (any_goals (first|assumption|with_reducible refine Looks.at L0 ?_|with_reducible refine Looks.at L2 ?_|wp_step))
 refine zZ5 (s:=⟨hh,g,dr,t+1,os⟩) X hx hc F ?_
 refine handed_on rfl ?_
 first|exact h|exact A8 h|exact A8 (A8 h)
theorem zLJ(F:XA K C)(hdct:(clsIn K C).isSome=true):KitX K (.ref x) (.ref C) (fun h=> ∃o,h.get? x=some o/\o.cls= .ref C) where
 ty:=fun M h _ p=>by
  obtain⟨o,h1,h2⟩:=p
  exact h2▸(Jn h1).andThen .now
 it:=fun _ _ X _=>by
  unfold clsIn at hdct
  split at hdct
  ·rename_i ho
   intro A' Q' E' s' k q
   unfold isType loadHead
   exact A0 (wpAny_loadPart (k _ _ (X _ _ ho)) (A8 q))
  ·cases hdct
 ne:=fun h tp dd its n sl X htp=>by
  refine Bool.eq_false_iff.mpr fun q=> ?_
  have e:C=tp:=Value.ref.inj (beq_iff_eq.mp q)
  subst e
  unfold clsIn at hdct
  split at hdct
  ·rename_i ho
   have z:=(X _ _ ho).symm.trans htp
   cases z
  ·cases hdct
 ca:=fun X p k=>by
  obtain⟨o,h1,h2⟩:=p
  exact zP3 X h1 h2 F k
end
end L2
namespace L2
open PySem PySem.Spec PyProof.Rows
structure zDU(k:Nat)(A:Ba):Prop where
 dp:A.depth+3*k+5<Fp
 un:A.units+16*k+200<cLine
theorem Room.h{k:Nat}{A:Ba}(r:Room k A):zDU k A:=⟨r.dp,r.un⟩
theorem zDU.mono{j k:Nat}{A:Ba}(r:zDU k A)(h:j<=k):zDU j A:=⟨by have:=r.dp;omega,by have:=r.un;omega⟩
theorem zDU.deeper{k:Nat}{A:Ba}(r:zDU (k+1) A)(env:Env):zDU k (A.deeper env):=
 ⟨by have:=r.dp;show A.depth+1+3*k+5<_;omega,by have:=r.un;show A.units+3+16*k+200<_;omega⟩
theorem zDU.units{k:Nat}{A:Ba}(r:zDU k A):A.units+64<cLine:=by have:=r.un;omega
theorem zDU.unit{k:Nat}{A:Ba}(r:zDU k A):A.units+1<cLine:=by have:=r.un;omega
noncomputable def cxH(P:Al)(w:World)(K:A5)(mg:Str->Option Value)(base:Heap)(N:List Str)(qual:Str)(scope:Scope)(f:Addr)(cd:Value)(A:Ba)(outer:List Env)(s:A2)(H:Hp):Cx:=
 {cxOf CX0 P w K mg base N qual scope f cd A outer s H E0 with calm:=false,xe:=fun _ _=>False}
structure FnH(P:Al)(w:World)(K:A5)(mg:Str->Option Value)(base:Heap)(k:Nat)(f:Addr)(fd:By)(ps:List Str)(sp:Sp):Prop where
 len: ∀vs H Q E,sp vs H Q E->vs.length=ps.length
 run: ∀(A:Ba) (outer:List Env) (s:A2) (H:Hp) (args:Args) (us:List Value) (vs:List V) (Q:VK),zDU k A->Env0 P w K mg base A outer s H->Iu s fd args (ps.zip us)->Vals vs us->sp vs H Q E0→
  G4 (model P w) A (.call (.ref f) args) (CR CX0 outer P w H s Q E0) s
theorem Inv.around{X:Cx}{A':Ba}{a5:List (Addr×Obj)}{σ:St}{H:Hp}{s:A2}{xe:Value->A2->Prop}(I:Inv X a5 σ H s)(hf:A'.frames=X.A.frames):Inv {X with A:=A',calm:=false,xe:=xe} a5 σ H s:=
 ⟨⟨I.ok.mod,I.ok.kind,I.ok.glob,I.ok.blt,I.ok.above,I.ok.inj,I.ok.has,I.ok.cab,fun z=>(nomatch z),hf.trans I.ok.frames,I.ok.stk,I.ok.exf,I.ok.bs,I.ok.bsz,I.ok.noex,I.ok.exfs,I.ok.funs,I.ok.frf⟩,I.os,I.bare,I.base,I.loc,I.cell,I.free,I.freeC,I.pin,I.hok,I.len⟩
theorem Inv.back{X:Cx}{A':Ba}{a5:List (Addr×Obj)}{σ:St}{H:Hp}{s:A2}{xe:Value->A2->Prop}(ok:X.Ok)(I:Inv {X with A:=A',calm:=false,xe:=xe} a5 σ H s):Inv X a5 σ H s:=
 ⟨ok,I.os,I.bare,I.base,I.loc,I.cell,I.free,I.freeC,I.pin,I.hok,I.len⟩
theorem Fun.okH{P:Al}{w:World}{K:A5}{mg:Str->Option Value}{base:Heap}{x qual:Str}{st:Stmt}{f:Addr}{fd:By}{N ps:List Str}{k:Nat}{sp:Sp}(F:Fun K x qual st f fd)(S:zAG N ps (zA4 st))(len: ∀vs H Q E,sp vs H Q E->vs.length=ps.length)
  (aj: ∀(cdv:Value) (A:Ba) (outer:List Env) (s:A2) (H:Hp) (vs:List V) (Q:VK),zDU k (A.deeper (envOfC qual (zA4 st) s.heap.objs.size f cdv))->sp vs H Q E0→
   ∃t,PSs (cxH P w K mg base N qual (zA4 st) f cdv A outer s H) (zB3 st) t/\t {nx:=fun _ H'=>Q .non H',rt:=Q} (start N vs) H):FnH P w K mg base (k+1) f fd ps sp:=by
 obtain⟨oc,od,kV,doc,pm,an,cdv,ct,osl,rfl,lk,hcd⟩:=F.ex
 refine⟨len,fun A outer s H args us vs Q hr e0 hb r hsp=> ?_⟩
 have hl:=len _ _ _ _ hsp
 have KX:K.In s.heap:=e0.mod.kin.keeps fun b o e=>(e0.bs b o e).1
 have lim:s.heap.NoLimit:=e0.mod.nolimit.keeps fun b o e=>(e0.bs b o e).1
 have f8: ∀y∈ps.zip us,(zA4 st).names.lookup y.1=some .local∨((zA4 st).names.lookup y.1=some .cell/\((cellsFrom (s.heap.objs.size+1) (zA4 st).names []).lookup y.1).isSome=true):=fun⟨n,v⟩ hy=>by
  rcases S.par n (F5 hy).1 with q|q
  ·exact .inl q
  ·exact .inr ⟨q,Gd _ _ _ (.inl q)⟩
 have iz:A.depth<Fp:=by have:=hr.dp;omega
 refine Gv iz (KX _ _ lk) rfl S.co S.gen rfl (W.codeRec_of KX hcd) (hb _ _ _ _ ?_)
 refine Fg S.kind f8 fun env he s1 x=> ?_
 subst he
 refine⟨lim.keeps x.toInCall.keep,codeAny_func ?_⟩
 obtain⟨t,ht,hq⟩:=aj cdv A outer s H vs Q (hr.deeper _) hsp
 have e1:Env0 P w K mg base {A with handled:=none} outer s H:=⟨e0.frames,e0.mod,e0.bs,e0.bsz,e0.funs,e0.frf,e0.hok,e0.bare⟩
 have I0:Inv (cxOf CX0 P w K mg base N qual (zA4 st) f cdv {A with handled:=none} outer s H E0) [] (start N vs) H s1:=zJD S rfl e1 hl r x
 have I:Inv (cxH P w K mg base N qual (zA4 st) f cdv A outer s H) [] (start N vs) H s1:=I0.around rfl
 refine B6 (ht [] s1 (start N vs) H _ I hq) (fun fl s' hs=> ?_) fun e s' hs=>(show False from hs).elim
 have fin: ∀{σ':St} {H':Hp} {v:V} {u:Value},Inv (cxH P w K mg base N qual (zA4 st) f cdv A outer s H) [] σ' H' s'->RelV v u->Q v H'->CE outer P w H s Q u s':=
  fun{σ' H' v u} J rv q=>⟨v,H',J.os,J.bare,J.base,J.hok,rv,q⟩
 cases fl with
 |ret u=>
  obtain⟨v,σ',H',J,rv,q⟩:=hs
  exact fin J rv q
 |next=>
  obtain⟨σ',H',J,q⟩:=hs
  exact fin (v:=V.non) (u:=Value.none) J rfl q
 |brk=>
  obtain⟨_,_,_,q⟩:=hs
  cases q
 |cont=>
  obtain⟨_,_,_,q⟩:=hs
  cases q
structure DefH(P:Al)(w:World)(K:A5)(mg:Str->Option Value)(base:Heap)(x:Str)(k:Nat)(ps:List Str)(sp:Sp)(f:Addr):Prop where
 at_:mg x=some (.ref f)
 ok: ∃fd,FnH P w K mg base k f fd ps sp/\zG9 K fd ps []
 kp:Dr K (.ref f)=true
section
variable{X:Cx}{K:A5}{ml:List Nat}{e a b c:Expr}{es:List Expr}{ps:Bool}{pos:Pos}
theorem yA0{x:Str}{kk j n:Nat}{qs:List Str}{mF:List Nat}{F:VFun}{ff:Addr}{p':Pos}{fs:VFg}(D:DefH X.prog X.w K X.mg X.base x kk qs (spV K mF n F) ff)(hr:zDU j X.A)(ha:PA X (e::es) (TAG K ml ps fs))(hK:X.K=K:=by rfl)(hk:kk<=j:=by decide)(hg:Gl X x:=by rfl)(hdb:(x==("__debug__":Str))=false:=by decide)
  (he:starEach (e::es) X.env=(false,eval e X.env)::starEach es X.env:=by rfl) (hpl:(Cj pos (starEach es X.env)).any (·.1)=false:=by rfl):
  PE X (.Call (.Name x p') (e::es) [] pos) (TV K ml (ps && mF.isEmpty) true true (zAE n mF F fs)):=by
 subst hK
 obtain⟨fd,F',Bd⟩:=D.ok
 refine PE.imp (t:=zQA (spV X.K mF n F) [] E0 (TAG X.K ml ps fs)) (fun a5 s σ H Q I h=> ?_) fun _ _ _ h=>zGN h
 refine Cb (zFK I hg D.at_ (Gs (h₀:=X.base) I.ok.mod.kin D.kp (thn (ha pos a5 s σ H _ I h) fun us s1 hq=> ?_) he hpl) hdb)
 obtain⟨vs,H1,I1,rv,hs⟩:=hq
 rw[Bp] at hs
 have hl:us.length=qs.length:=by rw[<- rv.length];exact F'.len _ _ _ _ hs
 have hb:=Bd s1 us I1.kIn (by simpa using hl)
 rw[Bp] at hb
 refine⟨I1.kIn,Kh (Fm (F'.run X.A X.stack s1 H1 ⟨us,[]⟩ us vs Q (hr.mono hk) I1.env0 hb rv hs) fun r s' hq=> ?_)⟩
 cases r with
 |error e'=>cases hq
 |ok fl=>cases fl with
  |ret u=>exact I1.after hq
  |next=>cases hq
  |brk=>cases hq
  |cont=>cases hq
end
theorem Fun.okVH{P:Al}{w:World}{K:A5}{mg:Str->Option Value}{base:Heap}{x qual:Str}{st:Stmt}{f:Addr}{fd:By}{N ps:List Str}{k:Nat}{ml:List Nat}{g:VS}(F:Fun K x qual st f fd)(S:zAG N ps (zA4 st))(hps:ps.length<=N.length)
  (aj: ∀(cdv:Value) (A:Ba) (outer:List Env) (s:A2) (H:Hp),zDU k (A.deeper (envOfC qual (zA4 st) s.heap.objs.size f cdv))→
   PSs (cxH P w K mg base N qual (zA4 st) f cdv A outer s H) (zB3 st) (TSt K ml g)):FnH P w K mg base (k+1) f fd ps (spV K ml ps.length (runV N.length ml g)):=by
 refine F.okH S (fun vs H Q E h=> ?_) (fun cdv A outer s H vs Q hr h=>⟨_,aj cdv A outer s H hr,zUP (E:=E0) hps h⟩)
 obtain⟨Z,ds,r,os,hn,AV,_⟩:=h
 rw[AV.len,hn]
theorem zP1{prog:Al}{w:World}{A:Ba}{E:Value->A2->Prop}{s:A2}{K:A5}{x C Cp:Addr}{o:Obj}{Q:Bool->A2->Prop}(X:K.In s.heap)(hx:s.heap.get? x=some o)(hc:o.cls= .ref C)(F:XP K C Cp)(h:Q true s):
  wpAny (model prog w) A (excMatches (.ref x) (.ref Cp)) Q E s:=by
 obtain⟨hh,g,dr,t,os⟩:=s
 have L0:W.Looks (model prog w) hh (J8 (.ref x)) (.ref C):=hc▸(W.Looks.ld hx).andThen .now
 have L1:=W.looks_typeIn (M:=model prog w) X F.ty
 have L2:=W.looks_subIn (M:=model prog w) X F.base
 have L3:=W.looks_subIn (M:=model prog w) X F.sub
 have L4:W.Looks (model prog w) hh (isType (.ref Cp)) true:=by
  have hd:=F.cls
  unfold La at hd
  split at hd
  ·rename_i ho
   intro A' Q' E' s' k q
   unfold isType loadHead
   exact A0 (wpAny_loadPart (k _ _ (X _ _ ho)) (A8 q))
  ·cases hd
 have f:=tc_notTuple
 unfold excMatches isExcClass Kj
 repeat (any_goals (first|assumption|with_reducible refine W.Looks.at L0 ?_|with_reducible refine W.Looks.at L1 ?_|with_reducible refine W.Looks.at L2 ?_|with_reducible refine W.Looks.at L3 ?_|with_reducible refine W.Looks.at L4 ?_|wp_step))
section
variable{X:Cx}{a5:List (Addr×Obj)}{σ:St}{H:Hp}{s:A2}{h':Heap}{a C:Addr}
theorem Inv.track{o:Obj}{vs:Array Value}(I:Inv X a5 σ H s)(ha:H a=none)(he:s.heap.get? a=some o)(hc:o.cls= .ref C)(hd:o.data= .fields vs)(hs:X.s₀.heap.get? a=none)(hp: ∀p∈X.pn++a5,p.1≠a):
  Inv X a5 σ (upd H a (.ext fun h=>zRH h a C)) s:=by
 have neS: ∀b o,X.s₀.heap.get? b=some o->b≠a:=fun b o e z=>by rw[z,hs] at e;cases e
 have neH: ∀b u,H b=some u->b≠a:=fun b u e z=>by rw[z,ha] at e;cases e
 refine⟨I.ok,I.os,I.bare,⟨I.base.keep,I.base.slot,fun b o e n hx=> ?_,I.base.there,fun b xs e=> ?_,fun b o u e=> ?_,fun b ps e=> ?_⟩,I.loc,I.cell,?_,fun x c e=> ?_,fun p hq=> ?_,fun b u e=> ?_,I.len⟩
 ·rw[zAX (neS b o e)];exact I.base.free b o e n hx
 ·have q:=I.base.tups b xs e
  rw[zAX (neH b _ q)];exact q
 ·have q:=I.base.frzs b o u e
  rw[zAX (neH b _ q)];exact q
 ·obtain⟨more,q⟩:=I.base.tbls b ps e
  exact⟨more,by rw[zAX (neH b _ q)];exact q⟩
 ·obtain⟨m,⟨oL,_,_,hoL,hdL,_⟩,_⟩:=I.loc
  have:X.env.locals≠a:=fun z=>by
   rw[z,he] at hoL
   cases hoL
   rw[hd] at hdL
   cases hdL
  rw[zAX this];exact I.free
 ·obtain⟨v,oc,hoc,hdc⟩:=I.cell x c e
  have:c≠a:=fun z=>by
   rw[z,he] at hoc
   cases hoc
   rw[hd] at hdc
   cases hdc
  rw[zAX this];exact I.freeC x c e
 ·obtain⟨e,n,ne,nf,d⟩:=I.pin p hq
  exact⟨e,by rw[zAX (hp p hq)];exact n,ne,nf,d⟩
 ·by_cases hb:b=a
  ·subst hb
   rw[zAR] at e
   cases e
   exact⟨⟨o,vs,he,hc,hd⟩,⟨o,he⟩,fun h1 h2 q k=>by
    obtain⟨o1,vs1,e1,e2,e3⟩:=q
    exact⟨o1,vs1,k o1 e1,e2,e3⟩⟩
  ·rw[zAX hb] at e
   exact(I.hok b u e).stay (fun _ _ _ q=>q) (fun c q=>by rw[zAX (neH c _ q)];exact q) fun c xs q=>by rw[zAX (neH c _ q)];exact q
theorem Inv.unbound{m':Str->Option Value}{t':Nat}(I:Inv X a5 σ H s)(ns:h'.Ns X.env.locals m')(sb:Cz X.env.locals s.heap h'):Inv X a5 (Aa X.N.length none) H {s with heap:=h',toks:=t'}:=by
 have neL: ∀b o,X.s₀.heap.get? b=some o->b≠X.env.locals:=fun b o e=>As (Aj (Ad e) I.ok.above)
 have neH: ∀b u,H b=some u->b≠X.env.locals:=fun b u e z=>by rw[z,I.free] at e;cases e
 refine⟨I.ok,I.os,I.bare,⟨fun b o e n hb hx=>(sb.2 b (neL b o e)).trans (I.base.keep b o e n hb hx),fun b o e n hb hx=> ?_,I.base.free,fun b o e hx=> ?_,I.base.tups,I.base.frzs,I.base.tbls⟩,⟨m',ns,fun i x v _ e2 _=> ?_⟩,fun x c e=> ?_,I.free,I.freeC,fun p hp=> ?_,fun b u e=> ?_,by simp⟩
 ·obtain⟨sl,e1⟩:=I.base.slot b o e n hb hx
  exact⟨sl,(sb.2 b (neL b o e)).trans e1⟩
 ·obtain⟨o',e1⟩:=I.base.there b o e hx
  exact⟨o',(sb.2 b (neL b o e)).trans e1⟩
 ·rw[Bz] at e2
  split at e2<;>cases e2
 ·obtain⟨v,z⟩:=I.cell x c e
  exact⟨v,z.sameBut sb (I.cne x c e)⟩
 ·obtain⟨e,n,ne,nf,d⟩:=I.pin p hp
  exact⟨(sb.2 p.1 ne).trans e,n,ne,nf,d⟩
 ·refine (I.hok b u e).stay (fun c v hc q => (sb.2 c ?_).trans q) (fun _ q => q) fun _ _ q => q
  rcases hc with rfl|hc
  ·exact neH _ u e
  ·exact neH c _ hc
end
theorem Cx.Ok.pns{X:Cx}(ok:X.Ok)(pn:List (Addr×Obj))(xe:Value->A2->Prop):Cx.Ok {X with pn:=pn,xe:=xe}:=
 ⟨ok.mod,ok.kind,ok.glob,ok.blt,ok.above,ok.inj,ok.has,ok.cab,ok.hd,ok.frames,ok.stk,ok.exf,ok.bs,ok.bsz,ok.noex,ok.exfs,ok.funs,ok.frf⟩
abbrev Cx.hnd(X:Cx)(a:Addr):Cx:={X with A:=X.A.mark (some (.ref a)),calm:=false,xe:=fun _ _=>False}
noncomputable def sTry(g:VS)(z:VZ)(i:Nat)(k:VS):VS:=fun δ=>match g δ with
 | some o => some o
 | none => match z δ with
  |some (x,δ1)=>match k (δ1.set i (.va (.exn x))) with
   |some (.rt d δ2)=>some (.rt d δ2)
   |_=>none
  |none=>none
section
variable{X:Cx}{K:A5}{ml:List Nat}{pos:Pos}{g k:VS}{z:VZ}
theorem zV1{body:List Stmt}{n:Str}{np en:Pos}{b0:Stmt}{i7:List Stmt}{i:Nat}(hK:X.K=K)(hst:X.stack=X.env::X.outer)(hfr:X.env.frame=some X.env.locals)(hN:X.N.Nodup)(hi:X.N[i]? =some n)(hl:X.env.kindOf n=some .local)(him:i∉ml)
  (hg0:Gl X "PackError") (hm: ∀C,Dy K mainGlobals "PackError"=some (some (.ref C))->X.mg "PackError"=some (.ref C))
  (hg:PSs X.nox body (TSt K ml g)) (hz: ∀(pn:List (Addr×Obj)) (xe:Value->A2->Prop) (R:Str->St->Hp->Prop),RzF {X with pn:=pn,xe:=xe} R->PSs {X with pn:=pn,xe:=xe} body (ZS R K ml z)) (hk: ∀a,PSs (X.hnd a) (b0::i7) (TSt K ml k)):
  PS X (.Try body [.ExceptHandler (some (.Name "PackError" np)) (some n) (b0::i7) en] [] [] pos) (TSt K ml (sTry g z i k)):=by
 intro a5 s σ H D I h
 obtain⟨B,O,δ,o,S,q,post⟩:=h
 refine wpAny_Try_except ?_
 unfold sTry at q
 cases h1:g δ with
 |some o'=>
  rw[h1] at q
  cases q
  refine B6 (hg a5 s σ H D (I.wish _) ⟨B,O,δ,o,S,h1,post⟩) (fun f s1 hf=> ?_) fun e s1 he=>(show False from he).elim
  have hf:=hf.unwish
  cases f with
  | next => exact Gq hf
  | _ => exact hf
 |none=>
  rw[h1] at q
  dsimp only at q
  cases h2:z δ with
  | none => rw [h2] at q;cases q
  |some p=>
   obtain⟨x0,δ1⟩:=p
   rw[h2] at q
   dsimp only at q
   cases h3:k (δ1.set i (.va (.exn x0))) with
   | none => rw [h3] at q;cases q
   |some ok=>
    rw[h3] at q
    cases ok with
    | nx _ => cases q
    | bk _ => cases q
    | ct _ => cases q
    |rt d δ2=>
     cases q
     subst hK
     have I1: ∀{xe:Value->A2->Prop} {σ:St} {H:Hp} {s:A2},Inv X a5 σ H s->Inv {X with pn:=X.pn++a5,xe:=xe} [] σ H s:=fun I=>⟨I.ok.pns _ _,I.os,I.bare,I.base,I.loc,I.cell,I.free,I.freeC,fun p hp=>I.pin p (by simpa using hp),I.hok,I.len⟩
     have I2: ∀{xe:Value->A2->Prop} {ps:List (Addr×Obj)} {σ:St} {H:Hp} {s:A2},Inv {X with pn:=X.pn++a5,xe:=xe} ps σ H s->Inv X a5 σ H s:=fun J=>⟨I.ok,J.os,J.bare,J.base,J.loc,J.cell,J.free,J.freeC,fun p hp=>J.pin p (Ar _ hp),J.hok,J.len⟩
     refine B6 (hz (X.pn++a5) _ (fun x σ' H'=>x=x0/\ ∃O',Sta X.K ml B O' H' σ' δ1) (fun ps x C σ2 H2 e s' gh hx J F lo hR=> ?_) [] s σ H ⟨fun _ _=>False,fun _ _=>False,fun _ _=>False,fun _ _=>False⟩ (I1 I) ⟨B,O,δ,x0,δ1,S,h2,fun σ' H' O' S'=>⟨rfl,O',S'⟩⟩) (fun f s1 hf=> ?_) fun e s1 he=>he
     rotate_left
     ·cases f with
      |next=>obtain⟨_,_,_,z⟩:=hf;cases z
      |brk=>obtain⟨_,_,_,z⟩:=hf;cases z
      |cont=>obtain⟨_,_,_,z⟩:=hf;cases z
      |ret u=>obtain⟨_,_,_,_,_,z⟩:=hf;cases z
     obtain⟨rfl,O',S1⟩:=hR
     have J':=I2 J
     have lo':Low X a5 gh:=⟨lo.s0,fun p hp=>lo.pin p (Ar _ hp)⟩
     obtain⟨a,a0,Bh,rfl,fl,c1,c2⟩:=F
     obtain⟨Cp,hP⟩:=hx.pk
     have fl:He Bh (X.env::X.outer) a (.ref C) a0 s'.heap:=hst▸fl
     have c1: ∀b o,gh.get? b=some o->b∉frs X.stack-> ∃o',s'.heap.get? b=some o'/\Bh.get? b=some o':=c1
     have nfr: ∀{h:Heap},He Bh (X.env::X.outer) a (.ref C) a0 h->a∉frs X.stack:=fun fl hb=>by
      rw[hst] at hb
      obtain⟨oe,vs,_,_,_,he,_,hd,_⟩:=fl.2.2.2
      obtain⟨_,o',e',nf⟩:=fl.2.2.1.mem hb
      rw[he] at e'
      cases e'
      exact nf vs hd
     refine wpAny_looks_onW (J'.ok.frames.trans (by rw[hst])) hfr fl fun h4 hd4 up4=>wpAny_landsW hd4 fun h5 fl5 up5=> ?_
     have I5:Inv X a5 σ2 H2 {s' with heap:=h5}:=J'.flyG lo' fl5.1 (up4.trans up5) c1 c2
     have I5h:Inv (X.hnd a) a5 σ2 H2 {s' with heap:=h5}:=I5.around rfl
     refine wpAny_handleBy_cons (codeAny_handlers_test (zFK (X:=X.hnd a) I5h hg0 (hm Cp hP.at_) ?_)) (by intro q;cases q)
     obtain⟨oe5,vs5,_,_,_,he5,oh,_⟩:=fl5.2.2.2
     refine zP1 I5.kIn he5 oh.1 hP ?_
     refine codeAny_handlers_suite_as (lands_againW fl5 fun h6 fl6 up6=> ?_)
     have I6:Inv X a5 σ2 H2 {s' with heap:=h6}:=J'.flyG lo' fl6.1 ((up4.trans up5).trans up6) c1 c2
     obtain⟨oe,vs,_,_,_,he,hcl,hdt,_⟩:=fl6.2.2.2
     have Bn:Bh.get? a=none:=fl6.2.1
     have na: ∀b o,gh.get? b=some o->b≠a:=fun b o e z=>by
      subst z
      obtain⟨o',_,e2⟩:=c1 b o e (nfr fl6)
      rw[Bn] at e2
      cases e2
     have ha:H2 a=none:=by
      cases e:H2 a with
      |none=>rfl
      |some u=>
       obtain⟨o',_,e2⟩:=c2 a u e
       rw[Bn] at e2
       cases e2
     have hs0:X.s₀.heap.get? a=none:=by
      cases e:X.s₀.heap.get? a with
      |none=>rfl
      |some o'=>
       obtain⟨o2,e2⟩:=lo'.s0 a o' e (nfr fl6)
       exact absurd rfl (na a o2 e2)
     have I7:=I6.track (C:=C) ha he hcl.1 hdt hs0 fun p hp=>by
      obtain⟨o2,e2⟩:=lo'.pin p hp
      exact na _ o2 e2
     have S7:Sta X.K ml B O' (upd H2 a (.ext fun h=>zRH h a C)) σ2 δ1:=S1.same (zA9 ha)
     refine zDM (X:=X.hnd a) (I7.around rfl) hN hi (.inl hl) (v:= .ref a) rfl (fun s8 I8=> ?_) (.inr hl)
     have S8:=S7.setVa (i:=i) (v:= .ref a) (d:= .exn x) him (.exn hx.at_ zAR fun h z=>z)
     refine B6 (hk a a5 s8 _ _ ⟨fun _ _=>False,D.rt,fun _ _=>False,fun _ _=>False⟩ I8 ⟨B,_,_,.rt d δ2,S8,h3,post⟩) (fun f s9 hf=> ?_) fun e s9 he=>(show False from he).elim
     cases f with
     |next=>obtain⟨_,_,_,z⟩:=hf;cases z
     |brk=>obtain⟨_,_,_,z⟩:=hf;cases z
     |cont=>obtain⟨_,_,_,z⟩:=hf;cases z
     |ret u=>
      obtain⟨v,σ9,H9,I9,r9,hD⟩:=hf
      have I9:=I9.back I.ok
      obtain⟨m,hn,_⟩:=id I9.loc
      refine wpAny_nameGoes hl hn (by rw[I9.ok.kind];rfl) fun h' m' ns' sb=> ?_
      exact⟨v,_,H9,I9.unbound ns' sb,r9,hD⟩
end
section
variable{X:Cx}{K:A5}{ml:List Nat}{e a b c fx:Expr}{es:List Expr}{pa ta ia pb tb ib pf ft fi ps:Bool}{fa fb fe:VF}{B:Bs}{O:Nat->Option Addr}{H H1 H':Hp}{σ:St}{δ δ':Ev}{v:V}{d:Dat}{pos:Pos}{R:Str->St->Hp->Prop}
noncomputable def zEB:List Dat->Option (List Bool)
 |[]=>some []
 | .bl i::ds=>(zEB ds).map fun ns=>i::ns
 |_=>none
theorem zJV{N:Addr->Prop}: ∀{xs:List V} {ds:List Dat} {ns:List Bool},RepA K N H xs ds->zEB ds=some ns->xs=ns.map V.bl
 | _,_,_,.nil,h => by cases h;rfl
 | _,_,_,@RepA.cons _ _ _ v vs d ds h t,e => by
  cases d with
  |bl k=>
   cases h
   have e:(zEB ds).map (fun ks=>k::ks)=some _:=e
   cases h2:zEB ds with
   |none=>rw[h2] at e;cases e
   |some ks=>
    rw[h2] at e
    cases e
    rw[zJV t h2]
    rfl
  |_=>cases e
noncomputable def posB(n:Bool):List Bool->Option Nat
 |[]=>none
 |i::ns=>if i=n then some 0 else(posB n ns).map (· +1)
theorem zJ0{n:Bool}: ∀{ns:List Bool} {j:Nat},posB n ns=some j->ns[j]? =some n/\ ∀m,m<j->ns[m]? ≠some n
 | [],_,h => by cases h
 | i :: ns,j,h => by
  unfold posB at h
  split at h
  ·rename_i hi
   cases h
   exact⟨by rw[hi];rfl,fun m hm=>absurd hm (K0 _)⟩
  ·rename_i hi
   cases h1:posB n ns with
   |none=>rw[h1] at h;cases h
   |some k=>
    rw[h1] at h
    cases h
    obtain⟨h2,h3⟩:=zJ0 h1
    refine⟨by simpa using h2,fun m hm=> ?_⟩
    cases m with
    |zero=>simpa using hi
    |succ m=>simpa using h3 m (Nat.lt_of_succ_lt_succ hm)
noncomputable def zOQ(n:Bool):Value->Bool
 | .bool i=>i==n
 |_=>false
theorem zIF: ∀{ns:List Bool} {us:List Value},Vals (ns.map V.bl) us->us=ns.map Dk
 |[],_,.nil=>rfl
 |i::ns,_,.cons r t=>by rw[zIF t];cases r;rfl
def zK9(K:A5):V->List V->Hp->VK->Prop:=fun x vs H Q=> ∃(l:Addr) (ns:List Bool) (n:Bool) (j:Nat),x= .ref l/\vs=[.bl n]/\SqL K H l (ns.map V.bl)/\posB n ns=some j/\Q (.int j) H
def zKA(K:A5):V->List V->Hp->VK->Prop:=fun x vs H Q=> ∃(l:Addr) (ns:List Bool) (n:Bool),x= .ref l/\vs=[.bl n]/\SqL K H l (ns.map V.bl)/\Q (.int (ns.count n:Nat)) H
theorem zS4{us:List Value}{n:Bool}(r:Vals [V.bl n] us):us=[.bool n]:=by
 cases r with
 |cons r t=>cases t;cases r;rfl
theorem zOC:MtM X "list.index" (zK9 X.K):=by
 intro a5 s σ H x vs v us Q I rx rv h
 obtain⟨l,ns,n,j,rfl,rfl,hq,hj,q⟩:=h
 cases rx
 obtain rfl:=zS4 rv
 obtain⟨its,r,⟨o,c,e,hc,hd,b9⟩,hz⟩:=I.list hq
 obtain⟨cls,dd,data,sl⟩:=o
 simp only at hc hd b9
 subst hc hd b9
 have hl:=r.length
 obtain rfl:=zIF r
 obtain⟨h1,h2⟩:=zJ0 hj
 have hj':j<ns.length:=(A6.mp h1).1
 have hsz:ns.length<=16777216:=by rw[D8] at hz;rw[<- Bb];exact hz
 refine E5 F.slot_list_index ⟨_,e,rfl⟩ F.entry_list_index (F.args_list_index_2 _ _) (SeqAt.list_indexAt l (ns.map Dk).toArray c none sl (.bool n) (zOQ n) j (by simpa using hj') (by omega) ?_ ?_) ⟨e,?_,?_⟩
 ·have : ns[j] = n := by have := Dc hj';rw [h1] at this;exact (B4 this).symm
  simp[zOQ,this]
 ·intro m hm hmj
  have hm':m<ns.length:=by simpa using hm
  have:=h2 m hmj
  rw[Dc hm'] at this
  simp only[List.getElem_toArray,List.getElem_map,zOQ]
  exact beq_eq_false_iff_ne.mpr fun z=>this (by rw[z])
 ·intro y hy
  have hy:y∈ns.map Dk:=by simpa using hy
  obtain⟨i,_,rfl⟩:=Cd.mp hy
  exact Hm i n
 ·exact⟨.int j,H,I.tok _,⟨_,rfl⟩,q⟩
theorem zOD:MtM X "list.count" (zKA X.K):=by
 intro a5 s σ H x vs v us Q I rx rv h
 obtain⟨l,ns,n,rfl,rfl,hq,q⟩:=h
 cases rx
 obtain rfl:=zS4 rv
 obtain⟨its,r,⟨o,c,e,hc,hd,b9⟩,hz⟩:=I.list hq
 obtain⟨cls,dd,data,sl⟩:=o
 simp only at hc hd b9
 subst hc hd b9
 obtain rfl:=zIF r
 refine E5 F.slot_list_count ⟨_,e,rfl⟩ F.entry_list_count (F.args_list_count_2 _ _) (SeqAt.list_countAt l (ns.map Dk).toArray c none sl (.bool n) (zOQ n)) ⟨e,?_,?_⟩
 ·intro y hy
  have hy:y∈ns.map Dk:=by simpa using hy
  obtain⟨i,_,rfl⟩:=Cd.mp hy
  exact Hm i n
 ·have oa:(ns.map Dk).toArray.toList.countP (zOQ n)=ns.count n:=by
   rw[List.toList_toArray,List.countP_map]
   rfl
  refine⟨.int (ns.count n:Nat),H,I.tok _,⟨s.toks,?_⟩,q⟩
  rw[oa]
noncomputable def zKG:Dat->Dat->Option Dat
 | .lst ds,.bl n=>(zEB ds).bind fun ns=>(posB n ns).map fun j=> .int j
 |_,_=>none
noncomputable def zKH:Dat->Dat->Option Dat
 | .lst ds,.bl n=>(zEB ds).map fun ns=> .int (ns.count n:Nat)
 |_,_=>none
theorem zV7{ak aa:Pos}{name:Str}{id:String}{r:V->List V->Hp->VK->Prop}{o:Dat->Dat->Option Dat}(hK:X.K=K)(sl:Slot "list" name id) (ty:J8 (.builtin id)=pure (.type "method_descriptor")) (mt:MtM X id r)
  (ho: ∀{x y d:Dat},o x y=some d-> ∃ds n ns i,x= .lst ds/\y= .bl n/\zEB ds=some ns/\d= .int i/\ ∀(H:Hp) (l:Addr) (Q:VK),SqL K H l (ns.map V.bl)->Q (.int i) H->r (.ref l) [.bl n] H Q)
  (ha:PE X a (TV K ml pa ta ia fa)) (hb:PE X b (TV K ml pb tb ib fb))
  (bn : Ec a name X.env (eval a X.env) = eval a X.env := by rfl)
  (dh : ((Cj aa (starEach (b :: []) X.env)).all (fun x => !x.1) && (Ij aa (F6 [] X.env)).all (fun x => x.1.isSome)
   && decide ((b::([]:List Expr)).length+([]:List F7).length+(if([]:List F7).isEmpty then 0 else 1)<30))=true:=by rfl)
  (bj : (ak.endLine == aa.line) = true := by rfl) (hs : starEach (b :: []) X.env = (false,eval b X.env) :: starEach [] X.env := by rfl) (ay : (Cj aa (starEach [] X.env)).any (·.1) = false := by rfl) (hl : (pb || (ta && ia)) = true := by rfl) :
  PE X (.Call (.Attribute a name ak) [b] [] aa) (TV K ml (pa && pb) true true (f2 o fa fb)):=
 (kBm (K := K) hK G9 sl ty mt ha (zB1 hb zCU hs) bn dh bj hs ay).imp fun σ H Q q0 => by
  obtain⟨B,O,δ,d,δ2,S,q,k⟩:=q0
  obtain⟨x,δ1,y,h1,h2,h3⟩:=zHX q
  obtain⟨ds,n,ns,i,rfl,rfl,h4,rfl,h5⟩:=ho h3
  refine⟨B,O,δ,_,δ1,S,h1,fun v1 H1 R1=> ?_⟩
  obtain⟨l,xs,rfl,sq,_⟩:=R1.rep.lstE
  refine⟨.inl ⟨rfl,xs,sq⟩,B,O,δ1,_,δ2,R1.sta,h2,fun v2 H2 R2=> ?_⟩
  have r2:=R2.rep
  cases r2
  obtain⟨l',xs',e1,sq',r'⟩:=(R2.live hl R1.rep).lstE
  cases e1
  have:=zJV r' h4
  subst this
  exact h5 H2 l Q sq' (k _ H2 ⟨R2.sta,R1.frm.trans R2.frm,fun z=>by
   obtain⟨z1,z2⟩:=(A1 _ _).mp z
   exact(R1.pur z1).trans (R2.pur z2),.int _⟩)
theorem zQX{x y d:Dat}(h:zKG x y=some d): ∃ds n ns i,x= .lst ds/\y= .bl n/\zEB ds=some ns/\d= .int i/\ ∀(H:Hp) (l:Addr) (Q:VK),SqL K H l (ns.map V.bl)->Q (.int i) H->zK9 K (.ref l) [.bl n] H Q:=by
 unfold zKG at h
 split at h
 ·rename_i ds n
  cases h1:zEB ds with
  | none => rw [h1] at h;cases h
  |some ns=>
   rw[h1,Ae] at h
   cases h2:posB n ns with
   |none=>rw[h2] at h;cases h
   |some j=>
    rw[h2] at h
    cases h
    exact⟨ds,n,ns,j,rfl,rfl,h1,rfl,fun H l Q sq q=>⟨l,ns,n,j,rfl,rfl,sq,h2,q⟩⟩
 ·cases h
theorem zQY{x y d:Dat}(h:zKH x y=some d): ∃ds n ns i,x= .lst ds/\y= .bl n/\zEB ds=some ns/\d= .int i/\ ∀(H:Hp) (l:Addr) (Q:VK),SqL K H l (ns.map V.bl)->Q (.int i) H->zKA K (.ref l) [.bl n] H Q:=by
 unfold zKH at h
 split at h
 ·rename_i ds n
  cases h1:zEB ds with
  |none=>rw[h1] at h;cases h
  |some ns=>
   rw[h1] at h
   cases h
   exact⟨ds,n,ns,_,rfl,rfl,h1,rfl,fun H l Q sq q=>⟨l,ns,n,rfl,rfl,sq,q⟩⟩
 ·cases h
theorem zU6(h:X.K=K):MtM X "list.index" (zK9 K):=by subst h;exact zOC
theorem zU7(h:X.K=K):MtM X "list.count" (zKA K):=by subst h;exact zOD
def rIsx(K:A5):RC:=fun xs H Q=> ∃a C φ u k,xs=[.ref a,u]/\H a=some (.ext φ)/\(∀h,φ h->zRH h a C)/\XA K C/\(La K C).isSome=true/\((∃D,u= .ref D/\Eu K (.ref C) (.ref D)=some k)∨ ∃n,u= .ty n/\Eu K (.ref C) (.type n)=some k)/\Q (.bl k) H
theorem zRD:zC8 X (.builtin "isinstance") (rIsx X.K):=by
 intro a5 s σ H xs us Q I r h
 obtain⟨a,C,φ,u,k,rfl,hH,hφ,xa,hc,hk,q⟩:=h
 obtain⟨v,c,rfl,rx,rc⟩:=zMY r
 cases rx
 obtain⟨o,vs,e1,e2,_⟩:=hφ _ (I.hok a _ hH).1
 have fin: ∀tk,EP X a5 σ Q (.bool k) {s with toks:=tk}:=fun tk=>⟨.bl k,H,I.tok tk,rfl,q⟩
 rcases hk with⟨D,rfl,hk⟩|⟨n,rfl,hk⟩
 ·cases rc
  exact Cr (zLJ xa hc) I.kIn ⟨o,e1,e2⟩ hk (fun z=>nomatch z) fin
 ·cases rc
  exact Cr (zLJ xa hc) I.kIn ⟨o,e1,e2⟩ hk (fun z=>nomatch z) fin
theorem kIsx(h:X.K=K):zC8 X (.builtin "isinstance") (rIsx K):=by subst h;exact zRD
structure XI(K:A5)(cs all:List Str):Prop where
 own: ∀c∈cs,∃C,XC K c C
 isi: ∀c∈cs,∀C,Dy K mainGlobals c=some (some (.ref C))-> ∀x∈all,∃D,Dy K mainGlobals x=some (some (.ref D))/\Eu K (.ref C) (.ref D)=some (decide (c=x))
 val: ∀c∈cs,∀C,Dy K mainGlobals c=some (some (.ref C))->Eu K (.ref C) (.type "ValueError")=some true
noncomputable def oIsx(cs all:List Str):Dat->Dat->Option Dat
 | .exn c,.fn x=>if c∈cs/\x∈all then some (.bl (decide (c=x))) else none
 | .exn c,.ty n=>if c∈cs/\n= "ValueError" then some (.bl true) else none
 |_,_=>none
theorem zEK{cs all:List Str}(F:XI K cs all):zKY K (rIsx K) (oIsx cs all):=by
 intro H N N' M M' x y d e c Q hx hy h k
 unfold oIsx at h
 split at h
 ·rename_i c0 x0
  split at h
  ·rename_i hm
   cases h
   cases hx with
   |exn hn hH hφ=>
    cases hy with
    |fn hf=>
     obtain⟨C',hC⟩:=F.own _ hm.1
     have:=hn.symm.trans hC.at_
     cases this
     obtain⟨D,hD,hk⟩:=F.isi _ hm.1 _ hn _ hm.2
     have:=hf.symm.trans hD
     cases this
     exact⟨_,_,_,_,_,rfl,hH,hφ,hC.att,hC.cls,.inl ⟨_,rfl,hk⟩,k _ fun _ _ _=> .bl _⟩
  ·cases h
 ·rename_i c0 n0
  split at h
  ·rename_i hm
   cases h
   obtain⟨hm,rfl⟩:=hm
   cases hx with
   |exn hn hH hφ=>
    cases hy
    obtain⟨C',hC⟩:=F.own _ hm
    have:=hn.symm.trans hC.at_
    cases this
    exact⟨_,_,_,_,_,rfl,hH,hφ,hC.att,hC.cls,.inr ⟨_,rfl,F.val _ hm _ hn⟩,k _ fun _ _ _=> .bl _⟩
  ·cases h
 ·cases h
end
theorem zP0(l b:Addr)(u v:Array Value)(n m:Nat)(sl:Array (Option Value))(h0: ¬(!u.isEmpty && Db (u.size+v.size))=true)(h1:u.size<=sizeLine)(h2:(u++v).size<=sizeLine+1):
  Meets (D7.«list.extend» ⟨[.ref l,.ref b],[]⟩) (fun _ R s=>s.heap.get? l=some ⟨.type "list",none,.seq u n,#[]⟩/\s.heap.get? b=some ⟨.type "list",none,.seq v m,sl⟩/\R (.ok (.ret .none)) {s with heap:=s.heap.update l (Fy fun x=>x++v)}):=
 .of_wp fun prog w A R s h=>by
  obtain⟨hp,g,d,tk,os⟩:=s
  obtain⟨hl,hb,h⟩:=h
  have f1:=Gh
  have f2:=AutoSeq1.sub_tuple_tuple
  have f3:=AutoSeq1.sub_list_list
  have f4:=AutoSeq1.sub_tuple_list
  have f5:=AutoSeq1.sub_list_tuple
  wp_walk using(wpAny_updateSeq hl rfl (hz:=h1) (_hz':=h2)),Bi hl,Bi hb
  exact⟨_,rfl,h⟩
def zT8(K:A5):V->List V->Hp->VK->Prop:=fun x vs H Q=> ∃l b xs zs,x= .ref l/\vs=[.ref b]/\H l=some (.lst xs)/\SqL K H b zs/\xs.length+zs.length<=sizeLine/\Q .non (upd H l (.lst (xs++zs)))
theorem zU3{X:Cx}:MtM X "list.extend" (zT8 X.K):=by
 intro a5 s σ H x vs v us Q I rx rv h
 obtain⟨l,b,xs,zs,rfl,rfl,hH,hB,hz,q⟩:=h
 cases rx
 obtain⟨u,rfl,ru⟩:=rv.one
 cases ru
 obtain⟨z,its,n,r,hl,e⟩:=I.lstM hH
 obtain⟨ck,r2,⟨⟨cls,dd,data,sl⟩,n2,e2,hc,hd,b9⟩,_⟩:=I.list hB
 simp only at hc hd b9
 subst hc hd b9
 have hl2:=r2.length
 have hsz:its.toArray.size+ck.toArray.size<=sizeLine:=by rw[A9,A9];omega
 refine E5 F.slot_list_extend ⟨_,e,rfl⟩ F.entry_list_extend (F.args_list_extend_2 _ _) (zP0 l b its.toArray ck.toArray n n2 sl (by
  rw[zQZ hsz,Bool.and_false]
  exact Cg) (by rw[A9];omega) (by rw[Array.size_append];omega)) ⟨e,e2,?_⟩
 refine⟨.non,_,I.lset (its':=its++ck) hH e (by simp) (r.append r2) ?_,rfl,q⟩
 rw[Bu]
 omega
theorem zJ9{X:Cx}{K:A5}(h:X.K=K):MtM X "list.extend" (zT8 K):=by subst h;exact zU3
noncomputable def mExt:List Dat->List Dat->Option (List Dat)
 |ds,[.lst es]=>if ds.length+es.length<=16777216 then some (ds++es) else none
 |_,_=>none
theorem zFZ{K:A5}:MuV K (zT8 K) mExt:=by
 intro H N l xs vs ds es ds' Q hl hN rx re h k
 cases re with
 | nil => cases h
 | @cons v vs d es hd t=>
  cases t with
  | cons _ _ => cases d <;> cases h
  |nil=>
   cases d with
   |lst es=>
    simp only[mExt] at h
    split at h
    ·rename_i hz
     cases h
     obtain⟨b,zs,rfl,sq,r⟩:=hd.lstE
     exact⟨l,b,xs,zs,rfl,rfl,hl,sq,by rw[rx.length,r.length,Bb];exact hz,k _ _ (rx.append r)⟩
    ·cases h
   |_=>cases h
theorem zIE:Av "ValueError"=some (.type "ValueError"):=by decide+kernel
theorem zDU.mark{k:Nat}{A:Ba}(r:zDU k A)(h:Option Value):zDU k (A.mark h):=⟨r.dp,r.un⟩
noncomputable def xiOk(K:A5)(cs all:List Str):Bool:=cs.all fun c=>match Dy K mainGlobals c with
 |some (some (.ref C))=>all.all (fun x=>match Dy K mainGlobals x with
  |some (some (.ref D))=>Eu K (.ref C) (.ref D)==some (decide (c=x))
  |_=>false) && Eu K (.ref C) (.type "ValueError")==some true
 |_=>false
theorem XI.of{K:A5}{cs all:List Str}(own: ∀c∈cs,∃C,XC K c C)(h:xiOk K cs all=true):XI K cs all:=by
 have key: ∀c∈cs,∀C,Dy K mainGlobals c=some (some (.ref C))->(∀x∈all,∃D,Dy K mainGlobals x=some (some (.ref D))/\Eu K (.ref C) (.ref D)=some (decide (c=x)))/\Eu K (.ref C) (.type "ValueError")=some true:=by
  intro c hc C hn
  have:=B0.mp h c hc
  rw[hn] at this
  simp only[A1,beq_iff_eq] at this
  refine⟨fun x hx=> ?_,this.2⟩
  have h2:=B0.mp this.1 x hx
  split at h2
  ·rename_i D hD
   exact⟨D,hD,beq_iff_eq.mp h2⟩
  ·cases h2
 exact⟨own,fun c hc C hn=>(key c hc C hn).1,fun c hc C hn=>(key c hc C hn).2⟩
theorem zYK{P:Al}{w:World}{K:A5}{mg:Str->Option Value}{base h:Heap}{x:Str}{st:Stmt}{f:Addr}{ps:List Str}{XF:List Dat->Option Str}{k:Nat}(X:K.In h)(G:h.Ns mainGlobals mg)(p:A4 K x st f)(ok: ∀{fd:By},Fun K x x st f fd->FnOk P w K mg base (CXv P w) k f fd ps (spX K ps.length XF))
  (hb: ∀{kV doc pm:Value} {an:Option Addr} {cdv ct:Value} (us:List Value),us.length=ps.length->bindArgs (Es x x (zBW st) (zB3 st) (zA4 st) .none kV doc pm an cdv ct) ⟨us,[]⟩=pure (ps.zip us)):DefX P w K mg base x k ps XF f:=by
 obtain⟨oc,od,kV,doc,pm,an,cdv,ct,osl,a,b,c,d⟩:=p
 have U:=zLO (st:=st) b c d
 exact⟨Bx X G a,⟨_,ok U,U.binds fun _ _ _ _ _ _=>hb⟩,d⟩
theorem yC3{P:Al}{w:World}{K:A5}{mg:Str->Option Value}{base h:Heap}{x:Str}{st:Stmt}{f:Addr}{ps:List Str}{sp:Sp}{k:Nat}(X:K.In h)(G:h.Ns mainGlobals mg)(p:A4 K x st f)(ok: ∀{fd:By},Fun K x x st f fd->FnH P w K mg base k f fd ps sp)
  (hb: ∀{kV doc pm:Value} {an:Option Addr} {cdv ct:Value} (us:List Value),us.length=ps.length->bindArgs (Es x x (zBW st) (zB3 st) (zA4 st) .none kV doc pm an cdv ct) ⟨us,[]⟩=pure (ps.zip us)):DefH P w K mg base x k ps sp f:=by
 obtain⟨oc,od,kV,doc,pm,an,cdv,ct,osl,a,b,c,d⟩:=p
 have U:=zLO (st:=st) b c d
 exact⟨Bx X G a,⟨_,ok U,U.binds fun _ _ _ _ _ _=>hb⟩,d⟩
theorem okZ(P:Al)(w:World)(K:A5)(mg:Str->Option Value)(base:Heap){x qual:Str}{st:Stmt}{f:Addr}{fd:By}(N ps:List Str)(k:Nat)(z:VZ)(F:Fun K x qual st f fd)(S:zAG N ps (zA4 st))
  (aj: ∀(cdv:Value) (A:Ba) (outer:List Env) (s:A2) (H:Hp) (E:XK) (hr:Room k (A.deeper (envOfC qual (zA4 st) s.heap.objs.size f cdv))) (_:(A.deeper (envOfC qual (zA4 st) s.heap.objs.size f cdv)).units+64<cLine) (_:(A.deeper (envOfC qual (zA4 st) s.heap.objs.size f cdv)).units+1<cLine),
   PSs (cxOf (CXv P w) P w K mg base N qual (zA4 st) f cdv A outer s H E) (zB3 st) (ZS (rE K E) K [] z)) (hps:ps.length<=N.length:=by decide):FnOk P w K mg base (CXv P w) (k+1) f fd ps (spX K ps.length (runZ N.length z)):=
 Fun.okX F S hps fun cdv A outer s H E hr=>aj cdv A outer s H E hr hr.units (zUC hr)
theorem okWH(P:Al)(w:World)(K:A5)(mg:Str->Option Value)(base:Heap){x qual:Str}{st:Stmt}{f:Addr}{fd:By}(N ps:List Str)(k:Nat)(g:VS)(ml:List Nat)(F:Fun K x qual st f fd)(S:zAG N ps (zA4 st))
  (aj: ∀(cdv:Value) (A:Ba) (outer:List Env) (s:A2) (H:Hp) (hr:zDU k (A.deeper (envOfC qual (zA4 st) s.heap.objs.size f cdv))) (_:(A.deeper (envOfC qual (zA4 st) s.heap.objs.size f cdv)).units+64<cLine) (_:(A.deeper (envOfC qual (zA4 st) s.heap.objs.size f cdv)).units+1<cLine),
   PSs (cxH P w K mg base N qual (zA4 st) f cdv A outer s H) (zB3 st) (TSt K ml g)) (hps:ps.length<=N.length:=by decide):FnH P w K mg base (k+1) f fd ps (spV K ml ps.length (runV N.length ml g)):=
 Fun.okVH F S hps fun cdv A outer s H hr=>aj cdv A outer s H hr hr.units hr.unit
noncomputable def repN{α:Type}(k:Nat)(xs:List α):List α:=(Aa k xs).flatten
theorem zI4{α:Type}(k:Nat)(xs:List α):(repN k xs).length=xs.length*k:=by
 unfold repN
 induction k with
 |zero=>simp
 |succ k ih=>rw[Bo,Dd,Bu,ih,Nat.mul_succ,Nat.add_comm]
theorem Vals.repV{xs:List V}{us:List Value}(r:Vals xs us)(k:Nat):Vals (repN k xs) (repN k us):=by
 unfold repN
 induction k with
 |zero=>exact .nil
 |succ k ih=>rw[Bo,Bo,Dd,Dd];exact r.append ih
theorem RepA.rep{K:A5}{N:Addr->Prop}{H:Hp}{xs:List V}{ds:List Dat}(r:RepA K N H xs ds)(k:Nat):RepA K N H (repN k xs) (repN k ds):=by
 unfold repN
 induction k with
 |zero=>exact .nil
 |succ k ih=>rw[Bo,Bo,Dd,Dd];exact r.append ih
theorem zG6:fillsNumberSlot (.type "tuple") "mul"=pure false:=
 PySem.fillsNumberSlot_seq (id:= "tuple.__mul__") (r:=some (.builtin "tuple.__rmul__")) F.slot_tuple_mul.lookup (by decide+kernel) F.slot_tuple_rmul.lookup (by decide+kernel)
theorem zIW:seqRepeat? (.type "tuple")=pure (some (.builtin "tuple.__mul__")):=by
 unfold seqRepeat?
 rw[Jh (T:= "tuple") (name:= "__mul__") (id:= "tuple.__mul__") F.slot_tuple_mul.lookup (by decide+kernel),Jh (T:= "tuple") (name:= "__rmul__") (id:= "tuple.__rmul__") F.slot_tuple_rmul.lookup (by decide+kernel)]
 rfl
theorem zMA(a:Int)(t:Tok)(l:Addr)(u:Array Value)(n:Nat)(dd:Option Addr)(sl:Array (Option Value)):Meets (D7.«int.__rmul__» ⟨[.int a t,.ref l],[]⟩) (fun _ R s=>s.heap.get? l=some ⟨.type "tuple",dd,.seq u n,sl⟩/\R (.ok (.ret Value.notImplemented)) s):=
 .of_wp fun prog w A R s h=>by
  obtain⟨hp,g,d,tk,os⟩:=s
  obtain⟨hl,h⟩:=h
  wp_walk
  exact⟨_,rfl,h⟩
theorem zMH(l:Addr)(t:Tok)(u:Array Value)(n:Nat)(dd:Option Addr)(sl:Array (Option Value)):Meets (D7.«tuple.__mul__» ⟨[.ref l,.int 1 t],[]⟩) (fun _ R s=>s.heap.get? l=some ⟨.type "tuple",dd,.seq u n,sl⟩/\R (.ok (.ret (.ref l))) s):=
 .of_wp fun prog w A R s h=>by
  obtain⟨hp,g,d,tk,os⟩:=s
  obtain⟨hl,h⟩:=h
  have f1:=Gh
  unfold D7.«tuple.__mul__»
  wp_walk using Bi hl
  exact⟨_,rfl,h⟩
theorem zMG(l:Addr)(x:Int)(t:Tok)(u:Array Value)(n:Nat)(dd:Option Addr)(sl:Array (Option Value))(h1:1<x)(h2:x<2 ^ 62)(hu:u.isEmpty=false)(hz:u.size*x.toNat<=16777216):Meets (D7.«tuple.__mul__» ⟨[.ref l,.int x t],[]⟩)
  (fun _ R s => s.heap.get? l = some ⟨.type "tuple",dd,.seq u n,sl⟩ /\ R (.ok (.ret (.ref s.heap.objs.size))) { s with heap := s.heap.push { cls := .type "tuple",data := .seq ((Aa x.toNat u).foldl (· ++ ·) #[]) } }) :=
 .of_wp fun prog w A R s h=>by
  obtain⟨hp,g,d,tk,os⟩:=s
  obtain⟨hl,h⟩:=h
  have f1:=Gh
  unfold D7.«tuple.__mul__»
  have e1:(decide (x< -2 ^ 63) || decide (x≥2 ^ 63))=false:=by simp;omega
  have e2:(x==1)=false:=by simp;omega
  have e3:decide (x<=0)=false:=by simp;omega
  have e4:(u.size:Int)*x=((u.size*x.toNat:Nat):Int):=by rw[Int.natCast_mul,Ib (by omega)]
  have e5: ¬((u.size:Int)*x>(2 ^ 63 - 1)/8):=by rw[e4];omega
  have e6:Fj ((u.size:Int)*x)=false:=by rw[e4];unfold Fj;simp only[Bb,decide_eq_false_iff_not];omega
  wp_walk using Bi hl
  rw[e1]
  wp_walk using Bi hl
  simp only[hu,e2,e3,Kr]
  wp_walk
  rw[e6,if_neg e5]
  have e7: ¬(List.foldl (fun x1 x2=>x1++x2) #[] (Aa x.toNat u)).size>sizeLine:=by
   have:=zI4 x.toNat u.toList
   unfold repN at this
   rw[listMul_foldl,A9]
   show¬([]++(Aa x.toNat u.toList).flatten).length>sizeLine
   rw[De,this,Dg,Bb]
   omega
  wp_walk
  exact⟨_,rfl,h⟩
section
variable{X:Cx}{K:A5}
def zWI(K:A5):R2:=fun x y H Q=> ∃l xs k,x= .ref l/\y= .int k/\SqL K H l xs/\(0<=k/\k<2 ^ 62)/\xs.length*k.toNat<=16777216/\ ∀p,H p=none->Q (.ref p) (upd H p (.lst (repN k.toNat xs)))
theorem zTU:OpR X (D0 .Mult) (zWI X.K):=by
 intro a5 s σ H x y v u Q I rx ry h
 obtain⟨l,xs,x,rfl,rfl,hq,⟨x0,x1⟩,hz,q⟩:=h
 cases rx
 obtain⟨t,rfl⟩:=ry
 obtain⟨its,r,⟨⟨cls,dd,data,sl⟩,n,ho,hc,hd,b9⟩,_⟩:=I.list hq
 simp only at hc hd b9
 subst hc hd b9
 have hl:=r.length
 have hsz:its.toArray.size*x.toNat<=16777216:=by rw[A9,<- hl];exact hz
 refine Ft (T:= "list") (U:= "int") (by decide) ⟨_,ho,rfl⟩ (fun s'=>Hi s' x t) noFill_list_mul K4 Fd repeat_list F.slot_int_index.lookup
  (E5 Fd (Hi s x t) Ji (J2 _ _) (lm_int_rmul_list_any x t l its.toArray n none sl) ⟨ho,rfl,⟨_,ho,rfl⟩,?_⟩)
 refine E5 F.slot_list_mul ⟨_,ho,rfl⟩ F.entry_list_mul (F.args_list_mul_2 _ _) (lm_list_mul_any l its.toArray n none sl x t (by simp[Builtin.List.listFitsIndex];omega) (by omega) (by simp[Db,sizeLine];omega)) ⟨ho,?_⟩
 rw[listMul_foldl_if]
 refine⟨.ref s.heap.objs.size,_,I.laid (t':=s.toks) (o:= .lst (repN x.toNat xs)) (fun b ob e=>A3 _ e) (Ag _) ?_,rfl,q _ (I.hok.fresh (Ag _))⟩
 exact⟨by rw[zI4,Bb];exact hz,repN x.toNat its,0,r.repV _,Ah _ rfl⟩
def zWH(K:A5):R2:=fun x y H Q=> ∃l xs k,x= .ref l/\y= .int k/\SqT K H l xs/\xs≠[]/\(1<=k/\k<2 ^ 62)/\xs.length*k.toNat<=16777216/\(k=1->Q (.ref l) H)/\ ∀p,H p=none->Q (.ref p) (upd H p (.tup (repN k.toNat xs)))
theorem zTT:OpR X (D0 .Mult) (zWH X.K):=by
 intro a5 s σ H x y v u Q I rx ry h
 obtain⟨l,xs,x,rfl,rfl,hq,hne,⟨x0,x1⟩,hz,q1,q⟩:=h
 cases rx
 obtain⟨t,rfl⟩:=ry
 obtain⟨its,r,⟨⟨cls,dd,data,sl⟩,ho,hc,n,hd⟩,_⟩:=I.tuple hq
 simp only at hc hd
 subst hc hd
 have hl:=r.length
 have hsz:its.toArray.size*x.toNat<=16777216:=by rw[A9,<- hl];exact hz
 have hu:its.toArray.isEmpty=false:=by
  cases its with
  |nil=>exact absurd (r.nil_iff.mp rfl) hne
  |cons a b=>rfl
 refine Ft (T:= "tuple") (U:= "int") (by decide) ⟨_,ho,rfl⟩ (fun s'=>Hi s' x t) zG6 K4 Fd zIW F.slot_int_index.lookup
  (E5 Fd (Hi s x t) Ji (J2 _ _) (zMA x t l its.toArray n dd sl) ⟨ho,rfl,⟨_,ho,rfl⟩,?_⟩)
 by_cases hk:x=1
 ·subst hk
  exact E5 Jj ⟨_,ho,rfl⟩ J3 (Io _ _) (zMH l t its.toArray n dd sl) ⟨ho,⟨.ref l,H,I,rfl,q1 rfl⟩⟩
 ·refine E5 Jj ⟨_,ho,rfl⟩ J3 (Io _ _) (zMG l x t its.toArray n dd sl (by omega) x1 hu hsz) ⟨ho,?_⟩
  rw[listMul_foldl]
  refine⟨.ref s.heap.objs.size,_,I.laid (t':=s.toks) (o:= .tup (repN x.toNat xs)) (fun b ob e=>A3 _ e) (Ag _) ?_,rfl,q _ (I.hok.fresh (Ag _))⟩
  exact⟨by rw[zI4,Bb];exact hz,repN x.toNat its,r.repV _,Fw _ _⟩
def zWJ(K:A5):R2:=fun x y H Q=>zWI K x y H Q∨zWH K x y H Q
theorem kRep(h:X.K=K):OpR X (D0 .Mult) (zWJ K):=by subst h;exact zTU.or zTT
noncomputable def zCL:Dat->Dat->Option Dat
 | .lst ds,.int k=>if(0<=k/\k<2 ^ 62)/\ds.length*k.toNat<=16777216 then some (.lst (repN k.toNat ds)) else none
 | .tup (d::ds),.int k=>if(1<=k/\k<2 ^ 62)/\(ds.length+1)*k.toNat<=16777216 then some (.tup (repN k.toNat (d::ds))) else none
 |_,_=>none
theorem zG8:OpC K (zWJ K) zCL:=by
 intro H N M M' x y d e c Q hx hy h k
 cases d with
 |lst ds=>
  cases e with
  |int i=>
   simp only[zCL] at h
   split at h
   ·rename_i hz
    cases h
    obtain⟨a,xs,rfl,q1,r1⟩:=hx.lstE
    cases hy
    exact .inl ⟨a,xs,i,rfl,rfl,q1,hz.1,by rw[r1.length];exact hz.2,fun p hp=>k _ _ (zA9 hp) fun M hM=> .lst zAR (fun z=>by
     obtain⟨o,q⟩:=hM _ z
     rw[hp] at q
     cases q) ((r1.rep _).same (zA9 hp))⟩
   ·cases h
  | _ => cases h
 |tup ds=>
  cases ds with
  | nil => cases h
  |cons d ds=>
   cases e with
   |int i=>
    simp only[zCL] at h
    split at h
    ·rename_i hz
     cases h
     obtain⟨a,xs,rfl,q1,r1⟩:=hx.tupE
     cases hy
     refine .inr ⟨a,xs,i,rfl,rfl,q1,fun z=> ?_,hz.1,by rw[r1.length];exact hz.2,fun z=> ?_,fun p hp=>k _ _ (zA9 hp) fun M hM=> .tup (SqT.of zAR) ((r1.rep _).same (zA9 hp))⟩
     ·subst z
      cases r1
     ·subst z
      refine k _ _ (Same.refl _) fun M hM=> ?_
      rw[show repN (1:Int).toNat (d::ds)=d::ds by simp[repN]]
      exact .tup q1 r1
    ·cases h
   |_=>cases h
 |_=>cases h
end
noncomputable def litA:Expr->Option Dat
 | .Constant (.int i) _ _=>some (.int i)
 | .Constant (.bool i) _ _=>some (.bl i)
 | .Constant (.str i) _ _=>some (.str i)
 | .Constant .none _ _=>some .non
 | .UnaryOp .USub (.Constant (.int i) _ _) _=>some (.int (-i))
 |_=>none
noncomputable def litL(f:Expr->Option Dat):List Expr->Option (List Dat)
 |[]=>some []
 |e::es=>(f e).bind fun d=>(litL f es).map fun ds=>d::ds
noncomputable def litD:Nat->Expr->Option Dat
 |0,e=>litA e
 |k+1,e=>match e with
  | .Tuple es _ _=>(litL (litD k) es).bind fun ds=>if ds.length<=16777216 then some (.tup ds) else none
  | .List es _=>(litL (litD k) es).bind fun ds=>if ds.length<=16777216 then some (.lst ds) else none
  |e=>litA e
section
variable{X:Cx}{K:A5}{ml:List Nat}
theorem zOH{e:Expr}{d:Dat}(h:litA e=some d):PE X e (TV K ml true true true (fC d)):=by
 unfold litA at h
 split at h
 ·cases h;exact zA2
 ·cases h;exact zC6
 ·cases h;exact zAC
 ·cases h;exact zBA
 ·cases h;exact zGL zA2
 ·cases h
theorem zJ7{e:Expr}{es:List Expr}{d:Dat}(h:litA e=some d):starEach (e::es) X.env=(false,eval e X.env)::starEach es X.env:=by
 unfold litA at h
 split at h<;>first
  |rfl
  |cases h
theorem zKL{f:Expr->Option Dat}(hf: ∀e d,f e=some d->PE X e (TV K ml true true true (fC d))/\ ∀es,starEach (e::es) X.env=(false,eval e X.env)::starEach es X.env): ∀{es:List Expr} {ds:List Dat},litL f es=some ds->PA X es (TAV K ml true true fun δ=>some (ds,δ))
 | [],_,h => by
  cases h
  exact zA8
 | e :: es,ds,h => by
  have h:((f e).bind fun d=>(litL f es).map fun ds=>d::ds)=some ds:=h
  cases h1:f e with
  | none => rw [h1] at h;cases h
  |some d=>
   rw[h1] at h
   have h:(litL f es).map (fun ds=>d::ds)=some ds:=h
   cases h2:litL f es with
   |none=>rw[h2] at h;cases h
   |some ds'=>
    rw[h2] at h
    cases h
    obtain⟨a,b⟩:=hf e d h1
    exact zA0 a (zKL hf h2) (b es)
theorem zKM: ∀{k:Nat} {e:Expr} {d:Dat},litD k e=some d->PE X e (TV K ml true true true (fC d))/\ ∀es,starEach (e::es) X.env=(false,eval e X.env)::starEach es X.env
 | 0,e,d,h => ⟨zOH h,fun es => zJ7 h⟩
 | k + 1,e,d,h => by
  have hl: ∀(es:List Expr) (g:List Dat->Dat) (fg:VFs->VF),(∀fs δ,fg fs δ=(fs δ).bind fun p=>if p.1.length<=16777216 then some (g p.1,p.2) else none)->((litL (litD k) es).bind fun ds=>if ds.length<=16777216 then some (g ds) else none)=some d-> ∃ds,PA X es (TAV K ml true true fun δ=>some (ds,δ))/\fg (fun δ=>some (ds,δ))=fC d:=by
   intro es g fg hg h
   cases h1:litL (litD k) es with
   | none => rw [h1] at h;cases h
   |some ds=>
    rw[h1] at h
    have h:(if ds.length<=16777216 then some (g ds) else none)=some d:=h
    split at h
    ·rename_i hz
     cases h
     refine⟨ds,zKL (fun e d=>zKM) h1,funext fun δ=> ?_⟩
     rw[hg]
     show(if ds.length<=16777216 then some (g ds,δ) else none)=_
     rw[if_pos hz]
     rfl
    ·cases h
  unfold litD at h
  split at h
  ·rename_i es x1 pos
   obtain⟨ds,a,b⟩:=hl es .tup fTup (fun _ _=>rfl) h
   exact⟨b▸zAH a,fun _=>rfl⟩
  ·rename_i es pos
   obtain⟨ds,a,b⟩:=hl es .lst fLst (fun _ _=>rfl) h
   exact⟨b▸zV8 a,fun _=>rfl⟩
  ·exact⟨zOH h,fun es=>zJ7 h⟩
theorem zRK{k:Nat}{e:Expr}{d:Dat}(h:litD k e=some d):PE X e (TV K ml true true true (fC d)):=(zKM h).1
theorem zL1{k:Nat}{es:List Expr}{pos:Pos}{ds:List Dat}(h:litL (litD k) es=some ds)(hz:ds.length<=16777216):PE X (.List es pos) (TN K ml true (fC (.lst ds))):=by
 have a:=zB8 (pos:=pos) (zKL (X:=X) (K:=K) (ml:=ml) (fun e d=>zKM (k:=k)) h)
 have b:fLst (fun δ=>some (ds,δ))=fC (.lst ds):=funext fun δ=>by
  show(if ds.length<=16777216 then some (Dat.lst ds,δ) else none)=_
  rw[if_pos hz]
  rfl
 exact b▸a
end
end L2
namespace L2
open PySem
section
variable{α β:Type}{d x y z c:Dat}{δ δ1 δ':Ev}{fa fb fc:VF}{o o':Dat->Dat->Option Dat}{i j k n:Nat}{s:Sl}{b:Bool}{ds:List Dat}
noncomputable def q0(r:Option α)(δ:Ev):Option (α×Ev):=r.map fun c=>(c,δ)
@[simp] theorem q0_s{a:α}:q0 (some a) δ=some (a,δ):=rfl
@[simp] theorem fC_e:fC d δ=some (d,δ):=rfl
noncomputable def qV:Option Sl->Ev->Option (Dat×Ev)
 |some (.va d),δ=>some (d,δ)
 |_,_=>none
noncomputable def qO:Option Sl->Ev->Option (Dat×Ev)
 |some (.va d),δ=>some (d,δ)
 |some (.ow d),δ=>some (d,δ)
 |_,_=>none
@[simp] theorem fV_e:fV i δ=qV δ[i]? δ:=by unfold fV qV;split<;>simp_all
@[simp] theorem fO_e:fO i δ=qO δ[i]? δ:=by unfold fO qO;split<;>simp_all
@[simp] theorem qV_s:qV (some (.va d)) δ=some (d,δ):=rfl
@[simp] theorem qO_v:qO (some (.va d)) δ=some (d,δ):=rfl
@[simp] theorem qO_o:qO (some (.ow d)) δ=some (d,δ):=rfl
noncomputable def q1(o:Dat->Option Dat)(r:Option (Dat×Ev)):Option (Dat×Ev):=r.bind fun p=>q0 (o p.1) p.2
@[simp] theorem f1_e{o:Dat->Option Dat}:f1 o fa δ=q1 o (fa δ):=rfl
@[simp] theorem q1_s{o:Dat->Option Dat}:q1 o (some (x,δ))=q0 (o x) δ:=rfl
noncomputable def q2(o:Dat->Dat->Option Dat)(r:Option (Dat×Ev))(fb:VF):Option (Dat×Ev):=r.bind fun p=>(fb p.2).bind fun q=>q0 (o p.1 q.1) q.2
noncomputable def q2b(o:Dat->Dat->Option Dat)(x:Dat)(r:Option (Dat×Ev)):Option (Dat×Ev):=r.bind fun q=>q0 (o x q.1) q.2
@[simp] theorem f2_e:f2 o fa fb δ=q2 o (fa δ) fb:=rfl
@[simp] theorem q2_s:q2 o (some (x,δ)) fb=q2b o x (fb δ):=rfl
@[simp] theorem yGG:q2b o x (some (y,δ))=q0 (o x y) δ:=rfl
noncomputable def q3(o o':Dat->Dat->Option Dat)(r:Option (Dat×Ev))(fb fc:VF):Option (Dat×Ev):=r.bind fun p=>(fb p.2).bind fun q=>(o p.1 q.1).bind fun z=>match z with
 | .bl true=>(fc q.2).bind fun s=>(o' q.1 s.1).map fun u=>(u,s.2)
 | .bl false=>some (.bl false,q.2)
 |_=>none
noncomputable def q3b(o o':Dat->Dat->Option Dat)(x:Dat)(r:Option (Dat×Ev))(fc:VF):Option (Dat×Ev):=q3 o o' (some (x,[])) (fun _=>r) fc
noncomputable def q3c(o':Dat->Dat->Option Dat)(y:Dat)(δ:Ev)(fc:VF):Option Dat->Option (Dat×Ev)
 |some (.bl true)=>q2b o' y (fc δ)
 |some (.bl false)=>some (.bl false,δ)
 |_=>none
@[simp] theorem f3_e:f3 o o' fa fb fc δ=q3 o o' (fa δ) fb fc:=rfl
@[simp] theorem q3_s:q3 o o' (some (x,δ)) fb fc=q3b o o' x (fb δ) fc:=rfl
@[simp] theorem yGF:q3b o o' x (some (y,δ)) fc=q3c o' y δ fc (o x y):=by
 simp only[q3b,q3,Ae]
 cases o x y with
 |none=>rfl
 |some z=>cases z with
  |bl b=>cases b<;>rfl
  |_=>rfl
@[simp] theorem yGD:q3c o' y δ fc (some (.bl true))=q2b o' y (fc δ):=rfl
@[simp] theorem yGE:q3c o' y δ fc (some (.bl false))=some (.bl false,δ):=rfl
noncomputable def qc(r:Option (Dat×Ev))(fs:VFs):Option (List Dat×Ev):=r.bind fun p=>(fs p.2).map fun q=>(p.1::q.1,q.2)
noncomputable def qcb(x:Dat)(r:Option (List Dat×Ev)):Option (List Dat×Ev):=r.map fun q=>(x::q.1,q.2)
@[simp] theorem yF3:fNil δ=some ([],δ):=rfl
@[simp] theorem yCK{fs:VFs}:zA1 fa fs δ=qc (fa δ) fs:=rfl
@[simp] theorem qc_s{fs:VFs}:qc (some (x,δ)) fs=qcb x (fs δ):=rfl
@[simp] theorem yFT:qcb x (some (ds,δ))=some (x::ds,δ):=rfl
noncomputable def qT(g:List Dat->Dat)(r:Option (List Dat×Ev)):Option (Dat×Ev):=r.bind fun p=>if p.1.length<=16777216 then some (g p.1,p.2) else none
@[simp] theorem yF2{fs:VFs}:fTup fs δ=qT .tup (fs δ):=rfl
@[simp] theorem yF4{fs:VFs}:fLst fs δ=qT .lst (fs δ):=rfl
@[simp] theorem qT_s{g:List Dat->Dat}:qT g (some (ds,δ))=if ds.length<=16777216 then some (g ds,δ) else none:=rfl
noncomputable def qB:Option (Dat×Ev)->Option (Bool×Ev)
 |some (.bl k,δ)=>some (k,δ)
 |_=>none
@[simp] theorem fB_e:fB fa δ=qB (fa δ):=by
 unfold fB qB
 cases fa δ with
 |none=>rfl
 |some p=>
  obtain⟨d,e⟩:=p
  cases d<;>rfl
@[simp] theorem qB_s:qB (some (.bl b,δ))=some (b,δ):=rfl
variable{tb tb':VB}{g g':VS}
noncomputable def qAnd(r:Option (Bool×Ev))(y:VB):Option (Bool×Ev):=r.bind fun p=>if p.1=true then y p.2 else some (false,p.2)
noncomputable def qOr(r:Option (Bool×Ev))(y:VB):Option (Bool×Ev):=r.bind fun p=>if p.1=true then some (true,p.2) else y p.2
noncomputable def qNot(r:Option (Bool×Ev)):Option (Bool×Ev):=r.map fun p=>(!p.1,p.2)
@[simp] theorem yFE:bAnd tb tb' δ=qAnd (tb δ) tb':=rfl
@[simp] theorem yH1:bOr tb tb' δ=qOr (tb δ) tb':=rfl
@[simp] theorem yFD:bNot tb δ=qNot (tb δ):=rfl
@[simp] theorem zSJ:bYes δ=some (true,δ):=rfl
@[simp] theorem yDZ:qAnd (some (true,δ)) tb=tb δ:=rfl
@[simp] theorem yE0:qAnd (some (false,δ)) tb=some (false,δ):=rfl
@[simp] theorem yG0:qOr (some (true,δ)) tb=some (true,δ):=rfl
@[simp] theorem yG1:qOr (some (false,δ)) tb=tb δ:=rfl
@[simp] theorem yDT:qNot (some (b,δ))=some (!b,δ):=rfl
noncomputable def qA(r:Option (Dat×Ev))(y:VF):Option (Dat×Ev):=r.bind fun p=>match p.1 with
 | .bl true=>y p.2
 | .bl false=>some (.bl false,p.2)
 |_=>none
@[simp] theorem yF5:fAnd fa fb δ=qA (fa δ) fb:=rfl
@[simp] theorem qA_t:qA (some (.bl true,δ)) fb=fb δ:=rfl
@[simp] theorem qA_f:qA (some (.bl false,δ)) fb=some (.bl false,δ):=rfl
noncomputable def qI(r:Option (Bool×Ev))(x y:VF):Option (Dat×Ev):=r.bind fun p=>if p.1=true then x p.2 else y p.2
@[simp] theorem yH0:fIf tb fa fb δ=qI (tb δ) fa fb:=rfl
@[simp] theorem qI_t:qI (some (true,δ)) fa fb=fa δ:=rfl
@[simp] theorem qI_f:qI (some (false,δ)) fa fb=fb δ:=rfl
noncomputable def qS(r:Option Ou)(g:VS):Option Ou:=r.bind fun o=>match o with
 | .nx δ'=>g δ'
 |o=>some o
@[simp] theorem yD8:sNil δ=some (.nx δ):=rfl
@[simp] theorem zE1:sSeq g g' δ=qS (g δ) g':=rfl
@[simp] theorem qS_n:qS (some (.nx δ)) g=g δ:=rfl
@[simp] theorem qS_r:qS (some (.rt d δ)) g=some (.rt d δ):=rfl
@[simp] theorem qS_b:qS (some (.bk δ)) g=some (.bk δ):=rfl
@[simp] theorem qS_c:qS (some (.ct δ)) g=some (.ct δ):=rfl
noncomputable def qJ(r:Option (Bool×Ev))(x y:VS):Option Ou:=r.bind fun p=>if p.1=true then x p.2 else y p.2
@[simp] theorem yFF:sIf tb g g' δ=qJ (tb δ) g g':=rfl
@[simp] theorem qJ_t:qJ (some (true,δ)) g g'=g δ:=rfl
@[simp] theorem qJ_f:qJ (some (false,δ)) g g'=g' δ:=rfl
noncomputable def qRet(r:Option (Dat×Ev)):Option Ou:=r.map fun p=> .rt p.1 p.2
@[simp] theorem yD7:sRet fa δ=qRet (fa δ):=rfl
@[simp] theorem yDP:qRet (some (d,δ))=some (.rt d δ):=rfl
noncomputable def qx(f:Dat->Sl)(r:Option (Dat×Ev)):Option (Sl×Ev):=r.map fun p=>(f p.1,p.2)
@[simp] theorem xV_e:xV fa δ=qx .va (fa δ):=rfl
@[simp] theorem xO_e:xO fa δ=qx .ow (fa δ):=rfl
@[simp] theorem qx_s{f:Dat->Sl}:qx f (some (d,δ))=some (f d,δ):=rfl
noncomputable def qSet(i:Nat)(r:Option (Sl×Ev)):Option Ou:=r.bind fun p=>if i<p.2.length then some (.nx (p.2.set i p.1)) else none
@[simp] theorem yD6{x:VX}:sSet i x δ=qSet i (x δ):=rfl
@[simp] theorem yDM:qSet i (some (s,δ))=if i<δ.length then some (.nx (δ.set i s)) else none:=rfl
noncomputable def qP2(i j:Nat)(r:Option (Sl×Ev))(y:VX):Option Ou:=r.bind fun p=>(y p.2).bind fun q=>if i<q.2.length/\j<q.2.length then some (.nx ((q.2.set j q.1).set i p.1)) else none
noncomputable def qP2b(i j:Nat)(s:Sl)(r:Option (Sl×Ev)):Option Ou:=r.bind fun q=>if i<q.2.length/\j<q.2.length then some (.nx ((q.2.set j q.1).set i s)) else none
@[simp] theorem yAP{x y:VX}:zHC i j x y δ=qP2 i j (x δ) y:=rfl
@[simp] theorem yFZ{y:VX}:qP2 i j (some (s,δ)) y=qP2b i j s (y δ):=rfl
@[simp] theorem yDS{s':Sl}:qP2b i j s (some (s',δ))=if i<δ.length/\j<δ.length then some (.nx ((δ.set j s').set i s)) else none:=rfl
noncomputable def qP3(i j k:Nat)(r:Option (Sl×Ev))(y z:VX):Option Ou:=r.bind fun p=>(y p.2).bind fun q=>(z q.2).bind fun r=>if i<r.2.length/\j<r.2.length/\k<r.2.length then some (.nx (((r.2.set k r.1).set j q.1).set i p.1)) else none
noncomputable def qP3b(i j k:Nat)(s:Sl)(r:Option (Sl×Ev))(z:VX):Option Ou:=r.bind fun q=>(z q.2).bind fun r=>if i<r.2.length/\j<r.2.length/\k<r.2.length then some (.nx (((r.2.set k r.1).set j q.1).set i s)) else none
noncomputable def qP3c(i j k:Nat)(s s':Sl)(r:Option (Sl×Ev)):Option Ou:=r.bind fun r=>if i<r.2.length/\j<r.2.length/\k<r.2.length then some (.nx (((r.2.set k r.1).set j s').set i s)) else none
@[simp] theorem yAO{x y z:VX}:zNN i j k x y z δ=qP3 i j k (x δ) y z:=rfl
@[simp] theorem yFY{y z:VX}:qP3 i j k (some (s,δ)) y z=qP3b i j k s (y δ) z:=rfl
@[simp] theorem yDR{s':Sl}{z:VX}:qP3b i j k s (some (s',δ)) z=qP3c i j k s s' (z δ):=rfl
@[simp] theorem yDQ{s' s'':Sl}:qP3c i j k s s' (some (s'',δ))=if i<δ.length/\j<δ.length/\k<δ.length then some (.nx (((δ.set k s'').set j s').set i s)) else none:=rfl
@[simp] theorem gN_e:gN i d δ=some (δ.set i (.va d)):=rfl
noncomputable def qg(r:Option Ev)(gs:VGs)(ds:List Dat):Option Ev:=r.bind fun δ1=>gs ds δ1
@[simp] theorem yCG:zEO [] δ=some δ:=rfl
@[simp] theorem zZR{gg:VG}{gs:VGs}:zB2 gg gs (d::ds) δ=qg (gg d δ) gs ds:=rfl
@[simp] theorem qg_s{gs:VGs}:qg (some δ) gs ds=gs ds δ:=rfl
@[simp] theorem yGX{gs:VGs}:gTp n gs (.tup ds) δ=if ds.length=n then gs ds δ else none:=rfl
@[simp] theorem yGY{gs:VGs}:gTp n gs (.lst ds) δ=if ds.length=n then gs ds δ else none:=rfl
noncomputable def qAsg(r:Option (Dat×Ev))(gg:VG):Option Ou:=r.bind fun p=>(gg p.1 p.2).map Ou.nx
@[simp] theorem yDB{gg:VG}:sAsg fa gg δ=qAsg (fa δ) gg:=rfl
@[simp] theorem yDY{gg:VG}:qAsg (some (d,δ)) gg=(gg d δ).map Ou.nx:=rfl
noncomputable def qM(i:Nat)(m:List Dat->List Dat->Option (List Dat))(r:Option (List Dat))(δ:Ev)(fs:VFs):Option Ou:=r.bind fun _=>(fs δ).bind fun p=>(ownL p.2 i).bind fun ds=>(m ds p.1).map fun ds'=> .nx (p.2.set i (.ow (.lst ds')))
noncomputable def qMb(i:Nat)(m:List Dat->List Dat->Option (List Dat))(r:Option (List Dat×Ev)):Option Ou:=r.bind fun p=>(ownL p.2 i).bind fun ds=>(m ds p.1).map fun ds'=> .nx (p.2.set i (.ow (.lst ds')))
noncomputable def qMc(i:Nat)(m:List Dat->List Dat->Option (List Dat))(es:List Dat)(δ:Ev)(r:Option (List Dat)):Option Ou:=r.bind fun ds=>(m ds es).map fun ds'=> .nx (δ.set i (.ow (.lst ds')))
noncomputable def qMd(i:Nat)(δ:Ev)(r:Option (List Dat)):Option Ou:=r.map fun ds'=> .nx (δ.set i (.ow (.lst ds')))
@[simp] theorem yD9{m:List Dat->List Dat->Option (List Dat)}{fs:VFs}:sMut i m fs δ=qM i m (ownL δ i) δ fs:=rfl
@[simp] theorem qM_s{m:List Dat->List Dat->Option (List Dat)}{fs:VFs}:qM i m (some ds) δ fs=qMb i m (fs δ):=rfl
@[simp] theorem yG6{m:List Dat->List Dat->Option (List Dat)}{es:List Dat}:qMb i m (some (es,δ))=qMc i m es δ (ownL δ i):=rfl
@[simp] theorem yG5{m:List Dat->List Dat->Option (List Dat)}{es:List Dat}:qMc i m es δ (some ds)=qMd i δ (m ds es):=rfl
@[simp] theorem yG4:qMd i δ (some ds)=some (.nx (δ.set i (.ow (.lst ds)))):=rfl
noncomputable def qOl:Option Sl->Option (List Dat)
 |some (.ow (.lst ds))=>some ds
 |_=>none
@[simp] theorem yE3:ownL δ i=qOl δ[i]? :=by unfold ownL qOl;split<;>simp_all
@[simp] theorem yG2:qOl (some (.ow (.lst ds)))=some ds:=rfl
@[simp] theorem yEN:mApp ds [d]=if ds.length<16777216 then some (ds++[d]) else none:=rfl
noncomputable def qOd:Option Sl->Option (List Key×List Dat)
 |some (.ow (.dct ks ds))=>some (ks,ds)
 |_=>none
@[simp] theorem yE4:ownD δ i=qOd δ[i]? :=by unfold ownD qOd;split<;>simp_all
@[simp] theorem yG3{ks:List Key}:qOd (some (.ow (.dct ks ds)))=some (ks,ds):=rfl
noncomputable def qL(i:Nat)(r:Option (Dat×Ev))(fi:VF):Option Ou:=r.bind fun p=>(ownL p.2 i).bind fun _=>(fi p.2).bind fun q=>(ownL q.2 i).bind fun ds=>match q.1 with
 | .int k=>(ixN ds.length k).map fun j=> .nx (q.2.set i (.ow (.lst (ds.set j p.1))))
 |_=>none
noncomputable def qLb(i:Nat)(x:Dat)(r:Option (List Dat))(δ:Ev)(fi:VF):Option Ou:=r.bind fun _=>(fi δ).bind fun q=>(ownL q.2 i).bind fun ds=>match q.1 with
 | .int k=>(ixN ds.length k).map fun j=> .nx (q.2.set i (.ow (.lst (ds.set j x))))
 |_=>none
noncomputable def qLc(i:Nat)(x:Dat)(r:Option (Dat×Ev)):Option Ou:=r.bind fun q=>(ownL q.2 i).bind fun ds=>match q.1 with
 | .int k=>(ixN ds.length k).map fun j=> .nx (q.2.set i (.ow (.lst (ds.set j x))))
 |_=>none
noncomputable def qLd(i:Nat)(x:Dat)(k:Int)(δ:Ev)(r:Option (List Dat)):Option Ou:=r.bind fun ds=>(ixN ds.length k).map fun j=> .nx (δ.set i (.ow (.lst (ds.set j x))))
@[simp] theorem yAN{fi fv:VF}:zQE i fi fv δ=qL i (fv δ) fi:=rfl
@[simp] theorem qL_s{fi:VF}:qL i (some (x,δ)) fi=qLb i x (ownL δ i) δ fi:=rfl
@[simp] theorem yG9{fi:VF}:qLb i x (some ds) δ fi=qLc i x (fi δ):=rfl
@[simp] theorem yG8{k:Int}:qLc i x (some (.int k,δ))=qLd i x k δ (ownL δ i):=rfl
@[simp] theorem yG7{k:Int}:qLd i x k δ (some ds)=(ixN ds.length k).map fun j=> .nx (δ.set i (.ow (.lst (ds.set j x)))):=rfl
noncomputable def qi(r:Option (Dat×Ev)):Option (List Dat×Ev):=r.bind fun p=>(seqD p.1).map fun ds=>(ds,p.2)
@[simp] theorem yF0:iSeq fa δ=qi (fa δ):=rfl
@[simp] theorem qi_t:qi (some (.tup ds,δ))=some (ds,δ):=rfl
@[simp] theorem qi_l:qi (some (.lst ds,δ))=some (ds,δ):=rfl
noncomputable def qr1:Option (Dat×Ev)->Option (List Dat×Ev)
 |some (.int j,δ)=>if -4611686018427387904<=j/\j<4611686018427387904 then some (rngD 0 j.toNat,δ) else none
 |_=>none
@[simp] theorem yGW:iR1 fa δ=qr1 (fa δ):=by
 unfold iR1 qr1
 cases fa δ with
 |none=>rfl
 |some p=>
  obtain⟨d,e⟩:=p
  cases d<;>rfl
@[simp] theorem yFM{j:Int}:qr1 (some (.int j,δ))=if -4611686018427387904<=j/\j<4611686018427387904 then some (rngD 0 j.toNat,δ) else none:=rfl
noncomputable def qe(r:Option (Dat×Ev)):Option (List Dat×Ev):=r.bind fun p=>(seqD p.1).map fun ds=>(enuD 0 ds,p.2)
@[simp] theorem yCF:zR5 fa δ=qe (fa δ):=rfl
@[simp] theorem qe_t:qe (some (.tup ds,δ))=some (enuD 0 ds,δ):=rfl
@[simp] theorem qe_l:qe (some (.lst ds,δ))=some (enuD 0 ds,δ):=rfl
noncomputable def qz(r:Option (Dat×Ev))(g:VF):Option (List Dat×Ev):=r.bind fun p=>(g p.2).bind fun q=>(seqD p.1).bind fun ds=>(seqD q.1).map fun es=>(zipD ds es,q.2)
noncomputable def qzb(x:Dat)(r:Option (Dat×Ev)):Option (List Dat×Ev):=r.bind fun q=>(seqD x).bind fun ds=>(seqD q.1).map fun es=>(zipD ds es,q.2)
@[simp] theorem yEZ:iZip fa fb δ=qz (fa δ) fb:=rfl
@[simp] theorem qz_s:qz (some (x,δ)) fb=qzb x (fb δ):=rfl
@[simp] theorem yFG:qzb x (some (y,δ))=(seqD x).bind fun ds=>(seqD y).map fun es=>(zipD ds es,δ):=rfl
@[simp] theorem yD4:seqD (.tup ds)=some ds:=rfl
@[simp] theorem yD5:seqD (.lst ds)=some ds:=rfl
noncomputable def qF(r:Option (List Dat×Ev))(gg:VG)(g:VS):Option Ou:=r.bind fun p=>forV gg g p.1 p.2
@[simp] theorem yDA{fi:VI}{gg:VG}:sFor fi gg g δ=qF (fi δ) gg g:=rfl
@[simp] theorem qF_s{gg:VG}:qF (some (ds,δ)) gg g=forV gg g ds δ:=rfl
noncomputable def qK(ix:List Nat)(nl:Nat)(r:Option (List Dat×Ev))(gg:VG)(tb:VB)(fe:VF):Option (Dat×Ev):=r.bind fun p=>(zCN ix.length nl gg tb fe p.1 [] (zBR ix p.2)).map fun q=>(.lst q.1,zD8 ix q.2 p.2)
noncomputable def qKb(ix:List Nat)(δ:Ev)(r:Option (List Dat×Ev)):Option (Dat×Ev):=r.map fun q=>(.lst q.1,zD8 ix q.2 δ)
@[simp] theorem yCL{ix:List Nat}{nl:Nat}{fi:VI}{gg:VG}:zD7 ix nl fi gg tb fa δ=qK ix nl (fi δ) gg tb fa:=rfl
@[simp] theorem qK_s{ix:List Nat}{nl:Nat}{gg:VG}:qK ix nl (some (ds,δ)) gg tb fa=qKb ix δ (zCN ix.length nl gg tb fa ds [] (zBR ix δ)):=rfl
@[simp] theorem yGA{ix:List Nat}:qKb ix δ (some (ds,δ1))=some (.lst ds,zD8 ix δ1 δ):=rfl
variable{as:List AV}{fs:VFg}{mF:List Nat}{F:VFun}
noncomputable def qa(r:Option (Dat×Ev))(fs:VFg):Option (List AV×Ev):=r.bind fun p=>(fs p.2).map fun q=>(.d p.1::q.1,q.2)
noncomputable def qab(x:AV)(r:Option (List AV×Ev)):Option (List AV×Ev):=r.map fun q=>(x::q.1,q.2)
@[simp] theorem zZK:aNil δ=some ([],δ):=rfl
@[simp] theorem aE_e:aE fa fs δ=qa (fa δ) fs:=rfl
@[simp] theorem qa_s:qa (some (x,δ)) fs=qab (.d x) (fs δ):=rfl
@[simp] theorem zTA{a:AV}:qab a (some (as,δ))=some (a::as,δ):=rfl
noncomputable def qao(j:Nat)(r:Option Dat)(δ:Ev)(fs:VFg):Option (List AV×Ev):=r.bind fun _=>qab (.o j) (fs δ)
@[simp] theorem aO_e:aO j fs δ=qao j (slot δ j) δ fs:=rfl
@[simp] theorem yAY:qao j (some d) δ fs=qab (.o j) (fs δ):=rfl
noncomputable def qsl:Option Sl->Option Dat
 |some (.va d)=>some d
 |some (.ow d)=>some d
 |_=>none
@[simp] theorem yD3:slot δ j=qsl δ[j]? :=by unfold slot qsl;split<;>simp_all
@[simp] theorem yFK:qsl (some (.va d))=some d:=rfl
@[simp] theorem yFL:qsl (some (.ow d))=some d:=rfl
noncomputable def qaI(r:Option (Bool×Ev))(i j:Nat)(fs:VFg):Option (List AV×Ev):=r.bind fun p=>if p.1=true then aO i fs p.2 else aO j fs p.2
@[simp] theorem yH5:aIf tb i j fs δ=qaI (tb δ) i j fs:=rfl
@[simp] theorem yFU:qaI (some (true,δ)) i j fs=aO i fs δ:=rfl
@[simp] theorem yFV:qaI (some (false,δ)) i j fs=aO j fs δ:=rfl
@[simp] theorem yCX:zES δ []=some []:=rfl
@[simp] theorem yCY:zES δ (.d d::as)=(zES δ as).map fun ds=>d::ds:=rfl
@[simp] theorem yCW:zES δ (.o j::as)=(slot δ j).bind fun d=>(zES δ as).map fun ds=>d::ds:=rfl
noncomputable def zWR(n:Nat)(mF:List Nat)(F:VFun)(r:Option (List AV×Ev)):Option (Dat×Ev):=r.bind fun p=>(zES p.2 p.1).bind fun ds=>if ds.length=n/\zF6 mF p.1 p.2=true then(F ds).bind fun q=>if zEJ mF p.1 q.1 q.2=true then some (q.1,putO p.1 mF q.2 p.2) else none else none
noncomputable def qCb(n:Nat)(mF:List Nat)(F:VFun)(as:List AV)(δ:Ev)(r:Option (List Dat)):Option (Dat×Ev):=r.bind fun ds=>if ds.length=n/\zF6 mF as δ=true then(F ds).bind fun q=>if zEJ mF as q.1 q.2=true then some (q.1,putO as mF q.2 δ) else none else none
noncomputable def qCc(mF:List Nat)(as:List AV)(δ:Ev)(r:Option (Dat×List Dat)):Option (Dat×Ev):=r.bind fun q=>if zEJ mF as q.1 q.2=true then some (q.1,putO as mF q.2 δ) else none
@[simp] theorem zIA:zAE n mF F fs δ=zWR n mF F (fs δ):=rfl
@[simp] theorem zTB:zWR n mF F (some (as,δ))=qCb n mF F as δ (zES δ as):=rfl
@[simp] theorem yB0:qCb n mF F as δ (some ds)=if ds.length=n/\zF6 mF as δ=true then qCc mF as δ (F ds) else none:=rfl
@[simp] theorem yAZ{os:List Dat}:qCc mF as δ (some (d,os))=if zEJ mF as d os=true then some (d,putO as mF os δ) else none:=rfl
@[simp] theorem yC2:zR0 δ as i=(match as[i]? with
 |some (.o j)=>match δ[j]? with
  |some (.ow _)=>true
  |_=>false
 |_=>false):=rfl
@[simp] theorem yER:jsOf []=[]:=rfl
@[simp] theorem yES:jsOf (.d d::as)=jsOf as:=rfl
@[simp] theorem yEQ:jsOf (.o j::as)=j::jsOf as:=rfl
@[simp] theorem zZT:zF6 mF as δ=(mF.all (zR0 δ as) && decide (jsOf as).Nodup):=rfl
@[simp] theorem yD0:zET mF [] i=true:=rfl
@[simp] theorem yD1:zET mF (.d d::as) i=zET mF as (i+1):=rfl
@[simp] theorem yCZ:zET mF (.o j::as) i=(decide (i∈mF) && zET mF as (i+1)):=rfl
@[simp] theorem zZU{os:List Dat}:zEJ mF as d os=((zET mF as 0 || d.hard) && (zET mF as 0 || os.all zGG) && decide (mF.length=os.length)):=rfl
@[simp] theorem yE1{os:List Dat}:putO as [] os δ=δ:=by cases os<;>rfl
@[simp] theorem yE2{os:List Dat}{is:List Nat}:putO as (i::is) (d::os) δ=(match as[i]? with
  |some (.o j)=>putO as is os (δ.set j (.ow d))
  |_=>putO as is os δ):=rfl
@[simp] theorem yF9:dflt F d ds=F (ds++[d]):=rfl
noncomputable def qins(r:Option (Dat×List Dat)):Option (Dat×List Dat):=r.map fun q=>(q.1,q.2.dropLast)
@[simp] theorem yEY:insD i F ds=qins (F (ds.take i++ .dct [] []::ds.drop i)):=rfl
@[simp] theorem yDJ{os:List Dat}:qins (some (d,os))=some (d,os.dropLast):=rfl
@[simp] theorem yGI:pNo δ=some (none,δ):=rfl
noncomputable def qpS:Option (Dat×Ev)->Option (Option Int×Ev)
 |some (.int i,δ)=>some (some i,δ)
 |_=>none
@[simp] theorem yGH:pSo fa δ=qpS (fa δ):=by
 unfold pSo qpS
 cases fa δ with
 |none=>rfl
 |some p=>
  obtain⟨d,e⟩:=p
  cases d<;>rfl
@[simp] theorem yFN{i:Int}:qpS (some (.int i,δ))=some (some i,δ):=rfl
noncomputable def qSl(r:Option (Dat×Ev))(fl fh:VP):Option (Dat×Ev):=r.bind fun p=>(fl p.2).bind fun l=>(fh l.2).bind fun u=>(oSl p.1 l.1 u.1).map fun c=>(c,u.2)
noncomputable def qSlb(x:Dat)(r:Option (Option Int×Ev))(fh:VP):Option (Dat×Ev):=r.bind fun l=>(fh l.2).bind fun u=>(oSl x l.1 u.1).map fun c=>(c,u.2)
noncomputable def qSlc(x:Dat)(l:Option Int)(r:Option (Option Int×Ev)):Option (Dat×Ev):=r.bind fun u=>q0 (oSl x l u.1) u.2
@[simp] theorem yGZ{fl fh:VP}:fSl fa fl fh δ=qSl (fa δ) fl fh:=rfl
@[simp] theorem yFX{fl fh:VP}:qSl (some (x,δ)) fl fh=qSlb x (fl δ) fh:=rfl
@[simp] theorem yDL{l:Option Int}{fh:VP}:qSlb x (some (l,δ)) fh=qSlc x l (fh δ):=rfl
@[simp] theorem yDK{l u:Option Int}:qSlc x l (some (u,δ))=q0 (oSl x l u) δ:=rfl
@[simp] theorem yGM{l u:Option Int}:oSl (.tup ds) l u=some (.tup (cutD ds l u)):=rfl
@[simp] theorem yGN{l u:Option Int}:oSl (.lst ds) l u=some (.lst (cutD ds l u)):=rfl
noncomputable def qSt(i j:Nat):Option (Dat×Ev)->Option Ou
 |some (.tup (d::ds),δ)=>some (.nx ((δ.set i (.va d)).set j (.va (.lst ds))))
 |_=>none
@[simp] theorem yAM:zM9 i j fa δ=qSt i j (fa δ):=by
 unfold zM9 qSt
 cases fa δ with
 |none=>rfl
 |some p=>
  obtain⟨d,e⟩:=p
  cases d with
  |tup ds=>cases ds<;>rfl
  |_=>rfl
@[simp] theorem yFW:qSt i j (some (.tup (d::ds),δ))=some (.nx ((δ.set i (.va d)).set j (.va (.lst ds)))):=rfl
noncomputable def qDg(i:Nat)(r:Option (List Key×List Dat))(δ:Ev)(fk fx:VF):Option (Dat×Ev):=r.bind fun _=>(fk δ).bind fun p=>(fx p.2).bind fun q=>(keyD p.1).bind fun k=>(ownD q.2 i).map fun z=>((zBU z.1 z.2 k).getD q.1,q.2)
noncomputable def qDgb(i:Nat)(r:Option (Dat×Ev))(fx:VF):Option (Dat×Ev):=r.bind fun p=>(fx p.2).bind fun q=>(keyD p.1).bind fun k=>(ownD q.2 i).map fun z=>((zBU z.1 z.2 k).getD q.1,q.2)
noncomputable def qDgc(i:Nat)(x:Dat)(r:Option (Dat×Ev)):Option (Dat×Ev):=r.bind fun q=>(keyD x).bind fun k=>(ownD q.2 i).map fun z=>((zBU z.1 z.2 k).getD q.1,q.2)
@[simp] theorem zZS:zLQ i fa fb δ=qDg i (ownD δ i) δ fa fb:=rfl
@[simp] theorem yGC{z:List Key×List Dat}:qDg i (some z) δ fa fb=qDgb i (fa δ) fb:=rfl
@[simp] theorem yDX:qDgb i (some (x,δ)) fb=qDgc i x (fb δ):=rfl
@[simp] theorem yDW:qDgc i x (some (y,δ))=(keyD x).bind fun k=>(ownD δ i).map fun z=>((zBU z.1 z.2 k).getD y,δ):=rfl
noncomputable def qDp(i:Nat)(r:Option (Dat×Ev))(fk:VF):Option Ou:=r.bind fun p=>(ownD p.2 i).bind fun _=>(fk p.2).bind fun q=>(keyD q.1).bind fun k=>(ownD q.2 i).bind fun z=>if z.1.length<16777216/\z.1.Nodup then some (.nx (q.2.set i (.ow (let r:=zDN z.1 z.2 k p.1;.dct r.1 r.2)))) else none
noncomputable def qDpb(i:Nat)(x:Dat)(r:Option (List Key×List Dat))(δ:Ev)(fk:VF):Option Ou:=r.bind fun _=>(fk δ).bind fun q=>(keyD q.1).bind fun k=>(ownD q.2 i).bind fun z=>if z.1.length<16777216/\z.1.Nodup then some (.nx (q.2.set i (.ow (let r:=zDN z.1 z.2 k x;.dct r.1 r.2)))) else none
noncomputable def qDpc(i:Nat)(x:Dat)(r:Option (Dat×Ev)):Option Ou:=r.bind fun q=>(keyD q.1).bind fun k=>(ownD q.2 i).bind fun z=>if z.1.length<16777216/\z.1.Nodup then some (.nx (q.2.set i (.ow (.dct (zDN z.1 z.2 k x).1 (zDN z.1 z.2 k x).2)))) else none
@[simp] theorem yAQ{fk fv:VF}:zQF i fk fv δ=qDp i (fv δ) fk:=rfl
@[simp] theorem yGB{fk:VF}:qDp i (some (x,δ)) fk=qDpb i x (ownD δ i) δ fk:=rfl
@[simp] theorem yDV{z:List Key×List Dat}{fk:VF}:qDpb i x (some z) δ fk=qDpc i x (fk δ):=rfl
@[simp] theorem yDU:qDpc i x (some (y,δ))=(keyD y).bind fun k=>(ownD δ i).bind fun z=>if z.1.length<16777216/\z.1.Nodup then some (.nx (δ.set i (.ow (.dct (zDN z.1 z.2 k x).1 (zDN z.1 z.2 k x).2)))) else none:=rfl
@[simp] theorem yEP{i:Int}:keyD (.int i)=some (.inl i):=rfl
@[simp] theorem yEO{s:Str}:keyD (.str s)=some (.inr s):=rfl
noncomputable def qRun(ml:List Nat):Option Ou->Option (Dat×List Dat)
 |some (.rt d δ)=>(outs ml δ).map fun os=>(d,os)
 |some (.nx δ)=>(outs ml δ).map fun os=>(.non,os)
 |_=>none
theorem zB0{ml:List Nat}:runV n ml g ds=qRun ml (g (envD ml n ds)):=by
 unfold runV qRun
 cases g (envD ml n ds) with
 |none=>rfl
 |some o=>cases o<;>rfl
@[simp] theorem yDN{ml:List Nat}:qRun ml (some (.rt d δ))=(outs ml δ).map fun os=>(d,os):=rfl
@[simp] theorem yDO{ml:List Nat}:qRun ml (some (.nx δ))=(outs ml δ).map fun os=>(.non,os):=rfl
noncomputable def qow:Option Sl->Option Dat
 |some (.ow d)=>some d
 |_=>none
@[simp] theorem yE5:outs [] δ=some []:=rfl
@[simp] theorem yE6{ml:List Nat}:outs (i::ml) δ=(qow δ[i]?).bind fun d=>(outs ml δ).map fun os=>d::os:=by
 unfold outs
 rw[K9]
 cases h:(δ[i]? :Option Sl) with
 | none => rfl
 | some s => cases s with
  |no=>rfl
  |va d=>rfl
  |ow d=>
   show(Option.bind _ fun os=>some (d::os))=Option.map (fun os=>d::os) _
   cases (List.mapM _ ml:Option (List Dat))<;>rfl
@[simp] theorem yFO:qow (some (.ow d))=some d:=rfl
end
section
variable{i j:Int}{x y:Str}{ds es:List Dat}
@[simp] theorem oI_e{C:Int->Int->Bool}{g:Int->Int->Dat}:oI C g (.int i) (.int j)=if C i j=true then some (g i j) else none:=rfl
@[simp] theorem yBR:zBY (.int i) (.int j)=some (.int (i+j)):=rfl
@[simp] theorem yBP:zBY (.tup ds) (.tup es)=if ds.length+es.length<=16777216 then some (.tup (ds++es)) else none:=rfl
@[simp] theorem yBQ:zBY (.lst ds) (.lst es)=if ds.length+es.length<=16777216 then some (.lst (ds++es)) else none:=rfl
@[simp] theorem yGO{g:Int->Int->Int}:o2I g (.int i) (.int j)=some (.int (g i j)):=rfl
@[simp] theorem yE9:oLen (.tup ds)=some (.int ds.length):=rfl
@[simp] theorem yEA:oLen (.lst ds)=some (.int ds.length):=rfl
@[simp] theorem yBW:zO8 (.tup ds)=some (.lst ds):=rfl
@[simp] theorem yBX:zO8 (.lst ds)=some (.lst ds):=rfl
@[simp] theorem zZN:zGT (.tup ds)=some (.tup ds):=rfl
@[simp] theorem zZO:zGT (.lst ds)=some (.tup ds):=rfl
@[simp] theorem yEB:oIxA (.tup ds) (.int i)=atI ds i:=rfl
@[simp] theorem yEC:oIxA (.lst ds) (.int i)=atI ds i:=rfl
@[simp] theorem yBZ{ks:List Key}:oIxA (.dct ks ds) (.int i)=zBU ks ds (.inl i):=rfl
@[simp] theorem yBY{ks:List Key}:oIxA (.dct ks ds) (.str x)=zBU ks ds (.inr x):=rfl
@[simp] theorem yGK:okD (.int i)=true:=rfl
@[simp] theorem yGJ:okD .non=true:=rfl
@[simp] theorem yGL{b:Bool}:okD (.bl b)=true:=rfl
@[simp] theorem yEX:isiT "int" "bool"=some false:=by decide+kernel
@[simp] theorem yEW:isiT "int" "int"=some true:=by decide+kernel
@[simp] theorem yEV:isiT "tuple" "tuple"=some true:=by decide+kernel
@[simp] theorem yEU:isiT "str" "str"=some true:=by decide+kernel
@[simp] theorem yET:isiT "list" "list"=some true:=by decide+kernel
@[simp] theorem yEG{n:String}:oIsi (.int i) (.ty n)=(isiT "int" n).map Dat.bl:=rfl
@[simp] theorem yED{n:String}:oIsi (.tup ds) (.ty n)=(isiT "tuple" n).map Dat.bl:=rfl
@[simp] theorem yEF{n:String}:oIsi (.lst ds) (.ty n)=(isiT "list" n).map Dat.bl:=rfl
@[simp] theorem yEE{n:String}:oIsi (.str x) (.ty n)=(isiT "str" n).map Dat.bl:=rfl
@[simp] theorem yEJ:oIsN .non .non=some (.bl true):=rfl
@[simp] theorem yEK:oIsN (.int i) .non=some (.bl false):=rfl
@[simp] theorem yEI:oIsN (.str x) .non=some (.bl false):=rfl
@[simp] theorem yEH:oIsN (.tup ds) .non=some (.bl false):=rfl
@[simp] theorem yBU:zI7 .non .non=some (.bl false):=rfl
@[simp] theorem yBV:zI7 (.int i) .non=some (.bl true):=rfl
@[simp] theorem yBT:zI7 (.str x) .non=some (.bl true):=rfl
@[simp] theorem yBS:zI7 (.tup ds) .non=some (.bl true):=rfl
end
section
variable{d x:Dat}{δ δ1:Ev}{r acc:List Dat}{gg:VG}{tb:VB}{fe:VF}{n nl:Nat}{g:VS}
noncomputable def qk1(n nl:Nat)(gg:VG)(tb:VB)(fe:VF)(r acc:List Dat)(o:Option Ev):Option (List Dat×Ev):=o.bind fun δ1=>(tb δ1).bind fun p=>if p.1=true then(fe p.2).bind fun q=>if acc.length<16777216 then zCN n nl gg tb fe r (acc++[q.1]) (q.2.take n) else none else zCN n nl gg tb fe r acc (p.2.take n)
noncomputable def qk2(n nl:Nat)(gg:VG)(tb:VB)(fe:VF)(r acc:List Dat)(o:Option (Bool×Ev)):Option (List Dat×Ev):=o.bind fun p=>if p.1=true then(fe p.2).bind fun q=>if acc.length<16777216 then zCN n nl gg tb fe r (acc++[q.1]) (q.2.take n) else none else zCN n nl gg tb fe r acc (p.2.take n)
noncomputable def qk3(n nl:Nat)(gg:VG)(tb:VB)(fe:VF)(r acc:List Dat)(o:Option (Dat×Ev)):Option (List Dat×Ev):=o.bind fun q=>if acc.length<16777216 then zCN n nl gg tb fe r (acc++[q.1]) (q.2.take n) else none
@[simp] theorem yCO:zCN n nl gg tb fe [] acc δ=some (acc,δ):=rfl
@[simp] theorem zPC:zCN n nl gg tb fe (d::r) acc δ=qk1 n nl gg tb fe r acc (gg d (δ++nos nl)):=rfl
@[simp] theorem zWQ:qk1 n nl gg tb fe r acc (some δ)=qk2 n nl gg tb fe r acc (tb δ):=rfl
@[simp] theorem zWP:qk2 n nl gg tb fe r acc (some (true,δ))=qk3 n nl gg tb fe r acc (fe δ):=rfl
@[simp] theorem yFP:qk2 n nl gg tb fe r acc (some (false,δ))=zCN n nl gg tb fe r acc (δ.take n):=rfl
@[simp] theorem zWO:qk3 n nl gg tb fe r acc (some (x,δ))=if acc.length<16777216 then zCN n nl gg tb fe r (acc++[x]) (δ.take n) else none:=rfl
noncomputable def qf1(gg:VG)(g:VS)(r:List Dat)(o:Option Ev):Option Ou:=o.bind fun δ1=>(g δ1).bind (zHB (forV gg g r))
noncomputable def qf2(gg:VG)(g:VS)(r:List Dat)(o:Option Ou):Option Ou:=o.bind (zHB (forV gg g r))
@[simp] theorem yF1:forV gg g [] δ=some (.nx δ):=rfl
@[simp] theorem zHW:forV gg g (d::r) δ=qf1 gg g r (gg d δ):=rfl
@[simp] theorem zMB:qf1 gg g r (some δ)=qf2 gg g r (g δ):=rfl
@[simp] theorem zNU:qf2 gg g r (some (.nx δ))=forV gg g r δ:=rfl
@[simp] theorem yFQ:qf2 gg g r (some (.ct δ))=forV gg g r δ:=rfl
@[simp] theorem yFR:qf2 gg g r (some (.bk δ))=some (.nx δ):=rfl
@[simp] theorem yAX:qf2 gg g r (some (.rt d δ))=some (.rt d δ):=rfl
@[simp] theorem yCS{ss:Ev}:zD8 [] ss δ=δ:=by cases ss<;>rfl
@[simp] theorem yCR{i:Nat}{is:List Nat}{ss:Ev}:zD8 (i::is) (.ow d::ss) δ=zD8 is ss (δ.set i (.ow d)):=rfl
@[simp] theorem yCQ{i:Nat}{is:List Nat}{ss:Ev}:zD8 (i::is) (.va d::ss) δ=zD8 is ss δ:=rfl
@[simp] theorem yCP{i:Nat}{is:List Nat}{ss:Ev}:zD8 (i::is) (.no::ss) δ=zD8 is ss δ:=rfl
end
@[simp] theorem zYJ:nos 1=[.no]:=rfl
@[simp] theorem yGQ:nos 2=[.no,.no]:=rfl
@[simp] theorem yGP:nos 3=[.no,.no,.no]:=rfl
@[simp] theorem yDG{i:Int}:rngD i 0=[]:=rfl
@[simp] theorem yDF:rngD 0 1=[.int 0]:=rfl
@[simp] theorem yDE:rngD 0 2=[.int 0,.int 1]:=rfl
@[simp] theorem yDD:rngD 0 3=[.int 0,.int 1,.int 2]:=rfl
@[simp] theorem yDC:rngD 0 4=[.int 0,.int 1,.int 2,.int 3]:=rfl
theorem zHZ{α:Type}{xs:List α}{i:Int}(h0:0<=i)(h1:i<xs.length):atI xs i=xs[i.toNat]? :=by
 unfold atI ixN
 rw[if_pos h0,if_pos h1]
 rfl
theorem zPQ{α:Type}{xs:List α}{i:Int}(h0:0<=i)(h1:i<xs.length): ∃x∈xs,atI xs i=some x:=by
 rw[zHZ h0 h1]
 have h:i.toNat<xs.length:=by omega
 exact⟨xs[i.toNat],Jk _,Dc h⟩
section
variable{F:VFun}{fa fb fc:VF}{δ:Ev}{x y z d o:Dat}{j:Nat}
noncomputable def qcr(δ:Ev):Option (Dat×List Dat)->Option (Dat×Ev)
 |some (d,[])=>some (d,δ)
 |_=>none
@[simp] theorem yFS:qcr δ (some (d,[]))=some (d,δ):=rfl
theorem zPK{n:Nat}{ds:List Dat}{as:List AV}(h:zES δ as=some ds)(hn:ds.length=n)(hj:jsOf as=[])(ha:zET [] as 0=true):qCb n [] F as δ (some ds)=qcr δ (F ds):=by
 have hc:zF6 [] as δ=true:=by simp[hj]
 rw[yB0,if_pos ⟨hn,hc⟩]
 cases F ds with
 |none=>rfl
 |some q=>
  obtain⟨r,os⟩:=q
  rw[yAZ]
  cases os with
  |nil=>simp[ha,qcr]
  |cons o os=>simp[qcr]
noncomputable def qx1(F:VFun)(r:Option (Dat×Ev)):Option (Dat×Ev):=r.bind fun p=>qcr p.2 (F [p.1])
@[simp] theorem yFH:qx1 F (some (x,δ))=qcr δ (F [x]):=rfl
@[simp high] theorem call1:zAE 1 [] F (aE fa aNil) δ=qx1 F (fa δ):=by
 rw[zIA,aE_e]
 cases fa δ with
 |none=>rfl
 |some p=>exact zPK (as:=[.d p.1]) rfl rfl rfl rfl
noncomputable def qx2(F:VFun)(r:Option (Dat×Ev))(fb:VF):Option (Dat×Ev):=r.bind fun p=>(fb p.2).bind fun q=>qcr q.2 (F [p.1,q.1])
noncomputable def qx2b(F:VFun)(x:Dat)(r:Option (Dat×Ev)):Option (Dat×Ev):=r.bind fun q=>qcr q.2 (F [x,q.1])
@[simp] theorem yAU:qx2 F (some (x,δ)) fb=qx2b F x (fb δ):=rfl
@[simp] theorem yDI:qx2b F x (some (y,δ))=qcr δ (F [x,y]):=rfl
@[simp high] theorem call2:zAE 2 [] F (aE fa (aE fb aNil)) δ=qx2 F (fa δ) fb:=by
 rw[zIA,aE_e]
 cases fa δ with
 |none=>rfl
 |some p=>
  rw[qa_s,aE_e,yAU]
  cases fb p.2 with
  |none=>rfl
  |some q=>exact zPK (as:=[.d p.1,.d q.1]) rfl rfl rfl rfl
noncomputable def qx3(F:VFun)(r:Option (Dat×Ev))(fb fc:VF):Option (Dat×Ev):=r.bind fun p=>(fb p.2).bind fun q=>(fc q.2).bind fun s=>qcr s.2 (F [p.1,q.1,s.1])
noncomputable def qx3b(F:VFun)(x:Dat)(r:Option (Dat×Ev))(fc:VF):Option (Dat×Ev):=r.bind fun q=>(fc q.2).bind fun s=>qcr s.2 (F [x,q.1,s.1])
noncomputable def qx3c(F:VFun)(x y:Dat)(r:Option (Dat×Ev)):Option (Dat×Ev):=r.bind fun s=>qcr s.2 (F [x,y,s.1])
@[simp] theorem yAT:qx3 F (some (x,δ)) fb fc=qx3b F x (fb δ) fc:=rfl
@[simp] theorem zWN:qx3b F x (some (y,δ)) fc=qx3c F x y (fc δ):=rfl
@[simp] theorem yDH:qx3c F x y (some (z,δ))=qcr δ (F [x,y,z]):=rfl
@[simp high] theorem call3:zAE 3 [] F (aE fa (aE fb (aE fc aNil))) δ=qx3 F (fa δ) fb fc:=by
 rw[zIA,aE_e]
 cases fa δ with
 | none => rfl
 |some p=>
  rw[qa_s,aE_e,yAT]
  cases fb p.2 with
  |none=>rfl
  |some q=>
   rw[qa_s,aE_e,zWN]
   cases fc q.2 with
   |none=>rfl
   |some s=>exact zPK (as:=[.d p.1,.d q.1,.d s.1]) rfl rfl rfl rfl
noncomputable def qw3(j:Nat)(δ:Ev):Option (Dat×List Dat)->Option (Dat×Ev)
 |some (r,[o])=>some (r,δ.set j (.ow o))
 |_=>none
noncomputable def qw2(F:VFun)(j:Nat)(x y:Dat)(δ:Ev):Option Sl->Option (Dat×Ev)
 |some (.ow d)=>qw3 j δ (F [x,d,y])
 |_=>none
noncomputable def qwb(F:VFun)(j:Nat)(x:Dat)(r:Option (Dat×Ev)):Option (Dat×Ev):=r.bind fun q=>qw2 F j x q.1 q.2 q.2[j]?
noncomputable def qwa(F:VFun)(j:Nat)(x:Dat)(δ:Ev)(fb:VF)(s:Option Dat):Option (Dat×Ev):=s.bind fun _=>qwb F j x (fb δ)
noncomputable def qw(F:VFun)(j:Nat)(r:Option (Dat×Ev))(fb:VF):Option (Dat×Ev):=r.bind fun p=>qwa F j p.1 p.2 fb (slot p.2 j)
@[simp] theorem yFI:qw3 j δ (some (x,[o]))=some (x,δ.set j (.ow o)):=rfl
@[simp] theorem yFJ:qw2 F j x y δ (some (.ow d))=qw3 j δ (F [x,d,y]):=rfl
@[simp] theorem yAV:qwb F j x (some (y,δ))=qw2 F j x y δ δ[j]? :=rfl
@[simp] theorem yAW:qwa F j x δ fb (some d)=qwb F j x (fb δ):=rfl
@[simp] theorem qw_s:qw F j (some (x,δ)) fb=qwa F j x δ fb (slot δ j):=rfl
@[simp high] theorem callO:zAE 3 [1] F (aE fa (aO j (aE fb aNil))) δ=qw F j (fa δ) fb:=by
 rw[zIA,aE_e]
 cases fa δ with
 | none => rfl
 |some p=>
  obtain⟨x,δ1⟩:=p
  rw[qa_s,aO_e,qw_s]
  cases h:slot δ1 j with
  | none => rfl
  |some d0=>
   rw[yAY,aE_e,yAW]
   cases fb δ1 with
   | none => rfl
   |some q=>
    obtain⟨y,δ2⟩:=q
    rw[yAV,qa_s,zZK,zTA,zTA,zTA,zTB]
    cases h2:δ2[j]? with
    | none => simp [h2,qsl,qCb,qw2]
    |some s=>
     cases s with
     | no => simp [h2,qsl,qCb,qw2]
     | va d => simp [h2,qw2]
     |ow d=>
      simp[h2]
      cases F [x,d,y] with
      | none => rfl
      |some r=>
       obtain⟨v,os⟩:=r
       cases os with
       |nil=>simp[qw3]
       |cons o os=>
        cases os with
        |nil=>simp
        |cons o2 os=>simp[qw3]
end
def zB6:Dat:= .int 999
def zPM:Dat:= .tup [.str "plus",.str "minus",.str "times",.str "least",.str "most",.str "less",.str "over"]
def zSG:Dat:= .dct [.inr "plus",.inr "minus",.inr "times",.inr "least",.inr "most",.inr "less",.inr "over"] [.fn "plus",.fn "minus",.fn "times",.fn "least",.fn "most",.fn "less",.fn "over"]
def zDT:Dat:= .int 64
def zD1:Dat:= .int 63
def zG4:Dat:= .tup [.str "row",.str "row"]
def zF8:Dat:= .dct [.inr "number",.inr "pick",.inr "load",.inr "take",.inr "store",.inr "put"] [.tup [.str "word"],.tup [.str "row",.str "row",.str "row"],.tup [.str "place"],.tup [.str "place",.str "row",.str "row"],.tup [.str "place",.str "row"],.tup [.str "place",.str "row",.str "row"]]
def zJR:Dat:= .tup [.str "load",.str "take"]
def zF7:Dat:= .tup [.str "store",.str "put"]
def zCO:Dat:= .int 2
def zD2:Dat:= .int 4
def zEA:Dat:= .int 64
def zBL:Dat:= .int 400
noncomputable abbrev xcs:List Str:=["NoCells","NoProgram"]
noncomputable abbrev xall:List Str:=["NoBlock","NoCells","NoRow","NoLanes","NoPlan","NoProgram","NoTree","NoLoop","NoText","NoName","TooMany","TooLong","NotValid","Nothing"]
def zFP:VS:=
   (sSeq (sIf (bOr (fB (f2 oIsi (fV 0) (fC (.ty "bool")))) (bNot (fB (f2 oIsi (fV 0) (fC (.ty "int"))))))
   (sRet (fC (.bl false)))
   sNil)
   (sRet (f3 oLe oLe (fV 1) (fV 0) (fV 2))))
def zAO:VFun:=runV 3 [] zFP
def zS9:VS:=
   (sRet (f2 oMod (f2 zBY (fV 0) (fV 1)) (f2 zBY (fC zB6) (fC (.int 1)))))
def zLZ:VFun:=runV 2 [] zS9
def zOW:VS:=
   (sRet (f2 oMod (f2 oSub (fV 0) (fV 1)) (f2 zBY (fC zB6) (fC (.int 1)))))
def zII:VFun:=runV 2 [] zOW
def zOU:VS:=
   (sRet (f2 oMod (f2 zE6 (fV 0) (fV 1)) (f2 zBY (fC zB6) (fC (.int 1)))))
def zIG:VFun:=runV 2 [] zOU
def zOX:VS:=
   (sRet (f2 oMin (fV 0) (fV 1)))
def zIJ:VFun:=runV 2 [] zOX
def zSC:VS:=
   (sRet (f2 oMax (fV 0) (fV 1)))
def zM2:VFun:=runV 2 [] zSC
def zSD:VS:=
   (sRet (fIf (fB (f2 oLt (fV 0) (fV 1))) (fC (.int 1)) (fC (.int 0))))
def zM3:VFun:=runV 2 [] zSD
def zSB:VS:=
   (sRet (fIf (fB (f2 oEq (fV 1) (fC (.int 0)))) (fC .non) (f2 zO9 (fV 0) (fV 1))))
def zM1:VFun:=runV 2 [] zSB
def zSA:VS:=
   (sRet (fIf (fB (f2 oNe (fV 0) (fC (.int 0)))) (fV 1) (fV 2)))
def zM0:VFun:=runV 3 [] zSA
def zSE:VS:=
   (sSeq (sIf (fB (f2 oEq (fV 0) (fC (.str "pick"))))
   (sRet (zAE 3 [] zM0 (aE (f2 oIxA (fV 1) (fC (.int 0))) (aE (f2 oIxA (fV 1) (fC (.int 1))) (aE (f2 oIxA (fV 1) (fC (.int 2))) aNil)))))
   sNil)
   (sSeq (sSet 2 (xV (f2 oIxA (fC zSG) (fV 0))))
   (sRet (zOZ 2 [] [("plus",zLZ),("minus",zII),("times",zIG),("least",zIJ),("most",zM2),("less",zM3),("over",zM1)] 2 (aE (f2 oIxA (fV 1) (fC (.int 0))) (aE (f2 oIxA (fV 1) (fC (.int 1))) aNil))))))
def zM4:VFun:=runV 3 [] zSE
def zHU:VS:=
   (sSeq (sIf (fB (f2 (oInD false) (fV 0) (fC zPM)))
   (sRet (fC zG4))
   sNil)
   (sRet (f2 zYI (fC zF8) (fV 0))))
def zB5:VFun:=runV 1 [] zHU
def zG2:VS:=
   (sRet (f2 (oInD true) (f2 oIxA (fV 0) (fC (.int 0))) (fC zF7)))
def zCI:VFun:=runV 1 [] zG2
def zHT:VS:=
   (sRet (fIf (bOr (fB (f2 (oInD false) (f2 oIxA (fV 0) (fC (.int 0))) (fC zJR))) (fB (f2 (oInD false) (f2 oIxA (fV 0) (fC (.int 0))) (fC zF7)))) (f2 oIxA (fV 0) (fC (.int 1))) (fC .non)))
def zEH:VFun:=runV 1 [] zHT
def zHV:VS:=
   (sSeq (zM9 1 2 (fV 0))
   (sRet (zD7 [] 2 (iZip (zAE 1 [] zB5 (aE (fV 1) aNil)) (fV 2)) (gTp 2 (zB2 (gN 0) (zB2 (gN 1) zEO))) (fB (f2 oEq (fV 0) (fC (.str "row")))) (fV 1))))
def zCR:VFun:=runV 3 [] zHV
def zDE:VS:=
   (sRet (fAnd (zAE 3 [] zAO (aE (fV 0) (aE (fC (.int 0)) (aE (f2 oSub (f1 oLen (fV 1)) (fC (.int 1))) aNil)))) (f2 oIxA (fV 1) (fV 0))))
def zAJ:VFun:=runV 2 [] zDE
def zH1:VS:=
   (sSeq (sIf (fB (f2 oEq (fV 0) (fC (.str "word"))))
   (sRet (zAE 3 [] zAO (aE (fV 1) (aE (fC (.int 0)) (aE (fC zB6) aNil)))))
   sNil)
   (sSeq (sIf (fB (f2 oEq (fV 0) (fC (.str "place"))))
   (sRet (zAE 3 [] zAO (aE (fV 1) (aE (fC (.int 0)) (aE (fC zD1) aNil)))))
   sNil)
   (sRet (zAE 2 [] zAJ (aE (fV 1) (aE (fV 2) aNil))))))
def zDZ:VFun:=runV 3 [] zH1
def zF2:VS:=
   (sSeq (sIf (bOr (bNot (fB (f2 oIsi (fV 0) (fC (.ty "tuple"))))) (fB (f2 oEq (f1 oLen (fV 0)) (fC (.int 0)))))
   (sRet (fC (.bl false)))
   sNil)
   (sSeq (zM9 2 3 (fV 0))
   (sSeq (sSet 4 (xV (fIf (fB (f2 oIsi (fV 2) (fC (.ty "str")))) (zAE 1 [] zB5 (aE (fV 2) aNil)) (fC .non))))
   (sSeq (sIf (bOr (fB (f2 oIsN (fV 4) (fC .non))) (fB (f2 oNe (f1 oLen (fV 4)) (f1 oLen (fV 3)))))
   (sRet (fC (.bl false)))
   sNil)
   (sRet (f1 oAll (zD7 [1] 2 (iZip (fV 4) (fV 3)) (gTp 2 (zB2 (gN 1) (zB2 (gN 2) zEO))) bYes (zAE 3 [] zDZ (aE (fV 1) (aE (fV 2) (aE (fV 0) aNil)))))))))))
def zCG:VFun:=runV 5 [] zF2
def zEF:VS:=
   (sRet (zAE 3 [] zAO (aE (fV 0) (aE (fC zCO) (aE (fC zD2) aNil)))))
def zC5:VFun:=runV 1 [] zEF
def zFQ:VS:=
   (sSeq (sIf (bOr (bNot (fB (f2 oIsi (fV 0) (fC (.ty "list"))))) (bNot (fB (f3 oLe oLe (fV 1) (f1 oLen (fV 0)) (fC zEA)))))
   (sRet (fC (.bl false)))
   sNil)
   (sRet (f1 oAll (zD7 [] 1 (iSeq (fV 0)) (gN 0) bYes (zAE 3 [] zAO (aE (fV 0) (aE (fC (.int 0)) (aE (fC zB6) aNil))))))))
def zBB:VFun:=runV 2 [] zFQ
def zJF:VS:=
   (sSeq (sIf (fB (f2 oEq (fV 0) (fC (.str "take"))))
   (sRet (f2 oNe (f2 oIxA (fV 1) (fC (.int 0))) (fC (.int 0))))
   sNil)
   (sSeq (sIf (fB (f2 oEq (fV 0) (fC (.str "put"))))
   (sRet (f2 oNe (f2 oIxA (fV 1) (fC (.int 1))) (fC (.int 0))))
   sNil)
   (sRet (fC (.bl true)))))
def zFC:VFun:=runV 2 [] zJF
def zG3:VS:=
   (sSeq (sIf (bNot (fB (zAE 2 [] zFC (aE (fV 0) (aE (fV 2) aNil)))))
   (sRet (fTup (zA1 (fIf (fB (f2 oEq (fV 0) (fC (.str "take")))) (f2 oIxA (fV 2) (fC (.int 1))) (fC .non)) (zA1 (fC .non) fNil))))
   sNil)
   (sSeq (sIf (fB (f2 oGe (fV 1) (f1 oLen (fO 3))))
   (sRet (fTup (zA1 (fC .non) (zA1 (fC (.str "beyond")) fNil))))
   sNil)
   (sSeq (sIf (fB (f2 (oInD false) (fV 0) (fC zF7)))
   (sSeq (zQE 3 (fV 1) (f2 oIxA (fV 2) (fC (.int 0))))
   (sRet (fTup (zA1 (fC .non) (zA1 (fC .non) fNil)))))
   sNil)
   (sRet (fTup (zA1 (f2 oIxA (fO 3) (fV 1)) (zA1 (fC .non) fNil)))))))
def zD4:VFun:=runV 4 [3] zG3
def zLN:VS:=
   (sSeq (sSet 4 (xV (f2 oIxA (fV 0) (fC (.int 0)))))
   (sSeq (sIf (fB (f2 oEq (fV 4) (fC (.str "number"))))
   (sRet (fTup (zA1 (f2 oIxA (fV 0) (fC (.int 1))) (zA1 (fC .non) fNil))))
   sNil)
   (sSeq (sSet 5 (xV (zAE 1 [] zEH (aE (fV 0) aNil))))
   (sSeq (sIf (fB (f2 zI7 (fV 5) (fC .non)))
   (sRet (zAE 4 [3] zD4 (aE (fV 4) (aE (f2 zBY (fV 5) (fV 3)) (aE (fV 1) (aO 2 aNil))))))
   sNil)
   (sSeq (sSet 6 (xV (zAE 2 [] zM4 (aE (fV 4) (aE (fV 1) aNil)))))
   (sRet (fTup (zA1 (fV 6) (zA1 (fIf (fB (f2 oIsN (fV 6) (fC .non))) (fC (.str "nought")) (fC .non)) fNil)))))))))
def zD3:VFun:=runV 7 [2] zLN
def zCE:VS:=
   (sRet (fAnd (f2 oIsi (fV 0) (fC (.ty "tuple"))) (f2 oEq (f1 oLen (fV 0)) (fV 1))))
def zAV:VFun:=runV 2 [] zCE
def zDF:VS:=
   (sSeq (sIf (bAnd (fB (f2 oEq (f1 oLen (fV 0)) (fC (.int 2)))) (bAnd (fB (f2 oIsi (f2 oIxA (fV 0) (fC (.int 0))) (fC (.ty "str")))) (fB (f2 oEq (f2 oIxA (fV 0) (fC (.int 0))) (fC (.str "number"))))))
   (sRet (fAnd (zAE 2 [] zAV (aE (f2 oIxA (fV 0) (fC (.int 1))) (aE (fV 1) aNil))) (f1 oAll (zD7 [] 1 (iSeq (f2 oIxA (fV 0) (fC (.int 1)))) (gN 0) bYes (zAE 3 [] zAO (aE (fV 0) (aE (fC (.int 0)) (aE (fC zB6) aNil))))))))
   sNil)
   (sRet (zAE 2 [] zCG (aE (fV 0) (aE (fV 2) aNil)))))
def zC2:VFun:=runV 3 [] zDF
def zDS:VS:=
   (sSeq (sIf (bOr (fB (f2 oNe (f1 oLen (fV 0)) (fC (.int 1)))) (bNot (fB (zAE 2 [] zAV (aE (f2 oIxA (fV 0) (fC (.int 0))) (aE (fV 1) aNil))))))
   (sRet (fC (.bl false)))
   sNil)
   (sRet (f1 oAll (zD7 [2] 1 (iSeq (f2 oIxA (fV 0) (fC (.int 0)))) (gN 1) bYes (zAE 2 [] zAJ (aE (fV 1) (aE (fV 0) aNil)))))))
def zC4:VFun:=runV 3 [] zDS
def zCZ:VS:=
   (sSeq (sIf (bOr (fB (f2 oNe (f1 oLen (fV 0)) (fC (.int 3)))) (bOr (bNot (fB (zAE 2 [] zAJ (aE (f2 oIxA (fV 0) (fC (.int 0))) (aE (fV 2) aNil))))) (bNot (fB (zAE 2 [] zAJ (aE (f2 oIxA (fV 0) (fC (.int 1))) (aE (fV 2) aNil)))))))
   (sRet (fC (.bl false)))
   sNil)
   (sRet (fAnd (zAE 2 [] zAV (aE (f2 oIxA (fV 0) (fC (.int 2))) (aE (fV 1) aNil))) (f1 oAll (zD7 [1] 1 (iSeq (f2 oIxA (fV 0) (fC (.int 2)))) (gN 1) bYes (zAE 3 [] zAO (aE (fV 1) (aE (fC (.int 0)) (aE (f2 oSub (f2 zE6 (fC (.int 2)) (fV 0)) (fC (.int 1))) aNil)))))))))
def zBX:VFun:=runV 3 [] zCZ
def zF3:VS:=
   (sRet (fAnd (f2 oEq (f1 oLen (fV 0)) (fC (.int 2))) (fAnd (zAE 2 [] zAJ (aE (f2 oIxA (fV 0) (fC (.int 0))) (aE (fV 2) aNil))) (zAE 3 [] zAO (aE (f2 oIxA (fV 0) (fC (.int 1))) (aE (fC (.int 0)) (aE (f2 oSub (fV 1) (fC (.int 1))) aNil)))))))
def zCX:VFun:=runV 3 [] zF3
def zBN:VS:=
   (sSeq (sIf (bOr (bNot (fB (f2 oIsi (fV 0) (fC (.ty "tuple"))))) (bOr (fB (f2 oEq (f1 oLen (fV 0)) (fC (.int 0)))) (bNot (fB (f2 oIsi (f2 oIxA (fV 0) (fC (.int 0))) (fC (.ty "str")))))))
   (sRet (fC (.bl false)))
   sNil)
   (sSeq (zHC 4 5 (xV (f2 oIxA (fV 0) (fC (.int 0)))) (xV (fSl (fV 0) (pSo (fC (.int 1))) pNo)))
   (sSeq (sIf (fB (f2 oEq (fV 4) (fC (.str "wide"))))
   (sRet (zAE 3 [] zC2 (aE (fV 5) (aE (fV 1) (aE (fV 3) aNil)))))
   sNil)
   (sSeq (sIf (fB (f2 oEq (fV 4) (fC (.str "gather"))))
   (sRet (zAE 3 [] zC4 (aE (fV 5) (aE (fV 1) (aE (fV 2) aNil)))))
   sNil)
   (sSeq (sIf (fB (f2 oEq (fV 4) (fC (.str "shuffle"))))
   (sRet (zAE 3 [] zBX (aE (fV 5) (aE (fV 1) (aE (fV 3) aNil)))))
   sNil)
   (sSeq (sIf (fB (f2 oEq (fV 4) (fC (.str "lane"))))
   (sRet (zAE 3 [] zCX (aE (fV 5) (aE (fV 1) (aE (fV 3) aNil)))))
   sNil)
   (sRet (zAE 2 [] zCG (aE (fV 0) (aE (fV 2) aNil))))))))))
def zAN:VFun:=runV 6 [] zBN
def zH0:VS:=
   (sSeq (sIf (fB (f2 oEq (f2 oIxA (fV 0) (fC (.int 0))) (fC (.str "wide"))))
   (sRet (fIf (fB (zAE 1 [] zCI (aE (fSl (fV 0) (pSo (fC (.int 1))) pNo) aNil))) (fC (.str "pack")) (fC .non)))
   sNil)
   (sSeq (sIf (fB (f2 (oInD false) (f2 oIxA (fV 0) (fC (.int 0))) (fTup (zA1 (fC (.str "gather")) (zA1 (fC (.str "shuffle")) fNil)))))
   (sRet (fC (.str "pack")))
   sNil)
   (sRet (fIf (fB (zAE 1 [] zCI (aE (fV 0) aNil))) (fC (.str "word")) (fC .non)))))
def zCW:VFun:=runV 1 [] zH0
def zAF:VS:=
   (sSeq (sIf (bNot (fB (zAE 4 [] zAN (aE (fV 4) (aE (fV 1) (aO 2 (aO 3 aNil)))))))
   (sRet (fC (.bl false)))
   sNil)
   (sSeq (sSet 5 (xV (zAE 1 [] zCW (aE (fV 4) aNil))))
   (sSeq (sMut 2 mApp (zA1 (f2 oEq (fV 5) (fC (.str "word"))) fNil))
   (sMut 3 mApp (zA1 (f2 oEq (fV 5) (fC (.str "pack"))) fNil)))))
def zBQ:VS:=
   (sSeq (zHC 2 3 (xO (fLst fNil)) (xO (fLst fNil)))
   (sSeq (sFor (iSeq (fV 0)) (gN 4)
   zAF)
   (sRet (fC (.bl true)))))
def zAU:VFun:=runV 6 [] zBQ
def zD0:VS:=
   (sSeq (sIf (bOr (bNot (fB (f2 oIsi (fV 0) (fC (.ty "tuple"))))) (fB (f2 oNe (f1 oLen (fV 0)) (fC (.int 3)))))
   (sRet (fC (.bl false)))
   sNil)
   (sSeq (sAsg (fV 0) (gTp 3 (zB2 (gN 1) (zB2 (gN 2) (zB2 (gN 3) zEO)))))
   (sSeq (sIf (bOr (bNot (fB (zAE 1 [] zC5 (aE (fV 1) aNil)))) (bNot (fB (zAE 3 [] zAO (aE (fV 2) (aE (fC (.int 0)) (aE (fC zDT) aNil)))))))
   (sRet (fC (.bl false)))
   sNil)
   (sSeq (sIf (bOr (bNot (fB (f2 oIsi (fV 3) (fC (.ty "tuple"))))) (fB (f2 oGt (f1 oLen (fV 3)) (fC zBL))))
   (sRet (fC (.bl false)))
   sNil)
   (sRet (zAE 2 [] zAU (aE (fV 3) (aE (fV 1) aNil))))))))
def zAB:VFun:=runV 4 [] zD0
def zKT:VS:=
   (sSeq (sSet 6 (xV (zD7 [2,5] 1 (iSeq (zAE 1 [] zCR (aE (fV 0) aNil))) (gN 2) bYes (f2 oIxA (f2 oIxA (fO 0) (fV 2)) (fV 1)))))
   (sSeq (sAsg (zAE 4 [2] zD3 (aE (fV 0) (aE (fV 6) (aO 3 (aE (fV 5) aNil))))) (gTp 2 (zB2 (gN 7) (zB2 (gN 8) zEO))))
   (sSeq (sIf (fB (f2 zI7 (fV 8) (fC .non)))
   (sRet (fTup (zA1 (fO 4) (zA1 (fV 5) (zA1 (fV 8) fNil)))))
   sNil)
   (sMut 4 mApp (zA1 (fV 7) fNil)))))
def zJG:VS:=
   (sSeq (sIf (fB (f2 oEq (f2 oIxA (fV 0) (fC (.int 0))) (fC (.str "number"))))
   (sRet (fTup (zA1 (f1 zO8 (f2 oIxA (fV 0) (fC (.int 1)))) (zA1 (fC .non) (zA1 (fC .non) fNil)))))
   sNil)
   (sSeq (sSet 4 (xO (fLst fNil)))
   (sSeq (sFor (iR1 (fV 1)) (gN 5)
   zKT)
   (sRet (fTup (zA1 (fO 4) (zA1 (fC .non) (zA1 (fC .non) fNil))))))))
def zFD:VFun:=runV 9 [2,3] zJG
def zOV:VS:=
   (sSeq (sIf (fB (f2 oEq (f2 oIxA (fV 0) (fC (.int 0))) (fC (.str "gather"))))
   (sRet (zD7 [1] 1 (iSeq (f2 oIxA (fV 0) (fC (.int 1)))) (gN 1) bYes (f2 oIxA (fO 0) (fV 1))))
   sNil)
   (sSeq (sIf (fB (f2 oEq (f2 oIxA (fV 0) (fC (.int 0))) (fC (.str "lane"))))
   (sRet (f2 oIxA (f2 oIxA (fO 1) (f2 oIxA (fV 0) (fC (.int 1)))) (f2 oIxA (fV 0) (fC (.int 2)))))
   sNil)
   (sSeq (sSet 2 (xV (f2 zBY (f2 oIxA (fO 1) (f2 oIxA (fV 0) (fC (.int 1)))) (f2 oIxA (fO 1) (f2 oIxA (fV 0) (fC (.int 2)))))))
   (sRet (zD7 [2] 1 (iSeq (f2 oIxA (fV 0) (fC (.int 3)))) (gN 1) bYes (f2 oIxA (fV 0) (fV 1)))))))
def zIH:VFun:=runV 3 [1] zOV
def zDX:VS:=
   (sSeq (sIf (fB (f2 oEq (f2 oIxA (fV 0) (fC (.int 0))) (fC (.str "wide"))))
   (sRet (zAE 4 [2,3] zFD (aE (fSl (fV 0) (pSo (fC (.int 1))) pNo) (aE (fV 1) (aO 2 (aO 3 aNil))))))
   sNil)
   (sSeq (sIf (fB (f2 (oInD false) (f2 oIxA (fV 0) (fC (.int 0))) (fTup (zA1 (fC (.str "gather")) (zA1 (fC (.str "shuffle")) (zA1 (fC (.str "lane")) fNil))))))
   (sRet (fTup (zA1 (zAE 2 [1] zIH (aE (fV 0) (aO 2 aNil))) (zA1 (fC .non) (zA1 (fC .non) fNil)))))
   sNil)
   (sSeq (sAsg (zAE 3 [2] (dflt zD3 (.int 0)) (aE (fV 0) (aE (zD7 [2] 1 (iSeq (zAE 1 [] zCR (aE (fV 0) aNil))) (gN 1) bYes (f2 oIxA (fO 0) (fV 1))) (aO 3 aNil)))) (gTp 2 (zB2 (gN 4) (zB2 (gN 5) zEO))))
   (sRet (fTup (zA1 (fV 4) (zA1 (fC .non) (zA1 (fV 5) fNil))))))))
def zBO:VFun:=runV 6 [2,3] zDX
def zH9:VS:=
   (sSeq (sAsg (zAE 4 [2,3] zBO (aE (fV 8) (aE (fV 2) (aO 6 (aO 5 aNil))))) (gTp 3 (zB2 (gN 9) (zB2 (gN 10) (zB2 (gN 11) zEO)))))
   (sSeq (sIf (fB (f2 zI7 (fV 11) (fC .non)))
   (sRet (fTup (zA1 (fO 5) (zA1 (fTup (zA1 (fV 7) (zA1 (fV 10) (zA1 (fV 11) fNil)))) fNil))))
   sNil)
   (sMut 6 mApp (zA1 (fV 9) fNil))))
def zCM:VS:=
   (sSeq (sIf (bNot (fB (zAE 1 [] zAB (aE (fV 0) aNil))))
   (fun _=>none)
   sNil)
   (sSeq (sAsg (fV 0) (gTp 3 (zB2 (gN 2) (zB2 (gN 3) (zB2 (gN 4) zEO)))))
   (sSeq (sIf (bNot (fB (zAE 2 [] zBB (aE (fV 1) (aE (fV 3) aNil)))))
   (fun _=>none)
   sNil)
   (sSeq (sSet 5 (xO (f1 zO8 (fV 1))))
   (sSeq (sSet 6 (xO (fLst fNil)))
   (sSeq (sFor (zR5 (fV 4)) (gTp 2 (zB2 (gN 7) (zB2 (gN 8) zEO)))
   zH9)
   (sRet (fTup (zA1 (fO 5) (zA1 (fC .non) fNil))))))))))
def zBF:VFun:=runV 12 [] zCM
def zCK:VZ:=
   (zAlt (zIf (bNot (fB (zAE 1 [] zAB (aE (fV 0) aNil)))) (fun δ=>some ("NoProgram",δ)) zNo)
   (zSeq (sIf (bNot (fB (zAE 1 [] zAB (aE (fV 0) aNil))))
   (fun _=>none)
   sNil)
   (zSeq (sAsg (fV 0) (gTp 3 (zB2 (gN 2) (zB2 (gN 3) (zB2 (gN 4) zEO)))))
   (zIf (bNot (fB (zAE 2 [] zBB (aE (fV 1) (aE (fV 3) aNil))))) (fun δ=>some ("NoCells",δ)) zNo))))
def zBE:List Dat->Option Str:=runZ 12 zCK
def zHS:VS:=
   (sSeq (sIf (bOr (fB (f2 oEq (f2 oIxA (fV 0) (fC (.int 0))) (fC (.str "number")))) (fB (f2 oEq (fSl (fV 0) pNo (pSo (fC (.int 2)))) (fTup (zA1 (fC (.str "wide")) (zA1 (fC (.str "number")) fNil))))))
   (sRet (fC (.int 0)))
   sNil)
   (sRet (fIf (fB (f2 oEq (f2 oIxA (fV 0) (fC (.int 0))) (fC (.str "gather")))) (fV 1) (fC (.int 1)))))
def zDH:VFun:=runV 2 [] zHS
def zH2:VS:=
   (sSeq (sIf (bNot (fB (zAE 1 [] zAB (aE (fV 0) aNil))))
   (fun _=>none)
   sNil)
   (sSeq (sAsg (fV 0) (gTp 3 (zB2 (gN 1) (zB2 (gN 2) (zB2 (gN 3) zEO)))))
   (sRet (f1 oSum (zD7 [1] 1 (iSeq (fV 3)) (gN 1) bYes (zAE 2 [] zDH (aE (fV 1) (aE (fV 0) aNil))))))))
def zDJ:VFun:=runV 4 [] zH2
def zGI:VZ:=
   (zIf (bNot (fB (zAE 1 [] zAB (aE (fV 0) aNil)))) (fun δ=>some ("NoProgram",δ)) zNo)
def zDG:List Dat->Option Str:=runZ 4 zGI
def zEC:VS:=
   (sSet 2 (xV (f2 zO9 (fV 2) (fC (.int 1000003)))))
def zDR:VS:=
   (sSeq (sIf (fB (f2 oLt (fV 1) (f1 oLen (fV 0))))
   (sRet (f2 oIxA (fV 0) (fV 1)))
   sNil)
   (sSeq (sIf (fB (f2 oEq (fV 0) (fLst fNil)))
   (sRet (fC (.int 0)))
   sNil)
   (sSeq (sSet 2 (xV (f2 oIxA (fV 0) (f2 oMod (fV 1) (f1 oLen (fV 0))))))
   (sSeq (sFor (iR1 (f2 oMin (f2 zO9 (fV 1) (f1 oLen (fV 0))) (fC (.int 60)))) (gN 3)
   zEC)
   (sRet (f2 zBY (f2 zBY (f2 zE6 (f2 oIxA (fV 0) (f2 oMod (fV 1) (f1 oLen (fV 0)))) (fC (.int 31))) (fV 1)) (f2 zE6 (fV 2) (fC (.int 101)))))))))
def zBG:VFun:=runV 4 [] zDR
def zEQ:VS:=
   (sSeq (sSet 3 (xV (f2 oMod (f2 zBY (f2 zBY (f2 zE6 (zAE 2 [] zBG (aE (fV 0) (aE (fV 1) aNil))) (fC (.int 1103515245))) (f2 zE6 (fC (.int 7919)) (fV 1))) (fC (.int 12345))) (fC (.int 2147483647)))))
   (sRet (f2 oMod (f2 oMod (f2 oMod (f2 oPow (fV 3) (fC (.int 5))) (fC (.int 2147483647))) (fC (.int 999983))) (fV 2))))
def zCD:VFun:=runV 4 [] zEQ
def zFO:VS:=
   (sSeq (sMut 1 mApp (zA1 (fC (.int 0)) fNil))
   (sRet (zAE 3 [] zCD (aE (fV 0) (aE (f1 oLen (fO 1)) (aE (fV 2) aNil))))))
def zAM:VFun:=runV 3 [1] zFO
def zFN:VS:=
   (sRet (f2 oIxA (fV 2) (zAE 3 [1] zAM (aE (fV 0) (aO 1 (aE (f1 oLen (fV 2)) aNil))))))
def zAT:VFun:=runV 3 [1] zFN
def zEP:VS:=
   (sSeq (zQF 2 (fV 3) (f2 oMod (f2 zBY (zLQ 2 (fV 3) (zAE 3 [1] zAM (aE (fV 0) (aO 1 (aE (fV 4) aNil))))) (zAE 3 [1] zAT (aE (fV 0) (aO 1 (aE (fLst (zA1 (fC (.int 1)) (zA1 (fC (.int 1)) (zA1 (fC (.int 1)) (zA1 (fC (.int 0)) (zA1 (fC (.int 3)) fNil)))))) aNil))))) (fV 4)))
   (sRet (f2 oIxA (fO 2) (fV 3))))
def zB9:VFun:=runV 5 [1,2] zEP
def zGZ:VS:=
   (sSeq (sSet 5 (xV (zAE 3 [1] zAM (aE (fV 0) (aO 1 (aE (fC (.int 13)) aNil))))))
   (sSeq (sIf (bOr (fB (f2 oEq (fV 2) (fLst fNil))) (fB (f2 oEq (fV 5) (fC (.int 0)))))
   (sSeq (sIf (fB (f2 oEq (zAE 3 [1] zAM (aE (fV 0) (aO 1 (aE (fC (.int 2)) aNil)))) (fC (.int 0))))
   (sRet (fTup (zA1 (fC (.str "number")) (zA1 (zAE 3 [1] zAT (aE (fV 0) (aO 1 (aE (fLst (zA1 (fC (.int 0)) (zA1 (fC (.int 1)) (zA1 (fC (.int 2)) (zA1 (fC (.int 5)) (zA1 (fC (.int 999)) (zA1 (zAE 3 [1] zAM (aE (fV 0) (aO 1 (aE (fC (.int 1000)) aNil)))) fNil))))))) aNil)))) fNil))))
   sNil)
   (sRet (fTup (zA1 (fC (.str "load")) (zA1 (zAE 5 [1,2] zB9 (aE (fV 0) (aO 1 (aO 3 (aE (fC (.str "load")) (aE (fV 4) aNil)))))) fNil)))))
   sNil)
   (sSeq (sAsg (zD7 [0,1,2] 1 (iR1 (fC (.int 3))) (gN 3) bYes (f2 oIxA (fV 2) (f2 oMax (fC (.int 0)) (f2 oSub (f2 oSub (f1 oLen (fV 2)) (fC (.int 1))) (zAE 3 [1] zAM (aE (fV 0) (aO 1 (aE (fC (.int 6)) aNil)))))))) (gTp 3 (zB2 (gN 6) (zB2 (gN 7) (zB2 (gN 8) zEO)))))
   (sSeq (sIf (fB (f2 (oInD false) (fV 5) (fTup (zA1 (fC (.int 1)) (zA1 (fC (.int 2)) fNil)))))
   (sRet (fTup (zA1 (fC (.str "load")) (zA1 (zAE 5 [1,2] zB9 (aE (fV 0) (aO 1 (aO 3 (aE (fC (.str "load")) (aE (fV 4) aNil)))))) fNil))))
   sNil)
   (sSeq (sIf (fB (f2 oEq (fV 5) (fC (.int 3))))
   (sRet (fTup (zA1 (fC (.str "take")) (zA1 (zAE 5 [1,2] zB9 (aE (fV 0) (aO 1 (aO 3 (aE (fC (.str "take")) (aE (fV 4) aNil)))))) (zA1 (fV 8) (zA1 (fV 6) fNil))))))
   sNil)
   (sSeq (sIf (fB (f2 (oInD false) (fV 5) (fTup (zA1 (fC (.int 4)) (zA1 (fC (.int 5)) fNil)))))
   (sRet (fTup (zA1 (fC (.str "store")) (zA1 (zAE 5 [1,2] zB9 (aE (fV 0) (aO 1 (aO 3 (aE (fC (.str "store")) (aE (fV 4) aNil)))))) (zA1 (fV 6) fNil)))))
   sNil)
   (sSeq (sIf (fB (f2 oEq (fV 5) (fC (.int 6))))
   (sRet (fTup (zA1 (fC (.str "put")) (zA1 (zAE 5 [1,2] zB9 (aE (fV 0) (aO 1 (aO 3 (aE (fC (.str "put")) (aE (fV 4) aNil)))))) (zA1 (fV 6) (zA1 (fV 8) fNil))))))
   sNil)
   (sSeq (sIf (fB (f2 oEq (fV 5) (fC (.int 7))))
   (sRet (fTup (zA1 (fC (.str "pick")) (zA1 (fV 8) (zA1 (fV 6) (zA1 (fV 7) fNil))))))
   sNil)
   (sRet (fTup (zA1 (f2 oIxA (fLst (zA1 (fC (.str "over")) (zA1 (fC (.str "plus")) (zA1 (fC (.str "minus")) (zA1 (fC (.str "times")) (zA1 (fC (.str "least")) (zA1 (fC (.str "most")) (zA1 (fC (.str "less")) fNil)))))))) (zAE 3 [1] zAM (aE (fV 0) (aO 1 (aE (fC (.int 7)) aNil))))) (zA1 (fV 6) (zA1 (fV 7) fNil)))))))))))))
def zDI:VFun:=runV 9 [1,3] zGZ
def zGY:VS:=
   (sSeq (sSet 1 (xO (fLst (zA1 (f2 (oIsx xcs xall) (fV 0) (fC (.fn "NoBlock"))) (zA1 (f2 (oIsx xcs xall) (fV 0) (fC (.fn "NoCells"))) (zA1 (f2 (oIsx xcs xall) (fV 0) (fC (.fn "NoRow"))) (zA1 (f2 (oIsx xcs xall) (fV 0) (fC (.fn "NoLanes"))) fNil)))))))
   (sSeq (sMut 1 mExt (zA1 (fLst (zA1 (f2 (oIsx xcs xall) (fV 0) (fC (.fn "NoPlan"))) (zA1 (f2 (oIsx xcs xall) (fV 0) (fC (.fn "NoProgram"))) (zA1 (f2 (oIsx xcs xall) (fV 0) (fC (.fn "NoTree"))) (zA1 (f2 (oIsx xcs xall) (fV 0) (fC (.fn "NoLoop"))) fNil))))) fNil))
   (sSeq (sMut 1 mExt (zA1 (fLst (zA1 (f2 (oIsx xcs xall) (fV 0) (fC (.fn "NoText"))) (zA1 (f2 (oIsx xcs xall) (fV 0) (fC (.fn "NoName"))) (zA1 (f2 (oIsx xcs xall) (fV 0) (fC (.fn "TooMany"))) (zA1 (f2 (oIsx xcs xall) (fV 0) (fC (.fn "TooLong"))) fNil))))) fNil))
   (sSeq (sMut 1 mExt (zA1 (fLst (zA1 (f2 (oIsx xcs xall) (fV 0) (fC (.fn "NotValid"))) (zA1 (f2 (oIsx xcs xall) (fV 0) (fC (.fn "Nothing"))) fNil))) fNil))
   (sSeq (sIf (bOr (fB (f2 oNe (f2 zKH (fO 1) (fC (.bl true))) (fC (.int 1)))) (bNot (fB (f2 (oIsx xcs xall) (fV 0) (fC (.ty "ValueError"))))))
   (sRet (fTup (zA1 (fC (.str "refused")) (zA1 (f1 oNeg (fC (.int 1))) fNil))))
   sNil)
   (sRet (fTup (zA1 (fC (.str "refused")) (zA1 (f2 zKG (fO 1) (fC (.bl true))) fNil)))))))))
def zCC:VFun:=runV 2 [] zGY
def zCV:VS:=
   (sSeq (zHC 9 10 (xV (zAE 3 [1] zAM (aE (fV 0) (aO 1 (aE (fC (.int 6)) aNil))))) (xV (f1 oLen (fO 5))))
   (sSeq (sIf (fB (f2 oEq (fV 9) (fC (.int 0))))
   (sMut 5 mApp (zA1 (fTup (zA1 (fC (.str "gather")) (zA1 (f1 zGT (zD7 [0,1,6] 1 (iR1 (fV 3)) (gN 3) bYes (zAE 3 [1] zAT (aE (fV 0) (aO 1 (aO 2 aNil)))))) fNil))) fNil))
   (sIf (fB (f2 oEq (fV 9) (fC (.int 1))))
   (sSeq (sSet 11 (xV (f1 zGT (zD7 [0,1,3] 1 (iR1 (fV 3)) (gN 3) bYes (zAE 3 [1] zAM (aE (fV 0) (aO 1 (aE (f2 zE6 (fC (.int 2)) (fV 2)) aNil))))))))
   (sMut 5 mApp (zA1 (fTup (zA1 (fC (.str "shuffle")) (zA1 (zAE 3 [1] zAT (aE (fV 0) (aO 1 (aO 7 aNil)))) (zA1 (zAE 3 [1] zAT (aE (fV 0) (aO 1 (aO 7 aNil)))) (zA1 (fV 11) fNil))))) fNil)))
   (sIf (fB (f2 oEq (fV 9) (fC (.int 2))))
   (sMut 5 mApp (zA1 (fTup (zA1 (fC (.str "lane")) (zA1 (zAE 3 [1] zAT (aE (fV 0) (aO 1 (aO 7 aNil)))) (zA1 (zAE 3 [1] zAM (aE (fV 0) (aO 1 (aE (fV 3) aNil)))) fNil)))) fNil))
   (sSeq (sSet 12 (xV (zAE 4 [1] (insD 3 zDI) (aE (fV 0) (aO 1 (aIf (fB (f2 oEq (fV 9) (fC (.int 3)))) 6 7 (aE (fV 4) aNil)))))))
   (sMut 5 mApp (zA1 (fIf (bOr (fB (f2 oEq (fV 9) (fC (.int 3)))) (fB (f2 oEq (f2 oIxA (fV 12) (fC (.int 0))) (fC (.str "number"))))) (fV 12) (f2 zBY (fTup (zA1 (fC (.str "wide")) fNil)) (fV 12))) fNil))))))
   (sSeq (sSet 13 (xV (fIf (fB (f2 oEq (f2 oIxA (f2 oIxA (fO 5) (f1 oNeg (fC (.int 1)))) (fC (.int 0))) (fC (.str "wide")))) (fSl (f2 oIxA (fO 5) (f1 oNeg (fC (.int 1)))) (pSo (fC (.int 1))) pNo) (f2 oIxA (fO 5) (f1 oNeg (fC (.int 1)))))))
   (sIf (fB (f2 (oInD true) (f2 oIxA (fV 13) (fC (.int 0))) (fTup (zA1 (fC (.str "store")) (zA1 (fC (.str "put")) fNil)))))
   (sIf (fB (f2 (oInD false) (f2 oIxA (f2 oIxA (fO 5) (f1 oNeg (fC (.int 1)))) (fC (.int 0))) (fTup (zA1 (fC (.str "wide")) (zA1 (fC (.str "gather")) (zA1 (fC (.str "shuffle")) fNil))))))
   (sMut 7 mApp (zA1 (fV 10) fNil))
   (sMut 6 mApp (zA1 (fV 10) fNil)))
   sNil))))
def zDQ:VS:=
   (sSeq (zHC 3 4 (xV (zAE 3 [1] zAT (aE (fV 0) (aO 1 (aE (fLst (zA1 (fC (.int 2)) (zA1 (fC (.int 3)) (zA1 (fC (.int 4)) fNil)))) aNil))))) (xV (zAE 3 [1] zAT (aE (fV 0) (aO 1 (aE (fLst (zA1 (fC (.int 4)) (zA1 (fC (.int 9)) (zA1 (fC (.int 64)) fNil)))) aNil))))))
   (sSeq (zNN 5 6 7 (xO (fLst (zA1 (fTup (zA1 (fC (.str "number")) (zA1 (zAE 3 [1] zAM (aE (fV 0) (aO 1 (aE (fC (.int 1000)) aNil)))) fNil))) fNil))) (xO (fLst (zA1 (fC (.int 0)) fNil))) (xO (fLst fNil)))
   (sSeq (sMut 5 mApp (zA1 (fTup (zA1 (fC (.str "wide")) (zA1 (fC (.str "number")) (zA1 (f1 zGT (zD7 [0,1] 1 (iR1 (fV 3)) (gN 2) bYes (zAE 3 [1] zAM (aE (fV 0) (aO 1 (aE (fC (.int 1000)) aNil)))))) fNil)))) fNil))
   (sSeq (sMut 7 mApp (zA1 (fC (.int 1)) fNil))
   (sSeq (sFor (iR1 (zAE 3 [1] zAM (aE (fV 0) (aO 1 (aE (f2 zBY (fV 2) (fC (.int 1))) aNil))))) (gN 8)
   zCV)
   (sRet (fTup (zA1 (fV 3) (zA1 (zAE 3 [1] zAM (aE (fV 0) (aO 1 (aE (f2 zBY (fV 4) (fC (.int 1))) aNil)))) (zA1 (f1 zGT (fO 5)) fNil))))))))))
def zBM:VFun:=runV 14 [1] zDQ
def zE8:VS:=
   (sTry (sRet (fIf (fB (f2 oEq (fV 0) (fC (.int 0)))) (zAE 1 [] zDJ (aE (fV 1) aNil)) (zAE 2 [] zBF (aE (fV 1) (aE (fV 2) aNil)))))
   (zIf (fB (f2 oEq (fV 0) (fC (.int 0)))) (zIL 1 zDG (aE (fV 1) aNil)) (zIL 2 zBE (aE (fV 1) (aE (fV 2) aNil))))
   3 (sRet (zAE 1 [] zCC (aE (fV 3) aNil))))
def zBI:VFun:=runV 4 [] zE8
def zEI:VS:=
   (sSeq (zHC 2 3 (xV (f2 zCL (fTup (zA1 (fC (.int 0)) fNil)) (f2 oSub (fV 0) (fC (.int 1))))) (xV (f2 zCL (fTup (zA1 (fC (.int 0)) fNil)) (f2 zBY (fV 0) (fC (.int 1))))))
   (sSeq (sSet 4 (xO (fLst (zA1 (fTup (zA1 (fC (.str "gather")) (zA1 (fV 3) fNil))) (zA1 (fTup (zA1 (fC (.str "gather")) (zA1 (f2 zCL (fLst (zA1 (fC (.int 0)) fNil)) (fV 0)) fNil))) (zA1 (fTup (zA1 (fC (.str "gather")) (zA1 (f2 zCL (fTup (zA1 (fC (.int 1)) fNil)) (fV 0)) fNil))) (zA1 (fTup (zA1 (fC (.str "lane")) (zA1 (fC (.int 0)) (zA1 (fC (.int 0)) fNil)))) (zA1 (fTup (zA1 (fC (.str "lane")) (zA1 (fC (.int 1)) (zA1 (fV 0) fNil)))) fNil))))))))
   (sSeq (sMut 4 mExt (zA1 (fLst (zA1 (fTup (zA1 (fC (.str "shuffle")) (zA1 (fC (.int 1)) (zA1 (fC (.int 1)) (zA1 (fV 2) fNil))))) (zA1 (fTup (zA1 (fC (.str "shuffle")) (zA1 (fC (.int 1)) (zA1 (fC (.int 1)) (zA1 (f2 zCL (fTup (zA1 (f2 zE6 (fC (.int 2)) (fV 0)) fNil)) (fV 0)) fNil))))) (zA1 (fTup (zA1 (fC (.str "shuffle")) (zA1 (fC (.int 0)) (zA1 (fC (.int 1)) (zA1 (f2 zCL (fTup (zA1 (fC (.int 0)) fNil)) (fV 0)) fNil))))) fNil)))) fNil))
   (sSeq (sMut 4 mExt (zA1 (fLst (zA1 (fTup (zA1 (fC (.str "wide")) (zA1 (fC (.str "number")) (zA1 (fV 3) fNil)))) (zA1 (fTup (zA1 (fC (.str "wide")) (zA1 (fC (.str "number")) (zA1 (fC (.int 5)) fNil)))) (zA1 (fTup (zA1 (fC (.str "wide")) (zA1 (fC (.str "plus")) (zA1 (fC (.int 1)) (zA1 (fC (.int 0)) fNil))))) (zA1 (fTup (zA1 (fC (.str "wide")) (zA1 (fC (.str "plus")) (zA1 (fC (.int 1)) fNil)))) fNil))))) fNil))
   (sSeq (sMut 4 mExt (zA1 (fC (.lst [.tup [.str "wide",.str "load",.int 64],.tup [.str "wide",.str "store",.int 0,.int 0],.tup [.str "wide",.str "halve",.int 1],.tup [.str "wide"],.tup [.int 5,.int 1]])) fNil))
   (sSeq (sMut 4 mExt (zA1 (fC (.lst [.tup [.str "wide",.str "lane",.int 1,.int 0],.tup [.str "plus",.int 0,.int 1],.tup [.str "store",.int 0,.int 1],.tup [.str "number",.int 1000],.tup [.str "narrow",.int 0],.tup [],.non])) fNil))
   (sSeq (sMut 4 mExt (zA1 (fLst (zA1 (fLst (zA1 (fC (.str "number")) (zA1 (fC (.int 1)) fNil))) (zA1 (fTup (zA1 (fC (.str "wide")) (zA1 (fC (.str "put")) (zA1 (fC (.int 0)) (zA1 (fC (.int 1)) fNil))))) (zA1 (fTup (zA1 (fC (.str "wide")) (zA1 (fC (.str "number")) (zA1 (f2 zCL (fTup (zA1 (fC (.int 1000)) fNil)) (fV 0)) fNil)))) (zA1 (fTup (zA1 (fC (.str "lane")) (zA1 (fC (.int 1)) (zA1 (fC (.bl true)) fNil)))) fNil))))) fNil))
   (sRet (f2 zBY (fO 4) (fLst (zA1 (fTup (zA1 (fC (.str "gather")) (zA1 (f2 zBY (fV 2) (fTup (zA1 (fV 1) fNil))) fNil))) (zA1 (fTup (zA1 (fC (.str "shuffle")) (zA1 (fC (.int 1)) (zA1 (fC (.int 1)) fNil)))) (zA1 (fTup (zA1 (fC (.str "gather")) fNil)) (zA1 (fTup (zA1 (fC (.str "lane")) (zA1 (fC (.int 1)) fNil))) (zA1 (fTup (zA1 (fC (.str "wide")) (zA1 (fC .non) (zA1 (fC (.int 1)) (zA1 (fC (.int 1)) fNil))))) fNil)))))))))))))))
def zC1:VFun:=runV 5 [] zEI
def zER:VS:=
   (sIf (fB (f2 oNe (zAE 3 [] zBI (aE (fC (.int 1)) (aE (fV 2) (aE (fV 12) aNil)))) (fTup (zA1 (fC (.str "refused")) (zA1 (fC (.int 1)) fNil)))))
   (sRet (fC (.bl false)))
   sNil)
def zFR:VS:=
   (sSeq (sSet 9 (xV (zAE 3 [1] zAT (aE (fV 0) (aO 1 (aE (zAE 2 [] zC1 (aE (fV 3) (aE (f1 oLen (fV 5)) aNil))) aNil))))))
   (sSeq (sSet 10 (xV (fTup (zA1 (fV 3) (zA1 (fV 4) (zA1 (f2 zBY (fSl (fV 5) pNo (pSo (fV 6))) (fTup (zA1 (fV 9) fNil))) fNil))))))
   (sIf (bOr (fB (f2 zEL (zAE 1 [] zAB (aE (fV 10) aNil)) (fC (.bl false)))) (fB (f2 oNe (zAE 3 [] zBI (aE (f2 oMod (fV 8) (fC (.int 2))) (aE (fV 10) (aE (fC .non) aNil)))) (fTup (zA1 (fC (.str "refused")) (zA1 (fC (.int 5)) fNil))))))
   (sRet (fC (.bl false)))
   sNil)))
def zUF:VS:=
   (sSeq (sSet 1 (xO (fLst fNil)))
   (sSeq (sSet 2 (xV (zAE 3 [1] zBM (aE (fV 0) (aO 1 (aE (fC (.int 9)) aNil))))))
   (sSeq (sAsg (fV 2) (gTp 3 (zB2 (gN 3) (zB2 (gN 4) (zB2 (gN 5) zEO)))))
   (sSeq (sIf (bOr (fB (f2 zEL (zAE 1 [] zAB (aE (fV 2) aNil)) (fC (.bl true)))) (fB (f2 zEL (zAE 1 [] zAB (aE (fTup (zA1 (fV 3) (zA1 (fC (.int 64)) (zA1 (fV 5) fNil)))) aNil)) (fC (.bl true)))))
   (sRet (fC (.bl false)))
   sNil)
   (sSeq (sSet 6 (xV (f2 zBY (fC (.int 2)) (zAE 3 [1] zAM (aE (fV 0) (aO 1 (aE (f2 oSub (f1 oLen (fV 5)) (fC (.int 1))) aNil)))))))
   (sSeq (sSet 7 (xV (f2 zBY (fV 5) (fTup (zA1 (fTup (zA1 (fC (.str "wide")) (zA1 (fC (.str "store")) (zA1 (fC (.int 0)) (zA1 (fC (.int 1)) fNil))))) (zA1 (fTup (zA1 (fC (.str "wide")) (zA1 (fC (.str "plus")) (zA1 (f1 oLen (fV 5)) (zA1 (f1 oLen (fV 5)) fNil))))) fNil))))))
   (sSeq (sIf (bOr (fB (f2 zEL (zAE 1 [] zAB (aE (fTup (zA1 (fV 3) (zA1 (fV 4) (zA1 (fV 7) fNil)))) aNil)) (fC (.bl false)))) (fB (f2 zEL (zAE 1 [] zAB (aE (fTup (zA1 (fV 3) (zA1 (fV 4) (zA1 (fSl (fV 7) pNo (pSo (f1 oNeg (fC (.int 1))))) fNil)))) aNil)) (fC (.bl true)))))
   (sRet (fC (.bl false)))
   sNil)
   (sSeq (sFor (iR1 (fC (.int 9))) (gN 8)
   zFR)
   (sSeq (sSet 11 (xV (fC (.lst [.non,.int 5,.tup [],.tup [.int 2,.int 0],.tup [.int 1,.int 0,.tup []],.tup [.int 5,.int 0,.tup []],.tup [.int 2,.int 65,.tup []],.tup [.int 2,.int 0,.lst []],.lst [.int 2,.int 0,.tup []],.tup [.bl true,.int 0,.tup []]]))))
   (sSeq (sIf (fB (f2 zEL (zAE 1 [] zAB (aE (zAE 3 [1] zAT (aE (fV 0) (aO 1 (aE (f2 zBY (fV 11) (fC (.lst [.tup [.int 2,.non,.tup []]]))) aNil)))) aNil)) (fC (.bl false))))
   (sRet (fC (.bl false)))
   sNil)
   (sSeq (sFor (iSeq (fLst (zA1 (fC .non) (zA1 (fTup (zA1 (fC (.int 0)) fNil)) (zA1 (f2 zCL (fLst (zA1 (fC (.int 0)) fNil)) (fC (.int 65))) (zA1 (f2 zCL (fLst (zA1 (fC (.int 1000)) fNil)) (fC (.int 64))) (zA1 (f2 zCL (fLst (zA1 (fC (.str "0")) fNil)) (fC (.int 64))) fNil))))))) (gN 12)
   zER)
   (sRet (fAnd (f2 oIsB (zAE 1 [] zAB (aE (fTup (zA1 (fC (.int 2)) (zA1 (fC (.int 0)) (zA1 (f2 zCL (fC (.tup [.tup [.str "number",.int 1]])) (fC (.int 400))) fNil)))) aNil)) (fC (.bl true))) (f2 oIsB (zAE 1 [] zAB (aE (fTup (zA1 (fC (.int 2)) (zA1 (fC (.int 0)) (zA1 (f2 zCL (fC (.tup [.tup [.str "number",.int 1]])) (fC (.int 401))) fNil)))) aNil)) (fC (.bl false))))))))))))))))
def zMR:VFun:=runV 13 [] zUF
end L2
namespace RR
open PySem L2
structure Txt(K:A5)(mg:Str->Option Value):Prop where
 fnm: ∀x a,Dy K mainGlobals x=some (some (.ref a))->mg x=some (.ref a)
 n_len:mg "len"=none
 n_range:mg "range"=none
 n_min:mg "min"=none
 n_max:mg "max"=none
 zHN:mg "list"=none
 n_tuple:mg "tuple"=none
 n_isinstance:mg "isinstance"=none
 n_bool:mg "bool"=none
 n_int:mg "int"=none
 n_str:mg "str"=none
 n_enumerate:mg "enumerate"=none
 n_zip:mg "zip"=none
 n_all:mg "all"=none
 n_sum:mg "sum"=none
 n_ValueError:mg "ValueError"=none
 v_DEEDS: ∃u v,mg "DEEDS"=some u/\RelV v u/\ ∀N H M,Rep K N H M v zPM
 v_DEED_PARTS: ∃u v,mg "DEED_PARTS"=some u/\RelV v u/\ ∀N H M,Rep K N H M v zG4
 v_LEAST_LANES: ∃u v,mg "LEAST_LANES"=some u/\RelV v u/\ ∀N H M,Rep K N H M v zCO
 v_MADE: ∃u v,mg "MADE"=some u/\RelV v u/\ ∀N H M,Rep K N H M v zSG
 v_MOST_CELLS: ∃u v,mg "MOST_CELLS"=some u/\RelV v u/\ ∀N H M,Rep K N H M v zEA
 v_MOST_LANES: ∃u v,mg "MOST_LANES"=some u/\RelV v u/\ ∀N H M,Rep K N H M v zD2
 v_MOST_PLACE: ∃u v,mg "MOST_PLACE"=some u/\RelV v u/\ ∀N H M,Rep K N H M v zD1
 v_MOST_PROGRAM_ROWS: ∃u v,mg "MOST_PROGRAM_ROWS"=some u/\RelV v u/\ ∀N H M,Rep K N H M v zBL
 v_MOST_SURE: ∃u v,mg "MOST_SURE"=some u/\RelV v u/\ ∀N H M,Rep K N H M v zDT
 v_MOST_WORD: ∃u v,mg "MOST_WORD"=some u/\RelV v u/\ ∀N H M,Rep K N H M v zB6
 v_OTHER_PARTS: ∃u v,mg "OTHER_PARTS"=some u/\RelV v u/\ ∀N H M,Rep K N H M v zF8
 v_READERS: ∃u v,mg "READERS"=some u/\RelV v u/\ ∀N H M,Rep K N H M v zJR
 v_WRITERS: ∃u v,mg "WRITERS"=some u/\RelV v u/\ ∀N H M,Rep K N H M v zF7
 v_Nothing: ∃u v,mg "Nothing"=some u/\RelV v u/\ ∀N H M,Rep K N H M v (.fn "Nothing")
 v_NotValid: ∃u v,mg "NotValid"=some u/\RelV v u/\ ∀N H M,Rep K N H M v (.fn "NotValid")
 v_TooLong: ∃u v,mg "TooLong"=some u/\RelV v u/\ ∀N H M,Rep K N H M v (.fn "TooLong")
 v_TooMany: ∃u v,mg "TooMany"=some u/\RelV v u/\ ∀N H M,Rep K N H M v (.fn "TooMany")
 v_NoName: ∃u v,mg "NoName"=some u/\RelV v u/\ ∀N H M,Rep K N H M v (.fn "NoName")
 v_NoText: ∃u v,mg "NoText"=some u/\RelV v u/\ ∀N H M,Rep K N H M v (.fn "NoText")
 v_NoLoop: ∃u v,mg "NoLoop"=some u/\RelV v u/\ ∀N H M,Rep K N H M v (.fn "NoLoop")
 v_NoTree: ∃u v,mg "NoTree"=some u/\RelV v u/\ ∀N H M,Rep K N H M v (.fn "NoTree")
 v_NoProgram: ∃u v,mg "NoProgram"=some u/\RelV v u/\ ∀N H M,Rep K N H M v (.fn "NoProgram")
 v_NoPlan: ∃u v,mg "NoPlan"=some u/\RelV v u/\ ∀N H M,Rep K N H M v (.fn "NoPlan")
 v_NoLanes: ∃u v,mg "NoLanes"=some u/\RelV v u/\ ∀N H M,Rep K N H M v (.fn "NoLanes")
 v_NoRow: ∃u v,mg "NoRow"=some u/\RelV v u/\ ∀N H M,Rep K N H M v (.fn "NoRow")
 v_NoCells: ∃u v,mg "NoCells"=some u/\RelV v u/\ ∀N H M,Rep K N H M v (.fn "NoCells")
 v_NoBlock: ∃u v,mg "NoBlock"=some u/\RelV v u/\ ∀N H M,Rep K N H M v (.fn "NoBlock")
 x_NoCells: ∃C,XC K "NoCells" C/\mg "NoCells"=some (.ref C)
 x_NoProgram: ∃C,XC K "NoProgram" C/\mg "NoProgram"=some (.ref C)
 xi:XI K xcs xall
section
variable{P:Al}{w:World}{K:A5}{mg:Str->Option Value}{base:Heap}{f:Addr}{fd:By}
noncomputable abbrev Nx0:List Str:=["thing","low","high"]
noncomputable abbrev Qx0:List Str:=["thing","low","high"]
theorem yAG:zAG Nx0 Qx0 (zA4 (top 19)):=mkSc
theorem yBN(F:Fun K "is_whole" "is_whole" (top 19) f fd) (T:Txt K mg):
  FnOk P w K mg base CX0 1 f fd Qx0 (spV K [] 3 zAO):=
 okW P w K mg base Nx0 Qx0 0 zFP [] F yAG fun _ _ _ _ _ _ hr hu hu1=>by
  refine zA3 ?_ ?_
  ·exact(zAY (vt_w (zDA (zBH (visi T.n_isinstance (vv 0) (vty T.n_bool zUO))) (zCA (zBS (zBH (visi T.n_isinstance (vv 0) (vty T.n_int zZE)))))))
   (zA5 (zAD zC6))
   zAI)
  exact zA5 (zAD (zQ2 zQV zQV s_le s_le (vv 1) (vv 0) (vv 2)))
noncomputable abbrev Nx1:List Str:=["a","b"]
noncomputable abbrev Qx1:List Str:=["a","b"]
theorem yAF:zAG Nx1 Qx1 (zA4 (top 20)):=mkSc
theorem yBM(F:Fun K "plus" "plus" (top 20) f fd) (T:Txt K mg):
  FnOk P w K mg base CX0 1 f fd Qx1 (spV K [] 2 zLZ):=
 okW P w K mg base Nx1 Qx1 0 zS9 [] F yAF fun _ _ _ _ _ _ hr hu hu1=>by exact(zA5 (zAD (zCS zE4 zGP (zAW (zD6 (K:=K) rfl) zC0 (vv 0) (vv 1)) (zAW (zD6 (K:=K) rfl) zC0 (zAP (by rfl) T.v_MOST_WORD) zA2))))
noncomputable abbrev Nx2:List Str:=["a","b"]
noncomputable abbrev Qx2:List Str:=["a","b"]
theorem yAE:zAG Nx2 Qx2 (zA4 (top 21)):=mkSc
theorem yBL(F:Fun K "minus" "minus" (top 21) f fd) (T:Txt K mg):
  FnOk P w K mg base CX0 1 f fd Qx2 (spV K [] 2 zII):=
 okW P w K mg base Nx2 Qx2 0 zOW [] F yAE fun _ _ _ _ _ _ hr hu hu1=>by exact(zA5 (zAD (zCS zE4 zGP (zCS zFX zIU (vv 0) (vv 1)) (zAW (zD6 (K:=K) rfl) zC0 (zAP (by rfl) T.v_MOST_WORD) zA2))))
noncomputable abbrev Nx3:List Str:=["a","b"]
noncomputable abbrev Qx3:List Str:=["a","b"]
theorem yAD:zAG Nx3 Qx3 (zA4 (top 22)):=mkSc
theorem yBK(F:Fun K "times" "times" (top 22) f fd) (T:Txt K mg):
  FnOk P w K mg base CX0 1 f fd Qx3 (spV K [] 2 zIG):=
 okW P w K mg base Nx3 Qx3 0 zOU [] F yAD fun _ _ _ _ _ _ hr hu hu1=>by exact(zA5 (zAD (zCS zE4 zGP (zAW (zG0 (K:=K) rfl) zE9 (vv 0) (vv 1)) (zAW (zD6 (K:=K) rfl) zC0 (zAP (by rfl) T.v_MOST_WORD) zA2))))
noncomputable abbrev Nx4:List Str:=["a","b"]
noncomputable abbrev Qx4:List Str:=["a","b"]
theorem yAC:zAG Nx4 Qx4 (zA4 (top 23)):=mkSc
theorem yBJ(F:Fun K "least" "least" (top 23) f fd) (T:Txt K mg):
  FnOk P w K mg base CX0 1 f fd Qx4 (spV K [] 2 zIJ):=
 okW P w K mg base Nx4 Qx4 0 zOX [] F yAC fun _ _ _ _ _ _ hr hu hu1=>by exact(zA5 (zAD (zDB (zJM rfl) zWA (by rfl) T.n_min zSH (vv 0) (vv 1))))
noncomputable abbrev Nx5:List Str:=["a","b"]
noncomputable abbrev Qx5:List Str:=["a","b"]
theorem yAB:zAG Nx5 Qx5 (zA4 (top 24)):=mkSc
theorem yBI(F:Fun K "most" "most" (top 24) f fd) (T:Txt K mg):
  FnOk P w K mg base CX0 1 f fd Qx5 (spV K [] 2 zM2):=
 okW P w K mg base Nx5 Qx5 0 zSC [] F yAB fun _ _ _ _ _ _ hr hu hu1=>by exact(zA5 (zAD (zDB (zJN rfl) zWB (by rfl) T.n_max zSI (vv 0) (vv 1))))
noncomputable abbrev Nx6:List Str:=["a","b"]
noncomputable abbrev Qx6:List Str:=["a","b"]
theorem yAA:zAG Nx6 Qx6 (zA4 (top 25)):=mkSc
theorem yBH(F:Fun K "less" "less" (top 25) f fd) (T:Txt K mg):
  FnOk P w K mg base CX0 1 f fd Qx6 (spV K [] 2 zM3):=
 okW P w K mg base Nx6 Qx6 0 zSD [] F yAA fun _ _ _ _ _ _ hr hu hu1=>by exact(zA5 (zAD (zFF (zB4 zXD s_lt (vv 0) (vv 1) (zBC _)) zA2 zA2)))
noncomputable abbrev Nx7:List Str:=["a","b"]
noncomputable abbrev Qx7:List Str:=["a","b"]
theorem yA9:zAG Nx7 Qx7 (zA4 (top 26)):=mkSc
theorem yBG(F:Fun K "over" "over" (top 26) f fd) (T:Txt K mg):
  FnOk P w K mg base CX0 1 f fd Qx7 (spV K [] 2 zM1):=
 okW P w K mg base Nx7 Qx7 0 zSB [] F yA9 fun _ _ _ _ _ _ hr hu hu1=>by exact(zA5 (zAD (zFF (vteq hu (vv 1) zA2) zBA (zCS zKD zNK (vv 0) (vv 1)))))
noncomputable abbrev Nx8:List Str:=["c","a","b"]
noncomputable abbrev Qx8:List Str:=["c","a","b"]
theorem yA8:zAG Nx8 Qx8 (zA4 (top 27)):=mkSc
theorem yBF(F:Fun K "pick" "pick" (top 27) f fd) (T:Txt K mg):
  FnOk P w K mg base CX0 1 f fd Qx8 (spV K [] 3 zM0):=
 okW P w K mg base Nx8 Qx8 0 zSA [] F yA8 fun _ _ _ _ _ _ hr hu hu1=>by exact(zA5 (zAD (zFF (zB4 (kNeD (K:=K) rfl hu) s_ne (vv 0) zA2 (zBC _)) (vv 1) (vv 2))))
noncomputable abbrev Nx9:List Str:=["deed","words","made"]
noncomputable abbrev Qx9:List Str:=["deed","words"]
theorem zVQ:zAG Nx9 Qx9 (zA4 (top 29)):=mkSc
theorem yBE(F:Fun K "done" "done" (top 29) f fd) (T:Txt K mg) (jf:DefV P w K mg base "plus" 1 Qx1 [] zLZ f_x1) (je:DefV P w K mg base "minus" 1 Qx2 [] zII f_x2) (jd:DefV P w K mg base "times" 1 Qx3 [] zIG f_x3) (jc:DefV P w K mg base "least" 1 Qx4 [] zIJ f_x4) (jb:DefV P w K mg base "most" 1 Qx5 [] zM2 f_x5) (ja:DefV P w K mg base "less" 1 Qx6 [] zM3 f_x6) (j9:DefV P w K mg base "over" 1 Qx7 [] zM1 f_x7) (j8:DefV P w K mg base "pick" 1 Qx8 [] zM0 f_x8):
  FnOk P w K mg base CX0 2 f fd Qx9 (spV K [] 2 zM4):=
 okW P w K mg base Nx9 Qx9 1 zSE [] F zVQ fun _ _ _ _ _ _ hr hu hu1=>by
  refine zA3 ?_ ?_
  ·exact(zAY (vteq hu (vv 0) zAC)
   (zA5 (zAD (vcal j8 hr (zA7 (zAA (vix hu1 (vv 1) zA2)) (zA7 (zAA (vix hu1 (vv 1) zA2)) (zA7 (zAA (vix hu1 (vv 1) zA2)) zA6))))))
   zAI)
  refine zA3 ?_ ?_
  ·exact(zBJ zVQ.nd (zC9 (zAA (vix hu1 (zAP (by rfl) T.v_MADE) (vv 0)))))
  exact zA5 (zAD (zQ3 (zDL (K:=K) rfl T.fnm hr jf (by decide) (zDL (K:=K) rfl T.fnm hr je (by decide) (zDL (K:=K) rfl T.fnm hr jd (by decide) (zDL (K:=K) rfl T.fnm hr jc (by decide) (zDL (K:=K) rfl T.fnm hr jb (by decide) (zDL (K:=K) rfl T.fnm hr ja (by decide) (zDL (K:=K) rfl T.fnm hr j9 (by decide) zT1))))))) (pv 2) (zA7 (zAA (vix hu1 (vv 1) zA2)) (zA7 (zAA (vix hu1 (vv 1) zA2)) zA6))))
noncomputable abbrev Nx10:List Str:=["deed"]
noncomputable abbrev Qx10:List Str:=["deed"]
theorem zW9:zAG Nx10 Qx10 (zA4 (top 37)):=mkSc
theorem zYG(F:Fun K "parts_of" "parts_of" (top 37) f fd) (T:Txt K mg):
  FnOk P w K mg base CX0 1 f fd Qx10 (spV K [] 1 zB5):=
 okW P w K mg base Nx10 Qx10 0 zHU [] F zW9 fun _ _ _ _ _ _ hr hu hu1=>by
  refine zA3 ?_ ?_
  ·exact (zAY (zB4 (kInD (K := K) rfl hu) (zGQ (neg := false)) (vv 0) (zAP (by rfl) T.v_DEEDS) (by with_unfolding_all rfl))
   (zA5 (zAD (zAP (by rfl) T.v_DEED_PARTS)))
   zAI)
  exact zA5 (zAD (zSW rfl hu1 (zAP (by rfl) T.v_OTHER_PARTS) (vv 0) ⟨rfl,rfl,rfl,rfl⟩))
noncomputable abbrev Nx11:List Str:=["row"]
noncomputable abbrev Qx11:List Str:=["row"]
theorem zW8:zAG Nx11 Qx11 (zA4 (top 38)):=mkSc
theorem zYF(F:Fun K "makes_word" "makes_word" (top 38) f fd) (T:Txt K mg):
  FnOk P w K mg base CX0 1 f fd Qx11 (spV K [] 1 zCI):=
 okW P w K mg base Nx11 Qx11 0 zG2 [] F zW8 fun _ _ _ _ _ _ hr hu hu1=>by exact(zA5 (zAD (zHF (zOM (K:=K) rfl hu) (zGQ (neg:=true)) (vix hu1 (vv 0) zA2) (zAP (by rfl) T.v_WRITERS) (by with_unfolding_all rfl))))
noncomputable abbrev Nx12:List Str:=["row"]
noncomputable abbrev Qx12:List Str:=["row"]
theorem zW7:zAG Nx12 Qx12 (zA4 (top 39)):=mkSc
theorem zYE(F:Fun K "place_of" "place_of" (top 39) f fd) (T:Txt K mg):
  FnOk P w K mg base CX0 1 f fd Qx12 (spV K [] 1 zEH):=
 okW P w K mg base Nx12 Qx12 0 zHT [] F zW7 fun _ _ _ _ _ _ hr hu hu1=>by exact(zA5 (zAD (zFF (vt_w (zDA (zB4 (kInD (K:=K) rfl hu) (zGQ (neg:=false)) (vix hu1 (vv 0) zA2) (zAP (by rfl) T.v_READERS) (by with_unfolding_all rfl)) (zCA (zB4 (kInD (K:=K) rfl hu) (zGQ (neg:=false)) (vix hu1 (vv 0) zA2) (zAP (by rfl) T.v_WRITERS) (by with_unfolding_all rfl))))) (vix hu1 (vv 0) zA2) zBA)))
noncomputable abbrev Nx13:List Str:=["row","deed","rest"]
noncomputable abbrev Qx13:List Str:=["row"]
theorem zRS:zAG Nx13 Qx13 (zA4 (top 40)):=mkSc
theorem zYD(F:Fun K "names_of" "names_of" (top 40) f fd) (T:Txt K mg) (cg:DefV P w K mg base "parts_of" 1 Qx10 [] zB5 f_x10):
  FnOk P w K mg base CX0 2 f fd Qx13 (spV K [] 1 zCR):=
 okW P w K mg base Nx13 Qx13 1 zHV [] F zRS fun _ _ _ _ _ _ hr hu hu1=>by
  refine zA3 ?_ ?_
  ·exact(zMX (i:=1) (j:=2) rfl rfl zRS.nd rfl rfl (by decide) (Gf rfl) (Gf rfl) (vv 0))
  exact zA5 (zAD (zAZ (zBP ["part","given"] [] 2 (zRJ rfl (by rfl) T.n_zip (zAA (vcal cg hr (zA7 (vv 1) zA6))) (vv 2)) (fun hn _ _ _ _=>⟨(zDV (K:=K) rfl rfl (zAS (zAL hn) (zAS (zAL hn) zCJ))),(zV9 (vteq hu (vv 0) zAC)),(vv 1)⟩))))
noncomputable abbrev Nx14:List Str:=["thing","able"]
noncomputable abbrev Qx14:List Str:=["thing","able"]
theorem zW6:zAG Nx14 Qx14 (zA4 (top 41)):=mkSc
theorem zYC(F:Fun K "may_name" "may_name" (top 41) f fd) (T:Txt K mg) (am:DefV P w K mg base "is_whole" 1 Qx0 [] zAO f_x0):
  FnOk P w K mg base CX0 2 f fd Qx14 (spV K [] 2 zAJ):=
 okW P w K mg base Nx14 Qx14 1 zDE [] F zW6 fun _ _ _ _ _ _ hr hu hu1=>by exact(zA5 (zAD (zGM (vcal am hr (zA7 (vv 0) (zA7 zA2 (zA7 (zAA (zCS zFX zIU (vlen T.n_len (vv 1)) zA2)) zA6)))) (zHE (vix hu1 (vv 1) (vv 0))))))
noncomputable abbrev Nx15:List Str:=["part","thing","able"]
noncomputable abbrev Qx15:List Str:=["part","thing","able"]
theorem zW5:zAG Nx15 Qx15 (zA4 (top 42)):=mkSc
theorem zYB(F:Fun K "fits" "fits" (top 42) f fd) (T:Txt K mg) (am:DefV P w K mg base "is_whole" 1 Qx0 [] zAO f_x0) (ao:DefV P w K mg base "may_name" 2 Qx14 [] zAJ f_x14):
  FnOk P w K mg base CX0 3 f fd Qx15 (spV K [] 3 zDZ):=
 okW P w K mg base Nx15 Qx15 2 zH1 [] F zW5 fun _ _ _ _ _ _ hr hu hu1=>by
  refine zA3 ?_ ?_
  ·exact(zAY (vteq hu (vv 0) zAC)
   (zA5 (zAD (vcal am hr (zA7 (vv 1) (zA7 zA2 (zA7 (zAA (zAP (by rfl) T.v_MOST_WORD)) zA6))))))
   zAI)
  refine zA3 ?_ ?_
  ·exact(zAY (vteq hu (vv 0) zAC)
   (zA5 (zAD (vcal am hr (zA7 (vv 1) (zA7 zA2 (zA7 (zAA (zAP (by rfl) T.v_MOST_PLACE)) zA6))))))
   zAI)
  exact zA5 (zAD (vcal ao hr (zA7 (vv 1) (zA7 (vv 2) zA6))))
noncomputable abbrev Nx16:List Str:=["thing","able","deed","rest","parts"]
noncomputable abbrev Qx16:List Str:=["thing","able"]
theorem zNI:zAG Nx16 Qx16 (zA4 (top 43)):=mkSc
theorem zYA(F:Fun K "is_row" "is_row" (top 43) f fd) (T:Txt K mg) (cg:DefV P w K mg base "parts_of" 1 Qx10 [] zB5 f_x10) (gy:DefV P w K mg base "fits" 3 Qx15 [] zDZ f_x15):
  FnOk P w K mg base CX0 4 f fd Qx16 (spV K [] 2 zCG):=
 okW P w K mg base Nx16 Qx16 3 zF2 [] F zNI fun _ _ _ _ _ _ hr hu hu1=>by
  refine zA3 ?_ ?_
  ·exact(zAY (vt_w (zDA (zBS (zBH (visi T.n_isinstance (vv 0) (vty T.n_tuple zCP)))) (zCA (vteq hu (vlen T.n_len (vv 0)) zA2))))
   (zA5 (zAD zC6))
   zAI)
  refine zA3 ?_ ?_
  ·exact (zMX (i := 2) (j := 3) rfl rfl zNI.nd rfl rfl (by decide) (Gf rfl) (Gf rfl) (vv 0))
  refine zA3 ?_ ?_
  ·exact(zBJ zNI.nd (zC9 (zAA (zFF (zBH (visi T.n_isinstance (vv 2) (vty T.n_str zPO))) (vcal cg hr (zA7 (vv 2) zA6)) zBA))))
  refine zA3 ?_ ?_
  ·exact(zAY (vt_w (zDA (zB4 zS1 zWC (vv 4) zBA (zBC _)) (zCA (zB4 (kNeD (K:=K) rfl hu) s_ne (vlen T.n_len (vv 4)) (vlen T.n_len (vv 3)) (zBC _)))))
   (zA5 (zAD zC6))
   zAI)
  exact zA5 (zAD (zK4 (kAll (K:=K) rfl rfl) zNL (by rfl) T.n_all zJU (zAZ (zBP ["able","part","given"] [1] 2 (zRJ rfl (by rfl) T.n_zip (vv 4) (vv 3)) (fun hn _ _ _ _=>⟨(zDV (K:=K) rfl rfl (zAS (zAL hn) (zAS (zAL hn) zCJ))),zCY,(zAA (vcal gy hr (zA7 (vv 1) (zA7 (vv 2) (zA7 (vv 0) zA6)))))⟩)))))
noncomputable abbrev Nx17:List Str:=["thing"]
noncomputable abbrev Qx17:List Str:=["thing"]
theorem zW4:zAG Nx17 Qx17 (zA4 (top 47)):=mkSc
theorem zY9(F:Fun K "is_lanes" "is_lanes" (top 47) f fd) (T:Txt K mg) (am:DefV P w K mg base "is_whole" 1 Qx0 [] zAO f_x0):
  FnOk P w K mg base CX0 2 f fd Qx17 (spV K [] 1 zC5):=
 okW P w K mg base Nx17 Qx17 1 zEF [] F zW4 fun _ _ _ _ _ _ hr hu hu1=>by exact(zA5 (zAD (vcal am hr (zA7 (vv 0) (zA7 (zAA (zAP (by rfl) T.v_LEAST_LANES)) (zA7 (zAA (zAP (by rfl) T.v_MOST_LANES)) zA6))))))
noncomputable abbrev Nx18:List Str:=["thing","sure"]
noncomputable abbrev Qx18:List Str:=["thing","sure"]
theorem zW3:zAG Nx18 Qx18 (zA4 (top 50)):=mkSc
theorem zY8(F:Fun K "is_cells" "is_cells" (top 50) f fd) (T:Txt K mg) (am:DefV P w K mg base "is_whole" 1 Qx0 [] zAO f_x0):
  FnOk P w K mg base CX0 2 f fd Qx18 (spV K [] 2 zBB):=
 okW P w K mg base Nx18 Qx18 1 zFQ [] F zW3 fun _ _ _ _ _ _ hr hu hu1=>by
  refine zA3 ?_ ?_
  ·exact (zAY (vt_w (zDA (zBS (zBH (visi T.n_isinstance (vv 0) (vty T.zHN zKS)))) (zCA (zBS (zPZ zQV zQV s_le s_le (vv 1) (vlen T.n_len (vv 0)) (zAP (by rfl) T.v_MOST_CELLS))))))
   (zA5 (zAD zC6))
   zAI)
  exact zA5 (zAD (zK4 (kAll (K:=K) rfl rfl) zNL (by rfl) T.n_all zJU (zAZ (zBP ["word"] [] 1 (zE0 rfl (vv 0)) (fun hn _ _ _ _=>⟨(zAL hn),zCY,(zAA (vcal am hr (zA7 (vv 0) (zA7 zA2 (zA7 (zAA (zAP (by rfl) T.v_MOST_WORD)) zA6)))))⟩)))))
noncomputable abbrev Nx19:List Str:=["deed","words"]
noncomputable abbrev Qx19:List Str:=["deed","words"]
theorem zW2:zAG Nx19 Qx19 (zA4 (top 51)):=mkSc
theorem zY7(F:Fun K "touches" "touches" (top 51) f fd) (T:Txt K mg):
  FnOk P w K mg base CX0 1 f fd Qx19 (spV K [] 2 zFC):=
 okW P w K mg base Nx19 Qx19 0 zJF [] F zW2 fun _ _ _ _ _ _ hr hu hu1=>by
  refine zA3 ?_ ?_
  ·exact(zAY (vteq hu (vv 0) zAC)
   (zA5 (zAD (zHF (kNeD (K:=K) rfl hu) s_ne (vix hu1 (vv 1) zA2) zA2 (zBC _))))
   zAI)
  refine zA3 ?_ ?_
  ·exact(zAY (vteq hu (vv 0) zAC)
   (zA5 (zAD (zHF (kNeD (K:=K) rfl hu) s_ne (vix hu1 (vv 1) zA2) zA2 (zBC _))))
   zAI)
  exact zA5 (zAD zC6)
noncomputable abbrev Nx20:List Str:=["deed","place","words","cells"]
noncomputable abbrev Qx20:List Str:=["deed","place","words","cells"]
theorem zW1:zAG Nx20 Qx20 (zA4 (top 52)):=mkSc
theorem zY6(F:Fun K "do_on_cell" "do_on_cell" (top 52) f fd) (T:Txt K mg) (gw:DefV P w K mg base "touches" 1 Qx19 [] zFC f_x19):
  FnOk P w K mg base CX0 2 f fd Qx20 (spV K [3] 4 zD4):=
 okW P w K mg base Nx20 Qx20 1 zG3 [3] F zW1 fun _ _ _ _ _ _ hr hu hu1=>by
  refine zA3 ?_ ?_
  ·exact(zAY (zBS (zBH (vcal gw hr (zA7 (vv 0) (zA7 (vv 2) zA6)))))
   (zA5 (zAD (zAH (zA0 (zFF (vteq hu (vv 0) zAC) (vix hu1 (vv 2) zA2) zBA) (zA0 zBA zA8)))))
   zAI)
  refine zA3 ?_ ?_
  ·exact(zAY (zB4 yBD s_ge (vv 1) (vlen T.n_len (vo 3)) (zBC _))
   (zA5 (zAD (zAH (zA0 zBA (zA0 zAC zA8)))))
   zAI)
  refine zA3 ?_ ?_
  ·exact (zAY (zB4 (kInD (K := K) rfl hu) (zGQ (neg := false)) (vv 0) (zAP (by rfl) T.v_WRITERS) (by with_unfolding_all rfl))
   (zA3 (zV2 rfl (pv 3) (vv 1) (zAA (vix hu1 (vv 2) zA2)))
   (zA5 (zAD (zAH (zA0 zBA (zA0 zBA zA8))))))
   zAI)
  exact zA5 (zAD (zAH (zA0 (vix hu1 (vo 3) (vv 1)) (zA0 zBA zA8))))
noncomputable abbrev Nx21:List Str:=["row","words","cells","shift","deed","place","word"]
noncomputable abbrev Qx21:List Str:=["row","words","cells","shift"]
theorem zL8:zAG Nx21 Qx21 (zA4 (top 53)):=mkSc
theorem zS5{Td:Addr}(F:FunD K "do_row" "do_row" (top 53) (.ref Td) f fd) (T:Txt K mg) (i6:DefV P w K mg base "done" 2 Qx9 [] zM4 f_x9) (eh:DefV P w K mg base "place_of" 1 Qx12 [] zEH f_x12) (eg:DefV P w K mg base "do_on_cell" 2 Qx20 [3] zD4 f_x20):
  FnOk P w K mg base CX0 3 f fd Qx21 (spV K [2] 4 zD3):=
 FunD.okV (P:=P) (w:=w) (mg:=mg) (base:=base) (K:=K) (N:=Nx21) (ps:=Qx21) (k:=2) (g:=zLN) (ml:=[2]) F zL8 (by decide) fun cdv A outer s H E hr=>by
  have hu:=hr.units
  have hu1:=zUC hr
  refine zA3 ?_ ?_
  ·exact(zBJ zL8.nd (zC9 (zAA (vix hu1 (vv 0) zA2))))
  refine zA3 ?_ ?_
  ·exact(zAY (vteq hu (vv 4) zAC)
   (zA5 (zAD (zAH (zA0 (vix hu1 (vv 0) zA2) (zA0 zBA zA8)))))
   zAI)
  refine zA3 ?_ ?_
  ·exact(zBJ zL8.nd (zC9 (zAA (vcal eh hr (zA7 (vv 0) zA6)))))
  refine zA3 ?_ ?_
  ·exact(zAY (zB4 zKC zNJ (vv 5) zBA (zBC _))
   (zA5 (zAD (vcal eg hr (zA7 (vv 4) (zA7 (zAA (zAW (zD6 (K:=K) rfl) zC0 (vv 5) (vv 3))) (zA7 (vv 1) (zB7 (pv 2) zA6)))))))
   zAI)
  refine zA3 ?_ ?_
  ·exact(zBJ zL8.nd (zC9 (zAA (vcal i6 hr (zA7 (vv 4) (zA7 (vv 1) zA6))))))
  exact zA5 (zAD (zAH (zA0 (vv 6) (zA0 (zFF (zB4 zS1 zWC (vv 6) zBA (zBC _)) zAC zBA) zA8))))
noncomputable abbrev Nx22:List Str:=["thing","lanes"]
noncomputable abbrev Qx22:List Str:=["thing","lanes"]
theorem zW0:zAG Nx22 Qx22 (zA4 (top 56)):=mkSc
theorem zY5(F:Fun K "is_for_lanes" "is_for_lanes" (top 56) f fd) (T:Txt K mg):
  FnOk P w K mg base CX0 1 f fd Qx22 (spV K [] 2 zAV):=
 okW P w K mg base Nx22 Qx22 0 zCE [] F zW0 fun _ _ _ _ _ _ hr hu hu1=>by exact(zA5 (zAD (zGM (visi T.n_isinstance (vv 0) (vty T.n_tuple zCP)) (zHE (veq hu (vlen T.n_len (vv 0)) (vv 1))))))
noncomputable abbrev Nx23:List Str:=["rest","lanes","packs"]
noncomputable abbrev Qx23:List Str:=["rest","lanes","packs"]
theorem zVZ:zAG Nx23 Qx23 (zA4 (top 57)):=mkSc
theorem zY4(F:Fun K "is_wide" "is_wide" (top 57) f fd) (T:Txt K mg) (am:DefV P w K mg base "is_whole" 1 Qx0 [] zAO f_x0) (cb:DefV P w K mg base "is_row" 4 Qx16 [] zCG f_x16) (b5:DefV P w K mg base "is_for_lanes" 1 Qx22 [] zAV f_x22):
  FnOk P w K mg base CX0 5 f fd Qx23 (spV K [] 3 zC2):=
 okW P w K mg base Nx23 Qx23 4 zDF [] F zVZ fun _ _ _ _ _ _ hr hu hu1=>by
  refine zA3 ?_ ?_
  ·exact(zAY (vt_w (zRI (vteq hu (vlen T.n_len (vv 0)) zA2) (zRI (zBH (visi T.n_isinstance (vix hu1 (vv 0) zA2) (vty T.n_str zPO))) (zSQ (vteq hu (vix hu1 (vv 0) zA2) zAC)))))
   (zA5 (zAD (zGM (vcal b5 hr (zA7 (zAA (vix hu1 (vv 0) zA2)) (zA7 (vv 1) zA6))) (zHE (zK4 (kAll (K:=K) rfl rfl) zNL (by rfl) T.n_all zJU (zAZ (zBP ["word"] [] 1 (zE0 rfl (zAA (vix hu1 (vv 0) zA2))) (fun hn _ _ _ _=>⟨(zAL hn),zCY,(zAA (vcal am hr (zA7 (vv 0) (zA7 zA2 (zA7 (zAA (zAP (by rfl) T.v_MOST_WORD)) zA6)))))⟩))))))))
   zAI)
  exact zA5 (zAD (vcal cb hr (zA7 (vv 0) (zA7 (vv 2) zA6))))
noncomputable abbrev Nx24:List Str:=["rest","lanes","words"]
noncomputable abbrev Qx24:List Str:=["rest","lanes","words"]
theorem zVY:zAG Nx24 Qx24 (zA4 (top 58)):=mkSc
theorem zY3(F:Fun K "is_gather" "is_gather" (top 58) f fd) (T:Txt K mg) (ao:DefV P w K mg base "may_name" 2 Qx14 [] zAJ f_x14) (b5:DefV P w K mg base "is_for_lanes" 1 Qx22 [] zAV f_x22):
  FnOk P w K mg base CX0 3 f fd Qx24 (spV K [] 3 zC4):=
 okW P w K mg base Nx24 Qx24 2 zDS [] F zVY fun _ _ _ _ _ _ hr hu hu1=>by
  refine zA3 ?_ ?_
  ·exact(zAY (vt_w (zDA (zB4 (kNeD (K:=K) rfl hu) s_ne (vlen T.n_len (vv 0)) zA2 (zBC _)) (zCA (zBS (zBH (vcal b5 hr (zA7 (zAA (vix hu1 (vv 0) zA2)) (zA7 (vv 1) zA6))))))))
   (zA5 (zAD zC6))
   zAI)
  exact zA5 (zAD (zK4 (kAll (K:=K) rfl rfl) zNL (by rfl) T.n_all zJU (zAZ (zBP ["words","row"] [2] 1 (zE0 rfl (zAA (vix hu1 (vv 0) zA2))) (fun hn _ _ _ _=>⟨(zAL hn),zCY,(zAA (vcal ao hr (zA7 (vv 1) (zA7 (vv 0) zA6))))⟩)))))
noncomputable abbrev Nx25:List Str:=["rest","lanes","packs"]
noncomputable abbrev Qx25:List Str:=["rest","lanes","packs"]
theorem zVX:zAG Nx25 Qx25 (zA4 (top 59)):=mkSc
theorem zY2(F:Fun K "is_shuffle" "is_shuffle" (top 59) f fd) (T:Txt K mg) (am:DefV P w K mg base "is_whole" 1 Qx0 [] zAO f_x0) (ao:DefV P w K mg base "may_name" 2 Qx14 [] zAJ f_x14) (b5:DefV P w K mg base "is_for_lanes" 1 Qx22 [] zAV f_x22):
  FnOk P w K mg base CX0 3 f fd Qx25 (spV K [] 3 zBX):=
 okW P w K mg base Nx25 Qx25 2 zCZ [] F zVX fun _ _ _ _ _ _ hr hu hu1=>by
  refine zA3 ?_ ?_
  ·exact(zAY (vt_w (zDA (zB4 (kNeD (K:=K) rfl hu) s_ne (vlen T.n_len (vv 0)) zA2 (zBC _)) (zDA (zBS (zBH (vcal ao hr (zA7 (zAA (vix hu1 (vv 0) zA2)) (zA7 (vv 2) zA6))))) (zCA (zBS (zBH (vcal ao hr (zA7 (zAA (vix hu1 (vv 0) zA2)) (zA7 (vv 2) zA6)))))))))
   (zA5 (zAD zC6))
   zAI)
  exact zA5 (zAD (zGM (vcal b5 hr (zA7 (zAA (vix hu1 (vv 0) zA2)) (zA7 (vv 1) zA6))) (zHE (zK4 (kAll (K:=K) rfl rfl) zNL (by rfl) T.n_all zJU (zAZ (zBP ["lanes","at"] [1] 1 (zE0 rfl (zAA (vix hu1 (vv 0) zA2))) (fun hn _ _ _ _=>⟨(zAL hn),zCY,(zAA (vcal am hr (zA7 (vv 1) (zA7 zA2 (zA7 (zAA (zCS zFX zIU (zAW (zG0 (K:=K) rfl) zE9 zA2 (vv 0)) zA2)) zA6)))))⟩)))))))
noncomputable abbrev Nx26:List Str:=["rest","lanes","packs"]
noncomputable abbrev Qx26:List Str:=["rest","lanes","packs"]
theorem zVW:zAG Nx26 Qx26 (zA4 (top 60)):=mkSc
theorem zY1(F:Fun K "is_lane" "is_lane" (top 60) f fd) (T:Txt K mg) (am:DefV P w K mg base "is_whole" 1 Qx0 [] zAO f_x0) (ao:DefV P w K mg base "may_name" 2 Qx14 [] zAJ f_x14):
  FnOk P w K mg base CX0 3 f fd Qx26 (spV K [] 3 zCX):=
 okW P w K mg base Nx26 Qx26 2 zF3 [] F zVW fun _ _ _ _ _ _ hr hu hu1=>by exact(zA5 (zAD (zGM (veq hu (vlen T.n_len (vv 0)) zA2) (zGM (vcal ao hr (zA7 (zAA (vix hu1 (vv 0) zA2)) (zA7 (vv 2) zA6))) (zHE (vcal am hr (zA7 (zAA (vix hu1 (vv 0) zA2)) (zA7 zA2 (zA7 (zAA (zCS zFX zIU (vv 1) zA2)) zA6)))))))))
noncomputable abbrev Nx27:List Str:=["thing","lanes","words","packs","deed","rest"]
noncomputable abbrev Qx27:List Str:=["thing","lanes","words","packs"]
theorem zRR:zAG Nx27 Qx27 (zA4 (top 61)):=mkSc
theorem zY0(F:Fun K "is_program_row" "is_program_row" (top 61) f fd) (T:Txt K mg) (cb:DefV P w K mg base "is_row" 4 Qx16 [] zCG f_x16) (gv:DefV P w K mg base "is_wide" 5 Qx23 [] zC2 f_x23) (gu:DefV P w K mg base "is_gather" 3 Qx24 [] zC4 f_x24) (gq:DefV P w K mg base "is_shuffle" 3 Qx25 [] zBX f_x25) (gp:DefV P w K mg base "is_lane" 3 Qx26 [] zCX f_x26):
  FnOk P w K mg base CX0 6 f fd Qx27 (spV K [] 4 zAN):=
 okW P w K mg base Nx27 Qx27 5 zBN [] F zRR fun _ _ _ _ _ _ hr hu hu1=>by
  refine zA3 ?_ ?_
  ·exact(zAY (vt_w (zDA (zBS (zBH (visi T.n_isinstance (vv 0) (vty T.n_tuple zCP)))) (zDA (vteq hu (vlen T.n_len (vv 0)) zA2) (zCA (zBS (zBH (visi T.n_isinstance (vix hu1 (vv 0) zA2) (vty T.n_str zPO))))))))
   (zA5 (zAD zC6))
   zAI)
  refine zA3 ?_ ?_
  ·exact (zI1 (i := 4) (j := 5) rfl zRR.nd rfl rfl (by decide) rfl rfl (zC9 (zAA (vix hu1 (vv 0) zA2))) (zC9 (zAA (zK3 rfl (vv 0) (zK1 zA2) zK2))) rfl)
  refine zA3 ?_ ?_
  ·exact(zAY (vteq hu (vv 4) zAC)
   (zA5 (zAD (vcal gv hr (zA7 (vv 5) (zA7 (vv 1) (zA7 (vv 3) zA6))))))
   zAI)
  refine zA3 ?_ ?_
  ·exact(zAY (vteq hu (vv 4) zAC)
   (zA5 (zAD (vcal gu hr (zA7 (vv 5) (zA7 (vv 1) (zA7 (vv 2) zA6))))))
   zAI)
  refine zA3 ?_ ?_
  ·exact(zAY (vteq hu (vv 4) zAC)
   (zA5 (zAD (vcal gq hr (zA7 (vv 5) (zA7 (vv 1) (zA7 (vv 3) zA6))))))
   zAI)
  refine zA3 ?_ ?_
  ·exact(zAY (vteq hu (vv 4) zAC)
   (zA5 (zAD (vcal gp hr (zA7 (vv 5) (zA7 (vv 1) (zA7 (vv 3) zA6))))))
   zAI)
  exact zA5 (zAD (vcal cb hr (zA7 (vv 0) (zA7 (vv 2) zA6))))
noncomputable abbrev Nx28:List Str:=["row"]
noncomputable abbrev Qx28:List Str:=["row"]
theorem zVV:zAG Nx28 Qx28 (zA4 (top 62)):=mkSc
theorem zXZ(F:Fun K "kind_made" "kind_made" (top 62) f fd) (T:Txt K mg) (ei:DefV P w K mg base "makes_word" 1 Qx11 [] zCI f_x11):
  FnOk P w K mg base CX0 2 f fd Qx28 (spV K [] 1 zCW):=
 okW P w K mg base Nx28 Qx28 1 zH0 [] F zVV fun _ _ _ _ _ _ hr hu hu1=>by
  refine zA3 ?_ ?_
  ·exact(zAY (vteq hu (vix hu1 (vv 0) zA2) zAC)
   (zA5 (zAD (zFF (zBH (vcal ei hr (zA7 (zAA (zK3 rfl (vv 0) (zK1 zA2) zK2)) zA6))) zAC zBA)))
   zAI)
  refine zA3 ?_ ?_
  ·exact (zAY (zB4 (kInD (K := K) rfl hu) (zGQ (neg := false)) (vix hu1 (vv 0) zA2) (zAH (zA0 zAC (zA0 zAC zA8))) (by with_unfolding_all rfl))
   (zA5 (zAD zAC))
   zAI)
  exact zA5 (zAD (zFF (zBH (vcal ei hr (zA7 (vv 0) zA6))) zAC zBA))
noncomputable abbrev Nx29:List Str:=["rows","lanes","words","packs","row","kind"]
noncomputable abbrev Qx29:List Str:=["rows","lanes"]
theorem zL7:zAG Nx29 Qx29 (zA4 (top 63)):=mkSc
theorem zXY(F:Fun K "are_program_rows" "are_program_rows" (top 63) f fd) (T:Txt K mg) (gn:DefV P w K mg base "is_program_row" 6 Qx27 [] zAN f_x27) (gm:DefV P w K mg base "kind_made" 2 Qx28 [] zCW f_x28):
  FnOk P w K mg base CX0 7 f fd Qx29 (spV K [] 2 zAU):=
 okW P w K mg base Nx29 Qx29 6 zBQ [] F zL7 fun _ _ _ _ _ _ hr hu hu1=>by
  refine zA3 ?_ ?_
  ·exact (zI1 (i := 2) (j := 3) rfl zL7.nd rfl rfl (by decide) rfl rfl (zGJ (zB8 (zAK zA8))) (zGJ (zB8 (zAK zA8))) rfl)
  refine zA3 ?_ ?_
  ·exact(zGK Df rfl (zE0 rfl (vv 0)) (zAL zL7.nd)
   (zA3 (zAY (zBS (zBH (vcal gn hr (zA7 (vv 4) (zA7 (vv 1) (zB7 (pv 2) (zB7 (pv 3) zA6)))))))
   (zA5 (zAD zC6))
   zAI)
   (zA3 (zBJ zL7.nd (zC9 (zAA (vcal gm hr (zA7 (vv 4) zA6)))))
   (zA3 (zBZ (K:=K) rfl An Ao zBD zDD (pv 2) (zAK (zA0 (veq hu (vv 5) zAC) zA8)))
   (zA5 (zBZ (K:=K) rfl An Ao zBD zDD (pv 3) (zAK (zA0 (veq hu (vv 5) zAC) zA8))))))))
  exact zA5 (zAD zC6)
noncomputable abbrev Nx30:List Str:=["thing","lanes","sure","rows"]
noncomputable abbrev Qx30:List Str:=["thing"]
theorem zL6:zAG Nx30 Qx30 (zA4 (top 64)):=mkSc
theorem zXX(F:Fun K "is_program" "is_program" (top 64) f fd) (T:Txt K mg) (am:DefV P w K mg base "is_whole" 1 Qx0 [] zAO f_x0) (gx:DefV P w K mg base "is_lanes" 2 Qx17 [] zC5 f_x17) (gl:DefV P w K mg base "are_program_rows" 7 Qx29 [] zAU f_x29):
  FnOk P w K mg base CX0 8 f fd Qx30 (spV K [] 1 zAB):=
 okW P w K mg base Nx30 Qx30 7 zD0 [] F zL6 fun _ _ _ _ _ _ hr hu hu1=>by
  refine zA3 ?_ ?_
  ·exact(zAY (vt_w (zDA (zBS (zBH (visi T.n_isinstance (vv 0) (vty T.n_tuple zCP)))) (zCA (zB4 (kNeD (K:=K) rfl hu) s_ne (vlen T.n_len (vv 0)) zA2 (zBC _)))))
   (zA5 (zAD zC6))
   zAI)
  refine zA3 ?_ ?_
  ·exact(zEU (vv 0) (zDV (K:=K) rfl rfl (zAS (zAL zL6.nd) (zAS (zAL zL6.nd) (zAS (zAL zL6.nd) zCJ)))))
  refine zA3 ?_ ?_
  ·exact (zAY (vt_w (zDA (zBS (zBH (vcal gx hr (zA7 (vv 1) zA6)))) (zCA (zBS (zBH (vcal am hr (zA7 (vv 2) (zA7 zA2 (zA7 (zAA (zAP (by rfl) T.v_MOST_SURE)) zA6)))))))))
   (zA5 (zAD zC6))
   zAI)
  refine zA3 ?_ ?_
  ·exact (zAY (vt_w (zDA (zBS (zBH (visi T.n_isinstance (vv 3) (vty T.n_tuple zCP)))) (zCA (zB4 yBC s_gt (vlen T.n_len (vv 3)) (zAP (by rfl) T.v_MOST_PROGRAM_ROWS) (zBC _)))))
   (zA5 (zAD zC6))
   zAI)
  exact zA5 (zAD (vcal gl hr (zA7 (vv 3) (zA7 (vv 1) zA6))))
noncomputable abbrev Nx31:List Str:=["row","lanes","made","cells","pack","lane","words","word","why"]
noncomputable abbrev Qx31:List Str:=["row","lanes","made","cells"]
theorem zHI:zAG Nx31 Qx31 (zA4 (top 65)):=mkSc
theorem zXW(F:Fun K "do_wide" "do_wide" (top 65) f fd) (T:Txt K mg) (cf:DefV P w K mg base "names_of" 2 Qx13 [] zCR f_x13) (dg:DefV P w K mg base "do_row" 3 Qx21 [2] zD3 f_x21):
  FnOk P w K mg base CX0 4 f fd Qx31 (spV K [2,3] 4 zFD):=
 okW P w K mg base Nx31 Qx31 3 zJG [2,3] F zHI fun _ _ _ _ _ _ hr hu hu1=>by
  refine zA3 ?_ ?_
  ·exact(zAY (vteq hu (vix hu1 (vv 0) zA2) zAC)
   (zA5 (zAD (zAH (zA0 (zAZ (zV3 (zS7 (K:=K) rfl) zHN (by rfl) T.zHN zKS (zZZ (vix hu1 (vv 0) zA2)))) (zA0 zBA (zA0 zBA zA8))))))
   zAI)
  refine zA3 ?_ ?_
  ·exact(zBJ zHI.nd (zGJ (zB8 (zAK zA8))))
  refine zA3 ?_ ?_
  ·exact (zGK Df rfl (zCH (by rfl) T.n_range (vv 1)) (zAL zHI.nd)
   (zA3 (zQ0 false zHI.nd ["made","lane","name"] [2,5] 1 (zE0 rfl (zAA (vcal cf hr (zA7 (vv 0) zA6)))) (fun hn _ _ _ _=>⟨(zAL hn),zCY,(zAA (vix hu1 (vix hu1 (vo 0) (vv 2)) (vv 1)))⟩))
   (zA3 (zEU (zAA (vcal dg hr (zA7 (vv 0) (zA7 (vv 6) (zB7 (pv 3) (zA7 (vv 5) zA6)))))) (zDV (K:=K) rfl rfl (zAS (zAL zHI.nd) (zAS (zAL zHI.nd) zCJ))))
   (zA3 (zAY (zB4 zKC zNJ (vv 8) zBA (zBC _))
   (zA5 (zAD (zAH (zGC (pv 4) (zA0 (vv 5) (zA0 (vv 8) zA8))))))
   zAI)
   (zA5 (zBZ (K:=K) rfl An Ao zBD zDD (pv 4) (zAK (zA0 (vv 7) zA8))))))))
  exact zA5 (zAD (zAH (zGC (pv 4) (zA0 zBA (zA0 zBA zA8)))))
noncomputable abbrev Nx32:List Str:=["row","made","both"]
noncomputable abbrev Qx32:List Str:=["row","made"]
theorem zRQ:zAG Nx32 Qx32 (zA4 (top 66)):=mkSc
theorem zXV(F:Fun K "moved" "moved" (top 66) f fd) (T:Txt K mg):
  FnOk P w K mg base CX0 1 f fd Qx32 (spV K [1] 2 zIH):=
 okW P w K mg base Nx32 Qx32 0 zOV [1] F zRQ fun _ _ _ _ _ _ hr hu hu1=>by
  refine zA3 ?_ ?_
  ·exact(zAY (vteq hu (vix hu1 (vv 0) zA2) zAC)
   (zA5 (zAD (zAZ (zBP ["made","name"] [1] 1 (zE0 rfl (zAA (vix hu1 (vv 0) zA2))) (fun hn _ _ _ _=>⟨(zAL hn),zCY,(zAA (vix hu1 (vo 0) (vv 1)))⟩)))))
   zAI)
  refine zA3 ?_ ?_
  ·exact(zAY (vteq hu (vix hu1 (vv 0) zA2) zAC)
   (zA5 (zAD (vix hu1 (vix hu1 (vo 1) (vix hu1 (vv 0) zA2)) (vix hu1 (vv 0) zA2))))
   zAI)
  refine zA3 ?_ ?_
  ·exact(zBJ zRQ.nd (zC9 (zAA (zAW (zD6 (K:=K) rfl) zC0 (vix hu1 (vo 1) (vix hu1 (vv 0) zA2)) (vix hu1 (vo 1) (vix hu1 (vv 0) zA2))))))
  exact zA5 (zAD (zAZ (zBP ["both","at"] [2] 1 (zE0 rfl (zAA (vix hu1 (vv 0) zA2))) (fun hn _ _ _ _=>⟨(zAL hn),zCY,(zAA (vix hu1 (vv 0) (vv 1)))⟩))))
noncomputable abbrev Nx33:List Str:=["row","lanes","made","cells","word","why"]
noncomputable abbrev Qx33:List Str:=["row","lanes","made","cells"]
theorem zNH:zAG Nx33 Qx33 (zA4 (top 67)):=mkSc
theorem zXU(F:Fun K "do_program_row" "do_program_row" (top 67) f fd) (T:Txt K mg) (cf:DefV P w K mg base "names_of" 2 Qx13 [] zCR f_x13) (dg:DefV P w K mg base "do_row" 3 Qx21 [2] zD3 f_x21) (gk:DefV P w K mg base "do_wide" 4 Qx31 [2,3] zFD f_x31) (gj:DefV P w K mg base "moved" 1 Qx32 [1] zIH f_x32) (dn:DefD P w K mg base "do_row" 3 Qx21 (spV K [2] 4 zD3) f_x21 (.int 0)):
  FnOk P w K mg base CX0 5 f fd Qx33 (spV K [2,3] 4 zBO):=
 okW P w K mg base Nx33 Qx33 4 zDX [2,3] F zNH fun _ _ _ _ _ _ hr hu hu1=>by
  refine zA3 ?_ ?_
  ·exact(zAY (vteq hu (vix hu1 (vv 0) zA2) zAC)
   (zA5 (zAD (vcal gk hr (zA7 (zAA (zK3 rfl (vv 0) (zK1 zA2) zK2)) (zA7 (vv 1) (zB7 (pv 2) (zB7 (pv 3) zA6)))))))
   zAI)
  refine zA3 ?_ ?_
  ·exact (zAY (zB4 (kInD (K := K) rfl hu) (zGQ (neg := false)) (vix hu1 (vv 0) zA2) (zAH (zA0 zAC (zA0 zAC (zA0 zAC zA8)))) (by with_unfolding_all rfl))
   (zA5 (zAD (zAH (zA0 (vcal gj hr (zA7 (vv 0) (zB7 (pv 2) zA6))) (zA0 zBA (zA0 zBA zA8))))))
   zAI)
  refine zA3 ?_ ?_
  ·exact(zEU (zAA (zQ5 (K:=K) (v:=(.int 0)) (d:=(.int 0)) rfl dn (fun _ _ _=>(.int _)) (fun _=>nofun) hr (by decide) (by rfl) (zA7 (vv 0) (zA7 (zAZ (zBP ["made","name"] [2] 1 (zE0 rfl (zAA (vcal cf hr (zA7 (vv 0) zA6)))) (fun hn _ _ _ _=>⟨(zAL hn),zCY,(zAA (vix hu1 (vo 0) (vv 1)))⟩))) (zB7 (pv 3) zA6))))) (zDV (K:=K) rfl rfl (zAS (zAL zNH.nd) (zAS (zAL zNH.nd) zCJ))))
  exact zA5 (zAD (zAH (zA0 (vv 4) (zA0 zBA (zA0 (vv 5) zA8)))))
noncomputable abbrev Nx34:List Str:=["program","cells","lanes","sure","rows","then","made","at","row","told","lane","why"]
noncomputable abbrev Qx34:List Str:=["program","cells"]
theorem zCT:zAG Nx34 Qx34 (zA4 (top 68)):=mkSc
theorem zXT(F:Fun K "run_program" "run_program" (top 68) f fd) (T:Txt K mg) (c9:DefV P w K mg base "is_cells" 2 Qx18 [] zBB f_x18) (ai:DefV P w K mg base "is_program" 8 Qx30 [] zAB f_x30) (df:DefV P w K mg base "do_program_row" 5 Qx33 [2,3] zBO f_x33):
  FnOk P w K mg base CX0 9 f fd Qx34 (spV K [] 2 zBF):=
 okW P w K mg base Nx34 Qx34 8 zCM [] F zCT fun _ _ _ _ _ _ hr hu hu1=>by
  refine zA3 ?_ ?_
  ·exact(zAY (zBS (zBH (vcal ai hr (zA7 (vv 0) zA6))))
   (zA5 zGA)
   zAI)
  refine zA3 ?_ ?_
  ·exact(zEU (vv 0) (zDV (K:=K) rfl rfl (zAS (zAL zCT.nd) (zAS (zAL zCT.nd) (zAS (zAL zCT.nd) zCJ)))))
  refine zA3 ?_ ?_
  ·exact(zAY (zBS (zBH (vcal c9 hr (zA7 (vv 1) (zA7 (vv 3) zA6)))))
   (zA5 zGA)
   zAI)
  refine zA3 ?_ ?_
  ·exact (zBJ zCT.nd (zGJ (zV3 (zS7 (K := K) rfl) zHN (by rfl) T.zHN zKS (vv 1))))
  refine zA3 ?_ ?_
  ·exact(zBJ zCT.nd (zGJ (zB8 (zAK zA8))))
  refine zA3 ?_ ?_
  ·exact (zGK Df rfl (zSU rfl (by rfl) T.n_enumerate (vv 4)) (zDV (K := K) rfl rfl (zAS (zAL zCT.nd) (zAS (zAL zCT.nd) zCJ)))
   (zA3 (zEU (zAA (vcal df hr (zA7 (vv 8) (zA7 (vv 2) (zB7 (pv 6) (zB7 (pv 5) zA6)))))) (zDV (K:=K) rfl rfl (zAS (zAL zCT.nd) (zAS (zAL zCT.nd) (zAS (zAL zCT.nd) zCJ)))))
   (zA3 (zAY (zB4 zKC zNJ (vv 11) zBA (zBC _))
   (zA5 (zAD (zAH (zGC (pv 5) (zA0 (zAH (zA0 (vv 7) (zA0 (vv 10) (zA0 (vv 11) zA8)))) zA8)))))
   zAI)
   (zA5 (zBZ (K:=K) rfl An Ao zBD zDD (pv 6) (zAK (zA0 (vv 9) zA8)))))))
  exact zA5 (zAD (zAH (zGC (pv 5) (zA0 zBA zA8))))
theorem zTZ(F:Fun K "run_program" "run_program" (top 68) f fd) (T:Txt K mg) (c9:DefV P w K mg base "is_cells" 2 Qx18 [] zBB f_x18) (ai:DefV P w K mg base "is_program" 8 Qx30 [] zAB f_x30) (df:DefV P w K mg base "do_program_row" 5 Qx33 [2,3] zBO f_x33):
  FnOk P w K mg base (CXv P w) 9 f fd Qx34 (spX K 2 zBE):=
 okZ P w K mg base Nx34 Qx34 8 zCK F zCT fun _ _ _ _ _ _ hr hu hu1=>by
  exact(zSO (zDK (zSP (zBS (zBH (vcal ai hr (zA7 (vv 0) zA6)))) (zDK (zI0 rfl zK8 rfl (by rfl) T.x_NoProgram)) zMV))
   (zMU (zAY (zBS (zBH (vcal ai hr (zA7 (vv 0) zA6))))
   (zA5 zGA)
   zAI)
   (zMU (zEU (vv 0) (zDV (K:=K) rfl rfl (zAS (zAL zCT.nd) (zAS (zAL zCT.nd) (zAS (zAL zCT.nd) zCJ)))))
   (zDK (zSP (zBS (zBH (vcal c9 hr (zA7 (vv 1) (zA7 (vv 3) zA6))))) (zDK (zI0 rfl zK8 rfl (by rfl) T.x_NoCells)) zMV)))))
noncomputable abbrev Nx35:List Str:=["row","lanes"]
noncomputable abbrev Qx35:List Str:=["row","lanes"]
theorem zVU:zAG Nx35 Qx35 (zA4 (top 69)):=mkSc
theorem zXS(F:Fun K "row_cost" "row_cost" (top 69) f fd) (T:Txt K mg):
  FnOk P w K mg base CX0 1 f fd Qx35 (spV K [] 2 zDH):=
 okW P w K mg base Nx35 Qx35 0 zHS [] F zVU fun _ _ _ _ _ _ hr hu hu1=>by
  refine zA3 ?_ ?_
  ·exact(zAY (vt_w (zDA (vteq hu (vix hu1 (vv 0) zA2) zAC) (zCA (vteq hu (zK3 rfl (vv 0) zK2 (zK1 zA2)) (zAH (zA0 zAC (zA0 zAC zA8)))))))
   (zA5 (zAD zA2))
   zAI)
  exact zA5 (zAD (zFF (vteq hu (vix hu1 (vv 0) zA2) zAC) (vv 1) zA2))
noncomputable abbrev Nx36:List Str:=["program","lanes","sure","rows"]
noncomputable abbrev Qx36:List Str:=["program"]
theorem zIT:zAG Nx36 Qx36 (zA4 (top 70)):=mkSc
theorem zXR(F:Fun K "cost_of" "cost_of" (top 70) f fd) (T:Txt K mg) (ai:DefV P w K mg base "is_program" 8 Qx30 [] zAB f_x30) (de:DefV P w K mg base "row_cost" 1 Qx35 [] zDH f_x35):
  FnOk P w K mg base CX0 9 f fd Qx36 (spV K [] 1 zDJ):=
 okW P w K mg base Nx36 Qx36 8 zH2 [] F zIT fun _ _ _ _ _ _ hr hu hu1=>by
  refine zA3 ?_ ?_
  ·exact(zAY (zBS (zBH (vcal ai hr (zA7 (vv 0) zA6))))
   (zA5 zGA)
   zAI)
  refine zA3 ?_ ?_
  ·exact(zEU (vv 0) (zDV (K:=K) rfl rfl (zAS (zAL zIT.nd) (zAS (zAL zIT.nd) (zAS (zAL zIT.nd) zCJ)))))
  exact zA5 (zAD (zK4 (yC7 (K:=K) rfl rfl) yAH (by rfl) T.n_sum zZC (zAZ (zBP ["lanes","row"] [1] 1 (zE0 rfl (vv 3)) (fun hn _ _ _ _=>⟨(zAL hn),zCY,(zAA (vcal de hr (zA7 (vv 1) (zA7 (vv 0) zA6))))⟩)))))
theorem zTY(F:Fun K "cost_of" "cost_of" (top 70) f fd) (T:Txt K mg) (ai:DefV P w K mg base "is_program" 8 Qx30 [] zAB f_x30) (de:DefV P w K mg base "row_cost" 1 Qx35 [] zDH f_x35):
  FnOk P w K mg base (CXv P w) 9 f fd Qx36 (spX K 1 zDG):=
 okZ P w K mg base Nx36 Qx36 8 zGI F zIT fun _ _ _ _ _ _ hr hu hu1=>by exact(zDK (zSP (zBS (zBH (vcal ai hr (zA7 (vv 0) zA6)))) (zDK (zI0 rfl zK8 rfl (by rfl) T.x_NoProgram)) zMV))
noncomputable abbrev Nx37:List Str:=["_law_script","_law_k","_law_rest","_law_again"]
noncomputable abbrev Qx37:List Str:=["_law_script","_law_k"]
theorem zL5:zAG Nx37 Qx37 (zA4 (top 72)):=mkSc
theorem zXQ(F:Fun K "_law_cell_at" "_law_cell_at" (top 72) f fd) (T:Txt K mg):
  FnOk P w K mg base CX0 1 f fd Qx37 (spV K [] 2 zBG):=
 okW P w K mg base Nx37 Qx37 0 zDR [] F zL5 fun _ _ _ _ _ _ hr hu hu1=>by
  refine zA3 ?_ ?_
  ·exact(zAY (zB4 zXD s_lt (vv 1) (vlen T.n_len (vv 0)) (zBC _))
   (zA5 (zAD (vix hu1 (vv 0) (vv 1))))
   zAI)
  refine zA3 ?_ ?_
  ·exact(zAY (vteq hu (vv 0) (zAZ (zB8 (zAK zA8))))
   (zA5 (zAD zA2))
   zAI)
  refine zA3 ?_ ?_
  ·exact(zBJ zL5.nd (zC9 (zAA (vix hu1 (vv 0) (zCS zE4 zGP (vv 1) (vlen T.n_len (vv 0)))))))
  refine zA3 ?_ ?_
  ·exact (zGK Df rfl (zCH (by rfl) T.n_range (zDB (zJM rfl) zWA (by rfl) T.n_min zSH (zCS zKD zNK (vv 1) (vlen T.n_len (vv 0))) zA2)) (zAL zL5.nd)
   (zA5 (zBJ zL5.nd (zC9 (zAA (zCS zKD zNK (vv 2) zA2))))))
  exact zA5 (zAD (zAW (zD6 (K:=K) rfl) zC0 (zAW (zD6 (K:=K) rfl) zC0 (zAW (zG0 (K:=K) rfl) zE9 (vix hu1 (vv 0) (zCS zE4 zGP (vv 1) (vlen T.n_len (vv 0)))) zA2) (vv 1)) (zAW (zG0 (K:=K) rfl) zE9 (vv 2) zA2)))
noncomputable abbrev Nx38:List Str:=["_law_script","_law_k","_law_bound","_law_drawn"]
noncomputable abbrev Qx38:List Str:=["_law_script","_law_k","_law_bound"]
theorem zRP:zAG Nx38 Qx38 (zA4 (top 73)):=mkSc
theorem zXP(F:Fun K "_law_mixed" "_law_mixed" (top 73) f fd) (T:Txt K mg) (gc:DefV P w K mg base "_law_cell_at" 1 Qx37 [] zBG f_x37):
  FnOk P w K mg base CX0 2 f fd Qx38 (spV K [] 3 zCD):=
 okW P w K mg base Nx38 Qx38 1 zEQ [] F zRP fun _ _ _ _ _ _ hr hu hu1=>by
  refine zA3 ?_ ?_
  ·exact(@zBJ _ _ _ _ _ _ _ _ _ zRP.nd (@zC9 _ _ _ _ _ _ (@zAA _ _ _ _ _ _ _ _ (@zCS _ _ _ _ _ _ _ _ _ _ _ _ _ _ _ _ _ zE4 zGP (@zAW _ _ _ _ _ _ _ _ _ _ _ _ _ _ _ _ _ (zD6 (K:=K) rfl) zC0 (@zAW _ _ _ _ _ _ _ _ _ _ _ _ _ _ _ _ _ (zD6 (K:=K) rfl) zC0 (@zAW _ _ _ _ _ _ _ _ _ _ _ _ _ _ _ _ _ (zG0 (K:=K) rfl) zE9 (vcal gc hr (zA7 (vv 0) (zA7 (vv 1) zA6))) zA2 rfl) (@zAW _ _ _ _ _ _ _ _ _ _ _ _ _ _ _ _ _ (zG0 (K:=K) rfl) zE9 zA2 (vv 1) rfl) rfl) zA2 rfl) zA2 rfl) rfl)) rfl (by first|exact .inl rfl|exact .inr rfl) (by decide) rfl (by first|exact .inl rfl|exact .inr rfl))
  exact zA5 (zAD (zCS zE4 zGP (zCS zE4 zGP (zCS zE4 zGP (zCS zXA yAI (vv 3) zA2) zA2) zA2) (vv 2)))
noncomputable abbrev Nx39:List Str:=["_law_script","_law_town","_law_bound"]
noncomputable abbrev Qx39:List Str:=["_law_script","_law_town","_law_bound"]
theorem zVT:zAG Nx39 Qx39 (zA4 (top 74)):=mkSc
theorem zXO(F:Fun K "_law_draw" "_law_draw" (top 74) f fd) (T:Txt K mg) (gb:DefV P w K mg base "_law_mixed" 2 Qx38 [] zCD f_x38):
  FnOk P w K mg base CX0 3 f fd Qx39 (spV K [1] 3 zAM):=
 okW P w K mg base Nx39 Qx39 2 zFO [1] F zVT fun _ _ _ _ _ _ hr hu hu1=>by
  refine zA3 ?_ ?_
  ·exact(zBZ (K:=K) rfl An Ao zBD zDD (pv 1) (zAK (zA0 zA2 zA8)))
  exact zA5 (zAD (vcal gb hr (zA7 (vv 0) (zA7 (zAA (vlen T.n_len (vo 1))) (zA7 (vv 2) zA6)))))
noncomputable abbrev Nx40:List Str:=["_law_script","_law_town","_law_some"]
noncomputable abbrev Qx40:List Str:=["_law_script","_law_town","_law_some"]
theorem zVS:zAG Nx40 Qx40 (zA4 (top 75)):=mkSc
theorem zXN(F:Fun K "_law_pick" "_law_pick" (top 75) f fd) (T:Txt K mg) (ag:DefV P w K mg base "_law_draw" 3 Qx39 [1] zAM f_x39):
  FnOk P w K mg base CX0 4 f fd Qx40 (spV K [1] 3 zAT):=
 okW P w K mg base Nx40 Qx40 3 zFN [1] F zVS fun _ _ _ _ _ _ hr hu hu1=>by exact(zA5 (zAD (vix hu1 (vv 2) (vcal ag hr (zA7 (vv 0) (zB7 (pv 1) (zA7 (zAA (vlen T.n_len (vv 2))) zA6)))))))
noncomputable abbrev Nx41:List Str:=["_law_script","_law_town","_law_seen","_law_deed","_law_room"]
noncomputable abbrev Qx41:List Str:=["_law_script","_law_town","_law_seen","_law_deed","_law_room"]
theorem zVR:zAG Nx41 Qx41 (zA4 (top 76)):=mkSc
theorem zXM(F:Fun K "_law_place" "_law_place" (top 76) f fd) (T:Txt K mg) (ag:DefV P w K mg base "_law_draw" 3 Qx39 [1] zAM f_x39) (al:DefV P w K mg base "_law_pick" 4 Qx40 [1] zAT f_x40):
  FnOk P w K mg base CX0 5 f fd Qx41 (spV K [1,2] 5 zB9):=
 okW P w K mg base Nx41 Qx41 4 zEP [1,2] F zVR fun _ _ _ _ _ _ hr hu hu1=>by
  refine zA3 ?_ ?_
  ·exact(zST hu1 (pv 2) (vv 3) (zAA (zCS zE4 zGP (zAW (zD6 (K:=K) rfl) zC0 (zQ1 hu1 (pv 2) (vv 3) (zAA (vcal ag hr (zA7 (vv 0) (zB7 (pv 1) (zA7 (vv 4) zA6))))) ⟨rfl,rfl,rfl,rfl⟩) (vcal al hr (zA7 (vv 0) (zB7 (pv 1) (zA7 (zAZ (zB8 (zAK (zA0 zA2 (zA0 zA2 (zA0 zA2 (zA0 zA2 (zA0 zA2 zA8)))))))) zA6))))) (vv 4))) rfl)
  exact zA5 (zAD (vix hu1 (vo 2) (vv 3)))
noncomputable abbrev Nx42:List Str:=["_law_script","_law_town","_law_made","_law_seen","_law_room","_law_kind","_law_a","_law_b","_law_c"]
noncomputable abbrev Qx42:List Str:=["_law_script","_law_town","_law_made","_law_seen","_law_room"]
theorem zIS:zAG Nx42 Qx42 (zA4 (top 77)):=mkSc
theorem zXL(F:Fun K "_law_row" "_law_row" (top 77) f fd) (T:Txt K mg) (ag:DefV P w K mg base "_law_draw" 3 Qx39 [1] zAM f_x39) (al:DefV P w K mg base "_law_pick" 4 Qx40 [1] zAT f_x40) (bq:DefV P w K mg base "_law_place" 5 Qx41 [1,2] zB9 f_x41):
  FnOk P w K mg base CX0 6 f fd Qx42 (spV K [1,3] 5 zDI):=
 okW P w K mg base Nx42 Qx42 5 zGZ [1,3] F zIS fun _ _ _ _ _ _ hr hu hu1=>by
  refine zA3 ?_ ?_
  ·exact(zBJ zIS.nd (zC9 (zAA (vcal ag hr (zA7 (vv 0) (zB7 (pv 1) (zA7 zA2 zA6)))))))
  refine zA3 ?_ ?_
  ·exact(zAY (vt_w (zDA (vteq hu (vv 2) (zAZ (zB8 (zAK zA8)))) (zCA (vteq hu (vv 5) zA2))))
   (zA3 (zAY (vteq hu (vcal ag hr (zA7 (vv 0) (zB7 (pv 1) (zA7 zA2 zA6)))) zA2)
   (zA5 (zAD (zAH (zA0 zAC (zA0 (vcal al hr (zA7 (vv 0) (zB7 (pv 1) (zA7 (zAZ (zB8 (zAK (zA0 zA2 (zA0 zA2 (zA0 zA2 (zA0 zA2 (zA0 zA2 (zA0 (vcal ag hr (zA7 (vv 0) (zB7 (pv 1) (zA7 zA2 zA6)))) zA8))))))))) zA6)))) zA8)))))
   zAI)
   (zA5 (zAD (zAH (zA0 zAC (zA0 (vcal bq hr (zA7 (vv 0) (zB7 (pv 1) (zB7 (pv 3) (zA7 zAC (zA7 (vv 4) zA6)))))) zA8))))))
   zAI)
  refine zA3 ?_ ?_
  ·exact (zEU (zAZ (zBP ["_law_script","_law_town","_law_made","_law_k"] [0,1,2] 1 (zCH (by rfl) T.n_range zA2) (fun hn _ _ _ _ => ⟨(zAL hn),zCY,(zAA (vix hu1 (vv 2) (zDB (zJN rfl) zWB (by rfl) T.n_max zSI zA2 (zCS zFX zIU (zCS zFX zIU (vlen T.n_len (vv 2)) zA2) (vcal ag hr (zA7 (vv 0) (zB7 (pv 1) (zA7 zA2 zA6))))))))⟩))) (zDV (K := K) rfl rfl (zAS (zAL zIS.nd) (zAS (zAL zIS.nd) (zAS (zAL zIS.nd) zCJ)))))
  refine zA3 ?_ ?_
  ·exact (zAY (zB4 (kInD (K := K) rfl hu) (zGQ (neg := false)) (vv 5) (zAH (zA0 zA2 (zA0 zA2 zA8))) (by with_unfolding_all rfl))
   (zA5 (zAD (zAH (zA0 zAC (zA0 (vcal bq hr (zA7 (vv 0) (zB7 (pv 1) (zB7 (pv 3) (zA7 zAC (zA7 (vv 4) zA6)))))) zA8)))))
   zAI)
  refine zA3 ?_ ?_
  ·exact(zAY (vteq hu (vv 5) zA2)
   (zA5 (zAD (zAH (zA0 zAC (zA0 (vcal bq hr (zA7 (vv 0) (zB7 (pv 1) (zB7 (pv 3) (zA7 zAC (zA7 (vv 4) zA6)))))) (zA0 (vv 8) (zA0 (vv 6) zA8)))))))
   zAI)
  refine zA3 ?_ ?_
  ·exact (zAY (zB4 (kInD (K := K) rfl hu) (zGQ (neg := false)) (vv 5) (zAH (zA0 zA2 (zA0 zA2 zA8))) (by with_unfolding_all rfl))
   (zA5 (zAD (zAH (zA0 zAC (zA0 (vcal bq hr (zA7 (vv 0) (zB7 (pv 1) (zB7 (pv 3) (zA7 zAC (zA7 (vv 4) zA6)))))) (zA0 (vv 6) zA8))))))
   zAI)
  refine zA3 ?_ ?_
  ·exact(zAY (vteq hu (vv 5) zA2)
   (zA5 (zAD (zAH (zA0 zAC (zA0 (vcal bq hr (zA7 (vv 0) (zB7 (pv 1) (zB7 (pv 3) (zA7 zAC (zA7 (vv 4) zA6)))))) (zA0 (vv 6) (zA0 (vv 8) zA8)))))))
   zAI)
  refine zA3 ?_ ?_
  ·exact(zAY (vteq hu (vv 5) zA2)
   (zA5 (zAD (zAH (zA0 zAC (zA0 (vv 8) (zA0 (vv 6) (zA0 (vv 7) zA8)))))))
   zAI)
  exact zA5 (@zAD _ _ _ _ _ _ _ _ _ (@zAH _ _ _ _ _ _ _ _ _ (@zA0 _ _ _ _ _ _ _ _ _ _ _ _ (vix hu1 (@zAZ _ _ _ _ _ _ (@zB8 _ _ _ _ _ _ _ (@zAK _ _ _ _ _ _ _ (@zA0 _ _ _ _ _ _ _ _ _ _ _ _ zAC (@zA0 _ _ _ _ _ _ _ _ _ _ _ _ zAC (@zA0 _ _ _ _ _ _ _ _ _ _ _ _ zAC (@zA0 _ _ _ _ _ _ _ _ _ _ _ _ zAC (@zA0 _ _ _ _ _ _ _ _ _ _ _ _ zAC (@zA0 _ _ _ _ _ _ _ _ _ _ _ _ zAC (@zA0 _ _ _ _ _ _ _ _ _ _ _ _ zAC zA8 rfl rfl rfl) rfl rfl rfl) rfl rfl rfl) rfl rfl rfl) rfl rfl rfl) rfl rfl rfl) rfl rfl rfl) rfl))) (vcal ag hr (zA7 (vv 0) (zB7 (pv 1) (zA7 zA2 zA6))))) (@zA0 _ _ _ _ _ _ _ _ _ _ _ _ (vv 6) (@zA0 _ _ _ _ _ _ _ _ _ _ _ _ (vv 7) zA8 rfl rfl rfl) rfl rfl rfl) rfl rfl rfl)) rfl)
noncomputable abbrev Nx43:List Str:=["_law_e","_law_own"]
noncomputable abbrev Qx43:List Str:=["_law_e"]
theorem zRO:zAG Nx43 Qx43 (zA4 (top 78)):=mkSc
theorem zXK(F:Fun K "_law_which" "_law_which" (top 78) f fd) (T:Txt K mg):
  FnH P w K mg base 1 f fd Qx43 (spV K [] 1 zCC):=
 okWH P w K mg base Nx43 Qx43 0 zGY [] F zRO fun _ _ _ _ _ hr hu hu1=>by
  refine zA3 ?_ ?_
  ·exact (@zBJ _ _ _ _ _ _ _ _ _ zRO.nd (@zGJ _ _ _ _ _ _ (@zB8 _ _ _ _ _ _ _ (@zAK _ _ _ _ _ _ _ (@zA0 _ _ _ _ _ _ _ _ _ _ _ _ (zDB (kIsx (K := K) rfl) (zEK T.xi) (by rfl) T.n_isinstance zAQ (vv 0) (zAP (by rfl) T.v_NoBlock)) (@zA0 _ _ _ _ _ _ _ _ _ _ _ _ (zDB (kIsx (K := K) rfl) (zEK T.xi) (by rfl) T.n_isinstance zAQ (vv 0) (zAP (by rfl) T.v_NoCells)) (@zA0 _ _ _ _ _ _ _ _ _ _ _ _ (zDB (kIsx (K := K) rfl) (zEK T.xi) (by rfl) T.n_isinstance zAQ (vv 0) (zAP (by rfl) T.v_NoRow)) (@zA0 _ _ _ _ _ _ _ _ _ _ _ _ (zDB (kIsx (K := K) rfl) (zEK T.xi) (by rfl) T.n_isinstance zAQ (vv 0) (zAP (by rfl) T.v_NoLanes)) zA8 rfl rfl rfl) rfl rfl rfl) rfl rfl rfl) rfl rfl rfl) rfl))) rfl (by first | exact .inl rfl | exact .inr rfl) (by decide) rfl (by first | exact .inl rfl | exact .inr rfl))
  refine zA3 ?_ ?_
  ·exact (@zBZ _ _ _ _ _ _ _ _ _ _ _ _ _ _ _ _ _ rfl Bj Bk (zJ9 (K := K) rfl) zFZ (pv 1) (@zAK _ _ _ _ _ _ _ (@zA0 _ _ _ _ _ _ _ _ _ _ _ _ (@zAZ _ _ _ _ _ _ (@zB8 _ _ _ _ _ _ _ (@zAK _ _ _ _ _ _ _ (@zA0 _ _ _ _ _ _ _ _ _ _ _ _ (zDB (kIsx (K := K) rfl) (zEK T.xi) (by rfl) T.n_isinstance zAQ (vv 0) (zAP (by rfl) T.v_NoPlan)) (@zA0 _ _ _ _ _ _ _ _ _ _ _ _ (zDB (kIsx (K := K) rfl) (zEK T.xi) (by rfl) T.n_isinstance zAQ (vv 0) (zAP (by rfl) T.v_NoProgram)) (@zA0 _ _ _ _ _ _ _ _ _ _ _ _ (zDB (kIsx (K := K) rfl) (zEK T.xi) (by rfl) T.n_isinstance zAQ (vv 0) (zAP (by rfl) T.v_NoTree)) (@zA0 _ _ _ _ _ _ _ _ _ _ _ _ (zDB (kIsx (K := K) rfl) (zEK T.xi) (by rfl) T.n_isinstance zAQ (vv 0) (zAP (by rfl) T.v_NoLoop)) zA8 rfl rfl rfl) rfl rfl rfl) rfl rfl rfl) rfl rfl rfl) rfl))) zA8 rfl rfl rfl) rfl) rfl rfl rfl rfl rfl rfl)
  refine zA3 ?_ ?_
  ·exact (@zBZ _ _ _ _ _ _ _ _ _ _ _ _ _ _ _ _ _ rfl Bj Bk (zJ9 (K := K) rfl) zFZ (pv 1) (@zAK _ _ _ _ _ _ _ (@zA0 _ _ _ _ _ _ _ _ _ _ _ _ (@zAZ _ _ _ _ _ _ (@zB8 _ _ _ _ _ _ _ (@zAK _ _ _ _ _ _ _ (@zA0 _ _ _ _ _ _ _ _ _ _ _ _ (zDB (kIsx (K := K) rfl) (zEK T.xi) (by rfl) T.n_isinstance zAQ (vv 0) (zAP (by rfl) T.v_NoText)) (@zA0 _ _ _ _ _ _ _ _ _ _ _ _ (zDB (kIsx (K := K) rfl) (zEK T.xi) (by rfl) T.n_isinstance zAQ (vv 0) (zAP (by rfl) T.v_NoName)) (@zA0 _ _ _ _ _ _ _ _ _ _ _ _ (zDB (kIsx (K := K) rfl) (zEK T.xi) (by rfl) T.n_isinstance zAQ (vv 0) (zAP (by rfl) T.v_TooMany)) (@zA0 _ _ _ _ _ _ _ _ _ _ _ _ (zDB (kIsx (K := K) rfl) (zEK T.xi) (by rfl) T.n_isinstance zAQ (vv 0) (zAP (by rfl) T.v_TooLong)) zA8 rfl rfl rfl) rfl rfl rfl) rfl rfl rfl) rfl rfl rfl) rfl))) zA8 rfl rfl rfl) rfl) rfl rfl rfl rfl rfl rfl)
  refine zA3 ?_ ?_
  ·exact (@zBZ _ _ _ _ _ _ _ _ _ _ _ _ _ _ _ _ _ rfl Bj Bk (zJ9 (K := K) rfl) zFZ (pv 1) (@zAK _ _ _ _ _ _ _ (@zA0 _ _ _ _ _ _ _ _ _ _ _ _ (@zAZ _ _ _ _ _ _ (@zB8 _ _ _ _ _ _ _ (@zAK _ _ _ _ _ _ _ (@zA0 _ _ _ _ _ _ _ _ _ _ _ _ (zDB (kIsx (K := K) rfl) (zEK T.xi) (by rfl) T.n_isinstance zAQ (vv 0) (zAP (by rfl) T.v_NotValid)) (@zA0 _ _ _ _ _ _ _ _ _ _ _ _ (zDB (kIsx (K := K) rfl) (zEK T.xi) (by rfl) T.n_isinstance zAQ (vv 0) (zAP (by rfl) T.v_Nothing)) zA8 rfl rfl rfl) rfl rfl rfl) rfl))) zA8 rfl rfl rfl) rfl) rfl rfl rfl rfl rfl rfl)
  refine zA3 ?_ ?_
  ·exact (zAY (vt_w (zDA (zB4 (kNeD (K := K) rfl hu) s_ne (zV7 rfl PySem.F.slot_list_count PySem.F.type_list_count (zU7 (K := K) rfl) zQY (vo 1) zC6) zA2 (zBC _)) (zCA (zBS (zBH (zDB (kIsx (K := K) rfl) (zEK T.xi) (by rfl) T.n_isinstance zAQ (vv 0) (vty T.n_ValueError zIE)))))))
   (zA5 (zAD (zAH (zA0 zAC (zA0 (zGL zA2) zA8)))))
   zAI)
  exact zA5 (zAD (zAH (zA0 zAC (zA0 (zV7 rfl PySem.F.slot_list_index PySem.F.type_list_index (zU6 (K:=K) rfl) zQX (vo 1) zC6) zA8))))
noncomputable abbrev Nx44:List Str:=["_law_script","_law_town","_law_most","_law_broad","_law_room","_law_rows","_law_words","_law_wides","_law_again","_law_kind","_law_here","_law_picks","_law_row_here","_law_inner"]
noncomputable abbrev Qx44:List Str:=["_law_script","_law_town","_law_most"]
theorem zFV:zAG Nx44 Qx44 (zA4 (top 79)):=mkSc
theorem zXJ(F:Fun K "_law_program" "_law_program" (top 79) f fd) (T:Txt K mg) (ag:DefV P w K mg base "_law_draw" 3 Qx39 [1] zAM f_x39) (al:DefV P w K mg base "_law_pick" 4 Qx40 [1] zAT f_x40) (g0:DefV P w K mg base "_law_row" 6 Qx42 [1,3] zDI f_x42):
  FnOk P w K mg base CX0 7 f fd Qx44 (spV K [1] 3 zBM):=
 okW P w K mg base Nx44 Qx44 6 zDQ [1] F zFV fun _ _ _ _ _ _ hr hu hu1=>by
  refine zA3 ?_ ?_
  ·exact (zSS (i := 3) (j := 4) rfl rfl zFV.nd rfl rfl (by decide) (Hq rfl) (Gf rfl) (zC9 (zAA (vcal al hr (zA7 (vv 0) (zB7 (pv 1) (zA7 (zAZ (zB8 (zAK (zA0 zA2 (zA0 zA2 (zA0 zA2 zA8)))))) zA6)))))) (zC9 (zAA (vcal al hr (zA7 (vv 0) (zB7 (pv 1) (zA7 (zAZ (zB8 (zAK (zA0 zA2 (zA0 zA2 (zA0 zA2 zA8)))))) zA6)))))))
  refine zA3 ?_ ?_
  ·exact (zSR (i := 5) (j := 6) (k := 7) rfl rfl zFV.nd rfl rfl rfl (by decide) (by decide) (by decide) (Gf rfl) (Hq rfl) (Gf rfl) (zGJ (zB8 (zAK (zA0 (zAH (zA0 zAC (zA0 (vcal ag hr (zA7 (vv 0) (zB7 (pv 1) (zA7 zA2 zA6)))) zA8))) zA8)))) (zGJ (zB8 (zAK (zA0 zA2 zA8)))) (zGJ (zB8 (zAK zA8))))
  refine zA3 ?_ ?_
  ·exact (@zBZ _ _ _ _ _ _ _ _ _ _ _ _ _ _ _ _ _ rfl An Ao zBD zDD (pv 5) (@zAK _ _ _ _ _ _ _ (@zA0 _ _ _ _ _ _ _ _ _ _ _ _ (@zAH _ _ _ _ _ _ _ _ _ (@zA0 _ _ _ _ _ _ _ _ _ _ _ _ zAC (@zA0 _ _ _ _ _ _ _ _ _ _ _ _ zAC (@zA0 _ _ _ _ _ _ _ _ _ _ _ _ (zQ6 (zI8 (K := K) rfl) zID (by rfl) T.n_tuple zCP (@zAZ _ _ _ _ _ _ (zBP ["_law_script","_law_town","_law_k"] [0,1] 1 (zCH (by rfl) T.n_range (vv 3)) (fun hn _ _ _ _ => ⟨ (zAL hn) ,zCY,(@zAA _ _ _ _ _ _ _ _ (vcal ag hr (zA7 (vv 0) (zB7 (pv 1) (zA7 zA2 zA6)))) rfl) ⟩)))) zA8 rfl rfl rfl) rfl rfl rfl) rfl rfl rfl)) zA8 rfl rfl rfl) rfl) rfl rfl rfl rfl rfl rfl)
  refine zA3 ?_ ?_
  ·exact(zBZ (K:=K) rfl An Ao zBD zDD (pv 7) (zAK (zA0 zA2 zA8)))
  refine zA3 ?_ ?_
  ·exact (zGK Df rfl (zCH (by rfl) T.n_range (vcal ag hr (zA7 (vv 0) (zB7 (pv 1) (zA7 (zAA (zAW (zD6 (K := K) rfl) zC0 (vv 2) zA2)) zA6))))) (zAL zFV.nd)
   (zA3 (zI1 (i:=9) (j:=10) rfl zFV.nd rfl rfl (by decide) rfl rfl (zC9 (zAA (vcal ag hr (zA7 (vv 0) (zB7 (pv 1) (zA7 zA2 zA6)))))) (zC9 (zAA (vlen T.n_len (vo 5)))) rfl)
   (zA3 (zAY (vteq hu (vv 9) zA2)
   (zA5 (zBZ (K:=K) rfl An Ao zBD zDD (pv 5) (zAK (zA0 (zAH (zA0 zAC (zA0 (zQ6 (zI8 (K:=K) rfl) zID (by rfl) T.n_tuple zCP (zAZ (zBP ["_law_script","_law_town","_law_words","_law_k"] [0,1,6] 1 (zCH (by rfl) T.n_range (vv 3)) (fun hn _ _ _ _=>⟨(zAL hn),zCY,(zAA (vcal al hr (zA7 (vv 0) (zB7 (pv 1) (zB7 (pv 2) zA6)))))⟩)))) zA8))) zA8))))
   (zA5 (zAY (vteq hu (vv 9) zA2)
   (zA3 (zBJ zFV.nd (zC9 (zAA (zQ6 (zI8 (K:=K) rfl) zID (by rfl) T.n_tuple zCP (zAZ (zBP ["_law_script","_law_town","_law_broad","_law_k"] [0,1,3] 1 (zCH (by rfl) T.n_range (vv 3)) (fun hn _ _ _ _=>⟨(zAL hn),zCY,(zAA (vcal ag hr (zA7 (vv 0) (zB7 (pv 1) (zA7 (zAA (zAW (zG0 (K:=K) rfl) zE9 zA2 (vv 2))) zA6)))))⟩)))))))
   (zA5 (zBZ (K:=K) rfl An Ao zBD zDD (pv 5) (zAK (zA0 (zAH (zA0 zAC (zA0 (vcal al hr (zA7 (vv 0) (zB7 (pv 1) (zB7 (pv 7) zA6)))) (zA0 (vcal al hr (zA7 (vv 0) (zB7 (pv 1) (zB7 (pv 7) zA6)))) (zA0 (vv 11) zA8))))) zA8)))))
   (zA5 (zAY (vteq hu (vv 9) zA2)
   (zA5 (zBZ (K:=K) rfl An Ao zBD zDD (pv 5) (zAK (zA0 (zAH (zA0 zAC (zA0 (vcal al hr (zA7 (vv 0) (zB7 (pv 1) (zB7 (pv 7) zA6)))) (zA0 (vcal ag hr (zA7 (vv 0) (zB7 (pv 1) (zA7 (vv 3) zA6)))) zA8)))) zA8))))
   (zA3 (zBJ zFV.nd (zC9 (zAA (zQ4 (K:=K) (i:=3) (mF:=[1]) rfl g0 (by decide) hr (by decide) (by rfl) (zZX (vv 0) (zZW (pv 1) (zV4 (vteq hu (vv 9) zA2) (pv 6) (pv 7) (zSV (pv 4)))))))))
   (zA5 (zBZ (K:=K) rfl An Ao zBD zDD (pv 5) (zAK (zA0 (zFF (vt_w (zDA (vteq hu (vv 9) zA2) (zCA (vteq hu (vix hu1 (vv 12) zA2) zAC)))) (vv 12) (zAW (zD6 (K:=K) rfl) zC0 (zAH (zA0 zAC zA8)) (vv 12))) zA8))))))))))
   (zA3 (zBJ zFV.nd (zC9 (zAA (zFF (vteq hu (vix hu1 (vix hu1 (vo 5) (zGL zA2)) zA2) zAC) (zK3 rfl (vix hu1 (vo 5) (zGL zA2)) (zK1 zA2) zK2) (vix hu1 (vo 5) (zGL zA2))))))
   (zA5 (zAY (zB4 (zOM (K:=K) rfl hu) (zGQ (neg:=true)) (vix hu1 (vv 13) zA2) (zAH (zA0 zAC (zA0 zAC zA8))) (by with_unfolding_all rfl))
   (zA5 (zAY (zB4 (kInD (K:=K) rfl hu) (zGQ (neg:=false)) (vix hu1 (vix hu1 (vo 5) (zGL zA2)) zA2) (zAH (zA0 zAC (zA0 zAC (zA0 zAC zA8)))) (by with_unfolding_all rfl))
   (zA5 (zBZ (K:=K) rfl An Ao zBD zDD (pv 7) (zAK (zA0 (vv 10) zA8))))
   (zA5 (zBZ (K:=K) rfl An Ao zBD zDD (pv 6) (zAK (zA0 (vv 10) zA8))))))
   zAI))))))
  exact zA5 (zAD (zAH (zA0 (vv 3) (zA0 (vcal ag hr (zA7 (vv 0) (zB7 (pv 1) (zA7 (zAA (zAW (zD6 (K:=K) rfl) zC0 (vv 4) zA2)) zA6)))) (zA0 (zQ6 (zI8 (K:=K) rfl) zID (by rfl) T.n_tuple zCP (vo 5)) zA8)))))
noncomputable abbrev Nx45:List Str:=["_law_what","_law_thing","_law_cells","_law_e"]
noncomputable abbrev Qx45:List Str:=["_law_what","_law_thing","_law_cells"]
theorem zRN:zAG Nx45 Qx45 (zA4 (top 80)):=mkSc
theorem zXI(F:Fun K "_law_ask" "_law_ask" (top 80) f fd) (T:Txt K mg) (gf:DefV P w K mg base "run_program" 9 Qx34 [] zBF f_x34) (gd:DefV P w K mg base "cost_of" 9 Qx36 [] zDJ f_x36) (dm:DefH P w K mg base "_law_which" 1 Qx43 (spV K [] 1 zCC) f_x43) (dk:DefX P w K mg base "run_program" 9 Qx34 zBE f_x34) (dj:DefX P w K mg base "cost_of" 9 Qx36 zDG f_x36):
  FnOk P w K mg base CX0 10 f fd Qx45 (spV K [] 3 zBI):=
 okW P w K mg base Nx45 Qx45 9 zE8 [] F zRN fun _ _ _ _ _ _ hr hu hu1=>by
  exact(zA5 (zV1 (i:=3) rfl rfl rfl zRN.nd rfl rfl (by decide) (by rfl) (fun _=>T.fnm _ _)
   (zA5 (zAD (zFF (vteq hu (vv 0) zA2) (vcal gd hr (zA7 (vv 1) zA6)) (vcal gf hr (zA7 (vv 1) (zA7 (vv 2) zA6))))))
   (fun _ _ _ hz=>(zDK (zUZ (zV0 (vteq hu (vv 0) zA2) (zMW hz rfl dj hr (by decide) (by rfl) rfl (zA7 (vv 1) zA6)) (zMW hz rfl dk hr (by decide) (by rfl) rfl (zA7 (vv 1) (zA7 (vv 2) zA6)))))))
   fun _=>(zA5 (zAD (yA0 dm (hr.h.mark _) (zA7 (vv 3) zA6))))))
noncomputable abbrev Nx46:List Str:=["_law_broad","_law_many","_law_short","_law_long","_law_some"]
noncomputable abbrev Qx46:List Str:=["_law_broad","_law_many"]
theorem zNG:zAG Nx46 Qx46 (zA4 (top 81)):=mkSc
theorem zXH(F:Fun K "_law_bad_rows" "_law_bad_rows" (top 81) f fd) (T:Txt K mg):
  FnOk P w K mg base CX0 1 f fd Qx46 (spV K [] 2 zC1):=
 okW P w K mg base Nx46 Qx46 0 zEI [] F zNG fun _ _ _ _ _ _ hr hu hu1=>by
  refine zA3 ?_ ?_
  ·exact(zI1 (i:=2) (j:=3) rfl zNG.nd rfl rfl (by decide) rfl rfl (zC9 (zAA (zAW (kRep (K:=K) rfl) zG8 (zAH (zA0 zA2 zA8)) (zCS zFX zIU (vv 0) zA2)))) (zC9 (zAA (zAW (kRep (K:=K) rfl) zG8 (zAH (zA0 zA2 zA8)) (zAW (zD6 (K:=K) rfl) zC0 (vv 0) zA2)))) rfl)
  refine zA3 ?_ ?_
  ·exact(@zBJ _ _ _ _ _ _ _ _ _ zNG.nd (@zGJ _ _ _ _ _ _ (@zB8 _ _ _ _ _ _ _ (@zAK _ _ _ _ _ _ _ (@zA0 _ _ _ _ _ _ _ _ _ _ _ _ (@zAH _ _ _ _ _ _ _ _ _ (@zA0 _ _ _ _ _ _ _ _ _ _ _ _ zAC (@zA0 _ _ _ _ _ _ _ _ _ _ _ _ (vv 3) zA8 rfl rfl rfl) rfl rfl rfl)) (@zA0 _ _ _ _ _ _ _ _ _ _ _ _ (@zAH _ _ _ _ _ _ _ _ _ (@zA0 _ _ _ _ _ _ _ _ _ _ _ _ zAC (@zA0 _ _ _ _ _ _ _ _ _ _ _ _ (@zAW _ _ _ _ _ _ _ _ _ _ _ _ _ _ _ _ _ (kRep (K:=K) rfl) zG8 (@zAZ _ _ _ _ _ _ (@zB8 _ _ _ _ _ _ _ (@zAK _ _ _ _ _ _ _ (@zA0 _ _ _ _ _ _ _ _ _ _ _ _ zA2 zA8 rfl rfl rfl) rfl))) (vv 0) rfl) zA8 rfl rfl rfl) rfl rfl rfl)) (@zA0 _ _ _ _ _ _ _ _ _ _ _ _ (@zAH _ _ _ _ _ _ _ _ _ (@zA0 _ _ _ _ _ _ _ _ _ _ _ _ zAC (@zA0 _ _ _ _ _ _ _ _ _ _ _ _ (@zAW _ _ _ _ _ _ _ _ _ _ _ _ _ _ _ _ _ (kRep (K:=K) rfl) zG8 (@zAH _ _ _ _ _ _ _ _ _ (@zA0 _ _ _ _ _ _ _ _ _ _ _ _ zA2 zA8 rfl rfl rfl)) (vv 0) rfl) zA8 rfl rfl rfl) rfl rfl rfl)) (@zA0 _ _ _ _ _ _ _ _ _ _ _ _ (@zAH _ _ _ _ _ _ _ _ _ (@zA0 _ _ _ _ _ _ _ _ _ _ _ _ zAC (@zA0 _ _ _ _ _ _ _ _ _ _ _ _ zA2 (@zA0 _ _ _ _ _ _ _ _ _ _ _ _ zA2 zA8 rfl rfl rfl) rfl rfl rfl) rfl rfl rfl)) (@zA0 _ _ _ _ _ _ _ _ _ _ _ _ (@zAH _ _ _ _ _ _ _ _ _ (@zA0 _ _ _ _ _ _ _ _ _ _ _ _ zAC (@zA0 _ _ _ _ _ _ _ _ _ _ _ _ zA2 (@zA0 _ _ _ _ _ _ _ _ _ _ _ _ (vv 0) zA8 rfl rfl rfl) rfl rfl rfl) rfl rfl rfl)) zA8 rfl rfl rfl) rfl rfl rfl) rfl rfl rfl) rfl rfl rfl) rfl rfl rfl) rfl))) rfl (by first|exact .inl rfl|exact .inr rfl) (by decide) rfl (by first|exact .inl rfl|exact .inr rfl))
  refine zA3 ?_ ?_
  ·exact(@zBZ _ _ _ _ _ _ _ _ _ _ _ _ _ _ _ _ _ rfl Bj Bk (zJ9 (K:=K) rfl) zFZ (pv 4) (@zAK _ _ _ _ _ _ _ (@zA0 _ _ _ _ _ _ _ _ _ _ _ _ (@zAZ _ _ _ _ _ _ (@zB8 _ _ _ _ _ _ _ (@zAK _ _ _ _ _ _ _ (@zA0 _ _ _ _ _ _ _ _ _ _ _ _ (@zAH _ _ _ _ _ _ _ _ _ (@zA0 _ _ _ _ _ _ _ _ _ _ _ _ zAC (@zA0 _ _ _ _ _ _ _ _ _ _ _ _ zA2 (@zA0 _ _ _ _ _ _ _ _ _ _ _ _ zA2 (@zA0 _ _ _ _ _ _ _ _ _ _ _ _ (vv 2) zA8 rfl rfl rfl) rfl rfl rfl) rfl rfl rfl) rfl rfl rfl)) (@zA0 _ _ _ _ _ _ _ _ _ _ _ _ (@zAH _ _ _ _ _ _ _ _ _ (@zA0 _ _ _ _ _ _ _ _ _ _ _ _ zAC (@zA0 _ _ _ _ _ _ _ _ _ _ _ _ zA2 (@zA0 _ _ _ _ _ _ _ _ _ _ _ _ zA2 (@zA0 _ _ _ _ _ _ _ _ _ _ _ _ (@zAW _ _ _ _ _ _ _ _ _ _ _ _ _ _ _ _ _ (kRep (K:=K) rfl) zG8 (@zAH _ _ _ _ _ _ _ _ _ (@zA0 _ _ _ _ _ _ _ _ _ _ _ _ (@zAW _ _ _ _ _ _ _ _ _ _ _ _ _ _ _ _ _ (zG0 (K:=K) rfl) zE9 zA2 (vv 0) rfl) zA8 rfl rfl rfl)) (vv 0) rfl) zA8 rfl rfl rfl) rfl rfl rfl) rfl rfl rfl) rfl rfl rfl)) (@zA0 _ _ _ _ _ _ _ _ _ _ _ _ (@zAH _ _ _ _ _ _ _ _ _ (@zA0 _ _ _ _ _ _ _ _ _ _ _ _ zAC (@zA0 _ _ _ _ _ _ _ _ _ _ _ _ zA2 (@zA0 _ _ _ _ _ _ _ _ _ _ _ _ zA2 (@zA0 _ _ _ _ _ _ _ _ _ _ _ _ (@zAW _ _ _ _ _ _ _ _ _ _ _ _ _ _ _ _ _ (kRep (K:=K) rfl) zG8 (@zAH _ _ _ _ _ _ _ _ _ (@zA0 _ _ _ _ _ _ _ _ _ _ _ _ zA2 zA8 rfl rfl rfl)) (vv 0) rfl) zA8 rfl rfl rfl) rfl rfl rfl) rfl rfl rfl) rfl rfl rfl)) zA8 rfl rfl rfl) rfl rfl rfl) rfl rfl rfl) rfl))) zA8 rfl rfl rfl) rfl) rfl rfl rfl rfl rfl rfl)
  refine zA3 ?_ ?_
  ·exact(@zBZ _ _ _ _ _ _ _ _ _ _ _ _ _ _ _ _ _ rfl Bj Bk (zJ9 (K:=K) rfl) zFZ (pv 4) (@zAK _ _ _ _ _ _ _ (@zA0 _ _ _ _ _ _ _ _ _ _ _ _ (@zAZ _ _ _ _ _ _ (@zB8 _ _ _ _ _ _ _ (@zAK _ _ _ _ _ _ _ (@zA0 _ _ _ _ _ _ _ _ _ _ _ _ (@zAH _ _ _ _ _ _ _ _ _ (@zA0 _ _ _ _ _ _ _ _ _ _ _ _ zAC (@zA0 _ _ _ _ _ _ _ _ _ _ _ _ zAC (@zA0 _ _ _ _ _ _ _ _ _ _ _ _ (vv 3) zA8 rfl rfl rfl) rfl rfl rfl) rfl rfl rfl)) (@zA0 _ _ _ _ _ _ _ _ _ _ _ _ (@zAH _ _ _ _ _ _ _ _ _ (@zA0 _ _ _ _ _ _ _ _ _ _ _ _ zAC (@zA0 _ _ _ _ _ _ _ _ _ _ _ _ zAC (@zA0 _ _ _ _ _ _ _ _ _ _ _ _ zA2 zA8 rfl rfl rfl) rfl rfl rfl) rfl rfl rfl)) (@zA0 _ _ _ _ _ _ _ _ _ _ _ _ (@zAH _ _ _ _ _ _ _ _ _ (@zA0 _ _ _ _ _ _ _ _ _ _ _ _ zAC (@zA0 _ _ _ _ _ _ _ _ _ _ _ _ zAC (@zA0 _ _ _ _ _ _ _ _ _ _ _ _ zA2 (@zA0 _ _ _ _ _ _ _ _ _ _ _ _ zA2 zA8 rfl rfl rfl) rfl rfl rfl) rfl rfl rfl) rfl rfl rfl)) (@zA0 _ _ _ _ _ _ _ _ _ _ _ _ (@zAH _ _ _ _ _ _ _ _ _ (@zA0 _ _ _ _ _ _ _ _ _ _ _ _ zAC (@zA0 _ _ _ _ _ _ _ _ _ _ _ _ zAC (@zA0 _ _ _ _ _ _ _ _ _ _ _ _ zA2 zA8 rfl rfl rfl) rfl rfl rfl) rfl rfl rfl)) zA8 rfl rfl rfl) rfl rfl rfl) rfl rfl rfl) rfl rfl rfl) rfl))) zA8 rfl rfl rfl) rfl) rfl rfl rfl rfl rfl rfl)
  refine zA3 ?_ ?_
  ·exact(@zBZ _ _ _ _ _ _ _ _ _ _ _ _ _ _ _ _ _ rfl Bj Bk (zJ9 (K:=K) rfl) zFZ (pv 4) (@zAK _ _ _ _ _ _ _ (@zA0 _ _ _ _ _ _ _ _ _ _ _ _ (@zAZ _ _ _ _ _ _ (@zL1 _ _ _ 1 _ _ _ rfl (by decide))) zA8 rfl rfl rfl) rfl) rfl rfl rfl rfl rfl rfl)
  refine zA3 ?_ ?_
  ·exact(@zBZ _ _ _ _ _ _ _ _ _ _ _ _ _ _ _ _ _ rfl Bj Bk (zJ9 (K:=K) rfl) zFZ (pv 4) (@zAK _ _ _ _ _ _ _ (@zA0 _ _ _ _ _ _ _ _ _ _ _ _ (@zAZ _ _ _ _ _ _ (@zL1 _ _ _ 1 _ _ _ rfl (by decide))) zA8 rfl rfl rfl) rfl) rfl rfl rfl rfl rfl rfl)
  refine zA3 ?_ ?_
  ·exact(@zBZ _ _ _ _ _ _ _ _ _ _ _ _ _ _ _ _ _ rfl Bj Bk (zJ9 (K:=K) rfl) zFZ (pv 4) (@zAK _ _ _ _ _ _ _ (@zA0 _ _ _ _ _ _ _ _ _ _ _ _ (@zAZ _ _ _ _ _ _ (@zB8 _ _ _ _ _ _ _ (@zAK _ _ _ _ _ _ _ (@zA0 _ _ _ _ _ _ _ _ _ _ _ _ (@zAZ _ _ _ _ _ _ (@zB8 _ _ _ _ _ _ _ (@zAK _ _ _ _ _ _ _ (@zA0 _ _ _ _ _ _ _ _ _ _ _ _ zAC (@zA0 _ _ _ _ _ _ _ _ _ _ _ _ zA2 zA8 rfl rfl rfl) rfl rfl rfl) rfl))) (@zA0 _ _ _ _ _ _ _ _ _ _ _ _ (@zAH _ _ _ _ _ _ _ _ _ (@zA0 _ _ _ _ _ _ _ _ _ _ _ _ zAC (@zA0 _ _ _ _ _ _ _ _ _ _ _ _ zAC (@zA0 _ _ _ _ _ _ _ _ _ _ _ _ zA2 (@zA0 _ _ _ _ _ _ _ _ _ _ _ _ zA2 zA8 rfl rfl rfl) rfl rfl rfl) rfl rfl rfl) rfl rfl rfl)) (@zA0 _ _ _ _ _ _ _ _ _ _ _ _ (@zAH _ _ _ _ _ _ _ _ _ (@zA0 _ _ _ _ _ _ _ _ _ _ _ _ zAC (@zA0 _ _ _ _ _ _ _ _ _ _ _ _ zAC (@zA0 _ _ _ _ _ _ _ _ _ _ _ _ (@zAW _ _ _ _ _ _ _ _ _ _ _ _ _ _ _ _ _ (kRep (K:=K) rfl) zG8 (@zAH _ _ _ _ _ _ _ _ _ (@zA0 _ _ _ _ _ _ _ _ _ _ _ _ zA2 zA8 rfl rfl rfl)) (vv 0) rfl) zA8 rfl rfl rfl) rfl rfl rfl) rfl rfl rfl)) (@zA0 _ _ _ _ _ _ _ _ _ _ _ _ (@zAH _ _ _ _ _ _ _ _ _ (@zA0 _ _ _ _ _ _ _ _ _ _ _ _ zAC (@zA0 _ _ _ _ _ _ _ _ _ _ _ _ zA2 (@zA0 _ _ _ _ _ _ _ _ _ _ _ _ zC6 zA8 rfl rfl rfl) rfl rfl rfl) rfl rfl rfl)) zA8 rfl rfl rfl) rfl rfl rfl) rfl rfl rfl) rfl rfl rfl) rfl))) zA8 rfl rfl rfl) rfl) rfl rfl rfl rfl rfl rfl)
  exact zA5 (@zAD _ _ _ _ _ _ _ _ _ (@zAW _ _ _ _ _ _ _ _ _ _ _ _ _ _ _ _ _ (zD6 (K:=K) rfl) zC0 (vo 4) (@zAZ _ _ _ _ _ _ (@zB8 _ _ _ _ _ _ _ (@zAK _ _ _ _ _ _ _ (@zA0 _ _ _ _ _ _ _ _ _ _ _ _ (@zAH _ _ _ _ _ _ _ _ _ (@zA0 _ _ _ _ _ _ _ _ _ _ _ _ zAC (@zA0 _ _ _ _ _ _ _ _ _ _ _ _ (@zAW _ _ _ _ _ _ _ _ _ _ _ _ _ _ _ _ _ (zD6 (K:=K) rfl) zC0 (vv 2) (@zAH _ _ _ _ _ _ _ _ _ (@zA0 _ _ _ _ _ _ _ _ _ _ _ _ (vv 1) zA8 rfl rfl rfl)) rfl) zA8 rfl rfl rfl) rfl rfl rfl)) (@zA0 _ _ _ _ _ _ _ _ _ _ _ _ (@zAH _ _ _ _ _ _ _ _ _ (@zA0 _ _ _ _ _ _ _ _ _ _ _ _ zAC (@zA0 _ _ _ _ _ _ _ _ _ _ _ _ zA2 (@zA0 _ _ _ _ _ _ _ _ _ _ _ _ zA2 zA8 rfl rfl rfl) rfl rfl rfl) rfl rfl rfl)) (@zA0 _ _ _ _ _ _ _ _ _ _ _ _ (@zAH _ _ _ _ _ _ _ _ _ (@zA0 _ _ _ _ _ _ _ _ _ _ _ _ zAC zA8 rfl rfl rfl)) (@zA0 _ _ _ _ _ _ _ _ _ _ _ _ (@zAH _ _ _ _ _ _ _ _ _ (@zA0 _ _ _ _ _ _ _ _ _ _ _ _ zAC (@zA0 _ _ _ _ _ _ _ _ _ _ _ _ zA2 zA8 rfl rfl rfl) rfl rfl rfl)) (@zA0 _ _ _ _ _ _ _ _ _ _ _ _ (@zAH _ _ _ _ _ _ _ _ _ (@zA0 _ _ _ _ _ _ _ _ _ _ _ _ zAC (@zA0 _ _ _ _ _ _ _ _ _ _ _ _ zBA (@zA0 _ _ _ _ _ _ _ _ _ _ _ _ zA2 (@zA0 _ _ _ _ _ _ _ _ _ _ _ _ zA2 zA8 rfl rfl rfl) rfl rfl rfl) rfl rfl rfl) rfl rfl rfl)) zA8 rfl rfl rfl) rfl rfl rfl) rfl rfl rfl) rfl rfl rfl) rfl rfl rfl) rfl))) rfl) rfl)
noncomputable abbrev Nx47:List Str:=["_law_script","_law_town","_law_program_here","_law_broad","_law_sure","_law_rows","_law_at","_law_silent","_law_again","_law_bad","_law_spoilt","_law_odd","_law_cells"]
noncomputable abbrev Qx47:List Str:=["_law_script"]
theorem zDC:zAG Nx47 Qx47 (zA4 (top 82)):=mkSc
theorem zXG(F:Fun K "law" "law" (top 82) f fd) (T:Txt K mg) (ai:DefV P w K mg base "is_program" 8 Qx30 [] zAB f_x30) (ag:DefV P w K mg base "_law_draw" 3 Qx39 [1] zAM f_x39) (al:DefV P w K mg base "_law_pick" 4 Qx40 [1] zAT f_x40) (fw:DefV P w K mg base "_law_program" 7 Qx44 [1] zBM f_x44) (ef:DefV P w K mg base "_law_ask" 10 Qx45 [] zBI f_x45) (fu:DefV P w K mg base "_law_bad_rows" 1 Qx46 [] zC1 f_x46):
  FnOk P w K mg base CX0 11 f fd Qx47 (spV K [] 1 zMR):=
 okW P w K mg base Nx47 Qx47 10 zUF [] F zDC fun _ _ _ _ _ _ hr hu hu1=>by
  refine zA3 ?_ ?_
  ·exact(zBJ zDC.nd (zGJ (zB8 (zAK zA8))))
  refine zA3 ?_ ?_
  ·exact(zBJ zDC.nd (zC9 (zAA (vcal fw hr (zA7 (vv 0) (zB7 (pv 1) (zA7 zA2 zA6)))))))
  refine zA3 ?_ ?_
  ·exact(zEU (vv 2) (zDV (K:=K) rfl rfl (zAS (zAL zDC.nd) (zAS (zAL zDC.nd) (zAS (zAL zDC.nd) zCJ)))))
  refine zA3 ?_ ?_
  ·exact(zAY (vt_w (zDA (zB4 zFI zHJ (vcal ai hr (zA7 (vv 2) zA6)) zC6 (zBC _)) (zCA (zB4 zFI zHJ (vcal ai hr (zA7 (zAA (zAH (zA0 (vv 3) (zA0 zA2 (zA0 (vv 5) zA8))))) zA6)) zC6 (zBC _)))))
   (zA5 (zAD zC6))
   zAI)
  refine zA3 ?_ ?_
  ·exact (@zBJ _ _ _ _ _ _ _ _ _ zDC.nd (@zC9 _ _ _ _ _ _ (@zAA _ _ _ _ _ _ _ _ (@zAW _ _ _ _ _ _ _ _ _ _ _ _ _ _ _ _ _ (zD6 (K := K) rfl) zC0 zA2 (vcal ag hr (zA7 (vv 0) (zB7 (pv 1) (zA7 (@zAA _ _ _ _ _ _ _ _ (@zCS _ _ _ _ _ _ _ _ _ _ _ _ _ _ _ _ _ zFX zIU (vlen T.n_len (vv 5)) zA2 rfl) rfl) zA6)))) rfl) rfl)) rfl (by first | exact .inl rfl | exact .inr rfl) (by decide) rfl (by first | exact .inl rfl | exact .inr rfl))
  refine zA3 ?_ ?_
  ·exact (@zBJ _ _ _ _ _ _ _ _ _ zDC.nd (@zC9 _ _ _ _ _ _ (@zAA _ _ _ _ _ _ _ _ (@zAW _ _ _ _ _ _ _ _ _ _ _ _ _ _ _ _ _ (zD6 (K := K) rfl) zC0 (vv 5) (@zAH _ _ _ _ _ _ _ _ _ (@zA0 _ _ _ _ _ _ _ _ _ _ _ _ (@zAH _ _ _ _ _ _ _ _ _ (@zA0 _ _ _ _ _ _ _ _ _ _ _ _ zAC (@zA0 _ _ _ _ _ _ _ _ _ _ _ _ zAC (@zA0 _ _ _ _ _ _ _ _ _ _ _ _ zA2 (@zA0 _ _ _ _ _ _ _ _ _ _ _ _ zA2 zA8 rfl rfl rfl) rfl rfl rfl) rfl rfl rfl) rfl rfl rfl)) (@zA0 _ _ _ _ _ _ _ _ _ _ _ _ (@zAH _ _ _ _ _ _ _ _ _ (@zA0 _ _ _ _ _ _ _ _ _ _ _ _ zAC (@zA0 _ _ _ _ _ _ _ _ _ _ _ _ zAC (@zA0 _ _ _ _ _ _ _ _ _ _ _ _ (vlen T.n_len (vv 5)) (@zA0 _ _ _ _ _ _ _ _ _ _ _ _ (vlen T.n_len (vv 5)) zA8 rfl rfl rfl) rfl rfl rfl) rfl rfl rfl) rfl rfl rfl)) zA8 rfl rfl rfl) rfl rfl rfl)) rfl) rfl)) rfl (by first | exact .inl rfl | exact .inr rfl) (by decide) rfl (by first | exact .inl rfl | exact .inr rfl))
  refine zA3 ?_ ?_
  ·exact(zAY (vt_w (zDA (zB4 zFI zHJ (vcal ai hr (zA7 (zAA (zAH (zA0 (vv 3) (zA0 (vv 4) (zA0 (vv 7) zA8))))) zA6)) zC6 (zBC _)) (zCA (zB4 zFI zHJ (vcal ai hr (zA7 (zAA (zAH (zA0 (vv 3) (zA0 (vv 4) (zA0 (zK3 rfl (vv 7) zK2 (zK1 (zGL zA2))) zA8))))) zA6)) zC6 (zBC _)))))
   (zA5 (zAD zC6))
   zAI)
  refine zA3 ?_ ?_
  ·exact (zGK Df rfl (zCH (by rfl) T.n_range zA2) (zAL zDC.nd)
   (zA3 (zBJ zDC.nd (zC9 (zAA (vcal al hr (zA7 (vv 0) (zB7 (pv 1) (zA7 (zAA (vcal fu hr (zA7 (vv 3) (zA7 (zAA (vlen T.n_len (vv 5))) zA6)))) zA6)))))))
   (zA3 (zBJ zDC.nd (zC9 (zAA (zAH (zA0 (vv 3) (zA0 (vv 4) (zA0 (zAW (zD6 (K:=K) rfl) zC0 (zK3 rfl (vv 5) zK2 (zK1 (vv 6))) (zAH (zA0 (vv 9) zA8))) zA8)))))))
   (zA5 (zAY (vt_w (zDA (zB4 zFI zHJ (vcal ai hr (zA7 (vv 10) zA6)) zC6 (zBC _)) (zCA (zB4 (kNeD (K:=K) rfl hu) s_ne (vcal ef hr (zA7 (zAA (zCS zE4 zGP (vv 8) zA2)) (zA7 (vv 10) (zA7 zBA zA6)))) (zAH (zA0 zAC (zA0 zA2 zA8))) (zBC _)))))
   (zA5 (zAD zC6))
   zAI)))))
  refine zA3 ?_ ?_
  ·exact (@zBJ _ _ _ _ _ _ _ _ _ zDC.nd (@zC9 _ _ _ _ _ _ (@zAZ _ _ _ _ _ _ (@zL1 _ _ _ 2 _ _ _ rfl (by decide)))) rfl (by first | exact .inl rfl | exact .inr rfl) (by decide) rfl (by first | exact .inl rfl | exact .inr rfl))
  refine zA3 ?_ ?_
  ·exact (zAY (zB4 zFI zHJ (vcal ai hr (zA7 (zAA (vcal al hr (zA7 (vv 0) (zB7 (pv 1) (zA7 (zAA (zAW (zD6 (K := K) rfl) zC0 (vv 11) (zAZ (@zL1 _ _ _ 2 _ _ _ rfl (by decide))))) zA6))))) zA6)) zC6 (zBC _))
   (zA5 (zAD zC6))
   zAI)
  refine zA3 ?_ ?_
  ·exact(zGK Df rfl (zE0 rfl (zAZ (zB8 (zAK (zA0 zBA (zA0 (zAH (zA0 zA2 zA8)) (zA0 (zAW (kRep (K:=K) rfl) zG8 (zAZ (zB8 (zAK (zA0 zA2 zA8)))) zA2) (zA0 (zAW (kRep (K:=K) rfl) zG8 (zAZ (zB8 (zAK (zA0 zA2 zA8)))) zA2) (zA0 (zAW (kRep (K:=K) rfl) zG8 (zAZ (zB8 (zAK (zA0 zAC zA8)))) zA2) zA8))))))))) (zAL zDC.nd)
   (zA5 (zAY (zB4 (kNeD (K:=K) rfl hu) s_ne (vcal ef hr (zA7 zA2 (zA7 (vv 2) (zA7 (vv 12) zA6)))) (zAH (zA0 zAC (zA0 zA2 zA8))) (zBC _))
   (zA5 (zAD zC6))
   zAI)))
  exact zA5 (@zAD _ _ _ _ _ _ _ _ _ (zGM (zHF zS2 zWD (vcal ai hr (zA7 (@zAA _ _ _ _ _ _ _ _ (@zAH _ _ _ _ _ _ _ _ _ (@zA0 _ _ _ _ _ _ _ _ _ _ _ _ zA2 (@zA0 _ _ _ _ _ _ _ _ _ _ _ _ zA2 (@zA0 _ _ _ _ _ _ _ _ _ _ _ _ (@zAW _ _ _ _ _ _ _ _ _ _ _ _ _ _ _ _ _ (kRep (K:=K) rfl) zG8 (@zRK _ _ _ 2 _ _ rfl) zA2 rfl) zA8 rfl rfl rfl) rfl rfl rfl) rfl rfl rfl)) rfl) zA6)) zC6 (zBC _)) (zHE (zHF zS2 zWD (vcal ai hr (zA7 (@zAA _ _ _ _ _ _ _ _ (@zAH _ _ _ _ _ _ _ _ _ (@zA0 _ _ _ _ _ _ _ _ _ _ _ _ zA2 (@zA0 _ _ _ _ _ _ _ _ _ _ _ _ zA2 (@zA0 _ _ _ _ _ _ _ _ _ _ _ _ (@zAW _ _ _ _ _ _ _ _ _ _ _ _ _ _ _ _ _ (kRep (K:=K) rfl) zG8 (@zRK _ _ _ 2 _ _ rfl) zA2 rfl) zA8 rfl rfl rfl) rfl rfl rfl) rfl rfl rfl)) rfl) zA6)) zC6 (zBC _)))) rfl)
end
end RR
namespace L2
open PySem
theorem zDP(a b:String):At a=At b↔a=b:=by
 refine⟨fun h=> ?_,fun h=>by rw[h]⟩
 rw[Ei,Ei] at h
 injection h with h
 have h2:a.toList.map J4=b.toList.map J4:=by simpa using h
 have h3:a.toList=b.toList:=by
  have inj: ∀(l m:List Char),l.map J4=m.map J4->l=m:=by
   intro l
   induction l with
   | nil => intro m h;cases m with
    |nil=>rfl
    |cons=>cases h
   | cons c l ih => intro m h;cases m with
    |nil=>cases h
    |cons e m=>
     simp only[B9,List.cons.injEq] at h
     rw[ih m h.2,Char.toNat_inj.mp h.1]
  exact inj _ _ h2
 exact String.toList_inj.mp h3
theorem zND(a:String):L6 (At a)=true:=by
 unfold L6
 rw[Ei]
 simp only[List.all_toArray,L5,B0,Function.comp,decide_eq_true_eq]
 intro c _
 have:=c.valid
 rcases this with h|⟨_,h⟩
 ·show c.val.toNat<1114112
  have:c.val.toNat<55296:=h
  omega
 ·exact h
def okk(k:Nat)(d:Dat):Prop:=d.isD=true/\d.pd.canLay0=true/\d.pd.depth<=k
theorem zKF{k:Nat}{i:Int}:okk k (.int i):=⟨rfl,rfl,D3 _⟩
theorem zE5{k:Nat}{a:String}:okk k (.str (At a)):=⟨rfl,by simp[Dat.pd,Dx,zND],D3 _⟩
theorem zO5{k:Nat}: ∀{ds:List Dat},(∀d∈ds,okk k d)->isDs ds=true/\Ep (pds ds)=true/\Ct (pds ds)<=k
 |[],_=>⟨rfl,rfl,D3 _⟩
 |d::ds,h=>by
  obtain⟨a1,a2,a3⟩:=h d Aw
  obtain⟨b1,b2,b3⟩:=zO5 fun e he=>h e (Am _ he)
  refine⟨by simp[isDs,a1,b1],by simp[pds,Ep,a2,b2],?_⟩
  simp only[pds,Ct]
  omega
theorem zTX{k:Nat}{ds:List Dat}(h: ∀d∈ds,okk k d):okk (k+1) (.tup ds):=by
 obtain⟨a,b,c⟩:=zO5 h
 exact⟨by simpa[Dat.isD] using a,by simpa[Dat.pd,Dx] using b,by simp only[Dat.pd,Fo];omega⟩
theorem okk.ok{k:Nat}{d:Dat}(h:okk k d)(hk:k<=64:=by decide):okD d=true:=by
 unfold okD Cf
 simp only[h.1,h.2.1,Kv,A1,decide_eq_true_eq]
 have:=h.2.2
 omega
@[simp] theorem yBO{a:String}:okD (.str (At a))=true:=(zE5 (k:=0)).ok
theorem zKE{k:Nat}: ∀d∈([]:List Dat),okk k d:=fun _ h=>nomatch h
theorem zDO{k:Nat}{d:Dat}{ds:List Dat}(h:okk k d)(t: ∀d∈ds,okk k d): ∀e∈d::ds,okk k e:=fun e he=>by
 rcases Ac.mp he with z|z
 ·rw[z];exact h
 ·exact t e z
@[simp] theorem yF8{i j:Int}:eqD (.int i) (.int j)=decide (i=j):=by show(i==j)=_;rw[Hf]
@[simp] theorem yF6{a b:String}:eqD (.str (At a)) (.str (At b))=decide (a=b):=by
 show(At a==At b)=_
 rw[Hf]
 simp only[zDP]
@[simp] theorem yEM{i j:Int}:oEq (.int i) (.int j)=some (.bl (decide (i=j))):=by unfold oEq;simp
@[simp] theorem yE8{i j:Int}:oNe (.int i) (.int j)=some (.bl (!decide (i=j))):=by unfold oNe;simp
@[simp] theorem yEL{a b:String}:oEq (.str (At a)) (.str (At b))=some (.bl (decide (a=b))):=by unfold oEq;simp
theorem zU1{j k:Nat}{neg:Bool}{d:Dat}{ds:List Dat}(h:okk j d)(h': ∀e∈ds,okk k e)(hj:j<=64:=by decide)(hk:k+1<=64:=by decide):oInD neg d (.tup ds)=some (.bl (if neg then !inE d ds else inE d ds)):=by
 unfold oInD
 simp[h.ok hj,(zTX h').ok hk]
@[simp] theorem yGU{d:Dat}:inE d []=false:=(rfl)
@[simp] theorem yGV{d e:Dat}{ds:List Dat}:inE d (e::ds)=(eqD e d || inE d ds):=(rfl)
@[simp] theorem yGS{neg:Bool}{a b c:String}:oInD neg (.str (At a)) (.tup [.str (At b),.str (At c)])=some (.bl (if neg then !(decide (b=a) || decide (c=a)) else decide (b=a) || decide (c=a))):=by
 rw[zU1 (j:=0) zE5 (zDO (zE5 (k:=0)) (zDO zE5 zKE))]
 simp
@[simp] theorem yGR{neg:Bool}{a b c d:String}:oInD neg (.str (At a)) (.tup [.str (At b),.str (At c),.str (At d)])=some (.bl (if neg then !(decide (b=a) || (decide (c=a) || decide (d=a))) else decide (b=a) || (decide (c=a) || decide (d=a)))):=by
 rw[zU1 (j:=0) zE5 (zDO (zE5 (k:=0)) (zDO zE5 (zDO zE5 zKE)))]
 simp
@[simp] theorem yGT{neg:Bool}{a b c:Int}:oInD neg (.int a) (.tup [.int b,.int c])=some (.bl (if neg then !(decide (b=a) || decide (c=a)) else decide (b=a) || decide (c=a))):=by
 rw[zU1 (j:=0) zKF (zDO (zKF (k:=0)) (zDO zKF zKE))]
 simp
noncomputable def Scp(ns:List Int):Dat:= .lst (ns.map .int)
noncomputable def Twn(n:Nat):Dat:= .lst (Aa n (.int 0))
theorem zJC: ∀ns:List Int,isDs (ns.map Dat.int)=true
 |[]=>rfl
 |n::ns=>by simp[isDs,Dat.isD,zJC ns]
theorem zLE: ∀ns:List Int,pds (ns.map Dat.int)=ns.map Iy
 |[]=>rfl
 |n::ns=>by simp[pds,Dat.pd,zLE ns]
theorem zQW(ns:List Int):okD (.lst (ns.map .int))=true:=by
 unfold okD
 simp only[Dat.isD,zJC,Dat.pd,zLE,Kv]
 exact zK7 ns
theorem zDY(ns:List Int):oEq (.lst (ns.map .int)) (.lst [])=some (.bl ns.isEmpty):=by
 unfold oEq
 rw[zQW,show okD (.lst [])=true from by decide+kernel]
 cases ns<;>rfl
theorem zJE: ∀n:Nat,zHD (Aa n (.int 0))=true
 |0=>rfl
 |n+1=>by simp[Bo,zHD,Dat.hard,zJE n]
@[simp] theorem zZQ(n:Nat):zGG (Twn n)=true:=zJE n
theorem zJK: ∀(ds:List Dat) (a b:Dat) (r:Int) (s:Sl),∃r' s',forV (gN 3) (sSet 2 (xV (f2 zO9 (fV 2) (fC (.int 1000003))))) ds [.va a,.va b,.va (.int r),s]=some (.nx [.va a,.va b,.va (.int r'),s'])
 |[],a,b,r,s=>⟨r,s,rfl⟩
 |d::ds,a,b,r,s=>by
  obtain⟨r',s',h⟩:=zJK ds a b (r/1000003) (.va d)
  exact⟨r',s',by simp[cDiv,h]⟩
theorem zKO{ns:List Int}{i:Int}(h0:0<=i)(h1:i<ns.length): ∃r∈ns,atI (ns.map Dat.int) i=some (.int r):=by
 obtain⟨x,hx,e⟩:=zPQ (xs:=ns.map Dat.int) h0 (by simpa using h1)
 obtain⟨r,hr,rfl⟩:=Cd.mp hx
 exact⟨r,hr,e⟩
theorem zUL(ns:List Int)(k:Nat)(hl:ns.length<=63)(hk:k<1000000): ∃r,zBG [Scp ns,.int k]=some (.int r,[]):=by
 unfold zBG
 rw[zB0]
 unfold zDR zEC Scp
 by_cases h:(k:Int)<ns.length
 ·obtain ⟨r,_,e⟩ := zKO (ns := ns) (i := k) (by omega) h
  exact⟨r,by simp[envD,h,e]⟩
 ·cases ns with
  |nil=>
   have h0: ¬((k:Int)<0):=by omega
   have e:oEq (.lst []) (.lst [])=some (.bl true):=zDY []
   exact⟨0,by simp[envD,h0,e]⟩
  |cons m ms=>
   generalize hns:m::ms=ns at*
   have en:(0:Int)<ns.length:=by rw[<- hns];simp
   have hb:=Fe (k:Int) (show(ns.length:Int)≠0 by omega)
   have hb2:=Eg (k:Int) en
   obtain⟨r,_,e⟩:=zKO (ns:=ns) hb hb2
   have he:ns.isEmpty=false:=by rw[<- hns];rfl
   have hq:0<=(k:Int)/ns.length:=Int.ediv_nonneg (by omega) (by omega)
   have hm: -4611686018427387904<=(if(60:Int)<(k:Int)/ns.length then 60 else(k:Int)/ns.length)/\(if(60:Int)<(k:Int)/ns.length then 60 else(k:Int)/ns.length)<4611686018427387904:=by split<;>omega
   obtain⟨r',s',e2⟩:=zJK (rngD 0 (if(60:Int)<(k:Int)/ns.length then 60 else(k:Int)/ns.length).toNat) (.lst (ns.map .int)) (.int k) r .no
   have hp2:0<ns.length:=by omega
   have hp3:(ns.length:Int)<1073741824:=by omega
   exact⟨r*31+k+r'*101,by simp[envD,h,zDY,he,en,hp2,hp3,e,cDiv,hm,e2,cMul]⟩
noncomputable def cel(ns:List Int)(k:Nat):Int:=match zBG [Scp ns,.int k] with
 |some (.int r,_)=>r
 |_=>0
theorem zZA(ns:List Int)(k:Nat)(hl:ns.length<=63)(hk:k<1000000):zBG [Scp ns,.int k]=some (.int (cel ns k),[]):=by
 obtain⟨r,e⟩:=zUL ns k hl hk
 unfold cel
 rw[e]
noncomputable def drw(ns:List Int)(n:Nat)(b:Int):Int:=((cel ns (n+1)*1103515245+7919*(((n+1:Nat)):Int)+12345) % 2147483647) ^ 5 % 2147483647 % 999983 % b
theorem zG7(ns:List Int)(n:Nat){b:Int}(h:0<b):0<=drw ns n b:=Fe _ (by omega)
theorem zH3(ns:List Int)(n:Nat){b:Int}(h:0<b):drw ns n b<b:=Eg _ h
theorem zYN(ns:List Int)(n:Nat)(b:Int)(hl:ns.length<=63)(hn:n<900000)(hb:0<b):zCD [Scp ns,.int ((n+1:Nat):Int),.int b]=some (.int (drw ns n b),[]):=by
 have e:=zZA ns (n+1) hl (by omega)
 unfold zCD
 rw[zB0]
 unfold zEQ drw
 have e1:=Fe (cel ns (n+1)*1103515245+7919*((n+1:Nat):Int)+12345) (show(2147483647:Int)≠0 by decide)
 have e2:=Eg (cel ns (n+1)*1103515245+7919*((n+1:Nat):Int)+12345) (show(0:Int)<2147483647 by decide)
 generalize hz:(cel ns (n+1)*1103515245+7919*((n+1:Nat):Int)+12345) % 2147483647=z at*
 have hz2:z.natAbs<18446744073709551616:=by omega
 generalize hk:((n+1:Nat):Int)=k at*
 simp[envD,e,cMul,cPow,hz,hz2,hb]
theorem zBV(ns:List Int)(n:Nat)(b:Int)(hl:ns.length<=63)(hn:n<900000)(hb:0<b):zAM [Scp ns,Twn n,.int b]=some (.int (drw ns n b),[Twn (n+1)]):=by
 have e:=zYN ns n b hl hn hb
 unfold zAM
 rw[zB0]
 unfold zFO
 have ht:Twn n= .lst (Aa n (.int 0)):=rfl
 have ht2:Twn (n+1)= .lst (Aa n (.int 0)++[.int 0]):=by unfold Twn;rw[List.replicate_succ']
 rw[ht2,ht]
 have hs:n<16777216:=by omega
 push_cast at e
 simp[envD,hs,e]
theorem zD5(ns:List Int)(n:Nat)(xs:List Dat)(hl:ns.length<=63)(hn:n<900000)(hx:0<xs.length): ∃x∈xs,zAT [Scp ns,Twn n,.lst xs]=some (x,[Twn (n+1)]):=by
 have hx':(0:Int)<xs.length:=by omega
 obtain⟨x,hm,e⟩:=zPQ (xs:=xs) (zG7 ns n hx') (zH3 ns n hx')
 refine⟨x,hm,?_⟩
 unfold zAT
 rw[zB0]
 unfold zFN
 simp[envD,zBV ns n _ hl hn hx',e]
def Seen(n:Nat)(d:Dat):Prop:= ∃(ks:List Key) (vs:List Int),d= .dct ks (vs.map .int)/\ks.length=vs.length/\ks.Nodup/\ks.length<=n
theorem Seen.mono{n m:Nat}{d:Dat}(h:Seen n d)(hn:n<=m):Seen m d:=by
 obtain⟨ks,vs,h1,h2,h3,h4⟩:=h
 exact⟨ks,vs,h1,h2,h3,by omega⟩
theorem zYO: ∀(ks:List Key) (vs:List Int) (k:Key) (q:Int),∃r,(zBU ks (vs.map .int) k).getD (.int q)= .int r
 | [],_,_,q => ⟨q,by simp [zBU]⟩
 | _ :: _,[],_,q => ⟨q,by simp [zBU]⟩
 | k' :: ks,v :: vs,k,q => by
  by_cases h:k'=k
  ·exact ⟨v,by simp [zBU,h]⟩
  ·obtain⟨r,e⟩:=zYO ks vs k q
   exact⟨r,by simp only[B9,zBU,if_neg h];exact e⟩
theorem putI: ∀(ks:List Key) (vs:List Int) (k:Key) (p:Int),ks.length=vs.length->ks.Nodup-> ∃(ks':List Key) (vs':List Int),zDN ks (vs.map .int) k (.int p)=(ks',vs'.map .int)/\ks'.length=vs'.length/\ks'.Nodup/\ks'.length<=ks.length+1/\(∀z∈ks',z=k∨z∈ks)/\zBU ks' (vs'.map .int) k=some (.int p)
 | [],[],k,p,_,_ => ⟨[k],[p],by simp [zDN],rfl,by simp,by simp,by simp,by simp [zBU]⟩
 | k' :: ks,v :: vs,k,p,hl,hn => by
  by_cases h:k'=k
  ·subst h
   exact⟨k'::ks,p::vs,by simp[zDN],by simpa using hl,hn,by simp,by simp,by simp[zBU]⟩
  ·obtain ⟨ks',vs',e,h1,h2,h3,h4,h5⟩ := putI ks vs k p (by simpa using hl) (C4.mp hn).2
   refine⟨k'::ks',v::vs',by simp only[B9,zDN,if_neg h,e],by simp[h1],?_,by simp;omega,?_,by simp only[B9,zBU,if_neg h];exact h5⟩
   ·refine C4.mpr ⟨fun z => ?_,h2⟩
    rcases h4 _ z with y|y
    ·exact h y
    ·exact(C4.mp hn).1 y
   ·intro z hz
    rcases Ac.mp hz with y|y
    ·exact .inr (by rw[y];exact Aw)
    ·exact(h4 z y).imp id (Am _)
theorem zLB(ns:List Int)(n:Nat)(sn:Dat)(x:Str)(a9:Int)(hl:ns.length<=63)(hn:n<800000)(hs:Seen n sn)(hr:0<a9):
  ∃p sn',0<=p/\p<a9/\Seen (n+2) sn'/\zB9 [Scp ns,Twn n,sn,.str x,.int a9]=some (.int p,[Twn (n+2),sn']):=by
 obtain⟨ks,vs,rfl,h1,h2,h3⟩:=hs
 obtain⟨a,ha⟩:=zYO ks vs (.inr x) (drw ns n a9)
 obtain⟨y,hy,ey⟩:=zD5 ns (n+1) [.int 1,.int 1,.int 1,.int 0,.int 3] hl (by omega) (by simp)
 obtain⟨b,rfl⟩: ∃b,y= .int b:=by
  simp only[Ac,Ak,or_false] at hy
  rcases hy with h|h|h|h|h<;>exact⟨_,h⟩
 obtain⟨ks',vs',e,h4,h5,h6,h7,h8⟩:=putI ks vs (.inr x) ((a+b) % a9) h1 h2
 refine⟨(a+b) % a9,.dct ks' (vs'.map .int),Fe _ (by omega),Eg _ hr,⟨ks',vs',rfl,h4,h5,by omega⟩,?_⟩
 have hk:ks.length<16777216:=by omega
 unfold zB9
 rw[zB0]
 unfold zEP
 simp[envD,zBV ns n a9 hl (by omega) hr,ha,ey,hr,hk,h2,e,h8]
inductive zD9(M:Int->Prop):Dat->Prop
 |number {n:Int}:0<=n->n<=999->zD9 M (.tup [.str "number",.int n])
 |two {x:String} {a b:Int}:x∈["over","plus","minus","times","least","most","less"]->M a->M b->zD9 M (.tup [.str x,.int a,.int b])
 |pick {c a b:Int}:M c->M a->M b->zD9 M (.tup [.str "pick",.int c,.int a,.int b])
 |load {p:Int}:0<=p->p<=63->zD9 M (.tup [.str "load",.int p])
 |take {p c a:Int}:0<=p->p<=63->M c->M a->zD9 M (.tup [.str "take",.int p,.int c,.int a])
 |store {p a:Int}:0<=p->p<=63->M a->zD9 M (.tup [.str "store",.int p,.int a])
 |put {p a c:Int}:0<=p->p<=63->M a->M c->zD9 M (.tup [.str "put",.int p,.int a,.int c])
theorem zQ9(ns:List Int)(n:Nat)(made:List Int)(hl:ns.length<=63)(hn:n<800000)(hm:0<made.length)(s:Sl): ∃a b c,a∈made/\b∈made/\c∈made∧
  zCN 3 1 (gN 3) bYes (f2 oIxA (fV 2) (f2 oMax (fC (.int 0)) (f2 oSub (f2 oSub (f1 oLen (fV 2)) (fC (.int 1))) (zAE 3 [1] zAM (aE (fV 0) (aO 1 (aE (fC (.int 6)) aNil))))))) [.int 0,.int 1,.int 2] [] [.va (Scp ns),.ow (Twn n),.va (.lst (made.map .int))]=
   some ([.int a,.int b,.int c],[.va (Scp ns),.ow (Twn (n+3)),.va (.lst (made.map .int))]):=by
 have one: ∀m,∃a∈made,atI (made.map Dat.int) (if(made.length:Int) - 1 - drw ns m 6>0 then(made.length:Int) - 1 - drw ns m 6 else 0)=some (.int a):=fun m=>by
  have:=zG7 ns m (b:=6) (by decide)
  exact zKO (by split<;>omega) (by split<;>omega)
 obtain⟨a,ha,ea⟩:=one n
 obtain⟨b,hb,eb⟩:=one (n+1)
 obtain⟨c,hc,ec⟩:=one (n+2)
 refine⟨a,b,c,ha,hb,hc,?_⟩
 have d0:=zBV ns n 6 hl (by omega) (by decide)
 have d1:=zBV ns (n+1) 6 hl (by omega) (by decide)
 have d2:=zBV ns (n+2) 6 hl (by omega) (by decide)
 simp only[gt_iff_lt,Int.sub_pos] at ea eb ec
 simp[d0,d1,d2,ea,eb,ec]
theorem zRV(ns:List Int)(n:Nat)(made:List Int)(sn:Dat)(a9:Int)(hl:ns.length<=63)(hn:n<700000)(hs:Seen n sn)(hr:0<a9)(hr2:a9<=64):
    ∃row n' sn',n<=n'/\n'<=n+10/\Seen n' sn'/\zD9 (· ∈made) row/\zDI [Scp ns,Twn n,.lst (made.map .int),sn,.int a9]=some (row,[Twn n',sn']):=by
  have d0 := zBV ns n 13 hl (by omega) (by decide)
  have k0 := zG7 ns n (b := 13) (by decide)
  have k1 := zH3 ns n (b := 13) (by decide)
  generalize drw ns n 13=kd at*
  unfold zDI
  rw[zB0]
  unfold zGZ
  by_cases h0:made.isEmpty=true∨kd=0
  · have d1 := zBV ns (n + 1) 2 hl (by omega) (by decide)
    have hor:made.isEmpty=true∨(made.isEmpty=false/\kd=0):=by
      cases hm:made.isEmpty with
      | true => exact .inl rfl
      | false => rcases h0 with h | h
                 · rw[hm] at h;cases h
                 · exact .inr ⟨rfl,h⟩
    by_cases h2:drw ns (n+1) 2=0
    · have d2 := zBV ns (n + 2) 1000 hl (by omega) (by decide)
      obtain⟨y,hy,ey⟩:=zD5 ns (n+3) [.int 0,.int 1,.int 2,.int 5,.int 999,.int (drw ns (n+2) 1000)] hl (by omega) (by simp)
      obtain⟨b,rfl,hb0,hb1⟩: ∃b,y= .int b/\0<=b/\b<=999:=by
        have:=zG7 ns (n+2) (b:=1000) (by decide)
        have:=zH3 ns (n+2) (b:=1000) (by decide)
        simp only[Ac,Ak,or_false] at hy
        rcases hy with h|h|h|h|h|h<;>exact⟨_,h,by omega,by omega⟩
      refine⟨.tup [.str "number",.int b],n+4,sn,by omega,by omega,hs.mono (by omega),.number hb0 hb1,?_⟩
      rcases hor with h|⟨h,h'⟩
      · simp[envD,d0,zDY,h,d1,h2,d2,ey]
      · simp[envD,d0,zDY,h,h',d1,h2,d2,ey]
    · obtain ⟨p,sn',p0,p1,hs',ep⟩ := zLB ns (n + 2) sn "load" a9 hl (by omega) (hs.mono (by omega)) hr
      refine⟨.tup [.str "load",.int p],n+4,sn',by omega,by omega,hs',.load p0 (by omega),?_⟩
      rcases hor with h|⟨h,h'⟩
      · simp[envD,d0,zDY,h,d1,h2,ep]
      · simp[envD,d0,zDY,h,h',d1,h2,ep]
  · obtain⟨hm,hkd⟩:=not_or.mp h0
    have hm':made.isEmpty=false:=by simpa using hm
    have en:0<made.length:=by
      cases made with
      |nil=>cases hm'
      |cons=>simp
    obtain⟨a,b,c,ha,hb,hc,e3⟩:=zQ9 ns (n+1) made hl (by omega) en .no
    have fo:(kd=1∨kd=2)∨kd=3∨(kd=4∨kd=5)∨kd=6∨kd=7∨(8<=kd/\kd<=12):=by omega
    have pl: ∀x:Str,∃p sn',0<=p/\p<=63/\Seen (n+6) sn'/\zB9 [Scp ns,Twn (n+4),sn,.str x,.int a9]=some (.int p,[Twn (n+6),sn']):=fun x=>by
      obtain⟨p,sn',p0,p1,hs',ep⟩:=zLB ns (n+4) sn x a9 hl (by omega) (hs.mono (by omega)) hr
      exact⟨p,sn',p0,by omega,hs',ep⟩
    rcases fo with h|h|h|h|h|h
    · have t12 : (decide (1 = kd) || decide (2 = kd)) = true := by rcases h with rfl | rfl <;> decide
      obtain⟨p,sn',p0,p1,hs',ep⟩:=pl "load"
      exact⟨.tup [.str "load",.int p],n+6,sn',by omega,by omega,hs',.load p0 p1,by simp[envD,d0,zDY,hm',hkd,zBR,e3,ep,t12]⟩
    · subst h
      obtain⟨p,sn',p0,p1,hs',ep⟩:=pl "take"
      exact⟨.tup [.str "take",.int p,.int c,.int a],n+6,sn',by omega,by omega,hs',.take p0 p1 hc ha,by simp[envD,d0,zDY,hm',zBR,e3,ep]⟩
    · have t45 : (decide (4 = kd) || decide (5 = kd)) = true := by rcases h with rfl | rfl <;> decide
      have n3: ¬kd=3:=by omega
      have m1: ¬1=kd:=by omega
      have m2: ¬2=kd:=by omega
      obtain⟨p,sn',p0,p1,hs',ep⟩:=pl "store"
      exact⟨.tup [.str "store",.int p,.int a],n+6,sn',by omega,by omega,hs',.store p0 p1 ha,by simp[envD,d0,zDY,hm',hkd,zBR,e3,ep,n3,m1,m2,t45]⟩
    · subst h
      obtain⟨p,sn',p0,p1,hs',ep⟩:=pl "put"
      exact⟨.tup [.str "put",.int p,.int a,.int c],n+6,sn',by omega,by omega,hs',.put p0 p1 ha hc,by simp[envD,d0,zDY,hm',zBR,e3,ep]⟩
    · subst h
      exact⟨.tup [.str "pick",.int c,.int a,.int b],n+4,sn,by omega,by omega,hs.mono (by omega),.pick hc ha hb,by simp[envD,d0,zDY,hm',zBR,e3]⟩
    · have d4 := zBV ns (n + 4) 7 hl (by omega) (by decide)
      have q0:=zG7 ns (n+4) (b:=7) (by decide)
      have q1:=zH3 ns (n+4) (b:=7) (by decide)
      obtain⟨y,hy,ey⟩:=zPQ (xs:=["over","plus","minus","times","least","most","less"].map fun s:String=>Dat.str (At s)) q0 (by simpa using q1)
      obtain⟨x,hx,rfl⟩:=Cd.mp hy
      simp only[B9,Dt] at ey
      have n1: ¬kd=1:=by omega
      have n2: ¬kd=2:=by omega
      have n3: ¬kd=3:=by omega
      have n4: ¬kd=4:=by omega
      have n5: ¬kd=5:=by omega
      have n6: ¬kd=6:=by omega
      have n7: ¬kd=7:=by omega
      have m1: ¬1=kd:=by omega
      have m2: ¬2=kd:=by omega
      have m4: ¬4=kd:=by omega
      have m5: ¬5=kd:=by omega
      exact⟨.tup [.str x,.int a,.int b],n+5,sn,by omega,by omega,hs.mono (by omega),.two hx ha hb,by simp[envD,d0,zDY,hm',hkd,zBR,e3,n3,n6,n7,m1,m2,m4,m5,d4,ey]⟩
inductive Kd where
 |w|p|n
 deriving DecidableEq
def Nm(kds:List Kd)(k:Kd)(a:Int):Prop:=0<=a/\kds[a.toNat]? =some k
theorem Nm.snoc{kds:List Kd}{k j:Kd}{a:Int}(h:Nm kds k a):Nm (kds++[j]) k a:=⟨h.1,by rw[A7 (A6.mp h.2).1];exact h.2⟩
theorem Nm.new{kds:List Kd}{k:Kd}:Nm (kds++[k]) k kds.length:=⟨by omega,by simp⟩
noncomputable def mk1(k:Kd):Dat->Kd
 | .tup (.str x::_)=>if x= "store" ∨x= "put" then .n else k
 |_=> .n
inductive PR(L:Nat)(kds:List Kd):Dat->Kd->Prop
 |nar {row:Dat}:zD9 (Nm kds .w) row->PR L kds row (mk1 .w row)
 |wid {ds:List Dat}:zD9 (Nm kds .p) (.tup ds)->(∀n,ds≠[.str "number",.int n])->PR L kds (.tup (.str "wide"::ds)) (mk1 .p (.tup ds))
 |wnum {ws:List Int}:ws.length=L->(∀w∈ws,0<=w/\w<=999)->PR L kds (.tup [.str "wide",.str "number",.tup (ws.map .int)]) .p
 |gather {rs:List Int}:rs.length=L->(∀r∈rs,Nm kds .w r)->PR L kds (.tup [.str "gather",.tup (rs.map .int)]) .p
 |shuf {p q:Int} {ps:List Int}:Nm kds .p p->Nm kds .p q->ps.length=L->(∀x∈ps,0<=x/\x<2*L)->PR L kds (.tup [.str "shuffle",.int p,.int q,.tup (ps.map .int)]) .p
 |lane {p k:Int}:Nm kds .p p->0<=k->k<L->PR L kds (.tup [.str "lane",.int p,.int k]) .w
inductive PRs(L:Nat):List Kd->List Dat->List Kd->Prop
 |nil {kds:List Kd}:PRs L kds [] kds
 |cons {kds ae:List Kd} {row:Dat} {k:Kd} {rows:List Dat}:PR L kds row k->PRs L (kds++[k]) rows ae->PRs L kds (row::rows) ae
theorem PRs.snoc{L:Nat}{kds ae:List Kd}{rows:List Dat}{row:Dat}{k:Kd}(h:PRs L kds rows ae)(r:PR L ae row k):PRs L kds (rows++[row]) (ae++[k]):=by
 induction h with
 |nil=>exact .cons r .nil
 |cons a _ ih=>exact .cons a (ih r)
theorem PRs.len{L:Nat}{kds ae:List Kd}{rows:List Dat}(h:PRs L kds rows ae):ae.length=kds.length+rows.length:=by
 induction h with
 |nil=>simp
 |cons a _ ih=>simp at ih⊢;omega
theorem zD9.imp{M M':Int->Prop}{row:Dat}(h:zD9 M row)(f: ∀a,M a->M' a):zD9 M' row:=by
 cases h with
 |number a b=>exact .number a b
 |two a b c=>exact .two a (f _ b) (f _ c)
 |pick a b c=>exact .pick (f _ a) (f _ b) (f _ c)
 |load a b=>exact .load a b
 |take a b c d=>exact .take a b (f _ c) (f _ d)
 |store a b c=>exact .store a b (f _ c)
 |put a b c d=>exact .put a b (f _ c) (f _ d)
theorem zD9.hard{M:Int->Prop}{row:Dat}(h:zD9 M row):row.hard=true:=by
 cases h<;>simp[Dat.hard,zHD]
structure GI(L:Nat)(rows:List Dat)(words a6:List Int)(kds:List Kd):Prop where
 rows:PRs L [] rows kds
 w: ∀a∈words,Nm kds .w a
 p: ∀a∈a6,Nm kds .p a
 wn:0<words.length
 pn:0<a6.length
theorem GI.more{L:Nat}{rows:List Dat}{words a6:List Int}{kds:List Kd}{row:Dat}{k:Kd}(G:GI L rows words a6 kds)(r:PR L kds row k):GI L (rows++[row]) (if k= .w then words++[(rows.length:Int)] else words) (if k= .p then a6++[(rows.length:Int)] else a6) (kds++[k]):=by
 have hl:rows.length=kds.length:=by have:=G.rows.len;simp at this;omega
 refine⟨G.rows.snoc r,fun a ha=> ?_,fun a ha=> ?_,?_,?_⟩
 ·split at ha
  ·rename_i h
   rcases Bg.mp ha with z|z
   ·exact(G.w a z).snoc
   ·rw[Af.mp z,hl,h];exact Nm.new
  ·exact(G.w a ha).snoc
 ·split at ha
  ·rename_i h
   rcases Bg.mp ha with z|z
   ·exact(G.p a z).snoc
   ·rw[Af.mp z,hl,h];exact Nm.new
  ·exact(G.p a ha).snoc
 ·have:=G.wn
  split<;>simp<;>omega
 ·have:=G.pn
  split<;>simp<;>omega
theorem zH6(ns:List Int)(b:Int)(hl:ns.length<=63)(hb:0<b)(fe:VF)(x:Sl)(tail:Ev)(nn:Nat)(hnn:nn=tail.length+2)
  (hfe: ∀n d,n<800000->fe ([.va (Scp ns),.ow (Twn n)]++tail++[.va d])=some (.int (drw ns n b),[.va (Scp ns),.ow (Twn (n+1))]++tail++[.va d])):
  ∀(ds:List Dat) (n:Nat) (acc:List Dat),n+ds.length<800000->acc.length+ds.length<1000000-> ∃ws:List Int,ws.length=ds.length/\(∀w∈ws,0<=w/\w<b)∧
   zCN nn 1 (gN nn) bYes fe ds acc ([.va (Scp ns),.ow (Twn n)]++tail)=some (acc++ws.map .int,[.va (Scp ns),.ow (Twn (n+ds.length))]++tail)
 | [],n,acc,_,_ => ⟨[],rfl,(fun _ h => nomatch h),by simp⟩
 | d :: ds,n,acc,hn,ha => by
  obtain⟨ws,h1,h2,h3⟩:=zH6 ns b hl hb fe x tail nn hnn hfe ds (n+1) (acc++[.int (drw ns n b)]) (by simp at hn;omega) (by simp at ha⊢;omega)
  refine⟨drw ns n b::ws,by simp[h1],fun w hw=> ?_,?_⟩
  ·rcases Ac.mp hw with z|z
   ·rw[z];exact⟨zG7 ns n hb,zH3 ns n hb⟩
   ·exact h2 w z
  ·have e := hfe n d (by simp at hn;omega)
   have iu:([Sl.va (Scp ns),Sl.ow (Twn n)]++tail++[Sl.no]).set nn (.va d)=[Sl.va (Scp ns),Sl.ow (Twn n)]++tail++[Sl.va d]:=by
    rw[Hg _ _ (by simp[hnn])]
    simp[hnn]
   have b7:([Sl.va (Scp ns),Sl.ow (Twn (n+1))]++tail++[Sl.va d]).take nn=[Sl.va (Scp ns),Sl.ow (Twn (n+1))]++tail:=by rw[Dj (by simp[hnn]),Be (by simp[hnn])]
   have bo:acc.length<16777216:=by simp at ha;omega
   simp only[zPC,zYJ,gN_e,iu,zWQ,zSJ,zWP,e,zWO,if_pos bo,b7,h3]
   simp[show n+1+ds.length=n+(ds.length+1) by omega]
theorem zJJ(ns:List Int)(xs:List Int)(hl:ns.length<=63)(hx:0<xs.length):
  ∀(ds:List Dat) (n:Nat) (acc:List Dat),n+ds.length<800000->acc.length+ds.length<1000000-> ∃ws:List Int,ws.length=ds.length/\(∀w∈ws,w∈xs)∧
   zCN 3 1 (gN 3) bYes (zAE 3 [1] zAT (aE (fV 0) (aO 1 (aO 2 aNil)))) ds acc [.va (Scp ns),.ow (Twn n),.ow (.lst (xs.map .int))]=some (acc++ws.map .int,[.va (Scp ns),.ow (Twn (n+ds.length)),.ow (.lst (xs.map .int))])
 | [],n,acc,_,_ => ⟨[],rfl,(fun _ h => nomatch h),by simp⟩
 | d :: ds,n,acc,hn,ha => by
  obtain⟨y,hy,ey⟩:=zD5 ns n (xs.map .int) hl (by simp at hn;omega) (by simpa using hx)
  obtain⟨v,hv,rfl⟩:=Cd.mp hy
  obtain⟨ws,h1,h2,h3⟩:=zJJ ns xs hl hx ds (n+1) (acc++[.int v]) (by simp at hn;omega) (by simp at ha⊢;omega)
  refine⟨v::ws,by simp[h1],fun w hw=> ?_,?_⟩
  ·rcases Ac.mp hw with z|z
   ·rw[z];exact hv
   ·exact h2 w z
  ·have bo : acc.length < 16777216 := by simp at ha;omega
   simp[ey,Dat.hard,bo,h3,show n+1+ds.length=n+(ds.length+1) by omega]
@[simp] theorem yE7{i:Int}:oNeg (.int i)=some (.int (-i)):=(rfl)
theorem zPA{ds:List Dat}{k:Nat}(h:k<=ds.length):cutD ds (some (k:Int)) none=ds.drop k:=by
 unfold cutD
 rw[HT.zNO,HT.zI3,K5 h,Be (by simp)]
theorem zUK{ds:List Dat}{k:Nat}:cutD ds none (some (k:Int))=ds.take k:=by
 unfold cutD
 rw[HT.zNO,HT.zI3]
 simp only[Fs,Nat.sub_zero]
 by_cases h:k<=ds.length
 ·rw[K5 h]
 ·rw[Nat.min_eq_right (by omega),Be (by omega),Be (by omega)]
@[simp] theorem yFA{d:Dat}{ds:List Dat}:cutD (d::ds) (some 1) none=ds:=zPA (k:=1) (by simp)
@[simp] theorem yCT{α:Type}{xs:List α}{x:α}:atI (xs++[x]) (-1)=some x:=by
 unfold atI ixN
 rw[if_neg (by decide),if_pos (by simp;omega)]
 have e:(-1+((xs++[x]).length:Int)).toNat=xs.length:=by simp;omega
 show(xs++[x])[(-1+((xs++[x]).length:Int)).toNat]? =some x
 rw[e]
 simp
@[simp] theorem yH4{α:Type}{x:α}{xs:List α}:atI (x::xs) 0=some x:=by rw[zHZ (by decide) (by simp)];rfl
@[simp] theorem yH3{α:Type}{x y:α}{xs:List α}:atI (x::y::xs) 1=some y:=by rw[zHZ (by decide) (by simp;omega)];rfl
@[simp] theorem yH2{α:Type}{x y z:α}{xs:List α}:atI (x::y::z::xs) 2=some z:=by rw[zHZ (by decide) (by simp;omega)];rfl
noncomputable def stP(ns:List Int)(n:Nat)(most L a9:Int)(rows:List Dat)(words a6:List Int)(a b c d e f:Sl):Ev:=
 [.va (Scp ns),.ow (Twn n),.va (.int most),.va (.int L),.va (.int a9),.ow (.lst rows),.ow (.lst (words.map .int)),.ow (.lst (a6.map .int)),a,b,c,d,e,f]
noncomputable def zEW:VS:=
   (sSeq (sSet 13 (xV (fIf (fB (f2 oEq (f2 oIxA (f2 oIxA (fO 5) (f1 oNeg (fC (.int 1)))) (fC (.int 0))) (fC (.str "wide")))) (fSl (f2 oIxA (fO 5) (f1 oNeg (fC (.int 1)))) (pSo (fC (.int 1))) pNo) (f2 oIxA (fO 5) (f1 oNeg (fC (.int 1)))))))
   (sIf (fB (f2 (oInD true) (f2 oIxA (fV 13) (fC (.int 0))) (fTup (zA1 (fC (.str "store")) (zA1 (fC (.str "put")) fNil)))))
   (sIf (fB (f2 (oInD false) (f2 oIxA (f2 oIxA (fO 5) (f1 oNeg (fC (.int 1)))) (fC (.int 0))) (fTup (zA1 (fC (.str "wide")) (zA1 (fC (.str "gather")) (zA1 (fC (.str "shuffle")) fNil))))))
   (sMut 7 mApp (zA1 (fV 10) fNil))
   (sMut 6 mApp (zA1 (fV 10) fNil)))
   sNil))
section
variable(ns:List Int)(n:Nat)(most LL a9:Int)(rows:List Dat)(words a6:List Int)(a b d e f:Sl)
abbrev zPR(row:Dat)(a7 a8:List Int):Prop:= ∃f',zEW (stP ns n most LL a9 (rows++[row]) words a6 a b (.va (.int rows.length)) d e f)=some (.nx (stP ns n most LL a9 (rows++[row]) a7 a8 a b (.va (.int rows.length)) d e f'))
variable{ns n most LL a9 rows words a6 a b d e f}
theorem zRL{x:String}{t:List Dat}(hx:x∉["wide","store","put","gather","shuffle"]) (hw:words.length<16777216):zPR ns n most LL a9 rows words a6 a b d e f (.tup (.str x::t)) (words++[(rows.length:Int)]) a6:=by
 simp only[Ac,Ak,or_false,not_or] at hx
 obtain⟨h1,h2,h3,h4,h5⟩:=hx
 exact⟨_,by simp[zEW,stP,hw,h1,C2 h1,C2 h2,C2 h3,C2 h4,C2 h5];rfl⟩
theorem zVI{x:String}{t:List Dat}(hx:x= "store" ∨x= "put"):zPR ns n most LL a9 rows words a6 a b d e f (.tup (.str x::t)) words a6:=by
 rcases hx with rfl|rfl<;>exact⟨_,by simp[zEW,stP];rfl⟩
theorem zRM{x:String}{t:List Dat}(hx:x= "gather" ∨x= "shuffle") (hw:a6.length<16777216):zPR ns n most LL a9 rows words a6 a b d e f (.tup (.str x::t)) words (a6++[(rows.length:Int)]):=by
 rcases hx with rfl|rfl<;>exact⟨_,by simp[zEW,stP,hw];rfl⟩
theorem zNA{x:String}{t:List Dat}(hx:x∉["store","put"]) (hw:a6.length<16777216):zPR ns n most LL a9 rows words a6 a b d e f (.tup (.str "wide":: .str x::t)) words (a6++[(rows.length:Int)]):=by
 simp only[Ac,Ak,or_false,not_or] at hx
 exact⟨_,by simp[zEW,stP,hw,C2 hx.1,C2 hx.2];rfl⟩
theorem zSZ{x:String}{t:List Dat}(hx:x= "store" ∨x= "put"):zPR ns n most LL a9 rows words a6 a b d e f (.tup (.str "wide":: .str x::t)) words a6:=by
 rcases hx with rfl|rfl<;>exact⟨_,by simp[zEW,stP];rfl⟩
end
theorem zYM{k:Kd}{x:String}{t:List Dat}(hx:x∉["store","put"]):mk1 k (.tup (.str x::t))=k:=by
 simp only[Ac,Ak,or_false,not_or] at hx
 simp[mk1,zDP,hx]
theorem zYL{k:Kd}{x:String}{t:List Dat}(hx:x= "store" ∨x= "put"):mk1 k (.tup (.str x::t))= .n:=by
 rcases hx with rfl|rfl<;>simp[mk1,zDP]
theorem zL9{M:Int->Prop}{row:Dat}(h:zD9 M row): ∃(x:String) (t:List Dat),row= .tup (.str x::t)/\x∉["wide","gather","shuffle"]:=by
 cases h with
 |two hx _ _=>
  simp only[Ac,Ak,or_false] at hx
  rcases hx with rfl|rfl|rfl|rfl|rfl|rfl|rfl<;>exact⟨_,_,rfl,by decide⟩
 |_=>exact⟨_,_,rfl,by decide⟩
theorem zT0{L:Nat}{kds:List Kd}{row:Dat}{k:Kd}(r:PR L kds row k)(ns:List Int)(n:Nat)(most LL a9:Int)(rows:List Dat)(words a6:List Int)(a b d e f:Sl)(hw:words.length<1000)(hp:a6.length<1000):
  ∃f',zEW (stP ns n most LL a9 (rows++[row]) words a6 a b (.va (.int rows.length)) d e f)=
   some (.nx (stP ns n most LL a9 (rows++[row]) (if k= .w then words++[(rows.length:Int)] else words) (if k= .p then a6++[(rows.length:Int)] else a6) a b (.va (.int rows.length)) d e f')):=by
 have hw':words.length<16777216:=by omega
 have hp':a6.length<16777216:=by omega
 cases r with
 |nar h=>
  obtain⟨x,t,rfl,hx⟩:=zL9 h
  by_cases hs:x= "store" ∨x= "put"
  ·rw[zYL hs]
   exact zVI hs
  ·have hs' : x ∉ ["store","put"] := by simpa using hs
   rw[zYM hs']
   exact zRL (by simp only[Ac,Ak,or_false,not_or] at hx hs'⊢;exact⟨hx.1,hs'.1,hs'.2,hx.2.1,hx.2.2⟩) hw'
 |wid h _=>
  obtain⟨x,t,e,hx⟩:=zL9 h
  cases e
  by_cases hs:x= "store" ∨x= "put"
  ·rw[zYL hs]
   exact zSZ hs
  ·have hs' : x ∉ ["store","put"] := by simpa using hs
   rw[zYM hs']
   exact zNA hs' hp'
 |wnum _ _=>exact zNA (by decide) hp'
 |gather _ _=>exact zRM (.inl rfl) hp'
 |shuf _ _ _ _=>exact zRM (.inr rfl) hp'
 |lane _ _ _=>exact zRL (by decide) hw'
theorem zD9.num{M:Int->Prop}{row:Dat}{v:Int}(h:zD9 M row)(e:row= .tup [.str "number",.int v]):0<=v/\v<=999:=by
 cases h with
 |number a b=>cases e;exact⟨a,b⟩
 |_=>simp[zDP] at e
theorem zT4{L:Nat}{rows:List Dat}{words a6:List Int}{kds:List Kd}(G:GI L rows words a6 kds)(ns:List Int)(n:Nat)(most a9:Int)(a b c d e f:Sl)(hl:ns.length<=63)(hn:n<600000)(hL:2<=L)(hL4:L<=4)(hr:0<a9)(hr2:a9<=64)
  (hw:words.length<900) (hp:a6.length<900) (oq:rows.length<900) (it:Dat):
  ∃n' af a7 a8 ae b' c' d' e' f',n<=n'/\n'<=n+20/\(af.length=rows.length+1/\ ∃k,ae=kds++[k])/\a7.length<=words.length+1/\a8.length<=a6.length+1/\GI L af a7 a8 ae∧
   zCV (stP ns n most L a9 rows words a6 (.va it) b c d e f)=some (.nx (stP ns n' most L a9 af a7 a8 (.va it) b' c' d' e' f')):=by
 have d0:=zBV ns n 6 hl (by omega) (by decide)
 have k0:=zG7 ns n (b:=6) (by decide)
 have k1:=zH3 ns n (b:=6) (by decide)
 generalize drw ns n 6=kd at*
 have bw:rows.length<16777216:=by omega
 have hrg:rngD 0 L=(Bv L).map fun k:Nat=>Dat.int (0+k):=rfl
 have hrl:(rngD 0 L).length=L:=by simp[rngD]
 have fin: ∀{row:Dat} {k:Kd} (r:PR L kds row k) (m:Nat) (d e:Sl),n<=m->m<=n+20-> ∃n' af a7 a8 ae b' c' d' e' f',n<=n'/\n'<=n+20/\(af.length=rows.length+1/\ ∃k,ae=kds++[k])/\a7.length<=words.length+1/\a8.length<=a6.length+1/\GI L af a7 a8 ae∧
   zEW (stP ns m most L a9 (rows++[row]) words a6 (.va it) (.va (.int kd)) (.va (.int rows.length)) d e f)=some (.nx (stP ns n' most L a9 af a7 a8 (.va it) b' c' d' e' f')):=fun{row k} r m d e h1 h2=>by
  obtain⟨f',e1⟩:=zT0 r ns m most L a9 rows words a6 (.va it) (.va (.int kd)) d e f (by omega) (by omega)
  exact⟨m,_,_,_,_,_,_,_,_,_,h1,h2,⟨by simp,_,rfl⟩,by split<;>simp,by split<;>simp,G.more r,e1⟩
 have hLi:(L:Int).toNat=L:=by simp
 have hLb:(-4611686018427387904:Int)<=L/\(L:Int)<4611686018427387904:=by omega
 have fo:kd=0∨kd=1∨kd=2∨kd=3∨(4<=kd/\kd<=5):=by omega
 rcases fo with h|h|h|h|h
 ·subst h
  obtain⟨ws,h1,h2,h3⟩:=zJJ ns words hl G.wn (rngD 0 L) (n+1) [] (by rw[hrl];omega) (by rw[hrl];simp;omega)
  have r:PR L kds (.tup [.str "gather",.tup (ws.map .int)]) .p:= .gather (by rw[h1,hrl]) fun x hx=>G.w x (h2 x hx)
  obtain⟨n',af,a7,a8,ae,b',c',d',e',f',g1,g2,g3,g4,g5,g6,g7⟩:=fin r (n+1+L) d e (by omega) (by omega)
  refine⟨n',af,a7,a8,ae,b',c',d',e',f',g1,g2,g3,g4,g5,g6,?_⟩
  rw[<- g7]
  simp only[De,hrl] at h3
  change sSeq _ (sSeq _ zEW) _=_
  simp -implicitDefEqProofs [stP,d0,hLb,hLi,zBR,h3,bw]
 ·subst h
  obtain⟨ws,h1,h2,h3⟩:=zH6 ns (2*L) hl (by omega) (zAE 3 [1] zAM (aE (fV 0) (aO 1 (aE (f2 zE6 (fC (.int 2)) (fV 2)) aNil)))) .no [.va (.int L)] 3 rfl (fun m d hm=>by simp[cMul,zBV ns m (2*(L:Int)) hl (by omega) (by omega)]) (rngD 0 L) (n+1) [] (by rw[hrl];omega) (by rw[hrl];simp;omega)
  obtain⟨y,hy,ey⟩:=zD5 ns (n+1+L) (a6.map .int) hl (by omega) (by simpa using G.pn)
  obtain⟨p,hp',rfl⟩:=Cd.mp hy
  obtain⟨z,hz,ez⟩:=zD5 ns (n+1+L+1) (a6.map .int) hl (by omega) (by simpa using G.pn)
  obtain⟨q,hq',rfl⟩:=Cd.mp hz
  have r:PR L kds (.tup [.str "shuffle",.int p,.int q,.tup (ws.map .int)]) .p:= .shuf (G.p p hp') (G.p q hq') (by rw[h1,hrl]) fun x hx=>by have:=h2 x hx;omega
  obtain⟨n',af,a7,a8,ae,b',c',d',e',f',g1,g2,g3,g4,g5,g6,g7⟩:=fin r (n+1+L+2) (.va (.tup (ws.map .int))) e (by omega) (by omega)
  refine⟨n',af,a7,a8,ae,b',c',d',e',f',g1,g2,g3,g4,g5,g6,?_⟩
  rw[<- g7]
  simp only[De,hrl,E1] at h3
  change sSeq _ (sSeq _ zEW) _=_
  simp -implicitDefEqProofs [stP,d0,hLb,hLi,zBR,h3,bw,ey,ez,Dat.hard]
 ·subst h
  obtain⟨y,hy,ey⟩:=zD5 ns (n+1) (a6.map .int) hl (by omega) (by simpa using G.pn)
  obtain⟨p,hp',rfl⟩:=Cd.mp hy
  have d2:=zBV ns (n+2) L hl (by omega) (by omega)
  have r:PR L kds (.tup [.str "lane",.int p,.int (drw ns (n+2) L)]) .w:= .lane (G.p p hp') (zG7 ns (n+2) (by omega)) (zH3 ns (n+2) (by omega))
  obtain⟨n',af,a7,a8,ae,b',c',d',e',f',g1,g2,g3,g4,g5,g6,g7⟩:=fin r (n+3) d e (by omega) (by omega)
  refine⟨n',af,a7,a8,ae,b',c',d',e',f',g1,g2,g3,g4,g5,g6,?_⟩
  rw[<- g7]
  change sSeq _ (sSeq _ zEW) _=_
  simp -implicitDefEqProofs [stP,d0,bw,ey,d2,Dat.hard]
 ·subst h
  obtain⟨row,m,sn,m1,m2,_,hok,er⟩:=zRV ns (n+1) words (.dct [] []) a9 hl (by omega) ⟨[],[],rfl,rfl,Ka,D3 _⟩ hr hr2
  have r:PR L kds row (mk1 .w row):= .nar (hok.imp G.w)
  obtain⟨n',af,a7,a8,ae,b',c',d',e',f',g1,g2,g3,g4,g5,g6,g7⟩:=fin r m d (.va row) (by omega) (by omega)
  refine⟨n',af,a7,a8,ae,b',c',d',e',f',g1,g2,g3,g4,g5,g6,?_⟩
  rw[<- g7]
  change sSeq _ (sSeq _ zEW) _=_
  simp -implicitDefEqProofs [stP,d0,bw,er,hok.hard]
 ·obtain ⟨row,m,sn,m1,m2,_,hok,er⟩ := zRV ns (n + 1) a6 (.dct [] []) a9 hl (by omega) ⟨[],[],rfl,rfl,Ka,D3 _⟩ hr hr2
  have n0: ¬kd=0:=by omega
  have n1: ¬kd=1:=by omega
  have n2: ¬kd=2:=by omega
  have n3: ¬kd=3:=by omega
  by_cases iw: ∃v:Int,row= .tup [.str "number",.int v]
  ·obtain⟨v,rfl⟩:=iw
   have r:PR L kds (.tup [.str "number",.int v]) .w:=by
    have:PR L kds (.tup [.str "number",.int v]) (mk1 .w (.tup [.str "number",.int v])):= .nar (.number (hok.num rfl).1 (hok.num rfl).2)
    simpa[mk1,zDP] using this
   obtain⟨n',af,a7,a8,ae,b',c',d',e',f',g1,g2,g3,g4,g5,g6,g7⟩:=fin r m d (.va (.tup [.str "number",.int v])) (by omega) (by omega)
   refine⟨n',af,a7,a8,ae,b',c',d',e',f',g1,g2,g3,g4,g5,g6,?_⟩
   rw[<- g7]
   have hh:=hok.hard
   change sSeq _ (sSeq _ zEW) _=_
   simp -implicitDefEqProofs [stP,d0,n0,n1,n2,n3,bw,er,hh]
  ·obtain ⟨ds,rfl⟩ : ∃ ds,row = .tup ds := by cases hok <;> exact ⟨_,rfl⟩
   have r:PR L kds (.tup (.str "wide"::ds)) (mk1 .p (.tup ds)):= .wid (hok.imp G.p) fun v hv=>iw ⟨v,by rw[hv]⟩
   obtain⟨n',af,a7,a8,ae,b',c',d',e',f',g1,g2,g3,g4,g5,g6,g7⟩:=fin r m d (.va (.tup ds)) (by omega) (by omega)
   refine⟨n',af,a7,a8,ae,b',c',d',e',f',g1,g2,g3,g4,g5,g6,?_⟩
   rw[<- g7]
   have hh:=hok.hard
   have hhd: ∃(x:String) (t:List Dat),ds= .str x::t/\x≠ "number" /\t.length<=3:=by
    cases hok with
    |number=>exact absurd ⟨_,rfl⟩ iw
    |two hx _ _=>
     simp only[Ac,Ak,or_false] at hx
     rcases hx with rfl|rfl|rfl|rfl|rfl|rfl|rfl<;>exact⟨_,_,rfl,by decide,by simp⟩
    |_=>exact⟨_,_,rfl,by decide,by simp⟩
   obtain⟨x,t,rfl,hx,ht⟩:=hhd
   have ht':1+(t.length+1)<=16777216:=by omega
   change sSeq _ (sSeq _ zEW) _=_
   simp -implicitDefEqProofs [stP,d0,n0,n1,n2,n3,bw,er,hh,hx,ht']
theorem zOF(ns:List Int)(most a9:Int){L:Nat}(hl:ns.length<=63)(hL:2<=L)(hL4:L<=4)(hr:0<a9)(hr2:a9<=64):
  ∀(its:List Dat) {rows:List Dat} {words a6:List Int} {kds:List Kd} (G:GI L rows words a6 kds) (n:Nat) (a b c d e f:Sl),n+20*its.length<600000->words.length+its.length<900->a6.length+its.length<900->rows.length+its.length<900→
  ∃n' af a7 a8 ae a' b' c' d' e' f',n<=n'/\n'<=n+20*its.length/\(af.length=rows.length+its.length/\ ∃k,ae=kds++k)/\GI L af a7 a8 ae∧
   forV (gN 8) zCV its (stP ns n most L a9 rows words a6 a b c d e f)=some (.nx (stP ns n' most L a9 af a7 a8 a' b' c' d' e' f'))
 |[],rows,words,a6,kds,G,n,a,b,c,d,e,f,_,_,_,_=>⟨n,rows,words,a6,kds,a,b,c,d,e,f,by omega,by omega,⟨by simp,[],by simp⟩,G,rfl⟩
 |it::its,rows,words,a6,kds,G,n,a,b,c,d,e,f,h1,h2,h3,h4=>by
  simp only[Ci] at h1 h2 h3 h4
  obtain⟨n1,oj,mx,my,on,b1,c1,d1,e1,f1,g1,g2,⟨g3,k1,hk1⟩,g4,g5,G1,e0⟩:=zT4 G ns n most a9 a b c d e f hl (by omega) hL hL4 hr hr2 (by omega) (by omega) (by omega) it
  obtain⟨n',af,a7,a8,ae,a',b',c',d',e',f',q1,q2,⟨q3,k2,hk2⟩,q4,q5⟩:=zOF ns most a9 hl hL hL4 hr hr2 its G1 n1 (.va it) b1 c1 d1 e1 f1 (by omega) (by omega) (by omega) (by omega)
  refine⟨n',af,a7,a8,ae,a',b',c',d',e',f',by omega,by simp;omega,⟨by simp;omega,k1::k2,by rw[hk2,hk1];simp⟩,q4,?_⟩
  have hs:(stP ns n most L a9 rows words a6 a b c d e f).set 8 (.va it)=stP ns n most L a9 rows words a6 (.va it) b c d e f:=rfl
  simp only[zHW,gN_e,hs,zMB,e0,zNU,q5]
theorem zLA(k:Nat):(rngD 0 k).length=k:=by simp[rngD]
theorem zTI(ns:List Int)(n:Nat)(hl:ns.length<=63)(hn:n<1000): ∃(L n':Nat) (sure:Int) (rows:List Dat) (kds:List Kd),2<=L/\L<=4/\0<=sure/\sure<=64/\rows.length<=30/\n'<=2000/\(∃kt,kds= .w:: .p::kt)/\PRs L [] rows kds∧
  zBM [Scp ns,Twn n,.int 9]=some (.tup [.int L,.int sure,.tup rows],[Twn n']):=by
 obtain⟨y,hy,ey⟩:=zD5 ns n [.int 2,.int 3,.int 4] hl (by omega) (by simp)
 obtain⟨L,rfl,hL2,hL4⟩: ∃L:Nat,y= .int L/\2<=L/\L<=4:=by
  simp only[Ac,Ak,or_false] at hy
  rcases hy with h|h|h
  ·exact ⟨2,h,by omega,by omega⟩
  ·exact ⟨3,h,by omega,by omega⟩
  ·exact ⟨4,h,by omega,by omega⟩
 obtain⟨z,hz,ez⟩:=zD5 ns (n+1) [.int 4,.int 9,.int 64] hl (by omega) (by simp)
 obtain⟨a9,rfl,hr1,hr2⟩: ∃r:Int,z= .int r/\0<r/\r<=64:=by
  simp only[Ac,Ak,or_false] at hz
  rcases hz with h|h|h<;>exact⟨_,h,by omega,by omega⟩
 have d2:=zBV ns (n+2) 1000 hl (by omega) (by decide)
 have hrl:=zLA L
 obtain⟨ws,h1,h2,h3⟩:=zH6 ns 1000 hl (by omega) (zAE 3 [1] zAM (aE (fV 0) (aO 1 (aE (fC (.int 1000)) aNil)))) .no [] 2 rfl (fun m d hm=>by simp[zBV ns m 1000 hl (by omega) (by omega)]) (rngD 0 L) (n+3) [] (by rw[hrl];omega) (by rw[hrl];simp;omega)
 simp only[De,hrl,Bp] at h3
 have d5:=zBV ns (n+3+L) 10 hl (by omega) (by decide)
 have q0:=zG7 ns (n+3+L) (b:=10) (by decide)
 have q1:=zH3 ns (n+3+L) (b:=10) (by decide)
 generalize drw ns (n+3+L) 10=cnt at*
 have G:GI L [.tup [.str "number",.int (drw ns (n+2) 1000)],.tup [.str "wide",.str "number",.tup (ws.map .int)]] [0] [1] [.w,.p]:=by
  have a0:=zG7 ns (n+2) (b:=1000) (by decide)
  have a1:=zH3 ns (n+2) (b:=1000) (by decide)
  have r1:PR L [] (.tup [.str "number",.int (drw ns (n+2) 1000)]) .w:=by
   have:PR L [] (.tup [.str "number",.int (drw ns (n+2) 1000)]) (mk1 .w (.tup [.str "number",.int (drw ns (n+2) 1000)])):= .nar (.number a0 (by omega))
   simpa[mk1,zDP] using this
  refine⟨.cons r1 (.cons (.wnum (by rw[h1,hrl]) fun w hw=> ?_) .nil),fun a ha=> ?_,fun a ha=> ?_,by simp,by simp⟩
  ·have:=h2 w hw
   omega
  ·rw[Af.mp ha];exact⟨by decide,rfl⟩
  ·rw[Af.mp ha];exact⟨by decide,rfl⟩
 have hcl:=zLA cnt.toNat
 obtain⟨n',af,a7,a8,ae,a',b',c',d',e',f',g1,g2,⟨g3,kt,hkt⟩,g4,g5⟩:=zOF ns 9 a9 hl hL2 hL4 hr1 hr2 (rngD 0 cnt.toNat) G (n+4+L) .no .no .no .no .no .no (by rw[hcl];omega) (by rw[hcl];simp;omega) (by rw[hcl];simp;omega) (by rw[hcl];simp;omega)
 rw[hcl] at g2 g3
 simp only[Ci,Gz] at g3
 have d9:=zBV ns n' (a9+1) hl (by omega) (by omega)
 refine⟨L,n'+1,drw ns n' (a9+1),af,ae,hL2,hL4,zG7 ns n' (by omega),?_,by omega,by omega,⟨kt,hkt⟩,g4.rows,?_⟩
 ·have := zH3 ns n' (b := a9 + 1) (by omega)
  omega
 ·have hLi : (L : Int).toNat = L := by simp
  have hLb:(-4611686018427387904:Int)<=L/\(L:Int)<4611686018427387904:=by omega
  have hcb:(-4611686018427387904:Int)<=cnt/\cnt<4611686018427387904:=by omega
  simp only[stP,B9,Dt] at g5
  rw[show n+4+L=n+3+L+1 by omega] at g5
  unfold zBM
  rw[zB0,zDQ.eq_1]
  simp -implicitDefEqProofs [envD,ey,ez,d2,hLb,hLi,zBR,h3,d5,hcb,g5,d9]
@[simp] theorem zZM(n lo hi:Int):zAO [.int n,.int lo,.int hi]=some (.bl (decide (lo<=n) && decide (n<=hi)),[]):=by
 unfold zAO
 rw[zB0]
 unfold zFP
 simp[envD]
 by_cases h:lo<=n<;>simp[h]
theorem zO3{x:String}(h:x∈["over","plus","minus","times","least","most","less"]):zB5 [.str x]=some (.tup [.str "row",.str "row"],[]):=by
 simp only[Ac,Ak,or_false] at h
 rcases h with rfl|rfl|rfl|rfl|rfl|rfl|rfl<;>kernel_rfl
@[simp] theorem yBB:zB5 [.str "number"]=some (.tup [.str "word"],[]):=by kernel_rfl
@[simp] theorem yBA:zB5 [.str "pick"]=some (.tup [.str "row",.str "row",.str "row"],[]):=by kernel_rfl
@[simp] theorem yB9:zB5 [.str "load"]=some (.tup [.str "place"],[]):=by kernel_rfl
@[simp] theorem yB8:zB5 [.str "take"]=some (.tup [.str "place",.str "row",.str "row"],[]):=by kernel_rfl
@[simp] theorem yB7:zB5 [.str "store"]=some (.tup [.str "place",.str "row"],[]):=by kernel_rfl
@[simp] theorem yB6:zB5 [.str "put"]=some (.tup [.str "place",.str "row",.str "row"],[]):=by kernel_rfl
def Ab(able:List Bool)(a:Int):Prop:=0<=a/\able[a.toNat]? =some true
theorem zGV{able:List Bool}{a:Int}(h:Ab able a):zAJ [.int a,.lst (able.map .bl)]=some (.bl true,[]):=by
 have hlt:=(A6.mp h.2).1
 have h0:=h.1
 have h1:a<=(able.length:Int) - 1:=by omega
 have h2:atI (able.map Dat.bl) a=some (.bl true):=by
  rw[zHZ h0 (by simp;omega)]
  simp[h.2]
 unfold zAJ
 rw[zB0]
 unfold zDE
 simp[envD,h0,h1,h2]
theorem zCF{able:List Bool}{a:Int}(h:Ab able a):zDZ [.str "row",.int a,.lst (able.map .bl)]=some (.bl true,[]):=by
 unfold zDZ
 rw[zB0]
 unfold zH1
 simp[envD,zGV h]
theorem zOY{d:Dat}{a:Int}(h:0<=a)(h':a<=999):zDZ [.str "word",.int a,d]=some (.bl true,[]):=by
 unfold zDZ
 rw[zB0]
 unfold zH1
 simp[envD,zB6,h,h']
theorem zEG{d:Dat}{a:Int}(h:0<=a)(h':a<=63):zDZ [.str "place",.int a,d]=some (.bl true,[]):=by
 unfold zDZ
 rw[zB0]
 unfold zH1
 simp[envD,zD1,h,h']
@[simp] theorem yFB:blsD []=some []:=(rfl)
@[simp] theorem yFC{b:Bool}{ds:List Dat}:blsD (.bl b::ds)=(blsD ds).map fun ks=>b::ks:=(rfl)
@[simp] theorem yC0{g:List Bool->Bool}{ds:List Dat}:zU2 g (.lst ds)=(blsD ds).map fun ks=> .bl (g ks):=(rfl)
@[simp] theorem zZV{ds:List Dat}:zipD ds []=[]:=by cases ds<;>rfl
@[simp] theorem yD2{d e:Dat}{ds es:List Dat}:zipD (d::ds) (e::es)= .tup [d,e]::zipD ds es:=(rfl)
theorem zLL{able:List Bool}{row:Dat}(h:zD9 (Ab able) row):zCG [row,.lst (able.map .bl)]=some (.bl true,[]):=by
 unfold zCG
 rw[zB0]
 unfold zF2
 cases h with
 |number a b=>simp[envD,zBR,zOY a b]
 |two hx a b=>simp[envD,zBR,zO3 hx,zCF a,zCF b]
 |pick a b c=>simp[envD,zBR,zCF a,zCF b,zCF c]
 |load a b=>simp[envD,zBR,zEG a b]
 |take a b c d=>simp[envD,zBR,zEG a b,zCF c,zCF d]
 |store a b c=>simp[envD,zBR,zEG a b,zCF c]
 |put a b c d=>simp[envD,zBR,zEG a b,zCF c,zCF d]
theorem zGH(nn:Nat)(fe:VF)(δ:Ev)(f:Dat->Dat)(hδ:δ.length=nn): ∀(ds acc:List Dat),(∀d∈ds,fe (δ++[Sl.va d])=some (f d,δ++[Sl.va d]))->acc.length+ds.length<16777216->zCN nn 1 (gN nn) bYes fe ds acc δ=some (acc++ds.map f,δ)
 | [],acc,_,_ => by simp
 | d :: ds,acc,h,hl => by
  have iu:(δ++[Sl.no]).set nn (.va d)=δ++[Sl.va d]:=by
   rw[Hg _ _ (by omega)]
   simp[hδ]
  have b7:(δ++[Sl.va d]).take nn=δ:=by rw[Dj (by omega),Be (by omega)]
  have bo:acc.length<16777216:=by simp at hl;omega
  have ih:=zGH nn fe δ f hδ ds (acc++[f d]) (fun e he=>h e (Am _ he)) (by simp at hl⊢;omega)
  simp only[zPC,zYJ,gN_e,iu,zWQ,zSJ,zWP,h d Aw,zWO,if_pos bo,b7,ih]
  simp
theorem zF9{α:Type}: ∀ds:List α,blsD (ds.map fun _=> .bl true)=some (ds.map fun _=>true)
 |[]=>rfl
 |d::ds=>by simp[zF9 ds]
@[simp] theorem zZF{α β:Type}(f:α->β)(ds:List α):blsD (ds.map ((fun _=>Dat.bl true)∘f))=some (ds.map fun _=>true):=zF9 ds
@[simp] theorem zZP{ds:List Dat}{L:Int}:zAV [.tup ds,.int L]=some (.bl (decide ((ds.length:Int)=L)),[]):=by
 unfold zAV
 rw[zB0]
 unfold zCE
 simp[envD]
theorem zMK{able:List Bool}{ds:List Dat}{L:Int}(h:zD9 (Ab able) (.tup ds))(hn: ∀n,ds≠[.str "number",.int n]):zC2 [.tup ds,.int L,.lst (able.map .bl)]=some (.bl true,[]):=by
 have e:=zLL h
 have hd: ∃(x:String) (t:List Dat),ds= .str x::t/\x≠ "number":=by
  generalize hr:Dat.tup ds=row at h
  cases h with
  |number=>cases hr;exact absurd rfl (hn _)
  |two hx _ _=>
   simp only[Ac,Ak,or_false] at hx
   cases hr
   rcases hx with rfl|rfl|rfl|rfl|rfl|rfl|rfl<;>exact⟨_,_,rfl,by decide⟩
  |_=>cases hr;exact⟨_,_,rfl,by decide⟩
 obtain⟨x,t,rfl,hx⟩:=hd
 unfold zC2
 rw[zB0]
 unfold zDF
 by_cases hl:((t.length:Int)+1=2)
 ·simp[envD,hl,hx,e]
 ·simp[envD,hl,e]
theorem zML{d:Dat}{ws:List Int}{L:Nat}(h:ws.length=L)(hL:L<=4)(hw: ∀w∈ws,0<=w/\w<=999):zC2 [.tup [.str "number",.tup (ws.map .int)],.int L,d]=some (.bl true,[]):=by
 have e:=zGH 0 (zAE 3 [] zAO (aE (fV 0) (aE (fC (.int 0)) (aE (fC zB6) aNil)))) [] (fun _=> .bl true) rfl (ws.map .int) [] (fun x hx=>by
  obtain⟨w,hw',rfl⟩:=Cd.mp hx
  have:=hw w hw'
  simp[zB6,this.1,this.2]) (by simp;omega)
 unfold zC2
 rw[zB0]
 unfold zDF
 simp only[De] at e
 simp[envD,h,zBR,e,zF9]
theorem zKN{able:List Bool}{rs:List Int}{L:Nat}(h:rs.length=L)(hL:L<=4)(hr: ∀r∈rs,Ab able r):zC4 [.tup [.tup (rs.map .int)],.int L,.lst (able.map .bl)]=some (.bl true,[]):=by
 have e:=zGH 1 (zAE 2 [] zAJ (aE (fV 1) (aE (fV 0) aNil))) [.va (.lst (able.map .bl))] (fun _=> .bl true) rfl (rs.map .int) [] (fun x hx=>by
  obtain⟨w,hw',rfl⟩:=Cd.mp hx
  simp[zGV (hr w hw')]) (by simp;omega)
 unfold zC4
 rw[zB0]
 unfold zDS
 simp only[De] at e
 simp[envD,h,zBR,e,zF9]
theorem zOO{able:List Bool}{p q:Int}{ps:List Int}{L:Nat}(hp:Ab able p)(hq:Ab able q)(h:ps.length=L)(hL:L<=4)(hr: ∀x∈ps,0<=x/\x<2*L):zBX [.tup [.int p,.int q,.tup (ps.map .int)],.int L,.lst (able.map .bl)]=some (.bl true,[]):=by
 have e:=zGH 1 (zAE 3 [] zAO (aE (fV 1) (aE (fC (.int 0)) (aE (f2 oSub (f2 zE6 (fC (.int 2)) (fV 0)) (fC (.int 1))) aNil)))) [.va (.int L)] (fun _=> .bl true) rfl (ps.map .int) [] (fun x hx=>by
  obtain⟨w,hw',rfl⟩:=Cd.mp hx
  have h1:=(hr w hw').1
  have h2:w<=2*(L:Int) - 1:=by have:=(hr w hw').2;omega
  simp[cMul,h1,h2]) (by simp;omega)
 unfold zBX
 rw[zB0]
 unfold zCZ
 simp only[De] at e
 simp[envD,h,zBR,e,zF9,zGV hp,zGV hq]
theorem zOP{able:List Bool}{p k:Int}{L:Nat}(hp:Ab able p)(h0:0<=k)(h1:k<L):zCX [.tup [.int p,.int k],.int L,.lst (able.map .bl)]=some (.bl true,[]):=by
 have h2:k<=(L:Int) - 1:=by omega
 unfold zCX
 rw[zB0]
 unfold zF3
 simp[envD,zGV hp,h0,h2]
noncomputable def Wb(kds:List Kd):List Bool:=kds.map fun k=>decide (k= .w)
noncomputable def Pb(kds:List Kd):List Bool:=kds.map fun k=>decide (k= .p)
theorem Nm.w{kds:List Kd}{a:Int}(h:Nm kds .w a):Ab (Wb kds) a:=⟨h.1,by simp[Wb,h.2]⟩
theorem Nm.p{kds:List Kd}{a:Int}(h:Nm kds .p a):Ab (Pb kds) a:=⟨h.1,by simp[Pb,h.2]⟩
theorem zR7{M:Int->Prop}{row:Dat}(h:zD9 M row): ∃(x:String) (t:List Dat),row= .tup (.str x::t)/\x∉["wide","gather","shuffle","lane"]:=by
 cases h with
 |two hx _ _=>
  simp only[Ac,Ak,or_false] at hx
  rcases hx with rfl|rfl|rfl|rfl|rfl|rfl|rfl<;>exact⟨_,_,rfl,by decide⟩
 |_=>exact⟨_,_,rfl,by decide⟩
theorem zHL{L:Nat}{kds:List Kd}{row:Dat}{k:Kd}(r:PR L kds row k)(hL:L<=4):zAN [row,.int L,.lst ((Wb kds).map .bl),.lst ((Pb kds).map .bl)]=some (.bl true,[]):=by
 unfold zAN
 rw[zB0]
 unfold zBN
 cases r with
 |nar h=>
  have e:=zLL (h.imp fun a z=>z.w)
  obtain⟨x,t,rfl,hx⟩:=zR7 h
  simp only[Ac,Ak,or_false,not_or] at hx
  have hz: ¬((t.length:Int)+1=0):=by omega
  simp[envD,hx,hz,e]
 | @wid ds h hn=>
  have e:=zMK (L:=L) (h.imp fun a z=>z.p) hn
  have hz: ¬((ds.length:Int)+1=0):=by omega
  simp[envD,hz,e]
 |wnum h hw=>simp[envD,zML h hL hw]
 |gather h hr=>simp[envD,zKN h hL fun r z=>(hr r z).w]
 |shuf hp hq h hr=>simp[envD,zOO hp.p hq.p h hL hr]
 |lane hp h0 h1=>simp[envD,zOP hp.p h0 h1]
noncomputable def zFL:Kd->Dat
 | .w=> .str "word"
 | .p=> .str "pack"
 | .n=> .non
theorem zOI{L:Nat}{kds:List Kd}{row:Dat}{k:Kd}(r:PR L kds row k):zCW [row]=some (zFL k,[]):=by
 cases r with
 | nar h => cases h with
  |two hx _ _=>
   simp only[Ac,Ak,or_false] at hx
   rcases hx with rfl|rfl|rfl|rfl|rfl|rfl|rfl<;>kernel_rfl
  |_=>kernel_rfl
 | wid h hn => cases h with
  |two hx _ _=>
   simp only[Ac,Ak,or_false] at hx
   rcases hx with rfl|rfl|rfl|rfl|rfl|rfl|rfl<;>kernel_rfl
  |_=>kernel_rfl
 |_=>kernel_rfl
@[simp] theorem yF7{x:Str}:eqD .non (.str x)=false:=(rfl)
theorem zYP(k:Kd):oEq (zFL k) (.str "word")=some (.bl (decide (k= .w))):=by
 cases k
 ·simp[zFL]
 ·simp[zFL]
 ·simp[zFL,oEq]
theorem zYQ(k:Kd):oEq (zFL k) (.str "pack")=some (.bl (decide (k= .p))):=by
 cases k
 ·simp[zFL]
 ·simp[zFL]
 ·simp[zFL,oEq]
theorem zIV{L:Nat}(hL:L<=4)(a:Dat): ∀{kds ae:List Kd} {rows:List Dat} (h:PRs L kds rows ae) (s t:Sl),kds.length+rows.length<1000-> ∃s' t',forV (gN 4) zAF rows [.va a,.va (.int L),.ow (.lst ((Wb kds).map .bl)),.ow (.lst ((Pb kds).map .bl)),s,t]=
  some (.nx [.va a,.va (.int L),.ow (.lst ((Wb ae).map .bl)),.ow (.lst ((Pb ae).map .bl)),s',t'])
 |_,_,[],.nil,s,t,_=>⟨s,t,rfl⟩
 |kds,_,row::rows,.cons (k:=k) r h,s,t,hl=>by
  obtain⟨s',t',e⟩:=zIV hL a h (.va row) (.va (zFL k)) (by simp at hl⊢;omega)
  refine⟨s',t',?_⟩
  have h1:kds.length<16777216:=by omega
  have w1:Wb (kds++[k])=Wb kds++[decide (k= .w)]:=by simp[Wb]
  have p1:Pb (kds++[k])=Pb kds++[decide (k= .p)]:=by simp[Pb]
  rw[w1,p1] at e
  have lw:(Wb kds).length=kds.length:=by simp[Wb]
  have lp:(Pb kds).length=kds.length:=by simp[Pb]
  have pr:=zHL r hL
  simp only[K6,B9,Dt] at e
  have body:zAF [.va a,.va (.int L),.ow (.lst ((Wb kds).map .bl)),.ow (.lst ((Pb kds).map .bl)),.va row,t]=some (.nx [.va a,.va (.int L),.ow (.lst ((Wb kds).map .bl++[.bl (decide (k= .w))])),.ow (.lst ((Pb kds).map .bl++[.bl (decide (k= .p))])),.va row,.va (zFL k)]):=by simp[zAF,pr,Dat.hard,zOI r,zYP,zYQ,lw,lp,h1]
  rw[zHW,gN_e,zMB]
  show qf2 _ _ _ (zAF [.va a,.va (.int L),.ow (.lst ((Wb kds).map .bl)),.ow (.lst ((Pb kds).map .bl)),.va row,t])=_
  rw[body,zNU]
  exact e
theorem zF0{L:Nat}{sure:Int}{rows:List Dat}{kds:List Kd}(h:PRs L [] rows kds)(hL2:2<=L)(hL:L<=4)(h0:0<=sure)(h1:sure<=64)(hr:rows.length<=400):zAB [.tup [.int L,.int sure,.tup rows]]=some (.bl true,[]):=by
 obtain⟨s',t',e⟩:=zIV hL (.tup rows) h .no .no (by simp;omega)
 have e2:zAU [.tup rows,.int L]=some (.bl true,[]):=by
  unfold zAU
  rw[zB0,zBQ.eq_1]
  simp only[Wb,Pb,Dt] at e
  simp[envD,e]
 have e3:zC5 [.int L]=some (.bl true,[]):=by
  have a1:(2:Int)<=L:=by omega
  have a2:(L:Int)<=4:=by omega
  unfold zC5
  rw[zB0]
  unfold zEF
  simp[envD,zCO,zD2,a1,a2]
 have h2: ¬(400:Int)<rows.length:=by omega
 unfold zAB
 rw[zB0]
 unfold zD0
 simp[envD,e3,zDT,zBL,h0,h1,h2,e2]
noncomputable def isNo:Option (Dat×List Dat)->Bool
 |some (.bl false,[])=>true
 |_=>false
theorem zE7{r:Option (Dat×List Dat)}(h:isNo r=true):r=some (.bl false,[]):=by
 unfold isNo at h
 split at h
 ·rfl
 ·cases h
theorem zOE{able:List Bool}{a:Int}(h0:0<=a)(h:able[a.toNat]? =some false):zAJ [.int a,.lst (able.map .bl)]=some (.bl false,[]):=by
 have hlt:=(A6.mp h).1
 have h1:a<=(able.length:Int) - 1:=by omega
 have h2:atI (able.map Dat.bl) a=some (.bl false):=by
  rw[zHZ h0 (by simp;omega)]
  simp[h]
 unfold zAJ
 rw[zB0]
 unfold zDE
 simp[envD,h0,h1,h2]
theorem zU4{able:List Bool}{a:Int}(h:(able.length:Int)<=a):zAJ [.int a,.lst (able.map .bl)]=some (.bl false,[]):=by
 have h1: ¬a<=(able.length:Int) - 1:=by omega
 have h2:0<=a:=by omega
 unfold zAJ
 rw[zB0]
 unfold zDE
 simp[envD,h1,h2]
noncomputable abbrev rp(k:Nat)(d:Dat):Dat:= .tup (Aa k d)
noncomputable def badS(L:Nat)(ar:Int):List Dat:=[.tup [.str "gather",rp L (.int 1)],.tup [.str "lane",.int 0,.int 0],.tup [.str "lane",.int 1,.int L],.tup [.str "shuffle",.int 1,.int 1,rp (L - 1) (.int 0)],
 .tup [.str "shuffle",.int 1,.int 1,rp L (.int (2*L))],.tup [.str "shuffle",.int 0,.int 1,rp L (.int 0)],.tup [.str "wide",.str "plus",.int 1,.int 0],.tup [.str "wide",.str "store",.int 0,.int 0],
 .tup [.str "plus",.int 0,.int 1],.tup [.str "store",.int 0,.int 1],.tup [.str "lane",.int 1,.bl true],.tup [.str "gather",.tup (Aa (L - 1) (.int 0)++[.int ar])]]
noncomputable def badK(L:Nat):List Dat:=[.tup [.str "gather",rp (L+1) (.int 0)],.tup [.str "gather",.lst (Aa L (.int 0))],
 .tup [.str "wide",.str "number",rp (L+1) (.int 0)],.tup [.str "wide",.str "number",.int 5],.tup [.str "wide",.str "plus",.int 1],.tup [.str "wide",.str "load",.int 64],.tup [.str "wide",.str "halve",.int 1],.tup [.str "wide"],.tup [.int 5,.int 1],
 .tup [.str "wide",.str "lane",.int 1,.int 0],.tup [.str "number",.int 1000],.tup [.str "narrow",.int 0],.tup [],.non,.lst [.str "number",.int 1],.tup [.str "wide",.str "put",.int 0,.int 1],.tup [.str "wide",.str "number",rp L (.int 1000)],
 .tup [.str "shuffle",.int 1,.int 1],.tup [.str "gather"],.tup [.str "lane",.int 1],.tup [.str "wide",.non,.int 1,.int 1]]
theorem zUU(A B:Dat):(badK 2).all (fun r=>isNo (zAN [r,.int 2,A,B]))=true/\(badK 3).all (fun r=>isNo (zAN [r,.int 3,A,B]))=true/\(badK 4).all (fun r=>isNo (zAN [r,.int 4,A,B]))=true:=⟨by kernel_rfl,by kernel_rfl,by kernel_rfl⟩
theorem zO4:zB5 [.str "plus"]=some (.tup [.str "row",.str "row"],[]):=by kernel_rfl
theorem zSL{k:Int}:zAO [.bl true,.int 0,.int k]=some (.bl false,[]):=by kernel_rfl
section
variable{A B:Dat}{ar:Int}(w0:zAJ [.int 0,A]=some (.bl true,[]))(w1:zAJ [.int 1,A]=some (.bl false,[]))(p0:zAJ [.int 0,B]=some (.bl false,[]))(p1:zAJ [.int 1,B]=some (.bl true,[]))(wm:zAJ [.int ar,A]=some (.bl false,[]))
include w0 w1 p0 p1 wm
theorem zUR{L:Nat}(hL:L=2∨L=3∨L=4): ∀r∈badS L ar,zAN [r,.int L,A,B]=some (.bl false,[]):=by
 intro r h
 simp only[badS,Ac,Ak,or_false] at h
 rcases h with rfl|rfl|rfl|rfl|rfl|rfl|rfl|rfl|rfl|rfl|rfl|rfl<;>rcases hL with rfl|rfl|rfl
 all_goals simp[zAN,zBN,zC2,zDF,zC4,zDS,zBX,zCZ,zCX,zF3,zAV,zCE,zCG,zF2,zDZ,zH1,zB0,envD,zBR,zB6,zD1,w0,w1,p0,p1,wm,Aa,cMul,zO4,zSL]
end
theorem PRs.take{L:Nat}{kds ae:List Kd}{rows:List Dat}(h:PRs L kds rows ae): ∀m,m<=rows.length->PRs L kds (rows.take m) (ae.take (kds.length+m)):=by
 induction h with
 | @nil kds=>
  intro m hm
  have:m=0:=by simpa using hm
  subst this
  rw[Nat.add_zero,List.take_length]
  exact .nil
 | @cons kds ae row k rows r h ih=>
  intro m hm
  cases m with
  |zero=>
   have hp:kds<+:ae:=by
    have: ∀{a b:List Kd} {rs:List Dat},PRs L a rs b->a<+:b:=by
     intro a b rs h
     induction h with
     |nil=>exact List.prefix_refl _
     |cons _ _ ih=>exact(Ip _ _).trans ih
    exact(Ip _ _).trans (this h)
   rw[List.take_zero,Nat.add_zero,<- List.prefix_iff_eq_take.mp hp]
   exact .nil
  |succ m=>
   have:=ih m (by simpa using hm)
   rw[Bu,Gy] at this
   rw[E2,show kds.length+(m+1)=kds.length+1+m by omega]
   exact .cons r this
theorem zHK{L:Nat}(hL:L<=4)(a:Dat)(ys:List Dat): ∀{kds ae:List Kd} {rows:List Dat} (h:PRs L kds rows ae) (s t:Sl),kds.length+rows.length<1000-> ∃s' t',forV (gN 4) zAF (rows++ys) [.va a,.va (.int L),.ow (.lst ((Wb kds).map .bl)),.ow (.lst ((Pb kds).map .bl)),s,t]=
  forV (gN 4) zAF ys [.va a,.va (.int L),.ow (.lst ((Wb ae).map .bl)),.ow (.lst ((Pb ae).map .bl)),s',t']
 |_,_,[],.nil,s,t,_=>⟨s,t,rfl⟩
 |kds,_,row::rows,.cons (k:=k) r h,s,t,hl=>by
  obtain⟨s',t',e⟩:=zHK hL a ys h (.va row) (.va (zFL k)) (by simp at hl⊢;omega)
  refine⟨s',t',?_⟩
  have h1:kds.length<16777216:=by omega
  have w1:Wb (kds++[k])=Wb kds++[decide (k= .w)]:=by simp[Wb]
  have p1:Pb (kds++[k])=Pb kds++[decide (k= .p)]:=by simp[Pb]
  rw[w1,p1] at e
  have lw:(Wb kds).length=kds.length:=by simp[Wb]
  have lp:(Pb kds).length=kds.length:=by simp[Pb]
  have pr:=zHL r hL
  simp only[K6,B9,Dt] at e
  have body:zAF [.va a,.va (.int L),.ow (.lst ((Wb kds).map .bl)),.ow (.lst ((Pb kds).map .bl)),.va row,t]=some (.nx [.va a,.va (.int L),.ow (.lst ((Wb kds).map .bl++[.bl (decide (k= .w))])),.ow (.lst ((Pb kds).map .bl++[.bl (decide (k= .p))])),.va row,.va (zFL k)]):=by simp[zAF,pr,Dat.hard,zOI r,zYP,zYQ,lw,lp,h1]
  rw[E1,zHW,gN_e,zMB]
  show qf2 _ _ _ (zAF [.va a,.va (.int L),.ow (.lst ((Wb kds).map .bl)),.ow (.lst ((Pb kds).map .bl)),.va row,t])=_
  rw[body,zNU]
  exact e
theorem zR3{L:Nat}(hL2:2<=L)(hL:L<=4):zC5 [.int L]=some (.bl true,[]):=by
 have a1:(2:Int)<=L:=by omega
 have a2:(L:Int)<=4:=by omega
 unfold zC5
 rw[zB0]
 unfold zEF
 simp[envD,zCO,zD2,a1,a2]
theorem zJB{L:Nat}{sure:Int}{rows:List Dat}{kds:List Kd}{bad:Dat}(h:PRs L [] rows kds)(hL2:2<=L)(hL:L<=4)(h0:0<=sure)(h1:sure<=64)(hr:rows.length<=300)(hb:zAN [bad,.int L,.lst ((Wb kds).map .bl),.lst ((Pb kds).map .bl)]=some (.bl false,[])):zAB [.tup [.int L,.int sure,.tup (rows++[bad])]]=some (.bl false,[]):=by
 obtain⟨s',t',e⟩:=zHK hL (.tup (rows++[bad])) [bad] h .no .no (by simp;omega)
 have body:zAF [.va (.tup (rows++[bad])),.va (.int L),.ow (.lst ((Wb kds).map .bl)),.ow (.lst ((Pb kds).map .bl)),.va bad,t']=some (.rt (.bl false) [.va (.tup (rows++[bad])),.va (.int L),.ow (.lst ((Wb kds).map .bl)),.ow (.lst ((Pb kds).map .bl)),.va bad,t']):=by
  generalize rows++[bad]=z
  simp[zAF,hb,Dat.hard]
 rw[zHW,gN_e,zMB] at e
 have e:forV (gN 4) zAF (rows++[bad]) _=qf2 _ _ _ (zAF [.va (.tup (rows++[bad])),.va (.int L),.ow (.lst ((Wb kds).map .bl)),.ow (.lst ((Pb kds).map .bl)),.va bad,t']):=e
 rw[body,yAX] at e
 have e2:zAU [.tup (rows++[bad]),.int L]=some (.bl false,[]):=by
  unfold zAU
  rw[zB0,zBQ.eq_1]
  simp only[Wb,Pb,Dt] at e
  generalize rows++[bad]=z at*
  simp[envD,e]
 have e3:=zR3 hL2 hL
 have h2: ¬(400:Int)<((rows++[bad]).length:Int):=by simp;omega
 unfold zAB
 rw[zB0]
 unfold zD0
 generalize rows++[bad]=z at*
 simp[envD,e3,zDT,zBL,h0,h1,h2,e2]
theorem zMT:zCC [.exn "NoProgram"]=some (.tup [.str "refused",.int 5],[]):=by kernel_rfl
theorem zSM:zCC [.exn "NoCells"]=some (.tup [.str "refused",.int 1],[]):=by kernel_rfl
theorem zT9{δ:Ev}:qcr δ none=none:=(rfl)
theorem zNV:qRet none=none:=(rfl)
theorem pl1{a:Dat}:zE3 [.d a]=some [a]:=(rfl)
theorem pl2{a b:Dat}:zE3 [.d a,.d b]=some [a,b]:=(rfl)
theorem yCU{p:Dat}(h:zAB [p]=some (.bl false,[]))(c:Dat):zBI [.int 0,p,c]=some (.tup [.str "refused",.int 5],[])/\zBI [.int 1,p,c]=some (.tup [.str "refused",.int 5],[]):=by
 have c1:zDJ [p]=none:=by
  unfold zDJ
  rw[zB0]
  unfold zH2
  simp[envD,h]
  rfl
 have c2:zDG [p]=some ("NoProgram":Str):=by
  unfold zDG runZ zGI
  simp[envD,h,zIf]
 have r1:zBF [p,c]=none:=by
  unfold zBF
  rw[zB0,zCM.eq_1]
  simp[envD,h]
  rfl
 have r2:zBE [p,c]=some ("NoProgram":Str):=by
  unfold zBE runZ zCK
  simp[envD,h,zAlt,zIf]
 constructor
 ·unfold zBI
  rw[zB0]
  unfold zE8
  simp[envD,sTry,zIf,zIL,c1,c2,zMT,zT9,zNV,pl1]
 ·unfold zBI
  rw[zB0]
  unfold zE8
  simp[envD,sTry,zIf,zIL,r1,r2,zMT,zT9,zNV,pl2]
theorem yCV{x r c:Dat}{sure:Int}(h:zAB [.tup [x,.int sure,r]]=some (.bl true,[]))(hc:zBB [c,.int sure]=some (.bl false,[])):zBI [.int 1,.tup [x,.int sure,r],c]=some (.tup [.str "refused",.int 1],[]):=by
 have r1:zBF [.tup [x,.int sure,r],c]=none:=by
  unfold zBF
  rw[zB0,zCM.eq_1]
  simp[envD,h,hc]
  rfl
 have r2:zBE [.tup [x,.int sure,r],c]=some ("NoCells":Str):=by
  unfold zBE runZ zCK
  simp[envD,h,hc,zAlt,zIf,zSeq,zNo]
 unfold zBI
 rw[zB0]
 unfold zE8
 simp[envD,sTry,zIf,zIL,r1,r2,zSM,zT9,zNV,pl2]
theorem rep1(k:Nat)(d:Dat):repN k [d]=Aa k d:=by
 unfold repN
 induction k with
 |zero=>rfl
 |succ k ih=>rw[Bo,Dd,ih,Bo];rfl
noncomputable def badI:List Nat:=[12,13,0,1,2,3,4,5,14,15,6,16,17,7,18,19,20,21,8,9,22,23,24,25,26,27,28,10,11,29,30,31,32]
noncomputable def badL(L:Nat)(ar:Int):List Dat:=badI.map fun i=>(badS L ar++badK L).getD i .non
theorem zUT{L:Nat}(hL:L=2∨L=3∨L=4)(ar:Int):zC1 [.int L,.int ar]=some (.lst (badL L ar),[]):=by
 rcases hL with rfl|rfl|rfl
 ·kernel_rfl
 ·kernel_rfl
 ·kernel_rfl
theorem zRF{L:Nat}{ar:Int}{x:Dat}(h:x∈badL L ar):x∈badS L ar∨x∈badK L:=by
 obtain⟨i,hi,rfl⟩:=Cd.mp h
 have h33:i<(badS L ar++badK L).length:=of_decide_eq_true (B0.mp (show badI.all (fun i=>decide (i<33))=true by decide) i hi)
 rw[List.getD_eq_getElem?_getD,Dc h33,Option.getD_some]
 exact Bg.mp (Jk h33)
theorem zZG{L:Nat}(hL:L=2∨L=3∨L=4){kt:List Kd}{ar:Int}(hm:(kt.length:Int)+2<=ar){x:Dat}(h:x∈badL L ar):zAN [x,.int L,.lst ((Wb (.w:: .p::kt)).map .bl),.lst ((Pb (.w:: .p::kt)).map .bl)]=some (.bl false,[]):=by
 have w0:zAJ [.int 0,.lst ((Wb (.w:: .p::kt)).map .bl)]=some (.bl true,[]):=zGV ⟨by decide,rfl⟩
 have w1:zAJ [.int 1,.lst ((Wb (.w:: .p::kt)).map .bl)]=some (.bl false,[]):=zOE (by decide) rfl
 have p0:zAJ [.int 0,.lst ((Pb (.w:: .p::kt)).map .bl)]=some (.bl false,[]):=zOE (by decide) rfl
 have p1:zAJ [.int 1,.lst ((Pb (.w:: .p::kt)).map .bl)]=some (.bl true,[]):=zGV ⟨by decide,rfl⟩
 have wm:zAJ [.int ar,.lst ((Wb (.w:: .p::kt)).map .bl)]=some (.bl false,[]):=zU4 (by simp[Wb];omega)
 rcases zRF h with h|h
 ·exact zUR w0 w1 p0 p1 wm hL x h
 ·obtain⟨k2,k3,k4⟩:=zUU (.lst ((Wb (.w:: .p::kt)).map .bl)) (.lst ((Pb (.w:: .p::kt)).map .bl))
  rcases hL with rfl|rfl|rfl
  ·exact zE7 (B0.mp k2 x h)
  ·exact zE7 (B0.mp k3 x h)
  ·exact zE7 (B0.mp k4 x h)
noncomputable def gl1:VS:=(sSet 1 (xO (fLst fNil)))
noncomputable def gl2:VS:=(sSet 2 (xV (zAE 3 [1] zBM (aE (fV 0) (aO 1 (aE (fC (.int 9)) aNil))))))
noncomputable def gl3:VS:=(sAsg (fV 2) (gTp 3 (zB2 (gN 3) (zB2 (gN 4) (zB2 (gN 5) zEO)))))
noncomputable def gl4:VS:=(sIf (bOr (fB (f2 zEL (zAE 1 [] zAB (aE (fV 2) aNil)) (fC (.bl true)))) (fB (f2 zEL (zAE 1 [] zAB (aE (fTup (zA1 (fV 3) (zA1 (fC (.int 64)) (zA1 (fV 5) fNil)))) aNil)) (fC (.bl true))))) (sRet (fC (.bl false))) sNil)
noncomputable def gl5:VS:=(sSet 6 (xV (f2 zBY (fC (.int 2)) (zAE 3 [1] zAM (aE (fV 0) (aO 1 (aE (f2 oSub (f1 oLen (fV 5)) (fC (.int 1))) aNil)))))))
noncomputable def gl6:VS:=(sSet 7 (xV (f2 zBY (fV 5) (fTup (zA1 (fTup (zA1 (fC (.str "wide")) (zA1 (fC (.str "store")) (zA1 (fC (.int 0)) (zA1 (fC (.int 1)) fNil))))) (zA1 (fTup (zA1 (fC (.str "wide")) (zA1 (fC (.str "plus")) (zA1 (f1 oLen (fV 5)) (zA1 (f1 oLen (fV 5)) fNil))))) fNil))))))
noncomputable def gl7:VS:=(sIf (bOr (fB (f2 zEL (zAE 1 [] zAB (aE (fTup (zA1 (fV 3) (zA1 (fV 4) (zA1 (fV 7) fNil)))) aNil)) (fC (.bl false)))) (fB (f2 zEL (zAE 1 [] zAB (aE (fTup (zA1 (fV 3) (zA1 (fV 4) (zA1 (fSl (fV 7) pNo (pSo (f1 oNeg (fC (.int 1))))) fNil)))) aNil)) (fC (.bl true))))) (sRet (fC (.bl false))) sNil)
noncomputable def gl8:VS:=(sFor (iR1 (fC (.int 9))) (gN 8) zFR)
noncomputable def gl9:VS:=(sSet 11 (xV (fC (.lst [.non,.int 5,.tup [],.tup [.int 2,.int 0],.tup [.int 1,.int 0,.tup []],.tup [.int 5,.int 0,.tup []],.tup [.int 2,.int 65,.tup []],.tup [.int 2,.int 0,.lst []],.lst [.int 2,.int 0,.tup []],.tup [.bl true,.int 0,.tup []]]))))
noncomputable def gl10:VS:=(sIf (fB (f2 zEL (zAE 1 [] zAB (aE (zAE 3 [1] zAT (aE (fV 0) (aO 1 (aE (f2 zBY (fV 11) (fC (.lst [.tup [.int 2,.non,.tup []]]))) aNil)))) aNil)) (fC (.bl false)))) (sRet (fC (.bl false))) sNil)
noncomputable def gl11:VS:=(sFor (iSeq (fLst (zA1 (fC .non) (zA1 (fTup (zA1 (fC (.int 0)) fNil)) (zA1 (f2 zCL (fLst (zA1 (fC (.int 0)) fNil)) (fC (.int 65))) (zA1 (f2 zCL (fLst (zA1 (fC (.int 1000)) fNil)) (fC (.int 64))) (zA1 (f2 zCL (fLst (zA1 (fC (.str "0")) fNil)) (fC (.int 64))) fNil))))))) (gN 12) zER)
noncomputable def gl12:VS:=(sRet (fAnd (f2 oIsB (zAE 1 [] zAB (aE (fTup (zA1 (fC (.int 2)) (zA1 (fC (.int 0)) (zA1 (f2 zCL (fC (.tup [.tup [.str "number",.int 1]])) (fC (.int 400))) fNil)))) aNil)) (fC (.bl true))) (f2 oIsB (zAE 1 [] zAB (aE (fTup (zA1 (fC (.int 2)) (zA1 (fC (.int 0)) (zA1 (f2 zCL (fC (.tup [.tup [.str "number",.int 1]])) (fC (.int 401))) fNil)))) aNil)) (fC (.bl false)))))
theorem zR8:zUF=sSeq gl1 (sSeq gl2 (sSeq gl3 (sSeq gl4 (sSeq gl5 (sSeq gl6 (sSeq gl7 (sSeq gl8 (sSeq gl9 (sSeq gl10 (sSeq gl11 (gl12))))))))))):=rfl
theorem nb_f:zEL (.bl false) (.bl false)=some (.bl false):=(rfl)
theorem nb_t:zEL (.bl true) (.bl true)=some (.bl false):=(rfl)
theorem ne_5:oNe (.tup [.str "refused",.int 5]) (.tup [.str "refused",.int 5])=some (.bl false):=by kernel_rfl
theorem ne_1:oNe (.tup [.str "refused",.int 1]) (.tup [.str "refused",.int 1])=some (.bl false):=by kernel_rfl
noncomputable def stQ(ns:List Int)(n:Nat)(L:Nat)(sure:Int)(rows:List Dat)(m:Nat)(si:Dat)(a b c d e:Sl):Ev:=
 [.va (Scp ns),.ow (Twn n),.va (.tup [.int L,.int sure,.tup rows]),.va (.int L),.va (.int sure),.va (.tup rows),.va (.int m),.va si,a,b,c,d,e]
section
variable{L:Nat}{sure:Int}{rows:List Dat}{kt:List Kd}(h:PRs L [] rows (.w:: .p::kt))(hL:L=2∨L=3∨L=4)(s0:0<=sure)(s1:sure<=64)(hr:rows.length<=30){m:Nat}(m2:2<=m)(hm:m<=rows.length)
include h hL s0 s1 hr m2 hm
theorem zVO{x:Dat}(hx:x∈badL L rows.length):zAB [.tup [.int L,.int sure,.tup (rows.take m++[x])]]=some (.bl false,[]):=by
 have ht:=h.take m hm
 simp only[Gz,Fk] at ht
 obtain⟨m',rfl⟩: ∃m',m=m'+2:=⟨m - 2,by omega⟩
 rw[E2,E2] at ht
 have ah:=h.len
 refine zJB ht (by omega) (by omega) s0 s1 (by rw[Bq];omega) (zZG hL ?_ hx)
 rw[Bq]
 simp at ah
 omega
theorem zRE(ns:List Int)(n:Nat)(hl:ns.length<=63)(hn:n<900000)(k:Int)(k0:0<=k)(si:Dat)(b c d e:Sl): ∃b' c',zFR (stQ ns n L sure rows m si (.va (.int k)) b c d e)=some (.nx (stQ ns (n+1) L sure rows m si (.va (.int k)) b' c' d e)):=by
 obtain⟨x,hx,ex⟩:=zD5 ns n (badL L rows.length) hl hn (by simp[badL,badI])
 have hs:=zVO h hL s0 s1 hr m2 hm hx
 obtain⟨a0,a1⟩:=yCU hs .non
 have eb:=zUT hL (rows.length:Int)
 have hc:=zUK (ds:=rows) (k:=m)
 have hlt:(rows.take m).length+1<=16777216:=by rw[Bq];omega
 generalize hz:rows.take m=z at*
 have ea:zBI [.int (k % 2),.tup [.int L,.int sure,.tup (z++[x])],.non]=some (.tup [.str "refused",.int 5],[]):=by
  rcases(by omega:k % 2=0∨k % 2=1) with q|q
  ·rw[q];exact a0
  ·rw[q];exact a1
 refine⟨.va x,.va (.tup [.int L,.int sure,.tup (z++[x])]),?_⟩
 unfold zFR stQ
 generalize badL L rows.length=M at*
 have em:oMod (.int k) (.int 2)=some (.int (k % 2)):=by kernel_rfl
 simp[eb,ex,hc,hlt,hs,ea,nb_f,ne_5,em]
theorem zLY(ns:List Int)(hl:ns.length<=63)(si:Dat)(d e:Sl): ∀(its:List Int) (n:Nat) (a b c:Sl),(∀k∈its,0<=k)->n+its.length<900000-> ∃a' b' c',forV (gN 8) zFR (its.map .int) (stQ ns n L sure rows m si a b c d e)=some (.nx (stQ ns (n+its.length) L sure rows m si a' b' c' d e))
 |[],n,a,b,c,_,_=>⟨a,b,c,rfl⟩
 |k::its,n,a,b,c,hk,hn=>by
  simp only[Ci] at hn
  obtain⟨b1,c1,e1⟩:=zRE h hL s0 s1 hr m2 hm ns n hl (by omega) k (hk k Aw) si b c d e
  obtain⟨a2,b2,c2,e2⟩:=zLY ns hl si d e its (n+1) (.va (.int k)) b1 c1 (fun j hj=>hk j (Am _ hj)) (by omega)
  refine⟨a2,b2,c2,?_⟩
  rw[B9,zHW,gN_e,zMB]
  show qf2 _ _ _ (zFR (stQ ns n L sure rows m si (.va (.int k)) b c d e))=_
  rw[e1,zNU,e2,Ci,show n+1+its.length=n+(its.length+1) by omega]
end
noncomputable def oddL:List Dat:=[.non,.int 5,.tup [],.tup [.int 2,.int 0],.tup [.int 1,.int 0,.tup []],.tup [.int 5,.int 0,.tup []],.tup [.int 2,.int 65,.tup []],.tup [.int 2,.int 0,.lst []],.lst [.int 2,.int 0,.tup []],.tup [.bl true,.int 0,.tup []]]
theorem zYH:(oddL++[Dat.tup [.int 2,.non,.tup []]]).all (fun x=>isNo (zAB [x]))=true:=by kernel_rfl
noncomputable def celL:List Dat:=[.non,.tup [.int 0],.lst (Aa 65 (.int 0)),.lst (Aa 64 (.int 1000)),.lst (Aa 64 (.str "0"))]
theorem zUM:(Bv 65).all (fun s=>(celL.take 3).all (fun x=>isNo (zBB [x,.int s])))=true:=by kernel_rfl
noncomputable def badR:List (List Dat):=[Aa 64 (.int 1000),Aa 64 (.str "0")]
theorem zUS:badR.all (fun ds=>isNo (zBB [.lst ds,.int 64]))=true:=by kernel_rfl
theorem zZH{ds:List Dat}(hd:ds∈badR){sure:Int}(s1:sure<=64):zBB [.lst ds,.int sure]=some (.bl false,[]):=by
 have e:=zE7 (B0.mp zUS ds hd)
 have hl:ds.length=64:=by
  simp only[badR,Ac,Ak,or_false] at hd
  rcases hd with rfl|rfl<;>simp
 rw[<- e]
 unfold zBB
 rw[zB0,zB0]
 unfold zFQ
 simp[envD,zEA,hl,s1]
 rw[show zBR [] [Sl.va (Dat.lst ds),Sl.va (Dat.int sure)]=zBR [] [Sl.va (Dat.lst ds),Sl.va (Dat.int 64)] from rfl]
 generalize zCN 0 1 (gN 0) bYes (zAE 3 [] zAO (aE (fV 0) (aE (fC (Dat.int 0)) (aE (fC zB6) aNil)))) ds [] (zBR [] [Sl.va (Dat.lst ds),Sl.va (Dat.int 64)])=c
 rcases c with _|⟨a,b⟩
 ·rfl
 ·show qRun [] (qRet ((oAll (.lst a)).map fun z => (z,_))) = qRun [] (qRet ((oAll (.lst a)).map fun z => (z,_)))
  cases oAll (.lst a)<;>rfl
theorem zZ9{c:Dat}(hc:c∈celL){sure:Int}(s0:0<=sure)(s1:sure<=64):zBB [c,.int sure]=some (.bl false,[]):=by
 have a:=B0.mp zUM sure.toNat (Cm.mpr (by omega))
 rw[Ib s0] at a
 simp only[celL,Ac,Ak,or_false] at hc
 rcases hc with rfl|rfl|rfl|rfl|rfl
 ·exact zE7 (B0.mp a _ (by simp[celL]))
 ·exact zE7 (B0.mp a _ (by simp[celL]))
 ·exact zE7 (B0.mp a _ (by simp[celL]))
 ·exact zZH (by simp[badR]) s1
 ·exact zZH (by simp[badR]) s1
theorem zLW(p:Dat)(ns:List Int)(n:Nat)(L:Nat)(sure:Int)(rows:List Dat)(m:Nat)(si:Dat)(a b c d:Sl): ∀(its:List Dat) (e:Sl),(∀c∈its,zBI [.int 1,.tup [.int L,.int sure,.tup rows],c]=some (.tup [.str "refused",.int 1],[]))-> ∃e',forV (gN 12) zER its (stQ ns n L sure rows m si a b c d e)=some (.nx (stQ ns n L sure rows m si a b c d e'))
 | [],e,_ => ⟨e,rfl⟩
 | x :: its,e,h => by
  obtain⟨e2,q⟩:=zLW p ns n L sure rows m si a b c d its (.va x) fun c hc=>h c (Am _ hc)
  refine⟨e2,?_⟩
  have hx:=h x Aw
  rw[zHW,gN_e,zMB]
  show qf2 _ _ _ (zER (stQ ns n L sure rows m si a b c d (.va x)))=_
  have:zER (stQ ns n L sure rows m si a b c d (.va x))=some (.nx (stQ ns n L sure rows m si a b c d (.va x))):=by
   unfold zER stQ
   simp[hx,ne_1]
  rw[this,zNU,q]
theorem yCH(s0 s1 s2 s3 s4 s5 s6 s7 s8 s9 s10 s11 s12:Sl):gl9 [s0,s1,s2,s3,s4,s5,s6,s7,s8,s9,s10,s11,s12]=some (.nx [s0,s1,s2,s3,s4,s5,s6,s7,s8,s9,s10,.va (.lst oddL),s12]):=by kernel_rfl
theorem zUE(δ:Ev):gl11 δ=forV (gN 12) zER celL δ:=by kernel_rfl
theorem n400:PRs 2 [] (Aa 400 (.tup [.str "number",.int 1])) (Aa 400 .w):=by
 have: ∀(k:Nat) (kds:List Kd),PRs 2 kds (Aa k (.tup [.str "number",.int 1])) (kds++Aa k .w):=by
  intro k
  induction k with
  | zero => intro kds;rw [Ic,Ic,Bp];exact .nil
  |succ k ih=>
   intro kds
   have r:PR 2 kds (.tup [.str "number",.int 1]) .w:=by
    have:PR 2 kds (.tup [.str "number",.int 1]) (mk1 .w (.tup [.str "number",.int 1])):= .nar (.number (by decide) (by decide))
    simpa[mk1,zDP] using this
   have:=ih (kds++[.w])
   rw[Fz,List.singleton_append,<- Bo] at this
   rw[Bo]
   exact .cons r this
 exact this 400 []
theorem zZ3(δ:Ev):gl12 δ=some (.rt (.bl true) δ):=by
 have a:zAB [.tup [.int 2,.int 0,.tup (Aa 400 (.tup [.str "number",.int 1]))]]=some (.bl true,[]):=zF0 n400 (by decide) (by decide) (sure:=0) (by decide) (by decide) (by simp)
 have b:zAB [.tup [.int 2,.int 0,.tup (Aa 401 (.tup [.str "number",.int 1]))]]=some (.bl false,[]):=by kernel_rfl
 have k4:zCL (.tup [.tup [.str "number",.int 1]]) (.int 400)=some (.tup (Aa 400 (.tup [.str "number",.int 1]))):=by
  simp only[zCL]
  rw[if_pos (by decide),rep1,show(400:Int).toNat=400 from rfl]
 have k5:zCL (.tup [.tup [.str "number",.int 1]]) (.int 401)=some (.tup (Aa 401 (.tup [.str "number",.int 1]))):=by
  simp only[zCL]
  rw[if_pos (by decide),rep1,show(401:Int).toNat=401 from rfl]
 unfold gl12
 generalize Aa 400 (Dat.tup [.str "number",.int 1])=x at*
 generalize Aa 401 (Dat.tup [.str "number",.int 1])=y at*
 simp -implicitDefEqProofs [k4,k5,a,b]
 rfl
theorem zNE{L:Nat}{sure:Int}{rows:List Dat}{kt:List Kd}(h:PRs L [] rows (.w:: .p::kt))(hL:L=2∨L=3∨L=4)(s0:0<=sure)(s1:sure<=64)(hr:rows.length<=30):
  zAB [.tup [.int L,.int sure,.tup (rows++[.tup [.str "wide",.str "store",.int 0,.int 1]]++[.tup [.str "wide",.str "plus",.int rows.length,.int rows.length]])]]=some (.bl false,[])∧
  zAB [.tup [.int L,.int sure,.tup (rows++[.tup [.str "wide",.str "store",.int 0,.int 1]])]]=some (.bl true,[]):=by
 have r:PR L (.w:: .p::kt) (.tup [.str "wide",.str "store",.int 0,.int 1]) .n:=by
  have:PR L (.w:: .p::kt) (.tup [.str "wide",.str "store",.int 0,.int 1]) (mk1 .p (.tup [.str "store",.int 0,.int 1])):= .wid (.store (by decide) (by decide) ⟨by decide,rfl⟩) (by simp[zDP])
  simpa[mk1,zDP] using this
 have hs:=h.snoc r
 have ah:=h.len
 simp at ah
 have ha:((Pb ((.w:: .p::kt)++[.n])))[(rows.length:Int).toNat]? =some false:=by
  rw[En]
  have:rows.length=(Pb (.w:: .p::kt)).length:=by simp[Pb];omega
  rw[this]
  simp[Pb]
 have pm:zAJ [.int rows.length,.lst ((Pb ((.w:: .p::kt)++[.n])).map .bl)]=some (.bl false,[]):=zOE (by omega) ha
 refine⟨zJB hs (by omega) (by omega) s0 s1 (by simp;omega) ?_,zF0 hs (by omega) (by omega) s0 s1 (by simp;omega)⟩
 generalize Dat.lst ((Wb ((.w:: .p::kt)++[.n])).map .bl)=A
 generalize Dat.lst ((Pb ((.w:: .p::kt)++[.n])).map .bl)=B at*
 simp[zAN,zBN,zC2,zDF,zCG,zF2,zDZ,zH1,zB0,envD,zBR,pm,zO4]
theorem zRC(rows:List Dat)(a b:Dat):cutD (rows++[a]++[b]) none (some (-1))=rows++[a]:=by
 unfold cutD
 rw[HT.zI3]
 have:HT.sIx (rows++[a]++[b]).length (rows++[a]++[b]).length (some (-1))=(rows++[a]).length:=by
  show(if(-1:Int)<0 then(-1+((rows++[a]++[b]).length:Int)).toNat else min (-1:Int).toNat (rows++[a]++[b]).length)=_
  rw[if_pos (by decide)]
  simp
  omega
 rw[this,Fs,Nat.sub_zero,K3]
 rfl
end L2
namespace RR
open PySem L2
theorem zR1(ns:List Int)(hl:ns.length<=63):zMR [.lst (ns.map .int)]=some (.bl true,[]):=by
 obtain⟨L,n1,sure,rows,kds,hL2,hL4,s0,s1,hr,hn,⟨kt,rfl⟩,hp,e1⟩:=zTI ns 0 hl (by omega)
 have hL:L=2∨L=3∨L=4:=by omega
 have isp:=zF0 hp hL2 hL4 s0 s1 (by omega)
 have m7:=zF0 hp hL2 hL4 (sure:=64) (by decide) (by decide) (by omega)
 have ah:=hp.len
 simp at ah
 have dr:=zBV ns n1 ((rows.length:Int) - 1) hl (by omega) (by omega)
 have d0:=zG7 ns n1 (b:=(rows.length:Int) - 1) (by omega)
 have d1:=zH3 ns n1 (b:=(rows.length:Int) - 1) (by omega)
 obtain⟨m,hm⟩: ∃m:Nat,2+drw ns n1 ((rows.length:Int) - 1)=(m:Int):=⟨(2+drw ns n1 ((rows.length:Int) - 1)).toNat,by omega⟩
 have m2:2<=m:=by omega
 have hmr:m<=rows.length:=by omega
 obtain⟨si0,si1⟩:=zNE hp hL s0 s1 hr
 have hx0:envD [] 13 [Scp ns]=[.va (Scp ns),.no,.no,.no,.no,.no,.no,.no,.no,.no,.no,.no,.no]:=rfl
 have g1:gl1 [.va (Scp ns),.no,.no,.no,.no,.no,.no,.no,.no,.no,.no,.no,.no]=some (.nx [.va (Scp ns),.ow (Twn 0),.no,.no,.no,.no,.no,.no,.no,.no,.no,.no,.no]):=rfl
 have g2:gl2 [.va (Scp ns),.ow (Twn 0),.no,.no,.no,.no,.no,.no,.no,.no,.no,.no,.no]=some (.nx [.va (Scp ns),.ow (Twn n1),.va (.tup [.int L,.int sure,.tup rows]),.no,.no,.no,.no,.no,.no,.no,.no,.no,.no]):=by
  unfold gl2
  simp[e1]
 have g3:gl3 [.va (Scp ns),.ow (Twn n1),.va (.tup [.int L,.int sure,.tup rows]),.no,.no,.no,.no,.no,.no,.no,.no,.no,.no]=some (.nx [.va (Scp ns),.ow (Twn n1),.va (.tup [.int L,.int sure,.tup rows]),.va (.int L),.va (.int sure),.va (.tup rows),.no,.no,.no,.no,.no,.no,.no]):=by
  unfold gl3
  simp
 have g4:gl4 [.va (Scp ns),.ow (Twn n1),.va (.tup [.int L,.int sure,.tup rows]),.va (.int L),.va (.int sure),.va (.tup rows),.no,.no,.no,.no,.no,.no,.no]=some (.nx [.va (Scp ns),.ow (Twn n1),.va (.tup [.int L,.int sure,.tup rows]),.va (.int L),.va (.int sure),.va (.tup rows),.no,.no,.no,.no,.no,.no,.no]):=by
  unfold gl4
  simp[isp,m7,nb_t]
 have g5:gl5 [.va (Scp ns),.ow (Twn n1),.va (.tup [.int L,.int sure,.tup rows]),.va (.int L),.va (.int sure),.va (.tup rows),.no,.no,.no,.no,.no,.no,.no]=some (.nx [.va (Scp ns),.ow (Twn (n1+1)),.va (.tup [.int L,.int sure,.tup rows]),.va (.int L),.va (.int sure),.va (.tup rows),.va (.int m),.no,.no,.no,.no,.no,.no]):=by
  unfold gl5
  simp[dr,hm]
 have hpl:zBY (.tup rows) (.tup [.tup [.str "wide",.str "store",.int 0,.int 1],.tup [.str "wide",.str "plus",.int rows.length,.int rows.length]])=some (.tup (rows++[.tup [.str "wide",.str "store",.int 0,.int 1]]++[.tup [.str "wide",.str "plus",.int rows.length,.int rows.length]])):=by
  simp only[zBY]
  rw[if_pos (by simp;omega),Fz]
  rfl
 generalize hsi:rows++[Dat.tup [.str "wide",.str "store",.int 0,.int 1]]++[Dat.tup [.str "wide",.str "plus",.int rows.length,.int rows.length]]=si at*
 have o9:cutD si none (some (-1))=rows++[.tup [.str "wide",.str "store",.int 0,.int 1]]:=by rw[<- hsi];exact zRC _ _ _
 generalize rows++[Dat.tup [.str "wide",.str "store",.int 0,.int 1]]=sj at*
 have g6:gl6 [.va (Scp ns),.ow (Twn (n1+1)),.va (.tup [.int L,.int sure,.tup rows]),.va (.int L),.va (.int sure),.va (.tup rows),.va (.int m),.no,.no,.no,.no,.no,.no]=some (.nx (stQ ns (n1+1) L sure rows m (.tup si) .no .no .no .no .no)):=by
  unfold gl6 stQ
  simp[hpl]
 have g7:gl7 (stQ ns (n1+1) L sure rows m (.tup si) .no .no .no .no .no)=some (.nx (stQ ns (n1+1) L sure rows m (.tup si) .no .no .no .no .no)):=by
  unfold gl7 stQ
  simp[si0,si1,o9,nb_t,nb_f]
 obtain⟨a,b,c,e8⟩:=zLY hp hL s0 s1 hr m2 hmr ns hl (.tup si) .no .no [0,1,2,3,4,5,6,7,8] (n1+1) .no .no .no (by decide) (by simp;omega)
 have g8:gl8 (stQ ns (n1+1) L sure rows m (.tup si) .no .no .no .no .no)=some (.nx (stQ ns (n1+10) L sure rows m (.tup si) a b c .no .no)):=e8
 have g9:gl9 (stQ ns (n1+10) L sure rows m (.tup si) a b c .no .no)=some (.nx (stQ ns (n1+10) L sure rows m (.tup si) a b c (.va (.lst oddL)) .no)):=yCH _ _ _ _ _ _ _ _ _ _ _ _ _
 obtain⟨x,hx,ex⟩:=zD5 ns (n1+10) (oddL++[.tup [.int 2,.non,.tup []]]) hl (by omega) (by simp)
 have ox:=zE7 (B0.mp zYH x hx)
 have hod:zBY (.lst oddL) (.lst [.tup [.int 2,.non,.tup []]])=some (.lst (oddL++[.tup [.int 2,.non,.tup []]])):=rfl
 have g10:gl10 (stQ ns (n1+10) L sure rows m (.tup si) a b c (.va (.lst oddL)) .no)=some (.nx (stQ ns (n1+11) L sure rows m (.tup si) a b c (.va (.lst oddL)) .no)):=by
  unfold gl10 stQ
  generalize oddL++[Dat.tup [.int 2,.non,.tup []]]=M at*
  generalize oddL=N at*
  simp[hod,ex,ox,nb_f]
 obtain⟨e',e11⟩:=zLW .non ns (n1+11) L sure rows m (.tup si) a b c (.va (.lst oddL)) celL .no fun y hy=>yCV isp (zZ9 hy s0 s1)
 have hS:Dat.lst (ns.map .int)=Scp ns:=rfl
 rw[hS]
 unfold zMR
 rw[zB0,zR8,hx0,zE1,g1,qS_n,zE1,g2,qS_n,zE1,g3,qS_n,zE1,g4,qS_n,zE1,g5,qS_n,zE1,g6,qS_n,zE1,g7,qS_n,zE1,g8,qS_n,zE1,g9,qS_n,zE1,g10,qS_n,zE1,zUE,e11,qS_n,zZ3]
 rfl
end RR
namespace KK
open PySem PySem.W
noncomputable abbrev g(a i:Nat)(n:Str)(d m:Value):Obj:=⟨.type "function",none,.func (fnOf n n (L2.zBW (RR.top i)) (L2.zB3 (RR.top i)) (L2.zA4 (RR.top i)) d .none .none m none (.ref (a - 1)) .none),#[]⟩
theorem p(P:Jp)(a i:Nat)(n:Str)(m:Value)(h1:nsIn (K P) mainGlobals n=some (some (.ref a)):=by kernel_rfl)(h2:(K P).lookup a=some (g a i n .none m):=by kernel_rfl)(h3:codeIn (K P) (.ref (a - 1)) n=true:=by kernel_rfl):L2.A4 (K P) n (RR.top i) a:=L2.a4 h1 h2 h3 (by unfold keepIn;simp only[h2])
end KK
namespace RR
open PySem L2
abbrev Zn(K:A5)(x:Str):Prop:=Dy K mainGlobals x=some none
abbrev Gn(K:A5)(x:Str)(v:Value):Prop:=Dy K mainGlobals x=some (some v)
theorem Len1{α:Type}{P:List α->Prop}(z: ∀a,P [a]): ∀us:List α,us.length=1->P us
 |[a],_=>z a
theorem Len2{α:Type}{P:List α->Prop}(z: ∀a b,P [a,b]): ∀us:List α,us.length=2->P us
 |[a,b],_=>z a b
theorem Len3{α:Type}{P:List α->Prop}(z: ∀a b c,P [a,b,c]): ∀us:List α,us.length=3->P us
 |[a,b,c],_=>z a b c
theorem Len4{α:Type}{P:List α->Prop}(z: ∀a b c d,P [a,b,c,d]): ∀us:List α,us.length=4->P us
 |[a,b,c,d],_=>z a b c d
theorem Len5{α:Type}{P:List α->Prop}(z: ∀a b c d e,P [a,b,c,d,e]): ∀us:List α,us.length=5->P us
 |[a,b,c,d,e],_=>z a b c d e
theorem zZJ{l:Kz}{w:World}{K:A5}{h:Heap}{mg:Str->Option Value}{fa:Addr}(X:K.In h)(G:h.Ns mainGlobals mg)(hfa:mg "law"=some (.ref fa))
  {f_x0 f_x1 f_x2 f_x3 f_x4 f_x5 f_x6 f_x7 f_x8 f_x9 f_x10 f_x11 f_x12 f_x13 f_x14 f_x15 f_x16 f_x17 f_x18 f_x19 f_x20 f_x21:Addr}
  {kV_x21 dc_x21 pm_x21 cd_x21 ct_x21:Value}
  {t1:Tok}
  {a2 f_x22 f_x23 f_x24 f_x25 f_x26 f_x27 f_x28 f_x29 f_x30 f_x31 f_x32 f_x33 f_x34 f_x35 f_x36 f_x37 f_x38 f_x39 f_x40 f_x41 f_x42 f_x43 f_x44 f_x45 f_x46 f_x47:Addr}
  {kV_x47 dc_x47 pm_x47 cd_x47 ct_x47:Value}
  {t3 t4 t5 t6 t7 t8 t9 t10:Tok}
  {a11:Addr}
  {t12 t13 t14 t15 t16 t17 t18:Tok}
  {a19:Addr}
  {h20 h21 h22 h23 h24 h25 h26:Int}
  {t27 t28 t29 t30:Tok}
  {a31:Addr}
  {t32 t33 t34 t35 t36 t37 t38:Tok}
  {a39:Addr}
  {t40 t41 t42:Tok}
  {a43:Addr}
  {t44:Tok}
  {a45:Addr}
  {t46 t47 t48:Tok}
  {a49:Addr}
  {t50 t51:Tok}
  {a52:Addr}
  {t53 t54 t55:Tok}
  {a56 a57:Addr}
  {h58 h59 h60 h61 h62 h63:Int}
  {t64 t65:Tok}
  {a66:Addr}
  {t67 t68:Tok}
  {a69:Addr}
  {t70 t71 t72 t73:Tok}
  {a74 a75 a76 a77 a78 a79 a80 a81 a82 a83 a84 a85 a86 a87:Addr}
  (nh:A4 K "is_whole" (top 19) f_x0)
  (la:A4 K "plus" (top 20) f_x1)
  (kx:A4 K "minus" (top 21) f_x2)
  (ki:A4 K "times" (top 22) f_x3)
  (k6:A4 K "least" (top 23) f_x4)
  (js:A4 K "most" (top 24) f_x5)
  (jr:A4 K "less" (top 25) f_x6)
  (jq:A4 K "over" (top 26) f_x7)
  (ng:A4 K "pick" (top 27) f_x8)
  (nb:A4 K "done" (top 29) f_x9)
  (l9:A4 K "parts_of" (top 37) f_x10)
  (l8:A4 K "makes_word" (top 38) f_x11)
  (l7:A4 K "place_of" (top 39) f_x12)
  (l6:A4 K "names_of" (top 40) f_x13)
  (l5:A4 K "may_name" (top 41) f_x14)
  (l4:A4 K "fits" (top 42) f_x15)
  (l3:A4 K "is_row" (top 43) f_x16)
  (l0:A4 K "is_lanes" (top 47) f_x17)
  (kz:A4 K "is_cells" (top 50) f_x18)
  (ky:A4 K "touches" (top 51) f_x19)
  (kw:A4 K "do_on_cell" (top 52) f_x20)
  (lq:K.lookup a2=some ⟨.type "tuple",none,.seq #[.int 0 t1] 0,#[]⟩)
  (il:Dy K mainGlobals "do_row"=some (some (.ref f_x21)))
  (lz:K.lookup f_x21=some ⟨.type "function",none,.func (Es "do_row" "do_row" (zBW (top 53)) (zB3 (top 53)) (zA4 (top 53)) (.ref a2) kV_x21 dc_x21 pm_x21 none cd_x21 ct_x21),#[]⟩)
  (mq:Fn K cd_x21 "do_row"=true)
  (f6:Dr K (.ref f_x21)=true)
  (ku:A4 K "is_for_lanes" (top 56) f_x22)
  (kr:A4 K "is_wide" (top 57) f_x23)
  (kq:A4 K "is_gather" (top 58) f_x24)
  (ko:A4 K "is_shuffle" (top 59) f_x25)
  (kn:A4 K "is_lane" (top 60) f_x26)
  (km:A4 K "is_program_row" (top 61) f_x27)
  (kl:A4 K "kind_made" (top 62) f_x28)
  (kj:A4 K "are_program_rows" (top 63) f_x29)
  (kh:A4 K "is_program" (top 64) f_x30)
  (kg:A4 K "do_wide" (top 65) f_x31)
  (kf:A4 K "moved" (top 66) f_x32)
  (kc:A4 K "do_program_row" (top 67) f_x33)
  (ig:A4 K "run_program" (top 68) f_x34)
  (ka:A4 K "row_cost" (top 69) f_x35)
  (i9:A4 K "cost_of" (top 70) f_x36)
  (k9:A4 K "_law_cell_at" (top 72) f_x37)
  (k8:A4 K "_law_mixed" (top 73) f_x38)
  (k7:A4 K "_law_draw" (top 74) f_x39)
  (jz:A4 K "_law_pick" (top 75) f_x40)
  (jy:A4 K "_law_place" (top 76) f_x41)
  (jx:A4 K "_law_row" (top 77) f_x42)
  (jw:A4 K "_law_which" (top 78) f_x43)
  (jv:A4 K "_law_program" (top 79) f_x44)
  (ju:A4 K "_law_ask" (top 80) f_x45)
  (jt:A4 K "_law_bad_rows" (top 81) f_x46)
  (mv:Dy K mainGlobals "law"=some (some (.ref f_x47)))
  (ly:K.lookup f_x47=some ⟨.type "function",none,.func (Es "law" "law" (zBW (top 82)) (zB3 (top 82)) (zA4 (top 82)) .none kV_x47 dc_x47 pm_x47 none cd_x47 ct_x47),#[]⟩)
  (mo:Fn K cd_x47 "law"=true)
  (m6:Dr K (.ref f_x47)=true)
  (jl:Zn K "len")
  (i0:Zn K "range")
  (jj:Zn K "min")
  (jk:Zn K "max")
  (im:Zn K "list")
  (h9:Zn K "tuple")
  (ci:Zn K "isinstance")
  (io:Zn K "bool")
  (jm:Zn K "int")
  (ji:Zn K "str")
  (cu:Zn K "enumerate")
  (jg:Zn K "zip")
  (jo:Zn K "all")
  (jh:Zn K "sum")
  (cj:Zn K "ValueError")
  (da:Gn K "MOST_WORD" (.int 999 t3))
  (ls:K.lookup a11=some ⟨.type "tuple",none,.seq #[.str "plus" t4,.str "minus" t5,.str "times" t6,.str "least" t7,.str "most" t8,.str "less" t9,.str "over" t10] 0,#[]⟩)
  (i4:Gn K "DEEDS" (.ref a11))
  (lr:K.lookup a19=some ⟨.type "dict",none,.dict #[⟨h20,.str "plus" t12,.ref f_x1⟩,⟨h21,.str "minus" t13,.ref f_x2⟩,⟨h22,.str "times" t14,.ref f_x3⟩,⟨h23,.str "least" t15,.ref f_x4⟩,⟨h24,.str "most" t16,.ref f_x5⟩,⟨h25,.str "less" t17,.ref f_x6⟩,⟨h26,.str "over" t18,.ref f_x7⟩] 7,#[]⟩)
  (lx:(a19==Cw)=false)
  (j4:Gn K "MADE" (.ref a19))
  (db:Gn K "MOST_SURE" (.int 64 t27))
  (cm:Gn K "MOST_PLACE" (.int 63 t28))
  (ln:K.lookup a31=some ⟨.type "tuple",none,.seq #[.str "row" t29,.str "row" t30] 0,#[]⟩)
  (cr:Gn K "DEED_PARTS" (.ref a31))
  (lm:K.lookup a39=some ⟨.type "tuple",none,.seq #[.str "word" t38] 0,#[]⟩)
  (ll:K.lookup a43=some ⟨.type "tuple",none,.seq #[.str "row" t40,.str "row" t41,.str "row" t42] 0,#[]⟩)
  (lj:K.lookup a45=some ⟨.type "tuple",none,.seq #[.str "place" t44] 0,#[]⟩)
  (li:K.lookup a49=some ⟨.type "tuple",none,.seq #[.str "place" t46,.str "row" t47,.str "row" t48] 0,#[]⟩)
  (lh:K.lookup a52=some ⟨.type "tuple",none,.seq #[.str "place" t50,.str "row" t51] 0,#[]⟩)
  (lg:K.lookup a56=some ⟨.type "tuple",none,.seq #[.str "place" t53,.str "row" t54,.str "row" t55] 0,#[]⟩)
  (lf:K.lookup a57=some ⟨.type "dict",none,.dict #[⟨h58,.str "number" t32,.ref a39⟩,⟨h59,.str "pick" t33,.ref a43⟩,⟨h60,.str "load" t34,.ref a45⟩,⟨h61,.str "take" t35,.ref a49⟩,⟨h62,.str "store" t36,.ref a52⟩,⟨h63,.str "put" t37,.ref a56⟩] 6,#[]⟩)
  (lv:(a57==Cw)=false)
  (br:Gn K "OTHER_PARTS" (.ref a57))
  (lc:K.lookup a66=some ⟨.type "tuple",none,.seq #[.str "load" t64,.str "take" t65] 0,#[]⟩)
  (eu:Gn K "READERS" (.ref a66))
  (lb:K.lookup a69=some ⟨.type "tuple",none,.seq #[.str "store" t67,.str "put" t68] 0,#[]⟩)
  (et:Gn K "WRITERS" (.ref a69))
  (bu:Gn K "LEAST_LANES" (.int 2 t70))
  (cn:Gn K "MOST_LANES" (.int 4 t71))
  (cq:Gn K "MOST_CELLS" (.int 64 t72))
  (au:Gn K "MOST_PROGRAM_ROWS" (.int 400 t73))
  (c5:Gn K "Nothing" (.ref a74))
  (bp:Gn K "NotValid" (.ref a75))
  (bz:Gn K "TooLong" (.ref a76))
  (bx:Gn K "TooMany" (.ref a77))
  (d7:Gn K "NoName" (.ref a78))
  (cy:Gn K "NoText" (.ref a79))
  (d8:Gn K "NoLoop" (.ref a80))
  (cx:Gn K "NoTree" (.ref a81))
  (b8:Gn K "NoProgram" (.ref a82))
  (cz:Gn K "NoPlan" (.ref a83))
  (c6:Gn K "NoLanes" (.ref a84))
  (du:Gn K "NoRow" (.ref a85))
  (c7:Gn K "NoCells" (.ref a86))
  (c8:Gn K "NoBlock" (.ref a87))
  (ax:XC K "NoCells" a86)
  (ap:XC K "NoProgram" a82)
  (xk:xiOk K xcs xall=true):
  ∃fd:By,(∀(s:A2) (v:Value),Iu s fd ⟨[v],[]⟩ [("_law_script",v)])/\ ∀base:Heap,K.In base->base.Ns mainGlobals mg->FnOk l.prog w K mg base CX0 11 fa fd ["_law_script"] (spV K [] 1 zMR):=by
 have e:=hfa.symm.trans (Bx X G mv)
 cases e
 have T:Txt K mg:=⟨fun _ _ e=>Bx X G e,
   C3 X G jl,
   C3 X G i0,
   C3 X G jj,
   C3 X G jk,
   C3 X G im,
   C3 X G h9,
   C3 X G ci,
   C3 X G io,
   C3 X G jm,
   C3 X G ji,
   C3 X G cu,
   C3 X G jg,
   C3 X G jo,
   C3 X G jh,
   C3 X G cj,
   ⟨_,.ref a11,Bx X G i4,rfl,fun _ _ _=>(.tup (xs:=[.str "plus",.str "minus",.str "times",.str "least",.str "most",.str "less",.str "over"]) (.inr ⟨_,_,_,ls,rfl,rfl,(by show 7<=sizeLine;decide),(.cons ⟨_,rfl⟩ (.cons ⟨_,rfl⟩ (.cons ⟨_,rfl⟩ (.cons ⟨_,rfl⟩ (.cons ⟨_,rfl⟩ (.cons ⟨_,rfl⟩ (.cons ⟨_,rfl⟩ .nil)))))))⟩) (.cons (.str _) (.cons (.str _) (.cons (.str _) (.cons (.str _) (.cons (.str _) (.cons (.str _) (.cons (.str _) .nil))))))))⟩,
   ⟨_,.ref a31,Bx X G cr,rfl,fun _ _ _=>(.tup (xs:=[.str "row",.str "row"]) (.inr ⟨_,_,_,ln,rfl,rfl,(by show 2<=sizeLine;decide),(.cons ⟨_,rfl⟩ (.cons ⟨_,rfl⟩ .nil))⟩) (.cons (.str _) (.cons (.str _) .nil)))⟩,
   ⟨_,.int 2,Bx X G bu,⟨_,rfl⟩,fun _ _ _=>(.int _)⟩,
   ⟨_,.ref a19,Bx X G j4,rfl,fun _ _ _=>(.ktb (D:=[("plus",.ref f_x1),("minus",.ref f_x2),("times",.ref f_x3),("least",.ref f_x4),("most",.ref f_x5),("less",.ref f_x6),("over",.ref f_x7)]) ⟨lx,_,_,_,lr,⟨rfl,rfl,rfl⟩,rfl,(.cons rfl rfl (.cons rfl rfl (.cons rfl rfl (.cons rfl rfl (.cons rfl rfl (.cons rfl rfl (.cons rfl rfl .nil)))))))⟩ (.cons (.fn la.ns) (.cons (.fn kx.ns) (.cons (.fn ki.ns) (.cons (.fn k6.ns) (.cons (.fn js.ns) (.cons (.fn jr.ns) (.cons (.fn jq.ns) .nil))))))))⟩,
   ⟨_,.int 64,Bx X G cq,⟨_,rfl⟩,fun _ _ _=>(.int _)⟩,
   ⟨_,.int 4,Bx X G cn,⟨_,rfl⟩,fun _ _ _=>(.int _)⟩,
   ⟨_,.int 63,Bx X G cm,⟨_,rfl⟩,fun _ _ _=>(.int _)⟩,
   ⟨_,.int 400,Bx X G au,⟨_,rfl⟩,fun _ _ _=>(.int _)⟩,
   ⟨_,.int 64,Bx X G db,⟨_,rfl⟩,fun _ _ _=>(.int _)⟩,
   ⟨_,.int 999,Bx X G da,⟨_,rfl⟩,fun _ _ _=>(.int _)⟩,
   ⟨_,.ref a57,Bx X G br,rfl,fun _ _ _=>(.ktb (D:=[("number",.ref a39),("pick",.ref a43),("load",.ref a45),("take",.ref a49),("store",.ref a52),("put",.ref a56)]) ⟨lv,_,_,_,lf,⟨rfl,rfl,rfl⟩,rfl,(.cons rfl rfl (.cons rfl rfl (.cons rfl rfl (.cons rfl rfl (.cons rfl rfl (.cons rfl rfl .nil))))))⟩ (.cons (.tup (xs:=[.str "word"]) (.inr ⟨_,_,_,lm,rfl,rfl,(by show 1<=sizeLine;decide),(.cons ⟨_,rfl⟩ .nil)⟩) (.cons (.str _) .nil)) (.cons (.tup (xs:=[.str "row",.str "row",.str "row"]) (.inr ⟨_,_,_,ll,rfl,rfl,(by show 3<=sizeLine;decide),(.cons ⟨_,rfl⟩ (.cons ⟨_,rfl⟩ (.cons ⟨_,rfl⟩ .nil)))⟩) (.cons (.str _) (.cons (.str _) (.cons (.str _) .nil)))) (.cons (.tup (xs:=[.str "place"]) (.inr ⟨_,_,_,lj,rfl,rfl,(by show 1<=sizeLine;decide),(.cons ⟨_,rfl⟩ .nil)⟩) (.cons (.str _) .nil)) (.cons (.tup (xs:=[.str "place",.str "row",.str "row"]) (.inr ⟨_,_,_,li,rfl,rfl,(by show 3<=sizeLine;decide),(.cons ⟨_,rfl⟩ (.cons ⟨_,rfl⟩ (.cons ⟨_,rfl⟩ .nil)))⟩) (.cons (.str _) (.cons (.str _) (.cons (.str _) .nil)))) (.cons (.tup (xs:=[.str "place",.str "row"]) (.inr ⟨_,_,_,lh,rfl,rfl,(by show 2<=sizeLine;decide),(.cons ⟨_,rfl⟩ (.cons ⟨_,rfl⟩ .nil))⟩) (.cons (.str _) (.cons (.str _) .nil))) (.cons (.tup (xs:=[.str "place",.str "row",.str "row"]) (.inr ⟨_,_,_,lg,rfl,rfl,(by show 3<=sizeLine;decide),(.cons ⟨_,rfl⟩ (.cons ⟨_,rfl⟩ (.cons ⟨_,rfl⟩ .nil)))⟩) (.cons (.str _) (.cons (.str _) (.cons (.str _) .nil)))) .nil)))))))⟩,
   ⟨_,.ref a66,Bx X G eu,rfl,fun _ _ _=>(.tup (xs:=[.str "load",.str "take"]) (.inr ⟨_,_,_,lc,rfl,rfl,(by show 2<=sizeLine;decide),(.cons ⟨_,rfl⟩ (.cons ⟨_,rfl⟩ .nil))⟩) (.cons (.str _) (.cons (.str _) .nil)))⟩,
   ⟨_,.ref a69,Bx X G et,rfl,fun _ _ _=>(.tup (xs:=[.str "store",.str "put"]) (.inr ⟨_,_,_,lb,rfl,rfl,(by show 2<=sizeLine;decide),(.cons ⟨_,rfl⟩ (.cons ⟨_,rfl⟩ .nil))⟩) (.cons (.str _) (.cons (.str _) .nil)))⟩,
   ⟨_,.ref a74,Bx X G c5,rfl,fun _ _ _=> .fn c5⟩,
   ⟨_,.ref a75,Bx X G bp,rfl,fun _ _ _=> .fn bp⟩,
   ⟨_,.ref a76,Bx X G bz,rfl,fun _ _ _=> .fn bz⟩,
   ⟨_,.ref a77,Bx X G bx,rfl,fun _ _ _=> .fn bx⟩,
   ⟨_,.ref a78,Bx X G d7,rfl,fun _ _ _=> .fn d7⟩,
   ⟨_,.ref a79,Bx X G cy,rfl,fun _ _ _=> .fn cy⟩,
   ⟨_,.ref a80,Bx X G d8,rfl,fun _ _ _=> .fn d8⟩,
   ⟨_,.ref a81,Bx X G cx,rfl,fun _ _ _=> .fn cx⟩,
   ⟨_,.ref a82,Bx X G b8,rfl,fun _ _ _=> .fn b8⟩,
   ⟨_,.ref a83,Bx X G cz,rfl,fun _ _ _=> .fn cz⟩,
   ⟨_,.ref a84,Bx X G c6,rfl,fun _ _ _=> .fn c6⟩,
   ⟨_,.ref a85,Bx X G du,rfl,fun _ _ _=> .fn du⟩,
   ⟨_,.ref a86,Bx X G c7,rfl,fun _ _ _=> .fn c7⟩,
   ⟨_,.ref a87,Bx X G c8,rfl,fun _ _ _=> .fn c8⟩,
   ⟨_,ax,Bx X G ax.at_⟩,
   ⟨_,ap,Bx X G ap.at_⟩,
   XI.of (Hn.mpr ⟨⟨_,ax⟩,Hn.mpr ⟨⟨_,ap⟩,nofun⟩⟩) xk⟩
 have ee:=zUG (st:=top 53) lz mq f6
 have mr:=ee.binds (ps:=Qx21) (ds:=[]) (m:=4) lq rfl fun _ _ _ _ _ _ us hl=>match us,hl with|[_,_,_,_],_=>⟨_,rfl,rfl⟩
 have j7:=ee.binds (ps:=Qx21) (ds:=[.int 0 t1]) (m:=3) lq rfl fun _ _ _ _ _ _ us hl=>match us,hl with|[_,_,_],_=>⟨_,rfl,rfl⟩
 have mw:=zLO (st:=top 82) ly mo m6
 refine⟨Es "law" "law" (zBW (top 82)) (zB3 (top 82)) (zA4 (top 82)) .none kV_x47 dc_x47 pm_x47 none cd_x47 ct_x47,fun s v=> .of_eq rfl,fun base _ _=> ?_⟩
 have am:DefV l.prog w K mg base "is_whole" 1 Qx0 [] zAO f_x0:=mkDf X G nh (fun U=>yBN U T) (Len3 fun _ _ _=>rfl)
 have jf:DefV l.prog w K mg base "plus" 1 Qx1 [] zLZ f_x1:=mkDf X G la (fun U=>yBM U T) (Len2 fun _ _=>rfl)
 have je:DefV l.prog w K mg base "minus" 1 Qx2 [] zII f_x2:=mkDf X G kx (fun U=>yBL U T) (Len2 fun _ _=>rfl)
 have jd:DefV l.prog w K mg base "times" 1 Qx3 [] zIG f_x3:=mkDf X G ki (fun U=>yBK U T) (Len2 fun _ _=>rfl)
 have jc:DefV l.prog w K mg base "least" 1 Qx4 [] zIJ f_x4:=mkDf X G k6 (fun U=>yBJ U T) (Len2 fun _ _=>rfl)
 have jb:DefV l.prog w K mg base "most" 1 Qx5 [] zM2 f_x5:=mkDf X G js (fun U=>yBI U T) (Len2 fun _ _=>rfl)
 have ja:DefV l.prog w K mg base "less" 1 Qx6 [] zM3 f_x6:=mkDf X G jr (fun U=>yBH U T) (Len2 fun _ _=>rfl)
 have j9:DefV l.prog w K mg base "over" 1 Qx7 [] zM1 f_x7:=mkDf X G jq (fun U=>yBG U T) (Len2 fun _ _=>rfl)
 have j8:DefV l.prog w K mg base "pick" 1 Qx8 [] zM0 f_x8:=mkDf X G ng (fun U=>yBF U T) (Len3 fun _ _ _=>rfl)
 have i6:DefV l.prog w K mg base "done" 2 Qx9 [] zM4 f_x9:=mkDf X G nb (fun U=>yBE U T jf je jd jc jb ja j9 j8) (Len2 fun _ _=>rfl)
 have cg:DefV l.prog w K mg base "parts_of" 1 Qx10 [] zB5 f_x10:=mkDf X G l9 (fun U=>zYG U T) (Len1 fun _=>rfl)
 have ei:DefV l.prog w K mg base "makes_word" 1 Qx11 [] zCI f_x11:=mkDf X G l8 (fun U=>zYF U T) (Len1 fun _=>rfl)
 have eh:DefV l.prog w K mg base "place_of" 1 Qx12 [] zEH f_x12:=mkDf X G l7 (fun U=>zYE U T) (Len1 fun _=>rfl)
 have cf:DefV l.prog w K mg base "names_of" 2 Qx13 [] zCR f_x13:=mkDf X G l6 (fun U=>zYD U T cg) (Len1 fun _=>rfl)
 have ao:DefV l.prog w K mg base "may_name" 2 Qx14 [] zAJ f_x14:=mkDf X G l5 (fun U=>zYC U T am) (Len2 fun _ _=>rfl)
 have gy:DefV l.prog w K mg base "fits" 3 Qx15 [] zDZ f_x15:=mkDf X G l4 (fun U=>zYB U T am ao) (Len3 fun _ _ _=>rfl)
 have cb:DefV l.prog w K mg base "is_row" 4 Qx16 [] zCG f_x16:=mkDf X G l3 (fun U=>zYA U T cg gy) (Len2 fun _ _=>rfl)
 have gx:DefV l.prog w K mg base "is_lanes" 2 Qx17 [] zC5 f_x17:=mkDf X G l0 (fun U=>zY9 U T am) (Len1 fun _=>rfl)
 have c9:DefV l.prog w K mg base "is_cells" 2 Qx18 [] zBB f_x18:=mkDf X G kz (fun U=>zY8 U T am) (Len2 fun _ _=>rfl)
 have gw:DefV l.prog w K mg base "touches" 1 Qx19 [] zFC f_x19:=mkDf X G ky (fun U=>zY7 U T) (Len2 fun _ _=>rfl)
 have eg:DefV l.prog w K mg base "do_on_cell" 2 Qx20 [3] zD4 f_x20:=mkDf X G kw (fun U=>zY6 U T gw) (Len4 fun _ _ _ _=>rfl)
 have dg:DefV l.prog w K mg base "do_row" 3 Qx21 [2] zD3 f_x21:=⟨Bx X G il,⟨_,zS5 ee T i6 eh eg,mr⟩,f6⟩
 have dn:DefD l.prog w K mg base "do_row" 3 Qx21 (spV K [2] 4 zD3) f_x21 (.int 0):=⟨Bx X G il,⟨_,_,zS5 ee T i6 eh eg,j7,by first|exact⟨_,rfl⟩|rfl⟩,f6⟩
 have b5:DefV l.prog w K mg base "is_for_lanes" 1 Qx22 [] zAV f_x22:=mkDf X G ku (fun U=>zY5 U T) (Len2 fun _ _=>rfl)
 have gv:DefV l.prog w K mg base "is_wide" 5 Qx23 [] zC2 f_x23:=mkDf X G kr (fun U=>zY4 U T am cb b5) (Len3 fun _ _ _=>rfl)
 have gu:DefV l.prog w K mg base "is_gather" 3 Qx24 [] zC4 f_x24:=mkDf X G kq (fun U=>zY3 U T ao b5) (Len3 fun _ _ _=>rfl)
 have gq:DefV l.prog w K mg base "is_shuffle" 3 Qx25 [] zBX f_x25:=mkDf X G ko (fun U=>zY2 U T am ao b5) (Len3 fun _ _ _=>rfl)
 have gp:DefV l.prog w K mg base "is_lane" 3 Qx26 [] zCX f_x26:=mkDf X G kn (fun U=>zY1 U T am ao) (Len3 fun _ _ _=>rfl)
 have gn:DefV l.prog w K mg base "is_program_row" 6 Qx27 [] zAN f_x27:=mkDf X G km (fun U=>zY0 U T cb gv gu gq gp) (Len4 fun _ _ _ _=>rfl)
 have gm:DefV l.prog w K mg base "kind_made" 2 Qx28 [] zCW f_x28:=mkDf X G kl (fun U=>zXZ U T ei) (Len1 fun _=>rfl)
 have gl:DefV l.prog w K mg base "are_program_rows" 7 Qx29 [] zAU f_x29:=mkDf X G kj (fun U=>zXY U T gn gm) (Len2 fun _ _=>rfl)
 have ai:DefV l.prog w K mg base "is_program" 8 Qx30 [] zAB f_x30:=mkDf X G kh (fun U=>zXX U T am gx gl) (Len1 fun _=>rfl)
 have gk:DefV l.prog w K mg base "do_wide" 4 Qx31 [2,3] zFD f_x31:=mkDf X G kg (fun U=>zXW U T cf dg) (Len4 fun _ _ _ _=>rfl)
 have gj:DefV l.prog w K mg base "moved" 1 Qx32 [1] zIH f_x32:=mkDf X G kf (fun U=>zXV U T) (Len2 fun _ _=>rfl)
 have df:DefV l.prog w K mg base "do_program_row" 5 Qx33 [2,3] zBO f_x33:=mkDf X G kc (fun U=>zXU U T cf dg gk gj dn) (Len4 fun _ _ _ _=>rfl)
 have dk:DefX l.prog w K mg base "run_program" 9 Qx34 zBE f_x34:=zYK X G ig (fun U=>zTZ U T c9 ai df) (Len2 fun _ _=>rfl)
 have gf:DefV l.prog w K mg base "run_program" 9 Qx34 [] zBF f_x34:=mkDf X G ig (fun U=>zXT U T c9 ai df) (Len2 fun _ _=>rfl)
 have de:DefV l.prog w K mg base "row_cost" 1 Qx35 [] zDH f_x35:=mkDf X G ka (fun U=>zXS U T) (Len2 fun _ _=>rfl)
 have dj:DefX l.prog w K mg base "cost_of" 9 Qx36 zDG f_x36:=zYK X G i9 (fun U=>zTY U T ai de) (Len1 fun _=>rfl)
 have gd:DefV l.prog w K mg base "cost_of" 9 Qx36 [] zDJ f_x36:=mkDf X G i9 (fun U=>zXR U T ai de) (Len1 fun _=>rfl)
 have gc:DefV l.prog w K mg base "_law_cell_at" 1 Qx37 [] zBG f_x37:=mkDf X G k9 (fun U=>zXQ U T) (Len2 fun _ _=>rfl)
 have gb:DefV l.prog w K mg base "_law_mixed" 2 Qx38 [] zCD f_x38:=mkDf X G k8 (fun U=>zXP U T gc) (Len3 fun _ _ _=>rfl)
 have ag:DefV l.prog w K mg base "_law_draw" 3 Qx39 [1] zAM f_x39:=mkDf X G k7 (fun U=>zXO U T gb) (Len3 fun _ _ _=>rfl)
 have al:DefV l.prog w K mg base "_law_pick" 4 Qx40 [1] zAT f_x40:=mkDf X G jz (fun U=>zXN U T ag) (Len3 fun _ _ _=>rfl)
 have bq:DefV l.prog w K mg base "_law_place" 5 Qx41 [1,2] zB9 f_x41:=mkDf X G jy (fun U=>zXM U T ag al) (Len5 fun _ _ _ _ _=>rfl)
 have g0:DefV l.prog w K mg base "_law_row" 6 Qx42 [1,3] zDI f_x42:=mkDf X G jx (fun U=>zXL U T ag al bq) (Len5 fun _ _ _ _ _=>rfl)
 have dm:DefH l.prog w K mg base "_law_which" 1 Qx43 (spV K [] 1 zCC) f_x43:=yC3 X G jw (fun U=>zXK U T) (Len1 fun _=>rfl)
 have fw:DefV l.prog w K mg base "_law_program" 7 Qx44 [1] zBM f_x44:=mkDf X G jv (fun U=>zXJ U T ag al g0) (Len3 fun _ _ _=>rfl)
 have ef:DefV l.prog w K mg base "_law_ask" 10 Qx45 [] zBI f_x45:=mkDf X G ju (fun U=>zXI U T gf gd dm dk dj) (Len3 fun _ _ _=>rfl)
 have fu:DefV l.prog w K mg base "_law_bad_rows" 1 Qx46 [] zC1 f_x46:=mkDf X G jt (fun U=>zXH U T) (Len2 fun _ _=>rfl)
 exact zXG mw T ai ag al fw ef fu
theorem zQB(K:A5)(H:Hp)(a:Addr)(ns:List Int)(hl:ns.length<=63)(h:SqL K H a (ns.map V.int)):spV K [] 1 zMR [.ref a] H (fun v _=>v= .bl true) fun _ _ _=>False:=by
 have hr:RepA K (Zp (fun _=>False) [] [.ref a]) H (ns.map V.int) (ns.map Dat.int):=by
  clear h hl
  induction ns with
  |nil=>exact .nil
  |cons n ns ih=>exact .cons (.int n) ih
 have hz: ∀b,¬Zp (fun _=>False) [] [V.ref a] b:=fun b h=>by
  rcases h with h|⟨i,h,_⟩
  ·exact h
  ·cases h
 refine⟨fun _=>False,[.lst (ns.map .int)],.bl true,[],rfl,⟨rfl,(fun i h=>nomatch h),fun i d hi e=> ?_,(fun i d h=>nomatch h),(fun i j b h=>nomatch h),fun a h=>h.elim⟩,zR1 ns hl,fun v H' _ _ r=>by cases r;rfl⟩
 cases i with
 |zero=>
  cases e
  refine⟨_,rfl,?_⟩
  rcases h with(h|⟨o,h⟩)|h
  ·exact .lst h (hz a) hr
  ·exact .fzl (.inl ⟨o,h⟩) hr
  ·exact .fzl (.inr h) hr
 |succ i=>cases i<;>cases e
end RR
open PySem PySem.W PyProof.Rows
set_option maxRecDepth 100000 in
set_option maxHeartbeats 0 in
theorem PySem.Challenge.cw_lanepacks_k14_programs_holds : PySem.Challenge.rw_lanepacks_k14_programs.Holds := by
 w_on;refine holds_law KK.said fun said=> ?_
 refine holds_open (q:=KK.view) (loose:=KK.lo) (Xt:=KK.X) (XP:=XL KK.view []) (Yf:=KK.H.obs) (Ya:=KK.H.val) (YP:=KK.H.says) (N:=10386) KK.hl (Hook.of _) (Hook.keeps _) (fun s e=>xl_of s (Ho.mp e).1) XL.keeps (by rfl) (by rfl) (by rfl) (fun s e=>recFacts_of (Ho.mp e).2) (by rfl) (by first|assumption|decide+kernel) (by decide+kernel) ⟨rfl,rfl,rfl,rfl,rfl,by decide+kernel⟩ ?hw ?hc
 case hw=>w_witness2
 refine L2.zPX (l:=Go) (n:=63) (k:=11) (x:= "_law_script") (CX:=L2.CX0) (sp:=fun K=>L2.spV K [] 1 L2.zMR) rfl (by decide) rfl ⟨rfl,by decide,by decide⟩ (fun w h Y=>W.kIn_of (K:=KK.K) (as:=KK.A) (e:=KK.kA) Y) ?F (fun K H a ns hl _ hS=>RR.zQB K H a ns hl hS) fun _ _ _ _ z=>z
 case F=>
  intro w mg fa h KX G hmg
  exact RR.zZJ (K:=KK.K w.params) (f_x0:=224) (f_x1:=231) (f_x2:=238) (f_x3:=245) (f_x4:=252) (f_x5:=259) (f_x6:=266) (f_x7:=273) (f_x8:=280) (f_x9:=288) (f_x10:=305) (f_x11:=312) (f_x12:=319) (f_x13:=324) (f_x14:=331) (f_x15:=338) (f_x16:=343) (f_x17:=350) (f_x18:=355) (f_x19:=362) (f_x20:=369) (f_x21:=377) (kV_x21:= .none) (dc_x21:= .none) (pm_x21:= .str "lanepacks.running" 672) (cd_x21:= .ref 376) (ct_x21:= .none) (t1:=700) (a2:=370) (f_x22:=384) (f_x23:=389) (f_x24:=394) (f_x25:=399) (f_x26:=406) (f_x27:=413) (f_x28:=420) (f_x29:=427) (f_x30:=434) (f_x31:=439) (f_x32:=444) (f_x33:=449) (f_x34:=456) (f_x35:=463) (f_x36:=468) (f_x37:=475) (f_x38:=482) (f_x39:=489) (f_x40:=496) (f_x41:=503) (f_x42:=508) (f_x43:=515) (f_x44:=520) (f_x45:=527) (f_x46:=534) (f_x47:=541) (kV_x47:= .none) (dc_x47:= .none) (pm_x47:= .str "law_lanepacks_k14_programs" 844) (cd_x47:= .ref 540) (ct_x47:= .none) (t3:=460) (t4:=462) (t5:=463) (t6:=464) (t7:=465) (t8:=466) (t9:=467) (t10:=468) (a11:=217) (t12:=544) (t13:=545) (t14:=546) (t15:=547) (t16:=548) (t17:=549) (t18:=550) (a19:=281) (h20:=Ay w.params "plus") (h21:=Ay w.params "minus") (h22:=Ay w.params "times") (h23:=Ay w.params "least") (h24:=Ay w.params "most") (h25:=Ay w.params "less") (h26:=Ay w.params "over") (t27:=570) (t28:=572) (t29:=574) (t30:=575) (a31:=289) (t32:=577) (t33:=579) (t34:=583) (t35:=585) (t36:=589) (t37:=592) (t38:=578) (a39:=291) (t40:=580) (t41:=581) (t42:=582) (a43:=292) (t44:=584) (a45:=293) (t46:=586) (t47:=587) (t48:=588) (a49:=294) (t50:=590) (t51:=591) (a52:=295) (t53:=593) (t54:=594) (t55:=595) (a56:=296) (a57:=290) (h58:=Ay w.params "number") (h59:=Ay w.params "pick") (h60:=Ay w.params "load") (h61:=Ay w.params "take") (h62:=Ay w.params "store") (h63:=Ay w.params "put") (t64:=603) (t65:=604) (a66:=297) (t67:=606) (t68:=607) (a69:=298) (t70:=661) (t71:=663) (t72:=674) (t73:=716) (a74:=214) (a75:=202) (a76:=183) (a77:=171) (a78:=159) (a79:=140) (a80:=128) (a81:=116) (a82:=104) (a83:=92) (a84:=80) (a85:=68) (a86:=49) (a87:=37) KX G hmg
   (KK.p _ 224 19 "is_whole" (.str "lanepacks.words" 458))
   (KK.p _ 231 20 "plus" (.str "lanepacks.words" 458))
   (KK.p _ 238 21 "minus" (.str "lanepacks.words" 458))
   (KK.p _ 245 22 "times" (.str "lanepacks.words" 458))
   (KK.p _ 252 23 "least" (.str "lanepacks.words" 458))
   (KK.p _ 259 24 "most" (.str "lanepacks.words" 458))
   (KK.p _ 266 25 "less" (.str "lanepacks.words" 458))
   (KK.p _ 273 26 "over" (.str "lanepacks.words" 458))
   (KK.p _ 280 27 "pick" (.str "lanepacks.words" 458))
   (KK.p _ 288 29 "done" (.str "lanepacks.words" 458))
   (KK.p _ 305 37 "parts_of" (.str "lanepacks.blocks" 568))
   (KK.p _ 312 38 "makes_word" (.str "lanepacks.blocks" 568))
   (KK.p _ 319 39 "place_of" (.str "lanepacks.blocks" 568))
   (KK.p _ 324 40 "names_of" (.str "lanepacks.blocks" 568))
   (KK.p _ 331 41 "may_name" (.str "lanepacks.blocks" 568))
   (KK.p _ 338 42 "fits" (.str "lanepacks.blocks" 568))
   (KK.p _ 343 43 "is_row" (.str "lanepacks.blocks" 568))
   (KK.p _ 350 47 "is_lanes" (.str "lanepacks.plans" 659))
   (KK.p _ 355 50 "is_cells" (.str "lanepacks.running" 672))
   (KK.p _ 362 51 "touches" (.str "lanepacks.running" 672))
   (KK.p _ 369 52 "do_on_cell" (.str "lanepacks.running" 672))
   (by kernel_rfl)
   (by kernel_rfl)
   (by kernel_rfl)
   (by kernel_rfl)
   (by kernel_rfl)
   (KK.p _ 384 56 "is_for_lanes" (.str "lanepacks.machines" 714))
   (KK.p _ 389 57 "is_wide" (.str "lanepacks.machines" 714))
   (KK.p _ 394 58 "is_gather" (.str "lanepacks.machines" 714))
   (KK.p _ 399 59 "is_shuffle" (.str "lanepacks.machines" 714))
   (KK.p _ 406 60 "is_lane" (.str "lanepacks.machines" 714))
   (KK.p _ 413 61 "is_program_row" (.str "lanepacks.machines" 714))
   (KK.p _ 420 62 "kind_made" (.str "lanepacks.machines" 714))
   (KK.p _ 427 63 "are_program_rows" (.str "lanepacks.machines" 714))
   (KK.p _ 434 64 "is_program" (.str "lanepacks.machines" 714))
   (KK.p _ 439 65 "do_wide" (.str "lanepacks.machines" 714))
   (KK.p _ 444 66 "moved" (.str "lanepacks.machines" 714))
   (KK.p _ 449 67 "do_program_row" (.str "lanepacks.machines" 714))
   (KK.p _ 456 68 "run_program" (.str "lanepacks.machines" 714))
   (KK.p _ 463 69 "row_cost" (.str "lanepacks.machines" 714))
   (KK.p _ 468 70 "cost_of" (.str "lanepacks.machines" 714))
   (KK.p _ 475 72 "_law_cell_at" (.str "law_lanepacks_k14_programs" 844))
   (KK.p _ 482 73 "_law_mixed" (.str "law_lanepacks_k14_programs" 844))
   (KK.p _ 489 74 "_law_draw" (.str "law_lanepacks_k14_programs" 844))
   (KK.p _ 496 75 "_law_pick" (.str "law_lanepacks_k14_programs" 844))
   (KK.p _ 503 76 "_law_place" (.str "law_lanepacks_k14_programs" 844))
   (KK.p _ 508 77 "_law_row" (.str "law_lanepacks_k14_programs" 844))
   (KK.p _ 515 78 "_law_which" (.str "law_lanepacks_k14_programs" 844))
   (KK.p _ 520 79 "_law_program" (.str "law_lanepacks_k14_programs" 844))
   (KK.p _ 527 80 "_law_ask" (.str "law_lanepacks_k14_programs" 844))
   (KK.p _ 534 81 "_law_bad_rows" (.str "law_lanepacks_k14_programs" 844))
   (by kernel_rfl)
   (by kernel_rfl)
   (by kernel_rfl)
   (by kernel_rfl)
   (by kernel_rfl)
   (by kernel_rfl)
   (by kernel_rfl)
   (by kernel_rfl)
   (by kernel_rfl)
   (by kernel_rfl)
   (by kernel_rfl)
   (by kernel_rfl)
   (by kernel_rfl)
   (by kernel_rfl)
   (by kernel_rfl)
   (by kernel_rfl)
   (by kernel_rfl)
   (by kernel_rfl)
   (by kernel_rfl)
   (by kernel_rfl)
   (by kernel_rfl)
   (by kernel_rfl)
   (by kernel_rfl)
   (by decide)
   (by kernel_rfl)
   (by kernel_rfl)
   (by kernel_rfl)
   (by kernel_rfl)
   (by kernel_rfl)
   (by kernel_rfl)
   (by kernel_rfl)
   (by kernel_rfl)
   (by kernel_rfl)
   (by kernel_rfl)
   (by kernel_rfl)
   (by kernel_rfl)
   (by decide)
   (by kernel_rfl)
   (by kernel_rfl)
   (by kernel_rfl)
   (by kernel_rfl)
   (by kernel_rfl)
   (by kernel_rfl)
   (by kernel_rfl)
   (by kernel_rfl)
   (by kernel_rfl)
   (by kernel_rfl)
   (by kernel_rfl)
   (by kernel_rfl)
   (by kernel_rfl)
   (by kernel_rfl)
   (by kernel_rfl)
   (by kernel_rfl)
   (by kernel_rfl)
   (by kernel_rfl)
   (by kernel_rfl)
   (by kernel_rfl)
   (by kernel_rfl)
   (by kernel_rfl)
   (by kernel_rfl)
   ⟨by kernel_rfl,by kernel_rfl,⟨by kernel_rfl,by kernel_rfl,by kernel_rfl,by kernel_rfl,by kernel_rfl,by kernel_rfl,by kernel_rfl⟩,by kernel_rfl,24,⟨by kernel_rfl,by kernel_rfl,by kernel_rfl,by kernel_rfl,by kernel_rfl⟩⟩
   ⟨by kernel_rfl,by kernel_rfl,⟨by kernel_rfl,by kernel_rfl,by kernel_rfl,by kernel_rfl,by kernel_rfl,by kernel_rfl,by kernel_rfl⟩,by kernel_rfl,24,⟨by kernel_rfl,by kernel_rfl,by kernel_rfl,by kernel_rfl,by kernel_rfl⟩⟩
   (by kernel_rfl)
end
