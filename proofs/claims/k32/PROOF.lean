import PyProof.Rows.All
import KE.KFromBytes
import KE.KTab
import KE.KIsAll
import KE.KDictOf
import KE.KEqDeep
import KE.KItem
import KE.KUnpackStar
import Wide.FinOn
import Wide.Line
import KE.KSortTup
import PyProof.AttrMissSeq
import OpenK.KOwn
import Open.TreeImp
import PySem.Challenge.RW_lanepacks_k32_loops
set_option Elab.async false
set_option linter.all false
set_option maxRecDepth 100000
set_option maxHeartbeats 4000000
set_option bootstrap.genMatcherCode false
set_option compiler.extract_closed false
open PySem renaming wpAny_bind→Aa,Shared→Ad,wpAny_pure→Af,wpAny_mono→An,Program→Au,mem_of_lookup→Bi,bootBuiltins→Bl,wpAny_holding→Bo,sizeLine_eq→Bu,Around→Bx,FuncData→Ck,compareOp→Cn,wpAny_Call_Name_kw→Co,keywordEach→Cr,wpAny_standAt→Cv,wpAny_callSpecial?_slot→Cy,wpAny_newObj_type→Cz,wpAny_seqItems→Df,backTo→Dq,wpAny_field→Dr,wpAny_truthy_bool→Du,wpAny_call_entry→Eb,Builtin→Ed,letOwnedTupleGo→Eg,codeAny→Ej,binaryOp→Ep,backToKw→Er,wpAny_setField_rec→Es,sysModules→Ez,wpAny_comprehension_free→Fd,codeAny_mono→Fe,importedModules→Fl,swapsWith→Fm,wpAny_assign_Name→Ft,attributeBase→Fu,call_meets→Fv,Keyword→Ge,swapsWithSole→Gj,swappedStores→Gk,wpAny_pyIter_tuple→Gm,wpAny_passesOwn→Go,behindInMarks→Gp,tupleKind_room_in1→Gr,codeAny_builtin→Gw,Spec→Hb,wpAny_pyIter_list→Hc,sliceBounds→He,wpAny_letGo→Hf,wpAny_tryCatch→Hh,wpAny_updateSeq_pair→Hn,codeAny_call_builtin→Ho,plainId_quiet→Hu,wpAny_rule→Hw,pushCells_keeps→Ii,wpAny_updateSeq→Ij,wpAny_newFunctionEnv_cells→Ip,recursionLimit→Ja,newFunctionEnv→Je,wpAny_binaryOp_repeat_ref→Jf,wpAny_call→Jh,wpAny_sequenceKey→Jk,pushCells→Jn,fenceModules?→Jo,standAt→Jq,holding→Jr,getItem→Js,wpAny_onRaise→Jw,noFill_tuple_add→Kb,wpAny_pyNext_list_item→Kf,codeAny_compStart_list→Ki,DictEntry→Kj,wpAny_execs_nil→Kl,wpAny_pyNext_list_end→Km,codeAny_call_function→Kn,concat_meets→Ko,call_meetsIn→Kr,theTreesLotGoes→Kt,seqItems?→Ku,exec_Assign_Name_used→Kw,typeIs_int→Le,ZipApart→Lf,PyData→Lk,BindsTo→Lo,callerA→Lp,unpackItems→Lr,bltViewBooted→Lx,Result→Ma,wpAny_evalAll_cons→Mb,seq_tuple_add→Md,wpAny_attempt→Mg,name_of_addr→Mj,wpAny_evalAll_nil→Mr,valueAt→Ms,wpAny_Call_method→Mt,wpAny_pyIter_enum→My,Params→Nf,wpAny_typeOf→Nh,seqIndex_neg→Ni,typeOf→Nj,codeAny_loop→Nk,seqSlot_of→Nx,pinGoodD→Ob,compTurn→Oh,compEnvC→Oi,callWith→Oj,pyIter→Ot,lastMarks→Ov,seqIndex_of→Ow,noteFrame→Oy,wpAny_noted→Oz,wpAny_of_eq→Pb,wpAny_Name→Po,call→Pp,isInstance→Pq,pinSeenD→Ps,newList→Qb,compPost→Qd,Within→Qh,again→Qq
open Bool renaming and_eq_true→Ac,false_ne_true→Db,false_eq_true→Fk,or_eq_true→Ie,beq_eq_decide_eq→Kz,and_eq_true_iff→Lj,or_false→Pz,false_or→Qa,true_and→Qf
open PySem.Heap renaming get?_push_of_some→Ae,lt_size→Aj,get?_push_size→At,size_push→Ch,get?_update_other→Dc,SameBut→Ef,get?_update_self→Fo,ExtBut→Ic,FlyingW→Kx,get?_push_ne→Mx
open Option renaming bind_some→Ag,isSome_some→Me,getD_none→Nq
open List renaming getElem?_eq_some_iff→Ah,size_toArray→Ak,getElem?_append_left→Am,mem_cons→Ao,replicate→Ap,mem_append_right→Ar,mem_cons_of_mem→Av,mem_singleton→Ax,range→Ay,mem_append_left→Bf,mem_cons_self→Bg,not_mem_nil→Bk,getElem?_set_ne→Bm,length_set→Bv,getElem?_take_of_lt→By,getElem?_append_right→Bz,lookup_cons→Ca,getElem?_replicate→Cb,getElem?_eq_none→Cc,length_append→Cg,length_take→Cj,getElem?_set_self→Cm,map_cons→Cq,nodup_cons→Cs,all_eq_true→Cu,getElem?_map→Cw,append_nil→Dd,length_map→De,length_cons→Dg,lookup_cons_self→Dk,mem_range→Dn,take_of_length_le→Dt,drop_eq_getElem_cons→Dx,replicate_succ→Em,mem_of_getElem?→Ex,mem_append→Fa,take_append_of_le_length→Ff,find?_cons→Fp,append_assoc→Fw,flatten_cons→Fx,forall_mem_cons→Fz,drop_length→Gd,getElem?_eq_getElem→Gi,length_eq_zero_iff→Gv,length_replicate→Hi,map_nil→Hj,mem_iff_getElem?→Hk,mem_map→Hl,filterMap_cons→Hy,of_mem_zip→Hz,length_nil→Ia,forIn_cons→Ib,mem_filterMap→Iw,map_map→Iz,getElem?_eq_none_iff→Jd,any_cons→Jt,cons_append→Kc,length_singleton→Kq,nil_append→Ky,set_append_right→La,getElem?_mapIdx→Lh,forIn_nil→Ll,lookup→Lq,getElem?_take→Mk,ext_getElem?→Mv,zip_nil_left→Mw,getElem_inj→No,length_drop→Np,zipIdx_cons→Nt,mem_filter→Oq,zip_append→Pa,zipIdx_nil→Pd,map_append→Pg,drop_zero→Pk,mapM_cons→Pl,all_cons→Qc,all_map→Qk
open PySem.W renaming Frag→Ai,mg_of→Ci,mg_none_of→Dm,kia_one→Ei,keepIn→Fj,nsIn→Fq,kitOne→Hq,opening→Hx,callWith_K→Ix,fnOf→Ji,looseW→Jz,cellsFrom_some→Ka,SharedT→Lm,kitx_list→Ln,hideAll_get→Lz,codeIn→Mc,looks_findIn→Nl,openEnds→Oa,wideGood→Od,clsGoodW→Oe,findIn→Of,methodObj→Op,absHeap→Pr,wideSeen→Pt,clsSeenW→Pu,instObj→Qg,OpenLaw→Qj,clsIn→Qr
open Or renaming inr→Al,inl→Aw
open Nat renaming lt_of_lt_of_le→Aq,le_refl→As,ne_of_lt→Be,lt_irrefl→Bw,le_of_succ_le→Dw,le_trans→Dy,zero_le→Ek,ne_of_gt→Fn,le_succ→Gf,zero_add→Gg,lt_of_succ_lt_succ→Kh,not_lt_zero→Kv,le_of_lt→Ng,lt_of_not_le→Nr,succ_le_succ→Nv,not_le_of_lt→Nw,min_le_left→Pe
open PySem.Str renaming ofString→Az,ofString_eq_toList→Ha
open PySem.NameKind renaming free→Ba,cell→Bp
open Option.some renaming inj→Bb
open PySem.Value renaming ref→Bj,bool→Fs,type→Jg,int→Om,str→Oo,isStrOf→Pw,isInt→Qm,float→Qn
open PySem.Builtin.SmallTypes renaming nextOf→Bq,ownedTupleIsFree→Di,ownedTupleHandOut→Gc
open PySem.F renaming slot_list_append→Br,type_list_append→Bt,slot_list_extend→Ce,type_list_extend→Cf,slot_dict_get→Dj,plain_min_loop→Ds,entry_dict_get→En,slot_tuple_iterator_next→Eo,args_tuple_add_2→Gh,entry_tuple_add→Gq,args_dict_get_2→Gs,plainAttrs_list→Gu,slot_tuple_add→Gz,entry_min_loop→Hm,args_tuple_iterator_next_1→Ht,entry_tuple_iterator_next→Ig,slot_zip_next→Ih,slot_int_rmul→Il,slot_dict_getitem→Jb,args_dict_get_3→Ju,plainAttrs_dict→Jv,slot_list_index→Jx,type_list_index→Jy,type_dict_get→Ks,args_list_index_2→Lv,entry_list_index→Mh,args_tuple_mul_2→Ml,args_zip_next_1→Mz,slot_list_index→Na,args_int_rmul_2→Nb,entry_tuple_mul→Nc,entry_zip_next→Nu,entry_int_rmul→Ny,slot_tuple_mul→Nz,fills_int_mul→Pf
open PySem.AutoSeq1 renaming wpAny_loadPart'→Cd,idx_int→Ke
open ForInStep renaming yield→Ct
open Array renaming length_toList→Dh,toList→Qi
open PyProof.Rows renaming slot_tuple_getitem→Dv,callWith_type1→Eh,assignInOrder_cons→Iv,AllBare→Jp,subscriptTail_builtinR→Kg,drecsOf→Kk,plainGoodE→Lc,plainGoodD→Ld,plainSeenE→Mm,plainSeenD→Mn,assignInOrder_nil→Mq,IntsAre→Ox,expectedOf→Pn,tail_any→Py
open PySem.SeqAt renaming shaped→Dz,list_indexAt→Mi
open PySem.PassesOwn renaming never→Ea
open PySem.PyData renaming keyHash→Ec,depthAll→El,canLay0→Gb,canLayAll0→Hg,eqv→Hv,depth→Iy,int→Mu,strOk→Ql
open Ne renaming symm→Ee
open Prod.mk renaming inj→Et
open PySem.Builtin.Slice renaming slicePlaces→Eu,sliceAdjust→Ga,sliceApplied→Iq,slicePartIndex→Og,sliceFields→Pj
open PyProof.Rows.KTD renaming datumAt→Ew
open PySem.Calls renaming evalArgs_plain→Ey,callWith_builtin→Fh,spliced_cons→Fi,spliced_nil→Hd,Name_function_global→Io
open PySem.Builtin.Tuple renaming tupleExact→Fb,tupleItemsOf→Ir,tupleTooMany→Iu,tupleIsExact→Ph
open PySem.Builtin.List renaming listTooLong→Fc
open False renaming elim→Fg
open PySem.Around renaming under_plainId→Fy
open List.cons renaming injEq→Gx
open Int renaming emod_lt_of_pos→Gy,emod_nonneg→Im,toNat_natCast→Jj,toNat_of_nonneg→Lw
open Prod renaming snd→Hr,fst→Hs
open PySem.Builtin.Builtins renaming bindParams→Ik
open PySem.Obj renaming mapSeq→Jl,data_mapFields→Mf
open List.Pairwise renaming nil→Jm
open PyProof.Rows.IsTup renaming new→Kp
open PySem.Challenge renaming pw_lanepacks_k32_loops→Lb,rw_lanepacks_k32_loops→Lg
open PySem.SeqAt.EqAt renaming bool_bool→Li
open PySem.Heap.SameBut renaming update→Ls
open PySem.Builtin.Dict renaming missed→Lu
open PySem.Paired renaming length→Ly,snoc→Qo
open Sum renaming inl→Mo,inr→Mp
open Char renaming toNat→Nd
open PySem.W.Looks renaming ld→Ol
open PySem.Shared renaming heap→Pc
open PySem.Bind renaming checkArgs→Pm
open PySem.Builtin.Range renaming rangeSize→Px
open PySem.Heap.UpToSlots renaming of_keeps→Qe
open PySem.Heap.Ns renaming new→Qp
open PySem.Heap.IsSliceOf renaming new→Qs
open PySem.W.WShape renaming has→Qt
noncomputable section
namespace KK
open PySem PySem.W
noncomputable def JO:List Obj->Nat->BT->Option BT
 |[],_,t=>some t
 |o::l,n,t=>match((t.ins n o).get n).isSome with
  |true=>JO l (n+1) (t.ins n o)
  |false=>none
theorem NE{life:Life}: ∀{l:List Obj} {n:Nat} {t t':BT},JO l n t=some t'->Pr t' (n+l.length) life=⟨(Pr t n life).objs++l.toArray,life⟩
 | [],n,t,t',h => by cases h;simp [Pr]
 | o :: l,n,t,t',h => by
  unfold JO at h
  split at h
  ·rename_i g
   have ih:=NE (life:=life) h
   rw[show n+(o::l).length=n+1+l.length by simp;omega,ih,absHeap_ins g]
   simp[Heap.push]
  ·cases h
noncomputable def toT(s:Ad):Option Lm:=(JO s.heap.objs.toList 0 .nil).map fun t=>⟨t,s.heap.objs.size,s.heap.life,s.gens,s.drawn,s.toks,s.os⟩
theorem G9{s:Ad}{u:Lm}(h:toT s=some u):u.abs=s:=by
 unfold toT at h
 cases e:JO s.heap.objs.toList 0 .nil with
 |none=>rw[e] at h;cases h
 |some t=>
  rw[e] at h
  cases h
  have:=NE (life:=s.heap.life) e
  simp only[Gg,Dh] at this
  obtain⟨⟨objs,life⟩,gens,drawn,toks,os⟩:=s
  show(⟨Pr t objs.size life,gens,drawn,toks,os⟩:Ad)=_
  rw[this]
  simp[Pr,BT.list]
noncomputable def WZ(tb:String->Option Ed)(p:Au)(w:World)(n₀:Nat)(ann:Option Value):Nat->Lm->Thread->Option Lm
 | 0,_,_ => none
 | n + 1,s,t => match through t with
  | true => some s
  | false => match stepOk n₀ ann t with
   |false=>none
   |true=>match stepT (denote tb) p w s t with
    |some (s',t')=>WZ tb p w n₀ ann n s' t'
    |none=>none
theorem QB{tb:String->Option Ed}{p:Au}{w:World}{n₀:Nat}{ann:Option Value}: ∀{n:Nat} {s s':Lm} {t:Thread},WZ tb p w n₀ ann n s t=some s'->topRun tb p w n₀ ann n s.abs t=some s'.abs
 | 0,_,_,_,h => by cases h
 | n + 1,s,s',t,h => by
  unfold WZ at h
  unfold topRun
  cases ht:through t with
  | true => rw [ht] at h;cases h;rfl
  |false=>
   rw[ht] at h
   cases hk:stepOk n₀ ann t with
   |false=>rw[hk] at h;cases h
   |true=>
    rw[hk] at h
    cases hs:stepT (denote tb) p w s t with
    |none=>rw[hs] at h;cases h
    |some r=>obtain⟨s₂,t₂⟩:=r;rw[hs] at h;rw[stepT_spec hs];exact QB h
noncomputable def HS(tb:String->Option Ed)(p:Au)(w:World):Nat->Lm->Thread->Option Lm
 | 0,_,_ => none
 | n + 1,s,t => match t.atExitBegin with
  |some []=>some s
  |some (_::_)=>none
  |none=>match stepT (denote tb) p w s t with
   |some (s',t')=>HS tb p w n s' t'
   |none=>none
theorem GG{tb:String->Option Ed}{p:Au}{w:World}: ∀{n:Nat} {s s':Lm} {t:Thread},HS tb p w n s t=some s'->importEnds tb p w n s.abs t=some s'.abs
 | 0,_,_,_,h => by cases h
 | n + 1,s,s',t,h => by
  unfold HS at h
  unfold importEnds
  cases he:t.atExitBegin with
  |some x=>
   rw[he] at h
   cases x with
   |nil=>cases h;rfl
   |cons=>cases h
  |none=>
   rw[he] at h
   cases hs:stepT (denote tb) p w s t with
   |none=>rw[hs] at h;cases h
   |some r=>obtain⟨s₂,t₂⟩:=r;rw[hs] at h;dsimp only;rw[stepT_spec hs];exact GG h
noncomputable def NL(tb:String->Option Ed)(p:Au)(w:World)(N:Nat):Option Ad:=
 (toT (start (Hx p)).1).bind fun u => (HS tb (Hx p) w N u (start (Hx p)).2).bind fun u1 => (Jo p u1.abs).bind fun s₀ =>
 match s₀.heap.isNs mainGlobals && s₀.gens.size==0 with
 | true => (toT s₀).bind fun v => (WZ tb p w s₀.heap.objs.size (s₀.heap.nsMap mainGlobals "__annotations__") N v (topStub p)).bind fun v1 =>
  match staticsOk (Fl p.main.body) s₀.heap v1.abs.heap && namesBound p v1.abs.heap && gensDone v1.abs && laidKept s₀.heap v1.abs.heap with
   |true=>some v1.abs
   |false=>none
 |false=>none
theorem JV{tb:String->Option Ed}{p:Au}{w:World}{N:Nat}{s:Ad}(h:NL tb p w N=some s):Oa tb p w N=some s:=by
 unfold NL at h
 unfold Oa fencedOpening
 cases e1:toT (start (Hx p)).1 with
 | none => rw [e1] at h;cases h
 |some u=>
  rw[e1,Ag] at h
  cases e2:HS tb (Hx p) w N u (start (Hx p)).2 with
  | none => rw [e2] at h;cases h
  |some u1=>
   rw[e2,Ag] at h
   have e3:=GG e2
   rw[G9 e1] at e3
   rw[e3,Ag]
   cases e4:Jo p u1.abs with
   | none => rw [e4] at h;cases h
   |some s₀=>
    rw[e4,Ag] at h
    rw[Ag]
    unfold topFrom
    cases e5:(s₀.heap.isNs mainGlobals && s₀.gens.size==0) with
    | false => rw [e5] at h;cases h
    |true=>
     rw[e5] at h
     dsimp only at h⊢
     cases e6:toT s₀ with
     | none => rw [e6] at h;cases h
     |some v=>
      rw[e6,Ag] at h
      cases e7:WZ tb p w s₀.heap.objs.size (s₀.heap.nsMap mainGlobals "__annotations__") N v (topStub p) with
      |none=>rw[e7] at h;cases h
      |some v1=>
       rw[e7,Ag] at h
       have e8:=QB e7
       rw[G9 e6] at e8
       rw[e8,Ag]
       exact h
theorem mapT{α:Type}{tb:String->Option Ed}{p:Au}{w:World}{N:Nat}{f:Ad->α}{v:α}(h:(NL tb p w N).map f=some v):(Oa tb p w N).map f=some v:=by
 cases e:NL tb p w N with
 |none=>rw[e] at h;cases h
 |some s=>
  rw[e] at h
  rw[JV e]
  exact h
noncomputable def AF(p:Au)(s₀ s:Ad):Bool:=staticsOk (Fl p.main.body) s₀.heap s.heap && namesBound p s.heap && gensDone s && laidKept s₀.heap s.heap
noncomputable def NM(tb:String->Option Ed)(p:Au)(w:World)(N:Nat):Option (Ad×Ad):=
 (toT (start (Hx p)).1).bind fun u=>(HS tb (Hx p) w N u (start (Hx p)).2).bind fun u1=>(Jo p u1.abs).bind fun s₀=>
 match s₀.heap.isNs mainGlobals && s₀.gens.size==0 with
 |true=>(toT s₀).bind fun v=>(WZ tb p w s₀.heap.objs.size (s₀.heap.nsMap mainGlobals "__annotations__") N v (topStub p)).bind fun v1=>some (s₀,v1.abs)
 |false=>none
theorem zBK{tb:String->Option Ed}{p:Au}{w:World}{N:Nat}{q:Ad×Ad}(h:NM tb p w N=some q)(hc:AF p q.1 q.2=true):NL tb p w N=some q.2:=by
 unfold NM at h
 unfold NL
 cases e1:toT (start (Hx p)).1 with
 | none => rw [e1] at h;cases h
 |some u=>
  rw[e1,Ag] at h
  rw[Ag]
  cases e2:HS tb (Hx p) w N u (start (Hx p)).2 with
  | none => rw [e2] at h;cases h
  |some u1=>
   rw[e2,Ag] at h
   rw[Ag]
   cases e4:Jo p u1.abs with
   | none => rw [e4] at h;cases h
   |some s₀=>
    rw[e4,Ag] at h
    rw[Ag]
    cases e5:(s₀.heap.isNs mainGlobals && s₀.gens.size==0) with
    | false => rw [e5] at h;cases h
    |true=>
     rw[e5] at h
     dsimp only at h⊢
     cases e6:toT s₀ with
     | none => rw [e6] at h;cases h
     |some v=>
      rw[e6,Ag] at h
      rw[Ag]
      cases e7:WZ tb p w s₀.heap.objs.size (s₀.heap.nsMap mainGlobals "__annotations__") N v (topStub p) with
      |none=>rw[e7] at h;cases h
      |some v1=>
       rw[e7,Ag] at h
       cases h
       rw[Ag]
       unfold AF at hc
       rw[hc]
theorem KA{α:Type}{tb:String->Option Ed}{p:Au}{w:World}{N:Nat}{f:Ad->α}{v:α}(h:(NM tb p w N).map (fun q=>f q.2)=some v)(hc:(NM tb p w N).map (fun q=>AF p q.1 q.2)=some true):(Oa tb p w N).map f=some v:=by
 cases e:NM tb p w N with
 |none=>rw[e] at h;cases h
 |some q=>
  rw[e] at h hc
  rw[JV (zBK e (Bb hc))]
  exact h
end KK
namespace RR
open PySem
def top(i:Nat):Stmt:=PySem.Challenge.pw_lanepacks_k32_loops.main.body.getD i (.Pass ⟨0,0,0,0⟩)
end RR
namespace KK
open PySem PySem.W PySem.Calls PyProof.Rows
def dA(s:Stmt):Arguments:=match s with
 | .FunctionDef _ a _ _ _ _ _ _ _ _=>a
 |_=>⟨[],[],none,[],[],none,[]⟩
def dB(s:Stmt):List Stmt:=match s with
 | .FunctionDef _ _ b _ _ _ _ _ _ _=>b
 |_=>[]
def dS(s:Stmt):Scope:=match s with
 | .FunctionDef _ _ _ _ _ _ c _ _ _=>c
 |_=>{kind:= .function,names:=[],isGenerator:=false,isCoroutine:=false}
abbrev s(x:Str)(t:Nat):Value:= .str x t
abbrev e(P:Nf)(x:Str)(t:Nat)(v:Value):Kj:=⟨PyData.keyHash P x,s x t,v⟩
abbrev f(a i:Nat)(n:Str)(d m:Value):Nat×Obj:=(a,⟨.type "function",none,.func (fnOf n n (dA (RR.top i)) (dB (RR.top i)) (dS (RR.top i)) d .none .none m none (.ref (a - 1)) .none),#[]⟩)
abbrev fk(a i:Nat)(n:Str)(d k m:Value):Nat×Obj:=(a,⟨.type "function",none,.func (fnOf n n (dA (RR.top i)) (dB (RR.top i)) (dS (RR.top i)) d k .none m none (.ref (a - 1)) .none),#[]⟩)
abbrev co(a:Nat)(n:Str)(t:Nat)(l k:Int)(u:Nat)(x y z v:Value):Nat×Obj:=(a,⟨.type "code",none,.fields #[s n t,s n (t+1),s "/claim/cut.py" (t+2),.int l 0,.int k 0,.int 0 0,.int 0 0,.int 3 0,x,.bool true,.int 181 0,y,.none,z,v,.ref (a - 1),.int u 0,.int l 0,s "/claim/cut.py" (u+1)],#[]⟩)
abbrev c(a:Nat)(n:Str)(t:Nat)(l k:Int)(u:Nat):Nat×Obj:=co a n t l k u (.ref (a - 5)) (.ref (a - 4)) (.ref (a - 3)) (.ref (a - 2))
abbrev b(a:Nat)(n:Str)(t:Nat)(l k:Int)(u:Nat):Nat×Obj:=co a n t l k u (.ref (a - 3)) (.ref (a - 2)) .none .none
abbrev m:Value:=s "lanepacks.loops" 844
noncomputable def K(P:Nf):Frag:=[(3,⟨.type "dict",none,.dict #[e P "__name__" 165 (s "law_lanepacks_k32_loops" 967),e P "__doc__" 166 (.none),e P "__package__" 167 (.none),e P "__loader__" 168 (.builtin "__main__.__loader__#opaque"),e P "__spec__" 169 (.none),e P "__annotations__" 170 (.ref 6),e P "__builtins__" 171 (.ref 4),e P "__file__" 173 (s "/claim/cut.py" 172),e P "__cached__" 174 (.none),e P "PackError" 206 (.ref 24),e P "NoBlock" 222 (.ref 37),e P "NoCells" 238 (.ref 49),e P "NoRow" 263 (.ref 68),e P "NoLanes" 279 (.ref 80),e P "NoPlan" 295 (.ref 92),e P "NoProgram" 311 (.ref 104),e P "NoTree" 327 (.ref 116),e P "NoLoop" 343 (.ref 128),e P "NoText" 359 (.ref 140),e P "NoName" 384 (.ref 159),e P "TooMany" 400 (.ref 171),e P "TooLong" 416 (.ref 183),e P "NotValid" 441 (.ref 202),e P "Nothing" 457 (.ref 214),e P "MOST_WORD" 461 (.int 999 460),e P "DEEDS" 469 (.ref 217),e P "is_whole" 478 (.ref 224),e P "plus" 486 (.ref 231),e P "minus" 494 (.ref 238),e P "times" 502 (.ref 245),e P "least" 510 (.ref 252),e P "most" 518 (.ref 259),e P "less" 526 (.ref 266),e P "over" 534 (.ref 273),e P "pick" 543 (.ref 280),e P "MADE" 558 (.ref 281),e P "done" 567 (.ref 288),e P "MOST_SURE" 571 (.int 64 570),e P "MOST_ROWS" 573 (.int 40 572),e P "MOST_PLACE" 575 (.int 63 574),e P "DEED_PARTS" 578 (.ref 289),e P "OTHER_PARTS" 604 (.ref 290),e P "READERS" 607 (.ref 297),e P "WRITERS" 610 (.ref 298),e P "parts_of" 617 (.ref 305),e P "makes_word" 624 (.ref 312),e P "place_of" 631 (.ref 319),e P "names_of" 637 (.ref 324),e P "with_names" 645 (.ref 331),e P "may_name" 653 (.ref 338),e P "fits" 662 (.ref 345),e P "is_row" 668 (.ref 350),e P "writes" 677 (.ref 357),e P "is_safe_number" 684 (.ref 364),e P "can_fault" 696 (.ref 371),e P "share_written_cell" 704 (.ref 378),e P "must_stay" 716 (.ref 385),e P "must_pairs" 722 (.ref 390),e P "LEAST_LANES" 726 (.int 2 725),e P "MOST_LANES" 728 (.int 4 727),e P "is_lanes" 735 (.ref 397),e P "may_follow" 746 (.ref 404),e P "is_pack" 752 (.ref 409),e P "rows_within" 758 (.ref 414),e P "rows_alone" 764 (.ref 419),e P "nodes_of" 770 (.ref 424),e P "waits_of" 776 (.ref 429),e P "next_node" 782 (.ref 434),e P "ordered_by" 793 (.ref 441),e P "ordered" 801 (.ref 448),e P "MOST_CELLS" 805 (.int 64 804),e P "is_cells" 811 (.ref 453),e P "touches" 819 (.ref 460),e P "do_on_cell" 829 (.ref 467),e P "do_row" 843 (.ref 475),e P "MOST_TURNS" 847 (.int 8 846),e P "MOST_LOOP_ROWS" 849 (.int 8 848),e P "MOST_STEP" 851 (.int 9 850),e P "place_in" 861 (.ref 482),e P "in_turn" 870 (.ref 489),e P "is_stride" 878 (.ref 496),e P "is_last" 886 (.ref 503),e P "is_loop_row" 896 (.ref 510),e P "are_loop_rows" 902 (.ref 515),e P "is_loop" 912 (.ref 522),e P "check_loop" 919 (.ref 529),e P "do_turn" 925 (.ref 534),e P "run_loop" 940 (.ref 541),e P "lay_turn" 946 (.ref 546),e P "unrolled" 952 (.ref 551),e P "turn_plan" 960 (.ref 557),e P "reach" 966 (.ref 562),e P "_law_cell_at" 978 (.ref 569),e P "_law_mixed" 988 (.ref 576),e P "_law_draw" 997 (.ref 583),e P "_law_pick" 1006 (.ref 590),e P "_law_place" 1017 (.ref 597),e P "_law_row" 1023 (.ref 602),e P "_law_which" 1031 (.ref 609),e P "_law_loop" 1048 (.ref 616),e P "_law_ask" 1058 (.ref 623),e P "_law_bad_loops" 1066 (.ref 630),e P "law" 1072 (.ref 635)] 103,#[]⟩),
 (23,⟨.type "dict",none,.dict #[e P "__module__" 196 (s "lanepacks.errors" 187),e P "__firstlineno__" 200 (.int 2 199),e P "__static_attributes__" 201 (.ref 22),e P "__weakref__" 203 (.ref 25),e P "__doc__" 204 (.none)] 3,#[]⟩),
 (24,⟨.type "type",none,.cls {name:= "PackError",bases:=[.type "ValueError"],mro:=[.ref 24,.type "ValueError",.type "Exception",.type "BaseException",.type "object"],ns:=23,qualname:= "PackError",subclasses:=[.ref 37,.ref 49,.ref 68,.ref 80,.ref 92,.ref 104,.ref 116,.ref 128,.ref 140,.ref 159,.ref 171,.ref 183,.ref 202,.ref 214]},#[some (.ref 15),none,some (s "PackError" 189),some (s "PackError" 197),some (.builtin "ValueError.__new__"),some (.bool true)]⟩),
 (36,⟨.type "dict",none,.dict #[e P "__module__" 214 (s "lanepacks.errors" 187),e P "__firstlineno__" 218 (.int 4 217),e P "__static_attributes__" 219 (.ref 35),e P "__doc__" 220 (.none)] 2,#[]⟩),
 (37,⟨.type "type",none,.cls {name:= "NoBlock",bases:=[.ref 24],mro:=[.ref 37,.ref 24,.type "ValueError",.type "Exception",.type "BaseException",.type "object"],ns:=36,qualname:= "NoBlock"},#[some (.ref 28),none,some (s "NoBlock" 207),some (s "NoBlock" 215),some (.builtin "ValueError.__new__"),some (.bool true)]⟩),
 (48,⟨.type "dict",none,.dict #[e P "__module__" 230 (s "lanepacks.errors" 187),e P "__firstlineno__" 234 (.int 6 233),e P "__static_attributes__" 235 (.ref 47),e P "__doc__" 236 (.none)] 2,#[]⟩),
 (49,⟨.type "type",none,.cls {name:= "NoCells",bases:=[.ref 24],mro:=[.ref 49,.ref 24,.type "ValueError",.type "Exception",.type "BaseException",.type "object"],ns:=48,qualname:= "NoCells"},#[some (.ref 40),none,some (s "NoCells" 223),some (s "NoCells" 231),some (.builtin "ValueError.__new__"),some (.bool true)]⟩),
 (67,⟨.type "dict",none,.dict #[e P "__module__" 246 (s "lanepacks.errors" 187),e P "__firstlineno__" 250 (.int 8 249),e P "__init__" 258 (.ref 65),e P "__static_attributes__" 260 (.ref 66),e P "__doc__" 261 (.none)] 2,#[]⟩),
 (68,⟨.type "type",none,.cls {name:= "NoRow",bases:=[.ref 24],mro:=[.ref 68,.ref 24,.type "ValueError",.type "Exception",.type "BaseException",.type "object"],ns:=67,qualname:= "NoRow"},#[some (.ref 52),none,some (s "NoRow" 239),some (s "NoRow" 247),some (.builtin "ValueError.__new__"),some (.bool true)]⟩),
 (79,⟨.type "dict",none,.dict #[e P "__module__" 271 (s "lanepacks.errors" 187),e P "__firstlineno__" 275 (.int 13 274),e P "__static_attributes__" 276 (.ref 78),e P "__doc__" 277 (.none)] 2,#[]⟩),
 (80,⟨.type "type",none,.cls {name:= "NoLanes",bases:=[.ref 24],mro:=[.ref 80,.ref 24,.type "ValueError",.type "Exception",.type "BaseException",.type "object"],ns:=79,qualname:= "NoLanes"},#[some (.ref 71),none,some (s "NoLanes" 264),some (s "NoLanes" 272),some (.builtin "ValueError.__new__"),some (.bool true)]⟩),
 (91,⟨.type "dict",none,.dict #[e P "__module__" 287 (s "lanepacks.errors" 187),e P "__firstlineno__" 291 (.int 15 290),e P "__static_attributes__" 292 (.ref 90),e P "__doc__" 293 (.none)] 2,#[]⟩),
 (92,⟨.type "type",none,.cls {name:= "NoPlan",bases:=[.ref 24],mro:=[.ref 92,.ref 24,.type "ValueError",.type "Exception",.type "BaseException",.type "object"],ns:=91,qualname:= "NoPlan"},#[some (.ref 83),none,some (s "NoPlan" 280),some (s "NoPlan" 288),some (.builtin "ValueError.__new__"),some (.bool true)]⟩),
 (103,⟨.type "dict",none,.dict #[e P "__module__" 303 (s "lanepacks.errors" 187),e P "__firstlineno__" 307 (.int 17 306),e P "__static_attributes__" 308 (.ref 102),e P "__doc__" 309 (.none)] 2,#[]⟩),
 (104,⟨.type "type",none,.cls {name:= "NoProgram",bases:=[.ref 24],mro:=[.ref 104,.ref 24,.type "ValueError",.type "Exception",.type "BaseException",.type "object"],ns:=103,qualname:= "NoProgram"},#[some (.ref 95),none,some (s "NoProgram" 296),some (s "NoProgram" 304),some (.builtin "ValueError.__new__"),some (.bool true)]⟩),
 (115,⟨.type "dict",none,.dict #[e P "__module__" 319 (s "lanepacks.errors" 187),e P "__firstlineno__" 323 (.int 19 322),e P "__static_attributes__" 324 (.ref 114),e P "__doc__" 325 (.none)] 2,#[]⟩),
 (116,⟨.type "type",none,.cls {name:= "NoTree",bases:=[.ref 24],mro:=[.ref 116,.ref 24,.type "ValueError",.type "Exception",.type "BaseException",.type "object"],ns:=115,qualname:= "NoTree"},#[some (.ref 107),none,some (s "NoTree" 312),some (s "NoTree" 320),some (.builtin "ValueError.__new__"),some (.bool true)]⟩),
 (127,⟨.type "dict",none,.dict #[e P "__module__" 335 (s "lanepacks.errors" 187),e P "__firstlineno__" 339 (.int 21 338),e P "__static_attributes__" 340 (.ref 126),e P "__doc__" 341 (.none)] 2,#[]⟩),
 (128,⟨.type "type",none,.cls {name:= "NoLoop",bases:=[.ref 24],mro:=[.ref 128,.ref 24,.type "ValueError",.type "Exception",.type "BaseException",.type "object"],ns:=127,qualname:= "NoLoop"},#[some (.ref 119),none,some (s "NoLoop" 328),some (s "NoLoop" 336),some (.builtin "ValueError.__new__"),some (.bool true)]⟩),
 (139,⟨.type "dict",none,.dict #[e P "__module__" 351 (s "lanepacks.errors" 187),e P "__firstlineno__" 355 (.int 23 354),e P "__static_attributes__" 356 (.ref 138),e P "__doc__" 357 (.none)] 2,#[]⟩),
 (140,⟨.type "type",none,.cls {name:= "NoText",bases:=[.ref 24],mro:=[.ref 140,.ref 24,.type "ValueError",.type "Exception",.type "BaseException",.type "object"],ns:=139,qualname:= "NoText"},#[some (.ref 131),none,some (s "NoText" 344),some (s "NoText" 352),some (.builtin "ValueError.__new__"),some (.bool true)]⟩),
 (158,⟨.type "dict",none,.dict #[e P "__module__" 367 (s "lanepacks.errors" 187),e P "__firstlineno__" 371 (.int 25 370),e P "__init__" 379 (.ref 156),e P "__static_attributes__" 381 (.ref 157),e P "__doc__" 382 (.none)] 2,#[]⟩),
 (159,⟨.type "type",none,.cls {name:= "NoName",bases:=[.ref 24],mro:=[.ref 159,.ref 24,.type "ValueError",.type "Exception",.type "BaseException",.type "object"],ns:=158,qualname:= "NoName"},#[some (.ref 143),none,some (s "NoName" 360),some (s "NoName" 368),some (.builtin "ValueError.__new__"),some (.bool true)]⟩),
 (170,⟨.type "dict",none,.dict #[e P "__module__" 392 (s "lanepacks.errors" 187),e P "__firstlineno__" 396 (.int 30 395),e P "__static_attributes__" 397 (.ref 169),e P "__doc__" 398 (.none)] 2,#[]⟩),
 (171,⟨.type "type",none,.cls {name:= "TooMany",bases:=[.ref 24],mro:=[.ref 171,.ref 24,.type "ValueError",.type "Exception",.type "BaseException",.type "object"],ns:=170,qualname:= "TooMany"},#[some (.ref 162),none,some (s "TooMany" 385),some (s "TooMany" 393),some (.builtin "ValueError.__new__"),some (.bool true)]⟩),
 (182,⟨.type "dict",none,.dict #[e P "__module__" 408 (s "lanepacks.errors" 187),e P "__firstlineno__" 412 (.int 32 411),e P "__static_attributes__" 413 (.ref 181),e P "__doc__" 414 (.none)] 2,#[]⟩),
 (183,⟨.type "type",none,.cls {name:= "TooLong",bases:=[.ref 24],mro:=[.ref 183,.ref 24,.type "ValueError",.type "Exception",.type "BaseException",.type "object"],ns:=182,qualname:= "TooLong"},#[some (.ref 174),none,some (s "TooLong" 401),some (s "TooLong" 409),some (.builtin "ValueError.__new__"),some (.bool true)]⟩),
 (201,⟨.type "dict",none,.dict #[e P "__module__" 424 (s "lanepacks.errors" 187),e P "__firstlineno__" 428 (.int 34 427),e P "__init__" 436 (.ref 199),e P "__static_attributes__" 438 (.ref 200),e P "__doc__" 439 (.none)] 2,#[]⟩),
 (202,⟨.type "type",none,.cls {name:= "NotValid",bases:=[.ref 24],mro:=[.ref 202,.ref 24,.type "ValueError",.type "Exception",.type "BaseException",.type "object"],ns:=201,qualname:= "NotValid"},#[some (.ref 186),none,some (s "NotValid" 417),some (s "NotValid" 425),some (.builtin "ValueError.__new__"),some (.bool true)]⟩),
 (213,⟨.type "dict",none,.dict #[e P "__module__" 449 (s "lanepacks.errors" 187),e P "__firstlineno__" 453 (.int 39 452),e P "__static_attributes__" 454 (.ref 212),e P "__doc__" 455 (.none)] 2,#[]⟩),
 (214,⟨.type "type",none,.cls {name:= "Nothing",bases:=[.ref 24],mro:=[.ref 214,.ref 24,.type "ValueError",.type "Exception",.type "BaseException",.type "object"],ns:=213,qualname:= "Nothing"},#[some (.ref 205),none,some (s "Nothing" 442),some (s "Nothing" 450),some (.builtin "ValueError.__new__"),some (.bool true)]⟩),
 (217,⟨.type "tuple",none,.seq #[s "plus" 462,s "minus" 463,s "times" 464,s "least" 465,s "most" 466,s "less" 467,s "over" 468] 0,#[]⟩),
 f 224 19 "is_whole" (.none) (s "lanepacks.words" 458),
 c 223 "is_whole" 470 44 3 476,
 (281,⟨.type "dict",none,.dict #[e P "plus" 544 (.ref 231),e P "minus" 545 (.ref 238),e P "times" 546 (.ref 245),e P "least" 547 (.ref 252),e P "most" 548 (.ref 259),e P "less" 549 (.ref 266),e P "over" 550 (.ref 273)] 7,#[]⟩),
 (289,⟨.type "tuple",none,.seq #[s "row" 576,s "row" 577] 0,#[]⟩),
 (290,⟨.type "dict",none,.dict #[e P "number" 579 (.ref 291),e P "pick" 581 (.ref 292),e P "load" 585 (.ref 293),e P "take" 587 (.ref 294),e P "store" 591 (.ref 295),e P "put" 594 (.ref 296)] 6,#[]⟩),
 (291,⟨.type "tuple",none,.seq #[s "word" 580] 0,#[]⟩),
 (292,⟨.type "tuple",none,.seq #[s "row" 582,s "row" 583,s "row" 584] 0,#[]⟩),
 (293,⟨.type "tuple",none,.seq #[s "place" 586] 0,#[]⟩),
 (294,⟨.type "tuple",none,.seq #[s "place" 588,s "row" 589,s "row" 590] 0,#[]⟩),
 (295,⟨.type "tuple",none,.seq #[s "place" 592,s "row" 593] 0,#[]⟩),
 (296,⟨.type "tuple",none,.seq #[s "place" 595,s "row" 596,s "row" 597] 0,#[]⟩),
 (297,⟨.type "tuple",none,.seq #[s "load" 605,s "take" 606] 0,#[]⟩),
 (298,⟨.type "tuple",none,.seq #[s "store" 608,s "put" 609] 0,#[]⟩),
 f 305 38 "parts_of" (.none) (s "lanepacks.blocks" 568),
 c 304 "parts_of" 611 78 1 615,
 f 312 39 "makes_word" (.none) (s "lanepacks.blocks" 568),
 c 311 "makes_word" 618 82 1 622,
 f 319 40 "place_of" (.none) (s "lanepacks.blocks" 568),
 c 318 "place_of" 625 84 1 629,
 f 324 41 "names_of" (.none) (s "lanepacks.blocks" 568),
 b 323 "names_of" 632 86 1 635,
 f 331 42 "with_names" (.none) (s "lanepacks.blocks" 568),
 c 330 "with_names" 638 89 2 643,
 f 338 43 "may_name" (.none) (s "lanepacks.blocks" 568),
 c 337 "may_name" 646 91 2 651,
 f 345 44 "fits" (.none) (s "lanepacks.blocks" 568),
 c 344 "fits" 654 93 3 660,
 f 350 45 "is_row" (.none) (s "lanepacks.blocks" 568),
 b 349 "is_row" 663 99 2 666,
 f 357 47 "writes" (.none) (s "lanepacks.orders" 669),
 c 356 "writes" 671 108 1 675,
 f 397 56 "is_lanes" (.none) (s "lanepacks.plans" 723),
 c 396 "is_lanes" 729 136 1 733,
 f 453 68 "is_cells" (.none) (s "lanepacks.running" 802),
 b 452 "is_cells" 806 185 2 809,
 f 482 76 "place_in" (.none) m,
 c 481 "place_in" 852 217 2 859,
 f 489 77 "in_turn" (.none) m,
 c 488 "in_turn" 862 220 2 868,
 f 496 78 "is_stride" (.none) m,
 c 495 "is_stride" 871 223 2 876,
 f 503 79 "is_last" (.none) m,
 c 502 "is_last" 879 229 2 884,
 f 510 80 "is_loop_row" (.none) m,
 c 509 "is_loop_row" 887 231 4 894,
 f 515 81 "are_loop_rows" (.none) m,
 b 514 "are_loop_rows" 897 239 2 900,
 f 522 82 "is_loop" (.none) m,
 c 521 "is_loop" 903 246 1 910,
 f 529 83 "check_loop" (.none) m,
 c 528 "check_loop" 913 255 1 917,
 f 541 85 "run_loop" (.none) m,
 c 540 "run_loop" 926 269 2 938,
 f 546 86 "lay_turn" (.none) m,
 b 545 "lay_turn" 941 281 4 944,
 f 551 87 "unrolled" (.none) m,
 b 550 "unrolled" 947 290 1 950,
 fk 557 88 "turn_plan" (.none) (.ref 552) (s "lanepacks.loops" 844),
 (556,⟨.type "code",none,.fields #[s "turn_plan" 955,s "turn_plan" 956,s "/claim/cut.py" 957,.int 303 0,.int 1 0,.int 0 0,.int 1 0,.int 3 0,.ref 553,.bool true,.int 181 0,.ref 554,.none,.none,.none,.ref 555,.int 958 0,.int 303 0,s "/claim/cut.py" 959],#[]⟩),
 f 562 89 "reach" (.none) m,
 b 561 "reach" 961 315 1 964,
 f 569 91 "_law_cell_at" (.none) (s "law_lanepacks_k32_loops" 967),
 c 568 "_law_cell_at" 969 323 2 976,
 f 576 92 "_law_mixed" (.none) (s "law_lanepacks_k32_loops" 967),
 c 575 "_law_mixed" 979 332 3 986,
 f 583 93 "_law_draw" (.none) (s "law_lanepacks_k32_loops" 967),
 c 582 "_law_draw" 989 335 3 995,
 f 590 94 "_law_pick" (.none) (s "law_lanepacks_k32_loops" 967),
 c 589 "_law_pick" 998 338 3 1004,
 f 597 95 "_law_place" (.none) (s "law_lanepacks_k32_loops" 967),
 c 596 "_law_place" 1007 340 5 1015,
 f 602 96 "_law_row" (.none) (s "law_lanepacks_k32_loops" 967),
 b 601 "_law_row" 1018 343 5 1021,
 f 609 97 "_law_which" (.none) (s "law_lanepacks_k32_loops" 967),
 c 608 "_law_which" 1024 361 1 1029,
 f 616 98 "_law_loop" (.none) (s "law_lanepacks_k32_loops" 967),
 c 615 "_law_loop" 1032 369 2 1046,
 f 623 99 "_law_ask" (.none) (s "law_lanepacks_k32_loops" 967),
 c 622 "_law_ask" 1049 389 3 1056,
 f 630 100 "_law_bad_loops" (.none) (s "law_lanepacks_k32_loops" 967),
 c 629 "_law_bad_loops" 1059 396 0 1064,
 f 635 101 "law" (.none) (s "law_lanepacks_k32_loops" 967),
 b 634 "law" 1067 405 1 1070]
noncomputable def A:List Nat:=[3,23,24,36,37,48,49,67,68,79,80,91,92,103,104,115,116,127,128,139,140,158,159,170,171,182,183,201,202,213,214,217,224,223,281,289,290,291,292,293,294,295,296,297,298,305,304,312,311,319,318,324,323,331,330,338,337,345,344,350,349,357,356,397,396,453,452,482,481,489,488,496,495,503,502,510,509,515,514,522,521,529,528,541,540,546,545,551,550,557,556,562,561,569,568,576,575,583,582,590,589,597,596,602,601,609,608,616,615,623,622,630,629,635,634]
noncomputable def view:Au:={Lb with main:={PySem.Challenge.pw_lanepacks_k32_loops.main with body:=[1,2,3,4,5,6,7,8,9,10,11,12,13,14,15,17,18,19,20,21,22,23,24,25,26,27,28,29,31,32,33,34,35,36,37,38,39,40,41,42,43,44,45,47,48,49,50,51,52,54,55,56,57,58,59,60,61,62,63,64,65,67,68,69,70,73,74,75,76,77,78,79,80,81,82,83,84,85,86,87,89,91,92,93,94,95,96,97,98,99,100,101].map RR.top}}
abbrev lo:List Str:=["MADE","OTHER_PARTS","do_row","turn_plan"]
theorem kA(P:Nf):A=(K P).map (·.1):=by kernel_rfl
noncomputable def X(s:Ad):Bool:=xlAt view [] s && recOk (RowW.records (OpenRow.toRowW PySem.Challenge.rw_lanepacks_k32_loops.row)) s
noncomputable abbrev H:Hook:=kHook K A kA
abbrev pr:Au:=PySem.Challenge.rw_lanepacks_k32_loops.row.prog
abbrev go(w:World)(b:Bool):Option (Ad×Ad):=NM treeTable pr (w.withFollow "special-get-raises" b) 11322
noncomputable abbrev fA(s:Ad):=seen ((recsOf view).map (·.name)) (ownsOf view) [] {s with gens:= #[]}
noncomputable abbrev fB(s:Ad):=(s.heap.bltView,tabsOk view s)
noncomputable abbrev fC(s:Ad):Bool:=s.heap.keysOk (Jz view lo) ((recsOf view).map (·.name)) ((litsOf view).map (·.1)) ((clssOf view (Jz view lo)).map (·.name)) && s.heap.accountedOkI (Fl pr.main.body) && s.heap.isNs mainGlobals && s.heap.isNs builtinsNs && tablesOk view s.heap && X s && (if true then s.gens.size==0 else !leftWithCleanup s.gens)
noncomputable abbrev fD(s:Ad):=(Ps view (Kk view) s,Mm view (Jz view lo) s,Mn view lo s,Pt view s,Pu view lo s,H.obs s)
noncomputable abbrev fC1(s:Ad):Bool:=s.heap.keysOk (Jz view lo) ((recsOf view).map (·.name)) ((litsOf view).map (·.1)) ((clssOf view (Jz view lo)).map (·.name))
noncomputable abbrev fC2(s:Ad):Bool:=s.heap.accountedOkI (Fl pr.main.body)
noncomputable abbrev fC3(s:Ad):Bool:=s.heap.isNs mainGlobals && s.heap.isNs builtinsNs && tablesOk view s.heap && X s && (if true then s.gens.size==0 else !leftWithCleanup s.gens)
noncomputable abbrev fG(s:Ad):=(Ps view (Kk view) s,Mm view (Jz view lo) s,Mn view lo s,Pt view s,Pu view lo s)
noncomputable abbrev fE(q:Ad×Ad):=(AF pr q.1 q.2 && fC2 q.2 && fC3 q.2,H.obs q.2)
set_option maxRecDepth 100000 in
set_option maxHeartbeats 0 in
theorem rAf(w:World):(go w false).map (fun q=>fA q.2)=some (Pn view):=by kernel_rfl
set_option maxRecDepth 100000 in
set_option maxHeartbeats 0 in
theorem rBf(w:World):(go w false).map (fun q=>fB q.2)=some ((Lx,true)):=by kernel_rfl
set_option maxRecDepth 100000 in
set_option maxHeartbeats 0 in
theorem rCf(w:World):(go w false).map (fun q=>fC1 q.2)=some (true):=by kernel_rfl
set_option maxRecDepth 100000 in
set_option maxHeartbeats 0 in
theorem rDf(w:World):(go w false).map (fun q=>fG q.2)=some ((Ob (Kk view),Lc view (Jz view lo),Ld view lo,Od view,Oe view lo)):=by kernel_rfl
set_option maxRecDepth 100000 in
set_option maxHeartbeats 0 in
theorem rEf(w:World):(go w false).map fE=some ((true,H.val (w.withFollow "special-get-raises" false))):=by kernel_rfl
set_option maxRecDepth 100000 in
set_option maxHeartbeats 0 in
theorem rAt(w:World):(go w true).map (fun q=>fA q.2)=some (Pn view):=by kernel_rfl
set_option maxRecDepth 100000 in
set_option maxHeartbeats 0 in
theorem rBt(w:World):(go w true).map (fun q=>fB q.2)=some ((Lx,true)):=by kernel_rfl
set_option maxRecDepth 100000 in
set_option maxHeartbeats 0 in
theorem rCt(w:World):(go w true).map (fun q=>fC1 q.2)=some (true):=by kernel_rfl
set_option maxRecDepth 100000 in
set_option maxHeartbeats 0 in
theorem rDt(w:World):(go w true).map (fun q=>fG q.2)=some ((Ob (Kk view),Lc view (Jz view lo),Ld view lo,Od view,Oe view lo)):=by kernel_rfl
set_option maxRecDepth 100000 in
set_option maxHeartbeats 0 in
theorem rEt(w:World):(go w true).map fE=some ((true,H.val (w.withFollow "special-get-raises" true))):=by kernel_rfl
theorem DO{o:Option (Ad×Ad)}{v:H.α}(h1:o.map (fun q=>fC1 q.2)=some true)(h6:o.map fE=some (true,v))(hg:o.map (fun q=>fG q.2)=some (Ob (Kk view),Lc view (Jz view lo),Ld view lo,Od view,Oe view lo)):
  o.map (fun q=>AF pr q.1 q.2)=some true/\o.map (fun q=>fC q.2)=some true/\o.map (fun q=>fD q.2)=some (Ob (Kk view),Lc view (Jz view lo),Ld view lo,Od view,Oe view lo,v):=by
 cases o with
 | none => cases h1
 |some q=>
  have e1:fC1 q.2=true:=Bb h1
  obtain⟨e6,e7⟩:=Et (Bb h6)
  obtain⟨e8,e9⟩:=(Ac _ _).mp e6
  obtain⟨ea,eb⟩:=(Ac _ _).mp e8
  have eg:fG q.2=_:=Bb hg
  obtain⟨d1,eg⟩:=Et eg
  obtain⟨d2,eg⟩:=Et eg
  obtain⟨d3,eg⟩:=Et eg
  obtain⟨d4,d5⟩:=Et eg
  refine⟨congrArg some ea,congrArg some ?_,congrArg some ?_⟩
  ·obtain⟨x4,x5⟩:=(Ac _ _).mp e9
   obtain⟨x3,x4⟩:=(Ac _ _).mp x4
   obtain⟨x2,x3⟩:=(Ac _ _).mp x3
   obtain⟨x1,x2⟩:=(Ac _ _).mp x2
   exact(Ac _ _).mpr ⟨(Ac _ _).mpr ⟨(Ac _ _).mpr ⟨(Ac _ _).mpr ⟨(Ac _ _).mpr ⟨(Ac _ _).mpr ⟨e1,eb⟩,x1⟩,x2⟩,x3⟩,x4⟩,x5⟩
  ·show(Ps view (Kk view) q.2,Mm view (Jz view lo) q.2,Mn view lo q.2,Pt view q.2,Pu view lo q.2,H.obs q.2)=_
   rw[d1,d2,d3,d4,d5,e7]
theorem jn{o:Option Ad}{v:H.α}(ha:o.map fA=some (Pn view))(hb:o.map fB=some (Lx,true))(hc:o.map fC=some true)(hd:o.map fD=some (Ob (Kk view),Lc view (Jz view lo),Ld view lo,Od view,Oe view lo,v)):
  o.map (fun s=>(openSeen view lo (Fl pr.main.body) X true s,H.obs s))=some (openGood view lo,v):=by
 cases o with
 |none=>cases ha
 |some s=>
  have ea:fA s=_:=Bb ha
  have eb:fB s=_:=Bb hb
  have ec:fC s=_:=Bb hc
  have ed:fD s=_:=Bb hd
  obtain⟨b1,b2⟩:=Et eb
  obtain⟨d1,ed⟩:=Et ed
  obtain⟨d2,ed⟩:=Et ed
  obtain⟨d3,ed⟩:=Et ed
  obtain⟨d4,ed⟩:=Et ed
  obtain⟨d5,d6⟩:=Et ed
  show some ((fA s,s.heap.bltView,fC s,tabsOk view s,Ps view (Kk view) s,Mm view (Jz view lo) s,Mn view lo s,Pt view s,Pu view lo s),H.obs s)=_
  rw[ea,b1,ec,b2,d1,d2,d3,d4,d5,d6]
  rfl
theorem hl:LeftO pr view lo X H.obs H.val 11322:=fun w=>byRow2 "special-get-raises" (P:=fun w=>(Oa treeTable pr w 11322).map (fun s=>(openSeen view lo (Fl pr.main.body) X true s,H.obs s))=some (openGood view lo,H.val w)) (fun w=>jn (KA (rAf w) (DO (rCf w) (rEf w) (rDf w)).1) (KA (rBf w) (DO (rCf w) (rEf w) (rDf w)).1) (KA (DO (rCf w) (rEf w) (rDf w)).2.1 (DO (rCf w) (rEf w) (rDf w)).1) (KA (DO (rCf w) (rEf w) (rDf w)).2.2 (DO (rCf w) (rEf w) (rDf w)).1)) (fun w=>jn (KA (rAt w) (DO (rCt w) (rEt w) (rDt w)).1) (KA (rBt w) (DO (rCt w) (rEt w) (rDt w)).1) (KA (DO (rCt w) (rEt w) (rDt w)).2.1 (DO (rCt w) (rEt w) (rDt w)).1) (KA (DO (rCt w) (rEt w) (rDt w)).2.2 (DO (rCt w) (rEt w) (rDt w)).1)) w
set_option maxRecDepth 100000 in
set_option maxHeartbeats 0 in
theorem said:PySem.Challenge.rw_lanepacks_k32_loops.wellSaid=true:=by kernel_rfl
end KK
namespace L2
open PySem PySem.Spec PyProof.Rows
abbrev aF:=Sum Int Str
noncomputable def NS:aF->Value->Bool
 | .inl k,v=>Qm k v
 | .inr x,v=>Pw x v
noncomputable def keyH(w:World):aF->Int
 | .inl k=>hashInt k
 | .inr x=>hashStr w x
theorem aS: ∀{k:aF} {v:Value},NS k v=true->(∃i t,k=Mo i/\v=Om i t)∨(∃x t,k=Mp x/\v=Oo x t)
 | .inl i,v,h=>by
  obtain⟨t,e⟩:=Value.isInt_shape (k:=i) (v:=v) h
  exact .inl ⟨i,t,rfl,e⟩
 | .inr x,v,h=>by
  obtain⟨t,e⟩:=Value.isStrOf_shape (x:=x) (v:=v) h
  exact .inr ⟨x,t,rfl,e⟩
theorem EX(i:Int)(t:Tok):NS (.inl i) (.int i t)=true:=by simp[NS,Qm]
theorem EY(x:Str)(t:Tok):NS (.inr x) (.str x t)=true:=by simp[NS,Pw]
theorem zF6(a b:Int):decide ((Mo a:aF)=Mo b)=(a==b):=by
 by_cases e:a=b
 ·subst e;simp
 ·have h : ¬ (Mo a : aF) = Mo b := fun q => e (Sum.inl.inj q)
  rw[decide_eq_false h]
  exact(beq_eq_false_iff_ne.mpr e).symm
theorem zF3(a b:Str):decide ((Mp a:aF)=Mp b)=decide (a=b):=by
 by_cases e:a=b
 ·subst e;simp
 ·have h : ¬ (Mp a : aF) = Mp b := fun q => e (Sum.inr.inj q)
  rw[decide_eq_false h,decide_eq_false e]
theorem zF5(a:Int)(b:Str):decide ((Mo a:aF)=Mp b)=false:=decide_eq_false (fun q=>nomatch q)
theorem zF4(a:Str)(b:Int):decide ((Mp a:aF)=Mo b)=false:=decide_eq_false (fun q=>nomatch q)
noncomputable def aT(prog:Au)(w:World):PySem.KeyKind prog w aF where
 is:=NS
 hash:=keyH w
 inj:=fun v a b ha hb=>by
  rcases aS ha with⟨i,t,rfl,rfl⟩|⟨x,t,rfl,rfl⟩
  ·rcases aS hb with⟨j,u,rfl,e⟩|⟨y,u,rfl,e⟩
   ·injection e with e1 _;rw[e1]
   ·exact nomatch e
  ·rcases aS hb with⟨j,u,rfl,e⟩|⟨y,u,rfl,e⟩
   ·exact nomatch e
   ·injection e with e1 _;rw[e1]
 byValue:=fun k v h=>by
  rcases aS h with⟨i,t,rfl,rfl⟩|⟨x,t,rfl,rfl⟩<;>rfl
 pyHash:=fun hv h=>by
  rcases aS hv with⟨i,t,rfl,rfl⟩|⟨x,t,rfl,rfl⟩
  ·exact wpAny_pyHash_int h
  ·exact wpAny_pyHash_str h
 eqBool:=fun hu hv h=>by
  rcases aS hu with⟨i,t,rfl,rfl⟩|⟨x,t,rfl,rfl⟩
  ·rcases aS hv with⟨j,u,rfl,rfl⟩|⟨y,u,rfl,rfl⟩
   ·rw[zF6] at h;exact wpAny_eqBool_int h
   ·rw[zF5] at h;exact SeqAt.EqAt.int_str i t y u _ _ _ _ h
  ·rcases aS hv with⟨j,u,rfl,rfl⟩|⟨y,u,rfl,rfl⟩
   ·rw[zF4] at h;exact SeqAt.EqAt.str_int x t j u _ _ _ _ h
   ·rw[zF3] at h;exact wpAny_eqBool_str h
 «strs» :=fun k x t v h=>by
  rcases aS h with⟨i,u,rfl,e⟩|⟨y,u,rfl,e⟩
  ·exact nomatch e
  ·injection e with e1 _
   subst e1
   cases v<;>rfl
theorem KC(prog:Au)(w:World)(i:Int)(t:Tok):(aT prog w).is (.inl i) (.int i t)=true:=EX i t
theorem KD(prog:Au)(w:World)(x:Str)(t:Tok):(aT prog w).is (.inr x) (.str x t)=true:=EY x t
inductive V where
 |non|bl (b:Bool)|int (i:Int)|str (x:Str)|byt (b:Array UInt8)|flt (b:UInt64)|ref (a:Addr)|ty (n:String)
 deriving DecidableEq
def cO:V->Value->Prop
 | .non,u=>u=Value.none
 | .bl b,u=>u=Fs b
 | .int i,u=> ∃t,u=Om i t
 | .str x,u=> ∃t,u=Oo x t
 | .byt b,u=> ∃t,u=Value.bytes b t
 | .flt b,u=> ∃t,u=Qn b t
 | .ref a,u=>u=Bj a
 | .ty n,u=>u=Jg n
abbrev cA:List V->List Value->Prop:=Paired cO
theorem cA.length{xs:List V}{us:List Value}(r:cA xs us):xs.length=us.length:=Ly r
theorem cA.get: ∀{xs:List V} {us:List Value} {i:Nat} {x:V},cA xs us->xs[i]? =some x-> ∃u,us[i]? =some u/\cO x u
 |_,_,_,_,.nil,e=>by simp at e
 |_,_,0,_,.cons r _,e=>by simp at e;subst e;exact⟨_,rfl,r⟩
 |_,_,i+1,x,.cons _ t,e=>by
  obtain⟨u,h1,h2⟩:=cA.get (i:=i) (x:=x) t (by simpa using e)
  exact⟨u,by simpa using h1,h2⟩
theorem cA.set{x:V}{u:Value}(r:cO x u): ∀{xs:List V} {us:List Value} (i:Nat),cA xs us->cA (xs.set i x) (us.set i u)
 |_,_,_,.nil=> .nil
 |_,_,0,.cons _ t=> .cons r t
 |_,_,i+1,.cons q t=> .cons q (cA.set r i t)
theorem cA.append: ∀{xs ys:List V} {us ws:List Value},cA xs us->cA ys ws->cA (xs++ys) (us++ws)
 |_,_,_,_,.nil,s=>s
 |_,_,_,_,.cons r t,s=> .cons r (cA.append t s)
theorem cA.take: ∀{xs:List V} {us:List Value} (n:Nat),cA xs us->cA (xs.take n) (us.take n)
 |_,_,0,_=> .nil
 |_,_,_+1,.nil=> .nil
 |_,_,n+1,.cons r t=> .cons r (cA.take n t)
theorem cA.drop: ∀{xs:List V} {us:List Value} (n:Nat),cA xs us->cA (xs.drop n) (us.drop n)
 |_,_,0,r=>r
 |_,_,_+1,.nil=> .nil
 |_,_,n+1,.cons _ t=>cA.drop n t
def RJ:Option V->Option Value->Prop
 |some v,some u=>cO v u
 |none,none=>True
 |_,_=>False
def KV{κ:Type}:List (κ×V)->List (κ×Value)->Prop:=Paired fun(p:κ×V) (q:κ×Value)=>p.1=q.1/\cO p.2 q.2
noncomputable def kV:aF->V
 | .inl i=> .int i
 | .inr x=> .str x
inductive HO where
 |lst (xs:List V)
 |tup (xs:List V)
 |dK (kvs:List (aF×V))|dT (kvs:List (List aF×V))
 |set (S:Int->Bool) (n:Nat)
 |ins (C dx:Addr) (fs:List (Str×V))
 |own (x:Addr)
 |xd (fs:List (Str×V))
 |met (f x:Addr)
 |rng (lo hi:Int)
 |frz (o:Obj) (u:HO)
 |tbl (ps:Array Value)
 |ext (φ:Heap->Prop)
abbrev Hp:=Addr->Option HO
noncomputable def bL(H:Hp)(a:Addr)(o:HO):Hp:=fun b=>if b=a then some o else H b
theorem cQ{H:Hp}{a:Addr}{o:HO}:bL H a o a=some o:=by unfold bL;rw[if_pos rfl]
theorem cH{H:Hp}{a b:Addr}{o:HO}(h:b≠a):bL H a o b=H b:=by unfold bL;rw[if_neg h]
theorem zHC{H:Hp}{a b:Addr}{o u:HO}(h:H a=some o)(h':H b=some u)(d:o≠u):a≠b:=by intro e;subst e;rw[h] at h';exact d (Bb h')
theorem Y1{H:Hp}{a b:Addr}{o:HO}(h:H a=some o)(h':H b=none):a≠b:=by intro e;subst e;rw[h] at h';cases h'
section
variable(P:Au)(w:World)
def aR(H:Hp)(h:Heap)(a:Addr):HO->Prop
 | .lst xs => xs.length <= sizeLine /\ ∃ (its : List Value) (n : Nat),cA xs its /\ h.get? a = some { cls := .type "list",data := .seq its.toArray n }
 | .tup xs => xs.length <= sizeLine /\ ∃ its : List Value,cA xs its /\ IsTup h a its.toArray
 | .dK kvs => kvs.length <= sizeLine /\ (a == Ez) = false /\ ∃ vs,KV kvs vs /\ h.DictOf (aT P w) a vs
 | .dT kvs => kvs.length <= sizeLine /\ (a == Ez) = false /\ ∃ xs : List (List aF × Addr × Value),
   Paired (fun(p:List aF×V) (q:List aF×Addr×Value)=>p.1=q.1/\H q.2.1=some (.tup (p.1.map kV))/\cO p.2 q.2.2) kvs xs∧
   ∃o es ep,h.get? a=some o/\o.ExactDict/\o.data= .dict es ep/\es.toList=xs.map (entryOfKey (tupleKind (aT P w)))/\(xs.map (·.1)).Nodup
 | .set S n => h.SetOf (intKind P w) a S n
 | .ins C dx fs => H dx = some (.own a) /\ fs.length <= 1000 /\ dx ≠ a /\ h.get? a = some (Qg C dx) ∧
   ∃mA,h.Ns1 dx mA/\(∀f,RJ (fs.lookup f) (mA f))/\Qh mA (fs.map (·.1))
 | .own _=> ∃o,h.get? a=some o
 | .xd fs=> ∃mA,h.Ns1 a mA/\ ∀f,RJ (fs.lookup f) (mA f)
 | .rng lo hi=> ∃t u v,h.get? a=some {cls:= .type "range",data:= .fields #[.int lo t,.int hi u,.int 1 v]}
 | .frz o u=>h.get? a=some o/\aR H h a u
 | .tbl ps=>h.get? a=some {cls:= .none,data:= .fields ps}
 | .met f x=>h.get? a=some (Op (.ref f) (.ref x))
 | .ext φ=>φ h/\(∃o,h.get? a=some o)/\ ∀h1 h2:Heap,φ h1->(∀o,h1.get? a=some o->h2.get? a=some o)->φ h2
def U2(H:Hp)(h:Heap):Prop:= ∀a o,H a=some o->aR P w H h a o
end
section
variable{P:Au}{w:World}{H H':Hp}{h h':Heap}{a:Addr}{o:HO}
theorem aR.lt(x:aR P w H h a o):a<h.objs.size:=by
 cases o with
 |lst xs=>obtain⟨_,_,_,_,e⟩:=x;exact Aj e
 |tup xs=>obtain⟨_,_,_,p⟩:=x;exact p.lt
 |dK kvs=>obtain⟨_,_,_,_,o,_,_,e,_⟩:=x;exact Aj e
 |dT kvs=>obtain⟨_,_,_,_,o,_,_,e,_⟩:=x;exact Aj e
 |set S n=>obtain⟨o,_,_,_,e,_⟩:=x;exact Aj e
 |ins C dx fs=>obtain⟨_,_,_,e,_⟩:=x;exact Aj e
 |own y=>obtain⟨_,e⟩:=x;exact Aj e
 |xd fs=>obtain⟨_,⟨_,_,_,e,_⟩,_⟩:=x;exact Aj e
 |rng lo hi=>obtain⟨_,_,_,e⟩:=x;exact Aj e
 |frz ob u=>obtain⟨e,_⟩:=x;exact Aj e
 |tbl ps=>exact Aj (show h.get? a=some _ from x)
 |met f y=>exact Aj (show h.get? a=some _ from x)
 |ext φ=>obtain⟨_,⟨_,e⟩,_⟩:=x;exact Aj e
theorem Paired.mapP{α β:Type}{F G:α->β->Prop}: ∀{l₁:List α} {l₂:List β},Paired F l₁ l₂->(∀a b,F a b->G a b)->Paired G l₁ l₂
 |_,_,.nil,_=> .nil
 |_,_,.cons r t,f=> .cons (f _ _ r) (Paired.mapP t f)
theorem aR.stay(x:aR P w H h a o)(k: ∀b u,(b=a∨H b=some (.own a))->h.get? b=some u->h'.get? b=some u)
  (ho: ∀b,H b=some (.own a)->H' b=some (.own a)) (ht: ∀b xs,H b=some (.tup xs)->H' b=some (.tup xs)):aR P w H' h' a o:=by
 induction o with
 |lst xs=>obtain⟨z,its,n,r,e⟩:=x;exact⟨z,its,n,r,k _ _ (.inl rfl) e⟩
 |tup xs=>obtain⟨z,its,r,ob,e,c⟩:=x;exact⟨z,its,r,ob,k _ _ (.inl rfl) e,c⟩
 |dK kvs=>obtain⟨z,y,vs,r,ob,es,ep,e,c⟩:=x;exact⟨z,y,vs,r,ob,es,ep,k _ _ (.inl rfl) e,c⟩
 |dT kvs=>
  obtain⟨z,y,xs,r,ob,es,ep,e,c⟩:=x
  exact⟨z,y,xs,Paired.mapP r fun p q z=>⟨z.1,ht _ _ z.2.1,z.2.2⟩,ob,es,ep,k _ _ (.inl rfl) e,c⟩
 |set S n=>obtain⟨ob,es,ep,t,e,c⟩:=x;exact⟨ob,es,ep,t,k _ _ (.inl rfl) e,c⟩
 |ins C dx fs=>
  obtain⟨d,z,ne,e,mA,⟨od,es,ep,e2,c⟩,r⟩:=x
  exact⟨ho _ d,z,ne,k _ _ (.inl rfl) e,mA,⟨od,es,ep,k _ _ (.inr d) e2,c⟩,r⟩
 |own y=>obtain⟨ob,e⟩:=x;exact⟨ob,k _ _ (.inl rfl) e⟩
 |xd fs=>obtain⟨mA,⟨od,es,ep,e,c⟩,r⟩:=x;exact⟨mA,⟨od,es,ep,k _ _ (.inl rfl) e,c⟩,r⟩
 |rng lo hi=>obtain⟨t,u,v,e⟩:=x;exact⟨t,u,v,k _ _ (.inl rfl) e⟩
 |frz ob u ih=>obtain⟨e,q⟩:=x;exact⟨k _ _ (.inl rfl) e,ih q⟩
 |tbl ps=>
  have e:h.get? a=some {cls:= .none,data:= .fields ps}:=x
  show h'.get? a=some {cls:= .none,data:= .fields ps}
  exact k a _ (.inl rfl) e
 |met f y=>
  have e:h.get? a=some (Op (.ref f) (.ref y)):=x
  show h'.get? a=some (Op (.ref f) (.ref y))
  exact k a _ (.inl rfl) e
 |ext φ=>obtain⟨p,⟨o,e⟩,st⟩:=x;exact⟨st _ _ p fun o q=>k _ _ (.inl rfl) q,⟨o,k _ _ (.inl rfl) e⟩,st⟩
theorem U2.lt(x:U2 P w H h)(e:H a=some o):a<h.objs.size:=(x a o e).lt
theorem U2.fresh(x:U2 P w H h)(e:h.objs.size<=a):H a=none:=by
 cases q:H a with
 |none=>rfl
 |some u=>exact absurd (Aq (x.lt q) e) (Bw _)
theorem U2.kept(x:U2 P w H h)(k: ∀b u,h.get? b=some u->h'.get? b=some u):U2 P w H h':=fun a o e=>
 (x a o e).stay (fun b u _ q=>k b u q) (fun _ q=>q) fun _ _ q=>q
theorem U2.laid(x:U2 P w H h)(k: ∀b u,h.get? b=some u->h'.get? b=some u)(hp:h.objs.size<=a)(new:aR P w (bL H a o) h' a o):U2 P w (bL H a o) h':=fun b u e=>by
 have hn:=x.fresh hp
 by_cases hb:b=a
 ·subst hb;rw[cQ] at e;cases e;exact new
 ·rw[cH hb] at e
  exact(x b u e).stay (fun c v _ q=>k c v q) (fun c q=>by rw[cH (Y1 q hn)];exact q) fun c xs q=>by rw[cH (Y1 q hn)];exact q
end
def Rd(H:Hp)(a:Addr)(u:HO):Prop:=H a=some u∨ ∃o,H a=some (.frz o u)
theorem Rd.ok{P:Au}{w:World}{H:Hp}{h:Heap}{a:Addr}{u:HO}(r:Rd H a u)(x:U2 P w H h):aR P w H h a u:=by
 rcases r with r|⟨o,r⟩
 ·exact x a u r
 ·obtain⟨_,q⟩:=x a _ r
  exact q
def Mut:Option HO->Prop
 |some (.lst _)=>True
 |some (.dK _)=>True
 |some (.dT _)=>True
 |some (.set _ _)=>True
 |some (.ins _ _ _)=>True
 |some (.ext _)=>True
 |_=>False
section
variable{P:Au}{w:World}{H:Hp}{h h':Heap}{x e:Addr}{o':HO}
theorem U2.write(ok:U2 P w H h)(mu:Mut (H x))(he:e=x∨H e=some (.own x))(k: ∀b u,b≠e->h.get? b=some u->h'.get? b=some u)(heo: ∃u,h'.get? e=some u)
  (new : aR P w (bL H x o') h' x o') : U2 P w (bL H x o') h' := fun b u q => by
 have m6: ∀c y,H c=some (.own y)->c≠x:=fun c y r z=>by subst z;rw[r] at mu;exact mu
 have nv: ∀c xs,H c=some (.tup xs)->c≠x:=fun c xs r z=>by subst z;rw[r] at mu;exact mu
 by_cases hb:b=x
 ·subst hb;rw[cQ] at q;cases q;exact new
 ·rw[cH hb] at q
  by_cases hbe:b=e
  ·have q':H b=some (.own x):=by
    rcases he with z|z
    ·exact absurd (hbe.trans z) hb
    ·rw[hbe];exact z
   rw[q] at q';cases q'
   obtain⟨v,hv⟩:=heo
   exact⟨v,by rw[hbe];exact hv⟩
  ·refine (ok b u q).stay (fun c v hc r => k c v ?_ r) (fun c r => by rw [cH (m6 c b r)];exact r) fun c xs r => by rw [cH (nv c xs r)];exact r
   rcases hc with rfl|hc
   ·exact hbe
   ·rintro rfl
    rcases he with z|z
    ·exact m6 c b hc z
    ·rw[hc] at z;cases z;exact hb rfl
end
structure Un(fs ex:List Addr)(H H':Hp)(h h':Heap):Prop where
 keep: ∀b o,h.get? b=some o->H b=none->b∉fs->b∉ex->h'.get? b=some o
 slot: ∀b o,h.get? b=some o->H b=none->b∈fs->b∉ex-> ∃sl,h'.get? b=some {o with slots:=sl}
 free: ∀b o,h.get? b=some o->H b=none->b∉ex->H' b=none
 there: ∀b o,h.get? b=some o->b∉ex-> ∃o',h'.get? b=some o'
 tups: ∀b xs,H b=some (.tup xs)->H' b=some (.tup xs)
 frzs: ∀b o u,H b=some (.frz o u)->H' b=some (.frz o u)
 tbls: ∀b ps,H b=some (.tbl ps)-> ∃more,H' b=some (.tbl (ps++more))
section
variable{fs fs' ex ex':List Addr}{H H1 H2:Hp}{h h1 h2 h':Heap}{a x e:Addr}{o:HO}
theorem Un.any(u:Un fs ex H H1 h h1){b:Addr}{ob:Obj}(q:h.get? b=some ob)(n:H b=none)(hx:b∉ex): ∃sl,h1.get? b=some {ob with slots:=sl}:=by
 by_cases hb:b∈fs
 ·exact u.slot b ob q n hb hx
 ·exact⟨ob.slots,u.keep b ob q n hb hx⟩
theorem Un.kept(k: ∀b u,h.get? b=some u->h'.get? b=some u):Un fs ex H H h h':=
 ⟨fun b ob q _ _ _=>k b ob q,fun b ob q _ _ _=>⟨ob.slots,k b ob q⟩,fun _ _ _ n _=>n,fun b ob q _=>⟨ob,k b ob q⟩,fun _ _ q=>q,fun _ _ _ q=>q,fun _ ps q=>⟨#[],by rw[q];simp⟩⟩
theorem Un.refl:Un fs ex H H h h:=Un.kept fun _ _ q=>q
theorem Un.laid(k: ∀b u,h.get? b=some u->h'.get? b=some u)(hp:h.objs.size<=a)(hn:H a=none):Un fs ex H (bL H a o) h h' where
 keep:=fun b u q _ _ _=>k b u q
 slot:=fun b u q _ _ _=>⟨u.slots,k b u q⟩
 free:=fun b u q n _=>by rw[cH (Be (Aq (Aj q) hp))];exact n
 there:=fun b u q _=>⟨u,k b u q⟩
 tups:=fun b xs q=>by rw[cH (Y1 q hn)];exact q
 frzs:=fun b u xs q=>by rw[cH (Y1 q hn)];exact q
 tbls:=fun b ps q=>⟨#[],by rw[cH (Y1 q hn),q];simp⟩
theorem Un.write(mu:Mut (H x))(he:e=x∨H e=some (.own x))(k: ∀b u,b≠e->h.get? b=some u->h'.get? b=some u)(heo: ∃u,h'.get? e=some u):Un fs ex H (bL H x o) h h':=by
 have hx: ∀b,H b=none->b≠x:=fun b n z=>by subst z;rw[n] at mu;exact mu
 have hb: ∀b,H b=none->b≠e:=fun b n z=>by
  subst z
  rcases he with r|r
  ·exact hx b n r
  ·rw[n] at r;cases r
 have hm: ∀b u,H b=some u-> ¬Mut (some u)->b≠x:=fun b u q nm z=>by subst z;rw[q] at mu;exact nm mu
 refine⟨fun b u q n _ _=>k b u (hb b n) q,fun b u q n _ _=>⟨u.slots,k b u (hb b n) q⟩,fun b u q n _=>by rw[cH (hx b n)];exact n,fun b u q _=> ?_,
  fun b xs q=>by rw[cH (hm b _ q fun z=>z)];exact q,fun b u xs q=>by rw[cH (hm b _ q fun z=>z)];exact q,fun b ps q=>⟨#[],by rw[cH (hm b _ q fun z=>z),q];simp⟩⟩
 by_cases hbe:b=e
 ·subst hbe;exact heo
 ·exact⟨u,k b u hbe q⟩
end
noncomputable def trk(h:Heap)(H:Hp):List Addr:=(Ay h.objs.size).filter fun a=>(H a).isSome
noncomputable def L9(h:Heap)(H:Hp):Heap:=W.hideAll h (trk h H)
theorem ES(h:Heap)(H:Hp):(L9 h H).objs.size=h.objs.size:=W.hideAll_size _ _
theorem AM{h:Heap}{H:Hp}{b:Addr}{o:Obj}(e:h.get? b=some o)(n:H b=none):(L9 h H).get? b=some o:=
 Lz _ e fun hm=>by
  have q:(H b).isSome=true:=(Oq.mp hm).2
  rw[n] at q;simp at q
theorem zB8{h:Heap}{H:Hp}{b:Addr}{o:Obj}(e:(L9 h H).get? b=some o):h.get? b=some o/\H b=none:=by
 have e':h.get? b=some o:=W.of_hideAll (trk h H) e
 refine⟨e',?_⟩
 cases q:H b with
 |none=>rfl
 |some x=>
  have hm:b∈trk h H:=Oq.mpr ⟨Dn.mpr (Aj e'),by simp[q]⟩
  have z:(L9 h H).get? b=none:=W.hideAll_none (trk h H) hm
  rw[z] at e;cases e
structure Mod(K:Ai)(mg:Str->Option Value)(base:Heap):Prop where
 kin:K.In base
 glob:base.Ns mainGlobals mg
 blt: ∃mb,base.Ns builtinsNs mb/\ ∀x:Str,x≠ "__name__" ->mb x=Bl x
 nolimit:base.NoLimit
structure Cx where
 prog:Au
 w:World
 K:Ai
 mg:Str->Option Value
 base:Heap
 A:Bx
 N:List Str
 s₀:Ad
 H₀:Hp
 env:Env
 outer:List Env
 stack:List Env
 ex:List Addr
 fn:Str->Bool
 calm:Bool
 pn:List (Addr×Obj)
 xe:Value->Ad->Prop
noncomputable def UW(l:List Env):List Addr:=l.filterMap (·.frame)
abbrev Cx.fs(X:Cx):List Addr:=UW X.outer
def Vis(sc:Scope)(x:Str):Prop:=sc.names.lookup x=some .local∨sc.names.lookup x=some .cell∨sc.names.lookup x=some .free
def F0(sc:Scope)(x:Str):Prop:=sc.names.lookup x=some .local∨sc.names.lookup x=some .cell
def Look(env:Env)(h:Heap)(m:Str->Option Value)(x:Str)(u:Value):Prop:=
 (env.kindOf x=some .local/\m x=some u)∨((env.kindOf x=some .cell∨env.kindOf x=some .free)/\ ∃c,env.cells.lookup x=some c/\h.IsCell c (some u))
structure Cx.Ok(X:Cx):Prop where
 mod:Mod X.K X.mg X.base
 kind:X.env.scope.kind= .function
 glob:X.env.globals=mainGlobals
 blt:X.env.builtins=builtinsNs
 above:X.s₀.heap.objs.size<=X.env.locals
 inj: ∀x y c,X.env.cells.lookup x=some c->X.env.cells.lookup y=some c->x=y
 has: ∀x,(X.env.kindOf x=some .cell∨X.env.kindOf x=some .free)-> ∃c,X.env.cells.lookup x=some c
 cab: ∀x c,X.fn x=true->X.env.cells.lookup x=some c->X.s₀.heap.objs.size<=c
 hd:X.calm=true->X.A.handled=none
 frames:X.A.frames=some X.stack
 stk:X.stack=X.outer∨(X.stack=X.env::X.outer/\X.env.frame=some X.env.locals)
 exf: ∀b∈X.ex,b≠X.env.locals/\ ∀x c,X.env.cells.lookup x=some c->c≠b
 bs: ∀b o,X.base.get? b=some o->X.s₀.heap.get? b=some o/\X.H₀ b=none
 bsz:X.base.objs.size<=X.s₀.heap.objs.size
 noex: ∀b o,X.base.get? b=some o->b∉X.ex
 exfs: ∀b∈X.ex,b∉X.fs
 funs:X.s₀.heap.FunFrames X.base X.outer
 frf: ∀b∈X.fs,X.H₀ b=none
structure c7(X:Cx)(aa:List (Addr×Obj))(σ:List (Option V))(H:Hp)(s:Ad):Prop where
 ok:X.Ok
 os:s.os=X.s₀.os
 bare:Jp s.gens
 base:Un X.fs X.ex X.H₀ H X.s₀.heap s.heap
 loc: ∃m,s.heap.Ns X.env.locals m/\ ∀(i:Nat) (x:Str) (v:V),X.N[i]? =some x->σ[i]? =some (some v)->Vis X.env.scope x-> ∃u,cO v u/\Look X.env s.heap m x u
 cell: ∀x c,X.env.cells.lookup x=some c-> ∃v,s.heap.IsCell c v
 free:H X.env.locals=none
 freeC: ∀x c,X.env.cells.lookup x=some c->H c=none
 pin: ∀p∈X.pn++aa,s.heap.get? p.1=some p.2/\H p.1=none/\p.1≠X.env.locals/\p.1∉X.fs/\ ∀v,p.2.data≠ .cell v
 hok:U2 X.prog X.w H s.heap
 len:σ.length=X.N.length
section
variable{X:Cx}{aa:List (Addr×Obj)}{σ:List (Option V)}{H H':Hp}{s:Ad}{h':Heap}
theorem Cx.Ok.nofr(ok:X.Ok){b:Addr}{o:Obj}(e:X.base.get? b=some o):b∉X.fs:=fun hb=>by
 have:=(ok.funs.mem hb).1
 rw[e] at this;cases this
theorem c7.bs(I:c7 X aa σ H s): ∀b o,X.base.get? b=some o->s.heap.get? b=some o/\H b=none:=fun b o e=>
 ⟨I.base.keep b o (I.ok.bs b o e).1 (I.ok.bs b o e).2 (I.ok.nofr e) (I.ok.noex b o e),I.base.free b o (I.ok.bs b o e).1 (I.ok.bs b o e).2 (I.ok.noex b o e)⟩
theorem c7.bk(I:c7 X aa σ H s): ∀b o,X.base.get? b=some o->s.heap.get? b=some o:=fun b o e=>(I.bs b o e).1
theorem c7.mod(I:c7 X aa σ H s):Mod X.K X.mg X.base:=I.ok.mod
theorem c7.kIn(I:c7 X aa σ H s):X.K.In s.heap:=I.ok.mod.kin.keeps I.bk
theorem c7.lt(I:c7 X aa σ H s):X.env.locals<s.heap.objs.size:=let ⟨_,hn,_⟩:=I.loc;hn.lt
theorem c7.sz(I:c7 X aa σ H s):X.s₀.heap.objs.size<=s.heap.objs.size:=Dy I.ok.above (Ng I.lt)
theorem c7.nofs(I:c7 X aa σ H s){a:Addr}(h:s.heap.objs.size<=a):a∉X.fs:=fun hb=>by
 obtain⟨_,o,ho,_⟩:=I.ok.funs.mem hb
 exact absurd (Aq (Aj ho) (Dy I.sz h)) (Bw _)
theorem c7.cne(I:c7 X aa σ H s): ∀x c,X.env.cells.lookup x=some c->c≠X.env.locals:=fun x c e z=>by
 obtain⟨v,o,ho,hd⟩:=I.cell x c e
 obtain⟨m,⟨o',es,ep,ho',hd',_⟩,_⟩:=I.loc
 rw[z,ho'] at ho;cases ho;rw[hd'] at hd;cases hd
theorem c7.funs(I:c7 X aa σ H s):s.heap.FunFrames X.base X.outer:=by
 have all: ∀(l:List Env),(∀b∈UW l,b∈X.fs)->X.s₀.heap.FunFrames X.base l->s.heap.FunFrames X.base l:=by
  intro l
  induction l with
  |nil=>intro _ _;trivial
  |cons env r ih=>
   intro hs hl
   obtain⟨hk,⟨L,o,hf,hn,ho,hd⟩,hr⟩:=hl
   have hL:L∈X.fs:=hs L (by unfold UW;rw[Hy,hf];exact Bg)
   obtain⟨sl,e⟩:=I.base.slot L o ho (I.ok.frf L hL) hL fun z=>I.ok.exfs L z hL
   exact⟨hk,⟨L,_,hf,hn,e,hd⟩,ih (fun b hb=>hs b (by unfold UW;rw[Hy,hf];exact Av _ hb)) hr⟩
 exact all X.outer (fun _ hb=>hb) I.ok.funs
theorem c7.stack(I:c7 X aa σ H s):s.heap.FunFrames X.base X.stack:=by
 rcases I.ok.stk with e|⟨e,hf⟩
 ·rw[e];exact I.funs
 ·rw[e]
  obtain⟨m,hn,_⟩:=I.loc
  refine .cons (by rw[I.ok.kind];decide) hf hn ?_ I.funs
  exact Heap.get?_none_of_le (Dy I.ok.bsz I.ok.above)
theorem c7.stkSub(I:c7 X aa σ H s): ∀b∈UW X.stack,b∈X.env.locals::X.fs:=fun b hb=>by
 rcases I.ok.stk with e|⟨e,hf⟩
 ·rw[e] at hb;exact Av _ hb
 ·rw[e] at hb
  unfold UW at hb
  rw[Hy,hf] at hb
  exact hb
theorem c7.stkFree(I:c7 X aa σ H s): ∀b∈UW X.stack,H b=none:=fun b hb=>by
 rcases Ao.mp (I.stkSub b hb) with e|hb
 ·rw[e];exact I.free
 ·obtain⟨_,o,ho,_⟩:=I.ok.funs.mem hb
  exact I.base.free b o ho (I.ok.frf b hb) fun z=>I.ok.exfs b z hb
theorem c7.step{g':Array GenState}{t':Nat}{d':Drawn}{ch:List Addr}(I:c7 X aa σ H s)
  (hch: ∀b∈ch,(b∈X.ex∨X.s₀.heap.objs.size<=b)/\b≠X.env.locals/\(∀x c,X.env.cells.lookup x=some c->c≠b)/\ ∀p∈X.pn++aa,p.1≠b)
  (keep: ∀b o,b≠X.env.locals->b∉X.fs->b∉ch->s.heap.get? b=some o->H b=none->h'.get? b=some o)
  (slot: ∀b o,b≠X.env.locals->b∈X.fs->b∉ch->s.heap.get? b=some o->H b=none-> ∃sl,h'.get? b=some {o with slots:=sl}) (free: ∀b o,b∉ch->s.heap.get? b=some o->H b=none->H' b=none)
  (there: ∀b o,b∉ch->s.heap.get? b=some o-> ∃o',h'.get? b=some o')
  (tups: ∀b xs,H b=some (.tup xs)->H' b=some (.tup xs)) (frzs: ∀b o u,H b=some (.frz o u)->H' b=some (.frz o u)) (tbls: ∀b ps,H b=some (.tbl ps)-> ∃more,H' b=some (.tbl (ps++more)))
  (ns: ∀m,s.heap.Ns X.env.locals m->h'.Ns X.env.locals m) (hok:U2 X.prog X.w H' h') (hg:Jp g'):
  c7 X aa σ H' {s with heap:=h',gens:=g',drawn:=d',toks:=t'}:=by
 have neL: ∀b o,X.s₀.heap.get? b=some o->b≠X.env.locals:=fun b o e=>Be (Aq (Aj e) I.ok.above)
 have neC: ∀b o,X.s₀.heap.get? b=some o->b∉X.ex->b∉ch:=fun b o e hx hb=>by
  rcases(hch b hb).1 with z|z
  ·exact hx z
  ·exact absurd (Aq (Aj e) z) (Bw _)
 have g9: ∀x c,X.env.cells.lookup x=some c-> ∀v,s.heap.IsCell c v->h'.IsCell c v:=fun x c e v q0=>by
  obtain⟨o,ho,hd⟩:=q0
  have nch:c∉ch:=fun z=>(hch c z).2.2.1 x c e rfl
  by_cases hc:c∈X.fs
  ·obtain⟨sl,q⟩:=slot c o (I.cne x c e) hc nch ho (I.freeC x c e)
   exact⟨_,q,hd⟩
  ·exact⟨o,keep c o (I.cne x c e) hc nch ho (I.freeC x c e),hd⟩
 refine⟨I.ok,I.os,hg,⟨fun b o e n hb hx=> ?_,fun b o e n hb hx=> ?_,fun b o e n hx=> ?_,fun b o e hx=> ?_,fun b xs e=>tups b xs (I.base.tups b xs e),fun b o xs e=>frzs b o xs (I.base.frzs b o xs e),fun b ps e=> ?_⟩,?_,fun x c e=> ?_,?_,fun x c e=> ?_,fun p hp=> ?_,hok,I.len⟩
 ·exact keep b o (neL b o e) hb (neC b o e hx) (I.base.keep b o e n hb hx) (I.base.free b o e n hx)
 ·obtain⟨sl,e1⟩:=I.base.slot b o e n hb hx
  obtain⟨sl',e2⟩:=slot b _ (neL b o e) hb (neC b o e hx) e1 (I.base.free b o e n hx)
  exact⟨sl',e2⟩
 ·obtain⟨o',e1⟩:=I.base.there b o e hx
  exact free b o' (neC b o e hx) e1 (I.base.free b o e n hx)
 ·obtain⟨o',e1⟩:=I.base.there b o e hx
  exact there b o' (neC b o e hx) e1
 ·obtain⟨m1,e1⟩:=I.base.tbls b ps e
  obtain⟨m2,e2⟩:=tbls b _ e1
  exact⟨m1++m2,by rw[e2,Array.append_assoc]⟩
 ·obtain⟨m,hn,hl⟩:=I.loc
  refine⟨m,ns m hn,fun i x v e1 e2 e3=> ?_⟩
  obtain⟨u,r,l⟩:=hl i x v e1 e2 e3
  refine⟨u,r,?_⟩
  rcases l with l|⟨k,c,e,z⟩
  ·exact .inl l
  ·exact .inr ⟨k,c,e,g9 x c e _ z⟩
 ·obtain⟨v,z⟩:=I.cell x c e
  exact⟨v,g9 x c e v z⟩
 ·obtain⟨m,⟨o,_,_,ho,_⟩,_⟩:=I.loc
  exact free _ o (fun z=>(hch _ z).2.1 rfl) ho I.free
 ·obtain⟨v,o,ho,hd⟩:=I.cell x c e
  exact free c o (fun z=>(hch c z).2.2.1 x c e rfl) ho (I.freeC x c e)
 ·obtain⟨e,n,ne,nf,d⟩:=I.pin p hp
  have nch:p.1∉ch:=fun z=>(hch p.1 z).2.2.2 p hp rfl
  exact⟨keep p.1 p.2 ne nf nch e n,free p.1 p.2 nch e n,ne,nf,d⟩
theorem c7.un{t':Nat}(I:c7 X aa σ H s)(u:Un X.fs [] H H' s.heap h')(hok:U2 X.prog X.w H' h'):c7 X aa σ H' {s with heap:=h',toks:=t'}:=by
 obtain⟨m,⟨o,es,ep,ho,r⟩,_⟩:=id I.loc
 obtain⟨sl,hL⟩:=u.any ho I.free (by simp)
 exact I.step (g':=s.gens) (d':=s.drawn) (ch:=[]) (fun _ z=>nomatch z) (fun b o _ hb _ e n=>u.keep b o e n hb (by simp)) (fun b o _ hb _ e n=>u.slot b o e n hb (by simp)) (fun b o _ e n=>u.free b o e n (by simp)) (fun b o _ e=>u.there b o e (by simp)) u.tups u.frzs u.tbls (fun m' hm=>by
  obtain⟨o',es',ep',ho',r'⟩:=hm
  rw[ho] at ho';cases ho'
  exact⟨_,es',ep',hL,r'⟩) hok I.bare
theorem c7.call{g':Array GenState}{t':Nat}{d':Drawn}{ch:List Addr}(I:c7 X aa σ H s)(u:Un (UW X.stack) ch H H' s.heap h')(hok:U2 X.prog X.w H' h')(hg:Jp g')
  (hch: ∀b∈ch,(b∈X.ex∨X.s₀.heap.objs.size<=b)/\b≠X.env.locals/\(∀x c,X.env.cells.lookup x=some c->c≠b)/\ ∀p∈X.pn++aa,p.1≠b):
  c7 X aa σ H' {s with heap:=h',gens:=g',drawn:=d',toks:=t'}:=by
 obtain⟨m,⟨o,es,ep,ho,r⟩,_⟩:=id I.loc
 obtain⟨sl,hL⟩:=u.any ho I.free fun z=>(hch _ z).2.1 rfl
 exact I.step (ch:=ch) hch (fun b o hL hb hc e n=>u.keep b o e n (fun z=>(Ao.mp (I.stkSub b z)).elim hL hb) hc) (fun b o _ _ hc e n=>u.any e n hc) (fun b o hc e n=>u.free b o e n hc) (fun b o hc e=>u.there b o e hc) u.tups u.frzs u.tbls (fun m' hm=>by
  obtain⟨o',es',ep',ho',r'⟩:=hm
  rw[ho] at ho';cases ho'
  exact⟨_,es',ep',hL,r'⟩) hok hg
theorem c7.turned{t':Nat}{it:Addr}(I:c7 X aa σ H s)(k: ∀b o,b≠it->s.heap.get? b=some o->h'.get? b=some o)(hn:H it=none)(hL:it≠X.env.locals)
  (h1:it∈X.ex∨X.s₀.heap.objs.size<=it) (h2: ∀x c,X.env.cells.lookup x=some c->c≠it) (h3: ∀p∈X.pn++aa,p.1≠it):c7 X aa σ H {s with heap:=h',toks:=t'}:=by
 have nit: ∀b u,H b=some u->b≠it:=fun b u e z=>by rw[z,hn] at e;cases e
 refine I.step (g':=s.gens) (d':=s.drawn) (ch:=[it]) (fun b hb=> ?_) (fun b o _ _ hc e _=>k b o (fun z=>hc (by simp[z])) e) (fun b o _ _ hc e _=>⟨o.slots,k b o (fun z=>hc (by simp[z])) e⟩) (fun _ _ _ _ n=>n)
  (fun b o hc e=>⟨o,k b o (fun z=>hc (by simp[z])) e⟩) (fun _ _ e=>e) (fun _ _ _ e=>e) (fun b ps e=>⟨#[],by rw[e];simp⟩) (fun m hm=> ?_) (fun b u e=> ?_) I.bare
 ·have e : b = it := by simpa using hb
  subst e
  exact⟨h1,hL,h2,h3⟩
 ·obtain⟨o,es,ep,ho,r⟩:=hm
  exact⟨o,es,ep,k _ o (Ee hL) ho,r⟩
 ·refine (I.hok b u e).stay (fun c v hc q => k c v ?_ q) (fun _ q => q) fun _ _ q => q
  rcases hc with z|z
  ·rw[z];exact nit b u e
  ·exact nit c _ z
theorem c7.tok(I:c7 X aa σ H s)(t:Nat):c7 X aa σ H {s with toks:=t}:=I.un (h':=s.heap) (t':=t) Un.refl I.hok
theorem c7.kept{t':Nat}(I:c7 X aa σ H s)(k: ∀b u,s.heap.get? b=some u->h'.get? b=some u):c7 X aa σ H {s with heap:=h',toks:=t'}:=I.un (Un.kept k) (I.hok.kept k)
theorem c7.laid{a:Addr}{o:HO}{t':Nat}(I:c7 X aa σ H s)(k: ∀b u,s.heap.get? b=some u->h'.get? b=some u)(hp:s.heap.objs.size<=a)(new:aR X.prog X.w (bL H a o) h' a o):
  c7 X aa σ (bL H a o) {s with heap:=h',toks:=t'}:=I.un (Un.laid k hp (I.hok.fresh hp)) (I.hok.laid k hp new)
theorem c7.write{x e:Addr}{o:HO}{t':Nat}(I:c7 X aa σ H s)(mu:Mut (H x))(he:e=x∨H e=some (.own x))(k: ∀b u,b≠e->s.heap.get? b=some u->h'.get? b=some u)(heo: ∃u,h'.get? e=some u)
  (new:aR X.prog X.w (bL H x o) h' x o):c7 X aa σ (bL H x o) {s with heap:=h',toks:=t'}:=I.un (Un.write mu he k heo) (I.hok.write mu he k heo new)
theorem c7.weak{σ':List (Option V)}(I:c7 X aa σ H s)(hl:σ'.length=σ.length)(w: ∀(i:Nat) v,σ'[i]? =some (some v)->σ[i]? =some (some v)):c7 X aa σ' H s:=
 ⟨I.ok,I.os,I.bare,I.base,let ⟨m,hn,hl'⟩:=I.loc;⟨m,hn,fun i x v e1 e2 e3=>hl' i x v e1 (w i v e2) e3⟩,I.cell,I.free,I.freeC,I.pin,I.hok,hl.trans I.len⟩
theorem c7.pins_of{jm:List (Addr×Obj)}(I:c7 X aa σ H s)(h: ∀p∈jm,s.heap.get? p.1=some p.2/\H p.1=none/\p.1≠X.env.locals/\p.1∉X.fs/\ ∀v,p.2.data≠ .cell v):c7 X jm σ H s:=
 ⟨I.ok,I.os,I.bare,I.base,I.loc,I.cell,I.free,I.freeC,fun p hp=>(Fa.mp hp).elim (fun z=>I.pin p (Bf _ z)) (h p),I.hok,I.len⟩
theorem KG{N:List Str}(hN:N.Nodup){i j:Nat}{x:Str}(a:N[i]? =some x)(b:N[j]? =some x):i=j:=by
 obtain⟨h1,e1⟩:=Ah.mp a
 obtain⟨h2,e2⟩:=Ah.mp b
 exact(No hN).mp (e1.trans e2.symm)
theorem SA{M:Model}{A:Bx}{E:Value->Ad->Prop}{i:Nat}{x:Str}{v:V}{u:Value}{Q:Unit->Ad->Prop}(I:c7 X aa σ H s)(hN:X.N.Nodup)(hi:X.N[i]? =some x)(hx:F0 X.env.scope x)(r:cO v u)
  (h : ∀ s',c7 X aa (σ.set i (some v)) H s' -> (∃ a,Ef a s.heap s'.heap /\ (a = X.env.locals ∨ X.env.cells.lookup x = some a)) -> Q () s') (hf : X.fn x = true ∨ X.env.scope.names.lookup x = some .local := by first | exact .inl rfl | exact .inr rfl | assumption) : wpAny M A (storeName X.env x u) Q E s := by
 obtain⟨m,hn,hl⟩:=id I.loc
 have oo:(X.env.scope.kind== .class || (X.env.scope.kind== .module && X.env.locals !=X.env.globals))=false:=by rw[I.ok.kind];rfl
 have hiσ:i<σ.length:=by rw[I.len];exact(Ah.mp hi).1
 have cne:=I.cne
 have gn: ∀{a:Addr} {h':Heap},(∃o,s.heap.get? a=some o/\H a=none)->Ef a s.heap h'->U2 X.prog X.w H h':=fun{a h'} ha hs b ob e=>by
  obtain⟨_,_,bn⟩:=ha
  refine(I.hok b ob e).stay (fun c w' hc q=>(hs.2 c ?_).trans q) (fun _ q=>q) fun _ _ q=>q
  rintro rfl
  rcases hc with rfl|hc
  ·rw[bn] at e;cases e
  ·rw[bn] at hc;cases hc
 rcases hx with hk|hk
 ·refine wpAny_storeName_local hk hn (fun h' hn' hs => ?_) oo
  obtain⟨oL,_,_,hoL,_⟩:=id hn
  refine h _ ⟨I.ok,I.os,I.bare,⟨fun b o e n hb hx=> ?_,fun b o e n hb hx=> ?_,I.base.free,fun b o e hx=> ?_,I.base.tups,I.base.frzs,I.base.tbls⟩,⟨_,hn',fun j y v' e1 e2 e3=> ?_⟩,fun y c e=> ?_,I.free,I.freeC,fun p hp=> ?_,gn ⟨oL,hoL,I.free⟩ hs,by simpa using I.len⟩ ⟨_,hs,.inl rfl⟩
  ·exact(hs.2 b (Be (Aq (Aj e) I.ok.above))).trans (I.base.keep b o e n hb hx)
  ·obtain⟨sl,e1⟩:=I.base.slot b o e n hb hx
   exact⟨sl,(hs.2 b (Be (Aq (Aj e) I.ok.above))).trans e1⟩
  ·obtain⟨o',e1⟩:=I.base.there b o e hx
   exact⟨o',(hs.2 b (Be (Aq (Aj e) I.ok.above))).trans e1⟩
  ·by_cases hj:j=i
   ·subst hj
    rw[hi] at e1;cases e1
    rw[Cm hiσ] at e2
    cases e2
    exact⟨u,r,.inl ⟨hk,by simp⟩⟩
   ·rw[Bm (Ee hj)] at e2
    obtain⟨u',r',q⟩:=hl j y v' e1 e2 e3
    refine⟨u',r',?_⟩
    rcases q with⟨k,e⟩|⟨k,c,e,z⟩
    ·refine .inl ⟨k,?_⟩
     have:y≠x:=fun e=>hj (KG hN e1 (e▸hi))
     simp[this,e]
    ·exact .inr ⟨k,c,e,z.sameBut hs (cne y c e)⟩
  ·obtain⟨w',z⟩:=I.cell y c e
   exact⟨w',z.sameBut hs (cne y c e)⟩
  ·obtain⟨e,n,ne,nf,d⟩:=I.pin p hp
   exact⟨(hs.2 p.1 ne).trans e,n,ne,nf,d⟩
 ·have hfn:X.fn x=true:=by
   rcases hf with z|z
   ·exact z
   ·rw[z] at hk;cases hk
  obtain⟨c,hc⟩:=I.ok.has x (.inl hk)
  obtain⟨w',z⟩:=I.cell x c hc
  refine wpAny_storeName_cell I.ok.kind hk hc z (fun h' hc' hs=> ?_)
  obtain⟨oc,hoc,oa⟩:=id z
  refine h {s with heap:=h'} ⟨I.ok,I.os,I.bare,⟨fun b o e n hb hx=> ?_,fun b o e n hb hx=> ?_,I.base.free,fun b o e hx=> ?_,I.base.tups,I.base.frzs,I.base.tbls⟩,⟨m,hn.sameBut hs (Ee (cne x c hc)),fun j y v' e1 e2 e3=> ?_⟩,fun y c' e=> ?_,I.free,I.freeC,fun p hp=> ?_,gn ⟨oc,hoc,I.freeC x c hc⟩ hs,by simpa using I.len⟩ ⟨c,hs,.inr hc⟩
  ·exact(hs.2 b (Be (Aq (Aj e) (I.ok.cab x c hfn hc)))).trans (I.base.keep b o e n hb hx)
  ·obtain⟨sl,e1⟩:=I.base.slot b o e n hb hx
   exact⟨sl,(hs.2 b (Be (Aq (Aj e) (I.ok.cab x c hfn hc)))).trans e1⟩
  ·obtain⟨o',e1⟩:=I.base.there b o e hx
   exact⟨o',(hs.2 b (Be (Aq (Aj e) (I.ok.cab x c hfn hc)))).trans e1⟩
  ·by_cases hj:j=i
   ·subst hj
    rw[hi] at e1;cases e1
    rw[Cm hiσ] at e2
    cases e2
    exact⟨u,r,.inr ⟨.inl hk,c,hc,hc'⟩⟩
   ·rw[Bm (Ee hj)] at e2
    obtain⟨u',r',q⟩:=hl j y v' e1 e2 e3
    refine⟨u',r',?_⟩
    rcases q with q|⟨k,c',e,z'⟩
    ·exact .inl q
    ·refine .inr ⟨k,c',e,z'.sameBut hs ?_⟩
     rintro rfl
     exact hj (KG hN e1 (I.ok.inj _ _ _ e hc▸hi))
  ·by_cases hcc:c'=c
   ·subst hcc;exact⟨_,hc'⟩
   ·obtain⟨w2,z2⟩:=I.cell y c' e
    exact⟨w2,z2.sameBut hs hcc⟩
  ·obtain⟨e,n,ne,nf,d⟩:=I.pin p hp
   refine⟨(hs.2 p.1 ?_).trans e,n,ne,nf,d⟩
   intro q
   rw[q,hoc] at e
   have q':oc=p.2:=Bb e
   exact d w' (by rw[<- q'];exact oa)
theorem V7{M:Model}{A:Bx}{E:Value->Ad->Prop}{i:Nat}{x:Str}{v:V}{u:Value}{Q:Unit->Ad->Prop}(I:c7 X aa σ H s)(hN:X.N.Nodup)(hi:X.N[i]? =some x)(hx:F0 X.env.scope x)(r:cO v u)
  (h: ∀s',c7 X aa (σ.set i (some v)) H s'->Q () s') (hf:X.fn x=true∨X.env.scope.names.lookup x=some .local:=by first|exact .inl rfl|exact .inr rfl|assumption):wpAny M A (storeName X.env x u) Q E s:=
 SA I hN hi hx r (fun s' I' _=>h s' I') hf
theorem c7.call'{s':Ad}{ch:List Addr}(I:c7 X aa σ H s)(ho:s'.os=s.os)(u:Un (UW X.stack) ch H H' s.heap s'.heap)(hok:U2 X.prog X.w H' s'.heap)(hg:Jp s'.gens)
  (hch: ∀b∈ch,(b∈X.ex∨X.s₀.heap.objs.size<=b)/\b≠X.env.locals/\(∀x c,X.env.cells.lookup x=some c->c≠b)/\ ∀p∈X.pn++aa,p.1≠b):c7 X aa σ H' s':=by
 obtain⟨h',g',d',t',o'⟩:=s'
 have e:o'=s.os:=ho
 subst e
 exact I.call (g':=g') (t':=t') (d':=d') u hok hg hch
end
abbrev XK:=Value->Option Addr->Hp->Prop
abbrev St:=List (Option V)
abbrev VK:=V->Hp->Prop
abbrev TE:=St->Hp->VK->Prop
abbrev TT:=St->Hp->(Bool->Hp->Prop)->Prop
abbrev TA:=St->Hp->(List V->Hp->Prop)->Prop
structure HG where
 nx:St->Hp->Prop
 rt:VK
 bk:St->Hp->Prop:=fun _ _=>False
 ct:St->Hp->Prop:=fun _ _=>False
abbrev TS:=HG->St->Hp->Prop
def EP(X:Cx)(aa:List (Addr×Obj))(σ:St)(Q:VK)(u:Value)(s':Ad):Prop:= ∃v H',c7 X aa σ H' s'/\cO v u/\Q v H'
def TP(X:Cx)(aa:List (Addr×Obj))(σ:St)(Q:Bool->Hp->Prop)(b:Bool)(s':Ad):Prop:= ∃H',c7 X aa σ H' s'/\Q b H'
def AP(X:Cx)(aa:List (Addr×Obj))(σ:St)(Q:List V->Hp->Prop)(us:List Value)(s':Ad):Prop:= ∃vs H',c7 X aa σ H' s'/\cA vs us/\Q vs H'
def SP(X:Cx)(aa:List (Addr×Obj))(D:HG)(f:Flow)(s':Ad):Prop:=
 match f with
 | .next=> ∃σ' H',c7 X aa σ' H' s'/\D.nx σ' H'
 | .brk=> ∃σ' H',c7 X aa σ' H' s'/\D.bk σ' H'
 | .cont=> ∃σ' H',c7 X aa σ' H' s'/\D.ct σ' H'
 | .ret u=> ∃v σ' H',c7 X aa σ' H' s'/\cO v u/\D.rt v H'
def PE(X:Cx)(e:Expr)(t:TE):Prop:=
 ∀(aa:List (Addr×Obj)) (s:Ad) (σ:St) (H:Hp) (Q:VK),c7 X aa σ H s->t σ H Q->wpAny (model X.prog X.w) X.A (eval e X.env) (EP X aa σ Q) X.xe s
def PT(X:Cx)(e:Expr)(t:TT):Prop:=
 ∀(aa:List (Addr×Obj)) (s:Ad) (σ:St) (H:Hp) (Q:Bool->Hp->Prop),c7 X aa σ H s->t σ H Q->wpAny (model X.prog X.w) X.A (isTrue e X.env (eval e X.env)) (TP X aa σ Q) X.xe s
def PW(X:Cx)(e:Expr)(t:TT):Prop:=
 ∀(bz:Sem Value) (aa:List (Addr×Obj)) (s:Ad) (σ:St) (H:Hp) (Q:Bool->Hp->Prop),c7 X aa σ H s->t σ H Q->wpAny (model X.prog X.w) X.A (isTrue e X.env bz) (TP X aa σ Q) X.xe s
theorem PW.pt{X:Cx}{e:Expr}{t:TT}(h:PW X e t):PT X e t:=h _
def PA(X:Cx)(es:List Expr)(t:TA):Prop:=
 ∀(pos:Pos) (aa:List (Addr×Obj)) (s:Ad) (σ:St) (H:Hp) (Q:List V->Hp->Prop),c7 X aa σ H s->t σ H Q->wpAny (model X.prog X.w) X.A (spliced (Dq pos (starEach es X.env))) (AP X aa σ Q) X.xe s
def PS(X:Cx)(st:Stmt)(t:TS):Prop:=
 ∀(aa:List (Addr×Obj)) (s:Ad) (σ:St) (H:Hp) (D:HG),c7 X aa σ H s->t D σ H->wpAny (model X.prog X.w) X.A (exec st X.env) (SP X aa D) X.xe s
def W6(X:Cx)(st:List Stmt)(t:TS):Prop:=
 ∀(aa:List (Addr×Obj)) (s:Ad) (σ:St) (H:Hp) (D:HG),c7 X aa σ H s->t D σ H->wpAny (model X.prog X.w) X.A (execs st X.env) (SP X aa D) X.xe s
theorem aJ{α:Type}{t:Sem α}{Q Q':α->Ad->Prop}{M:Model}{A:Bx}{E:Value->Ad->Prop}{s:Ad}(h:wpAny M A t Q E s)(hQ: ∀a s,Q a s->Q' a s):wpAny M A t Q' E s:=An h hQ fun _ _ x=>x
section
variable{X:Cx}
def P8(i:Nat):TE:=fun σ H Q=> ∃v,σ[i]? =some (some v)/\Q v H
def tC(v:V):TE:=fun _ H Q=>Q v H
theorem IH{i:Nat}{x:Str}{pos:Pos}(hN:X.N[i]? =some x)(hv:Vis X.env.scope x)(hd:(x==("__debug__":Str))=false:=by decide) (hcd:(x==("__classdict__":Str))=false:=by decide):PE X (.Name x pos) (P8 i):=by
 intro aa s σ H Q I h
 obtain⟨v,e,h⟩:=h
 obtain⟨m,hn,hl⟩:=I.loc
 obtain⟨u,r,l⟩:=hl i x v hN e hv
 have fin:EP X aa σ Q u s:=⟨v,H,I,r,h⟩
 rcases l with⟨hk,hm⟩|⟨hk,c,hc,jr⟩
 ·exact Po (wpAny_loadName_local I.ok.kind hk hn hm fin) hd
 ·rcases hk with hk|hk
  ·exact Po (wpAny_loadName_cell I.ok.kind hk hc jr fin) hd
  ·exact Po (wpAny_loadName_free I.ok.kind hk hc jr fin hcd) hd
theorem zE3{i j pos}:PE X (.Constant (.int i) j pos) (tC (.int i)):=fun _ _ _ H _ I h=>wpAny_Constant_int ⟨.int i,H,I.tok _,⟨_,rfl⟩,h⟩
theorem zGZ{b j pos}:PE X (.Constant (.bool b) j pos) (tC (.bl b)):=fun _ _ _ H _ I h=>Constant_bool ⟨.bl b,H,I,rfl,h⟩
theorem BJ{j pos}:PE X (.Constant .none j pos) (tC .non):=fun _ _ _ H _ I h=>Constant_none ⟨.non,H,I,rfl,h⟩
theorem BL{x j pos}:PE X (.Constant (.str x) j pos) (tC (.str x)):=fun _ _ _ H _ I h=>Calls.Constant_str ⟨.str x,H,I.tok _,⟨_,rfl⟩,h⟩
def Gl(X:Cx)(x:Str):Prop:=X.env.kindOf x=some .globalImplicit
theorem XV{E:Value->Ad->Prop}{aa:List (Addr×Obj)}{s:Ad}{σ:St}{H:Hp}{x:Str}{u:Value}{pos:Pos}{Q:Value->Ad->Prop}(I:c7 X aa σ H s)(hg:Gl X x)(hm:X.mg x=some u)(h:Q u s)
  (hd:(x==("__debug__":Str))=false:=by decide):wpAny (model X.prog X.w) X.A (eval (.Name x pos) X.env) Q E s:=
 Io I.ok.kind hg (Calls.loadGlobal_global (by rw[I.ok.glob];exact I.mod.glob.keeps I.bk) hm h) hd
theorem UK{E:Value->Ad->Prop}{aa:List (Addr×Obj)}{s:Ad}{σ:St}{H:Hp}{x:Str}{u:Value}{pos:Pos}{Q:Value->Ad->Prop}(I:c7 X aa σ H s)(hg:Gl X x)(hm:X.mg x=none)(hv:Bl x=some u)(h:Q u s)
  (hn:x≠ "__name__":=by decide) (hd:(x==("__debug__":Str))=false:=by decide):wpAny (model X.prog X.w) X.A (eval (.Name x pos) X.env) Q E s:=by
 obtain⟨mb,h1,h2⟩:=I.mod.blt
 exact Io I.ok.kind hg (Calls.loadGlobal_builtin (by rw[I.ok.glob];exact I.mod.glob.keeps I.bk) hm (by rw[I.ok.blt];exact h1.keeps I.bk) ((h2 x hn).trans hv) h) hd
theorem zAU{x:Str}{v:V}{u:Value}{pos:Pos}(hg:Gl X x)(hm:X.mg x=some u)(r:cO v u)(hd:(x==("__debug__":Str))=false:=by decide):PE X (.Name x pos) (tC v):=
 fun _ _ _ H _ I h=>XV I hg hm ⟨v,H,I,r,h⟩ hd
theorem zAX{x:Str}{v:V}{u:Value}{pos:Pos}(hg:Gl X x)(hm:X.mg x=none)(hv:Bl x=some u)(r:cO v u)(hn:x≠ "__name__":=by decide) (hd:(x==("__debug__":Str))=false:=by decide):PE X (.Name x pos) (tC v):=
 fun _ _ _ H _ I h=>UK I hg hm hv ⟨v,H,I,r,h⟩ hn hd
variable{a b:Expr}{ta tb:TE}{pos:Pos}
def tB(t:TE):TT:=fun σ H Q=>t σ H fun x H1=> ∃c,x= .bl c/\Q c H1
theorem zDS{e:Expr}{t:TE}(h:PE X e t)(he: ∀bz,isTrue e X.env bz=(do let v<- bz;Jq e.pos;Jr [v] (truthy v)):=by intro _;rfl):PT X e (tB t):=by
 intro aa s σ H Q I hw
 refine isTrue_plain (aJ (h aa s σ H _ I hw) fun v s1 ⟨x,H1,I1,r1,q1⟩=> ?_) (he _)
 obtain⟨d,rfl,q⟩:=q1
 cases r1
 exact Du ⟨H1,I1,q⟩
variable{tA tB':TT}{rest:List Expr}
def tAnd(t u:TT):TT:=fun σ H Q=>t σ H fun c H1=>if c=true then u σ H1 Q else Q false H1
def tOr(t u:TT):TT:=fun σ H Q=>t σ H fun c H1=>if c=true then Q true H1 else u σ H1 Q
def tNot(t:TT):TT:=fun σ H Q=>t σ H fun c H1=>Q (!c) H1
theorem zAJ(ha:PT X a tA):PW X (.BoolOp .And [a] pos) tA:=by
 intro wh aa s σ H Q I h
 refine isTrue_and (aJ (ha aa s σ H Q I h) fun c s1 e=> ?_)
 cases c with
 |true=>exact isTrue_and_nil e
 |false=>exact e
theorem zDQ(ha:PT X a tA):PW X (.BoolOp .Or [a] pos) tA:=by
 intro wh aa s σ H Q I h
 refine isTrue_or (aJ (ha aa s σ H Q I h) fun c s1 e=> ?_)
 cases c with
 |false=>exact isTrue_or_nil e
 |true=>exact e
theorem zDR(ha:PT X a tA)(hb:PW X (.BoolOp .And (b::rest) pos) tB'):PW X (.BoolOp .And (a::b::rest) pos) (tAnd tA tB'):=by
 intro wh aa s σ H Q I h
 refine isTrue_and (aJ (ha aa s σ H _ I h) fun c s1 ⟨H1,I1,q1⟩=> ?_)
 cases c with
 |true=>exact hb wh aa s1 σ H1 Q I1 q1
 |false=>exact⟨H1,I1,q1⟩
theorem zGV(ha:PT X a tA)(hb:PW X (.BoolOp .Or (b::rest) pos) tB'):PW X (.BoolOp .Or (a::b::rest) pos) (tOr tA tB'):=by
 intro wh aa s σ H Q I h
 refine isTrue_or (aJ (ha aa s σ H _ I h) fun c s1 ⟨H1,I1,q1⟩=> ?_)
 cases c with
 |true=>exact⟨H1,I1,q1⟩
 |false=>exact hb wh aa s1 σ H1 Q I1 q1
theorem zDT(ha:PT X a tA):PT X (.UnaryOp .Not a pos) (tNot tA):=by
 intro aa s σ H Q I h
 exact isTrue_not (ha aa s σ H (fun c H1=>Q (!c) H1) I h)
def zG4(ta tb:TE):TE:=fun σ H Q=>ta σ H fun x H1=> ∃c,x= .bl c/\if c=true then tb σ H1 Q else Q (.bl false) H1
theorem zE2{op}{t:TE}(h:PE X a t):PE X (.BoolOp op [a] pos) t:=fun aa s σ H Q I hw=>BoolOp_one (h aa s σ H Q I hw)
theorem zE4(ha:PE X a ta)(hb:PE X (.BoolOp .And (b::rest) pos) tb):PE X (.BoolOp .And (a::b::rest) pos) (zG4 ta tb):=by
 intro aa s σ H Q I h
 refine BoolOp_and (aJ (ha aa s σ H _ I h) fun v s1 ⟨x,H1,I1,r1,q1⟩=> ?_)
 obtain⟨c,rfl,q1⟩:=q1
 cases r1
 refine Du ?_
 cases c with
 |true=>exact hb aa s1 σ H1 Q I1 q1
 |false=>exact⟨.bl false,H1,I1,rfl,q1⟩
def tIf(t:TT)(ta tb:TE):TE:=fun σ H Q=>t σ H fun c H1=>if c=true then ta σ H1 Q else tb σ H1 Q
theorem KP{c:Expr}(hc:PT X c tA)(ha:PE X a ta)(hb:PE X b tb):PE X (.IfExp c a b pos) (tIf tA ta tb):=by
 intro aa s σ H Q I h
 refine wpAny_IfExp (aJ (hc aa s σ H _ I h) fun d s1 ⟨H1,I1,q1⟩=> ?_)
 cases d with
 |true=>exact ha aa s1 σ H1 Q I1 q1
 |false=>exact hb aa s1 σ H1 Q I1 q1
end
def YO(K:Ai)(H:Hp)(a:Addr)(xs:List V):Prop:=
 Rd H a (.lst xs)∨
  ∃(o:Obj) (its:Array Value) (n:Nat),K.lookup a=some o/\o.cls= .type "list" /\o.dict=none/\o.data= .seq its n/\its.size<=sizeLine/\cA xs its.toList
def W4(K:Ai)(H:Hp)(a:Addr)(xs:List V):Prop:=
 Rd H a (.tup xs)∨
  ∃(o:Obj) (its:Array Value) (n:Nat),K.lookup a=some o/\o.cls= .type "tuple" /\o.data= .seq its n/\its.size<=sizeLine/\cA xs its.toList
noncomputable def absV:Value->Option V
 | .none=>some .non
 | .bool b=>some (.bl b)
 | .int i _=>some (.int i)
 | .str x _=>some (.str x)
 | .bytes b _=>some (.byt b)
 | .float b _=>some (.flt b)
 | .ref a=>some (.ref a)
 | .type n=>some (.ty n)
 |_=>none
theorem cO.abs{x:V}{u:Value}(r:cO x u):absV u=some x:=by
 cases x with
 |non=>cases r;rfl
 |bl _=>cases r;rfl
 |int _=>obtain⟨t,rfl⟩:=r;rfl
 |str _=>obtain⟨t,rfl⟩:=r;rfl
 |byt _=>obtain⟨t,rfl⟩:=r;rfl
 |flt _=>obtain⟨t,rfl⟩:=r;rfl
 |ref _=>cases r;rfl
 |ty _=>cases r;rfl
theorem cO.inj{x y:V}{u:Value}(r:cO x u)(q:cO y u):x=y:=Bb (r.abs.symm.trans q.abs)
theorem cA.inj: ∀{xs ys:List V} {us:List Value},cA xs us->cA ys us->xs=ys
 |_,_,_,.nil,.nil=>rfl
 |_,_,_,.cons r t,.cons r' t'=>by rw[r.inj r',cA.inj t t']
section
variable{X:Cx}{aa:List (Addr×Obj)}{σ:St}{H:Hp}{s:Ad}{a:Addr}{xs ys:List V}
theorem YO.of{K:Ai}(h:H a=some (.lst xs)):YO K H a xs:= .inl (.inl h)
theorem W4.of{K:Ai}(h:H a=some (.tup xs)):W4 K H a xs:= .inl (.inl h)
theorem c7.list(I:c7 X aa σ H s)(h:YO X.K H a xs): ∃its:List Value,cA xs its/\PlainL s.heap a its.toArray/\xs.length<=sizeLine:=by
 rcases h with h|⟨o,its,n,hk,hc,hd,hs,hz,r⟩
 ·obtain⟨z,its,n,r,e⟩:=h.ok I.hok
  exact⟨its,r,⟨_,n,e,rfl,rfl,rfl⟩,z⟩
 ·refine ⟨its.toList,r,⟨o,n,I.kIn a o hk,hc,hd,by simpa using hs⟩,?_⟩
  have e:=r.length
  simp only[Dh] at e
  omega
theorem c7.tuple(I:c7 X aa σ H s)(h:W4 X.K H a xs): ∃its:List Value,cA xs its/\IsTup s.heap a its.toArray/\xs.length<=sizeLine:=by
 rcases h with h|⟨o,its,n,hk,hc,hs,hz,r⟩
 ·obtain⟨z,its,r,p⟩:=h.ok I.hok
  exact⟨its,r,p,z⟩
 ·refine ⟨its.toList,r,⟨o,I.kIn a o hk,hc,n,by simpa using hs⟩,?_⟩
  have e:=r.length
  simp only[Dh] at e
  omega
theorem c7.list_inj(I:c7 X aa σ H s)(h:YO X.K H a xs)(h':YO X.K H a ys):xs=ys:=by
 obtain⟨its,r,⟨o,n,e,_,_,d⟩,_⟩:=I.list h
 obtain⟨its',r',⟨o',n',e',_,_,d'⟩,_⟩:=I.list h'
 rw[e] at e';cases e'
 rw[d] at d'
 injection d' with d1 _
 have:its=its':=by simpa using congrArg Qi d1
 subst this
 exact r.inj r'
theorem c7.tuple_inj(I:c7 X aa σ H s)(h:W4 X.K H a xs)(h':W4 X.K H a ys):xs=ys:=by
 obtain⟨its,r,⟨o,e,_,n,d⟩,_⟩:=I.tuple h
 obtain⟨its',r',⟨o',e',_,n',d'⟩,_⟩:=I.tuple h'
 rw[e] at e';cases e'
 rw[d] at d'
 injection d' with d1 _
 have:its=its':=by simpa using congrArg Qi d1
 subst this
 exact r.inj r'
end
abbrev Cx.wish(X:Cx)(E:Value->Ad->Prop):Cx:={X with xe:=E}
abbrev Cx.nox(X:Cx):Cx:=X.wish fun _ _=>False
theorem Cx.Ok.wish{X:Cx}(ok:X.Ok)(E:Value->Ad->Prop):(X.wish E).Ok:=
 ⟨ok.mod,ok.kind,ok.glob,ok.blt,ok.above,ok.inj,ok.has,ok.cab,ok.hd,ok.frames,ok.stk,ok.exf,ok.bs,ok.bsz,ok.noex,ok.exfs,ok.funs,ok.frf⟩
theorem Cx.Ok.unwish{X:Cx}{E:Value->Ad->Prop}(ok:(X.wish E).Ok):X.Ok:=
 ⟨ok.mod,ok.kind,ok.glob,ok.blt,ok.above,ok.inj,ok.has,ok.cab,ok.hd,ok.frames,ok.stk,ok.exf,ok.bs,ok.bsz,ok.noex,ok.exfs,ok.funs,ok.frf⟩
section
variable{X:Cx}{aa:List (Addr×Obj)}{σ:St}{H:Hp}{s:Ad}{E:Value->Ad->Prop}
theorem c7.wish(I:c7 X aa σ H s)(E:Value->Ad->Prop):c7 (X.wish E) aa σ H s:=⟨I.ok.wish E,I.os,I.bare,I.base,I.loc,I.cell,I.free,I.freeC,I.pin,I.hok,I.len⟩
theorem c7.unwish(I:c7 (X.wish E) aa σ H s):c7 X aa σ H s:=⟨I.ok.unwish,I.os,I.bare,I.base,I.loc,I.cell,I.free,I.freeC,I.pin,I.hok,I.len⟩
theorem SP.unwish{D:HG}{f:Flow}{s':Ad}(h:SP (X.wish E) aa D f s'):SP X aa D f s':=by
 cases f with
 |next=>obtain⟨σ',H',I,q⟩:=h;exact⟨σ',H',I.unwish,q⟩
 |brk=>obtain⟨σ',H',I,q⟩:=h;exact⟨σ',H',I.unwish,q⟩
 |cont=>obtain⟨σ',H',I,q⟩:=h;exact⟨σ',H',I.unwish,q⟩
 |ret u=>obtain⟨v,σ',H',I,r,q⟩:=h;exact⟨v,σ',H',I.unwish,r,q⟩
theorem W6.nox{st:List Stmt}{t:TS}(h:W6 X.nox st t):W6 X st t:=fun aa s σ H D I hw=>
 An (h aa s σ H D (I.wish _) hw) (fun _ _ q=>q.unwish) fun _ _ z=>Fg z
end
section
variable{X:Cx}{st:Stmt}{rest:List Stmt}{t u:TS}{e:Expr}{te:TE}{pos:Pos}
def zG1:TS:=fun D σ H=>D.nx σ H
def tSeq(t u:TS):TS:=fun D σ H=>t {D with nx:=u D} σ H
theorem G0:W6 X [] zG1:=fun _ _ σ H _ I h=>Kl ⟨σ,H,I,h⟩
theorem TJ(h1:PS X st t)(h2:W6 X rest u):W6 X (st::rest) (tSeq t u):=by
 intro aa s σ H D I h
 refine wpAny_execs_cons (aJ (h1 aa s σ H {D with nx:=u D} I h) fun f s1 q=> ?_)
 cases f with
 |next=>
  obtain⟨σ',H',I',q⟩:=q
  exact h2 aa s1 σ' H' D I' q
 |ret v=>exact q
 |brk=>exact q
 |cont=>exact q
theorem c7.quiet{aa:List (Addr×Obj)}{σ:St}{H:Hp}{s:Ad}(I:c7 X aa σ H s):interactive X.env=false:=by simp[interactive,I.ok.kind]
def zG3(te:TE):TS:=fun D σ H=>te σ H fun _ H1=>D.nx σ H1
theorem MN(he:PE X e te)(hs:Fm e none pos.line X.env=pure false:=by rfl):PS X (.Expr e pos) (zG3 te):=by
 intro aa s σ H D I h
 exact wpAny_Expr_any (aJ (he aa s σ H _ I h) fun v s1 ⟨x,H1,I1,r1,q1⟩=>⟨σ,H1,I1,q1⟩) I.quiet hs
def tRet(te:TE):TS:=fun D σ H=>te σ H D.rt
theorem IL(he:PE X e te):PS X (.Return (some e) pos) (tRet te):=by
 intro aa s σ H D I h
 exact wpAny_Return_some (aJ (he aa s σ H _ I h) fun v s1 ⟨x,H1,I1,r1,q1⟩=>⟨x,σ,H1,I1,r1,q1⟩)
def tIfS(c:TT)(t u:TS):TS:=fun D σ H=>c σ H fun b H1=>if b=true then t D σ H1 else u D σ H1
theorem zCA{c:Expr}{a b:List Stmt}{tc:TT}(hc:PT X c tc)(ha:W6 X a t)(hb:W6 X b u):PS X (.If c a b pos) (tIfS tc t u):=by
 intro aa s σ H D I h
 refine wpAny_If (aJ (hc aa s σ H _ I h) fun d s1 ⟨H1,I1,q1⟩=> ?_)
 cases d with
 |true=>exact ha aa s1 σ H1 D I1 q1
 |false=>exact hb aa s1 σ H1 D I1 q1
def zD4:TS:=fun _ _ _=>False
theorem FG{sts:List Stmt}:W6 X sts zD4:=fun _ _ _ _ _ _ h=>h.elim
end
abbrev TG:=V->St->Hp->(St->Hp->Prop)->Prop
abbrev D2:=List V->St->Hp->(St->Hp->Prop)->Prop
def PG(X:Cx)(ci:Expr)(t:TG):Prop:=
 ∀(aa:List (Addr×Obj)) (s:Ad) (σ:St) (H:Hp) (v:V) (u:Value) (Q:St->Hp->Prop),c7 X aa σ H s->cO v u->t v σ H Q→
  wpAny (model X.prog X.w) X.A (assign ci X.env u) (fun _ s'=> ∃σ' H',c7 X aa σ' H' s'/\Q σ' H') X.xe s
def F1(X:Cx)(ts:List Expr)(t:D2):Prop:=
 ∀(aa:List (Addr×Obj)) (s:Ad) (σ:St) (H:Hp) (vs:List V) (us:List Value) (Q:St->Hp->Prop),c7 X aa σ H s->cA vs us->t vs σ H Q→
  wpAny (model X.prog X.w) X.A (assignInOrder ((assignEach ts X.env).map (·.2)) us) (fun _ s'=> ∃σ' H',c7 X aa σ' H' s'/\Q σ' H') X.xe s
abbrev TSet:=V->V->V->Hp->(Hp->Prop)->Prop
def PSet(X:Cx)(t:TSet):Prop:=
 ∀(aa:List (Addr×Obj)) (s:Ad) (σ:St) (H:Hp) (o i v:V) (ov iv u:Value) (Q:Hp->Prop),c7 X aa σ H s->cO o ov->cO i iv->cO v u->t o i v H Q→
  wpAny (model X.prog X.w) X.A (setItem ov iv u) (fun _ s'=> ∃H',c7 X aa σ H' s'/\Q H') X.xe s
section
variable{X:Cx}{pos:Pos}
def JZ(i:Nat):TG:=fun v σ H Q=>Q (σ.set i (some v)) H
theorem TF{i:Nat}{x:Str}(hN:X.N.Nodup)(hi:X.N[i]? =some x)(hx:F0 X.env.scope x)(hf:X.fn x=true∨X.env.scope.names.lookup x=some .local:=by first|exact .inl rfl|exact .inr rfl|assumption):PG X (.Name x pos) (JZ i):=by
 intro aa s σ H v u Q I r h
 exact Ft (V7 I hN hi hx r (fun s' I'=>⟨_,H,I',h⟩) hf)
def gNil:D2:=fun vs σ H Q=>vs=[]/\Q σ H
def zI1(t:TG)(u:D2):D2:=fun vs σ H Q=> ∃v r,vs=v::r/\t v σ H fun σ' H'=>u r σ' H' Q
theorem GZ:F1 X [] gNil:=by
 intro aa s σ H vs us Q I r h
 obtain⟨e,h⟩:=h
 subst e
 cases r
 exact Mq ⟨σ,H,I,h⟩
theorem V4{e:Expr}{es:List Expr}{t:TG}{u:D2}(h1:PG X e t)(h2:F1 X es u)
  (hs:(assignEach (e::es) X.env).map (·.2)=assign e X.env::(assignEach es X.env).map (·.2):=by rfl):F1 X (e::es) (zI1 t u):=by
 intro aa s σ H vs us Q I r h
 obtain⟨v,vr,e1,h⟩:=h
 subst e1
 cases r with
 |cons r rr=>
  rw[hs]
  refine Iv (aJ (h1 aa s σ H _ _ _ I r h) fun _ s1 ⟨σ1,H1,I1,q1⟩=> ?_)
  exact h2 aa s1 σ1 H1 _ _ Q I1 rr q1
def gTup(K:Ai)(n:Nat)(t:D2):TG:=fun v σ H Q=> ∃a xs,v= .ref a/\W4 K H a xs/\xs.length=n/\t xs σ H Q
theorem zDZ{es:List Expr}{k:Nat}{t:D2}{n:Nat}(hc:X.calm=true)(h:F1 X es t)
  (hn:(assignEach es X.env).length=n:=by rfl) (hst:(assignEach es X.env).findIdx? (·.1)=none:=by rfl):PG X (.Tuple es k pos) (gTup X.K n t):=by
 intro aa s σ H v u Q I r hw
 obtain⟨a,xs,e1,hq,hl,hw⟩:=hw
 subst e1
 cases r
 obtain⟨its,rv,ht,hz⟩:=I.tuple hq
 refine assign_Tuple_tuple (I.ok.hd hc) ht (by simp[hn,<- hl,rv.length]) hst fun h' hx=> ?_
 have I1:c7 X aa σ H {s with heap:=h'}:=I.kept (t':=s.toks) fun b o e=>hx b o (Be (Aj e)) e
 exact h aa _ σ H xs _ Q I1 (by simpa using rv) hw
def gSub(to ti:TE)(t:TSet):TG:=fun v σ H Q=>to σ H fun o H1=>ti σ H1 fun i H2=>t o i v H2 fun H3=>Q σ H3
theorem zE0{o i:Expr}{to ti:TE}{t:TSet}(ho:PE X o to)(hi:PE X i ti)(hs:PSet X t)
  (ha: ∀v,assign (.Subscript o i pos) X.env v=(do
   let ov<- Jr [v] (eval o X.env)
   let iv<- Jr [v,ov] (eval i X.env)
   Jq pos
   Jr [v,ov,iv] (setItem ov iv v)
   release [v,ov,iv] []):=by intro _;rfl):PG X (.Subscript o i pos) (gSub to ti t):=by
 intro aa s σ H v u Q I r h
 rw[ha]
 refine Aa (Bo (aJ (ho aa s σ H _ I h) fun ov s1 ⟨x,H1,I1,r1,q1⟩=> ?_))
 refine Aa (Bo (aJ (hi aa s1 σ H1 _ I1 q1) fun iv s2 ⟨y,H2,I2,r2,q2⟩=> ?_))
 refine Aa (Cv (Aa (Bo (aJ (hs aa s2 σ H2 x y v ov iv u _ I2 r1 r2 r q2) fun _ s3 ⟨H3,I3,q3⟩=> ?_))))
 exact wpAny_release ⟨σ,H3,I3,q3⟩
def CP(te:TE)(g:TG):TS:=fun D σ H=>te σ H fun x H1=>g x σ H1 D.nx
theorem P0{tg e:Expr}{te:TE}{g:TG}(he:PE X e te)(hg:PG X tg g)(hs:Gj [tg] e pos.line X.env=pure false:=by rfl)(hw:Gk [tg] e X.env=pure none:=by rfl)
  (h1:(assignEach [tg] X.env).map (·.2)=[assign tg X.env]:=by rfl):PS X (.Assign [tg] e pos) (CP te g):=by
 intro aa s σ H D I h
 refine wpAny_Assign_stores (aJ (he aa s σ H _ I h) fun v s1 ⟨x,H1,I1,r1,q1⟩=> ?_) hs hw
 rw[h1]
 exact aJ (hg aa s1 σ H1 x v _ I1 r1 q1) fun _ s2 q=>q
theorem zDU{i:Nat}{x:Str}{e:Expr}{te:TE}{bh:Pos}(hN:X.N.Nodup)(hi:X.N[i]? =some x)(hx:F0 X.env.scope x)(he:PE X e te)(hs:Fm e (some (.Name x bh)) pos.line X.env=pure false:=by rfl)(hf:X.fn x=true∨X.env.scope.names.lookup x=some .local:=by first|exact .inl rfl|exact .inr rfl|assumption):
  PS X (.Assign [.Name x bh] e pos) (CP te (JZ i)):=by
 intro aa s σ H D I h
 refine wpAny_Assign_Name (aJ (he aa s σ H _ I h) fun v s1 ⟨y,H1,I1,r1,q1⟩=> ?_) hs
 exact V7 I1 hN hi hx r1 (fun s2 I2=>⟨_,H1,I2,q1⟩) hf
end
structure It where
 go:Nat->Hp->Prop
 yld:Nat->Hp->V->Hp->Prop
 stop:Nat->Hp->Prop
def RI(X:Cx)(aa:List (Addr×Obj))(H:Hp)(b:Addr):Prop:=
 H b=none/\b≠X.env.locals/\b∉X.fs/\(b∈X.ex∨X.s₀.heap.objs.size<=b)/\(∀x c,X.env.cells.lookup x=some c->c≠b)/\ ∀p∈X.pn++aa,p.1≠b
theorem c7.fpOk{X:Cx}{aa:List (Addr×Obj)}{σ:St}{H H':Hp}{s:Ad}{b:Addr}(I:c7 X aa σ H s)(hb:s.heap.objs.size<=b)(hn:H' b=none):RI X aa H' b:=by
 refine⟨hn,Fn (Aq I.lt hb),I.nofs hb,.inr (Dy I.sz hb),fun x c e z=> ?_,fun p hp z=> ?_⟩
 ·obtain⟨v,q⟩:=I.cell x c e
  exact absurd (Aq q.lt (by rw[z];exact hb)) (Bw _)
 ·exact absurd (Aq (Aj (I.pin p hp).1) (by rw[z];exact hb)) (Bw _)
structure JJ(P:Au)(w:World)(K:Ai)(tg:Expr)(J:It)(fp:List Addr)(it:Addr)(tn:Nat->Heap->Prop):Prop where
 mem:it∈fp
 obj: ∀i h,tn i h-> ∀b∈fp,∃o,h.get? b=some o/\ ∀v,o.data≠ .cell v
 keep: ∀i h h',tn i h->(∀b∈fp,∀o,h.get? b=some o->h'.get? b=some o)->tn i h'
 item: ∀(X:Cx),X.prog=P->X.w=w->X.K=K->X.calm=true-> ∀(i:Nat) (aa:List (Addr×Obj)) (s:Ad) (σ:St) (H:Hp) (E:Value->Ad->Prop),c7 X aa σ H s->(∀b∈fp,RI X aa H b)->tn i s.heap->J.go i H→
  wpAny (model P w) X.A (pyNext (.ref it)) (fun r s1=> ∃u,r=some u∧
   wpAny (model P w) X.A (Eg tg (.ref it) u) (fun _ s2=> ∃x H',c7 X aa σ H' s2/\cO x u/\J.yld i H x H'/\tn (i+1) s2.heap/\ ∀b∈fp,H' b=none) E s1) E s
 done: ∀(X:Cx),X.prog=P->X.w=w->X.K=K->X.calm=true-> ∀(i:Nat) (aa:List (Addr×Obj)) (s:Ad) (σ:St) (H:Hp) (E:Value->Ad->Prop),c7 X aa σ H s->(∀b∈fp,RI X aa H b)->tn i s.heap->J.stop i H→
  wpAny (model P w) X.A (pyNext (.ref it)) (fun r s1=>r=none/\c7 X aa σ H s1) E s
 self: ∀(A:Bx) (i:Nat) (s:Ad) (Q:Value->Ad->Prop) (E:Value->Ad->Prop),tn i s.heap->Q (.ref it) s->wpAny (model P w) A (Ot (.ref it)) Q E s
abbrev TI:=St->Hp->(It->Hp->Prop)->Prop
def PIE(X:Cx)(aa:List (Addr×Obj))(σ:St)(tg:Expr)(R:It->Hp->Prop)(itv:Value)(s2:Ad):Prop:=
 ∃(it:Addr) (fp:List Addr) (tn:Nat->Heap->Prop) (J:It) (H':Hp),itv= .ref it/\c7 X aa σ H' s2/\JJ X.prog X.w X.K tg J fp it tn/\tn 0 s2.heap/\(∀b∈fp,RI X aa H' b)/\R J H'
def PI(X:Cx)(tg iter:Expr)(wi:TI):Prop:=
 ∀(aa:List (Addr×Obj)) (s:Ad) (σ:St) (H:Hp) (R:It->Hp->Prop),c7 X aa σ H s->wi σ H R→
  wpAny (model X.prog X.w) X.A (eval iter X.env) (fun v s1=>wpAny (model X.prog X.w) X.A (Ot v) (PIE X aa σ tg R) X.xe s1) X.xe s
theorem AL{M:Model}{A:Bx}{E:Value->Ad->Prop}{s:Ad}{tg:Expr}{it:Addr}{u:Value}{o:Obj}{n:String}{vs:Array Value}{Q:Unit->Ad->Prop}(ho:s.heap.get? it=some o)(hc:o.cls= .type n)(hd:o.data= .fields vs)
    (hn:["enumerate","zip","dict_itemiterator","dict_reverseitemiterator","odict_iterator","itertools.zip_longest","itertools.pairwise"].contains n=false) (hQ:Q () s):wpAny M A (Eg tg (.ref it) u) Q E s:=by
  unfold Eg
  cases tg<;>first
    |exact Af hQ
    |(cases u<;>first
        |exact Af hQ
        | (refine Aa (wpAny_load ho ?_)
           rw[hc,hd]
           show wpAny M A (if(["enumerate","zip","dict_itemiterator","dict_reverseitemiterator","odict_iterator","itertools.zip_longest","itertools.pairwise"].contains n && vs[0]? ==some (rawInt _))=true then _ else _) Q E s
           rw[if_neg (by intro h;rw[hn,Bool.false_and] at h;cases h)]
           exact Af hQ))
noncomputable def Itl(K:Ai)(a:Addr):It:=
 ⟨fun i H=> ∃xs x,YO K H a xs/\xs[i]? =some x,fun i H x H'=>H'=H/\ ∀xs,YO K H a xs->xs[i]? =some x,fun i H=> ∃xs,YO K H a xs/\xs.length<=i⟩
noncomputable def Itt(K:Ai)(a:Addr):It:=
 ⟨fun i H=> ∃xs x,W4 K H a xs/\xs[i]? =some x,fun i H x H'=>H'=H/\ ∀xs,W4 K H a xs->xs[i]? =some x,fun i H=> ∃xs,W4 K H a xs/\xs.length<=i⟩
noncomputable def Itr(lo:Int)(n:Nat):It:=⟨fun i _=>i<n,fun i H x H'=>H'=H/\x= .int (lo+i),fun i _=>n<=i⟩
theorem FS{P:Au}{w:World}{K:Ai}{tg:Expr}(a it:Addr):JJ P w K tg (Itl K a) [it] it (fun i h=>h.IsListIter it a i) where
 mem:=by simp
 obj:=fun i h st b hb=>by
  have e:b=it:=by simpa using hb
  subst e
  obtain⟨o,e,c,d⟩:=st
  exact⟨o,e,fun v z=>by rw[d] at z;cases z⟩
 keep:=fun i h h' st k=>st.at fun o e=>k it (by simp) o e
 item:=by
  intro X hP hw hK hc i aa s σ H E I hf st hg
  subst hP hw hK
  obtain⟨xs,x,hq,hx⟩:=hg
  obtain⟨its,rv,p,hz⟩:=I.list hq
  obtain⟨u,hu,ru⟩:=rv.get hx
  obtain⟨f0,f1,f2,f3,f4,f5⟩:=hf it (by simp)
  refine Kf st p.isList (x:=u) (by simpa using hu) fun h' st' sb=> ?_
  have I1:c7 X aa σ H {s with heap:=h'}:=I.turned (t':=s.toks) (fun b o hb e=>(sb.2 b hb).trans e) f0 f1 f3 f4 f5
  obtain⟨o,e,c,d⟩:=id st'
  exact⟨u,rfl,AL (s:={s with heap:=h'}) e c d (by decide) ⟨x,H,I1,ru,⟨rfl,fun ys hy=>by rw[I.list_inj hy hq];exact hx⟩,st',fun b hb=>(hf b hb).1⟩⟩
 done:=by
  intro X hP hw hK hc i aa s σ H E I hf st hg
  subst hP hw hK
  obtain⟨xs,hq,hx⟩:=hg
  obtain⟨its,rv,p,hz⟩:=I.list hq
  obtain⟨f0,f1,f2,f3,f4,f5⟩:=hf it (by simp)
  have hl:=rv.length
  exact Km (I.ok.hd hc) st p.isList (by simp;omega) fun h' eb=>⟨rfl,I.turned (t':=s.toks) (fun b o hb e=>eb b o hb e) f0 f1 f3 f4 f5⟩
 self:=fun _ _ _ _ _ st h=>wpAny_pyIter_listiter st h
theorem IZ{P:Au}{w:World}{K:Ai}{tg:Expr}(a it:Addr):JJ P w K tg (Itt K a) [it] it (fun i h=>h.IsTupleIter it a i) where
 mem:=by simp
 obj:=fun i h st b hb=>by
  have e:b=it:=by simpa using hb
  subst e
  obtain⟨o,e,c,d⟩:=st
  exact⟨o,e,fun v z=>by rw[d] at z;cases z⟩
 keep:=fun i h h' st k=>st.at fun o e=>k it (by simp) o e
 item:=by
  intro X hP hw hK hc i aa s σ H E I hf st hg
  subst hP hw hK
  obtain⟨xs,x,hq,hx⟩:=hg
  obtain⟨its,rv,p,hz⟩:=I.tuple hq
  obtain⟨u,hu,ru⟩:=rv.get hx
  obtain⟨f0,f1,f2,f3,f4,f5⟩:=hf it (by simp)
  refine wpAny_pyNext_tuple_item st (show s.heap.IsTuple a its.toArray from p) (x:=u) (by simpa using hu) fun h' st' sb=> ?_
  have I1:c7 X aa σ H {s with heap:=h'}:=I.turned (t':=s.toks) (fun b o hb e=>(sb.2 b hb).trans e) f0 f1 f3 f4 f5
  obtain⟨o,e,c,d⟩:=id st'
  exact⟨u,rfl,AL (s:={s with heap:=h'}) e c d (by decide) ⟨x,H,I1,ru,⟨rfl,fun ys hy=>by rw[I.tuple_inj hy hq];exact hx⟩,st',fun b hb=>(hf b hb).1⟩⟩
 done:=by
  intro X hP hw hK hc i aa s σ H E I hf st hg
  subst hP hw hK
  obtain⟨xs,hq,hx⟩:=hg
  obtain⟨its,rv,p,hz⟩:=I.tuple hq
  obtain⟨f0,f1,f2,f3,f4,f5⟩:=hf it (by simp)
  have hl:=rv.length
  exact wpAny_pyNext_tuple_end (I.ok.hd hc) st (show s.heap.IsTuple a its.toArray from p) (by simp;omega) fun h' eb=>⟨rfl,I.turned (t':=s.toks) (fun b o hb e=>eb b o hb e) f0 f1 f3 f4 f5⟩
 self:=fun _ _ _ _ _ st h=>wpAny_pyIter_tupleiter st h
theorem IW{P:Au}{w:World}{K:PySem.W.Frag}{tg:Expr}(it:Addr)(lo:Int)(n:Nat):JJ P w K tg (Itr lo n) [it] it (fun i h=>IsRangeIter h it (lo+(i:Nat)*1) ((n:Int) - (i:Nat)) 1) where
 mem:=by simp
 obj:=fun i h st b hb=>by
  have e:b=it:=by simpa using hb
  subst e
  exact⟨_,st,fun v z=>by
   have z':Data.fields _=Data.cell v:=z
   cases z'⟩
 keep:=fun i h h' st k=>k it (by simp) _ st
 item:=by
  intro X hP hw hK hc i aa s σ H E I hf st hg
  subst hP hw hK
  obtain⟨f0,f1,f2,f3,f4,f5⟩:=hf it (by simp)
  have W:=Walks.range (prog:=X.prog) (w:=X.w) (I.ok.hd hc) it lo 1 n
  refine W.item i s _ _ hg st fun v h' tk hv st' kk=> ?_
  obtain⟨t,rfl⟩:=hv
  have I1:c7 X aa σ H {s with heap:=h',toks:=tk}:=I.turned (fun b o hb e=>kk b o (by simpa using hb) e) f0 f1 f3 f4 f5
  refine⟨_,rfl,AL (s:={s with heap:=h',toks:=tk}) (n:= "range_iterator") st' rfl rfl (by decide) ⟨.int (lo+i),H,I1,⟨t,?_⟩,⟨rfl,rfl⟩,st',fun b hb=>(hf b hb).1⟩⟩
  rw[Int.mul_one]
 done:=by
  intro X hP hw hK hc i aa s σ H E I hf st hg
  subst hP hw hK
  obtain⟨f0,f1,f2,f3,f4,f5⟩:=hf it (by simp)
  exact wpAny_pyNext_range_end (I.ok.hd hc) st (by have:n<=i:=hg;omega) fun h' eb=>⟨rfl,I.turned (t':=s.toks) (fun b o hb e=>eb b o hb e) f0 f1 f3 f4 f5⟩
 self:=fun _ _ _ _ _ st h=>wpAny_pyIter_rangeiter st h
section
variable{X:Cx}{tg:Expr}
def zCH(K:Ai)(tl:TE):TI:=fun σ H R=>tl σ H fun x H1=> ∃a,x= .ref a/\(∃xs,YO K H1 a xs)/\R (Itl K a) H1
def iTup(K:Ai)(tl:TE):TI:=fun σ H R=>tl σ H fun x H1=> ∃a,x= .ref a/\(∃xs,W4 K H1 a xs)/\R (Itt K a) H1
theorem zAR{l:Expr}{tl:TE}(hl:PE X l tl):PI X tg l (zCH X.K tl):=by
 intro aa s σ H R I h
 refine aJ (hl aa s σ H _ I h) fun v s1 ⟨x,H1,I1,r1,q1⟩=> ?_
 obtain⟨a,e,⟨xs,hq⟩,q⟩:=q1
 subst e
 cases r1
 obtain⟨its,rv,p,hz⟩:=I1.list hq
 refine Hc p.isList ?_
 refine⟨s1.heap.objs.size,[s1.heap.objs.size],_,_,H1,rfl,I1.kept (t':=s1.toks) fun b o e=>Ae _ e,FS a _,⟨_,At _ rfl,rfl,rfl⟩,fun b hb=> ?_,q⟩
 have e:b=s1.heap.objs.size:=by simpa using hb
 subst e
 exact I1.fpOk (As _) (I1.hok.fresh (As _))
theorem zDY{l:Expr}{tl:TE}(hl:PE X l tl):PI X tg l (iTup X.K tl):=by
 intro aa s σ H R I h
 refine aJ (hl aa s σ H _ I h) fun v s1 ⟨x,H1,I1,r1,q1⟩=> ?_
 obtain⟨a,e,⟨xs,hq⟩,q⟩:=q1
 subst e
 cases r1
 obtain⟨its,rv,p,hz⟩:=I1.tuple hq
 refine Gm (show s1.heap.IsTuple a its.toArray from p) ?_
 refine⟨s1.heap.objs.size,[s1.heap.objs.size],_,_,H1,rfl,I1.kept (t':=s1.toks) fun b o e=>Ae _ e,IZ a _,⟨_,At _ rfl,rfl,rfl⟩,fun b hb=> ?_,q⟩
 have e:b=s1.heap.objs.size:=by simpa using hb
 subst e
 exact I1.fpOk (As _) (I1.hok.fresh (As _))
theorem B7{aa:List (Addr×Obj)}{σ:St}{H:Hp}{s:Ad}{R:It->Hp->Prop}{E:Value->Ad->Prop}{lo hi:Int}{t u v:Tok}{tk:Nat}(I:c7 X aa σ H s)(h1: -(2 ^ 62)<=lo)(h2:lo<2 ^ 62)(h3: -(2 ^ 62)<=hi)(h4:hi<2 ^ 62)
  (q:R (Itr lo (hi - lo).toNat) H):wpAny (model X.prog X.w) X.A (Ot (.ref s.heap.objs.size)) (PIE X aa σ tg R) E {s with heap:=s.heap.push {cls:= .type "range",data:= .fields #[.int lo t,.int hi u,.int 1 v]},toks:=tk}:=by
 refine wpAny_pyIter_range (IsRange.new ..) (small_one h1 h2 h3 h4) ?_
 have I1:c7 X aa σ H {s with heap:=s.heap.push {cls:= .type "range",data:= .fields #[.int lo t,.int hi u,.int 1 v]},toks:=tk}:=I.kept fun b o e=>Ae _ e
 refine⟨(s.heap.push {cls:= .type "range",data:= .fields #[.int lo t,.int hi u,.int 1 v]}).objs.size,[(s.heap.push {cls:= .type "range",data:= .fields #[.int lo t,.int hi u,.int 1 v]}).objs.size],_,_,H,rfl,
  I1.kept (t':=tk) fun b o e=>Ae _ e,IW _ lo (hi - lo).toNat,?_,fun b hb=> ?_,q⟩
 ·have e1 : lo + ((0 : Nat) : Int) * 1 = lo := by simp
  have e2:(((hi - lo).toNat:Nat):Int) - ((0:Nat):Int)=Px lo hi 1:=by rw[rangeSize_one];split<;>omega
  show IsRangeIter _ _ (lo+((0:Nat):Int)*1) ((((hi - lo).toNat:Nat):Int) - ((0:Nat):Int)) 1
  rw[e1,e2]
  exact At _ rfl
 ·have e : b = (s.heap.push { cls := .type "range",data := .fields #[.int lo t,.int hi u,.int 1 v] }).objs.size := by simpa using hb
  subst e
  exact I1.fpOk (As _) (I1.hok.fresh (As _))
def zHP(ta:TA):TI:=fun σ H R=>ta σ H fun vs H1=> ∃j:Int,vs=[.int j]/\ -(2 ^ 62)<=j/\j<2 ^ 62/\R (Itr 0 j.toNat) H1
theorem FE{a:Expr}{ta:TA}{p pos:Pos}(hg:Gl X "range") (hm:X.mg "range"=none) (ha:PA X [a] ta) (hs:starEach [a] X.env=[(false,eval a X.env)]:=by rfl):PI X tg (.Call (.Name "range" p) [a] [] pos) (zHP ta):=by
 intro aa s σ H R I h
 refine Call_ (UK I hg hm boot_range (Eh (aJ (ha pos aa s σ H _ I h) fun us s1 ⟨vs,H1,I1,r1,q1⟩=> ?_) hs rfl))
 obtain⟨j,e,q1,q2,q⟩:=q1
 subst e
 cases r1 with
 |cons r rr=>
  cases rr
  obtain⟨t,rfl⟩:=r
  exact call_range_1 (B7 I1 (by omega) (by omega) q1 q2 (by simpa using q))
def tFor(wi:TI)(g:TG)(tb:TS):TS:=fun D σ H=>wi σ H fun J H1=> ∃W:Nat->Nat->St->Hp->Prop,(∃m,W 0 m σ H1)/\ ∀i m σ H,W i m σ H→
 (J.stop i H/\D.nx σ H)∨(J.go i H/\ ∃N:St->Hp->Prop,(∀σ' H',N σ' H'-> ∃m',m'<m/\W (i+1) m' σ' H')/\ ∀x H',J.yld i H x H'->g x σ H' fun σ2 H2=>tb {D with nx:=N,ct:=N,bk:=D.nx} σ2 H2)
noncomputable def UQ(fp:List Addr)(h:Heap):List (Addr×Obj):=fp.filterMap fun b=>(h.get? b).map fun o=>(b,o)
theorem Z3{fp:List Addr}{h:Heap}{b:Addr}{o:Obj}(hb:b∈fp)(e:h.get? b=some o):(b,o)∈UQ fp h:=Iw.mpr ⟨b,hb,by rw[e];rfl⟩
theorem E9{fp:List Addr}{h:Heap}{p:Addr×Obj}(hp:p∈UQ fp h):p.1∈fp/\h.get? p.1=some p.2:=by
 obtain⟨b,hb,e⟩:=Iw.mp hp
 cases q:h.get? b with
 |none=>rw[q] at e;cases e
 |some o=>
  rw[q] at e
  have e':(b,o)=p:=Bb e
  subst e'
  exact⟨hb,q⟩
theorem c7.pinned{aa:List (Addr×Obj)}{σ:St}{H:Hp}{s:Ad}{fp:List Addr}(I:c7 X aa σ H s)(hf: ∀b∈fp,RI X aa H b)(ho: ∀b∈fp,∃o,s.heap.get? b=some o/\ ∀v,o.data≠ .cell v):c7 X (aa++UQ fp s.heap) σ H s:=
 I.pins_of fun p hp=>(Fa.mp hp).elim (fun z=>I.pin p (Ar _ z)) fun z=>by
  obtain⟨hb,e⟩:=E9 z
  obtain⟨f0,f1,f2,_⟩:=hf p.1 hb
  obtain⟨o,e',d⟩:=ho p.1 hb
  rw[e] at e';cases e'
  exact⟨e,f0,f1,f2,d⟩
theorem c7.unpinned{aa pl:List (Addr×Obj)}{σ:St}{H:Hp}{s:Ad}(I:c7 X (aa++pl) σ H s):c7 X aa σ H s:=I.pins_of fun p hp=>I.pin p (Ar _ (Bf _ hp))
theorem zDV{iter:Expr}{body:List Stmt}{wi:TI}{g:TG}{tb:TS}{pos:Pos}(hp:PassesOwn (model X.prog X.w) X.A X.env X.xe)(hc:X.calm=true)(hi:PI X tg iter wi)(hg:PG X tg g)(hb:W6 X body tb)
  (hs : ∀ x,foldedSetIterable iter X.env x = pure x := by intro _;rfl) : PS X (.For tg iter body [] pos) (tFor wi g tb) := by
 intro aa s σ H D I h
 refine wpAny_For (aJ (hi aa s σ H _ I h) fun v s1 h1=>aJ h1 fun itv s2 h2=> ?_) hs
 obtain⟨it,fp,tn,J,H2,e,I2,T,st2,f2,W,⟨m0,w0⟩,turn⟩:=h2
 subst e
 have stat: ∀{H':Hp},(∀b∈fp,H' b=none)-> ∀b∈fp,RI X aa H' b:=fun hn b hb=>⟨hn b hb,(f2 b hb).2⟩
 refine codeAny_forLoop_any (fun n s'=> ∃i σ' H',c7 X aa σ' H' s'/\tn i s'.heap/\(∀b∈fp,H' b=none)/\W i n σ' H') ?_ m0 ⟨0,σ,H2,I2,st2,fun b hb=>(f2 b hb).1,w0⟩
 rintro n s3 ⟨i,σ3,H3,I3,st3,fr3,w3⟩
 rcases turn i n σ3 H3 w3 with⟨stop,qn⟩|⟨go,N,hN,step⟩
 ·refine Go hp (aJ (T.done X rfl rfl rfl hc i aa s3 σ3 H3 X.xe I3 (stat fr3) st3 stop) fun r s4 ⟨hr,I4⟩ => ?_)
  subst hr
  exact Kl ⟨σ3,H3,I4,qn⟩
 ·refine Go hp (aJ (T.item X rfl rfl rfl hc i aa s3 σ3 H3 X.xe I3 (stat fr3) st3 go) fun r s4 ⟨u,hr,h4⟩ => ?_)
  subst hr
  refine Go hp (aJ h4 fun _ s5 ⟨x,H5,I5,r5,y5,st5,fr5⟩=> ?_)
  have I5':=I5.pinned (stat fr5) (T.obj _ _ st5)
  refine Go hp (aJ (hg _ s5 σ3 H5 x u _ I5' r5 (step x H5 y5)) fun _ s6 ⟨σ6,H6,I6,q6⟩=> ?_)
  refine Go hp (aJ (hb _ s6 σ6 H6 _ I6 q6) fun f s7 q7=> ?_)
  have again: ∀{σ7:St} {H7:Hp},c7 X (aa++UQ fp s5.heap) σ7 H7 s7->N σ7 H7-> ∃m,m<n/\ ∃i σ' H',c7 X aa σ' H' s7/\tn i s7.heap/\(∀b∈fp,H' b=none)/\W i m σ' H':=fun{σ7 H7} I7 n7=>by
   obtain⟨m',hm,w7⟩:=hN σ7 H7 n7
   refine⟨m',hm,i+1,σ7,H7,I7.unpinned,T.keep _ _ _ st5 fun b hb o e=>(I7.pin (b,o) (Ar _ (Ar _ (Z3 hb e)))).1,fun b hb=> ?_,w7⟩
   obtain⟨o,e,d⟩:=T.obj _ _ st5 b hb
   exact(I7.pin (b,o) (Ar _ (Ar _ (Z3 hb e)))).2.1
  cases f with
  |next=>obtain⟨σ7,H7,I7,n7⟩:=q7;exact again I7 n7
  |cont=>obtain⟨σ7,H7,I7,n7⟩:=q7;exact again I7 n7
  |brk=>obtain⟨σ7,H7,I7,q7⟩:=q7;exact⟨σ7,H7,I7.unpinned,q7⟩
  |ret v=>obtain⟨x7,σ7,H7,I7,r7,q7⟩:=q7;exact⟨x7,σ7,H7,I7.unpinned,r7,q7⟩
end
abbrev R2:=V->V->Hp->VK->Prop
def YD(X:Cx)(f:Value->Value->Sem Value)(r:R2):Prop:=
 ∀(aa:List (Addr×Obj)) (s:Ad) (σ:St) (H:Hp) (x y:V) (v u:Value) (Q:VK),c7 X aa σ H s->cO x v->cO y u->r x y H Q→
  wpAny (model X.prog X.w) X.A (f v u) (EP X aa σ Q) X.xe s
def UnR(X:Cx)(f:Value->Sem Value)(r:V->Hp->VK->Prop):Prop:=
 ∀(aa:List (Addr×Obj)) (s:Ad) (σ:St) (H:Hp) (x:V) (v:Value) (Q:VK),c7 X aa σ H s->cO x v->r x H Q→
  wpAny (model X.prog X.w) X.A (f v) (EP X aa σ Q) X.xe s
def aL(X:Cx)(f:Value)(r:List V->Hp->VK->Prop):Prop:=
 ∀(aa:List (Addr×Obj)) (s:Ad) (σ:St) (H:Hp) (xs:List V) (us:List Value) (Q:VK),c7 X aa σ H s->cA xs us->r xs H Q→
  wpAny (model X.prog X.w) X.A (call f us) (EP X aa σ Q) X.xe s
def tOp(r:R2)(ta tb:TE):TE:=fun σ H Q=>ta σ H fun x H1=>tb σ H1 fun y H2=>r x y H2 Q
def tUn(r:V->Hp->VK->Prop)(ta:TE):TE:=fun σ H Q=>ta σ H fun x H1=>r x H1 Q
def rI(C:Int->Int->Prop)(g:Int->Int->V):R2:=fun x y H Q=> ∃i j,x= .int i/\y= .int j/\C i j/\Q (g i j) H
def FJ(g:Int->Int->V):R2:=fun x y H Q=> ∃i j,x= .int i/\y= .int j/\Q (g i j) H
def rU(g:Int->V):V->Hp->VK->Prop:=fun x H Q=> ∃i,x= .int i/\Q (g i) H
section
variable{X:Cx}{a b c:Expr}{ta tb tc:TE}{pos:Pos}
theorem binT(ha:PE X a ta)(hb:PE X b tb){aa:List (Addr×Obj)}{s:Ad}{σ:St}{H:Hp}{R:V->V->Hp->Prop}(I:c7 X aa σ H s)
  (h:ta σ H fun x H1=>tb σ H1 fun y H2=>R x y H2) {Q:Value->Ad->Prop} {f:Value->Value->Sem Value}
  (hf: ∀v u s2 x y H2,c7 X aa σ H2 s2->cO x v->cO y u->R x y H2->wpAny (model X.prog X.w) X.A (f v u) Q X.xe s2):
  wpAny (model X.prog X.w) X.A (eval a X.env) (fun v s₁=>wpAny (model X.prog X.w) X.A (eval b X.env) (fun u s₂=>wpAny (model X.prog X.w) X.A (f v u) Q X.xe s₂) X.xe s₁) X.xe s:=by
 refine aJ (ha aa s σ H _ I h) fun v s1 ⟨x,H1,I1,r1,q1⟩=> ?_
 refine aJ (hb aa s1 σ H1 _ I1 q1) fun u s2 ⟨y,H2,I2,r2,q2⟩=> ?_
 exact hf v u s2 x y H2 I2 r1 r2 q2
theorem zCB{op:Operator}{r:R2}(ho:YD X (Ep op) r)(ha:PE X a ta)(hb:PE X b tb):PE X (.BinOp a op b pos) (tOp r ta tb):=by
 intro aa s σ H Q I h
 exact wpAny_BinOp (binT ha hb I h fun v u s2 x y H2 I2 rx ry q=>ho aa s2 σ H2 x y v u Q I2 rx ry q)
theorem zGW{op:UnaryOp}{r:V->Hp->VK->Prop}(ho:UnR X (unaryOp op) r)(ha:PE X a ta):PE X (.UnaryOp op a pos) (tUn r ta):=by
 intro aa s σ H Q I h
 exact UnaryOp_ (aJ (ha aa s σ H _ I h) fun v s1 ⟨x,H1,I1,r1,q1⟩=>ho aa s1 σ H1 x v Q I1 r1 q1)
theorem opI{f:Value->Value->Sem Value}{C:Int->Int->Prop}{g:Int->Int->Int}
  (rule: ∀(i j:Int) (t u:Tok) (s:Ad) (Q:Value->Ad->Prop) (E:Value->Ad->Prop),C i j->Q (.int (g i j) s.toks) {s with toks:=s.toks+1}->wpAny (model X.prog X.w) X.A (f (.int i t) (.int j u)) Q E s):
  YD X f (rI C fun i j=> .int (g i j)):=by
 intro aa s σ H x y v u Q I rx ry h
 obtain⟨i,j,rfl,rfl,hc,q⟩:=h
 obtain⟨t,rfl⟩:=rx
 obtain⟨t',rfl⟩:=ry
 exact rule i j t t' s _ _ hc ⟨.int (g i j),H,I.tok _,⟨_,rfl⟩,q⟩
theorem opI0{f:Value->Value->Sem Value}{g:Int->Int->Int}
  (rule: ∀(i j:Int) (t u:Tok) (s:Ad) (Q:Value->Ad->Prop) (E:Value->Ad->Prop),Q (.int (g i j) s.toks) {s with toks:=s.toks+1}->wpAny (model X.prog X.w) X.A (f (.int i t) (.int j u)) Q E s):
  YD X f (FJ fun i j=> .int (g i j)):=by
 intro aa s σ H x y v u Q I rx ry h
 obtain⟨i,j,rfl,rfl,q⟩:=h
 obtain⟨t,rfl⟩:=rx
 obtain⟨t',rfl⟩:=ry
 exact rule i j t t' s _ _ ⟨.int (g i j),H,I.tok _,⟨_,rfl⟩,q⟩
theorem opB0{f:Value->Value->Sem Value}{g:Int->Int->Bool}
  (rule: ∀(i j:Int) (t u:Tok) (s:Ad) (Q:Value->Ad->Prop) (E:Value->Ad->Prop),Q (.bool (g i j)) s->wpAny (model X.prog X.w) X.A (f (.int i t) (.int j u)) Q E s):
  YD X f (FJ fun i j=> .bl (g i j)):=by
 intro aa s σ H x y v u Q I rx ry h
 obtain⟨i,j,rfl,rfl,q⟩:=h
 obtain⟨t,rfl⟩:=rx
 obtain⟨t',rfl⟩:=ry
 exact rule i j t t' s _ _ ⟨.bl (g i j),H,I,rfl,q⟩
def CDiv(i j:Int):Prop:=0<j/\j<1073741824
def CPow(i j:Int):Prop:=0<=j/\j<=1000000/\i.natAbs<2 ^ 64
def DS(i j:Int):Prop:=(-(2 ^ 64)<i/\i<2 ^ 64)∨(-(2 ^ 64)<j/\j<2 ^ 64)
theorem DS.ok{i j:Int}(h:DS i j):IntMulOk i j:=by
 rcases h with⟨h1,h2⟩|⟨h1,h2⟩
 ·exact .of_left (intBits_le_64 h1 h2)
 ·exact .of_right (intBits_le_64 h1 h2)
theorem zE9:YD X (Ep .Add) (FJ fun i j=> .int (i+j)):=opI0 fun _ _ _ _ _ _ _ q=>add_int q
theorem XQ:YD X (Ep .Sub) (FJ fun i j=> .int (i - j)):=opI0 fun _ _ _ _ _ _ _ q=>sub_int q
theorem zE7:YD X (Ep .Mult) (rI DS fun i j=> .int (i*j)):=opI fun _ _ _ _ _ _ _ hc q=>mul_int q hc.ok
theorem GS:YD X (Ep .FloorDiv) (rI CDiv fun i j=> .int (i/j)):=opI fun i j _ _ _ _ _ hc q=>by
 have h1:(0:Int)<j:=hc.1
 have h2:j<1073741824:=hc.2
 exact floordiv_int (by omega) (by rw[Int.fdiv_eq_ediv_of_nonneg i (by omega)];exact q) (.inl (PyProof.noPylong_small (by omega)))
theorem UP:YD X (Ep .Mod) (rI (fun _ j=>0<j) fun i j=> .int (i % j)):=opI fun i j _ _ _ _ _ hc q=>by
 have h1:(0:Int)<j:=hc
 exact mod_int' (by omega) (by rw[Int.fmod_eq_emod_of_nonneg i (by omega)];exact q)
theorem zE5:YD X (Ep .Pow) (rI CPow fun i j=> .int (i ^ j.toNat)):=opI fun _ _ _ _ _ _ _ hc q=>pow_int_small hc.1 hc.2.1 hc.2.2 q
theorem unI{f:Value->Sem Value}{g:Int->Int}
  (rule: ∀(i:Int) (t:Tok) (s:Ad) (Q:Value->Ad->Prop) (E:Value->Ad->Prop),Q (.int (g i) s.toks) {s with toks:=s.toks+1}->wpAny (model X.prog X.w) X.A (f (.int i t)) Q E s):
  UnR X f (rU fun i=> .int (g i)):=by
 intro aa s σ H x v Q I rx h
 obtain⟨i,rfl,q⟩:=h
 obtain⟨t,rfl⟩:=rx
 exact rule i t s _ _ ⟨.int (g i),H,I.tok _,⟨_,rfl⟩,q⟩
theorem zCX:UnR X (unaryOp .USub) (rU fun i=> .int (-i)):=unI fun _ _ _ _ _ q=>neg_int q
end
section
variable{X:Cx}{a b c:Expr}{ta tb tc:TE}{pos:Pos}
theorem L7{aa:List (Addr×Obj)}{σ:St}{H:Hp}{s:Ad}{Q:VK}{k k':Bool}(I:c7 X aa σ H s)(q:Q (.bl k) H)(e:k=k'):EP X aa σ Q (.bool k') s:=by
 subst e
 exact⟨.bl k,H,I,rfl,q⟩
theorem GV:YD X (Cn .Lt) (FJ fun i j=> .bl (decide (i<j))):=opB0 fun _ _ _ _ _ _ _ q=>lt_int q
theorem RE:YD X (Cn .LtE) (FJ fun i j=> .bl (decide (i<=j))):=opB0 fun _ _ _ _ _ _ _ q=>le_int q
theorem GU:YD X (Cn .Gt) (FJ fun i j=> .bl (decide (j<i))):=opB0 fun _ _ _ _ _ _ _ q=>gt_int q
theorem A6:YD X (Cn .Is) (fun x y H Q=>y= .non/\Q (.bl (decide (x= .non))) H):=by
 intro aa s σ H x y v u Q I rx ry h
 obtain⟨rfl,q⟩:=h
 cases ry
 refine is_none_gen (L7 I q ?_)
 cases x<;>first
  |(cases rx;rfl)
  |(obtain⟨t,rfl⟩:=rx;rfl)
theorem GW:YD X (Cn .IsNot) (fun x y H Q=>y= .non/\Q (.bl (!decide (x= .non))) H):=by
 intro aa s σ H x y v u Q I rx ry h
 obtain⟨rfl,q⟩:=h
 cases ry
 refine isnot_none_gen (L7 I q ?_)
 cases x<;>first
  |(cases rx;rfl)
  |(obtain⟨t,rfl⟩:=rx;rfl)
theorem YD.or{f:Value->Value->Sem Value}{r r':R2}(h:YD X f r)(h':YD X f r'):YD X f (fun x y H Q=>r x y H Q∨r' x y H Q):=by
 intro aa s σ H x y v u Q I rx ry q
 rcases q with q|q
 ·exact h aa s σ H x y v u Q I rx ry q
 ·exact h' aa s σ H x y v u Q I rx ry q
theorem bK(b:Expr){op:CmpOp}(h:op≠ .In:=by decide)(h2:op≠ .NotIn:=by decide):Gp op b=false:=by
 have e1:(op==CmpOp.In)=false:=by cases op<;>first|rfl|exact absurd rfl h
 have e2:(op==CmpOp.NotIn)=false:=by cases op<;>first|rfl|exact absurd rfl h2
 cases b<;>simp[Gp,e1,e2]
theorem zAV{op:CmpOp}{r:R2}(ho:YD X (Cn op) r)(ha:PE X a ta)(hb:PE X b tb)(hm:Gp op b=false):PE X (.Compare a [op] [b] pos) (tOp r ta tb):=by
 intro aa s σ H Q I h
 exact wpAny_Compare1 (binT ha hb I h fun v u s2 x y H2 I2 rx ry q=>ho aa s2 σ H2 x y v u Q I2 rx ry q) hm
def zBX(t:TE):TT:=fun σ H Q=>t σ H fun x H'=> ∃k,x= .bl k/\Q k H'
theorem zAM{op:CmpOp}{r:R2}(ho:YD X (Cn op) r)(ha:PE X a ta)(hb:PE X b tb)(hm:Gp op b=false):PT X (.Compare a [op] [b] pos) (zBX (tOp r ta tb)):=by
 intro aa s σ H Q I h
 refine wpAny_isTrue_Compare1 (aJ (ha aa s σ H _ I h) fun v s1 ⟨x,H1,I1,r1,q1⟩=>aJ (hb aa s1 σ H1 _ I1 q1) fun u s2 ⟨y,H2,I2,r2,q2⟩=>
  aJ (ho aa s2 σ H2 x y v u _ I2 r1 r2 q2) fun c s3 ⟨z,H3,I3,r3,k,e,q3⟩=> ?_) hm
 subst e
 cases r3
 exact Du ⟨H3,I3,q3⟩
def IU(r r':R2)(ta tb tc:TE):TE:=fun σ H Q=>ta σ H fun x H1=>tb σ H1 fun y H2=>r x y H2 fun z H3=> ∃k,z= .bl k∧
 (if k=true then tc σ H3 fun w' H4=>r' y w' H4 Q else Q (.bl false) H3)
theorem BC{op op':CmpOp}{r r':R2}(ho:YD X (Cn op) r)(ho':YD X (Cn op') r')(ha:PE X a ta)(hb:PE X b tb)(hc:PE X c tc)
  (hm:Ov [op,op'] [b,c]=false:=by with_unfolding_all rfl):PE X (.Compare a [op,op'] [b,c] pos) (IU r r' ta tb tc):=by
 intro aa s σ H Q I h
 refine Compare_chain (aJ (ha aa s σ H _ I h) fun v s1 ⟨x,H1,I1,r1,q1⟩=>chain_link (aJ (hb aa s1 σ H1 _ I1 q1) fun u s2 ⟨y,H2,I2,r2,q2⟩=>
  aJ (ho aa s2 σ H2 x y v u _ I2 r1 r2 q2) fun d s3 ⟨z,H3,I3,r3,k,e,q3⟩=> ?_)) hm
 subst e
 cases r3
 refine Du ?_
 cases k with
 |false=>exact ite_ff ⟨.bl false,H3,I3,rfl,q3⟩
 |true=>exact ite_tt (chain_last (aJ (hc aa s3 σ H3 _ I3 q3) fun w' s4 ⟨z',H4,I4,r4,q4⟩=>ho' aa s4 σ H4 y z' u w' Q I4 r2 r4 q4))
theorem BR{op op':CmpOp}{r r':R2}(ho:YD X (Cn op) r)(ho':YD X (Cn op') r')(ha:PE X a ta)(hb:PE X b tb)(hc:PE X c tc)
  (hm:Ov [op,op'] [b,c]=false:=by with_unfolding_all rfl):PT X (.Compare a [op,op'] [b,c] pos) (zBX (IU r r' ta tb tc)):=by
 intro aa s σ H Q I h
 refine isTrue_chain (aJ (ha aa s σ H _ I h) fun v s1 ⟨x,H1,I1,r1,q1⟩=>test_link (aJ (hb aa s1 σ H1 _ I1 q1) fun u s2 ⟨y,H2,I2,r2,q2⟩=>
  aJ (ho aa s2 σ H2 x y v u _ I2 r1 r2 q2) fun d s3 ⟨z,H3,I3,r3,k,e,q3⟩=> ?_)) hm
 subst e
 cases r3
 refine Du ?_
 cases k with
 |false=>
  obtain⟨k',e',q'⟩:=q3
  cases e'
  exact ite_ff ⟨H3,I3,q'⟩
 |true=>
  refine ite_tt (test_last (aJ (hc aa s3 σ H3 _ I3 q3) fun w' s4 ⟨z',H4,I4,r4,q4⟩=>aJ (ho' aa s4 σ H4 y z' u w' _ I4 r2 r4 q4) fun d' s5 ⟨z2,H5,I5,r5,k2,e2,q5⟩=> ?_))
  subst e2
  cases r5
  exact Du ⟨H5,I5,q5⟩
theorem RX:(sizeLine:Nat)<2 ^ 63:=by rw[Bu];decide
theorem IG:YD X (Ep .Add) (fun x y H Q=> ∃i j,x= .str i/\y= .str j/\i.length+j.length<=sizeLine/\Q (.str (i++j)) H):=by
 intro aa s σ H x y v u Q I rx ry h
 obtain⟨i,j,rfl,rfl,hz,q⟩:=h
 obtain⟨t,rfl⟩:=rx
 obtain⟨t',rfl⟩:=ry
 exact add_str (fun t' tk=>⟨.str (i++j),H,I.tok _,⟨_,rfl⟩,q⟩) hz
theorem QC{x:V}{us:List Value}(r:cA [x] us): ∃u,us=[u]/\cO x u:=by
 cases r with
 |cons r1 r2=>cases r2;exact⟨_,rfl,r1⟩
theorem K5{x y:V}{us:List Value}(r:cA [x,y] us): ∃u w',us=[u,w']/\cO x u/\cO y w':=by
 cases r with
 |cons r1 r2=>
  cases r2 with
  |cons r3 r4=>cases r4;exact⟨_,_,rfl,r1,r3⟩
theorem EA(hc:X.calm=true):aL X (.builtin "max") (fun xs H Q=> ∃i j,xs=[.int i,.int j]/\Q (.int (if j>i then j else i)) H):=by
 intro aa s σ H xs us Q I r h
 obtain⟨i,j,rfl,q⟩:=h
 obtain⟨u,w',rfl,⟨t,rfl⟩,⟨t',rfl⟩⟩:=K5 r
 refine max_two_ints (I.ok.hd hc) fun h' tk k=>⟨_,H,I.kept k,?_,q⟩
 by_cases hj:j>i
 ·rw[if_pos hj,if_pos hj];exact⟨_,rfl⟩
 ·rw[if_neg hj,if_neg hj];exact⟨_,rfl⟩
theorem EB(hc:X.calm=true):aL X (.builtin "min") (fun xs H Q=> ∃i j,xs=[.int i,.int j]/\Q (.int (if j<i then j else i)) H):=by
 intro aa s σ H xs us Q I r h
 obtain⟨i,j,rfl,q⟩:=h
 obtain⟨u,w',rfl,⟨t,rfl⟩,⟨t',rfl⟩⟩:=K5 r
 refine min_two_ints (I.ok.hd hc) fun h' tk k=>⟨_,H,I.kept k,?_,q⟩
 by_cases hj:j<i
 ·rw[if_pos hj,if_pos hj];exact⟨_,rfl⟩
 ·rw[if_neg hj,if_neg hj];exact⟨_,rfl⟩
end
structure ObjM(h:Heap)(x dx C:Addr)(mA:Str->Option Value):Prop where
 obj:h.get? x=some (Qg C dx)
 ns:h.Ns1 dx mA
 ne:dx≠x
theorem E1{h:Heap}{dx:Addr}{mA:Str->Option Value}(n:h.Ns1 dx mA): ∃od,h.get? dx=some od/\ ∀name,W.lookIn name od=some (mA name):=by
 obtain⟨o,es,ep,ho,hd,hk,_,hm⟩:=n
 refine⟨o,ho,fun name=> ?_⟩
 have e:=hm name
 unfold nsFind findBy at e
 rw[<- Array.find?_toList] at e
 unfold W.lookIn
 rw[hd]
 dsimp only
 split
 ·rename_i y q
  rw[q] at e
  exact congrArg some e
 ·rename_i q
  rw[q] at e
  have a:es.toList.any (·.refKey)=false:=by
   rw[List.any_eq_false]
   intro y hy
   obtain⟨z,t,om⟩:=hk y (Array.mem_toList_iff.mp hy)
   simp[DictEntry.refKey,om]
  have a': ¬es.toList.any (·.refKey)=true:=by rw[a];exact Db
  rw[if_neg a']
  exact congrArg some e
theorem ObjM.look{h:Heap}{x dx C:Addr}{mA:Str->Option Value}(I:ObjM h x dx C mA): ∃od,W.InstAt h x (Qg C dx) C (some od)/\ ∀name,W.lookIn name od=some (mA name):=
 let ⟨od,ho,hl⟩:=E1 I.ns
 ⟨od,⟨I.obj,rfl,rfl,ho⟩,hl⟩
theorem RJ.some_of{v:V}{o:Option Value}(r:RJ (some v) o): ∃u,o=some u/\cO v u:=by
 cases o with
 |none=>exact(show False from r).elim
 |some u=>exact⟨u,rfl,r⟩
section
variable{P:Au}{w:World}{H H':Hp}{h h':Heap}{a C dx:Addr}{fs fs':List (Str×V)}
theorem zBH(hok:U2 P w H h)(e:H a=some (.ins C dx fs)): ∃mA,ObjM h a dx C mA/\(∀f,RJ (fs.lookup f) (mA f))/\Qh mA (fs.map (·.1))/\fs.length<=1000/\H dx=some (.own a):=by
 obtain⟨d,z,ne,ob,mA,n,r,q⟩:=(show aR P w H h a (.ins C dx fs) from hok a _ e)
 exact⟨mA,⟨ob,n,ne⟩,r,q,z,d⟩
end
structure Cls(K:Ai)(C:Addr):Prop where
 pg:W.plainGet K C Str.empty=true
 hd:W.hasDictIn K C=true
 po:W.plainOver K C=true
 sa:Of K (.ref C) "__setattr__"=some (some (.builtin "object.__setattr__"))
theorem Cls.get{K:Ai}{C:Addr}(c:Cls K C)(f:Str):W.plainGet K C f=true:=c.pg
section
variable{X:Cx}{aa:List (Addr×Obj)}{σ:St}{H:Hp}{s:Ad}{A:Bx}{E:Value->Ad->Prop}{Q:Value->Ad->Prop}{c:Value}{b:Bool}
inductive QZ(K:Ai)(H:Hp):V->Value->Prop where
 |non:QZ K H .non (.type "NoneType")
 |bl (x:Bool):QZ K H (.bl x) (.type "bool")
 |int (i:Int):QZ K H (.int i) (.type "int")
 |str (x:Str):QZ K H (.str x) (.type "str")
 |flt (x:UInt64):QZ K H (.flt x) (.type "float")
 |lst {a:Addr} {xs:List V} (e:H a=some (.lst xs)):QZ K H (.ref a) (.type "list")
 |frz {a:Addr} {o:Obj} {xs:List V} (e:H a=some (.frz o (.lst xs))):QZ K H (.ref a) (.type "list")
 |tup {a:Addr} {xs:List V} (e:H a=some (.tup xs)):QZ K H (.ref a) (.type "tuple")
 |dK {a:Addr} {kvs:List (aF×V)} (e:H a=some (.dK kvs)):QZ K H (.ref a) (.type "dict")
 |dT {a:Addr} {kvs:List (List aF×V)} (e:H a=some (.dT kvs)):QZ K H (.ref a) (.type "dict")
 |ins {a C dx:Addr} {fs:List (Str×V)} (e:H a=some (.ins C dx fs)) (cl:Cls K C) (ha:Of K (.ref C) "__class__"=some (some (.builtin "object.__class__")))
   (hn:W.specialIn K (.builtin "object.__class__") "__get__"=some (some (.builtin "getset_descriptor.__get__"))) (htk:W.takesIn K (.builtin "object.__class__")=some true)
   (hm:W.mroIn K C (.type "object")=some true):QZ K H (.ref a) (.ref C)
theorem U9{x:V}{u t:Value}(I:c7 X aa σ H s)(rx:cO x u)(ty:QZ X.K H x t)(e:Hq X.K t c=some b)(h: ∀tk,Q (.bool b) {s with toks:=tk}):
  wpAny (model X.prog X.w) A (call (.builtin "isinstance") [u,c]) Q E s:=by
 cases ty with
 |non=>cases (show u=Value.none from rx);exact Ei W.kitx_none I.kIn True.intro e (fun z=>nomatch z) h
 |bl y=>cases (show u=Fs y from rx);exact Ei W.kitx_bool I.kIn True.intro e (fun z=>nomatch z) h
 |int i=>obtain⟨t,q⟩:=(show∃t,u=Om i t from rx);cases q;exact Ei W.kitx_int I.kIn True.intro e (fun z=>nomatch z) h
 |str y=>obtain⟨t,q⟩:=(show∃t,u=Oo y t from rx);cases q;exact Ei W.kitx_str I.kIn True.intro e (fun z=>nomatch z) h
 |flt y=>obtain⟨t,q⟩:=(show∃t,u=Qn y t from rx);cases q;exact Ei W.kitx_float I.kIn True.intro e (fun z=>nomatch z) h
 | @lst a xs ea=>
  cases (show u=Bj a from rx)
  obtain⟨_,_,n,_,h1⟩:=(show aR X.prog X.w H s.heap a (.lst xs) from I.hok a _ ea)
  exact Ei Ln I.kIn ⟨_,h1,rfl⟩ e (fun z=>nomatch z) h
 | @frz a ob xs ea=>
  cases (show u=Bj a from rx)
  obtain⟨_,_,_,n,_,h1⟩:=(show aR X.prog X.w H s.heap a (.frz ob (.lst xs)) from I.hok a _ ea)
  exact Ei Ln I.kIn ⟨_,h1,rfl⟩ e (fun z=>nomatch z) h
 | @tup a xs ea=>
  cases (show u=Bj a from rx)
  obtain⟨_,_,_,p⟩:=(show aR X.prog X.w H s.heap a (.tup xs) from I.hok a _ ea)
  obtain⟨o,h1,h2,_⟩:=p
  exact Ei W.kitx_tuple I.kIn ⟨o,h1,h2⟩ e (fun z=>nomatch z) h
 | @dK a kvs ea=>
  cases (show u=Bj a from rx)
  obtain⟨_,_,vs,_,p⟩:=(show aR X.prog X.w H s.heap a (.dK kvs) from I.hok a _ ea)
  obtain⟨o,es,ep,h1,h2,_⟩:=p
  exact Ei W.kitx_dict I.kIn ⟨o,h1,h2.1⟩ e (fun z=>nomatch z) h
 | @dT a kvs ea=>
  cases (show u=Bj a from rx)
  obtain⟨_,_,xs,_,o,es,ep,h1,h2,_⟩:=(show aR X.prog X.w H s.heap a (.dT kvs) from I.hok a _ ea)
  exact Ei W.kitx_dict I.kIn ⟨o,h1,h2.1⟩ e (fun z=>nomatch z) h
 | @ins a C dx fs ea cl ha hn htk hm=>
  cases (show u=Bj a from rx)
  obtain⟨mA,O,_⟩:=zBH I.hok ea
  obtain⟨od,J,_⟩:=O.look
  exact Ei (W.kitx_own (cl.get _) cl.hd ha hn htk hm) I.kIn J e (fun z=>nomatch z) h
end
structure aH(k:Nat)(A:Bx):Prop where
 hd:A.handled=none
 dp:A.depth+3*k+5<Ja
 un:A.units+16*k+200<cLine
theorem aH.mono{j k:Nat}{A:Bx}(r:aH k A)(h:j<=k):aH j A:=⟨r.hd,by have:=r.dp;omega,by have:=r.un;omega⟩
theorem aH.deeper{k:Nat}{A:Bx}(r:aH (k+1) A)(env:Env):aH k (A.deeper env):=
 ⟨r.hd,by have:=r.dp;show A.depth+1+3*k+5<_;omega,by have:=r.un;show A.units+3+16*k+200<_;omega⟩
theorem aH.depth{k:Nat}{A:Bx}(r:aH k A):A.depth<Ja:=by have:=r.dp;omega
theorem aH.units{k:Nat}{A:Bx}(r:aH k A):A.units+64<cLine:=by have:=r.un;omega
def OS:TA:=fun _ H Q=>Q [] H
def U0(ta:TE)(tr:TA):TA:=fun σ H Q=>ta σ H fun x H1=>tr σ H1 fun xs H2=>Q (x::xs) H2
section
variable{X:Cx}{e:Expr}{es:List Expr}{te:TE}{t:TA}{pos:Pos}
theorem ZN:PA X [] OS:=fun _ _ _ _ H Q I h=>Hd ⟨[],H,I,.nil,h⟩
theorem bR(ha:PE X e te)(hr:PA X es t)(hs:starEach (e::es) X.env=(false,eval e X.env)::starEach es X.env:=by rfl):PA X (e::es) (U0 te t):=by
 intro pos aa s σ H Q I h
 rw[hs]
 show wpAny _ _ (spliced ((false,eval e X.env)::Dq pos (starEach es X.env))) _ _ s
 refine Fi (aJ (ha aa s σ H _ I h) fun u s1 ⟨x,H1,I1,r1,q1⟩=> ?_)
 exact aJ (hr pos aa s1 σ H1 _ I1 q1) fun us s2 ⟨xs,H2,I2,r2,q2⟩=>⟨x::xs,H2,I2,.cons r1 r2,q2⟩
def tTup(t:TA):TE:=fun σ H Q=>t σ H fun xs H1=>xs.length<=sizeLine/\ ∀p,H1 p=none->Q (.ref p) (bL H1 p (.tup xs))
def tLst(t:TA):TE:=fun σ H Q=>t σ H fun xs H1=>xs.length<=sizeLine/\ ∀p,H1 p=none->Q (.ref p) (bL H1 p (.lst xs))
theorem BM{x1}(h:PA X es t):PE X (.Tuple es x1 pos) (tTup t):=by
 intro aa s σ H Q I hq
 refine wpAny_Tuple_spliced (aJ (h pos aa s σ H _ I hq) fun us s1 ⟨xs,H1,I1,r,z,q⟩=>⟨by rw[<- r.length];exact z,?_⟩)
 have hf:H1 s1.heap.objs.size=none:=I1.hok.fresh (As _)
 refine⟨.ref s1.heap.objs.size,bL H1 s1.heap.objs.size (.tup xs),I1.laid (t':=s1.toks) (fun b u e=>Ae _ e) (As _) ?_,rfl,q _ hf⟩
 exact⟨z,us,r,⟨_,At _ rfl,rfl,_,rfl⟩⟩
theorem BI(h:PA X es t):PE X (.List es pos) (tLst t):=by
 intro aa s σ H Q I hq
 refine wpAny_List_spliced (aJ (h pos aa s σ H _ I hq) fun us s1 ⟨xs,H1,I1,r,z,q⟩=>⟨by rw[<- r.length];exact z,?_⟩)
 have hf:H1 s1.heap.objs.size=none:=I1.hok.fresh (As _)
 refine⟨.ref s1.heap.objs.size,bL H1 s1.heap.objs.size (.lst xs),I1.laid (t':=s1.toks) (fun b u e=>Ae _ e) (As _) ?_,rfl,q _ hf⟩
 exact⟨z,us,0,r,At _ rfl⟩
end
abbrev Sp:=List V->Hp->VK->XK->Prop
abbrev HF:=List Env->Hp->Ad->XK->Value->Ad->Prop
structure DU(P:Au)(w:World)(K:Ai)(mg:Str->Option Value)(base:Heap)(A:Bx)(outer:List Env)(s:Ad)(H:Hp):Prop where
 frames:A.frames=some outer
 mod:Mod K mg base
 bs: ∀b o,base.get? b=some o->s.heap.get? b=some o/\H b=none
 bsz:base.objs.size<=s.heap.objs.size
 funs:s.heap.FunFrames base outer
 frf: ∀b∈UW outer,H b=none
 hok:U2 P w H s.heap
 bare:Jp s.gens
def CE(outer:List Env)(P:Au)(w:World)(H:Hp)(s:Ad)(Q:VK)(u:Value)(s':Ad):Prop:=
 ∃v H',s'.os=s.os/\Jp s'.gens/\Un (UW outer) [] H H' s.heap s'.heap/\U2 P w H' s'.heap/\cO v u/\Q v H'
def CR(CX:HF)(outer:List Env)(P:Au)(w:World)(H:Hp)(s:Ad)(Q:VK)(E:XK)(r:Ma)(s':Ad):Prop:=
 match r with
 | .ok (.ret u)=>CE outer P w H s Q u s'
 | .ok _=>False
 | .error e=>CX outer H s E e s'
structure bU(P:Au)(w:World)(K:Ai)(mg:Str->Option Value)(base:Heap)(CX:HF)(k:Nat)(f:Addr)(fd:Ck)(ps:List Str)(sp:Sp):Prop where
 len: ∀vs H Q E,sp vs H Q E->vs.length=ps.length
 run: ∀(A:Bx) (outer:List Env) (s:Ad) (H:Hp) (args:Args) (us:List Value) (vs:List V) (Q:VK) (E:XK),aH k A->DU P w K mg base A outer s H->Lo s fd args (ps.zip us)->cA vs us->sp vs H Q E→
  Ej (model P w) A (.call (.ref f) args) (CR CX outer P w H s Q E) s
section
variable{X:Cx}{aa:List (Addr×Obj)}{σ:St}{H:Hp}{s s':Ad}
theorem c7.env0(I:c7 X aa σ H s):DU X.prog X.w X.K X.mg X.base X.A X.stack s H:=
 ⟨I.ok.frames,I.ok.mod,I.bs,Dy I.ok.bsz I.sz,I.stack,I.stkFree,I.hok,I.bare⟩
theorem c7.after{Q:VK}{u:Value}(I:c7 X aa σ H s)(h:CE X.stack X.prog X.w H s Q u s'):EP X aa σ Q u s':=by
 obtain⟨v,H',os,bare,un,hok,r,q⟩:=h
 obtain⟨hh,g,d,t,os'⟩:=s'
 obtain rfl:os'=s.os:=os
 exact⟨v,H',I.call (h':=hh) (g':=g) (d':=d) (t':=t) (ch:=[]) un hok bare (fun b z=>absurd z (by simp)),r,q⟩
end
def K0(sp:Sp)(dvs:List V)(E:XK)(t:TA):TE:=fun σ H Q=>t σ H fun vs H1=>sp (vs++dvs) H1 Q E
def WG(K:Ai)(fd:Ck)(ps:List Str)(ds:List Value):Prop:=
 ∀(s:Ad) (us:List Value),K.In s.heap->(us++ds).length=ps.length->Lo s fd ⟨us,[]⟩ (ps.zip (us++ds))
theorem WG.all{K:Ai}{fd:Ck}{ps:List Str}(h: ∀us:List Value,us.length=ps.length->bindArgs fd ⟨us,[]⟩=pure (ps.zip us)):WG K fd ps []:=fun s us _ hl=>by
 rw[Dd] at hl⊢
 exact .of_eq (h us hl)
def LJ(CX:HF)(X:Cx)(E:XK):Prop:= ∀(aa:List (Addr×Obj)) (σ:St) (H:Hp) (s:Ad) (e:Value) (s':Ad),c7 X aa σ H s->CX X.stack H s E e s'->X.xe e s'
section
variable{X:Cx}{CX:HF}{k:Nat}{f C:Addr}{fd:Ck}{ps:List Str}{sp:Sp}{dvs:List V}{ds:List Value}{E:XK}{x m:Str}{p pos ai:Pos}{e o:Expr}{es:List Expr}{ta:TE}{t:TA}
theorem IN{aa:List (Addr×Obj)}{σ:St}{H:Hp}{s:Ad}{Q:VK}{us:List Value}{vs:List V}(F:bU X.prog X.w X.K X.mg X.base CX k f fd ps sp)(hr:aH k X.A)(hb:WG X.K fd ps ds)(hd:cA dvs ds)(hx:LJ CX X E)
  (I:c7 X aa σ H s) (r:cA vs us) (h:sp (vs++dvs) H Q E):wpAny (model X.prog X.w) X.A (call (.ref f) us) (EP X aa σ Q) X.xe s:=by
 have r2:cA (vs++dvs) (us++ds):=r.append hd
 have hl:(us++ds).length=ps.length:=by rw[<- r2.length];exact F.len _ _ _ _ h
 refine Jh (Fe (F.run X.A X.stack s H ⟨us,[]⟩ (us++ds) (vs++dvs) Q E hr I.env0 (hb s us I.kIn hl) r2 h) fun r s' hq=> ?_)
 cases r with
 |error e=>exact hx aa σ H s e s' I hq
 |ok fl=>
  cases fl with
  |ret u=>exact I.after hq
  |next=>exact Fg hq
  |brk=>exact Fg hq
  |cont=>exact Fg hq
theorem zAW(F:bU X.prog X.w X.K X.mg X.base CX k f fd ps sp)(hr:aH k X.A)(hg:Gl X x)(hm:X.mg x=some (.ref f))(hk:Fj X.K (.ref f)=true)(hb:WG X.K fd ps ds)(hd:cA dvs ds)(hx:LJ CX X E)
  (ha:PA X (e::es) t) (hdb:(x==("__debug__":Str))=false:=by decide) (he:starEach (e::es) X.env=(false,eval e X.env)::starEach es X.env:=by rfl) (hpl:(Dq pos (starEach es X.env)).any (·.1)=false:=by rfl):
  PE X (.Call (.Name x p) (e::es) [] pos) (K0 sp dvs E t):=by
 intro aa s σ H Q I h
 refine Co (XV I hg hm ?_ hdb)
 refine Ix (h₀:=X.base) I.ok.mod.kin hk (aJ (ha pos aa s σ H _ I h) fun us s1 ⟨vs,H1,I1,r,q⟩=>⟨I1.kIn,?_⟩) he hpl
 exact IN F hr hb hd hx I1 r q
theorem A8(F:bU X.prog X.w X.K X.mg X.base CX k f fd ps sp)(hr:aH k X.A)(hg:Gl X x)(hm:X.mg x=some (.ref f))(hk:Fj X.K (.ref f)=true)(hb:WG X.K fd ps ds)(hd:cA dvs ds)(hx:LJ CX X E)
  (hdb:(x==("__debug__":Str))=false:=by decide):PE X (.Call (.Name x p) [] [] pos) (K0 sp dvs E OS):=by
 intro aa s σ H Q I h
 refine Co (XV I hg hm ?_ hdb)
 exact W.callWith_K0 I.kIn hk (IN (us:=[]) F hr hb hd hx I .nil h)
end
def PK(X:Cx)(kws:List Ge)(t:TA):Prop:=
 ∀(pos:Pos) (aa:List (Addr×Obj)) (s:Ad) (σ:St) (H:Hp) (Q:List V->Hp->Prop),c7 X aa σ H s->t σ H Q->wpAny (model X.prog X.w) X.A (evalAll ((Er pos (Cr kws X.env)).map (·.2))) (AP X aa σ Q) X.xe s
section
variable{X:Cx}{CX:HF}{k:Nat}{f C:Addr}{fd:Ck}{ps ks:List Str}{sp:Sp}{E:XK}{x m:Str}{p pos ai cq:Pos}{e o:Expr}{es:List Expr}{kws:List Ge}{te ta:TE}{t tk:TA}{nm:Option Str}
theorem zDW:PK X [] OS:=fun _ _ _ _ H Q I h=>Mr ⟨[],H,I,.nil,h⟩
theorem zAQ(ha:PE X e te)(hr:PK X kws t):PK X (⟨nm,e,cq⟩::kws) (U0 te t):=by
 intro pos aa s σ H Q I h
 show wpAny _ _ (evalAll ((do let v<- eval e X.env;Jq pos;pure v)::(Er pos (Cr kws X.env)).map (·.2))) _ _ s
 refine Mb (Aa (aJ (ha aa s σ H _ I h) fun u s1 ⟨x,H1,I1,r1,q1⟩=>Aa (Cv (Af ?_))))
 exact aJ (hr pos aa s1 σ H1 _ I1 q1) fun us s2 ⟨xs,H2,I2,r2,q2⟩=>⟨x::xs,H2,I2,.cons r1 r2,q2⟩
structure HH(K:Ai)(fd:Ck)(ps ks:List Str)(g:List Value->List Value->List Value)(gV:List V->List V->List V):Prop where
 to: ∀(s:Ad) (us ws:List Value),K.In s.heap->(g us ws).length=ps.length->Lo s fd ⟨us,ks.zip ws⟩ (ps.zip (g us ws))
 rel: ∀{vs:List V} {us:List Value} {zs:List V} {ws:List Value},cA vs us->cA zs ws->cA (gV vs zs) (g us ws)
variable{g:List Value->List Value->List Value}{gV:List V->List V->List V}
end
structure cV(N P:List Str)(sc:Scope):Prop where
 kind:sc.kind= .function
 co:sc.isCoroutine=false
 gen:sc.isGenerator=false
 nd:N.Nodup
 pre:N.take P.length=P
 par: ∀x∈P,sc.names.lookup x=some .local∨sc.names.lookup x=some .cell
 nofree: ∀y∈sc.names,y.2≠ .free
theorem NC{kindOf:Str->Option NameKind}{x:Str}: ∀{binds:List (Str×Value)} {m:Str->Option Value},(∀v,(x,v)∉binds)->bindL kindOf binds m x=m x
 | [],_,_ => rfl
 | (n,v) :: r,m,h => by
  unfold bindL
  rw[NC fun w hw=>h w (Av _ hw)]
  split
  ·have : x ≠ n := by rintro rfl;exact h v Bg
   simp[this]
  ·rfl
theorem NA{kindOf:Str->Option NameKind}{x:Str}: ∀{binds:List (Str×Value)} {m:Str->Option Value},(∀v,(x,v)∉binds)->bindC kindOf binds m x=m x
 | [],_,_ => rfl
 | (n,v) :: r,m,h => by
  unfold bindC
  rw[NA fun w hw=>h w (Av _ hw)]
  split
  ·rfl
  ·have : x ≠ n := by rintro rfl;exact h v Bg
   simp[this]
theorem NB{kindOf:Str->Option NameKind}{x:Str}{v:Value}: ∀{P:List Str} {vs:List Value} {i:Nat} {m:Str->Option Value},P.Nodup->P[i]? =some x->vs[i]? =some v->kindOf x=some .local→
  bindL kindOf (P.zip vs) m x=some v
 |[],_,_,_,_,h,_,_=>by simp at h
 |_::_,[],_,_,_,_,h,_=>by simp at h
 |p::P,w::vs,0,m,nd,h1,h2,hk=>by
  simp at h1 h2;subst h1;subst h2
  show bindL kindOf ((p,w)::P.zip vs) m p=_
  unfold bindL
  rw[NC fun v hv=>(Cs.mp nd).1 (Hz hv).1,if_pos hk]
  simp
 |p::P,w::vs,i+1,m,nd,h1,h2,hk=>by
  show bindL kindOf ((p,w)::P.zip vs) m x=_
  unfold bindL
  exact NB (i:=i) (Cs.mp nd).2 (by simpa using h1) (by simpa using h2) hk
theorem M9{kindOf:Str->Option NameKind}{x:Str}{v:Value}: ∀{P:List Str} {vs:List Value} {i:Nat} {m:Str->Option Value},P.Nodup->P[i]? =some x->vs[i]? =some v->kindOf x≠some .local→
  bindC kindOf (P.zip vs) m x=some v
 |[],_,_,_,_,h,_,_=>by simp at h
 |_::_,[],_,_,_,_,h,_=>by simp at h
 |p::P,w::vs,0,m,nd,h1,h2,hk=>by
  simp at h1 h2;subst h1;subst h2
  show bindC kindOf ((p,w)::P.zip vs) m p=_
  unfold bindC
  rw[NA fun v hv=>(Cs.mp nd).1 (Hz hv).1,if_neg hk]
  simp
 |p::P,w::vs,i+1,m,nd,h1,h2,hk=>by
  show bindC kindOf ((p,w)::P.zip vs) m x=_
  unfold bindC
  exact M9 (i:=i) (Cs.mp nd).2 (by simpa using h1) (by simpa using h2) hk
noncomputable def start(N:List Str)(vs:List V):St:=vs.map some++Ap (N.length - vs.length) none
noncomputable def T7(CX:HF)(P:Au)(w:World)(K:Ai)(mg:Str->Option Value)(base:Heap)(N:List Str)(qual:Str)(scope:Scope)(f:Addr)(cd:Value)(A:Bx)(outer:List Env)(s:Ad)(H:Hp)(E:XK):Cx where
 prog:=P
 w:=w
 K:=K
 mg:=mg
 base:=base
 A:=A.deeper (envOfC qual scope s.heap.objs.size f cd)
 N:=N
 s₀:=s
 H₀:=H
 env:=envOfC qual scope s.heap.objs.size f cd
 outer:=outer
 stack:=envOfC qual scope s.heap.objs.size f cd::outer
 ex:=[]
 calm:=true
 fn:=fun _=>true
 pn:=[]
 xe:=fun e s'=>wpAny (model P w) (A.deeper (envOfC qual scope s.heap.objs.size f cd)) (leaving (envOfC qual scope s.heap.objs.size f cd) e) (fun _ s''=>CX outer H s E e s'') (fun e' s''=>CX outer H s E e' s'') s'
theorem JR{sc:Scope}{n:Nat}{x:Str}(h:sc.names.lookup x=some .cell): ∃c,(cellsFrom n sc.names []).lookup x=some c:=by
 have q:=Ka sc.names n [] (.inl h)
 exact Option.isSome_iff_exists.mp q
theorem NP{CX:HF}{P:Au}{w:World}{K:Ai}{mg:Str->Option Value}{base:Heap}{N ps:List Str}{qual:Str}{scope:Scope}{f:Addr}{cd:Value}{A:Bx}{outer:List Env}{s s1:Ad}{H:Hp}{E:XK}{us:List Value}{vs:List V}
  (S:cV N ps scope) (hd:A.handled=none) (e0:DU P w K mg base A outer s H) (hl:vs.length=ps.length) (r:cA vs us)
  (x : InCallC s s.heap.objs.size (bindL (envOfC qual scope s.heap.objs.size f cd).kindOf (ps.zip us) fun _ => none) (cellsFrom (s.heap.objs.size + 1) scope.names []) (bindC (envOfC qual scope s.heap.objs.size f cd).kindOf (ps.zip us) fun _ => none) s1) :
  c7 (T7 CX P w K mg base N qual scope f cd A outer s H E) [] (start N vs) H s1:=by
 have hpl:ps.length<=N.length:=by have:=congrArg List.length S.pre;rw[Cj] at this;omega
 obtain⟨h1,tk,rfl,hk⟩:=x.done
 have noA: ∀b:Addr,b∉(T7 CX P w K mg base N qual scope f cd A outer s H E).ex:=fun b z=>absurd (show b∈([]:List Addr) from z) (by simp)
 refine⟨⟨e0.mod,S.kind,rfl,rfl,As _,fun y z c h1 h2=> ?_,fun y hy=> ?_,fun y c _ h=> ?_,fun _=>hd,Around.frames_deeper e0.frames,.inr ⟨rfl,rfl⟩,fun b z=>absurd z (noA b),e0.bs,e0.bsz,fun b _ _=>noA b,fun b z=>absurd z (noA b),e0.funs,e0.frf⟩,
  rfl,e0.bare,Un.kept hk,⟨_,x.toInCall.ns,fun i y v h1 h2 h3=> ?_⟩,fun y c h=>⟨_,x.cell y c h⟩,e0.hok.fresh (As _),fun y c h=> ?_,fun p hp=>absurd (show p∈([]:List (Addr×Obj)) from hp) (by simp),e0.hok.kept hk,?_⟩
 ·exact name_of_addr x.apart (Bi h1) (Bi h2)
 ·have hy:scope.names.lookup y=some .cell∨scope.names.lookup y=some .free:=hy
  rcases hy with hy|hy
  ·exact JR hy
  ·exact absurd rfl (S.nofree _ (Bi hy))
 ·exact Ng (x.above y c (Bi h))
 ·have hi:i<vs.length:=by
   unfold start at h2
   by_cases hi:i<vs.length
   ·exact hi
   ·rw [Bz (by simpa using hi)] at h2
    rw[Cb] at h2
    split at h2<;>cases h2
  have ha:vs[i]? =some v:=by
   unfold start at h2
   rw[Am (by simpa using hi),Cw] at h2
   cases e:vs[i]? with
   |none=>rw[e] at h2;cases h2
   |some a=>rw[e] at h2;cases h2;rfl
  obtain⟨u,hu,rv⟩:=r.get ha
  have hp:ps[i]? =some y:=by rw[<- S.pre,By (by omega)];exact h1
  have ndP:ps.Nodup:=by rw[<- S.pre];exact S.nd.sublist (List.take_sublist _ _)
  refine⟨u,rv,?_⟩
  rcases S.par y (Ex hp) with k|k
  ·exact .inl ⟨k,NB ndP hp hu k⟩
  ·obtain⟨c,e⟩:=JR (n:=s.heap.objs.size+1) k
   refine .inr ⟨.inl k,c,e,?_⟩
   have q:=x.cell y c e
   rw[M9 ndP hp hu (by show scope.names.lookup y≠_;rw[k];decide)] at q
   exact q
 ·exact e0.hok.fresh (Ng (x.above y c (Bi h)))
 ·unfold start
  show _=N.length
  rw[Cg,De,Hi]
  omega
theorem zCJ{CX:HF}{P:Au}{w:World}{K:Ai}{mg:Str->Option Value}{base:Heap}{k:Nat}{f:Addr}{name qual:Str}{params:Arguments}{body:List Stmt}{scope:Scope}{dV kV doc pm cdv ct oc:Value}{an od:Option Addr}
  {osl:Array (Option Value)} {N ps:List Str} {sp:Sp} (lk:K.lookup f=some ⟨oc,od,.func (Ji name qual params body scope dV kV doc pm an cdv ct),osl⟩) (hcd:Mc K cdv qual=true) (S:cV N ps scope)
  (len: ∀vs H Q E,sp vs H Q E->vs.length=ps.length)
  (am: ∀(A:Bx) (outer:List Env) (s:Ad) (H:Hp) (vs:List V) (Q:VK) (E:XK),aH k (A.deeper (envOfC qual scope s.heap.objs.size f cdv))->sp vs H Q E→
   ∃t,W6 (T7 CX P w K mg base N qual scope f cdv A outer s H E) body t/\t {nx:=fun _ H'=>Q .non H',rt:=Q} (start N vs) H):
  bU P w K mg base CX (k+1) f (Ji name qual params body scope dV kV doc pm an cdv ct) ps sp:=by
 refine⟨len,fun A outer s H args us vs Q E hr e0 hb r hsp=> ?_⟩
 have hl:=len _ _ _ _ hsp
 have KX:K.In s.heap:=e0.mod.kin.keeps fun b o e=>(e0.bs b o e).1
 have lim:s.heap.NoLimit:=e0.mod.nolimit.keeps fun b o e=>(e0.bs b o e).1
 have ip: ∀y∈ps.zip us,scope.names.lookup y.1=some .local∨(scope.names.lookup y.1=some .cell/\((cellsFrom (s.heap.objs.size+1) scope.names []).lookup y.1).isSome=true):=fun⟨n,v⟩ hy=>by
  rcases S.par n (Hz hy).1 with q|q
  ·exact .inl q
  ·exact .inr ⟨q,Ka _ _ _ (.inl q)⟩
 refine Kn hr.depth (KX _ _ lk) rfl S.co S.gen rfl (W.codeRec_of KX hcd) (hb _ _ _ _ ?_)
 refine Ip S.kind ip fun env he s1 x=> ?_
 subst he
 refine⟨lim.keeps x.toInCall.keep,codeAny_func ?_⟩
 obtain⟨t,ht,hq⟩:=am A outer s H vs Q E (hr.deeper _) hsp
 have I:c7 (T7 CX P w K mg base N qual scope f cdv A outer s H E) [] (start N vs) H s1:=NP S hr.hd e0 hl r x
 refine An (ht [] s1 (start N vs) H _ I hq) (fun fl s' hs=> ?_) fun e s' hs=>hs
 have fin: ∀{σ':St} {H':Hp} {v:V} {u:Value},c7 (T7 CX P w K mg base N qual scope f cdv A outer s H E) [] σ' H' s'->cO v u->Q v H'->CE outer P w H s Q u s':=
  fun{σ' H' v u} J rv q=>⟨v,H',J.os,J.bare,J.base,J.hok,rv,q⟩
 cases fl with
 |ret u=>
  obtain⟨v,σ',H',J,rv,q⟩:=hs
  exact fin J rv q
 |next=>
  obtain⟨σ',H',J,q⟩:=hs
  exact fin (v:=V.non) (u:=Value.none) J rfl q
 |brk=>
  obtain⟨_,_,_,q⟩:=hs
  exact Fg q
 |cont=>
  obtain⟨_,_,_,q⟩:=hs
  exact Fg q
section
variable{X:Cx}{x:Str}{p pos:Pos}{e:Expr}{es:List Expr}{t:TA}{id T:String}{r:List V->Hp->VK->Prop}
def tCB(r:List V->Hp->VK->Prop)(t:TA):TE:=fun σ H Q=>t σ H fun vs H1=>r vs H1 Q
theorem KO(hc:aL X (.builtin id) r)(hg:Gl X x)(hm:X.mg x=none)(hv:Bl x=some (.builtin id))(ha:PA X (e::es) t)(hn:x≠ "__name__":=by decide) (hdb:(x==("__debug__":Str))=false:=by decide)
  (he:starEach (e::es) X.env=(false,eval e X.env)::starEach es X.env:=by rfl) (hpl:(Dq pos (starEach es X.env)).any (·.1)=false:=by rfl):PE X (.Call (.Name x p) (e::es) [] pos) (tCB r t):=by
 intro aa s σ H Q I h
 refine Co (UK I hg hm hv ?_ hn hdb)
 exact PyProof.Rows.callWith_builtin1 (aJ (ha pos aa s σ H _ I h) fun us s1 ⟨vs,H1,I1,r1,q1⟩=>hc aa s1 σ H1 vs us Q I1 r1 q1) he hpl
theorem NY(hc:aL X (.type T) r)(hg:Gl X x)(hm:X.mg x=none)(hv:Bl x=some (.type T))(ha:PA X (e::es) t)(hn:x≠ "__name__":=by decide) (hdb:(x==("__debug__":Str))=false:=by decide)
  (he:starEach (e::es) X.env=(false,eval e X.env)::starEach es X.env:=by rfl) (hpl:(Dq pos (starEach es X.env)).any (·.1)=false:=by rfl):PE X (.Call (.Name x p) (e::es) [] pos) (tCB r t):=by
 intro aa s σ H Q I h
 refine Co (UK I hg hm hv ?_ hn hdb)
 exact Eh (aJ (ha pos aa s σ H _ I h) fun us s1 ⟨vs,H1,I1,r1,q1⟩=>hc aa s1 σ H1 vs us Q I1 r1 q1) he hpl
end
end L2
namespace HT
open PySem PyProof.Rows
section
variable{prog:Au}{w:World}{A:Bx}{E:Value->Ad->Prop}{s:Ad}
theorem zBN{t b:Addr}{vs ws:List Value}{Q:Value->Ad->Prop}(ht:IsTup s.heap t vs.toArray)(hb:IsTup s.heap b ws.toArray)(hv:vs≠[])
  (h1:ws=[]->Q (.ref t) s) (h2:ws≠[]->Q (.ref s.heap.objs.size) {s with heap:=s.heap.push {cls:= .type "tuple",data:= .seq (vs++ws).toArray}})
  (hsz:vs.length+ws.length<=sizeLine):wpAny (model prog w) A (Ep .Add (.ref t) (.ref b)) Q E s:=by
 obtain⟨⟨cls,dd,data,sl⟩,ho,hc,n,hd⟩:=id ht
 obtain⟨⟨mr,dd2,data2,sl2⟩,ho2,hc2,n2,hd2⟩:=id hb
 simp only at hc hd hc2 hd2
 subst hc hd hc2 hd2
 have e:vs.toArray++ws.toArray=(vs++ws).toArray:=by simp
 by_cases hw:ws=[]
 ·exact Ko ⟨_,ho,rfl⟩ ⟨_,ho2,rfl⟩ Kb Md Gz Gq (Gh _ _)
   (tuple_addW1 t b vs.toArray ws.toArray n n2 dd dd2 sl sl2 (by simpa using hv) (by simp[hw])) ⟨ho,ho2,h1 hw⟩
 ·refine Ko ⟨_,ho,rfl⟩ ⟨_,ho2,rfl⟩ Kb Md Gz Gq (Gh _ _)
   (tuple_addW2 t b vs.toArray ws.toArray n n2 dd dd2 sl sl2 (by simpa using hv) (by simpa using hw) (by rw[Ak,Ak];exact hsz)) ⟨ho,ho2,?_⟩
  rw[e]
  exact h2 hw
noncomputable def sIx(n d:Nat):Option Int->Nat
 |none=>d
 |some v=>if v<0 then(v+(n:Int)).toNat else min v.toNat n
theorem CB(n d:Nat):sIx n d none=d:=rfl
theorem zAG(n d k:Nat):sIx n d (some (k:Int))=min k n:=by
 show(if(k:Int)<0 then((k:Int)+(n:Int)).toNat else min (k:Int).toNat n)=min k n
 rw[if_neg (by omega),Jj]
theorem zDK(n d:Nat)(hd:d<=n)(o:Option Int):sIx n d o<=n:=by
 cases o with
 |none=>exact hd
 |some v=>
  show(if v<0 then(v+(n:Int)).toNat else min v.toNat n)<=n
  by_cases hv:v<0
  ·rw[if_pos hv];omega
  ·rw[if_neg hv];exact Nat.min_le_right _ _
theorem F8(v:Int)(n d:Nat):(if v<0 then max (v+(n:Int)) 0 else min v (n:Int))=((sIx n d (some v):Nat):Int):=by
 show(if v<0 then max (v+(n:Int)) 0 else min v (n:Int))=(((if v<0 then(v+(n:Int)).toNat else min v.toNat n):Nat):Int)
 by_cases hv:v<0
 ·simp only[if_pos hv];omega
 ·simp only[if_neg hv];omega
theorem HJ(lo hi:Option Int)(n:Nat):Ga lo hi 1 (n:Int)=(((sIx n 0 lo:Nat):Int),((sIx n n hi:Nat):Int)):=by
 have h1: ¬((1:Int)<0):=by omega
 unfold Ga
 simp only[h1,if_false]
 refine Prod.ext ?_ ?_
 ·cases lo with
  |none=>rfl
  |some v=>exact F8 v n 0
 ·cases hi with
  |none=>rfl
  |some v=>exact F8 v n n
theorem IJ(i j:Nat):Eu (i:Int) (j:Int) 1=j - i:=by
 unfold Eu
 have h1:(1:Int)>0:=by omega
 simp only[h1,if_true,Int.ediv_one]
 split<;>omega
theorem P7{v:Value}{o:Option Int}{Q:Option Int->Ad->Prop}(p:IsPart v o)(h:Q o s):wpAny (model prog w) A (Og v) Q E s:=by
 cases p with
 |none=>exact slicePart_none h
 |int i t=>exact slicePart_int h
theorem XG{sl:Addr}{vl vu:Value}{lo hi:Option Int}{n:Nat}{Q:Int×Int×Nat->Ad->Prop}(hs:s.heap.IsSliceOf sl vl vu .none)(pl:IsPart vl lo)(pu:IsPart vu hi)
  (h:Q (((sIx n 0 lo:Nat):Int),1,sIx n n hi - sIx n 0 lo) s):wpAny (model prog w) A (Iq (.ref sl) (pure (n:Int))) Q E s:=by
 obtain⟨os,hos,hcs,hds⟩:=id hs
 unfold Iq Pj
 refine Aa (Aa (Dr hos hds (x:=vl) rfl (Aa (Dr hos hds (x:=vu) rfl (Aa (Dr hos hds (x:= .none) rfl (Af ?_)))))))
 refine Aa (slicePart_none ?_)
 show wpAny _ _ (if((1:Int)==0)=true then _ else _) _ _ s
 rw[if_neg (by decide)]
 refine Aa (P7 pl (Aa (P7 pu (Aa (Af ?_)))))
 show wpAny _ _ (match Ga lo hi 1 (n:Int) with|(lo,hi)=>pure (lo,(1:Int),Eu lo hi 1)) _ _ s
 rw[HJ lo hi n]
 show wpAny _ _ (pure (((sIx n 0 lo:Nat):Int),(1:Int),Eu ((sIx n 0 lo:Nat):Int) ((sIx n n hi:Nat):Int) 1)) _ _ s
 rw[IJ]
 exact Af h
theorem BN(xs:Array Value)(i k:Nat):((Ay k).filterMap fun(m:Nat)=>xs[((i:Int)+(m:Int)*1).toNat]?).toArray=((xs.toList.drop i).take k).toArray:=by
 have e:(fun(m:Nat)=>xs[((i:Int)+(m:Int)*1).toNat]?)=fun m=>xs[i+m]? :=by
  funext m
  have:((i:Int)+(m:Int)*1).toNat=i+m:=by omega
  rw[this]
 rw[e]
 have:=pick_run xs i k
 rw[List.filterMap_map] at this
 have e2:((fun x=>xs[x]?)∘fun x=>i+x)=fun m=>xs[i+m]? :=rfl
 rw[e2] at this
 rw[this]
theorem SS{t sl:Addr}{items:Array Value}{vl vu:Value}{lo hi:Option Int}{Q:Value->Ad->Prop}(ht:IsTup s.heap t items)(hs:s.heap.IsSliceOf sl vl vu .none)(pl:IsPart vl lo)(pu:IsPart vu hi)
  (hw: ¬(sIx items.size 0 lo=0/\sIx items.size items.size hi=items.size))
  (h:Q (.ref s.heap.objs.size) {s with heap:=s.heap.push {cls:= .type "tuple",data:= .seq ((items.toList.drop (sIx items.size 0 lo)).take (sIx items.size items.size hi - sIx items.size 0 lo)).toArray}})
  (hsz:items.size<=sizeLine):wpAny (model prog w) A (Js (.ref t) (.ref sl)) Q E s:=by
 have cu:sizeOk (.seq ((items.toList.drop (sIx items.size 0 lo)).take (sIx items.size items.size hi - sIx items.size 0 lo)).toArray):=by
  show((items.toList.drop (sIx items.size 0 lo)).take (sIx items.size items.size hi - sIx items.size 0 lo)).toArray.size<=sizeLine
  rw[Ak,Cj,Np,Dh]
  omega
 have hj:sIx items.size items.size hi<=items.size:=zDK _ _ (As _) hi
 obtain⟨os,hos,hcs,hds⟩:=id hs
 have hTs:s.TypeIs (.ref sl) "slice":=⟨os,hos,hcs⟩
 unfold Js
 try with_reducible refine Bo ?_
 first|refine Aa (Af ?_)|skip
 refine Aa (Jk ht.typeIs (by decide) ?_)
 refine Aa (Cy (name:=Az "__getitem__") ht.typeIs Dv
  (Eb Dv ht.typeIs entry_tuple_getitem ?_ (args_tuple_getitem _ _)))
 show wpAny _ _ (Ir (.ref t)>>=_) _ _ s
 refine Aa (tupleItemsOf_ ht ?_)
 refine Aa (Nh hTs ?_)
 rw[if_pos (by decide)]
 refine Aa (XG hs pl pu ?_)
 have hno: ¬((((sIx items.size 0 lo:Nat):Int)==0 && (1:Int)==1 && (sIx items.size items.size hi - sIx items.size 0 lo)==items.size)=true):=by
  intro q
  rw[Ac,Ac] at q
  have q1:((sIx items.size 0 lo:Nat):Int)=0:=eq_of_beq q.1.1
  have q2:sIx items.size items.size hi - sIx items.size 0 lo=items.size:=eq_of_beq q.2
  exact hw ⟨by omega,by omega⟩
 show wpAny _ _ (if(((sIx items.size 0 lo:Nat):Int)==0 && (1:Int)==1 && (sIx items.size items.size hi - sIx items.size 0 lo)==items.size)=true then _ else _) _ _ s
 rw[if_neg hno,BN]
 first
  |exact Aa (m:=Fb _) (Cz (Af ⟨_,rfl,Af h⟩) cu)
  |exact Aa (m:=Fb _) (Cz (Aa (Af (Af ⟨_,rfl,Af h⟩))) cu)
  |exact Aa (Aa (m:=Fb _) (Cz (Af (Af ⟨_,rfl,Af h⟩)) cu))
  |exact Aa (Aa (m:=Fb _) (Cz (Af ⟨_,rfl,Af h⟩) cu))
end
end HT
namespace L2
open PySem PySem.Spec PyProof.Rows
abbrev TO:=St->Hp->(Option Int->Hp->Prop)->Prop
def PO(X:Cx)(e:Option Expr)(t:TO):Prop:=
 ∀(aa:List (Addr×Obj)) (s:Ad) (σ:St) (H:Hp) (Q:Option Int->Hp->Prop),c7 X aa σ H s->t σ H Q→
  wpAny (model X.prog X.w) X.A (evalPart e X.env) (fun u s'=> ∃o H',c7 X aa σ H' s'/\IsPart u o/\Q o H') X.xe s
def zAD:TO:=fun _ H Q=>Q none H
def zG0(t:TE):TO:=fun σ H Q=>t σ H fun x H1=> ∃i,x= .int i/\Q (some i) H1
section
variable{X:Cx}{e:Expr}{te:TE}{lo hi:Option Expr}{tl th:TO}{pos p2:Pos}
theorem zAP:PO X none zAD:=by
 intro aa s σ H Q I h
 rw[evalPart_none]
 exact Af ⟨none,H,I,.none,h⟩
theorem zAO(h:PE X e te):PO X (some e) (zG0 te):=by
 intro aa s σ H Q I hw
 rw[evalPart_some]
 refine aJ (h aa s σ H _ I hw) fun u s1 ⟨x,H1,I1,r1,q1⟩=> ?_
 obtain⟨i,rfl,q⟩:=q1
 obtain⟨t,rfl⟩:=r1
 exact⟨some i,H1,I1,.int i t,q⟩
def SlR(X:Cx)(r:V->Option Int->Option Int->Hp->VK->Prop):Prop:=
 ∀(aa:List (Addr×Obj)) (s:Ad) (σ:St) (H:Hp) (x:V) (v vl vu:Value) (lo hi:Option Int) (sl:Addr) (Q:VK),c7 X aa σ H s->cO x v->s.heap.IsSliceOf sl vl vu .none->IsPart vl lo->IsPart vu hi->r x lo hi H Q→
  ∃T id,typeLookup (.type T) "__getitem__"=pure (some (.builtin id))/\s.TypeIs v T/\wpAny (model X.prog X.w) X.A (Js v (.ref sl)) (EP X aa σ Q) X.xe s
theorem SlR.or{r r':V->Option Int->Option Int->Hp->VK->Prop}(h:SlR X r)(h':SlR X r'):SlR X (fun x lo hi H Q=>r x lo hi H Q∨r' x lo hi H Q):=by
 intro aa s σ H x v vl vu lo hi sl Q I rx hs pl pu q
 rcases q with q|q
 ·exact h aa s σ H x v vl vu lo hi sl Q I rx hs pl pu q
 ·exact h' aa s σ H x v vl vu lo hi sl Q I rx hs pl pu q
def tSl(r:V->Option Int->Option Int->Hp->VK->Prop)(te:TE)(tl th:TO):TE:=fun σ H Q=>te σ H fun x H1=>tl σ H1 fun l H2=>th σ H2 fun u H3=>r x l u H3 Q
theorem BK{r:V->Option Int->Option Int->Hp->VK->Prop}(hr:SlR X r)(he:PE X e te)(hl:PO X lo tl)(hu:PO X hi th):PE X (.Subscript e (.Slice lo hi none p2) pos) (tSl r te tl th):=by
 intro aa s σ H Q I h
 refine Subscript_ (aJ (he aa s σ H _ I h) fun v s1 ⟨x,H1,I1,r1,q1⟩=> ?_)
 refine wpAny_Slice (aJ (hl aa s1 σ H1 _ I1 q1) fun vl s2 ⟨l,H2,I2,pl,q2⟩=>aJ (hu aa s2 σ H2 _ I2 q2) fun vu s3 ⟨u,H3,I3,pu,q3⟩=> ?_)
 rw[evalPart_none]
 refine Af ?_
 have I4:c7 X aa σ H3 {s3 with heap:=s3.heap.push {cls:= .type "slice",data:= .fields #[vl,vu,.none]}}:=I3.kept (t':=s3.toks) fun b ob q=>Ae _ q
 obtain⟨T,id,hT,ht,hg⟩:=hr aa {s3 with heap:=s3.heap.push {cls:= .type "slice",data:= .fields #[vl,vu,.none]}} σ H3 x v vl vu l u s3.heap.objs.size Q I4 r1 (Qs ..) pl pu q3
 show wpAny (model X.prog X.w) X.A (subscriptTail e (.Slice lo hi none p2) v (.ref s3.heap.objs.size)) (EP X aa σ Q) X.xe {s3 with heap:=s3.heap.push {cls:= .type "slice",data:= .fields #[vl,vu,.none]}}
 exact Py (ops:=[.ref s3.heap.objs.size,v]) ht hT hg (by with_unfolding_all rfl)
noncomputable def JT(xs:List V)(lo hi:Option Int):List V:=(xs.drop (HT.sIx xs.length 0 lo)).take (HT.sIx xs.length xs.length hi - HT.sIx xs.length 0 lo)
theorem Q6(xs:List V)(lo hi:Option Int):(JT xs lo hi).length<=xs.length:=by
 unfold JT
 rw[Cj,Np]
 omega
def rSlT(K:Ai):V->Option Int->Option Int->Hp->VK->Prop:=fun x lo hi H Q=> ∃a xs,x= .ref a/\W4 K H a xs∧
 ¬(HT.sIx xs.length 0 lo=0/\HT.sIx xs.length xs.length hi=xs.length)/\ ∀p,H p=none->Q (.ref p) (bL H p (.tup (JT xs lo hi)))
theorem zD8:SlR X (rSlT X.K):=by
 intro aa s σ H x v vl vu lo hi sl Q I rx hs pl pu h
 obtain⟨a,xs,rfl,hx,hw,q⟩:=h
 cases rx
 obtain⟨its,r,ht,hz⟩:=I.tuple hx
 have ah:its.toArray.size=xs.length:=by rw[Ak];exact r.length.symm
 refine⟨"tuple",_,PyProof.Rows.slot_tuple_getitem.lookup,ht.typeIs,?_⟩
 refine HT.SS ht hs pl pu (by rw[ah];exact hw) ?_ (by rw[ah];exact hz)
 rw[ah]
 refine⟨.ref s.heap.objs.size,_,I.laid (t':=s.toks) (o:= .tup (JT xs lo hi)) (fun b ob q=>Ae _ q) (As _) ?_,rfl,q _ (I.hok.fresh (As _))⟩
 exact⟨Dy (Q6 xs lo hi) hz,_,(r.drop (HT.sIx xs.length 0 lo)).take (HT.sIx xs.length xs.length hi - HT.sIx xs.length 0 lo),Kp _ _⟩
theorem cA.nil_iff{xs:List V}{us:List Value}(r:cA xs us):us=[]↔xs=[]:=by
 cases r with
 |nil=>simp
 |cons _ _=>simp
end
noncomputable def LH(n:Nat)(i:Int):Option Nat:=if 0<=i then(if i<n then some i.toNat else none) else if -(n:Int)<=i then some (i+n).toNat else none
noncomputable def RK{α:Type}(xs:List α)(i:Int):Option α:=(LH xs.length i).bind fun j=>xs[j]?
theorem GH{n:Nat}{i:Int}{j:Nat}(h:LH n i=some j):seqIndex? i n=some j/\j<n/\ -(n:Int)<=i/\i<n:=by
 unfold LH at h
 by_cases h0:0<=i
 ·rw[if_pos h0] at h
  by_cases h1:i<n
  ·rw[if_pos h1] at h
   have e:i.toNat=j:=Bb h
   exact⟨by rw[Ow h0 h1,e],by omega,by omega,h1⟩
  ·rw[if_neg h1] at h;cases h
 ·rw[if_neg h0] at h
  by_cases h1: -(n:Int)<=i
  ·rw[if_pos h1] at h
   have e:(i+n).toNat=j:=Bb h
   exact⟨by rw[Ni (by omega) h1,e],by omega,h1,by omega⟩
  ·rw[if_neg h1] at h;cases h
theorem LL{α:Type}{xs:List α}{i:Int}{v:α}(h:RK xs i=some v): ∃j,seqIndex? i xs.length=some j/\xs[j]? =some v/\j<xs.length/\ -(xs.length:Int)<=i/\i<xs.length:=by
 unfold RK at h
 cases e:LH xs.length i with
 |none=>rw[e] at h;cases h
 |some j=>
  rw[e] at h
  obtain⟨h1,h2,h3,h4⟩:=GH e
  exact⟨j,h1,h,h2,h3,h4⟩
def LK(b:Expr):Prop:= ∀o i,subscripted b false o i=operate [o,i] (Js o i)
def DV(X:Cx)(r:R2):Prop:=
 ∀(value slice:Expr) (aa:List (Addr×Obj)) (s:Ad) (σ:St) (H:Hp) (x y:V) (v u:Value) (Q:VK),c7 X aa σ H s->cO x v->cO y u->r x y H Q→
  subscripted slice false v u=operate [v,u] (Js v u)->wpAny (model X.prog X.w) X.A (subscriptTail value slice v u) (EP X aa σ Q) X.xe s
def MtR(X:Cx)(id:String)(r:V->List V->Hp->VK->Prop):Prop:=
 ∀(aa:List (Addr×Obj)) (s:Ad) (σ:St) (H:Hp) (x:V) (xs:List V) (v:Value) (us:List Value) (Q:VK),c7 X aa σ H s->cO x v->cA xs us->r x xs H Q→
  wpAny (model X.prog X.w) X.A (call (.builtin id) (v::us)) (EP X aa σ Q) X.xe s
section
variable{X:Cx}{a b:Expr}{ta tb:TE}{pos:Pos}
theorem DV.or{r r':R2}(h:DV X r)(h':DV X r'):DV X (fun x y H Q=>r x y H Q∨r' x y H Q):=by
 intro value slice aa s σ H x y v u Q I rx ry q hs
 rcases q with q|q
 ·exact h value slice aa s σ H x y v u Q I rx ry q hs
 ·exact h' value slice aa s σ H x y v u Q I rx ry q hs
theorem zGX{r:R2}(hr:DV X r)(ha:PE X a ta)(hb:PE X b tb)(hs:LK b):PE X (.Subscript a b pos) (tOp r ta tb):=by
 intro aa s σ H Q I h
 exact Subscript_ (binT ha hb I h fun v u s2 x y H2 I2 rx ry q=>hr a b aa s2 σ H2 x y v u Q I2 rx ry q (hs _ _))
def rIxL(K:Ai):R2:=fun x y H Q=> ∃p xs i v,x= .ref p/\y= .int i/\YO K H p xs/\RK xs i=some v/\Q v H
def rIxT(K:Ai):R2:=fun x y H Q=> ∃p xs i v,x= .ref p/\y= .int i/\W4 K H p xs/\RK xs i=some v/\Q v H
def rIxS:R2:=fun x y H Q=> ∃z i c,x= .str z/\y= .int i/\z.length<=sizeLine/\RK z.cps.toList i=some c/\Q (.str ⟨#[c]⟩) H
theorem zBE:DV X (rIxL X.K):=by
 intro value slice aa s σ H x y v u Q I rx ry h hs
 obtain⟨p,xs,i,z,rfl,rfl,hq,he,q⟩:=h
 cases rx
 obtain⟨t,rfl⟩:=ry
 obtain⟨its,r,pl,hz⟩:=I.list hq
 obtain⟨j,h1,h2,h3,h4,h5⟩:=LL he
 obtain⟨w,ew,rw'⟩:=r.get h2
 have hl:=r.length
 have hn:=RX
 have fin:EP X aa σ Q w s:=⟨z,H,I,rw',q⟩
 by_cases h0:0<=i
 ·have hj:i.toNat=j:=by
   rw[Ow h0 h5] at h1
   exact Bb h1
  exact item_listR pl.isList h0 (by omega) (by rw[hj];simpa using ew) fin hs
 ·have hj:(i+(its.toArray.size:Int)).toNat=j:=by
   rw[Ni (by omega) h4] at h1
   rw[Ak,<- hl]
   exact Bb h1
  exact Kg (x:=w) pl.isList.typeIs slot_list_getitem.lookup
   (wpAny_getItem_list_neg (Q:=fun r s'=>r=w/\EP X aa σ Q r s') pl.isList (by omega) (by rw[Ak]<;>omega) (by omega) (by rw[hj];simpa using ew) ⟨rfl,fin⟩) hs
theorem zFA:DV X (rIxT X.K):=by
 intro value slice aa s σ H x y v u Q I rx ry h hs
 obtain⟨p,xs,i,z,rfl,rfl,hq,he,q⟩:=h
 cases rx
 obtain⟨t,rfl⟩:=ry
 obtain⟨its,r,pl,hz⟩:=I.tuple hq
 obtain⟨j,h1,h2,h3,h4,h5⟩:=LL he
 obtain⟨w,ew,rw'⟩:=r.get h2
 have hl:=r.length
 have hn:=RX
 have fin:EP X aa σ Q w s:=⟨z,H,I,rw',q⟩
 exact Kg (x:=w) pl.typeIs slot_tuple_getitem.lookup
  (getItem_tuple (j:=j) (Q:=fun r s'=>r=w/\EP X aa σ Q r s') pl (by omega) (by omega) (by rw[Ak,<- hl];exact h1) (by simpa using ew) ⟨rfl,fin⟩) hs
theorem zFB:DV X rIxS:=by
 intro value slice aa s σ H x y v u Q I rx ry h hs
 obtain⟨z,i,c,rfl,rfl,hz,he,q⟩:=h
 obtain⟨t,rfl⟩:=rx
 obtain⟨t',rfl⟩:=ry
 obtain⟨j,h1,h2,h3,h4,h5⟩:=LL he
 have hl:z.cps.toList.length=z.length:=by simp[Str.length]
 rw[hl] at h1 h4 h5
 have hn:=RX
 exact Py (typeIs_str s z t) slot_str_getitem.lookup (getItem_str (c:=c) (by
  have e1:decide (i< -(2 ^ 63:Int))=false:=decide_eq_false (by omega)
  have e2:decide (i≥2 ^ 63)=false:=decide_eq_false (by omega)
  rw[e1,e2,Pz]) (by rw[h1];simpa using h2) ⟨.str ⟨#[c]⟩,H,I.tok _,⟨_,rfl⟩,q⟩) hs
def rIx(K:Ai):R2:=fun x y H Q=>rIxL K x y H Q∨rIxT K x y H Q∨rIxS x y H Q
theorem zFC:DV X (rIx X.K):=zBE.or (zFA.or zFB)
theorem HY(its:List Value)(n j:Nat)(u:Value):Jl (·.setIfInBounds j u) {cls:= .type "list",data:= .seq its.toArray n}={cls:= .type "list",data:= .seq (its.set j u).toArray n}:=by simp[Jl]
theorem c7.lst{aa:List (Addr×Obj)}{σ:St}{H:Hp}{s:Ad}{p:Addr}{xs:List V}(I:c7 X aa σ H s)(h:H p=some (.lst xs)):
  ∃(its:List Value) (n:Nat),cA xs its/\s.heap.get? p=some {cls:= .type "list",data:= .seq its.toArray n}/\xs.length<=sizeLine:=by
 obtain⟨z,its,n,r,e⟩:=I.hok p _ h
 exact⟨its,n,r,e,z⟩
theorem c7.lstUpd{aa:List (Addr×Obj)}{σ:St}{H:Hp}{s:Ad}{p:Addr}{xs ys:List V}{its its':List Value}{n n':Nat}{f:Obj->Obj}(I:c7 X aa σ H s)(h:H p=some (.lst xs))
  (ho:s.heap.get? p=some {cls:= .type "list",data:= .seq its.toArray n}) (hf:f {cls:= .type "list",data:= .seq its.toArray n}={cls:= .type "list",data:= .seq its'.toArray n'}) (r:cA ys its') (hz:ys.length<=sizeLine) (t:Nat):
  c7 X aa σ (bL H p (.lst ys)) {s with heap:=s.heap.update p f,toks:=t}:=by
 have e:(s.heap.update p f).get? p=some {cls:= .type "list",data:= .seq its'.toArray n'}:=by rw[Fo f ho (by rw[hf]<;>rfl),hf]
 refine I.write (x:=p) (e:=p) (by rw[h];trivial) (.inl rfl) (fun b u hb q=>(Dc _ _ (Ee hb)).trans q) ⟨_,e⟩ ?_
 exact⟨hz,its',n',r,e⟩
def zGK:V->V->V->Hp->(Hp->Prop)->Prop:=fun o i v H Q=> ∃p xs k j,o= .ref p/\i= .int k/\H p=some (.lst xs)/\LH xs.length k=some j/\Q (bL H p (.lst (xs.set j v)))
theorem CN:PSet X zGK:=by
 intro aa s σ H o i v ov iv u Q I ro ri rv h
 obtain⟨p,xs,k,j,rfl,rfl,hp,hj,q⟩:=h
 cases ro
 obtain⟨t,rfl⟩:=ri
 obtain⟨its,n,r,ho,hz⟩:=I.lst hp
 obtain⟨h1,h2,h3,h4⟩:=GH hj
 have hl:=r.length
 have hn:=RX
 have I':c7 X aa σ (bL H p (.lst (xs.set j v))) {s with heap:=s.heap.update p (Jl (·.setIfInBounds j u))}:=
  I.lstUpd hp ho (HY its n j u) (r.set rv j) (by rw[Bv];exact hz) s.toks
 by_cases h0:0<=k
 ·have hk:k.toNat=j:=by
   rw[Ow h0 h4] at h1
   exact Bb h1
  exact W.ki_setAt ho h0 (by omega) (by rw[Ak,<- hl];exact h4) (by rw[hk];exact⟨_,I',q⟩)
 ·have hk:(k+(its.toArray.size:Int)).toNat=j:=by
   rw[Ni (by omega) h3] at h1
   rw[Ak,<- hl]
   exact Bb h1
  exact W.ki_setBack ho (by omega) (by rw[Ak,<- hl];exact h3) (by omega) (by rw[hk];exact⟨_,I',q⟩)
theorem MX(lo hi:Option Int)(n:Nat):(He lo hi none n).1=((HT.sIx n 0 lo:Nat):Int)/\(He lo hi none n).2.1=((HT.sIx n n hi:Nat):Int)/\(He lo hi none n).2.2=1:=by
 refine⟨?_,?_,rfl⟩
 ·cases lo with
  |none=>simp[He,HT.sIx]
  |some i=>
   simp only[He,HT.sIx,Nq,show(1:Int)>0 by decide,if_true]
   by_cases h:i<0
   ·simp only[h,if_true]<;>omega
   ·simp only[h,if_false]<;>omega
 ·cases hi with
  |none=>simp[He,HT.sIx]
  |some i=>
   simp only[He,HT.sIx,Nq,show(1:Int)>0 by decide,if_true]
   by_cases h:i<0
   ·simp only[h,if_true]<;>omega
   ·simp only[h,if_false]<;>omega
theorem OR(its:List Value)(lo hi:Option Int):slicePick its.toArray lo hi none=((its.drop (HT.sIx its.length 0 lo)).take (HT.sIx its.length its.length hi - HT.sIx its.length 0 lo)).toArray:=by
 obtain⟨h1,h2,h3⟩:=MX lo hi its.toArray.size
 unfold slicePick
 rw[h1,h2,h3]
 simp only[sliceRange_one,pick_run,Ak]<;>rfl
def rSlL(K:Ai):V->Option Int->Option Int->Hp->VK->Prop:=fun x lo hi H Q=> ∃a xs,x= .ref a/\YO K H a xs/\ ∀p,H p=none->Q (.ref p) (bL H p (.lst (JT xs lo hi)))
theorem zAF:SlR X (rSlL X.K):=by
 intro aa s σ H x v vl vu lo hi sl Q I rx hs pl pu h
 obtain⟨a,xs,rfl,hx,q⟩:=h
 cases rx
 obtain⟨its,r,ht,hz⟩:=I.list hx
 have ah:=r.length
 refine⟨"list",_,slot_list_getitem.lookup,ht.isList.typeIs,?_⟩
 refine wpAny_getItem_list_slice ht.isList hs pl pu .none (by simp) ?_ (by rw[Ak]<;>omega)
 rw[OR,<- ah]
 refine⟨.ref s.heap.objs.size,_,I.laid (t':=s.toks) (o:= .lst (JT xs lo hi)) (fun b ob q=>Ae _ q) (As _) ?_,rfl,q _ (I.hok.fresh (As _))⟩
 exact⟨Dy (Q6 xs lo hi) hz,_,0,(r.drop (HT.sIx xs.length 0 lo)).take (HT.sIx xs.length xs.length hi - HT.sIx xs.length 0 lo),At _ rfl⟩
theorem LQ:aL X (.builtin "len") (fun xs H Q=> ∃p ys,xs=[.ref p]/\(YO X.K H p ys∨W4 X.K H p ys)/\Q (.int ys.length) H):=by
 intro aa s σ H xs us Q I r h
 obtain⟨p,ys,rfl,hq,q⟩:=h
 obtain⟨u,rfl,rx⟩:=QC r
 cases rx
 have hn:=RX
 rcases hq with hq|hq
 ·obtain⟨its,r',pl,hz⟩:=I.list hq
  have ah:=r'.length
  exact Calls.call_len_list pl.isList (by simp only[Ak]<;>omega) ⟨.int ys.length,H,I.tok _,⟨s.toks+1,by rw[Ak,ah]⟩,q⟩
 ·obtain⟨its,r',pl,hz⟩:=I.tuple hq
  have ah:=r'.length
  exact len_tuple pl (by simp only[Ak]<;>omega) ⟨.int ys.length,H,I.tok _,⟨s.toks+1,by rw[Ak,ah]⟩,q⟩
theorem LS:aL X (.builtin "len") (fun xs H Q=> ∃z,xs=[.str z]/\z.length<=sizeLine/\Q (.int z.length) H):=by
 intro aa s σ H xs us Q I r h
 obtain⟨z,rfl,hz,q⟩:=h
 obtain⟨u,rfl,t,rfl⟩:=QC r
 have hn:=RX
 exact len_str (by omega) ⟨.int z.length,H,I.tok _,⟨_,rfl⟩,q⟩
theorem aL.or{f:Value}{r r':List V->Hp->VK->Prop}(h:aL X f r)(h':aL X f r'):aL X f (fun xs H Q=>r xs H Q∨r' xs H Q):=by
 intro aa s σ H xs us Q I rs q
 rcases q with q|q
 ·exact h aa s σ H xs us Q I rs q
 ·exact h' aa s σ H xs us Q I rs q
theorem LU:aL X (.type "list") (fun xs H Q=> ∃p ys,xs=[.ref p]/\(YO X.K H p ys∨W4 X.K H p ys)/\ ∀l,H l=none->Q (.ref l) (bL H l (.lst ys))):=by
 intro aa s σ H xs us Q I r h
 obtain⟨p,ys,rfl,hq,q⟩:=h
 obtain⟨u,rfl,rx⟩:=QC r
 cases rx
 have fin: ∀(its:List Value),cA ys its->ys.length<=sizeLine-> ∀(h':Heap) (c':Nat),(∀b o',s.heap.get? b=some o'->h'.get? b=some o')→
   h'.get? s.heap.objs.size=some {cls:= .type "list",dict:=none,data:= .seq its.toArray c',slots:= #[]}->EP X aa σ Q (.ref s.heap.objs.size) {s with heap:=h'}:=fun its r' hz h' c' kp e=>
  ⟨.ref s.heap.objs.size,_,I.laid (t':=s.toks) kp (As _) (show aR X.prog X.w _ h' _ (.lst ys) from⟨hz,its,c',r',e⟩),rfl,q _ (I.hok.fresh (As _))⟩
 rcases hq with hq|hq
 ·obtain⟨its,r',pl,hz⟩:=I.list hq
  have ah:=r'.length
  obtain⟨o,ho,hc,n,hd⟩:=pl.isList
  exact call_list_seq p (.inl rfl) ho hc hd (fun h' c' kp e=>fin its r' hz h' c' kp e) (by simp only[Ak]<;>omega)
 ·obtain⟨its,r',pl,hz⟩:=I.tuple hq
  have ah:=r'.length
  obtain⟨o,ho,hc,n,hd⟩:=pl
  exact call_list_seq p (.inr rfl) ho hc hd (fun h' c' kp e=>fin its r' hz h' c' kp e) (by simp only[Ak]<;>omega)
theorem OI:aL X (.type "tuple") (fun xs H Q=> ∃p ys,xs=[.ref p]/\((YO X.K H p ys/\ ∀l,H l=none->Q (.ref l) (bL H l (.tup ys)))∨(W4 X.K H p ys/\Q (.ref p) H))):=by
 intro aa s σ H xs us Q I r h
 obtain⟨p,ys,rfl,h⟩:=h
 obtain⟨u,rfl,rx⟩:=QC r
 cases rx
 rcases h with⟨hq,q⟩|⟨hq,q⟩
 ·obtain⟨its,r',pl,hz⟩:=I.list hq
  have ah:=r'.length
  refine call_tuple_list pl.isList (fun h' kp=> ?_) (by simp only[Ak]<;>omega)
  have I1:c7 X aa σ H {s with heap:=h'}:=I.kept (t':=s.toks) kp
  have I2:c7 X aa σ (bL H h'.objs.size (.tup ys)) {s with heap:=h'.push {cls:= .type "tuple",data:= .seq its.toArray}}:=
   I1.laid (t':=s.toks) (fun b o e=>Ae _ e) (As _) (show aR X.prog X.w _ _ _ (.tup ys) from⟨hz,its,r',Kp _ _⟩)
  exact⟨.ref h'.objs.size,_,I2,rfl,q _ (I1.hok.fresh (As _))⟩
 ·obtain⟨its,r',pl,hz⟩:=I.tuple hq
  exact call_tuple_same pl ⟨.ref p,H,I,rfl,q⟩
def tyV(K:Ai)(T:String)(x:V)(H:Hp):Prop:=match x with
 | .str _ => T = "str"
 | .int _ => T = "int"
 | .ref p => (T = "list" /\ ∃ xs,YO K H p xs) ∨ (T = "tuple" /\ ∃ o,K.lookup p = some o /\ o.cls = .type "tuple" /\ o.dict = none) ∨
   (T= "dict" /\((∃kvs,H p=some (.dK kvs))∨ ∃kvs,H p=some (.dT kvs)))∨(T= "set" /\ ∃S n,H p=some (.set S n))
 |_=>False
theorem zCZ{aa:List (Addr×Obj)}{σ:St}{H:Hp}{s:Ad}{T:String}{x:V}{v:Value}(I:c7 X aa σ H s)(r:cO x v)(ty:tyV X.K T x H):
  s.TypeIs v T/\ ∀a,v= .ref a-> ∃ob,s.heap.get? a=some ob/\ob.dict=none:=by
 cases x with
 |str z=>
  obtain⟨t,rfl⟩:=r
  cases (show T= "str" from ty)
  exact⟨typeIs_str s z t,fun _ e=>nomatch e⟩
 |int i=>
  obtain⟨t,rfl⟩:=r
  cases (show T= "int" from ty)
  exact⟨Le s i t,fun _ e=>nomatch e⟩
 |ref p=>
  cases r
  rcases ty with⟨rfl,xs,hq⟩|⟨rfl,o,hk,hc,hd⟩|⟨rfl,hk⟩|⟨rfl,S,n,hk⟩
  ·obtain⟨its,_,pl,_⟩:=I.list hq
   refine⟨pl.isList.typeIs,fun a e=> ?_⟩
   cases e
   obtain⟨o,n,e,c,hd,_⟩:=pl
   exact⟨o,e,hd⟩
  ·refine ⟨⟨o,I.kIn p o hk,hc⟩,fun a e => ?_⟩
   cases e
   exact⟨o,I.kIn _ o hk,hd⟩
  ·have z: ∃o,s.heap.get? p=some o/\o.ExactDict:=by
    rcases hk with⟨kvs,hk⟩|⟨kvs,hk⟩
    ·obtain⟨_,_,_,_,o,_,_,e,ex,_⟩:=I.hok p _ hk
     exact⟨o,e,ex⟩
    ·obtain⟨_,_,_,_,o,_,_,e,ex,_⟩:=I.hok p _ hk
     exact⟨o,e,ex⟩
   obtain⟨o,e,ex⟩:=z
   refine⟨⟨o,e,ex.1⟩,fun a e2=> ?_⟩
   cases e2
   exact⟨o,e,ex.2.1⟩
  ·obtain⟨o,_,_,_,e,ex,_⟩:=I.hok p _ hk
   refine⟨⟨o,e,ex.1⟩,fun a e2=> ?_⟩
   cases e2
   exact⟨o,e,ex.2.1⟩
 |_=>exact Fg ty
def tBM(K:Ai)(T:String)(r:V->List V->Hp->VK->Prop)(to:TE)(t:TA):TE:=fun σ H Q=>to σ H fun x H1=>tyV K T x H1/\t σ H1 fun xs H2=>r x xs H2 Q
variable{o e:Expr}{es:List Expr}{to:TE}{t:TA}{name:Str}{ai ae:Pos}{T id:String}{r:V->List V->Hp->VK->Prop}
theorem zGY(pa:PlainAttrs T)(slot:Slot T name id)(hty:Nj (.builtin id)=pure (.type "method_descriptor")) (hm:MtR X id r) (ho:PE X o to) (ha:PA X (e::es) t)
  (cf : Fu o name X.env (eval o X.env) = eval o X.env := by rfl)
  (dq : ((Dq ae (starEach (e :: es) X.env)).all (fun x => !x.1) && (Er ae (Cr [] X.env)).all (fun x => x.1.isSome)
   && decide ((e::es).length+([]:List Ge).length+(if([]:List Ge).isEmpty then 0 else 1)<30))=true:=by rfl)
  (cb:(ai.endLine==ae.line)=true:=by rfl) (hs:starEach (e::es) X.env=(false,eval e X.env)::starEach es X.env:=by rfl) (bj:(Dq ae (starEach es X.env)).any (·.1)=false:=by rfl):
  PE X (.Call (.Attribute o name ai) (e::es) [] ae) (tBM X.K T r to t):=by
 intro aa s σ H Q I h
 refine wpAny_Call_method_late cf dq cb rfl (aJ (ho aa s σ H _ I h) fun v s1 ⟨x,H1,I1,r1,ty,q1⟩=> ?_)
 obtain⟨h1,h2⟩:=zCZ I1 r1 ty
 refine⟨T,id,pa,slot,hty,h1,h2,?_⟩
 have hA:=ha ae aa s1 σ H1 _ I1 q1
 rw[hs] at hA⊢
 refine Fh (by show(false || (Dq ae (starEach es X.env)).any (·.1))=false;rw[bj]<;>rfl) (Ey ?_)
 exact aJ hA fun us s2 ⟨vs,H2,I2,r2,q2⟩=>hm aa s2 σ H2 x vs v us Q I2 r1 r2 q2
end
def MtM(X:Cx)(id:String)(r:V->List V->Hp->VK->Prop):Prop:=
 ∀(aa:List (Addr×Obj)) (s:Ad) (σ:St) (H:Hp) (x:V) (xs:List V) (v:Value) (us:List Value) (Q:VK),c7 X aa σ H s->cO x v->cA xs us->r x xs H Q→
  wpAny (model X.prog X.w) X.A (call (.builtin id) (v::us)) (EP X aa σ Q) X.xe s
theorem cA.one: ∀{x:V} {us:List Value},cA [x] us-> ∃u,us=[u]/\cO x u
 |_,_,.cons r .nil=>⟨_,rfl,r⟩
section
variable{X:Cx}{aa:List (Addr×Obj)}{σ:St}{H:Hp}{s:Ad}{l b:Addr}{xs ys zs:List V}
theorem c7.lset{its its':List Value}{n:Nat}{f:Array Value->Array Value}{t':Nat}(I:c7 X aa σ H s)(hH:H l=some (.lst xs))
  (e:s.heap.get? l=some {cls:= .type "list",data:= .seq its.toArray n}) (hf:f its.toArray=its'.toArray) (hv:cA ys its') (hz:ys.length<=sizeLine):
  c7 X aa σ (bL H l (.lst ys)) {s with heap:=s.heap.update l (Jl f),toks:=t'}:=by
 have q:=PySem.IsL.update e f
 rw[hf] at q
 refine I.write (x:=l) (e:=l) (by rw[hH];exact trivial) (.inl rfl) (fun b' u hb hu=>(Dc s.heap (Jl f) (Ee hb)).trans hu) ⟨_,q⟩ ?_
 exact⟨hz,its',_,hv,q⟩
theorem c7.lnew{its:List Value}{t':Nat}(I:c7 X aa σ H s)(hv:cA ys its)(hz:ys.length<=sizeLine):
  c7 X aa σ (bL H s.heap.objs.size (.lst ys)) {s with heap:=s.heap.push {cls:= .type "list",data:= .seq its.toArray},toks:=t'}:=
 I.laid (fun _ _ q=>Ae _ q) (As _) ⟨hz,its,0,hv,At _ rfl⟩
theorem c7.fresh(I:c7 X aa σ H s):H s.heap.objs.size=none:=I.hok.fresh (As _)
theorem c7.lstM(I:c7 X aa σ H s)(hH:H l=some (.lst xs)):xs.length<=sizeLine/\ ∃(its:List Value) (n:Nat),cA xs its/\xs.length=its.length/\s.heap.get? l=some {cls:= .type "list",data:= .seq its.toArray n}:=by
 obtain⟨z,its,n,r,e⟩:=I.hok l _ hH
 exact⟨z,its,n,r,r.length,e⟩
theorem AT{n:Nat}(h:n<=sizeLine):Fc n=false:=by
 unfold Fc
 exact decide_eq_false (by omega)
end
section
variable{X:Cx}
def G3:V->List V->Hp->VK->Prop:=fun x vs H Q=> ∃l xs y,x= .ref l/\vs=[y]/\H l=some (.lst xs)/\xs.length<sizeLine/\Q .non (bL H l (.lst (xs++[y])))
theorem aY:MtM X "list.append" G3:=by
 intro aa s σ H x vs v us Q I rx rv h
 obtain⟨l,xs,y,rfl,rfl,hH,hz,q⟩:=h
 cases rx
 obtain⟨u,rfl,ru⟩:=rv.one
 obtain⟨z,its,n,r,hl,e⟩:=I.lstM hH
 refine Fv F.slot_list_append ⟨_,e,rfl⟩ F.entry_list_append (F.args_list_append_2 _ _) (PySem.list_append l its.toArray n u (by rw[Ak];omega)) ⟨e,?_⟩
 refine⟨.non,_,I.lset (its':=its++[u]) hH e (by simp) (r.append (.cons ru .nil)) ?_,rfl,q⟩
 rw[Cg,Kq]
 omega
end
section
variable{prog:Au}{w:World}{A:Bx}{E:Value->Ad->Prop}{s:Ad}
set_option maxRecDepth 100000 in
end
section
variable{κ:Type}[DecidableEq κ]
noncomputable def SE(kvs:List (κ×V))(k:κ):Option V:=(kvs.find? fun kv=>decide (kv.1=k)).map (·.2)
noncomputable def XD(kvs:List (κ×V))(k:κ)(v:V):List (κ×V):=
 if(kvs.any fun kv=>decide (kv.1=k))=true then kvs.map (fun kv=>if kv.1=k then(kv.1,v) else kv) else kvs++[(k,v)]
theorem TU{p:κ×V}{r:List (κ×V)}{k:κ}(e:p.1=k):SE (p::r) k=some p.2:=by simp[SE,Fp,e]
theorem V8{p:κ×V}{r:List (κ×V)}{k:κ}(e: ¬p.1=k):SE (p::r) k=SE r k:=by simp[SE,Fp,e]
theorem K4(k:κ): ∀kvs:List (κ×V),(kvs.any fun kv=>decide (kv.1=k))=(SE kvs k).isSome
 |[]=>rfl
 |p::r=>by
  rw[Jt]
  by_cases e:p.1=k
  ·simp only[TU e,decide_eq_true e,Bool.true_or,Me]
  ·rw[V8 e,decide_eq_false e,Qa];exact K4 k r
theorem RA(kvs:List (κ×V))(k:κ)(v:V):(XD kvs k v).length<=kvs.length+1:=by
 unfold XD
 split
 ·rw[De];omega
 ·rw[Cg,Dg,Ia];omega
theorem RJ.isSome_eq{o:Option V}{u:Option Value}(r:RJ o u):o.isSome=u.isSome:=by
 cases o with
 |none=>cases u with
  |none=>rfl
  |some _=>exact(show False from r).elim
 |some _=>cases u with
  |none=>exact(show False from r).elim
  |some _=>rfl
theorem RJ.getD{o:Option V}{u:Option Value}{d:V}{d':Value}(r:RJ o u)(rd:cO d d'):cO (o.getD d) (u.getD d'):=by
 cases o with
 |none=>cases u with
  |none=>exact rd
  |some _=>exact(show False from r).elim
 |some _=>cases u with
  |none=>exact(show False from r).elim
  |some _=>exact r
theorem KV.val{kvs:List (κ×V)}{vs:List (κ×Value)}(r:KV kvs vs)(k:κ):RJ (SE kvs k) (Ms vs k):=by
 unfold KV at r
 induction r with
 | nil => exact True.intro
 | @cons p q ps qs h t ih=>
  obtain⟨h1,h2⟩:=h
  by_cases e:p.1=k
  ·have e':q.1=k:=h1.symm.trans e
   have b:Ms (q::qs) k=some q.2:=by simp[Ms,Fp,e']
   rw[TU e,b];exact h2
  ·have e' : ¬ q.1 = k := fun z => e (h1.trans z)
   have b:Ms (q::qs) k=Ms qs k:=by simp[Ms,Fp,e']
   rw[V8 e,b];exact ih
theorem KV.any{kvs:List (κ×V)}{vs:List (κ×Value)}(r:KV kvs vs)(k:κ):(kvs.any fun kv=>decide (kv.1=k))=vs.any fun kv=>decide (kv.1=k):=by
 unfold KV at r
 induction r with
 |nil=>rfl
 |cons h t ih=>rw[Jt,Jt,ih,h.1]
theorem KV.repl{kvs:List (κ×V)}{vs:List (κ×Value)}(r:KV kvs vs)(k:κ){y:V}{u:Value}(ry:cO y u):
  KV (kvs.map fun kv=>if kv.1=k then(kv.1,y) else kv) (vs.map fun kv=>if kv.1=k then(kv.1,u) else kv):=by
 unfold KV at r⊢
 induction r with
 |nil=>exact .nil
 | @cons p q ps qs h t ih=>
  rw[Cq,Cq]
  refine .cons ?_ ih
  obtain⟨h1,h2⟩:=h
  by_cases e:p.1=k
  ·rw[if_pos e,if_pos (h1.symm.trans e)];exact⟨h1,ry⟩
  ·rw[if_neg e,if_neg (fun z=>e (h1.trans z))];exact⟨h1,h2⟩
theorem KV.put{kvs:List (κ×V)}{vs:List (κ×Value)}(r:KV kvs vs)(k:κ){y:V}{u:Value}(ry:cO y u):KV (XD kvs k y) (stored vs k u):=by
 unfold XD stored
 rw[r.any k]
 by_cases e:(vs.any fun kv=>decide (kv.1=k))=true
 ·rw[if_pos e,if_pos e];exact r.repl k ry
 ·rw[if_neg e,if_neg e];exact Qo r ⟨rfl,ry⟩
theorem KV.length{kvs:List (κ×V)}{vs:List (κ×Value)}(r:KV kvs vs):kvs.length=vs.length:=Ly r
end
theorem J5{P:Au}{w:World}{k:aF}{u:Value}(r:cO (kV k) u):(aT P w).is k u=true:=by
 cases k with
 |inl i=>obtain⟨t,e⟩:=(show∃t,u=Om i t from r);subst e;exact KC P w i t
 |inr x=>obtain⟨t,e⟩:=(show∃t,u=Oo x t from r);subst e;exact KD P w x t
theorem NR{P:Au}{w:World}: ∀{ks:List aF} {us:List Value},cA (ks.map kV) us->ItemsAre (aT P w) ks us
 |[],_,r=>by rw[Hj] at r;cases r;exact .nil
 |k::ks,_,r=>by
  rw[Cq] at r
  cases r with
  |cons h t=>exact .cons (J5 h) (NR t)
abbrev KT(H:Hp):List (List aF×V)->List (List aF×Addr×Value)->Prop:=Paired fun p q=>p.1=q.1/\H q.2.1=some (.tup (p.1.map kV))/\cO p.2 q.2.2
theorem KT.val{H:Hp}{kvs:List (List aF×V)}{xs:List (List aF×Addr×Value)}(r:KT H kvs xs)(k:List aF):RJ (SE kvs k) ((atKey xs k).map (·.2)):=by
 induction r with
 | nil => exact True.intro
 | @cons p q ps qs h t ih=>
  obtain⟨h1,_,h2⟩:=h
  by_cases e:p.1=k
  ·have e':q.1=k:=h1.symm.trans e
   have b:atKey (q::qs) k=some q.2:=by simp[atKey,Fp,e']
   rw[TU e,b];exact h2
  ·have e' : ¬ q.1 = k := fun z => e (h1.trans z)
   have b:atKey (q::qs) k=atKey qs k:=by simp[atKey,Fp,e']
   rw[V8 e,b];exact ih
theorem KT.repl{H:Hp}{kvs:List (List aF×V)}{xs:List (List aF×Addr×Value)}(r:KT H kvs xs)(k:List aF){y:V}{u:Value}(ry:cO y u):
  KT H (kvs.map fun kv=>if kv.1=k then(kv.1,y) else kv) (xs.map (putAt k u)):=by
 induction r with
 |nil=>exact .nil
 | @cons p q ps qs h t ih=>
  rw[Cq,Cq]
  refine .cons ?_ ih
  obtain⟨h1,h2,h3⟩:=h
  unfold putAt
  by_cases e:p.1=k
  ·rw[if_pos e,if_pos (h1.symm.trans e)];exact⟨h1,h2,ry⟩
  ·rw[if_neg e,if_neg (fun z=>e (h1.trans z))];exact⟨h1,h2,h3⟩
theorem KT.put{H:Hp}{kvs:List (List aF×V)}{xs:List (List aF×Addr×Value)}(r:KT H kvs xs)(k:List aF){b:Addr}{y:V}{u:Value}(hb:H b=some (.tup (k.map kV)))(ry:cO y u):
  KT H (XD kvs k y) (storedH xs k b u):=by
 have e:(kvs.any fun kv=>decide (kv.1=k))=(atKey xs k).isSome:=by rw[K4,(r.val k).isSome_eq,Option.isSome_map]
 unfold XD storedH
 rw[e]
 by_cases q:(atKey xs k).isSome=true
 ·rw[if_pos q,if_pos q];exact r.repl k ry
 ·rw[if_neg q,if_neg q];exact Qo r ⟨rfl,hb,ry⟩
theorem KT.keeps{H H':Hp}{kvs:List (List aF×V)}{xs:List (List aF×Addr×Value)}(r:KT H kvs xs)(ht: ∀b ys,H b=some (.tup ys)->H' b=some (.tup ys)):KT H' kvs xs:=
 Paired.mapP r fun _ _ z=>⟨z.1,ht _ _ z.2.1,z.2.2⟩
section
variable{P:Au}{w:World}{H:Hp}{h:Heap}{a:Addr}
theorem zC0{u:HO}(ok:U2 P w H h)(e:Rd H a u):aR P w H h a u:=e.ok ok
theorem NH{kvs:List (aF×V)}(ok:U2 P w H h)(e:Rd H a (.dK kvs)):kvs.length<=sizeLine/\(a==Ez)=false/\ ∃vs,KV kvs vs/\h.DictOf (aT P w) a vs:=
 show aR P w H h a (.dK kvs) from zC0 ok e
theorem zI5{kvs:List (aF×V)}(ok:U2 P w H h)(e:H a=some (.dK kvs)):kvs.length<=sizeLine/\(a==Ez)=false/\ ∃vs,KV kvs vs/\h.DictOf (aT P w) a vs:=NH ok (.inl e)
theorem PY{ks:List aF}(ok:U2 P w H h)(e:H a=some (.tup (ks.map kV))):(tupleKind (aT P w)).is h ks a:=by
 obtain⟨_,its,r,o,h1,h2,n,h3⟩:=(show aR P w H h a (.tup (ks.map kV)) from ok a _ e)
 exact⟨o,its.toArray,n,h1,h2,h3,by simpa using NR r⟩
theorem NK{kvs:List (List aF×V)}(ok:U2 P w H h)(e:Rd H a (.dT kvs)):kvs.length<=sizeLine/\(a==Ez)=false∧
  ∃xs,KT H kvs xs/\h.DictOfH (tupleKind (aT P w)) a xs:=by
 obtain⟨z,y,xs,r,o,es,ep,h1,h2,h3,h4,h5⟩:=(show aR P w H h a (.dT kvs) from zC0 ok e)
 refine⟨z,y,xs,r,o,es,ep,h1,h2,h3,h4,fun x hx=> ?_,h5⟩
 have all: ∀{l:List (List aF×V)} {m:List (List aF×Addr×Value)},KT H l m-> ∀x∈m,(tupleKind (aT P w)).is h x.1 x.2.1:=by
  intro l m q
  induction q with
  | nil => intro x hx;exact nomatch hx
  | @cons p q ps qs hq t ih=>
   intro x hx
   rcases Ao.mp hx with e|hx
   ·subst e
    exact PY ok (by rw[<- hq.1];exact hq.2.1)
   ·exact ih x hx
 exact all r x hx
theorem zI4{kvs:List (List aF×V)}(ok:U2 P w H h)(e:H a=some (.dT kvs)):kvs.length<=sizeLine/\(a==Ez)=false∧
  ∃xs,KT H kvs xs/\h.DictOfH (tupleKind (aT P w)) a xs:=NK ok (.inl e)
end
def RH(H:Hp)(a:Addr)(y:V)(r:Option V):Prop:=
 (∃kvs k,Rd H a (.dK kvs)/\y=kV k/\r=SE kvs k)∨ ∃kvs k b,Rd H a (.dT kvs)/\y= .ref b/\H b=some (.tup (k.map kV))/\r=SE kvs k
def DPut(H:Hp)(a:Addr)(y v:V)(H':Hp):Prop:=
 (∃kvs k,H a=some (.dK kvs)/\y=kV k/\kvs.length<sizeLine/\H'=bL H a (.dK (XD kvs k v)))∨
 ∃kvs k b,H a=some (.dT kvs)/\y= .ref b/\H b=some (.tup (k.map kV))/\kvs.length<sizeLine/\H'=bL H a (.dT (XD kvs k v))
theorem RH.k{H:Hp}{a:Addr}{kvs:List (aF×V)}{k:aF}(e:H a=some (.dK kvs)):RH H a (kV k) (SE kvs k):= .inl ⟨kvs,k,.inl e,rfl,rfl⟩
theorem DPut.k{H:Hp}{a:Addr}{kvs:List (aF×V)}{k:aF}{v:V}(e:H a=some (.dK kvs))(hl:kvs.length<sizeLine):DPut H a (kV k) v (bL H a (.dK (XD kvs k v))):= .inl ⟨kvs,k,e,rfl,hl,rfl⟩
section
variable{X:Cx}{aa:List (Addr×Obj)}{σ:St}{H:Hp}{s:Ad}{a:Addr}{y v:V}{u r:Value}{o:Option V}{A:Bx}{E:Value->Ad->Prop}
theorem c7.big(I:c7 X aa σ H s):Ez<s.heap.objs.size:=by
 have h:mainGlobals<s.heap.objs.size:=(I.mod.glob.keeps I.bk).lt
 exact Nat.lt_trans (by decide) h
theorem EG{Q:Value->Ad->Prop}(hu:A.units+1<cLine)(I:c7 X aa σ H s)(g:RH H a y (some v))(ry:cO y u)(h: ∀w' s',c7 X aa σ H s'->cO v w'->Q w' s'):
  wpAny (model X.prog X.w) A (Js (.ref a) u) Q E s:=by
 rcases g with⟨kvs,k,e,ey,l⟩|⟨kvs,k,b,e,ey,eb,l⟩
 ·subst ey
  obtain⟨z,hd,vs,rel,dd⟩:=NH I.hok e
  obtain⟨w',hw,rw'⟩:=RJ.some_of (v:=v) (o:=Ms vs k) (by rw[l];exact rel.val k)
  exact wpAny_getItem_of (J5 ry) dd.mapOf hw (h w' _ (I.tok _) rw')
 ·subst ey
  cases (show u=Bj b from ry)
  obtain⟨z,hd,xs,rel,dd⟩:=NK I.hok e
  obtain⟨w',hw,rw'⟩:=RJ.some_of (v:=v) (o:=(atKey xs k).map (·.2)) (by rw[l];exact rel.val k)
  obtain⟨p,hp,hp2⟩:=Option.map_eq_some_iff.mp hw
  refine wpAny_getItem_heap (Gr hu) (PY I.hok eb) dd hp ?_
  rw[hp2]
  exact h w' _ (I.tok _) rw'
theorem GA{h':Heap}{t':Nat}{ob:HO}(I:c7 X aa σ H s)(mu:Mut (H a))(hs:Ef a s.heap h')(he: ∃q,h'.get? a=some q)(new:aR X.prog X.w (bL H a ob) h' a ob):
  c7 X aa σ (bL H a ob) {s with heap:=h',toks:=t'}:=
 I.write (x:=a) (e:=a) mu (.inl rfl) (fun b q hb z=>(hs.2 b hb).trans z) he new
theorem zFJ{P:Au}{w:World}{H':Hp}{h':Heap}{kvs:List (aF×V)}{vs:List (aF×Value)}(z:kvs.length<=sizeLine)(hd:(a==Ez)=false)(rel:KV kvs vs)(dd:h'.DictOf (aT P w) a vs):
  aR P w H' h' a (.dK kvs):=⟨z,hd,vs,rel,dd⟩
theorem EH{H':Hp}{Q:Unit->Ad->Prop}(hu:A.units+1<cLine)(I:c7 X aa σ H s)(g:DPut H a y v H')(ry:cO y u)(rv:cO v r)(h: ∀s',c7 X aa σ H' s'->Q () s'):
  wpAny (model X.prog X.w) A (setItem (.ref a) u r) Q E s:=by
 rcases g with⟨kvs,k,e,ey,l,eH⟩|⟨kvs,k,b,e,ey,eb,l,eH⟩
 ·subst ey eH
  obtain⟨z,hd,vs,rel,dd⟩:=zI5 I.hok e
  have hz:vs.length<=sizeLine:=by rw[<- rel.length];exact z
  have hl:(XD kvs k v).length<=sizeLine:=by have:=RA kvs k v;omega
  refine wpAny_setItem_pairs (hsz:=hz) (J5 ry) dd fun h' dd' hs=>h _ ?_
  have he: ∃q,h'.get? a=some q:=let ⟨q,_,_,hq,_⟩:=dd';⟨q,hq⟩
  exact GA I (by rw[e];exact True.intro) hs he (zFJ hl hd (rel.put k rv) dd')
 ·subst ey eH
  cases (show u=Bj b from ry)
  obtain⟨z,hd,xs,rel,dd⟩:=zI4 I.hok e
  have hz:xs.length<=sizeLine:=by rw[<- Ly rel];exact z
  have hl:(XD kvs k v).length<=sizeLine:=by have:=RA kvs k v;omega
  refine wpAny_setItem_heap (hsz:=hz) (Gr hu) (PY I.hok eb) dd fun h' dd' hs=>h _ ?_
  obtain⟨q,es,ep,hq,h2,h3,h4,_,h5⟩:=dd'
  refine GA I (by rw[e];exact True.intro) hs ⟨q,hq⟩ ⟨hl,hd,_,(rel.put k eb rv).keeps fun c ys ec=> ?_,q,es,ep,hq,h2,h3,h4,h5⟩
  rw[cH (zHC ec e (fun z=>nomatch z))]
  exact ec
end
theorem JU{X:Cx}{aa:List (Addr×Obj)}{σ:St}{H:Hp}{s:Ad}{a:Addr}{y:V}{o:Option V}(I:c7 X aa σ H s)(g:RH H a y o):s.TypeIs (.ref a) "dict":=by
 rcases g with⟨kvs,k,e,_,_⟩|⟨kvs,k,b,e,_,_,_⟩
 ·obtain⟨_,_,vs,_,dd⟩:=NH I.hok e
  exact dd.typeIs
 ·obtain⟨_,_,xs,_,dd⟩:=NK I.hok e
  exact dd.typeIs
def zGJ(td ty tv:TE):TS:=fun D σ H=>tv σ H fun v H1=>td σ H1 fun x H2=>ty σ H2 fun y H3=> ∃a H4,x= .ref a/\DPut H3 a y v H4/\D.nx σ H4
section
variable{X:Cx}{o i e value:Expr}{pos bh eo:Pos}{td ty tv:TE}
theorem zAN(hu:X.A.units+1<cLine)(ho:PE X o td)(hi:PE X i ty)(hv:PE X value tv)(hs:Fm value (some (.Subscript o i bh)) pos.line X.env=pure false):
  PS X (.Assign [.Subscript o i bh] value pos) (zGJ td ty tv):=by
 intro aa s σ H D I h
 refine wpAny_Assign_Subscript (aJ (hv aa s σ H _ I h) fun r s1 ⟨v,H1,I1,rv,q1⟩=>aJ (ho aa s1 σ H1 _ I1 q1) fun u s2 ⟨x,H2,I2,rx,q2⟩=>aJ (hi aa s2 σ H2 _ I2 q2) fun iv s3 ⟨y,H3,I3,ry,a,H4,ex,g,q3⟩=> ?_) hs
 subst ex
 obtain rfl:u=Bj a:=rx
 exact EH hu I3 g ry rv fun s4 I4=>⟨σ,H4,I4,q3⟩
end
theorem AG{P:Au}{w:World}{H:Hp}(h:Heap)(hb:Ez<h.objs.size):aR P w H (h.push {cls:= .type "dict",data:= .dict #[]}) h.objs.size (.dK []):=
 ⟨Ek _,beq_eq_false_iff_ne.mpr (Ee (Be hb)),[],.nil,Heap.DictOf.new h⟩
def zD5:TE:=fun _ H Q=> ∀p,H p=none->Q (.ref p) (bL H p (.dK []))
section
variable{X:Cx}{pos:Pos}
theorem BG:PE X (.Dict [] [] pos) zD5:=fun aa s σ H Q I h=>
 wpAny_Dict_empty ⟨.ref s.heap.objs.size,_,I.laid (a:=s.heap.objs.size) (o:= .dK []) (t':=s.toks) (fun _ _ q=>Ae _ q) (As _) (AG s.heap I.big),rfl,h _ (I.hok.fresh (As _))⟩
end
structure M1(X:Cx)(o:Expr)(m:Str)(ai:Pos)(e:Expr)(ae:Pos):Prop where
 base:Fu o m X.env (eval o X.env)=eval o X.env
 few:((Dq ae (starEach [e] X.env)).all (fun x=> !x.1) && (Er ae (Cr [] X.env)).all (fun x=>x.1.isSome)
  && decide (([e]:List Expr).length+([]:List Ge).length+(if([]:List Ge).isEmpty then 0 else 1)<30))=true
 line:(ai.endLine==ae.line)=true
 trees:Dq ae (starEach [e] X.env)=[(false,eval e X.env)]
structure M2(X:Cx)(o:Expr)(m:Str)(ai:Pos)(e f:Expr)(ae:Pos):Prop where
 base:Fu o m X.env (eval o X.env)=eval o X.env
 few:((Dq ae (starEach [e,f] X.env)).all (fun x=> !x.1) && (Er ae (Cr [] X.env)).all (fun x=>x.1.isSome)
  && decide (([e,f]:List Expr).length+([]:List Ge).length+(if([]:List Ge).isEmpty then 0 else 1)<30))=true
 line:(ai.endLine==ae.line)=true
 trees:Dq ae (starEach [e,f] X.env)=[(false,eval e X.env),(false,eval f X.env)]
def IsD(H:Hp)(a:Addr):Prop:=(∃kvs,Rd H a (.dK kvs))∨ ∃kvs,Rd H a (.dT kvs)
theorem AO{X:Cx}{aa:List (Addr×Obj)}{σ:St}{H:Hp}{s:Ad}{a:Addr}(I:c7 X aa σ H s)(d:IsD H a):
  s.TypeIs (.ref a) "dict" /\(∀b,Bj a= .ref b-> ∃ob,s.heap.get? b=some ob/\ob.dict=none)/\(a==Ez)=false:=by
 rcases d with⟨kvs,e⟩|⟨kvs,e⟩
 ·obtain⟨_,hd,vs,_,dd⟩:=NH I.hok e
  refine⟨dd.typeIs,fun b q=> ?_,hd⟩
  cases q
  obtain⟨ob,_,_,h1,h2,_⟩:=dd
  exact⟨ob,h1,h2.2.1⟩
 ·obtain⟨_,hd,xs,_,dd⟩:=NK I.hok e
  refine⟨dd.typeIs,fun b q=> ?_,hd⟩
  cases q
  obtain⟨ob,_,_,h1,h2,_⟩:=dd
  exact⟨ob,h1,h2.2.1⟩
section
variable{X:Cx}{aa:List (Addr×Obj)}{σ:St}{H:Hp}{s:Ad}{a:Addr}{y d:V}{u r:Value}{o:Option V}{A:Bx}{E:Value->Ad->Prop}
theorem zFL{Q:Value->Ad->Prop}(hu:A.units+1<cLine)(I:c7 X aa σ H s)(g:RH H a y o)(ry:cO y u)(h: ∀w' s',c7 X aa σ H s'->cO (o.getD .non) w'->Q w' s'):
  wpAny (model X.prog X.w) A (call (.builtin "dict.get") [.ref a,u]) Q E s:=by
 rcases g with⟨kvs,k,e,ey,l⟩|⟨kvs,k,b,e,ey,eb,l⟩
 ·subst ey
  obtain⟨z,hd,vs,rel,dd⟩:=NH I.hok e
  refine Kr Dj dd.typeIs En (Gs _ _) (meets_dict_get (aT X.prog X.w) a (J5 ry) hd) ⟨_,dd.mapOf,h _ _ (I.tok _) ?_⟩
  rw[l]
  exact(rel.val k).getD rfl
 ·subst ey
  cases (show u=Bj b from ry)
  obtain⟨z,hd,xs,rel,dd⟩:=NK I.hok e
  refine Kr Dj dd.typeIs En (Gs _ _) (meetsH_dict_get (tupleKind (aT X.prog X.w)) a b hd) ⟨Gr hu,k,xs,PY I.hok eb,dd,h _ _ (I.tok _) ?_⟩
  rw[l]
  exact(rel.val k).getD rfl
theorem zFK{Q:Value->Ad->Prop}(hu:A.units+1<cLine)(I:c7 X aa σ H s)(g:RH H a y o)(ry:cO y u)(rd:cO d r)(h: ∀w' s',c7 X aa σ H s'->cO (o.getD d) w'->Q w' s'):
  wpAny (model X.prog X.w) A (call (.builtin "dict.get") [.ref a,u,r]) Q E s:=by
 rcases g with⟨kvs,k,e,ey,l⟩|⟨kvs,k,b,e,ey,eb,l⟩
 ·subst ey
  obtain⟨z,hd,vs,rel,dd⟩:=NH I.hok e
  refine Kr Dj dd.typeIs En (Ju _ _ _) (meets_dict_get_default (aT X.prog X.w) a (J5 ry) hd r) ⟨_,dd.mapOf,h _ _ (I.tok _) ?_⟩
  rw[l]
  exact(rel.val k).getD rd
 ·subst ey
  cases (show u=Bj b from ry)
  obtain⟨z,hd,xs,rel,dd⟩:=NK I.hok e
  refine Kr Dj dd.typeIs En (Ju _ _ _) (meetsH_dict_get_default (tupleKind (aT X.prog X.w)) a b hd r) ⟨Gr hu,k,xs,PY I.hok eb,dd,h _ _ (I.tok _) ?_⟩
  rw[l]
  exact(rel.val k).getD rd
end
def zD6(td ty tx:TE):TE:=fun σ H Q=>td σ H fun x H1=> ∃a,x= .ref a/\IsD H1 a/\ty σ H1 fun y H2=>tx σ H2 fun z H3=> ∃o,RH H3 a y o/\Q (o.getD z) H3
section
variable{X:Cx}{o e f:Expr}{ai ae:Pos}{td ty tx:TE}
theorem BF(hu:X.A.units+1<cLine)(ho:PE X o td)(he:PE X e ty)(hf:PE X f tx)(m:M2 X o "get" ai e f ae):PE X (.Call (.Attribute o "get" ai) [e,f] [] ae) (zD6 td ty tx):=by
 intro aa s σ H Q I h
 refine Mt m.base m.few m.line Jv Dj Ks (aJ (ho aa s σ H _ I h) fun u s1 ⟨x,H1,I1,rx,a,ex,d,q1⟩=> ?_)
 subst ex
 obtain rfl:u=Bj a:=rx
 obtain⟨t1,t2,_⟩:=AO I1 d
 refine⟨t1,t2,?_⟩
 rw[m.trees]
 refine Fh rfl (Ey (Fi (aJ (he aa s1 σ H1 _ I1 q1) fun iv s2 ⟨y,H2,I2,ry,q2⟩=>
  Fi (aJ (hf aa s2 σ H2 _ I2 q2) fun fv s3 ⟨z,H3,I3,rz,ov,g,q3⟩=>Hd ?_))))
 exact zFK hu I3 g ry rz fun w' s4 I4 rw'=>⟨_,H3,I4,rw',q3⟩
end
end L2
namespace Att
open PySem PySem.W PySem.Calls PyProof.Rows
theorem Q2{P:Nf}{h:Heap}: ∀(ns:List Int) (vs:List Value),WellAll P h vs (ns.map WData.int)->Ox vs ns:=by
 intro ns
 induction ns with
 |nil=>
  intro vs w
  rw[Hj] at w
  cases w
  exact .nil
 |cons n ns ih=>
  intro vs w
  rw[Cq] at w
  cases w with
  |cons a b=>
   cases a
   exact .cons _ _ (ih _ b)
theorem FM{l:OpenLaw}{n:Nat}(hn:l.most=some n){P:Nf}{h:Heap}{args:List WData}{vals:List Value}
  (hpre:l.row.toRowW.claim.pre args=true) (hwl:WellAll P h vals args):
  ∃a vs ns,vals=[Bj a]/\args=[WData.list (ns.map WData.int)]/\h.get? a=some {cls:= .type "list",data:= .seq vs.toArray}/\Ox vs ns/\ns.length<=n:=by
 have hsh:WShape.hasAll [] args [.list .int]=true:=(pre_splitW hpre).1
 have hc:l.pre.holds [] {args:=args}=true:=(pre_splitW hpre).2
 obtain⟨d,r,rfl,h1,h2⟩:=hasAllW_cons hsh
 obtain rfl:=hasAllW_nil h2
 obtain⟨xs,rfl,h3⟩:=hasW_list h1
 obtain⟨ns,rfl⟩:=items_int h3
 have ah:ns.length<=n:=by
  unfold OpenLaw.pre at hc
  have h4:(WTm.not (.lt (.lit (.int (n:Int))) (.len (.arg 0)))).holds [] {args:=[.list (ns.map .int)]}=true:=by
   have h4:=(holds_andW hc).1
   rw[hn] at h4
   exact h4
  have h5:=condW_of h4 (w_not (w_lt w_lit (w_len_list (w_arg rfl))))
  rw[De] at h5
  refine Nat.le_of_not_lt fun q=> ?_
  have q':(n:Int)<((ns.length:Nat):Int):=by omega
  first
   |(rw[decide_eq_true q'] at h5;exact absurd h5 (by decide))
   |(simp at h5;omega)
 cases hwl with
 |cons w1 w2=>
  cases w2
  cases w1 with
  |list ho gd=>exact⟨_,_,ns,rfl,rfl,ho,Q2 ns _ gd,ah⟩
theorem FF(l:OpenLaw)(args:List WData):l.row.toRowW.claim.post args (.bool true) args=true:=
 postW_of (r:=l.row.toRowW) (X:=(true==true))
  (show Qt [] (.bool true) .bool=true by first|rfl|decide|simp[Qt,WShape.arms,WShape.armsAll])
  (show(WTm.eq .res (.lit (.bool true))).value [] {args:=args,res:=some (.bool true),after:=args}=some (.bool (true==true)) from w_eq_bool (w_res rfl) w_lit) rfl
theorem JL{l:OpenLaw}{n:Nat}{q:Au}{loose:List Str}{XP:(Str->Option Value)->Heap->Prop}{YP:World->Heap->Prop}{d:DefRec}
  (hn:l.most=some n) (hdf:d.params.defaults=[])
  (call: ∀(w:World) (s₀ s₁:Ad) (mg mb:Str->Option Value) (fa:Addr) (o:Obj) (pm cd doc:Value) (a:Addr) (vs:List Value) (ns:List Int),
   Ground q loose [] XP w s₀ mg mb s₁.heap->YP w s₁.heap→
   s₁.heap.get? fa=some o->o.data= .func (docDef d.name d.params d.body d.scope pm cd doc)->s₁.heap.CodeRec cd d.name->mg d.name=some (.ref fa)→
   s₁.heap.get? a=some {cls:= .type "list",data:= .seq vs.toArray}->Ox vs ns->ns.length<=n->s₁.gens= #[]→
   Ej (model l.prog w) Lp (.call (.ref fa) ⟨[.ref a],[]⟩) (fun r s'=>r= .ok (.ret (.bool true))/\OldK s₁.heap s'.heap/\s'.os=s₁.os/\Jp s'.gens) s₁):
  WalkO q loose XP YP l.row.toRowW d [] (fun f vs=>Pp f vs):=by
 intro w s₀ s₁ mg mb G Y fa o pm cd doc dV kV ho hd hcd hD hmg hg args vals as hpre hlay hrd hwl hlo
 obtain rfl:dV= .none:=Dflts.none hD hdf
 obtain rfl:kV= .none:=Dflts.noKw hD
 obtain⟨a,vs,ns,rfl,rfl,hobj,hints,ah⟩:=FM hn hpre hwl
 refine enter_call (Fe (call w s₀ s₁ mg mb fa o pm cd doc a vs ns G Y ho (fd_plain hd) hcd hmg hobj hints ah hg) fun r s' hq=> ?_)
 obtain⟨rfl,h2,h3,h4⟩:=hq
 exact⟨.inl ⟨.bool true,.bool true,[],rfl,fun _=>rfl,.bool true,FF l _,fun _=>⟨Jm,fun _ hm=>(nomatch hm)⟩⟩,h2,h3,h4⟩
end Att
namespace L2
open PySem PySem.Spec PyProof.Rows
theorem OC: ∀{vs:List Value} {ns:List Int},Ox vs ns->cA (ns.map V.int) vs
 |_,_,.nil=> .nil
 |_,_,.cons n t h=> .cons ⟨t,rfl⟩ (OC h)
def Only(H:Hp):Prop:= ∀b,H b=none∨ ∃o xs,H b=some (.frz o (.lst xs))
theorem AR{P:Au}{w:World}{K:Ai}{mg mb:Str->Option Value}{CX:HF}{k:Nat}{fa a:Addr}{fd:Ck}{x:Str}{sp:Sp}{s₁:Ad}{vs:List Value}{ns:List Int}
  (KX:K.In s₁.heap) (hns:s₁.heap.Ns mainGlobals mg) (hb:s₁.heap.Ns builtinsNs mb) (hbb: ∀x:Str,x≠ "__name__" ->mb x=Bl x) (oh:s₁.heap.NoLimit) (hg:s₁.gens= #[])
  (ha:s₁.heap.get? a=some {cls:= .type "list",data:= .seq vs.toArray}) (hi:Ox vs ns) (hl:ns.length<=sizeLine) (hr:aH k Lp)
  (F: ∀base:Heap,K.In base->base.Ns mainGlobals mg->bU P w K mg base CX k fa fd [x] sp) (mn: ∀(s:Ad) (u:Value),Lo s fd ⟨[u],[]⟩ [(x,u)])
  (hsp : ∀ H : Hp,Only H -> YO K H a (ns.map V.int) -> sp [.ref a] H (fun v _ => v = .bl true) fun _ _ _ => False)
  (hCX : ∀ H e s',CX [] H s₁ (fun _ _ _ => False) e s' -> False) :
  Ej (model P w) Lp (.call (.ref fa) ⟨[.ref a],[]⟩) (fun r s'=>r= .ok (.ret (.bool true))/\OldK s₁.heap s'.heap/\s'.os=s₁.os/\Jp s'.gens) s₁:=by
 have rv:=OC hi
 have nw:=hi.length
 have mq: ∀H:Hp,Only H->YO K H a (ns.map V.int)->U2 P w H s₁.heap->(∀b,H b≠none->b=a)->(H a≠none->K.lookup a=none)→
   Ej (model P w) Lp (.call (.ref fa) ⟨[.ref a],[]⟩) (fun r s'=>r= .ok (.ret (.bool true))/\OldK s₁.heap s'.heap/\s'.os=s₁.os/\Jp s'.gens) s₁:=by
  intro H hO hS hok hA hK
  have gx: ∀{b:Addr} {o:Obj},s₁.heap.get? b=some o->H b=none->(L9 s₁.heap H).get? b=some o:=fun e n=>AM e n
  have noA: ∀{b:Addr} {o:Obj} {es:Array Kj} {ep:Nat},s₁.heap.get? b=some o->o.data= .dict es ep->H b=none:=fun{b o es ep} e d=>by
   cases q:H b with
   | none => rfl
   |some u=>
    have e':b=a:=hA b (by rw[q];simp)
    subst e'
    rw[ha] at e;cases e
    have d':Data.seq vs.toArray _=Data.dict es ep:=d
    cases d'
  have nsK: ∀{b:Addr} {m:Str->Option Value},s₁.heap.Ns b m->(L9 s₁.heap H).Ns b m:=fun{b m} ⟨o,es,ep,e,d,r⟩=>⟨o,es,ep,gx e (noA e d),d,r⟩
  have hKb:K.In (L9 s₁.heap H):=fun b o e=>gx (KX b o e) (by
   cases q:H b with
   | none => rfl
   |some u=>
    have e':b=a:=hA b (by rw[q];simp)
    subst e'
    rw[hK (by rw[q];simp)] at e;cases e)
  have hM:Mod K mg (L9 s₁.heap H):=⟨hKb,nsK hns,⟨mb,nsK hb,hbb⟩,let ⟨mc,h1,h2⟩:=oh;⟨mc,nsK h1,h2⟩⟩
  have e0:DU P w K mg (L9 s₁.heap H) Lp [] s₁ H:=⟨rfl,hM,fun b o e=>zB8 e,Nat.le_of_eq (ES _ _),trivial,fun b hb=>absurd (show b∈([]:List Addr) from hb) (by simp),hok,.of_eq hg⟩
  refine Fe ((F _ hKb (nsK hns)).run Lp [] s₁ H ⟨[.ref a],[]⟩ [.ref a] [.ref a] _ _ hr e0 (mn s₁ (.ref a)) (.cons rfl .nil) (hsp H hO hS)) fun r s' h=> ?_
  cases r with
  | error e => exact (hCX H e s' h).elim
  |ok fl=>
   cases fl with
   | next => exact Fg h
   | brk => exact Fg h
   | cont => exact Fg h
   |ret u=>
    obtain⟨v,H',os,bare,un,o9,r',q⟩:=h
    have q':v= .bl true:=q
    subst q'
    obtain rfl:u=Fs true:=r'
    refine⟨rfl,OldK.of_keep fun b o e=> ?_,os,bare⟩
    cases q:H b with
    | none => exact un.keep b o e q (by intro z;exact absurd (show b ∈ ([] : List Addr) from z) (by simp)) (by simp)
    |some u=>
     rcases hO b with z|⟨ob,xs,z⟩
     ·rw[q] at z;cases z
     ·have z2:=un.frzs b ob _ z
      obtain⟨e1,_⟩:=hok b _ z
      obtain⟨e2,_⟩:=o9 b _ z2
      rw[e] at e1;cases e1
      exact e2
 cases hk:K.lookup a with
 |some o=>
  have e:=KX a o hk
  rw[ha] at e
  cases e
  refine mq (fun _=>none) (fun _=> .inl rfl) (.inr ⟨_,vs.toArray,_,hk,rfl,rfl,rfl,by rw[Ak,nw];exact hl,by simpa using rv⟩) (fun b u z=>by have z':(none:Option HO)=some u:=z;cases z') (fun b z=>absurd rfl z) fun z=>absurd rfl z
 |none=>
  refine mq (fun b=>if b=a then some (.frz {cls:= .type "list",data:= .seq vs.toArray} (.lst (ns.map V.int))) else none) (fun b=> ?_) (.inl (.inr ⟨{cls:= .type "list",data:= .seq vs.toArray},if_pos rfl⟩)) (fun b u z=> ?_) (fun b z=> ?_) fun _=>hk
  ·by_cases hb:b=a
   ·exact .inr ⟨_,_,if_pos hb⟩
   ·exact .inl (if_neg hb)
  ·by_cases hb:b=a
   ·have z':=(if_pos hb).symm.trans z
    cases z'
    subst hb
    exact⟨ha,by rw[De];exact hl,vs,_,rv,ha⟩
   ·have z':=(if_neg hb).symm.trans z
    cases z'
  ·by_cases hb:b=a
   ·exact hb
   ·exact absurd (if_neg hb) z
theorem zA5{l:Qj}{n k:Nat}{q:Au}{loose:List Str}{XP:(Str->Option Value)->Heap->Prop}{YP:World->Heap->Prop}{d:DefRec}{K:Nf->Ai}{CX:World->HF}{sp:World->Sp}{x:Str}
  (hn:l.most=some n) (hn2:n<=sizeLine) (hdf:d.params.defaults=[]) (hr:aH k Lp)
  (hY: ∀(w:World) (h:Heap),YP w h->(K w.params).In h)
  (F: ∀(w:World) (mg:Str->Option Value) (fa:Addr) (h:Heap),(K w.params).In h->h.Ns mainGlobals mg->mg d.name=some (.ref fa)→
   ∃fd:Ck,(∀(s:Ad) (u:Value),Lo s fd ⟨[u],[]⟩ [(x,u)])∧
    ∀base:Heap,(K w.params).In base->base.Ns mainGlobals mg->bU l.prog w (K w.params) mg base (CX w) k fa fd [x] (sp w))
  (hsp: ∀(w:World) (H:Hp) (a:Addr) (ns:List Int),ns.length<=n->Only H->YO (K w.params) H a (ns.map V.int)->sp w [.ref a] H (fun v _=>v= .bl true) fun _ _ _=>False)
  (hCX: ∀(w:World) (H:Hp) (s:Ad) (e:Value) (s':Ad),CX w [] H s (fun _ _ _=>False) e s'->False):
  W.WalkO q loose XP YP l.row.toRowW d [] (fun f vs=>Pp f vs):=by
 refine Att.JL hn hdf fun w s₀ s₁ mg mb fa o pm cd doc a vs ns G Y ho hd hcd hmg hobj hints ah hg=> ?_
 have KX:=hY w _ Y
 obtain⟨fd,hb,hF⟩:=F w mg fa _ KX G.T.g hmg
 exact AR KX G.T.g G.T.b G.T.builtins G.T.nolimit hg hobj hints (Dy ah hn2) hr hF hb (fun H hO hS=>hsp w H a ns ah hO hS) fun H e s'=>hCX w H s₁ e s'
theorem DI{l:Qj}{n k:Nat}{q:Au}{loose:List Str}{XP:(Str->Option Value)->Heap->Prop}{YP:World->Heap->Prop}{d:DefRec}{K:Nf->Ai}{CX:HF}{sp:Ai->Sp}{x:Str}
  (hn:l.most=some n) (hn2:n<=sizeLine) (hdf:d.params.defaults=[]) (hr:aH k Lp)
  (hY: ∀(w:World) (h:Heap),YP w h->(K w.params).In h)
  (F: ∀(w:World) (mg:Str->Option Value) (fa:Addr) (h:Heap),(K w.params).In h->h.Ns mainGlobals mg->mg d.name=some (.ref fa)→
   ∃fd:Ck,(∀(s:Ad) (u:Value),Lo s fd ⟨[u],[]⟩ [(x,u)])∧
    ∀base:Heap,(K w.params).In base->base.Ns mainGlobals mg->bU l.prog w (K w.params) mg base CX k fa fd [x] (sp (K w.params)))
  (hsp: ∀(K:Ai) (H:Hp) (a:Addr) (ns:List Int),ns.length<=n->Only H->YO K H a (ns.map V.int)->sp K [.ref a] H (fun v _=>v= .bl true) fun _ _ _=>False)
  (hCX: ∀(H:Hp) (s:Ad) (e:Value) (s':Ad),CX [] H s (fun _ _ _=>False) e s'->False):
  W.WalkO q loose XP YP l.row.toRowW d [] (fun f vs=>Pp f vs):=
 zA5 (K:=K) (CX:=fun _=>CX) (sp:=fun w=>sp (K w.params)) hn hn2 hdf hr hY F (fun w H a ns h1 h2 h3=>hsp (K w.params) H a ns h1 h2 h3) fun _ H s e s'=>hCX H s e s'
noncomputable def Z8(s:Stmt):Arguments:=match s with
 | .FunctionDef _ a _ _ _ _ _ _ _ _=>a
 |_=>{posonlyargs:=[],args:=[],vararg:=none,kwonlyargs:=[],kw_defaults:=[],kwarg:=none,defaults:=[]}
noncomputable def bQ(s:Stmt):List Stmt:=match s with
 | .FunctionDef _ _ b _ _ _ _ _ _ _=>b
 |_=>[]
noncomputable def dH(s:Stmt):Scope:=match s with
 | .FunctionDef _ _ _ _ _ _ sc _ _ _=>sc
 |_=>{kind:= .function,names:=[],isGenerator:=false,isCoroutine:=false}
abbrev CX0:HF:=fun _ _ _ _ _ _=>False
abbrev E0:XK:=fun _ _ _=>False
theorem A7{X:Cx}:LJ CX0 X E0:=fun _ _ _ _ _ _ _ h=>h.elim
structure ZH(K:Ai)(x qual:Str)(st:Stmt)(f:Addr)(fd:Ck):Prop where
 ex: ∃(oc:Value) (od:Option Addr) (kV doc pm:Value) (an:Option Addr) (cdv ct:Value) (osl:Array (Option Value)),
  fd=Ji x qual (Z8 st) (bQ st) (dH st) .none kV doc pm an cdv ct/\K.lookup f=some ⟨oc,od,.func fd,osl⟩/\Mc K cdv qual=true
 kp:Fj K (.ref f)=true
section
variable{P:Au}{w:World}{K:Ai}{mg:Str->Option Value}{base:Heap}
theorem ZH.ok{x qual:Str}{st:Stmt}{f:Addr}{fd:Ck}{N ps:List Str}{k:Nat}{sp:Sp}(F:ZH K x qual st f fd)(S:cV N ps (dH st))(len: ∀vs H Q E,sp vs H Q E->vs.length=ps.length)
  (am: ∀(cdv:Value) (A:Bx) (outer:List Env) (s:Ad) (H:Hp) (vs:List V) (Q:VK) (E:XK),aH k (A.deeper (envOfC qual (dH st) s.heap.objs.size f cdv))->sp vs H Q E→
   ∃t,W6 (T7 CX0 P w K mg base N qual (dH st) f cdv A outer s H E).nox (bQ st) t/\t {nx:=fun _ H'=>Q .non H',rt:=Q} (start N vs) H):bU P w K mg base CX0 (k+1) f fd ps sp:=by
 obtain⟨oc,od,kV,doc,pm,an,cdv,ct,osl,rfl,lk,hcd⟩:=F.ex
 refine zCJ lk hcd S len fun A outer s H vs Q E hr hsp=> ?_
 obtain⟨t,h,q⟩:=am cdv A outer s H vs Q E hr hsp
 exact⟨t,h.nox,q⟩
theorem ZH.binds{x qual:Str}{st:Stmt}{f:Addr}{fd:Ck}{ps:List Str}(F:ZH K x qual st f fd)
  (h: ∀(kV doc pm:Value) (an:Option Addr) (cdv ct:Value) (us:List Value),us.length=ps.length->bindArgs (Ji x qual (Z8 st) (bQ st) (dH st) .none kV doc pm an cdv ct) ⟨us,[]⟩=pure (ps.zip us)):WG K fd ps []:=by
 obtain⟨oc,od,kV,doc,pm,an,cdv,ct,osl,rfl,lk,hcd⟩:=F.ex
 exact .all (h kV doc pm an cdv ct)
theorem PF{x qual:Str}{st:Stmt}{f:Addr}{oc:Value}{od an:Option Addr}{osl:Array (Option Value)}{kV doc pm cdv ct:Value}(l:K.lookup f=some ⟨oc,od,.func (Ji x qual (Z8 st) (bQ st) (dH st) .none kV doc pm an cdv ct),osl⟩)
  (c:Mc K cdv qual=true) (k:Fj K (.ref f)=true):ZH K x qual st f (Ji x qual (Z8 st) (bQ st) (dH st) .none kV doc pm an cdv ct):=⟨⟨oc,od,kV,doc,pm,an,cdv,ct,osl,rfl,l,c⟩,k⟩
end
theorem zCI{A:Bx}{k:Nat}(hr:aH k A):A.units+1<cLine:=Nat.lt_of_le_of_lt (Nat.add_le_add_left (by decide:1<=64) _) hr.units
section
variable{X:Cx}
theorem pv(i:Nat){x:Str}{pos:Pos}(hN:X.N[i]? =some x:=by rfl)(hv:Vis X.env.scope x:=by first|exact Aw rfl|exact Al (Aw rfl)|exact Al (Al rfl))(hd:(x==("__debug__":Str))=false:=by decide)
  (hcd:(x==("__classdict__":Str))=false:=by decide):PE X (.Name x pos) (P8 i):=IH hN hv hd hcd
end
theorem PV{A B:Prop}(h:B):if false=true then A else B:=by
 rw[if_neg Db]
 exact h
theorem PX{A B:Prop}(h:A):if true=true then A else B:=by
 rw[if_pos rfl]
 exact h
def bC(H H':Hp):Prop:= ∀b o,H b=some o->H' b=some o
theorem bC.refl(H:Hp):bC H H:=fun _ _ h=>h
theorem bC.trans{H H1 H2:Hp}(a:bC H H1)(b:bC H1 H2):bC H H2:=fun c o h=>b c o (a c o h)
theorem LX{env:Env}{f:Str×NameKind->List (Str×Addr)->Sem (ForInStep (List (Str×Addr)))}
  (hf : ∀ n k r,f (n,k) r = if (k == Ba) = true then (cellOf env n >>= fun c => pure (Ct ((n,c) :: r))) else pure (Ct r)) :
  ∀(names:List (Str×NameKind)) (cs:List (Str×Addr)),(∀y∈names,y.2= .free-> ∃c,env.cells.lookup y.1=some c)→
   ∃cl,forIn names cs f=(pure cl:Sem (List (Str×Addr)))/\(∀x c,cl.lookup x=some c->cs.lookup x=some c∨env.cells.lookup x=some c)∧
    (∀x c,cs.lookup x=some c-> ∃c',cl.lookup x=some c')/\ ∀x,(x,Ba)∈names-> ∃c,cl.lookup x=some c
 | [],cs,_ => ⟨cs,rfl,fun _ _ e => .inl e,fun _ c e => ⟨c,e⟩,fun _ h => nomatch h⟩
 | (n,k) :: r,cs,h => by
  have hr: ∀y∈r,y.2= .free-> ∃c,env.cells.lookup y.1=some c:=fun y hy=>h y (Av _ hy)
  by_cases hk:k= .free
  ·subst hk
   obtain⟨c,hc⟩:=h (n,.free) Bg rfl
   have hc:env.cells.lookup n=some c:=hc
   obtain⟨cl,e1,e2,e3,e4⟩:=LX hf r ((n,c)::cs) hr
   refine⟨cl,?_,fun x c' e=> ?_,fun x c' e=> ?_,fun x hx=> ?_⟩
   ·rw [Ib,hf,if_pos (show (Ba == Ba) = true by decide)]
    have ec:cellOf env n=pure c:=by unfold cellOf;rw[hc]
    rw[ec,pure_bind,pure_bind]
    exact e1
   ·rcases e2 x c' e with q|q
    ·by_cases hx:x=n
     ·subst hx
      rw[Dk] at q
      cases q
      exact .inr hc
     ·rw[Ca,beq_eq_false_iff_ne.mpr hx] at q
      exact .inl q
    ·exact .inr q
   ·by_cases hx:x=n
    ·subst hx
     exact e3 x c (Dk ..)
    ·refine e3 x c' ?_
     rw[Ca,beq_eq_false_iff_ne.mpr hx]
     exact e
   ·rcases Ao.mp hx with q|q
    ·cases q
     exact e3 n c (Dk ..)
    ·exact e4 x q
  ·obtain⟨cl,e1,e2,e3,e4⟩:=LX hf r cs hr
   refine⟨cl,?_,e2,e3,fun x hx=> ?_⟩
   ·have hb : ¬ (k == Ba) = true := by simpa using hk
    rw[Ib,hf,if_neg hb,pure_bind]
    exact e1
   ·rcases Ao.mp hx with q|q
    ·cases q
     exact absurd rfl hk
    ·exact e4 x q
theorem QO{env:Env}{scope:Scope}(h: ∀y∈scope.names,y.2= .free-> ∃c,env.cells.lookup y.1=some c):
  ∃cl,closureFor scope env=pure cl/\(∀x c,cl.lookup x=some c->env.cells.lookup x=some c)/\ ∀x,(x,Ba)∈scope.names-> ∃c,cl.lookup x=some c:=by
 simp only[closureFor]
 obtain⟨cl,e1,e2,_,e4⟩:=LX (env:=env) (f:=fun x r=>match x with
  |(name,kind)=>if(kind==Ba)=true then(cellOf env name>>=fun c=>pure (Ct ((name,c)::r))) else pure (Ct r)) (fun _ _ _=>rfl) scope.names [] h
 refine⟨cl,?_,fun x c e=> ?_,e4⟩
 ·first
   |exact e1
   |(refine Eq.trans (congrArg (fun m=>m>>=pure) e1) ?_;exact pure_bind _ _)
 ·rcases e2 x c e with q|q
  ·cases q
  ·exact q
noncomputable def bN(ix:List Nat)(σ:St):St:=ix.map fun i=>(σ[i]?).join
def PTs(Y:Cx)(ifs:List Expr)(tt:TT):Prop:=
 ∀(aa:List (Addr×Obj)) (s:Ad) (σ:St) (H:Hp) (Q:Bool->Hp->Prop),c7 Y aa σ H s->tt σ H Q→
  wpAny (model Y.prog Y.w) Y.A (forIn ifs true fun c r=>if r=true then do let ok<- isTrue c Y.env (eval c Y.env);pure (Ct ok) else pure (Ct r)) (TP Y aa σ Q) Y.xe s
def tYes:TT:=fun _ H Q=>Q true H
theorem zAL{Y:Cx}:PTs Y [] tYes:=fun _ _ _ H _ I h=>wpAny_tests_nil ⟨H,I,h⟩
theorem zAK{Y:Cx}{c:Expr}{tt:TT}(h:PT Y c tt):PTs Y [c] tt:=fun aa s σ H Q I hw=>wpAny_tests_one (h aa s σ H Q I hw)
structure Blk(Y:Cx)(tg:Expr)(ifs:List Expr)(elt:Expr)(g:TG)(tt:TT)(te:TE):Prop where
 tg:PG Y tg g
 ts:PTs Y ifs tt
 el:PE Y elt te
theorem EE{prog:Au}{w:World}{A:Bx}{s:Ad}{elt ci iter:Expr}{ifs:List Expr}{scope:Scope}{pos:Pos}{it acc:Value}{env:Env}{R:Ma->Ad->Prop}(I:Nat->Ad->Prop)
  (turn : ∀ n s,I n s -> wpAny (model prog w) A (pyNext it) (fun r s₁ => match r with
   | none => R (.ok .next) s₁
   | some v => wpAny (model prog w) A (Eg ci it v) (fun _ s₀ => wpAny (model prog w) A (assign ci env v) (fun _ s₂ =>
     wpAny (model prog w) A (forIn ifs true fun c r=>if r=true then do let ok<- isTrue c env (eval c env);pure (Ct ok) else pure (Ct r)) (fun ok s₃=>if ok=true then wpAny (model prog w) A (eval elt env) (fun x s₄=>
      wpAny (model prog w) A (call (.builtin "list.append") [acc,x]) (fun _ s₅=> ∃m,m<n/\I m s₅) (fun _ _=>False) s₄) (fun _ _=>False) s₃
      else∃m,m<n/\I m s₃) (fun _ _=>False) s₂)
     (fun _ _=>False) s₀) (fun _ _=>False) s₁) (fun _ _=>False) s)
  (n:Nat) (h:I n s):Ej (model prog w) A (.compLoop (.ListComp elt [⟨ci,iter,ifs,0⟩] scope pos) 0 it acc env) R s:=by
 refine Nk rfl I (fun n s hI=> ?_) n h
 show wpAny _ A ((Oh (.ListComp elt [⟨ci,iter,ifs,0⟩] scope pos) 0 it acc env).onRaise (fun x=>do Oy x env;Kt x)) _ _ s
 refine Oz ?_
 rw[compTurn_list]
 refine Aa (Cv (Aa (An (turn n s hI) (fun r s₁ h₁=> ?_) fun _ _ h'=>h'.elim)))
 cases r with
 |none=>exact Af h₁
 |some v=>
  refine Aa (An h₁ (fun _ s₀ h₀'=> ?_) fun _ _ h'=>h'.elim)
  refine Aa (An h₀' (fun _ s₂ h₂=> ?_) fun _ _ h'=>h'.elim)
  refine Aa (An h₂ (fun okb s₃ h₃=> ?_) fun _ _ h'=>h'.elim)
  cases okb with
  |false=>exact Af ⟨rfl,h₃⟩
  |true=>exact Aa (Aa (An h₃ (fun x s₄ h₄=>Aa (An h₄ (fun _ s₅ h₅=>Af (Af ⟨rfl,h₅⟩)) fun _ _ h'=>h'.elim)) fun _ _ h'=>h'.elim))
section
variable{X:Cx}{aa:List (Addr×Obj)}{σ:St}{H H':Hp}{s s1 s':Ad}{h'':Heap}
theorem c7.offNew{σ':St}{H1:Hp}(I1:c7 X aa σ H1 s1)(I':c7 X aa σ' H' s')(hn:H' s1.heap.objs.size=none)(sb: ∀b o,b≠s1.heap.objs.size->s'.heap.get? b=some o->h''.get? b=some o):
  c7 X aa σ' H' {s' with heap:=h''}:=
 I'.turned (t':=s'.toks) (it:=s1.heap.objs.size) sb hn (Fn I1.lt) (.inr I1.sz)
  (fun x c e z => by
   obtain⟨v,q⟩:=I1.cell x c e
   have:=q.lt
   rw[z] at this
   exact Bw _ this)
  fun p hp z=>by
   have:=Aj (I1.pin p hp).1
   rw[z] at this
   exact Bw _ this
end
def zCN(D:Addr)(ix:List Nat)(nl:Nat)(J:It)(g:TG)(tt:TT)(te:TE)(σ:St)(H0:Hp)(Q:Hp->Prop):Prop:=
 ∃W:Nat->Nat->List V->Hp->Prop,(∃m,W 0 m [] (bL H0 D (.lst [])))/\ ∀i m acc H1,W i m acc H1→
  (J.stop i H1/\Q H1)∨
  (J.go i H1/\ ∃N:List V->Hp->Prop,(∀ag H',N ag H'-> ∃m',m'<m/\W (i+1) m' ag H')∧
   ∀x H2,J.yld i H1 x H2->g x (bN ix σ++Ap nl none) H2 fun σ2 H3=>σ2.take ix.length=bN ix σ∧
    tt σ2 H3 fun b H4=>if b=true then te σ2 H4 fun v H5=>H5 D=some (.lst acc)/\acc.length<sizeLine/\N (acc++[v]) (bL H5 D (.lst (acc++[v]))) else N acc H4)
theorem WX{env:Env}{x:Str}: ∀{l:List (Str×NameKind)},l.lookup x=some .free→
  (l.map fun (n,k) => if (k == Ba && env.scope.kind == .function && env.kindOf n == some .cell) then (n,Bp) else (n,k)).lookup x = some .cell ∨
  (l.map fun (n,k) => if (k == Ba && env.scope.kind == .function && env.kindOf n == some .cell) then (n,Bp) else (n,k)).lookup x = some .free
 | [],h => by cases h
 | (n,k) :: r,h => by
  show Lq x ((if(k==Ba && env.scope.kind== .function && env.kindOf n==some .cell)=true then(n,Bp) else(n,k))::_)=some .cell∨Lq x ((if(k==Ba && env.scope.kind== .function && env.kindOf n==some .cell)=true then(n,Bp) else(n,k))::_)=some .free
  by_cases hx:x=n
  ·subst hx
   rw[Dk] at h
   cases h
   by_cases hc:(Ba==Ba && env.scope.kind== .function && env.kindOf x==some .cell)=true
   ·left
    rw[if_pos hc,Dk]
   ·right
    rw[if_neg hc,Dk]
  ·have hb:(x==n)=false:=beq_eq_false_iff_ne.mpr hx
   simp only[Ca,hb] at h
   have ih:=WX (env:=env) h
   by_cases hc:(k==Ba && env.scope.kind== .function && env.kindOf n==some .cell)=true
   ·rw[if_pos hc]
    simp only[Ca,hb]
    exact ih
   ·rw[if_neg hc]
    simp only[Ca,hb]
    exact ih
def CQ(ix:List Nat)(nl:Nat)(wi:TI)(g:TG)(tt:TT)(te:TE):TE:=fun σ H Q=>wi σ H fun J H0=> ∀D,H0 D=none->zCN D ix nl J g tt te σ H0 fun H'=>Q (.ref D) H'
mutual
inductive Dp(K:Ai)(H:Hp):V->Lk->Prop
 |non:Dp K H .non .none
 |bl (b:Bool):Dp K H (.bl b) (.bool b)
 |int (i:Int):Dp K H (.int i) (.int i)
 |str (x:Str):Dp K H (.str x) (.str x)
 |lst {a:Addr} {xs:List V} {ds:List Lk}:YO K H a xs->OX K H xs ds->Dp K H (.ref a) (.list ds)
 |tup {a:Addr} {xs:List V} {ds:List Lk}:W4 K H a xs->OX K H xs ds->Dp K H (.ref a) (.tuple ds)
inductive OX(K:Ai)(H:Hp):List V->List Lk->Prop
 |nil:OX K H [] []
 |cons {v:V} {vs:List V} {d:Lk} {ds:List Lk}:Dp K H v d->OX K H vs ds->OX K H (v::vs) (d::ds)
end
section
variable{X:Cx}{aa:List (Addr×Obj)}{σ:St}{H:Hp}{s:Ad}
mutual
theorem c7.reads(I:c7 X aa σ H s): ∀{v:V} {d:Lk} {u:Value},Dp X.K H v d->cO v u-> ∃as,Reads s.heap u d as
 |_,_,_,.non,r=>by cases r;exact⟨_,.none⟩
 |_,_,_,.bl b,r=>by cases r;exact⟨_,.bool b⟩
 |_,_,_,.int i,r=>by obtain⟨t,rfl⟩:=r;exact⟨_,.int i t⟩
 |_,_,_,.str x,r=>by obtain⟨t,rfl⟩:=r;exact⟨_,.str x t⟩
 |_,_,_,.lst q all,r=>by
  cases r
  obtain⟨its,rv,⟨o,n,e,c,_,d⟩,_⟩:=I.list q
  obtain⟨as,h⟩:=c7.readsAll I all rv
  exact⟨_,.list e c d (by simpa using h)⟩
 |_,_,_,.tup q all,r=>by
  cases r
  obtain⟨its,rv,⟨o,e,c,n,d⟩,_⟩:=I.tuple q
  obtain⟨as,h⟩:=c7.readsAll I all rv
  exact⟨_,.tuple e c d (by simpa using h)⟩
theorem c7.readsAll(I:c7 X aa σ H s): ∀{vs:List V} {ds:List Lk} {us:List Value},OX X.K H vs ds->cA vs us-> ∃as,ReadsAll s.heap us ds as
 | _,_,_,.nil,r => by cases r;exact ⟨_,.nil⟩
 | _,_,_,.cons h t,r => by
  cases r with
  |cons r1 r2=>
   obtain⟨as,h1⟩:=c7.reads I h r1
   obtain⟨bs,h2⟩:=c7.readsAll I t r2
   exact⟨_,.cons h1 h2⟩
end
end
def rEqD(K:Ai):R2:=fun x y H Q=> ∃d e,Dp K H x d/\Dp K H y e/\Dz d=true/\Dz e=true/\Q (.bl (Hv d e)) H
def rNeD(K:Ai):R2:=fun x y H Q=> ∃d e,Dp K H x d/\Dp K H y e/\Dz d=true/\Dz e=true/\Q (.bl (!PyData.eqv d e)) H
section
variable{X:Cx}
theorem zE8(hu:X.A.units+64<cLine):YD X (Cn .Eq) (rEqD X.K):=by
 intro aa s σ H x y v u Q I rx ry h
 obtain⟨d,e,hd,he,sd,se,q⟩:=h
 obtain⟨as,h1⟩:=I.reads hd rx
 obtain⟨bs,h2⟩:=I.reads he ry
 exact eq_dataH h1 h2 sd se hu (L7 I q rfl)
theorem zE6(hu:X.A.units+64<cLine):YD X (Cn .NotEq) (rNeD X.K):=by
 intro aa s σ H x y v u Q I rx ry h
 obtain⟨d,e,hd,he,sd,se,q⟩:=h
 obtain⟨as,h1⟩:=I.reads hd rx
 obtain⟨bs,h2⟩:=I.reads he ry
 exact ne_dataH h1 h2 sd se hu (L7 I q rfl)
theorem SV: ∀{ns:List Int} {us:List Value},cA (ns.map V.int) us->Ox us ns
 |[],_,.nil=> .nil
 |i::ns,_,.cons r t=>by
  obtain⟨k,rfl⟩:=r
  exact .cons i k (SV t)
inductive M4:List Kj->List (Str×V)->Prop
 |nil:M4 [] []
 |cons {e:Kj} {es:List Kj} {x:Str} {t:Tok} {v:V} {D:List (Str×V)}:e.key= .str x t->cO v e.val->M4 es D->M4 (e::es) ((x,v)::D)
def KTab(K:Ai)(a:Addr)(D:List (Str×V)):Prop:=
 (a==Ez)=false/\ ∃o es ep,K.lookup a=some o/\o.ExactDict/\o.data= .dict es ep/\M4 es.toList D
theorem M4.rows{es:List Kj}{D:List (Str×V)}(h:M4 es D):KTD.Rows cO es D:=by
 induction h with
 |nil=>exact .nil
 |cons h1 h2 _ ih=>exact .cons h1 h2 ih
theorem J7{A:Bx}{E:Value->Ad->Prop}{s:Ad}{K:Ai}{prog:Au}{w:World}{a:Addr}{D:List (Str×V)}{k:Str}{tk:Tok}{Q:Option Value->Ad->Prop}(hK:K.In s.heap)(T:KTab K a D)
  (h1: ∀d v,Ew k D=some d->cO d v->Q (some v) {s with toks:=s.toks+1}) (h2:Ew k D=none->Q none {s with toks:=s.toks+1}):
  wpAny (model prog w) A (dictGet a (.str k tk)) Q E s:=by
 obtain⟨_,o,es,ep,ho,hc,hd,hr⟩:=T
 have ho:=hK _ _ ho
 have hr:=hr.rows
 unfold dictGet
 try with_reducible refine Bo ?_
 refine Aa (wpAny_pyHash_str (Aa (KTD.kt_dictFind_strs (s:={s with toks:=s.toks+1}) ho hd (by obtain⟨l⟩:=es;simpa using hr.exact) ?_)))
 have hq:Q (findBy (fun k v=>v.isStr k) es k) {s with toks:=s.toks+1}:=by
  have hf:findBy (fun k v=>v.isStr k) es k=(es.toList.find? fun e=>e.key.isStr k).map (·.val):=by
   obtain⟨l⟩:=es
   simp[findBy]
  rw[hf]
  cases hat:Ew k D with
  |some d=>obtain⟨v,hv,hfl⟩:=hr.find_some hat;rw[hv];exact h1 d v hat hfl
  |none=>rw[hr.find_none hat];exact h2 hat
 rw[findBy_of_findIdx?] at hq
 cases hi:es.findIdx? fun e=>e.key.isStr k with
 |none=>rw[hi] at hq;exact Af hq
 |some i=>rw[hi] at hq;exact Aa (wpAny_dictEntries (s:={s with toks:=s.toks+1}) ho hd (Af hq))
theorem zBF:DV X (fun x y H Q=> ∃a k D v,x= .ref a/\y= .str k/\KTab X.K a D/\Ew k D=some v/\Q v H):=by
 intro value slice aa s σ H x y v u Q I rx ry h hs
 obtain⟨a,k,D,d,rfl,rfl,T,hk,q⟩:=h
 cases rx
 obtain⟨t,rfl⟩:=ry
 have hT:s.TypeIs (.ref a) "dict":=by
  obtain⟨_,o,es,ep,ho,hc,_⟩:=T
  exact⟨o,I.kIn _ _ ho,hc.1⟩
 have main:wpAny (model X.prog X.w) X.A (Js (.ref a) (.str k t)) (EP X aa σ Q) X.xe s:=by
  unfold Js
  try with_reducible refine Bo ?_
  refine Aa (Jk hT (by decide) ?_)
  refine Aa (Cy (name:=Az "__getitem__") hT Jb
   (Eb Jb hT PySem.F.entry_dict_getitem ?_ (PySem.F.args_dict_getitem_2 _ _)))
  show wpAny _ _ (dictGet a (.str k t)>>=_) _ _ s
  exact Aa (J7 I.kIn T (fun d' v' ha hv=>Af ⟨v',rfl,Af (by
   rw[hk] at ha;cases ha
   exact⟨d,H,I.tok _,hv,q⟩)⟩) fun hn=>by rw[hk] at hn;cases hn)
 exact Py hT PySem.F.slot_dict_getitem.lookup main hs
end
section
variable{prog:Au}{w:World}{A:Bx}{E:Value->Ad->Prop}{s:Ad}
theorem NI{it t:Addr}{items:Array Value}(hne:t≠it): ∀(n i:Nat) (s:Ad) (Q:List Value->Ad->Prop),s.heap.IsListIter it t i->s.heap.IsList t items->i+n<=items.size→
  (∀h',h'.IsListIter it t (i+n)->Ef it s.heap h'->Q ((items.toList.drop i).take n) {s with heap:=h'})->wpAny (model prog w) A (draw (.ref it) n) Q E s
 |0,i,s,Q,hit,_,_,hQ=>by
  show wpAny _ _ (pure []) Q E s
  exact Af (by simpa using hQ s.heap hit (Heap.SameBut.refl ..))
 |n+1,i,s,Q,hit,ht,hle,hQ=>by
  have hlt:i<items.size:=by omega
  show wpAny _ _ (pyNext (.ref it)>>=_) Q E s
  refine Aa (Kf hit ht (x:=items[i]) (by simp[hlt]) fun h₁ hit₁ hs₁=> ?_)
  refine Aa (Bo (NI hne n (i+1) _ _ hit₁ (ht.extBut hs₁.extBut hne) (by omega) fun h₂ hit₂ hs₂=>Af ?_))
  have hd:items.toList.drop i=items[i]::items.toList.drop (i+1):=by simp[Dx,hlt]
  have:=hQ h₂ (by rw[show i+(n+1)=i+1+n by omega];exact hit₂) (hs₁.trans hs₂)
  rw[hd,List.take_succ_cons] at this
  exact this
theorem SD{t:Addr}{items:Array Value}{Q:List Value->Ad->Prop}(hh:A.handled=none)(ht:s.heap.IsList t items)
  (hQ: ∀h',Ic s.heap.objs.size s.heap h'->Q items.toList {s with heap:=h'}):wpAny (model prog w) A (Lr (.ref t) items.size none) Q E s:=by
 have hlt:t≠s.heap.objs.size:=by obtain⟨o,ho,_⟩:=ht;exact Be (Aj ho)
 unfold Lr
 refine Aa ?_
 ·unfold notIterableAtAll
  refine Aa (wpAny_specialOf ht.typeIs PySem.F.slot_list_iter.lookup ?_)
  refine Af ?_
  simp only[Fk,if_false]
  refine Aa (Bo (Hc ht ?_))
  have htp:(s.heap.push {cls:= .type "list_iterator",data:= .fields #[.ref t,.int 0 0]}).IsList t items:=by
   obtain⟨o,ho,r⟩:=ht
   exact⟨o,Ae _ ho,r⟩
  refine Aa (Bo (NI hlt items.size 0 _ _ ⟨_,At _ rfl,rfl,rfl⟩ htp (by omega) fun h₁ hit₁ hs₁=> ?_))
  have gd:List.take items.size (List.drop 0 items.toList)=items.toList:=by rw[Pk];exact Dt (by simp)
  rw[gd]
  rw[if_neg (by simp)]
  have ht₁:h₁.IsList t items:=htp.extBut hs₁.extBut hlt
  refine Aa (Bo (Km hh hit₁ ht₁ (by simp) fun h₂ he₂=> ?_))
  simp only[Option.isSome_none,Fk,if_false]
  refine Af (hQ h₂ fun b o hb e=>he₂ b o hb (hs₁.extBut b o hb (Ae _ e)))
theorem SJ{env:Env}{ji:List Expr}{x1}{pos:Pos}{t:Addr}{items:Array Value}{Q:Unit->Ad->Prop}(hh:A.handled=none)(ht:s.heap.IsList t items)
  (hn:(assignEach ji env).length=items.size) (me:(assignEach ji env).findIdx? (·.1)=none)
  (h: ∀h',Ic s.heap.objs.size s.heap h'->wpAny (model prog w) A (assignInOrder ((assignEach ji env).map (·.2)) items.toList) Q E {s with heap:=h'}):
  wpAny (model prog w) A (assign (.Tuple ji x1 pos) env (.ref t)) Q E s:=by
 rw[assign_Tuple]
 refine Aa (Cv ?_)
 unfold unpack
 rw[hn,me]
 exact Aa (Bo (SD hh ht h))
end
section
variable{X:Cx}{pos:Pos}
def gLst(K:Ai)(n:Nat)(t:D2):TG:=fun v σ H Q=> ∃a xs,v= .ref a/\YO K H a xs/\xs.length=n/\t xs σ H Q
theorem zE1{es:List Expr}{k:Nat}{t:D2}{n:Nat}(hc:X.calm=true)(h:F1 X es t)
  (hn:(assignEach es X.env).length=n:=by rfl) (hst:(assignEach es X.env).findIdx? (·.1)=none:=by rfl):PG X (.Tuple es k pos) (gLst X.K n t):=by
 intro aa s σ H v u Q I r hw
 obtain⟨a,xs,e1,hq,hl,hw⟩:=hw
 subst e1
 cases r
 obtain⟨its,rv,ht,hz⟩:=I.list hq
 refine SJ (I.ok.hd hc) ht.isList (by simp[hn,<- hl,rv.length]) hst fun h' hx=> ?_
 have I1:c7 X aa σ H {s with heap:=h'}:=I.kept (t':=s.toks) fun b o e=>hx b o (Be (Aj e)) e
 exact h aa _ σ H xs _ Q I1 (by simpa using rv) hw
def FnAt(X:Cx)(f:Addr)(sp:Sp):Prop:= ∃(k:Nat) (fd:Ck) (ps:List Str),bU X.prog X.w X.K X.mg X.base CX0 k f fd ps sp/\aH k X.A/\Fj X.K (.ref f)=true/\WG X.K fd ps []
def zD7(X:Cx)(tf:TE)(t:TA):TE:=fun σ H Q=>tf σ H fun x H1=> ∃f sp,x= .ref f/\FnAt X f sp/\t σ H1 fun vs H2=>sp vs H2 Q E0
end
section
variable{X:Cx}{K:Ai}
theorem zHJ(h:X.K=K):aL X (.type "list") (fun xs H Q=> ∃p ys,xs=[.ref p]/\(YO K H p ys∨W4 K H p ys)/\ ∀l,H l=none->Q (.ref l) (bL H l (.lst ys))):=by subst h;exact LU
theorem zF7(h:X.K=K):aL X (.type "tuple") (fun xs H Q=> ∃p ys,xs=[.ref p]/\((YO K H p ys/\ ∀l,H l=none->Q (.ref l) (bL H l (.tup ys)))∨(W4 K H p ys/\Q (.ref p) H))):=by subst h;exact OI
theorem kEqD(h:X.K=K)(hu:X.A.units+64<cLine):YD X (Cn .Eq) (rEqD K):=by subst h;exact zE8 hu
theorem J4(h:X.K=K)(hu:X.A.units+64<cLine):YD X (Cn .NotEq) (rNeD K):=by subst h;exact zE6 hu
theorem zCF(h:X.K=K){es:List Expr}{k:Nat}{t:D2}{n:Nat}{pos:Pos}(hc:X.calm=true)(hg:F1 X es t)(hn:(assignEach es X.env).length=n:=by rfl)(hst:(assignEach es X.env).findIdx? (·.1)=none:=by rfl):PG X (.Tuple es k pos) (gTup K n t):=by subst h;exact zDZ hc hg hn hst
theorem zHI(h:X.K=K){es:List Expr}{k:Nat}{t:D2}{n:Nat}{pos:Pos}(hc:X.calm=true)(hg:F1 X es t)(hn:(assignEach es X.env).length=n:=by rfl)(hst:(assignEach es X.env).findIdx? (·.1)=none:=by rfl):PG X (.Tuple es k pos) (gLst K n t):=by subst h;exact zE1 hc hg hn hst
theorem zF1(h:X.K=K){tg l:Expr}{tl:TE}(hl:PE X l tl):PI X tg l (zCH K tl):=by subst h;exact zAR hl
theorem zHH(h:X.K=K){tg l:Expr}{tl:TE}(hl:PE X l tl):PI X tg l (iTup K tl):=by subst h;exact zDY hl
theorem kBm(h:X.K=K){o e:Expr}{es:List Expr}{to:TE}{t:TA}{name:Str}{ai ae:Pos}{T id:String}{r:V->List V->Hp->VK->Prop}(pa:PlainAttrs T)(slot:Slot T name id)(hty:Nj (.builtin id)=pure (.type "method_descriptor")) (hm:MtR X id r) (ho:PE X o to) (ha:PA X (e::es) t)
  (cf : Fu o name X.env (eval o X.env) = eval o X.env := by rfl)
  (dq : ((Dq ae (starEach (e :: es) X.env)).all (fun x => !x.1) && (Er ae (Cr [] X.env)).all (fun x => x.1.isSome)
   && decide ((e::es).length+([]:List Ge).length+(if([]:List Ge).isEmpty then 0 else 1)<30))=true:=by rfl)
  (cb:(ai.endLine==ae.line)=true:=by rfl) (hs:starEach (e::es) X.env=(false,eval e X.env)::starEach es X.env:=by rfl) (bj:(Dq ae (starEach es X.env)).any (·.1)=false:=by rfl):
  PE X (.Call (.Attribute o name ai) (e::es) [] ae) (tBM K T r to t):=by
 subst h;exact zGY pa slot hty hm ho ha cf dq cb hs bj
end
theorem zFP:Bl "len"=some (.builtin "len"):=by decide+kernel
theorem AA:Bl "min"=some (.builtin "min"):=by decide+kernel
theorem zFO:Bl "max"=some (.builtin "max"):=by decide+kernel
theorem cK:Bl "isinstance"=some (.builtin "isinstance"):=by decide+kernel
theorem F6:Bl "list"=some (.type "list"):=by decide+kernel
theorem YQ:Bl "tuple"=some (.type "tuple"):=by decide+kernel
theorem zBO:Bl "bool"=some (.type "bool"):=by decide+kernel
theorem zFQ:Bl "int"=some (.type "int"):=by decide+kernel
theorem AB:Bl "str"=some (.type "str"):=by decide+kernel
structure Def(P:Au)(w:World)(K:Ai)(mg:Str->Option Value)(base:Heap)(x:Str)(k:Nat)(ps:List Str)(sp:Sp)(f:Addr):Prop where
 at_:mg x=some (.ref f)
 ok: ∃fd,bU P w K mg base CX0 k f fd ps sp/\WG K fd ps []
 kp:Fj K (.ref f)=true
section
variable{X:Cx}{x:Str}{k j:Nat}{ps:List Str}{sp:Sp}{f:Addr}{p pos:Pos}{e:Expr}{es:List Expr}{t:TA}
theorem A9(D:Def X.prog X.w X.K X.mg X.base x k ps sp f)(hr:aH j X.A)(hk:k<=j)(hg:Gl X x)(ha:PA X (e::es) t)(hdb:(x==("__debug__":Str))=false:=by decide)
  (he:starEach (e::es) X.env=(false,eval e X.env)::starEach es X.env:=by rfl) (hpl:(Dq pos (starEach es X.env)).any (·.1)=false:=by rfl):
  PE X (.Call (.Name x p) (e::es) [] pos) (K0 sp [] E0 t):=by
 obtain⟨fd,F,B⟩:=D.ok
 exact zAW F (hr.mono hk) hg D.at_ D.kp B .nil A7 ha hdb he hpl
theorem Def.fnAt(D:Def X.prog X.w X.K X.mg X.base x k ps sp f)(hr:aH j X.A)(hk:k<=j):FnAt X f sp:=by
 obtain⟨fd,F,B⟩:=D.ok
 exact⟨k,fd,ps,F,hr.mono hk,D.kp,B⟩
end
theorem dD{H:Hp}{p:Addr}{o:HO}(hp:H p=none):bC H (bL H p o):=fun b o' e=>by
 rw[cH (Y1 e hp)]
 exact e
theorem KZ(ns:List Int):Dz (.list (ns.map Mu))=true:=by
 have h1:Gb (.list (ns.map Mu))=true:=by simp only[Gb,canLayAll_ints]
 have h2:Iy (.list (ns.map Mu))<=64:=by
  simp only[Iy,depthAll_ints]
  decide
 unfold Dz
 rw[h1,decide_eq_true h2]
 rfl
inductive dM where
 |non|bl (b:Bool)|int (i:Int)|str (x:Str)|ty (n:String)|fn (x:Str)|tup (ds:List dM)|lst (ds:List dM)|dct (ks:List aF) (ds:List dM)|exn (x:Str)
def FzL(K:Ai)(H:Hp)(a:Addr)(xs:List V):Prop:=
 (∃o,H a=some (.frz o (.lst xs)))∨
  ∃(o:Obj) (its:Array Value) (n:Nat),K.lookup a=some o/\o.cls= .type "list" /\o.dict=none/\o.data= .seq its n/\its.size<=sizeLine/\cA xs its.toList
theorem FzL.sq{K:Ai}{H:Hp}{a:Addr}{xs:List V}(h:FzL K H a xs):YO K H a xs:=by
 rcases h with⟨o,h⟩|h
 ·exact .inl (.inr ⟨o,h⟩)
 ·exact .inr h
def FZ(h:Heap)(a C:Addr):Prop:= ∃o vs,h.get? a=some o/\o.cls= .ref C/\o.data= .fields vs
mutual
inductive b6(K:Ai)(N:Addr->Prop)(H:Hp):(Addr->Prop)->V->dM->Prop
 |non {M:Addr->Prop}:b6 K N H M .non .non
 |bl {M:Addr->Prop} (b:Bool):b6 K N H M (.bl b) (.bl b)
 |int {M:Addr->Prop} (i:Int):b6 K N H M (.int i) (.int i)
 |str {M:Addr->Prop} (x:Str):b6 K N H M (.str x) (.str x)
 |ty {M:Addr->Prop} (n:String):b6 K N H M (.ty n) (.ty n)
 |fn {M:Addr->Prop} {a:Addr} {x:Str}:Fq K mainGlobals x=some (some (.ref a))->b6 K N H M (.ref a) (.fn x)
 |tup {M:Addr->Prop} {a:Addr} {xs:List V} {ds:List dM}:W4 K H a xs->cU K N H xs ds->b6 K N H M (.ref a) (.tup ds)
 |lst {M:Addr->Prop} {a:Addr} {xs:List V} {ds:List dM}:H a=some (.lst xs)-> ¬M a->cU K N H xs ds->b6 K N H M (.ref a) (.lst ds)
 |fzl {M:Addr->Prop} {a:Addr} {xs:List V} {ds:List dM}:FzL K H a xs->cU K N H xs ds->b6 K N H M (.ref a) (.lst ds)
 |dct {M:Addr->Prop} {a:Addr} {kvs:List (aF×V)} {ds:List dM}:H a=some (.dK kvs)-> ¬M a->cU K N H (kvs.map Hr) ds->b6 K N H M (.ref a) (.dct (kvs.map Hs) ds)
 |ktb {M:Addr->Prop} {a:Addr} {D:List (Str×V)} {ds:List dM}:KTab K a D->cU K N H (D.map Hr) ds->b6 K N H M (.ref a) (.dct (D.map fun p=> .inr p.1) ds)
 |exn {M:Addr->Prop} {a C:Addr} {x:Str} {φ:Heap->Prop}:Fq K mainGlobals x=some (some (.ref C))->H a=some (.ext φ)->(∀h,φ h->FZ h a C)->b6 K N H M (.ref a) (.exn x)
inductive cU(K:Ai)(N:Addr->Prop)(H:Hp):List V->List dM->Prop
 |nil:cU K N H [] []
 |cons {v:V} {vs:List V} {d:dM} {ds:List dM}:b6 K N H N v d->cU K N H vs ds->cU K N H (v::vs) (d::ds)
end
def Hard:HO->Prop
 | .tup _=>True
 | .frz _ _=>True
 | .ext _=>True
 |_=>False
def Fr(P:Addr->Prop)(H H':Hp):Prop:= ∀b o,H b=some o->(P b->Hard o)->H' b=some o
theorem Fr.refl(P:Addr->Prop)(H:Hp):Fr P H H:=fun _ _ h _=>h
theorem Fr.trans{P:Addr->Prop}{H H1 H2:Hp}(a:Fr P H H1)(b:Fr P H1 H2):Fr P H H2:=fun c o h n=>b c o (a c o h n) n
theorem Fr.mono{P P':Addr->Prop}{H H':Hp}(a:Fr P H H')(h: ∀b,P b->P' b):Fr P' H H':=fun c o e n=>a c o e fun z=>n (h c z)
theorem bC.fr{P:Addr->Prop}{H H':Hp}(a:bC H H'):Fr P H H':=fun c o h _=>a c o h
section
variable{K:Ai}{N N' M M' P:Addr->Prop}{H H':Hp}
theorem Fr.tup(f:Fr P H H'){a:Addr}{xs:List V}(h:W4 K H a xs):W4 K H' a xs:=by
 rcases h with(h|⟨o,h⟩)|h
 ·exact .inl (.inl (f _ _ h fun _=>trivial))
 ·exact .inl (.inr ⟨o,f _ _ h fun _=>trivial⟩)
 ·exact .inr h
theorem Fr.fzl(f:Fr P H H'){a:Addr}{xs:List V}(h:FzL K H a xs):FzL K H' a xs:=by
 rcases h with⟨o,h⟩|h
 ·exact .inl ⟨o,f _ _ h fun _=>trivial⟩
 ·exact .inr h
mutual
theorem b6.fr(f:Fr P H H')(hN: ∀a,P a->N a): ∀{M:Addr->Prop} {v:V} {d:dM},(∀a,P a->M a)->b6 K N H M v d->b6 K N H' M v d
 |_,_,_,_,.non=> .non
 |_,_,_,_,.bl b=> .bl b
 |_,_,_,_,.int i=> .int i
 |_,_,_,_,.str x=> .str x
 |_,_,_,_,.ty n=> .ty n
 |_,_,_,_,.fn h=> .fn h
 |_,_,_,_,.tup q r=> .tup (f.tup q) (cU.fr f hN r)
 |_,_,_,hM,.lst q n r=> .lst (f _ _ q fun z=>absurd (hM _ z) n) n (cU.fr f hN r)
 |_,_,_,_,.fzl q r=> .fzl (f.fzl q) (cU.fr f hN r)
 |_,_,_,hM,.dct q n r=> .dct (f _ _ q fun z=>absurd (hM _ z) n) n (cU.fr f hN r)
 |_,_,_,_,.ktb q r=> .ktb q (cU.fr f hN r)
 |_,_,_,_,.exn p q r=> .exn p (f _ _ q fun _=>trivial) r
theorem cU.fr(f:Fr P H H')(hN: ∀a,P a->N a): ∀{vs:List V} {ds:List dM},cU K N H vs ds->cU K N H' vs ds
 |_,_,.nil=> .nil
 |_,_,.cons h t=> .cons (b6.fr f hN hN h) (cU.fr f hN t)
end
mutual
theorem b6.mono(hN: ∀a,N' a->N a): ∀{M M':Addr->Prop} {v:V} {d:dM},(∀a,M' a->M a)->b6 K N H M v d->b6 K N' H M' v d
 |_,_,_,_,_,.non=> .non
 |_,_,_,_,_,.bl b=> .bl b
 |_,_,_,_,_,.int i=> .int i
 |_,_,_,_,_,.str x=> .str x
 |_,_,_,_,_,.ty n=> .ty n
 |_,_,_,_,_,.fn h=> .fn h
 |_,_,_,_,_,.tup q r=> .tup q (cU.mono hN r)
 |_,_,_,_,hM,.lst q n r=> .lst q (fun z=>n (hM _ z)) (cU.mono hN r)
 |_,_,_,_,_,.fzl q r=> .fzl q (cU.mono hN r)
 |_,_,_,_,hM,.dct q n r=> .dct q (fun z=>n (hM _ z)) (cU.mono hN r)
 |_,_,_,_,_,.ktb q r=> .ktb q (cU.mono hN r)
 |_,_,_,_,_,.exn p q r=> .exn p q r
theorem cU.mono(hN: ∀a,N' a->N a): ∀{vs:List V} {ds:List dM},cU K N H vs ds->cU K N' H vs ds
 |_,_,.nil=> .nil
 |_,_,.cons h t=> .cons (b6.mono hN hN h) (cU.mono hN t)
end
theorem b6.same(f:bC H H'){v:V}{d:dM}(h:b6 K N H M v d):b6 K N H' M v d:=h.fr f.fr (fun _ z=>z.elim) (P:=fun _=>False) fun _ z=>z.elim
theorem cU.same(f:bC H H'){vs:List V}{ds:List dM}(h:cU K N H vs ds):cU K N H' vs ds:=h.fr f.fr (P:=fun _=>False) fun _ z=>z.elim
theorem cU.length: ∀{vs:List V} {ds:List dM},cU K N H vs ds->vs.length=ds.length
 |_,_,.nil=>rfl
 |_,_,.cons _ t=>congrArg (· +1) (cU.length t)
theorem cU.append: ∀{vs ws:List V} {ds es:List dM},cU K N H vs ds->cU K N H ws es->cU K N H (vs++ws) (ds++es)
 |_,_,_,_,.nil,s=>s
 |_,_,_,_,.cons h t,s=> .cons h (cU.append t s)
theorem cU.get: ∀{vs:List V} {ds:List dM} {i:Nat} {d:dM},cU K N H vs ds->ds[i]? =some d-> ∃v,vs[i]? =some v/\b6 K N H N v d
 |_,_,_,_,.nil,e=>by simp at e
 |_,_,0,_,.cons r _,e=>by simp at e;subst e;exact⟨_,rfl,r⟩
 |_,_,i+1,x,.cons _ t,e=>by
  obtain⟨u,h1,h2⟩:=cU.get (i:=i) (d:=x) t (by simpa using e)
  exact⟨u,by simpa using h1,h2⟩
theorem cU.take: ∀{vs:List V} {ds:List dM} (n:Nat),cU K N H vs ds->cU K N H (vs.take n) (ds.take n)
 |_,_,0,_=> .nil
 |_,_,_+1,.nil=> .nil
 |_,_,n+1,.cons r t=> .cons r (cU.take n t)
theorem cU.drop: ∀{vs:List V} {ds:List dM} (n:Nat),cU K N H vs ds->cU K N H (vs.drop n) (ds.drop n)
 |_,_,0,r=>r
 |_,_,_+1,.nil=> .nil
 |_,_,n+1,.cons _ t=>cU.drop n t
theorem cU.set{v:V}{d:dM}(h:b6 K N H N v d): ∀{vs:List V} {ds:List dM} (i:Nat),cU K N H vs ds->cU K N H (vs.set i v) (ds.set i d)
 |_,_,_,.nil=> .nil
 |_,_,0,.cons _ t=> .cons h t
 |_,_,i+1,.cons q t=> .cons q (cU.set h i t)
theorem cU.snoc{vs:List V}{ds:List dM}{v:V}{d:dM}(r:cU K N H vs ds)(h:b6 K N H N v d):cU K N H (vs++[v]) (ds++[d]):=r.append (.cons h .nil)
end
mutual
def dM.isD:dM->Bool
 | .non=>true
 | .bl _=>true
 | .int _=>true
 | .str _=>true
 | .ty _=>false
 | .fn _=>false
 | .tup ds=>OL ds
 | .lst ds=>OL ds
 | .dct _ _=>false
 | .exn _=>false
def OL:List dM->Bool
 |[]=>true
 |d::ds=>d.isD && OL ds
end
mutual
def dM.pd:dM->Lk
 | .non=> .none
 | .bl b=> .bool b
 | .int i=> .int i
 | .str x=> .str x
 | .ty _=> .none
 | .fn _=> .none
 | .tup ds=> .tuple (DR ds)
 | .lst ds=> .list (DR ds)
 | .dct _ _=> .none
 | .exn _=> .none
def DR:List dM->List Lk
 |[]=>[]
 |d::ds=>d.pd::DR ds
end
mutual
def dM.hard:dM->Bool
 | .tup ds=>WJ ds
 | .lst _=>false
 | .dct _ _=>false
 |_=>true
def WJ:List dM->Bool
 |[]=>true
 |d::ds=>d.hard && WJ ds
end
section
variable{K:Ai}{N:Addr->Prop}{H:Hp}
mutual
theorem b6.dp: ∀{M:Addr->Prop} {v:V} {d:dM},b6 K N H M v d->d.isD=true->Dp K H v d.pd
 |_,_,_,.non,_=> .non
 |_,_,_,.bl b,_=> .bl b
 |_,_,_,.int i,_=> .int i
 |_,_,_,.str x,_=> .str x
 |_,_,_,.ty n,h=>by simp[dM.isD] at h
 |_,_,_,.fn _,h=>by simp[dM.isD] at h
 |_,_,_,.tup q r,h=> .tup q (cU.dp r (by simpa[dM.isD] using h))
 |_,_,_,.lst q n r,h=> .lst (YO.of q) (cU.dp r (by simpa[dM.isD] using h))
 |_,_,_,.fzl q r,h=> .lst q.sq (cU.dp r (by simpa[dM.isD] using h))
 |_,_,_,.dct _ _ _,h=>by simp[dM.isD] at h
 |_,_,_,.ktb _ _,h=>by simp[dM.isD] at h
 |_,_,_,.exn _ _ _,h=>by simp[dM.isD] at h
theorem cU.dp: ∀{vs:List V} {ds:List dM},cU K N H vs ds->OL ds=true->OX K H vs (DR ds)
 |_,_,.nil,_=> .nil
 |_,_,.cons h t,e=> .cons (b6.dp h (by simp[OL] at e;exact e.1)) (cU.dp t (by simp[OL] at e;exact e.2))
end
mutual
theorem b6.hard{N':Addr->Prop}: ∀{M M':Addr->Prop} {v:V} {d:dM},b6 K N H M v d->d.hard=true->b6 K N' H M' v d
 |_,_,_,_,.non,_=> .non
 |_,_,_,_,.bl b,_=> .bl b
 |_,_,_,_,.int i,_=> .int i
 |_,_,_,_,.str x,_=> .str x
 |_,_,_,_,.ty n,h=> .ty n
 |_,_,_,_,.fn q,h=> .fn q
 |_,_,_,_,.tup q r,h=> .tup q (cU.hard r (by simpa[dM.hard] using h))
 |_,_,_,_,.lst q n r,h=>by simp[dM.hard] at h
 |_,_,_,_,.fzl q r,h=>by simp[dM.hard] at h
 |_,_,_,_,.dct _ _ _,h=>by simp[dM.hard] at h
 |_,_,_,_,.ktb _ _,h=>by simp[dM.hard] at h
 |_,_,_,_,.exn p q r,_=> .exn p q r
theorem cU.hard{N':Addr->Prop}: ∀{vs:List V} {ds:List dM},cU K N H vs ds->WJ ds=true->cU K N' H vs ds
 |_,_,.nil,_=> .nil
 |_,_,.cons h t,e=> .cons (b6.hard h (by simp[WJ] at e;exact e.1)) (cU.hard t (by simp[WJ] at e;exact e.2))
end
end
inductive Sl where
 |no|va (d:dM)|ow (d:dM)
abbrev Ev:=List Sl
structure Bs where
 Z:Addr->Prop
 P:Addr->Prop
 H0:Hp
 mu:Nat->Option Addr
 kp:List (V×dM)
def Nn(B:Bs)(O:Nat->Option Addr):Addr->Prop:=fun a=>B.Z a∨ ∃i,O i=some a
def OA(O:Nat->Option Addr):Addr->Prop:=fun a=> ∃i,O i=some a
inductive QL(K:Ai)(N:Addr->Prop)(H:Hp)(a:Addr):dM->Prop
 |lst {xs:List V} {ds:List dM}:H a=some (.lst xs)->cU K N H xs ds->QL K N H a (.lst ds)
 |dct {kvs:List (aF×V)} {ds:List dM}:H a=some (.dK kvs)->cU K N H (kvs.map Hr) ds->QL K N H a (.dct (kvs.map Hs) ds)
theorem QL.fr{K:Ai}{N P:Addr->Prop}{H H':Hp}{a:Addr}{d:dM}(f:Fr P H H')(hN: ∀a,P a->N a)(ha: ¬P a):QL K N H a d->QL K N H' a d
 | .lst q r=> .lst (f _ _ q fun z=>absurd z ha) (r.fr f hN)
 | .dct q r=> .dct (f _ _ q fun z=>absurd z ha) (r.fr f hN)
theorem QL.mono{K:Ai}{N N':Addr->Prop}{H:Hp}{a:Addr}{d:dM}(h: ∀b,N' b->N b):QL K N H a d->QL K N' H a d
 | .lst q r=> .lst q (r.mono h)
 | .dct q r=> .dct q (r.mono h)
theorem QL.soft{K:Ai}{N:Addr->Prop}{H:Hp}{a:Addr}{d:dM}(h:QL K N H a d): ∃o,H a=some o/\¬Hard o:=by
 cases h with
 |lst q _=>exact⟨_,q,fun z=>z⟩
 |dct q _=>exact⟨_,q,fun z=>z⟩
theorem QL.rep{K:Ai}{N M:Addr->Prop}{H:Hp}{a:Addr}{d:dM}(h:QL K N H a d)(hM: ¬M a):b6 K N H M (.ref a) d:=by
 cases h with
 |lst q r=>exact .lst q hM r
 |dct q r=>exact .dct q hM r
structure bG(K:Ai)(ml:List Nat)(B:Bs)(O:Nat->Option Addr)(H:Hp)(σ:St)(δ:Ev):Prop where
 len:σ.length=δ.length
 va: ∀(i:Nat) (d:dM),δ[i]? =some (Sl.va d)-> ∃v,σ[i]? =some (some v)/\b6 K (Nn B O) H (Nn B O) v d
 ow: ∀(i:Nat) (d:dM),δ[i]? =some (Sl.ow d)-> ∃a,O i=some a/\σ[i]? =some (some (.ref a))/\QL K (Nn B O) H a d
 dom: ∀(i:Nat) a,O i=some a-> ∃d,δ[i]? =some (Sl.ow d)
 inj: ∀i j a,O i=some a->O j=some a->i=j
 old: ∀i a,O i=some a-> ¬B.Z a/\(B.P a∨B.H0 a=none)
 zin: ∀a,B.Z a-> ∃o,H a=some o
 frm:Fr B.P B.H0 H
 par:(∀i a,B.mu i=some a->i∈ml)/\ ∀i∈ml,O i=B.mu i
 pin: ∀a,B.P a-> ∃o,H a=some o
 kep: ∀p∈B.kp,b6 K (Nn B O) H (Nn B O) p.1 p.2
section
variable{K:Ai}{ml:List Nat}{B:Bs}{O:Nat->Option Addr}{H H':Hp}{σ:St}{δ δ':Ev}
theorem bG.nin(S:bG K ml B O H σ δ){a:Addr}(h:Nn B O a): ∃o,H a=some o:=by
 rcases h with h|⟨i,h⟩
 ·exact S.zin a h
 ·obtain⟨d,e⟩:=S.dom i a h
  obtain⟨a',e1,_,w⟩:=S.ow i d e
  rw[h] at e1
  cases e1
  obtain⟨o,q,_⟩:=w.soft
  exact⟨o,q⟩
theorem bG.new(S:bG K ml B O H σ δ){a:Addr}(h:H a=none): ¬Nn B O a:=fun z=>by
 obtain⟨o,q⟩:=S.nin z
 rw[h] at q
 cases q
theorem bG.same(S:bG K ml B O H σ δ)(f:bC H H'):bG K ml B O H' σ δ where
 len:=S.len
 va:=fun i d e=>let ⟨v,a,b⟩:=S.va i d e;⟨v,a,b.same f⟩
 ow:=fun i d e=>let ⟨a,b,c,w⟩:=S.ow i d e;⟨a,b,c,w.fr (P:=fun _=>False) f.fr (fun _ z=>z.elim) fun z=>z⟩
 dom:=S.dom
 inj:=S.inj
 old:=S.old
 zin:=fun a h=>let ⟨o,q⟩:=S.zin a h;⟨o,f _ _ q⟩
 frm:=S.frm.trans f.fr
 par:=S.par
 pin:=fun a h=>let ⟨o,q⟩:=S.pin a h;⟨o,f _ _ q⟩
 kep:=fun p h=>(S.kep p h).same f
theorem bG.fresh(S:bG K ml B O H σ δ){a:Addr}(h:H a=none):B.H0 a=none:=by
 cases q:B.H0 a with
 | none => rfl
 |some o=>
  by_cases hp:B.P a
  ·obtain⟨o',e⟩:=S.pin a hp
   rw[h] at e
   cases e
  ·have := S.frm a o q fun z => absurd z hp
   rw[h] at this
   cases this
def Bs.add(B:Bs)(p:Addr):Bs:={B with Z:=fun a=>B.Z a∨a=p}
theorem UN{p:Addr}: ∀a,Nn B O a->Nn (B.add p) O a:=fun a h=>by
 rcases h with h|h
 ·exact .inl (.inl h)
 ·exact .inr h
mutual
theorem b6.away{p:Addr}(hp:H p=none)(N N':Addr->Prop)(hN: ∀a,N' a->N a∨a=p): ∀{M M':Addr->Prop} {v:V} {d:dM},(∀a,M' a->M a∨a=p)->b6 K N H M v d->b6 K N' H M' v d
 |_,_,_,_,_,.non=> .non
 |_,_,_,_,_,.bl b=> .bl b
 |_,_,_,_,_,.int i=> .int i
 |_,_,_,_,_,.str x=> .str x
 |_,_,_,_,_,.ty n=> .ty n
 |_,_,_,_,_,.fn h=> .fn h
 |_,_,_,_,_,.tup q r=> .tup q (cU.away hp N N' hN r)
 |_,_,_,_,hM,.lst q n r=> .lst q (fun z=>by rcases hM _ z with z|z;exact n z;rw[z,hp] at q;cases q) (cU.away hp N N' hN r)
 |_,_,_,_,_,.fzl q r=> .fzl q (cU.away hp N N' hN r)
 |_,_,_,_,hM,.dct q n r=> .dct q (fun z=>by rcases hM _ z with z|z;exact n z;rw[z,hp] at q;cases q) (cU.away hp N N' hN r)
 |_,_,_,_,_,.ktb q r=> .ktb q (cU.away hp N N' hN r)
 |_,_,_,_,_,.exn p q r=> .exn p q r
theorem cU.away{p:Addr}(hp:H p=none)(N N':Addr->Prop)(hN: ∀a,N' a->N a∨a=p): ∀{vs:List V} {ds:List dM},cU K N H vs ds->cU K N' H vs ds
 |_,_,.nil=> .nil
 |_,_,.cons h t=> .cons (b6.away hp N N' hN hN h) (cU.away hp N N' hN t)
end
theorem WW{p:Addr}: ∀a,Nn (B.add p) O a->Nn B O a∨a=p:=fun a h=>by
 rcases h with(h|h)|h
 ·exact .inl (.inl h)
 ·exact .inr h
 ·exact .inl (.inr h)
theorem bG.laid(S:bG K ml B O H σ δ){p:Addr}{o:HO}(hp:H p=none):bG K ml (B.add p) O (bL H p o) σ δ where
 len:=S.len
 va:=fun i d e=>let ⟨v,a,b⟩:=S.va i d e;⟨v,a,(b.away hp _ _ WW WW).same (dD hp)⟩
 ow:=fun i d e=>by
  obtain⟨a,b,c,w⟩:=S.ow i d e
  refine⟨a,b,c,?_⟩
  have hne: ∀o,H a=some o->bL H p o=bL H p o:=fun _ _=>rfl
  cases w with
  |lst q r=>exact .lst (dD hp _ _ q) ((r.away hp _ _ WW).same (dD hp))
  |dct q r=>exact .dct (dD hp _ _ q) ((r.away hp _ _ WW).same (dD hp))
 dom:=S.dom
 inj:=S.inj
 old:=fun i a h=>by
  refine⟨fun z=> ?_,(S.old i a h).2⟩
  rcases z with z|z
  ·exact(S.old i a h).1 z
  ·obtain⟨o,q⟩:=S.nin (.inr ⟨i,h⟩)
   rw[z,hp] at q
   cases q
 zin:=fun a h=>by
  rcases h with h|h
  ·obtain⟨o,q⟩:=S.zin a h
   exact⟨o,dD hp _ _ q⟩
  ·exact⟨_,by rw[h];exact cQ⟩
 frm:=S.frm.trans (dD hp).fr
 par:=S.par
 pin:=fun a h=>let ⟨o,q⟩:=S.pin a h;⟨o,dD hp _ _ q⟩
 kep:=fun p h=>((S.kep p h).away hp _ _ WW WW).same (dD hp)
theorem RD{i:Nat}{o:Option Addr}: ∀a,Nn B (fun j=>if j=i then none else O j) a->Nn B O a:=fun a h=>by
 rcases h with h|⟨j,h⟩
 ·exact .inl h
 ·refine .inr ⟨j,?_⟩
  by_cases hj:j=i
  ·simp[hj] at h
  ·simpa[hj] using h
theorem VE{α:Type}{l:List α}{i j:Nat}{x y:α}(h:(l.set i x)[j]? =some y):(j=i/\y=x/\i<l.length)∨(j≠i/\l[j]? =some y):=by
 by_cases hj:j=i
 ·subst hj
  rw[List.getElem?_set_self'] at h
  cases q:l[j]? with
  |none=>rw[q] at h;cases h
  |some z=>
   rw[q] at h
   cases h
   exact .inl ⟨rfl,rfl,(Ah.mp q).1⟩
 ·rw[Bm (Ee hj)] at h
  exact .inr ⟨hj,h⟩
theorem bG.setVa(S:bG K ml B O H σ δ){i:Nat}{v:V}{d:dM}(hm:i∉ml)(h:b6 K (Nn B O) H (Nn B O) v d):bG K ml B (fun j=>if j=i then none else O j) H (σ.set i (some v)) (δ.set i (.va d)) where
 len:=by rw[Bv,Bv,S.len]
 va:=fun j e q=>by
  rcases VE q with⟨rfl,z,hl⟩|⟨hj,q⟩
  ·cases z
   exact⟨v,by rw[Cm (by rw[S.len];exact hl)],h.mono (RD (o:=none)) (RD (o:=none))⟩
  ·obtain⟨u,e1,r⟩:=S.va j e q
   exact⟨u,by rw[Bm (Ee hj)];exact e1,r.mono (RD (o:=none)) (RD (o:=none))⟩
 ow:=fun j e q=>by
  rcases VE q with⟨rfl,z,hl⟩|⟨hj,q⟩
  ·cases z
  ·obtain⟨a,e1,e2,w⟩:=S.ow j e q
   exact⟨a,by simpa[hj] using e1,by rw[Bm (Ee hj)];exact e2,w.mono (RD (o:=none))⟩
 dom:=fun j a e=>by
  by_cases hj:j=i
  ·simp[hj] at e
  ·obtain ⟨d,q⟩ := S.dom j a (by simpa [hj] using e)
   exact⟨d,by rw[Bm (Ee hj)];exact q⟩
 inj:=fun j k a e1 e2=>by
  by_cases hj:j=i
  ·simp[hj] at e1
  ·by_cases hk:k=i
   ·simp[hk] at e2
   ·exact S.inj j k a (by simpa[hj] using e1) (by simpa[hk] using e2)
 old:=fun j a e=>by
  by_cases hj:j=i
  ·simp[hj] at e
  ·exact S.old j a (by simpa[hj] using e)
 zin:=S.zin
 frm:=S.frm
 par:=⟨S.par.1,fun j hj=>by
  have hne:j≠i:=fun z=>hm (z▸hj)
  have h2:O j=B.mu j:=S.par.2 j hj
  simpa[hne] using h2⟩
 pin:=S.pin
 kep:=fun p hp=>(S.kep p hp).mono (RD (o:=none)) (RD (o:=none))
theorem RZ{i:Nat}{p:Addr}: ∀a,Nn B (fun j=>if j=i then some p else O j) a->Nn (B.add p) O a:=fun a h=>by
 rcases h with h|⟨j,h⟩
 ·exact .inl (.inl h)
 ·by_cases hj:j=i
  ·simp[hj] at h
   exact .inl (.inr h.symm)
  ·exact .inr ⟨j,by simpa[hj] using h⟩
theorem bG.setOw{p:Addr}(S:bG K ml (B.add p) O H σ δ){i:Nat}{d:dM}(hm:i∉ml)(hl:i<δ.length)(hz: ¬B.Z p)(h0:B.H0 p=none)(h:QL K (Nn (B.add p) O) H p d):
  bG K ml B (fun j=>if j=i then some p else O j) H (σ.set i (some (.ref p))) (δ.set i (.ow d)) where
 len:=by rw[Bv,Bv,S.len]
 va := fun j e q => by
  rcases VE q with⟨rfl,z,_⟩|⟨hj,q⟩
  ·cases z
  ·obtain⟨u,e1,r⟩:=S.va j e q
   exact⟨u,by rw[Bm (Ee hj)];exact e1,r.mono RZ RZ⟩
 ow := fun j e q => by
  rcases VE q with⟨rfl,z,hl⟩|⟨hj,q⟩
  ·cases z
   exact⟨p,by simp,by rw[Cm (by rw[S.len];exact hl)],h.mono RZ⟩
  ·obtain⟨a,e1,e2,w⟩:=S.ow j e q
   exact⟨a,by simpa[hj] using e1,by rw[Bm (Ee hj)];exact e2,w.mono RZ⟩
 dom:=fun j a e=>by
  by_cases hj:j=i
  ·subst hj
   exact⟨d,by rw[Cm hl]⟩
  ·obtain ⟨d,q⟩ := S.dom j a (by simpa [hj] using e)
   exact⟨d,by rw[Bm (Ee hj)];exact q⟩
 inj:=fun j k a e1 e2=>by
  by_cases hj:j=i
  ·by_cases hk:k=i
   ·rw[hj,hk]
   ·simp[hj] at e1
    simp[hk] at e2
    exact absurd (.inr e1.symm) (S.old k a e2).1
  ·by_cases hk:k=i
   ·simp[hk] at e2
    simp[hj] at e1
    exact absurd (.inr e2.symm) (S.old j a e1).1
   ·exact S.inj j k a (by simpa[hj] using e1) (by simpa[hk] using e2)
 old:=fun j a e=>by
  by_cases hj:j=i
  ·simp[hj] at e
   subst e
   exact⟨hz,.inr h0⟩
  ·have := S.old j a (by simpa [hj] using e)
   exact⟨fun z=>this.1 (.inl z),this.2⟩
 zin:=fun a h=>S.zin a (.inl h)
 frm:=S.frm
 par:=⟨S.par.1,fun j hj=>by
  have hne:j≠i:=fun z=>hm (z▸hj)
  have h2:O j=B.mu j:=S.par.2 j hj
  simpa[hne] using h2⟩
 pin:=S.pin
 kep:=fun p hp=>(S.kep p hp).mono RZ RZ
theorem bG.wrote(S:bG K ml B O H σ δ){i:Nat}{a:Addr}{d:dM}{o:HO}(e:O i=some a)(ho: ¬Hard o)(h:QL K (Nn B O) (bL H a o) a d):bG K ml B O (bL H a o) σ (δ.set i (.ow d)):=by
 have hf:Fr (fun b=>b=a) H (bL H a o):=fun b u q n=>by
  by_cases hb:b=a
  ·subst hb
   obtain⟨d',q'⟩:=S.dom i b e
   obtain⟨a',e1,_,w⟩:=S.ow i d' q'
   rw[e] at e1
   cases e1
   obtain⟨u',q1,hh⟩:=w.soft
   rw[q] at q1
   cases q1
   exact absurd (n rfl) hh
  ·rw[cH hb]
   exact q
 have hN: ∀b,b=a->Nn B O b:=fun b z=> .inr ⟨i,z▸e⟩
 have hin: ∀b,(∃u,H b=some u)-> ∃u,bL H a o b=some u:=fun b q0=>by
  obtain⟨u,q⟩:=q0
  by_cases hb:b=a
  ·exact ⟨o,by rw [hb];exact cQ⟩
  ·exact ⟨u,by rw [cH hb];exact q⟩
 refine⟨by rw[Bv,S.len],fun j d' q=> ?_,fun j d' q=> ?_,fun j b q=> ?_,S.inj,S.old,fun b h=>hin b (S.zin b h),?_,S.par,fun b h=>hin b (S.pin b h),fun p hp=>(S.kep p hp).fr hf hN hN⟩
 ·rcases VE q with⟨_,z,_⟩|⟨hj,q⟩
  ·cases z
  ·obtain⟨v,e1,r⟩:=S.va j d' q
   exact⟨v,e1,r.fr hf hN hN⟩
 ·rcases VE q with⟨rfl,z,hl⟩|⟨hj,q⟩
  ·cases z
   obtain⟨d0,q0⟩:=S.dom j a e
   obtain⟨a',e1,e2,_⟩:=S.ow j d0 q0
   rw[e] at e1
   cases e1
   exact⟨a,e,e2,h⟩
  ·obtain⟨a',e1,e2,w⟩:=S.ow j d' q
   exact⟨a',e1,e2,w.fr hf hN fun z=>hj (S.inj j i a (z▸e1) e)⟩
 ·by_cases hj:j=i
  ·subst hj
   obtain⟨d0,q0⟩:=S.dom j b q
   exact⟨d,by rw[Cm (Ah.mp q0).1]⟩
  ·obtain⟨d0,q0⟩:=S.dom j b q
   exact⟨d0,by rw[Bm (Ee hj)];exact q0⟩
 ·intro b u q n
  have h1:=S.frm b u q n
  by_cases hb:b=a
  ·subst hb
   rcases(S.old i b e).2 with z|z
   ·obtain⟨d',q'⟩:=S.dom i b e
    obtain⟨a',e1,_,w⟩:=S.ow i d' q'
    rw[e] at e1
    cases e1
    obtain⟨u',q1,hh⟩:=w.soft
    rw[h1] at q1
    cases q1
    exact absurd (n z) hh
   ·rw[q] at z
    cases z
  ·rw[cH hb]
   exact h1
theorem bG.keepV(S:bG K ml B O H σ δ){ps:List (V×dM)}(h: ∀p∈ps,b6 K (Nn B O) H (Nn B O) p.1 p.2):bG K ml {B with kp:=ps++B.kp} O H σ δ:=
 ⟨S.len,S.va,S.ow,S.dom,S.inj,S.old,S.zin,S.frm,S.par,S.pin,fun p hp=>(Fa.mp hp).elim (h p) (S.kep p)⟩
theorem bG.unkeep{ps:List (V×dM)}(S:bG K ml {B with kp:=ps++B.kp} O H σ δ):bG K ml B O H σ δ:=
 ⟨S.len,S.va,S.ow,S.dom,S.inj,S.old,S.zin,S.frm,S.par,S.pin,fun p hp=>S.kep p (Ar _ hp)⟩
end
def rz(B:Bs):Addr->Prop:=fun a=>B.Z a∨ ∃i,B.mu i=some a
def av(B:Bs)(O:Nat->Option Addr)(b:Bool):Addr->Prop:=if b then Nn B O else fun a=>Nn B O a/\rz B a
def at_(B:Bs)(O:Nat->Option Addr)(b:Bool):Addr->Prop:=if b then Nn B O else fun _=>False
theorem zCM{B:Bs}{O:Nat->Option Addr}{b:Bool}: ∀a,at_ B O b a->av B O b a:=fun a h=>by
 cases b with
 |true=>exact h
 |false=>exact h.elim
theorem zBT{B:Bs}{O:Nat->Option Addr}{b c:Bool}(h:b=true->c=true): ∀a,at_ B O b a->at_ B O c a:=fun a z=>by
 cases b with
 |true=>rw[h rfl];exact z
 |false=>exact z.elim
theorem bG.rzn{K:Ai}{ml:List Nat}{B:Bs}{O:Nat->Option Addr}{H:Hp}{σ:St}{δ:Ev}(S:bG K ml B O H σ δ): ∀a,rz B a->Nn B O a:=fun a h=>by
 rcases h with h|⟨i,h⟩
 ·exact .inl h
 ·exact .inr ⟨i,(S.par.2 i (S.par.1 i a h)).trans h⟩
theorem bG.rza{K:Ai}{ml:List Nat}{B:Bs}{O:Nat->Option Addr}{H:Hp}{σ:St}{δ:Ev}(S:bG K ml B O H σ δ){b:Bool}: ∀a,rz B a->av B O b a:=fun a h=>by
 cases b with
 |true=>exact S.rzn a h
 |false=>exact⟨S.rzn a h,h⟩
theorem SK{B:Bs}{O:Nat->Option Addr}{b c:Bool}(h:b=true->c=true): ∀a,av B O b a->av B O c a:=fun a z=>by
 cases b with
 |true=>rw[h rfl];exact z
 |false=>cases c with
  |true=>exact z.1
  |false=>exact z
structure Res(K:Ai)(ml:List Nat)(B:Bs)(O:Nat->Option Addr)(H:Hp)(σ:St)(pu bt bi:Bool)(H':Hp)(δ':Ev)(v:V)(d:dM):Prop where
 sta:bG K ml B O H' σ δ'
 frm:Fr (OA O) H H'
 pur:pu=true->bC H H'
 rep:b6 K (av B O bi) H' (at_ B O bt) v d
abbrev VF:=Ev->Option (dM×Ev)
def TV(K:Ai)(ml:List Nat)(pu bt bi:Bool)(f:VF):TE:=fun σ H Q=> ∃B O δ d δ',bG K ml B O H σ δ/\f δ=some (d,δ')/\ ∀v H',Res K ml B O H σ pu bt bi H' δ' v d->Q v H'
theorem PE.imp{X:Cx}{e:Expr}{t u:TE}(h:PE X e t)(k: ∀σ H Q,u σ H Q->t σ H Q):PE X e u:=fun aa s σ H Q I w=>h aa s σ H Q I (k σ H Q w)
theorem PT.imp{X:Cx}{e:Expr}{t u:TT}(h:PT X e t)(k: ∀σ H Q,u σ H Q->t σ H Q):PT X e u:=fun aa s σ H Q I w=>h aa s σ H Q I (k σ H Q w)
theorem PW.imp{X:Cx}{e:Expr}{t u:TT}(h:PW X e t)(k: ∀σ H Q,u σ H Q->t σ H Q):PW X e u:=fun bz aa s σ H Q I w=>h bz aa s σ H Q I (k σ H Q w)
theorem PA.imp{X:Cx}{e:List Expr}{t u:TA}(h:PA X e t)(k: ∀σ H Q,u σ H Q->t σ H Q):PA X e u:=fun pos aa s σ H Q I w=>h pos aa s σ H Q I (k σ H Q w)
theorem PS.imp{X:Cx}{e:Stmt}{t u:TS}(h:PS X e t)(k: ∀D σ H,u D σ H->t D σ H):PS X e u:=fun aa s σ H D I w=>h aa s σ H D I (k D σ H w)
theorem W6.imp{X:Cx}{e:List Stmt}{t u:TS}(h:W6 X e t)(k: ∀D σ H,u D σ H->t D σ H):W6 X e u:=fun aa s σ H D I w=>h aa s σ H D I (k D σ H w)
section
variable{X:Cx}{K:Ai}{ml:List Nat}{e a b c:Expr}{pa ta ia pb tb ib pc tc ic:Bool}{fa fb fc:VF}{r:R2}{o:dM->dM->Option dM}{B:Bs}{O:Nat->Option Addr}{H H1 H':Hp}{σ:St}{δ δ':Ev}{v:V}{d:dM}
noncomputable def fC(d:dM):VF:=fun δ=>some (d,δ)
theorem Res.refl{pu bt bi:Bool}(S:bG K ml B O H σ δ)(h:b6 K (av B O bi) H (at_ B O bt) v d):Res K ml B O H σ pu bt bi H δ v d:=⟨S,Fr.refl _ _,fun _=>bC.refl _,h⟩
theorem FW(h:PE X e (tC v))(hr: ∀N H M,b6 K N H M v d):PE X e (TV K ml true true true (fC d)):=h.imp fun σ H Q q0=>by
 obtain⟨B,O,δ,d',δ',S,q,k⟩:=q0
 cases q
 exact k v H (Res.refl S (hr _ _ _))
theorem dL{i j pos}:PE X (.Constant (.int i) j pos) (TV K ml true true true (fC (.int i))):=FW zE3 fun _ _ _=> .int i
theorem aK{i j pos}:PE X (.Constant (.bool i) j pos) (TV K ml true true true (fC (.bl i))):=FW zGZ fun _ _ _=> .bl i
theorem aA{j pos}:PE X (.Constant .none j pos) (TV K ml true true true (fC .non)):=FW BJ fun _ _ _=> .non
theorem cN{i j pos}:PE X (.Constant (.str i) j pos) (TV K ml true true true (fC (.str i))):=FW BL fun _ _ _=> .str i
noncomputable def fV(i:Nat):VF:=fun δ=>match δ[i]? with
 |some (.va d)=>some (d,δ)
 |_=>none
noncomputable def fO(i:Nat):VF:=fun δ=>match δ[i]? with
 |some (.va d)=>some (d,δ)
 |some (.ow d)=>some (d,δ)
 |_=>none
theorem zCU{i:Nat}(h:PE X e (P8 i)):PE X e (TV K ml true true true (fV i)):=h.imp fun σ H Q q0=>by
 obtain⟨B,O,δ,d',δ',S,q,k⟩:=q0
 unfold fV at q
 split at q
 ·rename_i d hd
  cases q
  obtain⟨v,e1,r⟩:=S.va i _ hd
  exact⟨v,e1,k v H (Res.refl S r)⟩
 ·cases q
theorem zCV{i:Nat}(h:PE X e (P8 i)):PE X e (TV K ml true false true (fO i)):=h.imp fun σ H Q q0=>by
 obtain⟨B,O,δ,d',δ',S,q,k⟩:=q0
 unfold fO at q
 split at q
 ·rename_i d hd
  cases q
  obtain⟨v,e1,r⟩:=S.va i _ hd
  exact⟨v,e1,k v H (Res.refl S (r.mono (fun _ z=>z) fun a z=>z.elim))⟩
 ·rename_i d hd
  cases q
  obtain⟨a,e1,e2,w⟩:=S.ow i _ hd
  exact⟨.ref a,e2,k _ H (Res.refl S (w.rep fun z=>z))⟩
 ·cases q
theorem Res.live{H2:Hp}{v2:V}{d2:dM}(R2:Res K ml B O H1 σ pb tb ib H2 δ' v2 d2)(hs:(pb || (ta && ia))=true)(h:b6 K (av B O ia) H1 (at_ B O ta) v d):b6 K (av B O ia) H2 (at_ B O ta) v d:=by
 cases pb with
 |true=>exact h.same (R2.pur rfl)
 |false=>
  have hs:(ta && ia)=true:=by simpa using hs
  obtain⟨h1,h2⟩:=(Ac _ _).mp hs
  subst h1 h2
  exact h.fr R2.frm (fun a z=> .inr z) fun a z=> .inr z
noncomputable def f2(o:dM->dM->Option dM)(fa fb:VF):VF:=fun δ=>(fa δ).bind fun p=>(fb p.2).bind fun q=>(o p.1 q.1).map fun c=>(c,q.2)
theorem T9{δ2:Ev}(h:f2 o fa fb δ=some (d,δ2)): ∃x δ1 y,fa δ=some (x,δ1)/\fb δ1=some (y,δ2)/\o x y=some d:=by
 unfold f2 at h
 cases h1:fa δ with
 | none => rw [h1] at h;cases h
 |some p=>
  rw[h1] at h
  cases h2:fb p.2 with
  | none => simp [h2] at h
  |some q=>
   simp only[Ag,h2] at h
   cases h3:o p.1 q.1 with
   |none=>rw[h3] at h;cases h
   |some c=>
    rw[h3] at h
    cases h
    exact⟨p.1,p.2,q.1,rfl,h2,h3⟩
def Q4(K:Ai)(r:R2)(o:dM->dM->Option dM):Prop:= ∀(H:Hp) (N N' M M':Addr->Prop) (x y:V) (d e c:dM) (Q:VK),b6 K N H M x d->b6 K N' H M' y e->o d e=some c->(∀v,(∀H' N M,b6 K N H' M v c)->Q v H)->r x y H Q
def OpC(K:Ai)(r:R2)(o:dM->dM->Option dM):Prop:= ∀(H:Hp) (N M M':Addr->Prop) (x y:V) (d e c:dM) (Q:VK),b6 K N H M x d->b6 K N H M' y e->o d e=some c→
 (∀v H',bC H H'->(∀M,(∀a,M a-> ∃o,H a=some o)->b6 K N H' M v c)->Q v H')->r x y H Q
def OpI(K:Ai)(r:R2)(o:dM->dM->Option dM):Prop:= ∀(H:Hp) (N N' M M':Addr->Prop) (x y:V) (d e c:dM) (Q:VK),b6 K N H M x d->b6 K N' H M' y e->o d e=some c->(∀v,b6 K N H N v c->Q v H)->r x y H Q
theorem JA(ho:Q4 K r o)(hs:(pb || (ta && ia))=true){Q:VK}(h:TV K ml (pa && pb) true true (f2 o fa fb) σ H Q):tOp r (TV K ml pa ta ia fa) (TV K ml pb tb ib fb) σ H Q:=by
 obtain⟨B,O,δ,d,δ2,S,q,k⟩:=h
 obtain⟨x,δ1,y,h1,h2,h3⟩:=T9 q
 refine⟨B,O,δ,x,δ1,S,h1,fun v1 H1 R1=>⟨B,O,δ1,y,δ2,R1.sta,h2,fun v2 H2 R2=> ?_⟩⟩
 exact ho H2 _ _ _ _ v1 v2 x y d Q (R2.live hs R1.rep) R2.rep h3 fun v hv=>k v H2 ⟨R2.sta,R1.frm.trans R2.frm,fun z=>by
  obtain⟨z1,z2⟩:=(Ac _ _).mp z
  exact(R1.pur z1).trans (R2.pur z2),hv _ _ _⟩
theorem zD1(ho:OpC K r o)(hs:(pb || (ta && ia))=true){Q:VK}(h:TV K ml (pa && pb) true (ia && ib) (f2 o fa fb) σ H Q):tOp r (TV K ml pa ta ia fa) (TV K ml pb tb ib fb) σ H Q:=by
 obtain⟨B,O,δ,d,δ2,S,q,k⟩:=h
 obtain⟨x,δ1,y,h1,h2,h3⟩:=T9 q
 refine⟨B,O,δ,x,δ1,S,h1,fun v1 H1 R1=>⟨B,O,δ1,y,δ2,R1.sta,h2,fun v2 H2 R2=> ?_⟩⟩
 have g1: ∀a,av B O (ia && ib) a->av B O ia a:=SK fun z=>((Ac _ _).mp z).1
 have g2: ∀a,av B O (ia && ib) a->av B O ib a:=SK fun z=>((Ac _ _).mp z).2
 refine ho H2 (av B O (ia && ib)) _ _ v1 v2 x y d Q ((R2.live hs R1.rep).mono g1 fun _ z=>z) (R2.rep.mono g2 fun _ z=>z) h3 fun v H3 s3 hv=>k v H3 ⟨R2.sta.same s3,(R1.frm.trans R2.frm).trans s3.fr,fun z=> ?_,hv _ fun a z=>R2.sta.nin z⟩
 obtain⟨z1,z2⟩:=(Ac _ _).mp z
 exact((R1.pur z1).trans (R2.pur z2)).trans s3
theorem zD0(ho:OpI K r o)(hs:(pb || (ta && ia))=true){Q:VK}(h:TV K ml (pa && pb) ia ia (f2 o fa fb) σ H Q):tOp r (TV K ml pa ta ia fa) (TV K ml pb tb ib fb) σ H Q:=by
 obtain⟨B,O,δ,d,δ2,S,q,k⟩:=h
 obtain⟨x,δ1,y,h1,h2,h3⟩:=T9 q
 refine⟨B,O,δ,x,δ1,S,h1,fun v1 H1 R1=>⟨B,O,δ1,y,δ2,R1.sta,h2,fun v2 H2 R2=> ?_⟩⟩
 exact ho H2 _ _ _ _ v1 v2 x y d Q (R2.live hs R1.rep) R2.rep h3 fun v hv=>k v H2 ⟨R2.sta,R1.frm.trans R2.frm,fun z=>by
  obtain⟨z1,z2⟩:=(Ac _ _).mp z
  exact(R1.pur z1).trans (R2.pur z2),hv.mono (fun _ z=>z) zCM⟩
theorem ZL{op:Operator}{pos:Pos}(ho:YD X (Ep op) r)(hv:Q4 K r o)(ha:PE X a (TV K ml pa ta ia fa))(hb:PE X b (TV K ml pb tb ib fb))(hs:(pb || (ta && ia))=true:=by rfl):PE X (.BinOp a op b pos) (TV K ml (pa && pb) true true (f2 o fa fb)):=
 (zCB ho ha hb).imp fun _ _ _ h=>JA hv hs h
theorem bT{op:Operator}{pos:Pos}(ho:YD X (Ep op) r)(hv:OpC K r o)(ha:PE X a (TV K ml pa ta ia fa))(hb:PE X b (TV K ml pb tb ib fb))(hs:(pb || (ta && ia))=true:=by rfl):PE X (.BinOp a op b pos) (TV K ml (pa && pb) true (ia && ib) (f2 o fa fb)):=
 (zCB ho ha hb).imp fun _ _ _ h=>zD1 hv hs h
theorem M0{op:CmpOp}{pos:Pos}(ho:YD X (Cn op) r)(hv:Q4 K r o)(ha:PE X a (TV K ml pa ta ia fa))(hb:PE X b (TV K ml pb tb ib fb))(hm:Gp op b=false)(hs:(pb || (ta && ia))=true:=by rfl):PE X (.Compare a [op] [b] pos) (TV K ml (pa && pb) true true (f2 o fa fb)):=
 (zAV ho ha hb hm).imp fun _ _ _ h=>JA hv hs h
theorem zFV{pos:Pos}(ho:DV X r)(hv:OpI K r o)(ha:PE X a (TV K ml pa ta ia fa))(hb:PE X b (TV K ml pb tb ib fb))(hx:LK b)(hs:(pb || (ta && ia))=true:=by rfl):PE X (.Subscript a b pos) (TV K ml (pa && pb) ia ia (f2 o fa fb)):=
 (zGX ho ha hb hx).imp fun _ _ _ h=>zD0 hv hs h
noncomputable def oI(C:Int->Int->Bool)(g:Int->Int->dM):dM->dM->Option dM
 | .int i,.int j=>if C i j=true then some (g i j) else none
 |_,_=>none
theorem AW{C:Int->Int->Bool}{g:Int->Int->dM}{d e c:dM}(h:oI C g d e=some c): ∃i j,d= .int i/\e= .int j/\C i j=true/\c=g i j:=by
 unfold oI at h
 split at h
 ·split at h
  ·rename_i hc
   cases h
   exact⟨_,_,rfl,rfl,hc,rfl⟩
  ·cases h
 ·cases h
theorem GX{C:Int->Int->Prop}{C':Int->Int->Bool}{g:Int->Int->V}{g':Int->Int->dM}(hC: ∀i j,C' i j=true->C i j)(hg: ∀i j N H M,b6 K N H M (g i j) (g' i j)):Q4 K (rI C g) (oI C' g'):=by
 intro H N N' M M' x y d e c Q hx hy h k
 obtain⟨i,j,rfl,rfl,hc,rfl⟩:=AW h
 cases hx
 cases hy
 exact⟨_,_,rfl,rfl,hC _ _ hc,k _ fun _ _ _=>hg ..⟩
theorem MM{g:Int->Int->V}{g':Int->Int->dM}(hg: ∀i j N H M,b6 K N H M (g i j) (g' i j)):Q4 K (FJ g) (oI (fun _ _=>true) g'):=by
 intro H N N' M M' x y d e c Q hx hy h k
 obtain⟨i,j,rfl,rfl,hc,rfl⟩:=AW h
 cases hx
 cases hy
 exact⟨_,_,rfl,rfl,k _ fun _ _ _=>hg ..⟩
noncomputable def JP(i j:Int):Bool:=(decide (-18446744073709551616<i) && decide (i<18446744073709551616)) || (decide (-18446744073709551616<j) && decide (j<18446744073709551616))
noncomputable def cDiv(i j:Int):Bool:=decide (0<j) && decide (j<1073741824)
noncomputable def cPow(i j:Int):Bool:=decide (0<=j) && decide (j<=1000000) && decide (i.natAbs<18446744073709551616)
noncomputable abbrev TD:=oI (fun _ _=>true) fun i j=> .int (i - j)
noncomputable abbrev oMul:=oI JP fun i j=> .int (i*j)
noncomputable abbrev GP:=oI cDiv fun i j=> .int (i/j)
noncomputable abbrev KI:=oI (fun _ j=>decide (0<j)) fun i j=> .int (i % j)
noncomputable abbrev oPow:=oI cPow fun i j=> .int (i ^ j.toNat)
noncomputable abbrev oLt:=oI (fun _ _=>true) fun i j=> .bl (decide (i<j))
noncomputable abbrev oLe:=oI (fun _ _=>true) fun i j=> .bl (decide (i<=j))
noncomputable abbrev oGt:=oI (fun _ _=>true) fun i j=> .bl (decide (j<i))
theorem UZ:Q4 K (FJ fun i j=> .int (i - j)) TD:=MM fun i j _ _ _=> .int _
theorem zGE:Q4 K (rI DS fun i j=> .int (i*j)) oMul:=GX (fun i j h=>by
 have p:(2:Int) ^ 64=18446744073709551616:=by decide
 unfold DS
 rw[p]
 simpa[JP] using h) fun i j _ _ _=> .int _
theorem CF:Q4 K (rI CDiv fun i j=> .int (i/j)) GP:=GX (fun i j h=>by show 0<j/\j<1073741824;simpa[cDiv] using h) fun i j _ _ _=> .int _
theorem P5:Q4 K (rI (fun _ j=>0<j) fun i j=> .int (i % j)) KI:=GX (fun i j h=>by simpa using h) fun i j _ _ _=> .int _
theorem zGD:Q4 K (rI CPow fun i j=> .int (i ^ j.toNat)) oPow:=GX (fun i j h=>by
 have p:(2:Nat) ^ 64=18446744073709551616:=by decide
 unfold CPow
 rw[p]
 simpa[cPow,and_assoc] using h) fun i j _ _ _=> .int _
theorem s_lt:Q4 K (FJ fun i j=> .bl (decide (i<j))) oLt:=MM fun i j _ _ _=> .bl _
theorem KU:Q4 K (FJ fun i j=> .bl (decide (i<=j))) oLe:=MM fun i j _ _ _=> .bl _
theorem s_gt:Q4 K (FJ fun i j=> .bl (decide (j<i))) oGt:=MM fun i j _ _ _=> .bl _
noncomputable def NX(d:dM):Bool:=d.isD && Dz d.pd
noncomputable def eqD(d e:dM):Bool:=Hv d.pd e.pd
noncomputable def WK(d e:dM):Option dM:=if(NX d && NX e)=true then some (.bl (eqD d e)) else none
noncomputable def KJ(d e:dM):Option dM:=if(NX d && NX e)=true then some (.bl (!eqD d e)) else none
theorem s_eq:Q4 K (rEqD K) WK:=by
 intro H N N' M M' x y d e c Q hx hy h k
 unfold WK at h
 split at h
 ·rename_i hh
  cases h
  simp only[NX,Ac] at hh
  exact⟨d.pd,e.pd,hx.dp hh.1.1,hy.dp hh.2.1,hh.1.2,hh.2.2,k _ fun _ _ _=> .bl _⟩
 ·cases h
theorem KW:Q4 K (rNeD K) KJ:=by
 intro H N N' M M' x y d e c Q hx hy h k
 unfold KJ at h
 split at h
 ·rename_i hh
  cases h
  simp only[NX,Ac] at hh
  exact⟨d.pd,e.pd,hx.dp hh.1.1,hy.dp hh.2.1,hh.1.2,hh.2.2,k _ fun _ _ _=> .bl _⟩
 ·cases h
noncomputable def isN:dM->Bool
 | .non=>true
 |_=>false
noncomputable def KH:dM->dM->Option dM
 |d,.non=>some (.bl (isN d))
 |_,_=>none
noncomputable def TC:dM->dM->Option dM
 |d,.non=>some (.bl (!isN d))
 |_,_=>none
theorem G5{N M:Addr->Prop}(h:b6 K N H M v d):decide (v=V.non)=isN d:=by
 cases h<;>simp[isN]
theorem zBZ:Q4 K (fun x y H Q=>y= .non/\Q (.bl (decide (x= .non))) H) KH:=by
  intro H N N' M M' x y d e c Q hx hy h k
  cases hy<;>first
    | (cases h
       refine⟨rfl,?_⟩
       rw[G5 hx]
       exact k _ fun _ _ _=> .bl _)
    |(simp[KH] at h)
theorem CG:Q4 K (fun x y H Q=>y= .non/\Q (.bl (!decide (x= .non))) H) TC:=by
  intro H N N' M M' x y d e c Q hx hy h k
  cases hy<;>first
    | (cases h
       refine⟨rfl,?_⟩
       rw[G5 hx]
       exact k _ fun _ _ _=> .bl _)
    |(simp[TC] at h)
noncomputable def ZA:dM->Option (List dM)
 | .tup ds=>some ds
 | .lst ds=>some ds
 |_=>none
theorem b6.seq{N M:Addr->Prop}{ds:List dM}(h:b6 K N H M v d)(e:ZA d=some ds): ∃a xs,v= .ref a/\(YO K H a xs∨W4 K H a xs)/\cU K N H xs ds:=by
 cases h<;>first
  |(cases e;rename_i q r;exact⟨_,_,rfl,.inr q,r⟩)
  |(cases e;rename_i q n r;exact⟨_,_,rfl,.inl (YO.of q),r⟩)
  |(cases e;rename_i q r;exact⟨_,_,rfl,.inl q.sq,r⟩)
  |cases e
theorem zBU{N:Addr->Prop}{xs:List V}{ds:List dM}{i:Int}(r:cU K N H xs ds)(h:RK ds i=some d): ∃v,RK xs i=some v/\b6 K N H N v d:=by
 unfold RK at h⊢
 rw[r.length]
 cases hi:LH ds.length i with
 |none=>rw[hi] at h;cases h
 |some j=>
  rw[hi] at h
  exact r.get h
end
section
variable{X:Cx}{K:Ai}{ml:List Nat}{e a b c:Expr}{es:List Expr}{pa ta ia pb tb ib pc tc ic pu bt bi ps bs:Bool}{fa fb fc:VF}{r r':R2}{o o':dM->dM->Option dM}{B:Bs}{O:Nat->Option Addr}{H H1 H':Hp}{σ:St}{δ δ':Ev}{v:V}{d:dM}{p:Addr}{pos:Pos}
theorem bG.unadd(S:bG K ml (B.add p) O H σ δ):bG K ml B O H σ δ where
 len:=S.len
 va:=fun i d e=>let ⟨v,a,b⟩:=S.va i d e;⟨v,a,b.mono UN UN⟩
 ow:=fun i d e=>let ⟨a,b,c,w⟩:=S.ow i d e;⟨a,b,c,w.mono UN⟩
 dom:=S.dom
 inj:=S.inj
 old:=fun i a h=>⟨fun z=>(S.old i a h).1 (.inl z),(S.old i a h).2⟩
 zin:=fun a h=>S.zin a (.inl h)
 frm:=S.frm
 par:=S.par
 pin:=S.pin
 kep:=fun p h=>(S.kep p h).mono UN UN
structure ResN(K:Ai)(ml:List Nat)(B:Bs)(O:Nat->Option Addr)(H:Hp)(σ:St)(pu:Bool)(H':Hp)(δ':Ev)(p:Addr)(d:dM):Prop where
 sta:bG K ml (B.add p) O H' σ δ'
 frm:Fr (OA O) H H'
 pur:pu=true->bC H H'
 own:QL K (Nn (B.add p) O) H' p d
 nz: ¬Nn B O p
 h0:B.H0 p=none
def TN(K:Ai)(ml:List Nat)(pu:Bool)(f:VF):TE:=fun σ H Q=> ∃B O δ d δ',bG K ml B O H σ δ/\f δ=some (d,δ')/\ ∀p H',ResN K ml B O H σ pu H' δ' p d->Q (.ref p) H'
theorem cJ{f:VF}(h:PE X e (TN K ml pu f)):PE X e (TV K ml pu true true f):=h.imp fun σ H Q ⟨B,O,δ,d,δ',S,q,k⟩=>
 ⟨B,O,δ,d,δ',S,q,fun p H' R=>k _ H' ⟨R.sta.unadd,R.frm,R.pur,(R.own.mono UN).rep R.nz⟩⟩
theorem mkN{xs:List V}{ds:List dM}(S:bG K ml B O H1 σ δ')(f:Fr (OA O) H H1)(s:pu=true->bC H H1)(hp:H1 p=none)(r:cU K (Nn B O) H1 xs ds):ResN K ml B O H σ pu (bL H1 p (.lst xs)) δ' p (.lst ds):=
 ⟨S.laid hp,f.trans (dD hp).fr,fun z=>(s z).trans (dD hp),.lst cQ ((r.away hp _ _ WW).same (dD hp)),S.new hp,S.fresh hp⟩
theorem mkD(S:bG K ml B O H1 σ δ')(f:Fr (OA O) H H1)(s:pu=true->bC H H1)(hp:H1 p=none):ResN K ml B O H σ pu (bL H1 p (.dK [])) δ' p (.dct [] []):=
 ⟨S.laid hp,f.trans (dD hp).fr,fun z=>(s z).trans (dD hp),.dct (kvs:=[]) cQ .nil,S.new hp,S.fresh hp⟩
theorem C8:PE X (.Dict [] [] pos) (TN K ml true (fC (.dct [] []))):=BG.imp fun σ H Q q0=>by
 obtain⟨B,O,δ,d,δ',S,q,k⟩:=q0
 cases q
 exact fun p hp=>k p _ (mkD S (Fr.refl _ _) (fun _=>bC.refl _) hp)
abbrev Q0:=Ev->Option (List dM×Ev)
structure ResA(K:Ai)(ml:List Nat)(B:Bs)(O:Nat->Option Addr)(H:Hp)(σ:St)(pu b:Bool)(H':Hp)(δ':Ev)(vs:List V)(ds:List dM):Prop where
 sta:bG K ml B O H' σ δ'
 frm:Fr (OA O) H H'
 pur:pu=true->bC H H'
 rep:cU K (av B O b) H' vs ds
def D0(K:Ai)(ml:List Nat)(pu b:Bool)(f:Q0):TA:=fun σ H Q=> ∃B O δ d δ',bG K ml B O H σ δ/\f δ=some (d,δ')/\ ∀vs H',ResA K ml B O H σ pu b H' δ' vs d->Q vs H'
noncomputable def cX:Q0:=fun δ=>some ([],δ)
noncomputable def dN(fa:VF)(fs:Q0):Q0:=fun δ=>(fa δ).bind fun p=>(fs p.2).map fun q=>(p.1::q.1,q.2)
theorem NN{fs:Q0}{ds:List dM}(h:dN fa fs δ=some (ds,δ')): ∃x δ1 xs,fa δ=some (x,δ1)/\fs δ1=some (xs,δ')/\ds=x::xs:=by
 unfold dN at h
 cases h1:fa δ with
 | none => rw [h1] at h;cases h
 |some p=>
  rw[h1] at h
  cases h2:fs p.2 with
  |none=>simp[h2] at h
  |some q=>
   simp only[Ag,h2] at h
   cases h
   exact⟨p.1,p.2,q.1,rfl,h2,rfl⟩
theorem dE:PA X [] (D0 K ml true true cX):=ZN.imp fun σ H Q q0=>by
 obtain⟨B,O,δ,d,δ',S,q,k⟩:=q0
 cases q
 exact k [] H ⟨S,Fr.refl _ _,fun _=>bC.refl _,.nil⟩
theorem dO{fs:Q0}(ha:PE X a (TV K ml pa ta ia fa))(hr:PA X es (D0 K ml ps bs fs))(hs:starEach (a::es) X.env=(false,eval a X.env)::starEach es X.env:=by rfl)(hl:(ps || (ta && ia))=true:=by rfl)(ht:ta=true:=by rfl):
  PA X (a::es) (D0 K ml (pa && ps) (ta && ia && bs) (dN fa fs)):=(bR ha hr hs).imp fun σ H Q ⟨B,O,δ,d,δ2,S,q,k⟩=>by
 obtain⟨x,δ1,xs,h1,h2,rfl⟩:=NN q
 refine⟨B,O,δ,x,δ1,S,h1,fun v1 H1 R1=>⟨B,O,δ1,xs,δ2,R1.sta,h2,fun vs H2 R2=>k _ H2 ⟨R2.sta,R1.frm.trans R2.frm,fun z=> ?_,?_⟩⟩⟩
 ·obtain⟨z1,z2⟩:=(Ac _ _).mp z
  exact(R1.pur z1).trans (R2.pur z2)
 ·have g : ∀ c,((ta && ia && bs) = true -> c = true) -> ∀ a,av B O (ta && ia && bs) a -> av B O c a := fun c h => SK h
  have g1:=g ta fun z=>by simp only[Ac] at z;exact z.1.1
  have g2:=g ia fun z=>by simp only[Ac] at z;exact z.1.2
  have g3:=g bs fun z=>by simp only[Ac] at z;exact z.2
  refine .cons ?_ (R2.rep.mono g3)
  have h:b6 K (av B O ia) H2 (at_ B O ta) v1 x:=by
   cases ps with
   |true=>exact R1.rep.same (R2.pur rfl)
   |false=>
    have hs:(ta && ia)=true:=by simpa using hl
    obtain⟨h1,h2⟩:=(Ac _ _).mp hs
    subst h1 h2
    exact R1.rep.fr R2.frm (fun a z=> .inr z) fun a z=> .inr z
  subst ht
  exact h.mono g2 g1
theorem bG.lone(S:bG K ml B O H σ δ){i:Nat}{x:dM}(hm:i∉ml)(h:fO i δ=some (x,δ')):δ'=δ/\ ∃v,σ[i]? =some (some v)/\b6 K (av B O false) H (av B O false) v x:=by
 unfold fO at h
 split at h
 ·rename_i d hd
  cases h
  obtain⟨v,e1,r⟩:=S.va i _ hd
  exact⟨rfl,v,e1,r.mono (fun a z=>z.1) fun a z=>z.1⟩
 ·rename_i d hd
  cases h
  obtain⟨a,e1,e2,w⟩:=S.ow i _ hd
  refine⟨rfl,.ref a,e2,(w.mono fun a z=>z.1).rep fun z=> ?_⟩
  rcases z.2 with z|⟨j,z⟩
  ·exact(S.old i a e1).1 z
  ·have hj:=S.par.1 j a z
   have:i=j:=S.inj i j a e1 ((S.par.2 j hj).trans z)
   exact hm (this▸hj)
 ·cases h
theorem C0{i:Nat}{fs:Q0}(ha:PE X a (P8 i))(hr:PA X es (D0 K ml ps bs fs))(hs:starEach (a::es) X.env=(false,eval a X.env)::starEach es X.env:=by rfl)(hl:ps=true:=by rfl)(hm:i∉ml:=by decide):
  PA X (a::es) (D0 K ml ps false (dN (fO i) fs)):=(bR ha hr hs).imp fun σ H Q ⟨B,O,δ,d,δ2,S,q,k⟩=>by
 obtain⟨x,δ1,xs,h1,h2,rfl⟩:=NN q
 obtain⟨rfl,v,e1,r⟩:=S.lone hm h1
 exact⟨v,e1,B,O,δ1,xs,δ2,S,h2,fun vs H2 R2=>k _ H2 ⟨R2.sta,R2.frm,R2.pur,.cons (r.same (R2.pur hl)) (R2.rep.mono (SK (b:=false) fun z=>nomatch z))⟩⟩
noncomputable def bZ(fs:Q0):VF:=fun δ=>(fs δ).bind fun p=>if p.1.length<=16777216 then some (.tup p.1,p.2) else none
noncomputable def bE(fs:Q0):VF:=fun δ=>(fs δ).bind fun p=>if p.1.length<=16777216 then some (.lst p.1,p.2) else none
theorem PD{fs:Q0}{g:List dM->dM}(h:((fs δ).bind fun p=>if p.1.length<=16777216 then some (g p.1,p.2) else none)=some (d,δ')): ∃ds,fs δ=some (ds,δ')/\ds.length<=16777216/\d=g ds:=by
 cases h1:fs δ with
 | none => rw [h1] at h;cases h
 |some p=>
  rw[h1] at h
  have h:(if p.1.length<=16777216 then some (g p.1,p.2) else none)=some (d,δ'):=h
  split at h
  ·cases h
   exact⟨p.1,rfl,by assumption,rfl⟩
  ·cases h
theorem cT{x1}{fs:Q0}(h:PA X es (D0 K ml pu bs fs)):PE X (.Tuple es x1 pos) (TV K ml pu true bs (bZ fs)):=(BM h).imp fun σ H Q q0=>by
 obtain⟨B,O,δ,d,δ',S,q,k⟩:=q0
 obtain⟨ds,h1,hl,rfl⟩:=PD (g:=dM.tup) q
 refine⟨B,O,δ,ds,δ',S,h1,fun vs H1 R=>⟨by rw[R.rep.length,Bu];exact hl,fun p hp=>k _ _ ⟨R.sta.same (dD hp),R.frm.trans (dD hp).fr,fun z=>(R.pur z).trans (dD hp),.tup (W4.of cQ) (R.rep.same (dD hp))⟩⟩⟩
theorem zCW{fs:Q0}(h:PA X es (D0 K ml pu bs fs)):PE X (.List es pos) (TV K ml pu true bs (bE fs)):=(BI h).imp fun σ H Q q0=>by
 obtain⟨B,O,δ,d,δ',S,q,k⟩:=q0
 obtain⟨ds,h1,hl,rfl⟩:=PD (g:=dM.lst) q
 refine⟨B,O,δ,ds,δ',S,h1,fun vs H1 R=>⟨by rw[R.rep.length,Bu];exact hl,fun p hp=>k _ _ ⟨R.sta.same (dD hp),R.frm.trans (dD hp).fr,fun z=>(R.pur z).trans (dD hp),.lst cQ (R.sta.new hp) (R.rep.same (dD hp))⟩⟩⟩
theorem b7{fs:Q0}(h:PA X es (D0 K ml pu true fs)):PE X (.List es pos) (TN K ml pu (bE fs)):=(BI h).imp fun σ H Q q0=>by
 obtain⟨B,O,δ,d,δ',S,q,k⟩:=q0
 obtain⟨ds,h1,hl,rfl⟩:=PD (g:=dM.lst) q
 exact⟨B,O,δ,ds,δ',S,h1,fun vs H1 R=>⟨by rw[R.rep.length,Bu];exact hl,fun p hp=>k p _ (mkN R.sta R.frm R.pur hp R.rep)⟩⟩
abbrev VB:=Ev->Option (Bool×Ev)
structure DZ(K:Ai)(ml:List Nat)(B:Bs)(O:Nat->Option Addr)(H:Hp)(σ:St)(pu:Bool)(H':Hp)(δ':Ev):Prop where
 sta:bG K ml B O H' σ δ'
 frm:Fr (OA O) H H'
 pur:pu=true->bC H H'
def TB(K:Ai)(ml:List Nat)(pu:Bool)(f:VB):TT:=fun σ H Q=> ∃B O δ k δ',bG K ml B O H σ δ/\f δ=some (k,δ')/\ ∀H',DZ K ml B O H σ pu H' δ'->Q k H'
noncomputable def fB(f:VF):VB:=fun δ=>(f δ).bind fun p=>match p.1 with
 | .bl k=>some (k,p.2)
 |_=>none
theorem zFH{f:VF}{k:Bool}(h:fB f δ=some (k,δ')):f δ=some (.bl k,δ'):=by
 unfold fB at h
 cases h1:f δ with
 | none => rw [h1] at h;cases h
 |some p=>
  obtain⟨x,δ1⟩:=p
  rw[h1] at h
  cases x<;>first
   |(cases h;rfl)
   |cases h
theorem MY{f:VF}{t:TE}(ht: ∀σ H Q,TV K ml pu bt bi f σ H Q->t σ H Q){Q:Bool->Hp->Prop}(h:TB K ml pu (fB f) σ H Q):t σ H fun x H'=> ∃k,x= .bl k/\Q k H':=by
 obtain⟨B,O,δ,k,δ',S,q,w⟩:=h
 refine ht σ H _ ⟨B,O,δ,.bl k,δ',S,zFH q,fun v H' R=>⟨k,?_,w H' ⟨R.sta,R.frm,R.pur⟩⟩⟩
 cases R.rep
 rfl
theorem b9{op:CmpOp}(ho:YD X (Cn op) r)(hv:Q4 K r o)(ha:PE X a (TV K ml pa ta ia fa))(hb:PE X b (TV K ml pb tb ib fb))(hm:Gp op b=false)(hs:(pb || (ta && ia))=true:=by rfl):PT X (.Compare a [op] [b] pos) (TB K ml (pa && pb) (fB (f2 o fa fb))):=
 (zAM ho ha hb hm).imp fun _ _ _ h=>MY (fun _ _ _=>JA hv hs) h
theorem a7{f:VF}(h:PE X e (TV K ml pu bt bi f))(he: ∀bz,isTrue e X.env bz=(do let v<- bz;Jq e.pos;Jr [v] (truthy v)):=by intro _;rfl):PT X e (TB K ml pu (fB f)):=
 (zDS h he).imp fun _ _ _ h=>MY (fun _ _ _ z=>z) h
noncomputable def D6(x y:VB):VB:=fun δ=>(x δ).bind fun p=>if p.1=true then y p.2 else some (false,p.2)
noncomputable def Q5(x y:VB):VB:=fun δ=>(x δ).bind fun p=>if p.1=true then some (true,p.2) else y p.2
noncomputable def YJ(x:VB):VB:=fun δ=>(x δ).map fun p=>(!p.1,p.2)
theorem DZ.refl(S:bG K ml B O H σ δ):DZ K ml B O H σ pu H δ:=⟨S,Fr.refl _ _,fun _=>bC.refl _⟩
theorem zD3{x y:VB}{Q:Bool->Hp->Prop}(h:TB K ml (pa && pb) (D6 x y) σ H Q):tAnd (TB K ml pa x) (TB K ml pb y) σ H Q:=by
 obtain⟨B,O,δ,k,δ',S,q,w⟩:=h
 unfold D6 at q
 cases h1:x δ with
 | none => rw [h1] at q;cases q
 |some p=>
  obtain⟨kk,δ1⟩:=p
  rw[h1] at q
  refine⟨B,O,δ,kk,δ1,S,h1,fun H1 R1=> ?_⟩
  cases kk with
  |true=>
   have q:y δ1=some (k,δ'):=q
   exact PX ⟨B,O,δ1,k,δ',R1.sta,q,fun H2 R2=>w H2 ⟨R2.sta,R1.frm.trans R2.frm,fun z=>by
    obtain⟨z1,z2⟩:=(Ac _ _).mp z
    exact(R1.pur z1).trans (R2.pur z2)⟩⟩
  |false=>
   have q:some (false,δ1)=some (k,δ'):=q
   cases q
   exact PV (w H1 ⟨R1.sta,R1.frm,fun z=>R1.pur ((Ac _ _).mp z).1⟩)
theorem zFZ{x y:VB}{Q:Bool->Hp->Prop}(h:TB K ml (pa && pb) (Q5 x y) σ H Q):tOr (TB K ml pa x) (TB K ml pb y) σ H Q:=by
 obtain⟨B,O,δ,k,δ',S,q,w⟩:=h
 unfold Q5 at q
 cases h1:x δ with
 | none => rw [h1] at q;cases q
 |some p=>
  obtain⟨kk,δ1⟩:=p
  rw[h1] at q
  refine⟨B,O,δ,kk,δ1,S,h1,fun H1 R1=> ?_⟩
  cases kk with
  |false=>
   have q:y δ1=some (k,δ'):=q
   exact PV ⟨B,O,δ1,k,δ',R1.sta,q,fun H2 R2=>w H2 ⟨R2.sta,R1.frm.trans R2.frm,fun z=>by
    obtain⟨z1,z2⟩:=(Ac _ _).mp z
    exact(R1.pur z1).trans (R2.pur z2)⟩⟩
  |true=>
   have q:some (true,δ1)=some (k,δ'):=q
   cases q
   exact PX (w H1 ⟨R1.sta,R1.frm,fun z=>R1.pur ((Ac _ _).mp z).1⟩)
theorem a5{x:VB}(h:PT X a (TB K ml pu x)):PT X (.UnaryOp .Not a pos) (TB K ml pu (YJ x)):=(zDT h).imp fun σ H Q q0=>by
 obtain⟨B,O,δ,k,δ',S,q,w⟩:=q0
 unfold YJ at q
 cases h1:x δ with
 |none=>rw[h1] at q;cases q
 |some p=>
  rw[h1] at q
  cases q
  exact⟨B,O,δ,p.1,p.2,S,h1,w⟩
theorem zA6{x:VB}(h:PT X a (TB K ml pu x)):PW X (.BoolOp .And [a] pos) (TB K ml pu x):=zAJ h
theorem aC{x:VB}(h:PT X a (TB K ml pu x)):PW X (.BoolOp .Or [a] pos) (TB K ml pu x):=zDQ h
theorem DD{x y:VB}(ha:PT X a (TB K ml pa x))(hb:PW X (.BoolOp .And (b::es) pos) (TB K ml pb y)):PW X (.BoolOp .And (a::b::es) pos) (TB K ml (pa && pb) (D6 x y)):=(zDR ha hb).imp fun _ _ _ h=>zD3 h
theorem ZB{x y:VB}(ha:PT X a (TB K ml pa x))(hb:PW X (.BoolOp .Or (b::es) pos) (TB K ml pb y)):PW X (.BoolOp .Or (a::b::es) pos) (TB K ml (pa && pb) (Q5 x y)):=(zGV ha hb).imp fun _ _ _ h=>zFZ h
theorem W2{x:VB}(h:PW X e (TB K ml pu x)):PT X e (TB K ml pu x):=h.pt
noncomputable def JY(x y:VF):VF:=fun δ=>(x δ).bind fun p=>match p.1 with
 | .bl true=>y p.2
 | .bl false=>some (.bl false,p.2)
 |_=>none
theorem JB{op}{f:VF}(h:PE X a (TV K ml pu bt bi f)):PE X (.BoolOp op [a] pos) (TV K ml pu bt bi f):=zE2 h
theorem QD(ha:PE X a (TV K ml pa ta ia fa))(hb:PE X (.BoolOp .And (b::es) pos) (TV K ml pb tb ib fb)):PE X (.BoolOp .And (a::b::es) pos) (TV K ml (pa && pb) tb ib (JY fa fb)):=(zE4 ha hb).imp fun σ H Q q0=>by
 obtain⟨B,O,δ,d,δ',S,q,k⟩:=q0
 unfold JY at q
 cases h1:fa δ with
 | none => rw [h1] at q;cases q
 |some p=>
  obtain⟨x,δ1⟩:=p
  rw[h1] at q
  refine⟨B,O,δ,x,δ1,S,h1,fun v1 H1 R1=> ?_⟩
  cases x with
  |bl kk=>
   have e1:v1= .bl kk:=by cases R1.rep;rfl
   refine⟨kk,e1,?_⟩
   cases kk with
   |true=>
    exact PX ⟨B,O,δ1,d,δ',R1.sta,q,fun v2 H2 R2=>k v2 H2 ⟨R2.sta,R1.frm.trans R2.frm,fun z=>by
     obtain⟨z1,z2⟩:=(Ac _ _).mp z
     exact(R1.pur z1).trans (R2.pur z2),R2.rep⟩⟩
   |false=>
    cases q
    exact PV (k _ H1 ⟨R1.sta,R1.frm,fun z=>R1.pur ((Ac _ _).mp z).1,.bl _⟩)
  |_=>cases q
noncomputable def DP(t:VB)(x y:VF):VF:=fun δ=>(t δ).bind fun p=>if p.1=true then x p.2 else y p.2
theorem TW{t:VB}(ht:PT X c (TB K ml pc t))(ha:PE X a (TV K ml pa ta ia fa))(hb:PE X b (TV K ml pb tb ib fb)):PE X (.IfExp c a b pos) (TV K ml (pc && pa && pb) (ta && tb) (ia && ib) (DP t fa fb)):=(KP ht ha hb).imp fun σ H Q q0=>by
 obtain⟨B,O,δ,d,δ',S,q,k⟩:=q0
 unfold DP at q
 cases h1:t δ with
 | none => rw [h1] at q;cases q
 |some p=>
  obtain⟨kk,δ1⟩:=p
  rw[h1] at q
  refine⟨B,O,δ,kk,δ1,S,h1,fun H1 R1=> ?_⟩
  have g1: ∀c,((ta && tb)=true->c=true)-> ∀a,at_ B O (ta && tb) a->at_ B O c a:=fun c h=>zBT h
  have g2: ∀c,((ia && ib)=true->c=true)-> ∀a,av B O (ia && ib) a->av B O c a:=fun c h=>SK h
  cases kk with
  |true=>
   exact PX ⟨B,O,δ1,d,δ',R1.sta,q,fun v2 H2 R2=>k v2 H2 ⟨R2.sta,R1.frm.trans R2.frm,fun z=>by
    simp only[Ac] at z
    exact(R1.pur z.1.1).trans (R2.pur z.1.2),R2.rep.mono (g2 _ fun z=>((Ac _ _).mp z).1) (g1 _ fun z=>((Ac _ _).mp z).1)⟩⟩
  |false=>
   exact PV ⟨B,O,δ1,d,δ',R1.sta,q,fun v2 H2 R2=>k v2 H2 ⟨R2.sta,R1.frm.trans R2.frm,fun z=>by
    simp only[Ac] at z
    exact(R1.pur z.1.1).trans (R2.pur z.2),R2.rep.mono (g2 _ fun z=>((Ac _ _).mp z).2) (g1 _ fun z=>((Ac _ _).mp z).2)⟩⟩
noncomputable def f3(o o':dM->dM->Option dM)(fa fb fc:VF):VF:=fun δ=>(fa δ).bind fun p=>(fb p.2).bind fun q=>(o p.1 q.1).bind fun z=>match z with
 | .bl true=>(fc q.2).bind fun s=>(o' q.1 s.1).map fun u=>(u,s.2)
 | .bl false=>some (.bl false,q.2)
 |_=>none
theorem K2(ho:Q4 K r o)(ho':Q4 K r' o')(hs:(pb || (ta && ia))=true)(hs':(pc || (tb && ib))=true){Q:VK}(h:TV K ml (pa && pb && pc) true true (f3 o o' fa fb fc) σ H Q):IU r r' (TV K ml pa ta ia fa) (TV K ml pb tb ib fb) (TV K ml pc tc ic fc) σ H Q:=by
 obtain⟨B,O,δ,d,δ3,S,q,k⟩:=h
 unfold f3 at q
 cases h1:fa δ with
 | none => rw [h1] at q;cases q
 |some p=>
  obtain⟨x,δ1⟩:=p
  rw[h1] at q
  cases h2:fb δ1 with
  | none => simp [h2] at q
  |some p2=>
   obtain⟨y,δ2⟩:=p2
   simp only[Ag,h2] at q
   refine⟨B,O,δ,x,δ1,S,h1,fun v1 H1 R1=>⟨B,O,δ1,y,δ2,R1.sta,h2,fun v2 H2 R2=> ?_⟩⟩
   cases h3:o x y with
   | none => rw [h3] at q;cases q
   |some z=>
    rw[h3] at q
    refine ho H2 _ _ _ _ v1 v2 x y z _ (R2.live hs R1.rep) R2.rep h3 fun v hv=> ?_
    have hv := hv (fun _ => none) (fun _ => True) fun _ => True
    cases z with
    |bl kk=>
     have e1:v= .bl kk:=by cases hv;rfl
     refine⟨kk,e1,?_⟩
     cases kk with
     |false=>
      cases q
      exact PV (k _ H2 ⟨R2.sta,R1.frm.trans R2.frm,fun z=>by
       simp only[Ac] at z
       exact(R1.pur z.1.1).trans (R2.pur z.1.2),.bl _⟩)
     |true=>
      have q:((fc δ2).bind fun s=>(o' y s.1).map fun u=>(u,s.2))=some (d,δ3):=q
      cases h4:fc δ2 with
      | none => rw [h4] at q;cases q
      |some p4=>
       obtain⟨z4,δ4⟩:=p4
       rw[h4] at q
       have q:((o' y z4).map fun u=>(u,δ4))=some (d,δ3):=q
       cases h5:o' y z4 with
       | none => rw [h5] at q;cases q
       |some u=>
        rw[h5] at q
        cases q
        refine PX ⟨B,O,δ2,z4,_,R2.sta,h4,fun v4 H4 R4=> ?_⟩
        exact ho' H4 _ _ _ _ v2 v4 y z4 d Q (R4.live hs' R2.rep) R4.rep h5 fun v hv=>k v H4 ⟨R4.sta,(R1.frm.trans R2.frm).trans R4.frm,fun z=>by
         simp only[Ac] at z
         exact((R1.pur z.1.1).trans (R2.pur z.1.2)).trans (R4.pur z.2),hv _ _ _⟩
    |_=>cases q
theorem C3{op op':CmpOp}(ho:YD X (Cn op) r)(ho':YD X (Cn op') r')(hv:Q4 K r o)(hv':Q4 K r' o')(ha:PE X a (TV K ml pa ta ia fa))(hb:PE X b (TV K ml pb tb ib fb))(hc:PE X c (TV K ml pc tc ic fc))
  (hm:Ov [op,op'] [b,c]=false:=by with_unfolding_all rfl) (hs:(pb || (ta && ia))=true:=by rfl) (hs':(pc || (tb && ib))=true:=by rfl):PE X (.Compare a [op,op'] [b,c] pos) (TV K ml (pa && pb && pc) true true (f3 o o' fa fb fc)):=
 (BC ho ho' ha hb hc hm).imp fun _ _ _ h=>K2 hv hv' hs hs' h
theorem QH{op op':CmpOp}(ho:YD X (Cn op) r)(ho':YD X (Cn op') r')(hv:Q4 K r o)(hv':Q4 K r' o')(ha:PE X a (TV K ml pa ta ia fa))(hb:PE X b (TV K ml pb tb ib fb))(hc:PE X c (TV K ml pc tc ic fc))
  (hm:Ov [op,op'] [b,c]=false:=by with_unfolding_all rfl) (hs:(pb || (ta && ia))=true:=by rfl) (hs':(pc || (tb && ib))=true:=by rfl):PT X (.Compare a [op,op'] [b,c] pos) (TB K ml (pa && pb && pc) (fB (f3 o o' fa fb fc))):=
 (BR ho ho' ha hb hc hm).imp fun _ _ _ h=>MY (fun _ _ _=>K2 hv hv' hs hs') h
end
section
variable{X:Cx}{K:Ai}{ml:List Nat}{e a b c:Expr}{es:List Expr}{pa ta ia pb tb ib pc tc ic pu bt bi ps bs:Bool}{fa fb fc:VF}{B:Bs}{O:Nat->Option Addr}{H H1 H':Hp}{σ:St}{δ δ':Ev}{v:V}{d:dM}{p:Addr}{pos:Pos}
noncomputable def f1(o:dM->Option dM)(fa:VF):VF:=fun δ=>(fa δ).bind fun p=>(o p.1).map fun c=>(c,p.2)
theorem LZ{o:dM->Option dM}(h:f1 o fa δ=some (d,δ')): ∃x,fa δ=some (x,δ')/\o x=some d:=by
 unfold f1 at h
 cases h1:fa δ with
 | none => rw [h1] at h;cases h
 |some p=>
  rw[h1] at h
  have h:((o p.1).map fun c=>(c,p.2))=some (d,δ'):=h
  cases h3:o p.1 with
  |none=>rw[h3] at h;cases h
  |some c=>
   rw[h3] at h
   cases h
   exact⟨p.1,rfl,h3⟩
abbrev RC:=List V->Hp->VK->Prop
def DT(K:Ai)(r:RC)(o:dM->Option dM):Prop:= ∀(H:Hp) (N M:Addr->Prop) (x:V) (d c:dM) (Q:VK),b6 K N H M x d->o d=some c->(∀v,(∀H' N M,b6 K N H' M v c)->Q v H)->r [x] H Q
def CalC(K:Ai)(r:RC)(o:dM->Option dM):Prop:= ∀(H:Hp) (N M:Addr->Prop) (x:V) (d c:dM) (Q:VK),b6 K N H M x d->o d=some c→
 (∀v H',bC H H'->(∀M,(∀a,M a-> ∃o,H a=some o)->b6 K N H' M v c)->Q v H')->r [x] H Q
def CalN(K:Ai)(r:RC)(o:dM->Option dM):Prop:= ∀(H:Hp) (N M:Addr->Prop) (x:V) (d c:dM) (Q:VK),b6 K N H M x d->o d=some c→
 (∀p xs ds,H p=none->cU K N H xs ds->c= .lst ds->Q (.ref p) (bL H p (.lst xs)))->r [x] H Q
def OW(K:Ai)(r:RC)(o:dM->dM->Option dM):Prop:= ∀(H:Hp) (N N' M M':Addr->Prop) (x y:V) (d e c:dM) (Q:VK),b6 K N H M x d->b6 K N' H M' y e->o d e=some c->(∀v,(∀H' N M,b6 K N H' M v c)->Q v H)->r [x,y] H Q
theorem OB{r:RC}{o:dM->Option dM}(ho:DT K r o){Q:VK}(h:TV K ml pa true true (f1 o fa) σ H Q):tCB r (U0 (TV K ml pa ta ia fa) OS) σ H Q:=by
 obtain⟨B,O,δ,d,δ',S,q,k⟩:=h
 obtain⟨x,h1,h2⟩:=LZ q
 exact⟨B,O,δ,x,δ',S,h1,fun v1 H1 R1=>ho H1 _ _ v1 x d Q R1.rep h2 fun v hv=>k v H1 ⟨R1.sta,R1.frm,R1.pur,hv _ _ _⟩⟩
theorem FT{r:RC}{o:dM->Option dM}(ho:CalC K r o){Q:VK}(h:TV K ml pa true ia (f1 o fa) σ H Q):tCB r (U0 (TV K ml pa ta ia fa) OS) σ H Q:=by
 obtain⟨B,O,δ,d,δ',S,q,k⟩:=h
 obtain⟨x,h1,h2⟩:=LZ q
 exact⟨B,O,δ,x,δ',S,h1,fun v1 H1 R1=>ho H1 _ _ v1 x d Q R1.rep h2 fun v H2 s2 hv=>k v H2 ⟨R1.sta.same s2,R1.frm.trans s2.fr,fun z=>(R1.pur z).trans s2,hv _ fun a z=>R1.sta.nin z⟩⟩
theorem FU{r:RC}{o:dM->Option dM}(ho:CalN K r o){Q:VK}(h:TN K ml pa (f1 o fa) σ H Q):tCB r (U0 (TV K ml pa ta true fa) OS) σ H Q:=by
 obtain⟨B,O,δ,d,δ',S,q,k⟩:=h
 obtain⟨x,h1,h2⟩:=LZ q
 refine⟨B,O,δ,x,δ',S,h1,fun v1 H1 R1=>ho H1 _ _ v1 x d Q R1.rep h2 fun p xs ds hp hr he=> ?_⟩
 subst he
 exact k p _ (mkN R1.sta R1.frm R1.pur hp hr)
theorem FV{r:RC}{o:dM->dM->Option dM}(ho:OW K r o)(hs:(pb || (ta && ia))=true){Q:VK}(h:TV K ml (pa && pb) true true (f2 o fa fb) σ H Q):tCB r (U0 (TV K ml pa ta ia fa) (U0 (TV K ml pb tb ib fb) OS)) σ H Q:=by
 obtain⟨B,O,δ,d,δ2,S,q,k⟩:=h
 obtain⟨x,δ1,y,h1,h2,h3⟩:=T9 q
 refine⟨B,O,δ,x,δ1,S,h1,fun v1 H1 R1=>⟨B,O,δ1,y,δ2,R1.sta,h2,fun v2 H2 R2=> ?_⟩⟩
 exact ho H2 _ _ _ _ v1 v2 x y d Q (R2.live hs R1.rep) R2.rep h3 fun v hv=>k v H2 ⟨R2.sta,R1.frm.trans R2.frm,fun z=>by
  obtain⟨z1,z2⟩:=(Ac _ _).mp z
  exact(R1.pur z1).trans (R2.pur z2),hv _ _ _⟩
section
variable{x:Str}{p':Pos}{id T:String}{r:RC}
theorem HC{o:dM->Option dM}(hc:aL X (.builtin id) r)(ho:DT K r o)(hg:Gl X x)(hm:X.mg x=none)(hv:Bl x=some (.builtin id))(ha:PE X a (TV K ml pa ta ia fa))(hn:x≠ "__name__":=by decide) (hdb:(x==("__debug__":Str))=false:=by decide)
  (he:starEach (a::[]) X.env=(false,eval a X.env)::starEach [] X.env:=by rfl):PE X (.Call (.Name x p') [a] [] pos) (TV K ml pa true true (f1 o fa)):=
 (KO hc hg hm hv (bR ha ZN he) hn hdb he).imp fun _ _ _ h=>OB ho h
theorem Y3{o:dM->dM->Option dM}(hc:aL X (.builtin id) r)(ho:OW K r o)(hg:Gl X x)(hm:X.mg x=none)(hv:Bl x=some (.builtin id))(ha:PE X a (TV K ml pa ta ia fa))(hb:PE X b (TV K ml pb tb ib fb))(hn:x≠ "__name__":=by decide) (hdb:(x==("__debug__":Str))=false:=by decide)
  (he:starEach (a::[b]) X.env=(false,eval a X.env)::starEach [b] X.env:=by rfl) (he2:starEach (b::[]) X.env=(false,eval b X.env)::starEach [] X.env:=by rfl) (hpl:(Dq pos (starEach [b] X.env)).any (·.1)=false:=by rfl) (hs:(pb || (ta && ia))=true:=by rfl):
  PE X (.Call (.Name x p') [a,b] [] pos) (TV K ml (pa && pb) true true (f2 o fa fb)):=
 (KO hc hg hm hv (bR ha (bR hb ZN he2) he) hn hdb he hpl).imp fun _ _ _ h=>FV ho hs h
theorem C2{o:dM->Option dM}(hc:aL X (.type T) r)(ho:CalC K r o)(hg:Gl X x)(hm:X.mg x=none)(hv:Bl x=some (.type T))(ha:PE X a (TV K ml pa ta ia fa))(hn:x≠ "__name__":=by decide) (hdb:(x==("__debug__":Str))=false:=by decide)
  (he:starEach (a::[]) X.env=(false,eval a X.env)::starEach [] X.env:=by rfl):PE X (.Call (.Name x p') [a] [] pos) (TV K ml pa true ia (f1 o fa)):=
 (NY hc hg hm hv (bR ha ZN he) hn hdb he).imp fun _ _ _ h=>FT ho h
theorem zFU{o:dM->Option dM}(hc:aL X (.type T) r)(ho:CalN K r o)(hg:Gl X x)(hm:X.mg x=none)(hv:Bl x=some (.type T))(ha:PE X a (TV K ml pa ta true fa))(hn:x≠ "__name__":=by decide) (hdb:(x==("__debug__":Str))=false:=by decide)
  (he:starEach (a::[]) X.env=(false,eval a X.env)::starEach [] X.env:=by rfl):PE X (.Call (.Name x p') [a] [] pos) (TN K ml pa (f1 o fa)):=
 (NY hc hg hm hv (bR ha ZN he) hn hdb he).imp fun _ _ _ h=>FU ho h
end
noncomputable def Z6:dM->Option dM
 | .tup ds=>some (.int ds.length)
 | .lst ds=>some (.int ds.length)
 | .str z=>if z.length<=16777216 then some (.int z.length) else none
 |_=>none
def rLen(K:Ai):RC:=fun xs H Q=>(∃p ys,xs=[.ref p]/\(YO K H p ys∨W4 K H p ys)/\Q (.int ys.length) H)∨ ∃z,xs=[.str z]/\z.length<=sizeLine/\Q (.int z.length) H
theorem zHK(h:X.K=K):aL X (.builtin "len") (rLen K):=by subst h;exact LQ.or LS
theorem zGH:DT K (rLen K) Z6:=by
  intro H N M x d c Q hx h k
  cases d<;>first
    | (rename_i ds
       obtain⟨a,xs,rfl,sq,r⟩:=hx.seq rfl
       cases h
       refine .inl ⟨a,xs,rfl,sq,?_⟩
       rw[r.length]
       exact k _ fun _ _ _=> .int _)
    | (cases hx
       simp only[Z6] at h
       split at h
       · cases h
         exact .inr ⟨_,rfl,by rw[Bu];assumption,k _ fun _ _ _=> .int _⟩
       · cases h)
    |cases h
noncomputable def GQ(d:dM):Option dM:=(ZA d).map dM.lst
noncomputable def R6(d:dM):Option dM:=(ZA d).map dM.tup
def B0(K:Ai):RC:=fun xs H Q=> ∃p ys,xs=[.ref p]/\(YO K H p ys∨W4 K H p ys)/\ ∀l,H l=none->Q (.ref l) (bL H l (.lst ys))
def G4(K:Ai):RC:=fun xs H Q=> ∃p ys,xs=[.ref p]/\((YO K H p ys/\ ∀l,H l=none->Q (.ref l) (bL H l (.tup ys)))∨(W4 K H p ys/\Q (.ref p) H))
theorem zF8(h:X.K=K):aL X (.type "list") (B0 K):=zHJ h
theorem ME(h:X.K=K):aL X (.type "tuple") (G4 K):=zF7 h
theorem KY{d:dM}{g:List dM->dM}{c:dM}(h:(ZA d).map g=some c): ∃ds,ZA d=some ds/\c=g ds:=by
 cases h1:ZA d with
 |none=>rw[h1] at h;cases h
 |some ds=>rw[h1] at h;cases h;exact⟨ds,rfl,rfl⟩
theorem MH:CalN K (B0 K) GQ:=by
 intro H N M x d c Q hx h k
 obtain⟨ds,h1,rfl⟩:=KY h
 obtain⟨a,xs,rfl,sq,r⟩:=hx.seq h1
 exact⟨a,xs,rfl,sq,fun l hl=>k l xs ds hl r rfl⟩
theorem LP:CalC K (G4 K) R6:=by
 intro H N M x d c Q hx h k
 obtain⟨ds,h1,rfl⟩:=KY h
 obtain⟨a,xs,rfl,sq,r⟩:=hx.seq h1
 rcases sq with sq|sq
 ·exact⟨a,xs,rfl,.inl ⟨sq,fun l hl=>k _ _ (dD hl) fun M hM=> .tup (W4.of cQ) (r.same (dD hl))⟩⟩
 ·exact⟨a,xs,rfl,.inr ⟨sq,k _ _ (bC.refl _) fun M hM=> .tup sq r⟩⟩
noncomputable def o2I(g:Int->Int->Int):dM->dM->Option dM
 | .int i,.int j=>some (.int (g i j))
 |_,_=>none
theorem CA{g:Int->Int->Int}:OW K (fun xs H Q=> ∃i j,xs=[.int i,.int j]/\Q (.int (g i j)) H) (o2I g):=by
 intro H N N' M M' x y d e c Q hx hy h k
 unfold o2I at h
 split at h
 ·cases h
  cases hx
  cases hy
  exact⟨_,_,rfl,k _ fun _ _ _=> .int _⟩
 ·cases h
noncomputable abbrev oMax:=o2I fun i j=>if j>i then j else i
noncomputable abbrev oMin:=o2I fun i j=>if j<i then j else i
theorem zGG:OW K (fun xs H Q=> ∃i j,xs=[.int i,.int j]/\Q (.int (if j>i then j else i)) H) oMax:=CA
theorem zGF:OW K (fun xs H Q=> ∃i j,xs=[.int i,.int j]/\Q (.int (if j<i then j else i)) H) oMin:=CA
noncomputable def tyD:dM->Option String
 | .non=>some "NoneType"
 | .bl _=>some "bool"
 | .int _=>some "int"
 | .str _=>some "str"
 | .tup _=>some "tuple"
 | .lst _=>some "list"
 |_=>none
noncomputable def SW(t n:String):Option Bool:=if((Jg t)==(Jg n))=true then some true else if W.kitMeta n=true then(PySem.fastBuiltinMro t).map (·.contains (.type n)) else none
theorem zBG{t n:String}{k:Bool}(h:SW t n=some k):Hq K (.type t) (.type n)=some k:=h
noncomputable def V1:dM->dM->Option dM
 |d,.ty n=>(tyD d).bind fun t=>(SW t n).map dM.bl
 |_,_=>none
def rIsi(K:Ai):RC:=fun xs H Q=> ∃x n d N M t k,xs=[x,.ty n]/\b6 K N H M x d/\tyD d=some t/\SW t n=some k/\Q (.bl k) H
theorem D9:aL X (.builtin "isinstance") (rIsi X.K):=by
 intro aa s σ H xs us Q I r h
 obtain⟨x,n,d,N,M,t,k,rfl,hx,ht,hk,q⟩:=h
 obtain⟨u,c,rfl,rx,rc⟩:=K5 r
 cases (show c=Jg n from rc)
 have e:=zBG (K:=X.K) hk
 have fin: ∀tk,EP X aa σ Q (.bool k) {s with toks:=tk}:=fun tk=>⟨.bl k,H,I.tok tk,rfl,q⟩
 cases hx with
 |non=>cases ht;exact U9 I rx (.non) e fin
 |bl y=>cases ht;exact U9 I rx (.bl y) e fin
 |int i=>cases ht;exact U9 I rx (.int i) e fin
 |str y=>cases ht;exact U9 I rx (.str y) e fin
 |ty n=>cases ht
 |fn _=>cases ht
 |dct _ _ _=>cases ht
 |ktb _ _=>cases ht
 |exn _ _ _=>cases ht
 |tup q _=>
  cases ht
  cases rx
  obtain⟨its,_,⟨o,h1,h2,_⟩,_⟩:=I.tuple q
  exact Ei W.kitx_tuple I.kIn ⟨o,h1,h2⟩ e (fun z=>nomatch z) fin
 |lst q _ _=>
  cases ht
  cases rx
  obtain⟨its,_,⟨o,n,h1,h2,_⟩,_⟩:=I.list (YO.of q)
  exact Ei Ln I.kIn ⟨o,h1,h2⟩ e (fun z=>nomatch z) fin
 |fzl q _=>
  cases ht
  cases rx
  obtain⟨its,_,⟨o,n,h1,h2,_⟩,_⟩:=I.list q.sq
  exact Ei Ln I.kIn ⟨o,h1,h2⟩ e (fun z=>nomatch z) fin
theorem kIsi(h:X.K=K):aL X (.builtin "isinstance") (rIsi K):=by subst h;exact D9
theorem zGI:OW K (rIsi K) V1:=by
  intro H N N' M M' x y d e c Q hx hy h k
  cases hy<;>first
    | (simp only [V1] at h
       cases h1:tyD d with
       | none => rw [h1] at h;cases h
       |some t=>
         rw[h1] at h
         rename_i n
         have h:(SW t n).map dM.bl=some c:=h
         cases h2:SW t n with
         | none => rw [h2] at h;cases h
         |some kk=>
           rw[h2] at h
           cases h
           exact⟨x,n,d,N,M,t,kk,rfl,hx,h1,h2,k _ fun _ _ _=> .bl _⟩)
    |cases h
noncomputable def IF:dM->Option dM
 | .int i=>some (.int (-i))
 |_=>none
theorem QE(ha:PE X a (TV K ml pa ta ia fa)):PE X (.UnaryOp .USub a pos) (TV K ml pa true true (f1 IF fa)):=(zGW zCX ha).imp fun σ H Q q0=>by
 obtain⟨B,O,δ,d,δ',S,q,k⟩:=q0
 obtain⟨x,h1,h2⟩:=LZ q
 refine⟨B,O,δ,x,δ',S,h1,fun v1 H1 R1=> ?_⟩
 cases x with
 |int i=>
  cases h2
  have e1:v1= .int i:=by cases R1.rep;rfl
  exact⟨i,e1,k _ H1 ⟨R1.sta,R1.frm,R1.pur,.int _⟩⟩
 |_=>cases h2
abbrev VP:=Ev->Option (Option Int×Ev)
def TPO(K:Ai)(ml:List Nat)(pu:Bool)(f:VP):TO:=fun σ H Q=> ∃B O δ k δ',bG K ml B O H σ δ/\f δ=some (k,δ')/\ ∀H',DZ K ml B O H σ pu H' δ'->Q k H'
noncomputable def pNo:VP:=fun δ=>some (none,δ)
noncomputable def pSo(f:VF):VP:=fun δ=>(f δ).bind fun p=>match p.1 with
 | .int i=>some (some i,p.2)
 |_=>none
theorem PO.imp{e:Option Expr}{t u:TO}(h:PO X e t)(k: ∀σ H Q,u σ H Q->t σ H Q):PO X e u:=fun aa s σ H Q I w=>h aa s σ H Q I (k σ H Q w)
theorem C9:PO X none (TPO K ml true pNo):=zAP.imp fun σ H Q q0=>by
 obtain⟨B,O,δ,d,δ',S,q,k⟩:=q0
 cases q
 exact k H (DZ.refl S)
theorem DA(h:PE X a (TV K ml pa ta ia fa)):PO X (some a) (TPO K ml pa (pSo fa)):=(zAO h).imp fun σ H Q q0=>by
 obtain⟨B,O,δ,d,δ',S,q,k⟩:=q0
 unfold pSo at q
 cases h1:fa δ with
 | none => rw [h1] at q;cases q
 |some p=>
  obtain⟨x,δ1⟩:=p
  rw[h1] at q
  refine⟨B,O,δ,x,δ1,S,h1,fun v1 H1 R1=> ?_⟩
  cases x with
  |int i=>
   have e1:v1= .int i:=by cases R1.rep;rfl
   cases q
   exact⟨i,e1,k H1 ⟨R1.sta,R1.frm,R1.pur⟩⟩
  |_=>cases q
noncomputable def PB(ds:List dM)(lo hi:Option Int):List dM:=(ds.drop (HT.sIx ds.length 0 lo)).take (HT.sIx ds.length ds.length hi - HT.sIx ds.length 0 lo)
theorem QP{N:Addr->Prop}{xs:List V}{ds:List dM}(r:cU K N H xs ds)(lo hi:Option Int):cU K N H (JT xs lo hi) (PB ds lo hi):=by
 unfold JT PB
 rw[r.length]
 exact(r.drop _).take _
noncomputable def oSl(d:dM)(lo hi:Option Int):Option dM:=match d with
 | .lst ds=>some (.lst (PB ds lo hi))
 | .tup ds=>some (.tup (PB ds lo hi))
 |_=>none
noncomputable def fSl(fa:VF)(fl fh:VP):VF:=fun δ=>(fa δ).bind fun p=>(fl p.2).bind fun l=>(fh l.2).bind fun u=>(oSl p.1 l.1 u.1).map fun c=>(c,u.2)
theorem FQ{prog:Au}{w:World}{A:Bx}{E:Value->Ad->Prop}{s:Ad}{t sl:Addr}{items:Array Value}{vl vu:Value}{lo hi:Option Int}{Q:Value->Ad->Prop}(ht:IsTup s.heap t items)(hs:s.heap.IsSliceOf sl vl vu .none)(pl:IsPart vl lo)
  (pu:IsPart vu hi) (h1:HT.sIx items.size 0 lo=0) (h2:HT.sIx items.size items.size hi=items.size) (h:Q (.ref t) s):wpAny (model prog w) A (Js (.ref t) (.ref sl)) Q E s:=by
 obtain⟨os,hos,hcs,hds⟩:=id hs
 have hT:s.TypeIs (.ref sl) "slice":=⟨os,hos,hcs⟩
 unfold Js
 try with_reducible refine Bo ?_
 first|refine Aa (Af ?_)|skip
 refine Aa (Jk ht.typeIs (by decide) ?_)
 refine Aa (Cy (name:=Az "__getitem__") ht.typeIs Dv
  (Eb Dv ht.typeIs PyProof.Rows.entry_tuple_getitem ?_ (PyProof.Rows.args_tuple_getitem _ _)))
 show wpAny _ _ (Ir (.ref t)>>=_) _ _ s
 refine Aa (PyProof.Rows.tupleItemsOf_ ht ?_)
 refine Aa (Nh hT ?_)
 rw[if_pos (by decide)]
 refine Aa (HT.XG hs pl pu ?_)
 rw[h1,h2]
 show wpAny _ _ (if((((0:Nat):Int)==0 && (1:Int)==1 && (items.size - 0)==items.size)=true) then _ else _) _ _ s
 rw[if_pos (by simp)]
 refine Aa (m:=Ph _) (Aa (Nh ht.typeIs (Af ?_)))
 rw[if_pos (by decide)]
 exact Aa (Hw (Af ⟨_,rfl,Af h⟩))
def rSlW(K:Ai):V->Option Int->Option Int->Hp->VK->Prop:=fun x lo hi H Q=> ∃a xs,x= .ref a/\W4 K H a xs/\(HT.sIx xs.length 0 lo=0/\HT.sIx xs.length xs.length hi=xs.length)/\Q (.ref a) H
theorem zAE:SlR X (rSlW X.K):=by
 intro aa s σ H x v vl vu lo hi sl Q I rx hs pl pu h
 obtain⟨a,xs,rfl,hx,hw,q⟩:=h
 cases rx
 obtain⟨its,r,ht,hz⟩:=I.tuple hx
 have ah:its.toArray.size=xs.length:=by rw[Ak];exact r.length.symm
 refine⟨"tuple",_,PyProof.Rows.slot_tuple_getitem.lookup,ht.typeIs,?_⟩
 exact FQ ht hs pl pu (by rw[ah];exact hw.1) (by rw[ah];exact hw.2) ⟨.ref a,H,I,rfl,q⟩
def rSl(K:Ai):V->Option Int->Option Int->Hp->VK->Prop:=fun x lo hi H Q=>(rSlT K x lo hi H Q∨rSlL K x lo hi H Q)∨rSlW K x lo hi H Q
theorem kSl(h:X.K=K):SlR X (rSl K):=by subst h;exact(zD8.or zAF).or zAE
theorem zBI{fl fh:VP}(h:fSl fa fl fh δ=some (d,δ')): ∃x δ1 l δ2 u,fa δ=some (x,δ1)/\fl δ1=some (l,δ2)/\fh δ2=some (u,δ')/\oSl x l u=some d:=by
 unfold fSl at h
 cases h1:fa δ with
 | none => rw [h1] at h;cases h
 |some p=>
  rw[h1] at h
  cases h2:fl p.2 with
  | none => simp [h2] at h
  |some q=>
   simp only[Ag,h2] at h
   cases h3:fh q.2 with
   | none => simp [h3] at h
   |some s=>
    simp only[Ag,h3] at h
    cases h4:oSl p.1 q.1 s.1 with
    |none=>rw[h4] at h;cases h
    |some c=>
     rw[h4] at h
     cases h
     exact⟨p.1,p.2,q.1,q.2,s.1,rfl,h2,h3,h4⟩
theorem C5{lo hi:Option Expr}{p2:Pos}{fl fh:VP}(hK:X.K=K)(ha:PE X a (TV K ml pa ta ia fa))(hl:PO X lo (TPO K ml pb fl))(hh:PO X hi (TPO K ml pc fh))(hs:(pb && pc || (ta && ia))=true:=by rfl):
  PE X (.Subscript a (.Slice lo hi none p2) pos) (TV K ml (pa && pb && pc) true ia (fSl fa fl fh)) := (BK (kSl hK) ha hl hh).imp fun σ H Q ⟨B,O,δ,d,δ3,S,q,k⟩ => by
 obtain⟨x,δ1,l,δ2,u,h1,h2,h3,h4⟩:=zBI q
 refine⟨B,O,δ,x,δ1,S,h1,fun v1 H1 R1=>⟨B,O,δ1,l,δ2,R1.sta,h2,fun H2 R2=>⟨B,O,δ2,u,δ3,R2.sta,h3,fun H3 R3=> ?_⟩⟩⟩
 have hx:b6 K (av B O ia) H3 (at_ B O ta) v1 x:=by
  rcases(Ie _ _).mp hs with z|z
  ·obtain⟨z1,z2⟩:=(Ac _ _).mp z
   exact(R1.rep.same (R2.pur z1)).same (R3.pur z2)
  ·obtain⟨z1,z2⟩:=(Ac _ _).mp z
   subst z1 z2
   exact(R1.rep.fr R2.frm (fun a z=> .inr z) fun a z=> .inr z).fr R3.frm (fun a z=> .inr z) fun a z=> .inr z
 have il:(pa && pb && pc)=true->bC H H3:=fun z=>by
  simp only[Ac] at z
  exact((R1.pur z.1.1).trans (R2.pur z.1.2)).trans (R3.pur z.2)
 have hfr:=(R1.frm.trans R2.frm).trans R3.frm
 cases x with
 |lst ds=>
  cases h4
  obtain⟨a,xs,rfl,sq,r⟩:=hx.seq rfl
  rcases sq with sq|sq
  ·exact .inl (.inr ⟨a,xs,rfl,sq,fun p hp => k _ _ ⟨R3.sta.same (dD hp),hfr.trans (dD hp).fr,fun z => (il z).trans (dD hp),.lst cQ (R3.sta.new hp) ((QP r l u).same (dD hp))⟩⟩)
  ·cases hx with
   | lst q n r' => exact .inl (.inr ⟨a,_,rfl,YO.of q,fun p hp => k _ _ ⟨R3.sta.same (dD hp),hfr.trans (dD hp).fr,fun z => (il z).trans (dD hp),.lst cQ (R3.sta.new hp) ((QP r' l u).same (dD hp))⟩⟩)
   | fzl q r' => exact .inl (.inr ⟨a,_,rfl,q.sq,fun p hp => k _ _ ⟨R3.sta.same (dD hp),hfr.trans (dD hp).fr,fun z => (il z).trans (dD hp),.lst cQ (R3.sta.new hp) ((QP r' l u).same (dD hp))⟩⟩)
 |tup ds=>
  cases h4
  cases hx with
  |tup q r'=>
   by_cases hw:HT.sIx ds.length 0 l=0/\HT.sIx ds.length ds.length u=ds.length
   ·refine .inr ⟨_,_,rfl,q,by rw [r'.length];exact hw,k _ _ ⟨R3.sta,hfr,il,?_⟩⟩
    have e:PB ds l u=ds:=by
     unfold PB
     rw[hw.1,hw.2]
     simp
    rw[e]
    exact .tup q r'
   ·exact .inl (.inl ⟨_,_,rfl,q,by rw[r'.length];exact hw,fun p hp=>k _ _ ⟨R3.sta.same (dD hp),hfr.trans (dD hp).fr,fun z=>(il z).trans (dD hp),.tup (W4.of cQ) ((QP r' l u).same (dD hp))⟩⟩)
 |_=>cases h4
end
inductive Ou where
 |nx (δ:Ev)|rt (d:dM) (δ:Ev)|bk (δ:Ev)|ct (δ:Ev)
abbrev VS:=Ev->Option Ou
def Post(K:Ai)(ml:List Nat)(B:Bs)(D:HG):Ou->Prop
 | .nx δ'=> ∀σ' H' O',bG K ml B O' H' σ' δ'->D.nx σ' H'
 | .rt d δ'=> ∀v σ' H' O',bG K ml B O' H' σ' δ'->b6 K (rz B) H' (rz B) v d->D.rt v H'
 | .bk δ'=> ∀σ' H' O',bG K ml B O' H' σ' δ'->D.bk σ' H'
 | .ct δ'=> ∀σ' H' O',bG K ml B O' H' σ' δ'->D.ct σ' H'
def U5(K:Ai)(ml:List Nat)(g:VS):TS:=fun D σ H=> ∃B O δ o,bG K ml B O H σ δ/\g δ=some o/\Post K ml B D o
section
variable{X:Cx}{K:Ai}{ml:List Nat}{e a b c:Expr}{es:List Expr}{pa ta ia pb tb ib pc tc ic pu bt bi ps bs:Bool}{fa fb fc f:VF}{B B':Bs}{O:Nat->Option Addr}{H H1 H':Hp}{σ:St}{δ δ':Ev}{v:V}{d:dM}{p:Addr}{pos:Pos}{st:Stmt}{rest:List Stmt}{g g':VS}
noncomputable def a8:VS:=fun δ=>some (.nx δ)
noncomputable def cS(g g':VS):VS:=fun δ=>(g δ).bind fun o=>match o with
 | .nx δ'=>g' δ'
 |o=>some o
theorem cR:W6 X [] (U5 K ml a8):=G0.imp fun D σ H q0=>by
 obtain⟨B,O,δ,o,S,q,k⟩:=q0
 cases q
 exact k σ H O S
theorem dI(h1:PS X st (U5 K ml g))(h2:W6 X rest (U5 K ml g')):W6 X (st::rest) (U5 K ml (cS g g')):=(TJ h1 h2).imp fun D σ H q0=>by
 obtain⟨B,O,δ,o,S,q,k⟩:=q0
 unfold cS at q
 cases h1:g δ with
 |none=>rw[h1] at q;cases q
 |some z=>
  rw[h1] at q
  refine⟨B,O,δ,z,S,h1,?_⟩
  cases z with
  |nx δ1=>exact fun σ' H' O' S'=>⟨B,O',δ1,o,S',q,k⟩
  |rt d δ1=>cases q;exact k
  |bk δ1=>cases q;exact k
  |ct δ1=>cases q;exact k
theorem dF(h1:PS X st (U5 K ml g)):W6 X [st] (U5 K ml g):=(TJ h1 G0).imp fun D σ H ⟨B,O,δ,o,S,q,k⟩=>⟨B,O,δ,o,S,q,by cases o<;>exact k⟩
noncomputable def cB(f:VF):VS:=fun δ=>(f δ).map fun p=> .rt p.1 p.2
theorem c5(h:PE X e (TV K ml pu bt bi f))(ht:bt=true:=by rfl):PS X (.Return (some e) pos) (U5 K ml (cB f)):=(IL h).imp fun D σ H q0=>by
 obtain⟨B,O,δ,o,S,q,k⟩:=q0
 unfold cB at q
 cases h1:f δ with
 |none=>rw[h1] at q;cases q
 |some p=>
  rw[h1] at q
  cases q
  subst ht
  exact⟨B,O,δ,p.1,p.2,S,h1,fun v H' R=>k v σ H' O R.sta (R.rep.mono R.sta.rza R.sta.rzn)⟩
theorem zA8{i:Nat}(h:PE X e (P8 i))(hm:i∉ml:=by decide):PS X (.Return (some e) pos) (U5 K ml (cB (fO i))):=(IL h).imp fun D σ H q0=>by
 obtain⟨B,O,δ,o,S,q,k⟩:=q0
 unfold cB at q
 cases h1:fO i δ with
 |none=>rw[h1] at q;cases q
 |some p=>
  obtain⟨x,δ1⟩:=p
  rw[h1] at q
  cases q
  obtain⟨rfl,v,e1,r⟩:=S.lone hm h1
  exact⟨v,e1,k v σ H O S (r.mono S.rza S.rza)⟩
noncomputable def RG(f:VF):VS:=fun δ=>(f δ).map fun p=> .nx p.2
theorem TY(h:PE X e (TV K ml pu bt bi f))(hs:Fm e none pos.line X.env=pure false:=by rfl):PS X (.Expr e pos) (U5 K ml (RG f)):=(MN h hs).imp fun D σ H q0=>by
 obtain⟨B,O,δ,o,S,q,k⟩:=q0
 unfold RG at q
 cases h1:f δ with
 |none=>rw[h1] at q;cases q
 |some p=>
  rw[h1] at q
  cases q
  exact⟨B,O,δ,p.1,p.2,S,h1,fun v H' R=>k σ H' O R.sta⟩
noncomputable def YN(t:VB)(g g':VS):VS:=fun δ=>(t δ).bind fun p=>if p.1=true then g p.2 else g' p.2
theorem b4{x y:List Stmt}{t:VB}(ht:PT X c (TB K ml pc t))(ha:W6 X x (U5 K ml g))(hb:W6 X y (U5 K ml g')):PS X (.If c x y pos) (U5 K ml (YN t g g')):=(zCA ht ha hb).imp fun D σ H q0=>by
 obtain⟨B,O,δ,o,S,q,k⟩:=q0
 unfold YN at q
 cases h1:t δ with
 |none=>rw[h1] at q;cases q
 |some p=>
  obtain⟨kk,δ1⟩:=p
  rw[h1] at q
  refine⟨B,O,δ,kk,δ1,S,h1,fun H1 R1=> ?_⟩
  cases kk with
  |true=>exact PX ⟨B,O,δ1,o,R1.sta,q,k⟩
  |false=>exact PV ⟨B,O,δ1,o,R1.sta,q,k⟩
abbrev VX:=Ev->Option (Sl×Ev)
inductive St1(K:Ai)(B:Bs)(O:Nat->Option Addr)(H:Hp):Bs->V->Sl->Prop
 |va {v:V} {d:dM}:St1 K B O H {B with kp:=[(v,d)]++B.kp} v (.va d)
 |ol {p:Addr} {xs:List V} {ds:List dM}:H p=some (.lst xs)->xs.length=ds.length-> ¬Nn B O p->B.H0 p=none->St1 K B O H {B.add p with kp:=xs.zip ds++B.kp} (.ref p) (.ow (.lst ds))
 |od {p:Addr} {kvs:List (aF×V)} {ds:List dM}:H p=some (.dK kvs)->kvs.length=ds.length-> ¬Nn B O p->B.H0 p=none->St1 K B O H {B.add p with kp:=(kvs.map Hr).zip ds++B.kp} (.ref p) (.ow (.dct (kvs.map Hs) ds))
theorem St1.fr{s:Sl}(h:St1 K B O H B' v s)(f:Fr (OA O) H H'):St1 K B O H' B' v s:=by
 cases h with
 |va=>exact .va
 |ol q l n z=>exact .ol (f _ _ q fun w=>absurd (.inr w) n) l n z
 |od q l n z=>exact .od (f _ _ q fun w=>absurd (.inr w) n) l n z
def TX(K:Ai)(ml:List Nat)(f:VX):TE:=fun σ H Q=> ∃B O δ s δ',bG K ml B O H σ δ/\f δ=some (s,δ')/\ ∀v H' B',bG K ml B' O H' σ δ'->St1 K B O H' B' v s->Fr (OA O) H H'->Q v H'
noncomputable def xV(f:VF):VX:=fun δ=>(f δ).map fun p=>(.va p.1,p.2)
noncomputable def xO(f:VF):VX:=fun δ=>(f δ).map fun p=>(.ow p.1,p.2)
theorem ZW(h:PE X e (TV K ml pu true true f)):PE X e (TX K ml (xV f)):=h.imp fun σ H Q q0=>by
 obtain⟨B,O,δ,o,δ',S,q,k⟩:=q0
 unfold xV at q
 cases h1:f δ with
 | none => rw [h1] at q;cases q
 |some p=>
  rw[h1] at q
  cases q
  exact⟨B,O,δ,p.1,p.2,S,h1,fun v H' R=>k v H' _ (R.sta.keepV (ps:=[(v,p.1)]) fun z hz=>by
   rw[Ax.mp hz]
   exact R.rep) .va R.frm⟩
theorem VL{N:Addr->Prop}: ∀{xs:List V} {ds:List dM},cU K N H xs ds-> ∀z∈xs.zip ds,b6 K N H N z.1 z.2
 |_,_,.nil,z,hz=>nomatch hz
 |_,_,.cons h t,z,hz=>by
  rcases Ao.mp hz with e|e
  ·rw[e];exact h
  ·exact VL t z e
theorem VD{N:Addr->Prop}: ∀{xs:List V} {ds:List dM},xs.length=ds.length->(∀z∈xs.zip ds,b6 K N H N z.1 z.2)->cU K N H xs ds
 |[],[],_,_=> .nil
 |x::xs,d::ds,hl,h=> .cons (h (x,d) (Bg ..)) (VD (by simpa using hl) fun z hz=>h z (Av _ hz))
theorem U1(h:PE X e (TN K ml pu f)):PE X e (TX K ml (xO f)):=h.imp fun σ H Q q0=>by
 obtain⟨B,O,δ,o,δ',S,q,k⟩:=q0
 unfold xO at q
 cases h1:f δ with
 |none=>rw[h1] at q;cases q
 |some p=>
  obtain⟨d,δ1⟩:=p
  rw[h1] at q
  cases q
  refine⟨B,O,δ,d,δ1,S,h1,fun p H' R=> ?_⟩
  have w:=R.own
  cases w with
  |lst q r=>exact k _ H' _ (R.sta.keepV (VL r)) (.ol q r.length R.nz R.h0) R.frm
  |dct q r=>exact k _ H' _ (R.sta.keepV (VL r)) (.od q (by simpa using r.length) R.nz R.h0) R.frm
theorem St1.bind{O':Nat->Option Addr}{s:Sl}{i:Nat}(h:St1 K B O H' B' v s)(S:bG K ml B' O' H' σ δ)(hm:i∉ml)(hl:i<δ.length): ∃O'',bG K ml B O'' H' (σ.set i (some v)) (δ.set i s):=by
 cases h with
 |va=>
  refine⟨_,bG.unkeep (ps:=_) (S.setVa hm (S.kep _ (Bf _ (Ax.mpr rfl))))⟩
 |ol q l n z=>
  refine⟨_,bG.setOw (bG.unkeep (B:=B.add _) S) hm hl (fun w=>n (.inl w)) z (.lst q (VD l fun z hz=>S.kep z (Bf _ hz)))⟩
 |od q l n z=>
  refine⟨_,bG.setOw (bG.unkeep (B:=B.add _) S) hm hl (fun w=>n (.inl w)) z (.dct q (VD (by simpa using l) fun z hz=>S.kep z (Bf _ hz)))⟩
noncomputable def aZ(i:Nat)(x:VX):VS:=fun δ=>(x δ).bind fun p=>if i<p.2.length then some (.nx (p.2.set i p.1)) else none
theorem bS{i:Nat}{y:Str}{x:VX}{bh:Pos}(hN:X.N.Nodup)(he:PE X e (TX K ml x))(hi:X.N[i]? =some y:=by rfl)(hx:F0 X.env.scope y:=by first|exact .inl rfl|exact .inr rfl)(hm:i∉ml:=by decide)(hs:Fm e (some (.Name y bh)) pos.line X.env=pure false:=by rfl)
  (hf : X.fn y = true ∨ X.env.scope.names.lookup y = some .local := by first | exact .inl rfl | exact .inr rfl | assumption) : PS X (.Assign [.Name y bh] e pos) (U5 K ml (aZ i x)) := (zDU hN hi hx he hs hf).imp fun D σ H ⟨B,O,δ,o,S,q,k⟩ => by
 unfold aZ at q
 cases h1:x δ with
 | none => rw [h1] at q;cases q
 |some p=>
  obtain⟨s,δ1⟩:=p
  rw[h1] at q
  have q:(if i<δ1.length then some (Ou.nx (δ1.set i s)) else none)=some o:=q
  split at q
  ·rename_i hl
   cases q
   refine⟨B,O,δ,s,δ1,S,h1,fun v H' B' S' h' f'=> ?_⟩
   obtain⟨O'',S''⟩:=h'.bind S' hm hl
   exact k _ _ _ S''
  ·cases q
abbrev VG:=dM->Ev->Option Ev
def D1(K:Ai)(ml:List Nat)(h:VG):TG:=fun v σ H Q=> ∃B O δ d δ',bG K ml B O H σ δ/\b6 K (Nn B O) H (Nn B O) v d/\h d δ=some δ'/\ ∀σ' O',bG K ml B O' H σ' δ'->(∀i∈ml,σ'[i]? =σ[i]?)->Q σ' H
theorem PG.imp{t u:TG}(h:PG X e t)(k: ∀v σ H Q,u v σ H Q->t v σ H Q):PG X e u:=fun aa s σ H v w Q I r z=>h aa s σ H v w Q I r (k v σ H Q z)
theorem F1.imp{t u:D2}(h:F1 X es t)(k: ∀v σ H Q,u v σ H Q->t v σ H Q):F1 X es u:=fun aa s σ H v w Q I r z=>h aa s σ H v w Q I r (k v σ H Q z)
theorem PG.or{t u:TG}(h:PG X e t)(h':PG X e u):PG X e (fun v σ H Q=>t v σ H Q∨u v σ H Q):=fun aa s σ H v w Q I r z=>by
 rcases z with z|z
 ·exact h aa s σ H v w Q I r z
 ·exact h' aa s σ H v w Q I r z
noncomputable def gN(i:Nat):VG:=fun d δ=>some (δ.set i (.va d))
theorem c8{i:Nat}{x:Str}(hN:X.N.Nodup)(hi:X.N[i]? =some x:=by rfl)(hx:F0 X.env.scope x:=by first|exact .inl rfl|exact .inr rfl)(hm:i∉ml:=by decide)(hf:X.fn x=true∨X.env.scope.names.lookup x=some .local:=by first|exact .inl rfl|exact .inr rfl|assumption):PG X (.Name x pos) (D1 K ml (gN i)):=
 (TF hN hi hx hf).imp fun v σ H Q q0 => by
  obtain⟨B,O,δ,d,δ',S,r,q,k⟩:=q0
  cases q
  exact k _ _ (S.setVa hm r) fun j hj=>Bm fun(z:i=j)=>hm (z▸hj)
abbrev DN:=List dM->Ev->Option Ev
def TGVs(K:Ai)(ml:List Nat)(h:DN):D2:=fun vs σ H Q=> ∃B O δ ds δ',bG K ml B O H σ δ/\cU K (Nn B O) H vs ds/\h ds δ=some δ'/\ ∀σ' O',bG K ml B O' H σ' δ'->(∀i∈ml,σ'[i]? =σ[i]?)->Q σ' H
noncomputable def ZK:DN:=fun ds δ=>match ds with
 |[]=>some δ
 |_=>none
noncomputable def cM(g:VG)(gs:DN):DN:=fun ds δ=>match ds with
 |d::r=>(g d δ).bind fun δ1=>gs r δ1
 |[]=>none
theorem aU:F1 X [] (TGVs K ml ZK):=GZ.imp fun vs σ H Q q0=>by
 obtain⟨B,O,δ,ds,δ',S,r,q,k⟩:=q0
 cases r with
 |nil=>cases q;exact⟨rfl,k _ _ S fun _ _=>rfl⟩
 |cons _ _=>cases q
theorem cY{g:VG}{gs:DN}(h1:PG X e (D1 K ml g))(h2:F1 X es (TGVs K ml gs))(hs:(assignEach (e::es) X.env).map (·.2)=assign e X.env::(assignEach es X.env).map (·.2):=by rfl):F1 X (e::es) (TGVs K ml (cM g gs)):=
 (V4 h1 h2 hs).imp fun vs σ H Q q0 => by
  obtain⟨B,O,δ,ds,δ',S,r,q,k⟩:=q0
  cases r with
  | nil => cases q
  | @cons v vs d ds h t=>
   have q:((g d δ).bind fun δ1=>gs ds δ1)=some δ':=q
   cases h1:g d δ with
   |none=>rw[h1] at q;cases q
   |some δ1=>
    rw[h1] at q
    have S0:=S.keepV (VL t)
    exact⟨v,vs,rfl,_,O,δ,d,δ1,S0,h,h1,fun σ1 O1 S1 m1=>⟨B,O1,δ1,ds,δ',S1.unkeep,VD t.length fun z hz=>S1.kep z (Bf _ hz),q,fun σ2 O2 S2 m2=>k σ2 O2 S2 fun i hi=>(m2 i hi).trans (m1 i hi)⟩⟩
noncomputable def OU(n:Nat)(gs:DN):VG:=fun d δ=>(ZA d).bind fun ds=>if ds.length=n then gs ds δ else none
theorem Z4{gs:DN}{k n:Nat}(hK:X.K=K)(hc:X.calm=true)(h:F1 X es (TGVs K ml gs))(hn:(assignEach es X.env).length=n:=by rfl)(hst:(assignEach es X.env).findIdx? (·.1)=none:=by rfl):PG X (.Tuple es k pos) (D1 K ml (OU n gs)):=
 ((zCF (K := K) hK hc h hn hst).or (zHI (K := K) hK hc h hn hst)).imp fun v σ H Q q0 => by
  obtain⟨B,O,δ,d,δ',S,r,q,k⟩:=q0
  unfold OU at q
  cases h1:ZA d with
  | none => rw [h1] at q;cases q
  |some ds=>
   rw[h1] at q
   have q:(if ds.length=n then gs ds δ else none)=some δ':=q
   split at q
   ·rename_i hl
    obtain⟨a,xs,rfl,sq,ra⟩:=r.seq h1
    have fin:TGVs K ml gs xs σ H Q:=⟨B,O,δ,ds,δ',S,ra,q,k⟩
    rcases sq with sq|sq
    ·exact .inr ⟨a,xs,rfl,sq,ra.length.trans hl,fin⟩
    ·exact .inl ⟨a,xs,rfl,sq,ra.length.trans hl,fin⟩
   ·cases q
noncomputable def OQ(f:VF)(g:VG):VS:=fun δ=>(f δ).bind fun p=>(g p.1 p.2).map Ou.nx
theorem US{tg:Expr}{gg:VG}(he:PE X e (TV K ml pu true true f))(hg:PG X tg (D1 K ml gg))(hs:Gj [tg] e pos.line X.env=pure false:=by rfl)(hw:Gk [tg] e X.env=pure none:=by rfl)
  (h1 : (assignEach [tg] X.env).map (·.2) = [assign tg X.env] := by rfl) : PS X (.Assign [tg] e pos) (U5 K ml (OQ f gg)) := (P0 he hg hs hw h1).imp fun D σ H ⟨B,O,δ,o,S,q,k⟩ => by
 unfold OQ at q
 cases h1:f δ with
 | none => rw [h1] at q;cases q
 |some p=>
  obtain⟨d,δ1⟩:=p
  rw[h1] at q
  have q:(gg d δ1).map Ou.nx=some o:=q
  cases h2:gg d δ1 with
  |none=>rw[h2] at q;cases q
  |some δ2=>
   rw[h2] at q
   cases q
   exact⟨B,O,δ,d,δ1,S,h1,fun v H' R=>⟨B,O,δ1,d,δ2,R.sta,R.rep,h2,fun σ' O' S' _=>k σ' H' O' S'⟩⟩
def MuV(K:Ai)(r:V->List V->Hp->VK->Prop)(m:List dM->List dM->Option (List dM)):Prop:= ∀(H:Hp) (N:Addr->Prop) (l:Addr) (xs vs:List V) (ds es ds':List dM) (Q:VK),
 H l=some (.lst xs)->N l->cU K N H xs ds->cU K N H vs es->m ds es=some ds'->(∀v xs',cU K N H xs' ds'->Q v (bL H l (.lst xs')))->r (.ref l) vs H Q
noncomputable def YF(δ:Ev)(i:Nat):Option (List dM):=match δ[i]? with
 |some (.ow (.lst ds))=>some ds
 |_=>none
noncomputable def XZ(i:Nat)(m:List dM->List dM->Option (List dM))(fs:Q0):VS:=fun δ=>(YF δ i).bind fun _=>(fs δ).bind fun p=>(YF p.2 i).bind fun ds=>(m ds p.1).map fun ds'=> .nx (p.2.set i (.ow (.lst ds')))
theorem VC{i:Nat}{ds:List dM}(h:YF δ i=some ds):δ[i]? =some (.ow (.lst ds)):=by
 unfold YF at h
 split at h
 ·cases h;assumption
 ·cases h
theorem RF{N:Addr->Prop}{l:Addr}{o:HO}{xs:List V}{ds ys:List dM}{zs:List V}(ho:H l=some (.lst zs))(hN:N l)(h:cU K N H xs ds):cU K N (bL H l o) xs ds:=
 h.fr (P:=fun b=>b=l) (fun b u q n=>by
  by_cases hb:b=l
  ·subst hb
   rw[ho] at q
   cases q
   exact absurd (n rfl) fun z=>z
  ·rw[cH hb]
   exact q) fun a z=>z▸hN
theorem aB{i:Nat}{x:Str}{name:Str}{ai ae i4:Pos}{id:String}{r:V->List V->Hp->VK->Prop}{m:List dM->List dM->Option (List dM)}{fs:Q0}(hK:X.K=K)(slot:Slot "list" name id) (hty:Nj (.builtin id)=pure (.type "method_descriptor")) (hm:MtR X id r) (hmu:MuV K r m)
  (ho:PE X (.Name x i4) (P8 i)) (ha:PA X (e::es) (D0 K ml pu true fs))
  (cf : Fu (.Name x i4) name X.env (eval (.Name x i4) X.env) = eval (.Name x i4) X.env := by rfl)
  (dq : ((Dq ae (starEach (e :: es) X.env)).all (fun x => !x.1) && (Er ae (Cr [] X.env)).all (fun x => x.1.isSome)
   && decide ((e :: es).length + ([] : List Ge).length + (if ([] : List Ge).isEmpty then 0 else 1) < 30)) = true := by rfl)
  (cb : (ai.endLine == ae.line) = true := by rfl) (hs : starEach (e :: es) X.env = (false,eval e X.env) :: starEach es X.env := by rfl) (bj : (Dq ae (starEach es X.env)).any (·.1) = false := by rfl)
  (hsw : Fm (.Call (.Attribute (.Name x i4) name ai) (e :: es) [] ae) none pos.line X.env = pure false := by rfl) :
  PS X (.Expr (.Call (.Attribute (.Name x i4) name ai) (e::es) [] ae) pos) (U5 K ml (XZ i m fs)):=
 (MN (kBm (K := K) hK Gu slot hty hm ho ha cf dq cb hs bj) hsw).imp fun D σ H q0 => by
  obtain⟨B,O,δ,o,S,q,k⟩:=q0
  unfold XZ at q
  cases h0:YF δ i with
  | none => rw [h0] at q;cases q
  |some ds0=>
   rw[h0] at q
   have q : ((fs δ).bind fun p => (YF p.2 i).bind fun ds => (m ds p.1).map fun ds' => Ou.nx (p.2.set i (.ow (.lst ds')))) = some o := q
   cases h1:fs δ with
   | none => rw [h1] at q;cases q
   |some p=>
    obtain⟨es',δ1⟩:=p
    rw[h1] at q
    have q:((YF δ1 i).bind fun ds=>(m ds es').map fun ds'=>Ou.nx (δ1.set i (.ow (.lst ds'))))=some o:=q
    cases h2:YF δ1 i with
    | none => rw [h2] at q;cases q
    |some ds=>
     rw[h2] at q
     have q:((m ds es').map fun ds'=>Ou.nx (δ1.set i (.ow (.lst ds'))))=some o:=q
     cases h3:m ds es' with
     | none => rw [h3] at q;cases q
     |some ds'=>
      rw[h3] at q
      cases q
      obtain⟨l,e1,e2,w⟩:=S.ow i _ (VC h0)
      cases w with
      |lst hl0 _=>
       refine⟨.ref l,e2,.inl ⟨rfl,_,YO.of hl0⟩,B,O,δ,es',δ1,S,h1,fun vs H1 R=> ?_⟩
       obtain⟨l',e3,_,w1⟩:=R.sta.ow i _ (VC h2)
       rw[e1] at e3
       cases e3
       cases w1 with
       |lst hl1 r1=>
        refine hmu H1 (Nn B O) l _ vs ds es' ds' _ hl1 (.inr ⟨i,e1⟩) r1 R.rep h3 fun v xs' r2=> ?_
        exact k σ _ O (R.sta.wrote e1 (fun z=>z) (.lst cQ (RF (ys:=[]) hl1 (.inr ⟨i,e1⟩) r2)))
noncomputable def SZ:List dM->List dM->Option (List dM)
 |ds,[d]=>if ds.length<16777216 then some (ds++[d]) else none
 |_,_=>none
theorem XO:MuV K G3 SZ:=by
 intro H N l xs vs ds es ds' Q hl hN rx re h k
 cases re with
 | nil => cases h
 | @cons v vs d es hd t=>
  cases t with
  | cons _ _ => cases h
  |nil=>
   simp only[SZ] at h
   split at h
   ·rename_i hz
    cases h
    exact⟨l,xs,v,rfl,rfl,hl,by rw[rx.length,Bu];exact hz,k _ _ (rx.snoc hd)⟩
   ·cases h
end
section
variable{X:Cx}{K:Ai}{ml:List Nat}{e a b c:Expr}{es:List Expr}{pa ta ia pb tb ib pc tc ic pu bt bi ps bs:Bool}{fa fb fc f:VF}{B B':Bs}{O:Nat->Option Addr}{H H1 H':Hp}{σ:St}{δ δ':Ev}{v:V}{d:dM}{p:Addr}{pos:Pos}{st:Stmt}{rest:List Stmt}{g g':VS}
noncomputable def again(nxt:VS):Ou->Option Ou
 | .nx δ=>nxt δ
 | .ct δ=>nxt δ
 | .bk δ=>some (.nx δ)
 | .rt d δ=>some (.rt d δ)
open Classical in
def Walk(K:Ai)(J:It)(kps:List (V×dM))(ds:List dM):Prop:= ∀(N:Addr->Prop) (H:Hp),(∀p∈kps,b6 K N H N p.1 p.2)→
 (∀(i:Nat) (d:dM),ds[i]? =some d->J.go i H/\ ∀x H',J.yld i H x H'->bC H H'/\b6 K N H' N x d)/\J.stop ds.length H
abbrev VI:=Ev->Option (List dM×Ev)
def F3(K:Ai)(ml:List Nat)(pu:Bool)(f:VI):TI:=fun σ H R=> ∃B O δ ds δ',bG K ml B O H σ δ/\f δ=some (ds,δ')∧
 ∀J kps H',bG K ml {B with kp:=kps++B.kp} O H' σ δ'->Fr (OA O) H H'->(pu=true->bC H H')->Walk K J kps ds->R J H'
theorem PI.imp{tg:Expr}{t u:TI}(h:PI X tg e t)(k: ∀σ H R,u σ H R->t σ H R):PI X tg e u:=fun aa s σ H R I w=>h aa s σ H R I (k σ H R w)
theorem PI.or{tg:Expr}{t u:TI}(h:PI X tg e t)(h':PI X tg e u):PI X tg e (fun σ H R=>t σ H R∨u σ H R):=fun aa s σ H R I z=>by
 rcases z with z|z
 ·exact h aa s σ H R I z
 ·exact h' aa s σ H R I z
noncomputable def XB(f:VF):VI:=fun δ=>(f δ).bind fun p=>(ZA p.1).map fun ds=>(ds,p.2)
theorem DH{a:Addr}{ds:List dM}:Walk K (Itl K a) [(.ref a,.lst ds)] ds:=by
 intro N H h
 have r:=h _ (Ax.mpr rfl)
 have fin: ∀xs,YO K H a xs->cU K N H xs ds->(∀(i:Nat) (d:dM),ds[i]? =some d->(Itl K a).go i H/\ ∀x H',(Itl K a).yld i H x H'->bC H H'/\b6 K N H' N x d)/\(Itl K a).stop ds.length H:=fun xs sq r=>by
  refine⟨fun i d e=> ?_,xs,sq,by rw[r.length];exact As _⟩
  obtain⟨x,e1,r1⟩:=r.get e
  refine⟨⟨xs,x,sq,e1⟩,fun y H' hy=> ?_⟩
  obtain⟨e2,e3⟩:=hy
  subst e2
  have:=e3 xs sq
  rw[e1] at this
  cases this
  exact⟨bC.refl _,r1⟩
 cases r with
 |lst q n r=>exact fin _ (YO.of q) r
 |fzl q r=>exact fin _ q.sq r
theorem DK{a:Addr}{ds:List dM}:Walk K (Itt K a) [(.ref a,.tup ds)] ds:=by
 intro N H h
 have r:=h _ (Ax.mpr rfl)
 cases r with
 |tup sq r=>
  refine⟨fun i d e=> ?_,_,sq,by rw[r.length];exact As _⟩
  obtain⟨x,e1,r1⟩:=r.get e
  refine⟨⟨_,x,sq,e1⟩,fun y H' hy=> ?_⟩
  obtain⟨e2,e3⟩:=hy
  subst e2
  have:=e3 _ sq
  rw[e1] at this
  cases this
  exact⟨bC.refl _,r1⟩
theorem Y2{tg:Expr}(hK:X.K=K)(h:PE X e (TV K ml pu true true f)):PI X tg e (F3 K ml pu (XB f)):=((zF1 (K:=K) hK h).or (zHH (K:=K) hK h)).imp fun σ H R q0=>by
 obtain⟨B,O,δ,ds,δ',S,q,k⟩:=q0
 unfold XB at q
 cases h1:f δ with
 | none => rw [h1] at q;cases q
 |some p=>
  obtain⟨x,δ1⟩:=p
  rw[h1] at q
  cases x with
  |lst ds'=>
   cases q
   refine .inl ⟨B,O,δ,_,δ1,S,h1,fun v H1 R1=> ?_⟩
   obtain⟨a,xs,rfl,sq,r⟩:=R1.rep.seq rfl
   refine⟨a,rfl,?_,k _ [(.ref a,.lst ds)] H1 (R1.sta.keepV fun p hp=>by rw[Ax.mp hp];exact R1.rep) R1.frm R1.pur DH⟩
   have r:=R1.rep
   cases r with
   |lst q _ _=>exact⟨_,YO.of q⟩
   |fzl q _=>exact⟨_,q.sq⟩
  |tup ds'=>
   cases q
   refine .inr ⟨B,O,δ,_,δ1,S,h1,fun v H1 R1=> ?_⟩
   obtain⟨a,xs,rfl,sq,r⟩:=R1.rep.seq rfl
   refine⟨a,rfl,?_,k _ [(.ref a,.tup ds)] H1 (R1.sta.keepV fun p hp=>by rw[Ax.mp hp];exact R1.rep) R1.frm R1.pur DK⟩
   have r:=R1.rep
   cases r with
   |tup q _=>exact⟨_,q⟩
  |_=>cases q
noncomputable def V5(lo:Int)(n:Nat):List dM:=(Ay n).map fun k:Nat=> .int (lo+k)
noncomputable def GF(f:VF):VI:=fun δ=>(f δ).bind fun p=>match p.1 with
 | .int j=>if -4611686018427387904<=j/\j<4611686018427387904 then some (V5 0 j.toNat,p.2) else none
 |_=>none
theorem B8{lo:Int}{n i:Nat}{d:dM}(h:(V5 lo n)[i]? =some d):i<n/\d= .int (lo+i):=by
 unfold V5 at h
 rw[Cw] at h
 cases h1:(Ay n)[i]? with
 |none=>rw[h1] at h;cases h
 |some k=>
  rw[h1] at h
  cases h
  have:=Ah.mp h1
  obtain⟨hl,e⟩:=this
  rw[List.length_range] at hl
  rw[List.getElem_range] at e
  subst e
  exact⟨hl,rfl⟩
theorem DJ{lo:Int}{n:Nat}:Walk K (Itr lo n) [] (V5 lo n):=by
 intro N H _
 refine⟨fun i d e=> ?_,by simp[Itr,V5]⟩
 obtain⟨hl,rfl⟩:=B8 e
 refine⟨hl,fun x H' hy=> ?_⟩
 obtain⟨rfl,rfl⟩:=hy
 exact⟨bC.refl _,.int _⟩
theorem ZZ{tg:Expr}{p':Pos}(hg:Gl X "range") (hm:X.mg "range"=none) (h:PE X a (TV K ml pa ta ia fa)) (hs:starEach [a] X.env=[(false,eval a X.env)]:=by rfl) (hs1:starEach (a::[]) X.env=(false,eval a X.env)::starEach [] X.env:=by rfl):
  PI X tg (.Call (.Name "range" p') [a] [] pos) (F3 K ml pa (GF fa)):=(FE hg hm (bR h ZN hs1) hs).imp fun σ H R ⟨B,O,δ,ds,δ',S,q,k⟩=>by
 unfold GF at q
 cases h1:fa δ with
 | none => rw [h1] at q;cases q
 |some p=>
  obtain⟨x,δ1⟩:=p
  rw[h1] at q
  cases x with
  |int j=>
   have q:(if -4611686018427387904<=j/\j<4611686018427387904 then some (V5 0 j.toNat,δ1) else none)=some (ds,δ'):=q
   split at q
   ·rename_i hj
    cases q
    have p62:(2:Int) ^ 62=4611686018427387904:=by decide
    refine⟨B,O,δ,_,_,S,h1,fun v H1 R1=>⟨j,?_,by rw[p62];exact hj.1,by rw[p62];exact hj.2,k _ [] H1 (R1.sta.keepV fun _ z=>nomatch z) R1.frm R1.pur DJ⟩⟩
    have r:=R1.rep
    cases r
    rfl
   ·cases q
  |_=>cases q
noncomputable def XM(gg:VG)(s:VS):List dM->VS
 |[]=>fun δ=>some (.nx δ)
 |d::r=>fun δ=>(gg d δ).bind fun δ1=>(s δ1).bind (again (XM gg s r))
noncomputable def TM(fi:VI)(gg:VG)(s:VS):VS:=fun δ=>(fi δ).bind fun p=>XM gg s p.1 p.2
theorem W1{tg iter:Expr}{body:List Stmt}{fi:VI}{gg:VG}(hp:PassesOwn (model X.prog X.w) X.A X.env X.xe)(hc:X.calm=true)(hi:PI X tg iter (F3 K ml pu fi))(hg:PG X tg (D1 K ml gg))(hb:W6 X body (U5 K ml g))
  (hs : ∀ x,foldedSetIterable iter X.env x = pure x := by intro _;rfl) : PS X (.For tg iter body [] pos) (U5 K ml (TM fi gg g)) := (zDV hp hc hi hg hb hs).imp fun D σ H ⟨B,O,δ,o,S,q,k⟩ => by
 unfold TM at q
 cases h1:fi δ with
 | none => rw [h1] at q;cases q
 |some p=>
  obtain⟨ds,δ1⟩:=p
  rw[h1] at q
  have q:XM gg g ds δ1=some o:=q
  refine⟨B,O,δ,ds,δ1,S,h1,fun J kps H1 S1 _ _ wk=> ?_⟩
  refine⟨fun i m σ H=>m=ds.length - i/\i<=ds.length/\ ∃O δ,bG K ml {B with kp:=kps++B.kp} O H σ δ/\XM gg g (ds.drop i) δ=some o,⟨ds.length,rfl,Ek _,O,δ1,S1,q⟩,?_⟩
  rintro i m σ H ⟨rfl,hi,O,δ,S,hf⟩
  have w:=wk (Nn B O) H fun p hp=>S.kep p (Bf _ hp)
  by_cases hlt:i<ds.length
  ·obtain ⟨go,yl⟩ := w.1 i ds[i] (by simp [hlt])
   rw[Dx hlt] at hf
   refine .inr ⟨go,fun σ' H'=> ∃O δ,bG K ml {B with kp:=kps++B.kp} O H' σ' δ/\XM gg g (ds.drop (i+1)) δ=some o,fun σ' H' w'=>⟨ds.length - (i+1),by omega,rfl,hlt,w'⟩,fun x H' hy=> ?_⟩
   obtain⟨sm,rx⟩:=yl x H' hy
   have hf:((gg ds[i] δ).bind fun δ1=>(g δ1).bind (again (XM gg g (ds.drop (i+1)))))=some o:=hf
   cases h2:gg ds[i] δ with
   | none => rw [h2] at hf;cases hf
   |some δ2=>
    rw[h2] at hf
    have hf:(g δ2).bind (again (XM gg g (ds.drop (i+1))))=some o:=hf
    refine⟨_,O,δ,ds[i],δ2,S.same sm,rx,h2,fun σ2 O2 S2 _=> ?_⟩
    cases h3:g δ2 with
    |none=>rw[h3] at hf;cases hf
    |some z=>
     rw[h3] at hf
     refine⟨_,O2,δ2,z,S2,h3,?_⟩
     cases z with
     |nx δ3=>exact fun σ' H' O' S'=>⟨O',δ3,S',hf⟩
     |ct δ3=>exact fun σ' H' O' S'=>⟨O',δ3,S',hf⟩
     |bk δ3=>cases hf;exact fun σ' H' O' S'=>k σ' H' O' S'.unkeep
     |rt d δ3=>cases hf;exact fun v σ' H' O' S' r=>k v σ' H' O' S'.unkeep r
  ·have e : i = ds.length := by omega
   subst e
   rw[Gd] at hf
   cases hf
   exact .inl ⟨w.2,k σ H O S.unkeep⟩
end
section
variable{X:Cx}{K:Ai}{ml:List Nat}{e a b c:Expr}{es:List Expr}{pa ta ia pb tb ib pc tc ic pu bt bi ps bs:Bool}{fa fb fc f:VF}{B B':Bs}{O:Nat->Option Addr}{H H1 H':Hp}{σ:St}{δ δ':Ev}{v:V}{d:dM}{p:Addr}{pos:Pos}{st:Stmt}{rest:List Stmt}{g g':VS}
theorem bG.call{P:Addr->Prop}(S:bG K ml B O H σ δ)(hl:δ'.length=δ.length)(h: ∀i:Nat,(δ'[i]? =δ[i]? /\ ∀a,O i=some a-> ¬P a)∨ ∃a d',O i=some a/\δ'[i]? =some (Sl.ow d')/\QL K (Nn B O) H' a d')
  (f:Fr P H H') (hP: ∀a,P a->OA O a):bG K ml B O H' σ δ' where
 len:=by rw[hl,S.len]
 va := fun i d e => by
  rcases h i with⟨e1,_⟩|⟨a,d',_,e1,_⟩
  ·rw[e1] at e
   obtain⟨v,e2,r⟩:=S.va i d e
   exact⟨v,e2,r.fr f (fun a z=> .inr (hP a z)) fun a z=> .inr (hP a z)⟩
  ·rw[e1] at e
   cases e
 ow := fun i d e => by
  rcases h i with⟨e1,n⟩|⟨a,d',e2,e1,w⟩
  ·rw[e1] at e
   obtain⟨a,e2,e3,w⟩:=S.ow i d e
   exact⟨a,e2,e3,w.fr f (fun a z=> .inr (hP a z)) (n a e2)⟩
  ·rw[e1] at e
   cases e
   obtain⟨d0,q0⟩:=S.dom i a e2
   obtain⟨a',e3,e4,_⟩:=S.ow i d0 q0
   rw[e2] at e3
   cases e3
   exact⟨a,e2,e4,w⟩
 dom:=fun i a e=>by
  rcases h i with⟨e1,n⟩|⟨a,d',e2,e1,w⟩
  ·obtain⟨d0,q0⟩:=S.dom i a e
   exact⟨d0,e1.trans q0⟩
  ·exact⟨d',e1⟩
 inj:=S.inj
 old:=S.old
 zin:=fun a h'=>by
  obtain⟨o,q⟩:=S.zin a h'
  exact⟨o,f a o q fun z=>by
   obtain⟨i,e⟩:=hP a z
   exact absurd h' (S.old i a e).1⟩
 frm:=fun b o q n=>by
  have h1:=S.frm b o q n
  refine f b o h1 fun z=> ?_
  obtain⟨i,e⟩:=hP b z
  rcases(S.old i b e).2 with w|w
  ·exact n w
  ·rw[q] at w;cases w
 par:=S.par
 pin:=fun a h'=>by
  obtain⟨o,q⟩:=S.pin a h'
  by_cases z:P a
  ·obtain⟨i,e⟩:=hP a z
   rcases h i with⟨_,n⟩|⟨a',d',e2,e1,w⟩
   ·exact absurd z (n a e)
   ·rw[e] at e2
    cases e2
    obtain⟨o,q,_⟩:=w.soft
    exact⟨o,q⟩
  ·exact⟨o,f a o q fun y=>absurd y z⟩
 kep:=fun p hp=>(S.kep p hp).fr f (fun a z=> .inr (hP a z)) fun a z=> .inr (hP a z)
abbrev bX:=List dM->Option (dM×List dM)
def OG(ml:List Nat)(vs:List V):Addr->Prop:=fun a=> ∃i∈ml,vs[i]? =some (.ref a)
def Zp(Z:Addr->Prop)(ml:List Nat)(vs:List V):Addr->Prop:=fun a=>Z a∨OG ml vs a
structure zA2(K:Ai)(ml:List Nat)(Z:Addr->Prop)(H:Hp)(vs:List V)(ds:List dM):Prop where
 len:vs.length=ds.length
 mem: ∀i∈ml,i<ds.length
 va: ∀(i:Nat) (d:dM),i∉ml->ds[i]? =some d-> ∃v,vs[i]? =some v/\b6 K (Zp Z ml vs) H (Zp Z ml vs) v d
 ow: ∀(i:Nat) (d:dM),i∈ml->ds[i]? =some d-> ∃a,vs[i]? =some (.ref a)/\QL K (Zp Z ml vs) H a d/\¬Z a
 inj: ∀(i j:Nat) (a:Addr),i∈ml->j∈ml->vs[i]? =some (.ref a)->vs[j]? =some (.ref a)->i=j
 zin: ∀a,Z a-> ∃o,H a=some o
def spV(K:Ai)(ml:List Nat)(n:Nat)(F:bX):Sp:=fun vs H Q _=> ∃(Z:Addr->Prop) (ds:List dM) (r:dM) (os:List dM),ds.length=n/\zA2 K ml Z H vs ds/\F ds=some (r,os)∧
 ∀v H',Fr (OG ml vs) H H'->(∀(k i:Nat) (a:Addr) (o:dM),ml[k]? =some i->vs[i]? =some (.ref a)->os[k]? =some o->QL K (Zp Z ml vs) H' a o)->b6 K (Zp Z ml vs) H' (Zp Z ml vs) v r->Q v H'
noncomputable def bW(ml:List Nat)(n:Nat)(ds:List dM):Ev:=ds.mapIdx (fun i d=>if i∈ml then Sl.ow d else Sl.va d)++Ap (n - ds.length) Sl.no
noncomputable def V3(ml:List Nat)(δ:Ev):Option (List dM):=ml.mapM fun(i:Nat)=>match(δ[i]? :Option Sl) with
 |some (Sl.ow d)=>some d
 |_=>none
noncomputable def aP(n:Nat)(ml:List Nat)(g:VS):bX:=fun ds=>(g (bW ml n ds)).bind fun o=>match o with
 | .rt d δ=>(V3 ml δ).map fun os=>(d,os)
 | .nx δ=>(V3 ml δ).map fun os=>(.non,os)
 |_=>none
theorem KM: ∀{ml:List Nat} {δ:Ev} {os:List dM},V3 ml δ=some os-> ∀(k i:Nat) (o:dM),ml[k]? =some i->os[k]? =some o->δ[i]? =some (.ow o)
 | [],_,_,h,k,i,o,e1,e2 => by simp at e1
 | j :: ml,δ,os,h,k,i,o,e1,e2 => by
  unfold V3 at h
  rw[Pl] at h
  split at h
  ·rename_i d hd
   cases h2:(ml.mapM fun(i:Nat)=>match(δ[i]? :Option Sl) with
    |some (Sl.ow d)=>some d
    |_=>none:Option (List dM)) with
   | none => rw [h2] at h;cases h
   |some os2=>
    rw[h2] at h
    cases h
    cases k with
    |zero=>
     cases e1
     cases e2
     exact hd
    |succ k=>exact KM (ml:=ml) h2 k i o (by simpa using e1) (by simpa using e2)
  ·cases h
theorem N7{N:List Str}{Z:Addr->Prop}{vs:List V}{ds:List dM}(A:zA2 K ml Z H vs ds)(hn:ds.length<=N.length):
  ∃mu:Nat->Option Addr,(∀i a,mu i=some a↔i∈ml/\vs[i]? =some (.ref a))/\bG K ml ⟨Z,OG ml vs,H,mu,[]⟩ mu H (start N vs) (bW ml N.length ds):=by
 classical
 let mu : Nat -> Option Addr := fun i => if i ∈ ml then (match vs[i]? with
  | some (.ref a) => some a
  | _ => none) else none
 have hmu: ∀i a,mu i=some a↔i∈ml/\vs[i]? =some (.ref a):=fun i a=>by
  show(if i∈ml then(match vs[i]? with
   | some (.ref a) => some a
   | _ => none) else none) = some a ↔ _
  by_cases hi:i∈ml
  ·rw[if_pos hi]
   constructor
   ·intro h
    split at h
    ·rename_i b hb
     cases h
     exact⟨hi,hb⟩
    ·cases h
   ·rintro ⟨_,h⟩
    rw[h]
  ·rw[if_neg hi]
   exact⟨(fun h=>nomatch h),fun h=>absurd h.1 hi⟩
 have hN: ∀a,Nn ⟨Z,OG ml vs,H,mu,[]⟩ mu a->Zp Z ml vs a:=fun a h=>by
  rcases h with h|⟨i,h⟩
  ·exact .inl h
  ·exact .inr ⟨i,(hmu i a).mp h⟩
 have mi: ∀(i:Nat) (s:Sl),(bW ml N.length ds)[i]? =some s->(∃d,ds[i]? =some d/\s=if i∈ml then .ow d else .va d)∨s= .no:=fun i s h=>by
  unfold bW at h
  by_cases hi:i<ds.length
  ·rw [Am (by simpa using hi),Lh] at h
   cases q:ds[i]? with
   |none=>rw[q] at h;cases h
   |some d=>rw[q] at h;cases h;exact .inl ⟨d,rfl,rfl⟩
  ·rw [Bz (by simpa using hi),Cb] at h
   split at h
   ·cases h;exact .inr rfl
   ·cases h
 have hst: ∀(i:Nat) (v:V),vs[i]? =some v->(start N vs)[i]? =some (some v):=fun i v h=>by
  unfold start
  have hi:i<vs.length:=(Ah.mp h).1
  rw[Am (by simpa using hi),Cw,h]
  rfl
 refine⟨mu,hmu,?_,fun i d q=> ?_,fun i d q=> ?_,fun i a q=> ?_,fun i j a q1 q2=> ?_,fun i a q=> ?_,A.zin,Fr.refl _ _,⟨fun i a q=>((hmu i a).mp q).1,fun i _=>rfl⟩,fun a q=> ?_,fun p hp=>nomatch hp⟩
 ·unfold start bW
  have:=A.len
  simp
  omega
 ·rcases mi i _ q with⟨e,h1,h2⟩|h
  ·by_cases hi:i∈ml
   ·rw[if_pos hi] at h2;cases h2
   ·rw[if_neg hi] at h2
    cases h2
    obtain⟨v,e1,r⟩:=A.va i d hi h1
    exact⟨v,hst i v e1,r.mono hN hN⟩
  ·cases h
 ·rcases mi i _ q with⟨e,h1,h2⟩|h
  ·by_cases hi:i∈ml
   ·rw[if_pos hi] at h2
    cases h2
    obtain⟨a,e1,w,_⟩:=A.ow i d hi h1
    exact⟨a,(hmu i a).mpr ⟨hi,e1⟩,hst i _ e1,w.mono hN⟩
   ·rw[if_neg hi] at h2;cases h2
  ·cases h
 ·obtain⟨hi,e1⟩:=(hmu i a).mp q
  have hl:=A.mem i hi
  refine⟨ds[i],?_⟩
  unfold bW
  rw[Am (by simpa using hl),Lh]
  simp[hl,hi]
 ·exact A.inj i j a ((hmu i a).mp q1).1 ((hmu j a).mp q2).1 ((hmu i a).mp q1).2 ((hmu j a).mp q2).2
 ·obtain⟨hi,e1⟩:=(hmu i a).mp q
  refine⟨fun z=> ?_,.inl ⟨i,hi,e1⟩⟩
  obtain⟨a',e2,_,n⟩:=A.ow i (ds[i]'(A.mem i hi)) hi (by simp[A.mem i hi])
  rw[e1] at e2
  cases e2
  exact n z
 ·obtain⟨i,hi,e1⟩:=q
  obtain⟨a',e2,w,n⟩:=A.ow i (ds[i]'(A.mem i hi)) hi (by simp[A.mem i hi])
  rw[e1] at e2
  cases e2
  obtain⟨o,q,_⟩:=w.soft
  exact⟨o,q⟩
theorem zCK{N ps:List Str}{vs:List V}{Q:VK}{E:XK}(hps:ps.length<=N.length)(h:spV K ml ps.length (aP N.length ml g) vs H Q E):U5 K ml g {nx:=fun _ H'=>Q .non H',rt:=Q} (start N vs) H:=by
 obtain⟨Z,ds,r,os,hn,AV,hF,k⟩:=h
 obtain⟨mu,hmu,S0⟩:=N7 (N:=N) AV (by rw[hn];exact hps)
 unfold aP at hF
 cases h1:g (bW ml N.length ds) with
 | none => rw [h1] at hF;cases hF
 |some o=>
  rw[h1] at hF
  refine⟨_,mu,_,o,S0,h1,?_⟩
  have fin: ∀(δ':Ev) (v:V) (σ':St) (H':Hp) (O':Nat->Option Addr),V3 ml δ'=some os->bG K ml ⟨Z,OG ml vs,H,mu,[]⟩ O' H' σ' δ'->b6 K (rz ⟨Z,OG ml vs,H,mu,[]⟩) H' (rz ⟨Z,OG ml vs,H,mu,[]⟩) v r->Q v H':=fun δ' v σ' H' O' ho S' hr'=>by
   have hz: ∀a,Zp Z ml vs a->rz ⟨Z,OG ml vs,H,mu,[]⟩ a:=fun a h=>by
    rcases h with h|⟨i,hi,e⟩
    ·exact .inl h
    ·exact .inr ⟨i,(hmu i a).mpr ⟨hi,e⟩⟩
   refine k v H' S'.frm (fun kk i a o e1 e2 e3=> ?_) (hr'.mono hz hz)
   have hd:=KM ho kk i o e1 e3
   obtain⟨a',e4,_,w⟩:=S'.ow i o hd
   have hi:i∈ml:=Ex e1
   have:=(S'.par.2 i hi).trans ((hmu i a).mpr ⟨hi,e2⟩)
   rw[this] at e4
   cases e4
   refine w.mono fun b hb=> ?_
   rcases hb with hb|⟨j,hj,e5⟩
   ·exact .inl hb
   ·exact .inr ⟨j,(S'.par.2 j hj).trans ((hmu j b).mpr ⟨hj,e5⟩)⟩
  cases o with
  |rt d δ'=>
   have hF:(V3 ml δ').map (fun os=>(d,os))=some (r,os):=hF
   cases h2:V3 ml δ' with
   |none=>rw[h2] at hF;cases hF
   |some os'=>
    rw[h2] at hF
    cases hF
    exact fun v σ' H' O' S' hr'=>fin δ' v σ' H' O' h2 S' hr'
  |nx δ'=>
   have hF:(V3 ml δ').map (fun os=>(dM.non,os))=some (r,os):=hF
   cases h2:V3 ml δ' with
   |none=>rw[h2] at hF;cases hF
   |some os'=>
    rw[h2] at hF
    cases hF
    exact fun σ' H' O' S'=>fin δ' .non σ' H' O' h2 S' .non
  |bk δ'=>cases hF
  |ct δ'=>cases hF
theorem ZH.okV{P:Au}{w:World}{mg:Str->Option Value}{base:Heap}{x qual:Str}{st:Stmt}{f:Addr}{fd:Ck}{N ps:List Str}{k:Nat}(F:ZH K x qual st f fd)(S:cV N ps (dH st))(hps:ps.length<=N.length)
  (am: ∀(cdv:Value) (A:Bx) (outer:List Env) (s:Ad) (H:Hp) (E:XK),aH k (A.deeper (envOfC qual (dH st) s.heap.objs.size f cdv))→
   W6 (T7 CX0 P w K mg base N qual (dH st) f cdv A outer s H E).nox (bQ st) (U5 K ml g)):bU P w K mg base CX0 (k+1) f fd ps (spV K ml ps.length (aP N.length ml g)):=by
 refine F.ok S (fun vs H Q E h=> ?_) (fun cdv A outer s H vs Q E hr h=>⟨_,am cdv A outer s H E hr,zCK hps h⟩)
 obtain⟨Z,ds,r,os,hn,AV,_⟩:=h
 rw[AV.len,hn]
inductive AV where
 |d (d:dM)|o (j:Nat)
inductive WO(K:Ai)(N:Addr->Prop)(H:Hp)(σ:St):List V->List AV->Prop
 |nil:WO K N H σ [] []
 |d {v:V} {vs:List V} {d:dM} {as:List AV}:b6 K N H N v d->WO K N H σ vs as->WO K N H σ (v::vs) (.d d::as)
 |o {v:V} {vs:List V} {j:Nat} {as:List AV}:σ[j]? =some (some v)->WO K N H σ vs as->WO K N H σ (v::vs) (.o j::as)
abbrev OZ:=Ev->Option (List AV×Ev)
structure ResG(K:Ai)(ml:List Nat)(B:Bs)(O:Nat->Option Addr)(H:Hp)(σ:St)(pu:Bool)(H':Hp)(δ':Ev)(vs:List V)(as:List AV):Prop where
 sta:bG K ml B O H' σ δ'
 frm:Fr (OA O) H H'
 pur:pu=true->bC H H'
 rep:WO K (Nn B O) H' σ vs as
def F2(K:Ai)(ml:List Nat)(pu:Bool)(f:OZ):TA:=fun σ H Q=> ∃B O δ as δ',bG K ml B O H σ δ/\f δ=some (as,δ')/\ ∀vs H',ResG K ml B O H σ pu H' δ' vs as->Q vs H'
noncomputable def cW:OZ:=fun δ=>some ([],δ)
noncomputable def aE(f:VF)(fs:OZ):OZ:=fun δ=>(f δ).bind fun p=>(fs p.2).map fun q=>(.d p.1::q.1,q.2)
noncomputable def slot(δ:Ev)(j:Nat):Option dM:=match δ[j]? with
 |some (.va d)=>some d
 |some (.ow d)=>some d
 |_=>none
noncomputable def aO(j:Nat)(fs:OZ):OZ:=fun δ=>(slot δ j).bind fun _=>(fs δ).map fun q=>(.o j::q.1,q.2)
theorem dG:PA X [] (F2 K ml true cW):=ZN.imp fun σ H Q q0=>by
 obtain⟨B,O,δ,d,δ',S,q,k⟩:=q0
 cases q
 exact k [] H ⟨S,Fr.refl _ _,fun _=>bC.refl _,.nil⟩
theorem dJ{fs:OZ}(ha:PE X a (TV K ml pa true true fa))(hr:PA X es (F2 K ml ps fs))(hs:starEach (a::es) X.env=(false,eval a X.env)::starEach es X.env:=by rfl):PA X (a::es) (F2 K ml (pa && ps) (aE fa fs)):=(bR ha hr hs).imp fun σ H Q q0=>by
 obtain⟨B,O,δ,as,δ2,S,q,k⟩:=q0
 unfold aE at q
 cases h1:fa δ with
 | none => rw [h1] at q;cases q
 |some p=>
  obtain⟨x,δ1⟩:=p
  rw[h1] at q
  have q:((fs δ1).map fun q=>(AV.d x::q.1,q.2))=some (as,δ2):=q
  cases h2:fs δ1 with
  |none=>rw[h2] at q;cases q
  |some p2=>
   rw[h2] at q
   cases q
   refine⟨B,O,δ,x,δ1,S,h1,fun v1 H1 R1=>⟨B,O,δ1,_,_,R1.sta,h2,fun vs H2 R2=>k _ H2 ⟨R2.sta,R1.frm.trans R2.frm,fun z=> ?_,.d (R1.rep.fr R2.frm (fun a z=> .inr z) fun a z=> .inr z) R2.rep⟩⟩⟩
   obtain⟨z1,z2⟩:=(Ac _ _).mp z
   exact(R1.pur z1).trans (R2.pur z2)
theorem N6{j:Nat}{d:dM}(h:slot δ j=some d):δ[j]? =some (.va d)∨δ[j]? =some (.ow d):=by
 unfold slot at h
 split at h
 ·cases h;exact .inl (by assumption)
 ·cases h;exact .inr (by assumption)
 ·cases h
theorem bG.slot(S:bG K ml B O H σ δ){j:Nat}{d:dM}(h:slot δ j=some d): ∃v,σ[j]? =some (some v):=by
 rcases N6 h with h|h
 ·obtain⟨v,e,_⟩:=S.va j d h
  exact⟨v,e⟩
 ·obtain⟨a,_,e,_⟩:=S.ow j d h
  exact⟨_,e⟩
theorem bP{fs:OZ}{j:Nat}(ha:PE X a (P8 j))(hr:PA X es (F2 K ml ps fs))(hs:starEach (a::es) X.env=(false,eval a X.env)::starEach es X.env:=by rfl):PA X (a::es) (F2 K ml ps (aO j fs)):=(bR ha hr hs).imp fun σ H Q q0=>by
 obtain⟨B,O,δ,as,δ2,S,q,k⟩:=q0
 unfold aO at q
 cases h1:slot δ j with
 | none => rw [h1] at q;cases q
 |some d=>
  rw[h1] at q
  have q:((fs δ).map fun q=>(AV.o j::q.1,q.2))=some (as,δ2):=q
  cases h2:fs δ with
  |none=>rw[h2] at q;cases q
  |some p2=>
   rw[h2] at q
   cases q
   obtain⟨v,e⟩:=S.slot h1
   exact⟨v,e,B,O,δ,_,_,S,h2,fun vs H2 R2=>k _ H2 ⟨R2.sta,R2.frm,R2.pur,.o e R2.rep⟩⟩
theorem WO.length: ∀{N:Addr->Prop} {vs:List V} {as:List AV},WO K N H σ vs as->vs.length=as.length
 |_,_,_,.nil=>rfl
 |_,_,_,.d _ t=>congrArg (· +1) (WO.length t)
 |_,_,_,.o _ t=>congrArg (· +1) (WO.length t)
theorem WO.getD: ∀{N:Addr->Prop} {vs:List V} {as:List AV} {i:Nat} {d:dM},WO K N H σ vs as->as[i]? =some (.d d)-> ∃v,vs[i]? =some v/\b6 K N H N v d
 |_,_,_,_,_,.nil,e=>by simp at e
 |_,_,_,0,_,.d h _,e=>by simp at e;subst e;exact⟨_,rfl,h⟩
 |_,_,_,0,_,.o h _,e=>by simp at e
 |_,_,_,i+1,_,.d _ t,e=>by
  obtain⟨u,h1,h2⟩:=WO.getD (i:=i) t (by simpa using e)
  exact⟨u,by simpa using h1,h2⟩
 |_,_,_,i+1,_,.o _ t,e=>by
  obtain⟨u,h1,h2⟩:=WO.getD (i:=i) t (by simpa using e)
  exact⟨u,by simpa using h1,h2⟩
theorem WO.getO: ∀{N:Addr->Prop} {vs:List V} {as:List AV} {i j:Nat},WO K N H σ vs as->as[i]? =some (.o j)-> ∃v,vs[i]? =some v/\σ[j]? =some (some v)
 |_,_,_,_,_,.nil,e=>by simp at e
 |_,_,_,0,_,.d h _,e=>by simp at e
 |_,_,_,0,_,.o h _,e=>by simp at e;subst e;exact⟨_,rfl,h⟩
 |_,_,_,i+1,_,.d _ t,e=>by
  obtain⟨u,h1,h2⟩:=WO.getO (i:=i) t (by simpa using e)
  exact⟨u,by simpa using h1,h2⟩
 |_,_,_,i+1,_,.o _ t,e=>by
  obtain⟨u,h1,h2⟩:=WO.getO (i:=i) t (by simpa using e)
  exact⟨u,by simpa using h1,h2⟩
noncomputable def argD(δ:Ev):AV->Option dM
 | .d d=>some d
 | .o j=>slot δ j
noncomputable def X3(δ:Ev):List AV->Option (List dM)
 |[]=>some []
 |a::as=>(argD δ a).bind fun d=>(X3 δ as).map fun ds=>d::ds
theorem M7: ∀{as:List AV} {ds:List dM},X3 δ as=some ds->as.length=ds.length/\ ∀(i:Nat) (d:dM),ds[i]? =some d-> ∃a,as[i]? =some a/\argD δ a=some d
 | [],ds,h => by cases h;exact ⟨rfl,fun i d e => by simp at e⟩
 | a :: as,ds,h => by
  unfold X3 at h
  cases h1:argD δ a with
  | none => rw [h1] at h;cases h
  |some d=>
   rw[h1] at h
   cases h2:X3 δ as with
   | none => simp [h2] at h
   |some ds'=>
    simp only[Ag,h2] at h
    cases h
    obtain⟨l,g⟩:=M7 h2
    refine⟨by simp[l],fun i e he=> ?_⟩
    cases i with
    |zero=>cases he;exact⟨a,rfl,h1⟩
    |succ i=>
     obtain⟨b,e1,e2⟩:=g i e (by simpa using he)
     exact⟨b,by simpa using e1,e2⟩
noncomputable def WC:List AV->List Nat
 |[]=>[]
 | .d _::as=>WC as
 | .o j::as=>j::WC as
theorem RU: ∀{as:List AV} {i j:Nat},as[i]? =some (.o j)->j∈WC as
 |[],_,_,e=>by simp at e
 | .d _::as,0,j,e=>by simp at e
 | .o k::as,0,j,e=>by simp at e;subst e;exact Bg
 | .d _::as,i+1,j,e=>RU (as:=as) (i:=i) (by simpa using e)
 | .o k::as,i+1,j,e=>Av _ (RU (as:=as) (i:=i) (by simpa using e))
theorem GI: ∀{as:List AV} {j:Nat},j∈WC as-> ∃i:Nat,as[i]? =some (AV.o j)
 | [],_,h => nomatch h
 | .d _ :: as,j,h => by
  obtain⟨i,e⟩:=GI (as:=as) h
  exact⟨i+1,by simpa using e⟩
 | .o k :: as,j,h => by
  rcases Ao.mp h with e|e
  ·exact ⟨0,by rw [e];rfl⟩
  ·obtain⟨i,e⟩:=GI (as:=as) e
   exact⟨i+1,by simpa using e⟩
theorem MC: ∀{as:List AV} {i k j:Nat},(WC as).Nodup->as[i]? =some (.o j)->as[k]? =some (.o j)->i=k
 |[],_,_,_,_,e,_=>by simp at e
 | .d _::as,0,_,j,_,e,_=>by simp at e
 | .d _::as,_+1,0,j,_,_,e=>by simp at e
 | .d _::as,i+1,k+1,j,n,e1,e2=>congrArg (· +1) (MC (as:=as) n (by simpa using e1) (by simpa using e2))
 | .o x::as,0,0,j,_,_,_=>rfl
 | .o x::as,0,k+1,j,n,e1,e2=>by
  simp at e1
  subst e1
  have h:as[k]? =some (.o x):=by simpa using e2
  exact absurd (RU h) (Cs.mp n).1
 | .o x::as,i+1,0,j,n,e1,e2=>by
  simp at e2
  subst e2
  have h:as[i]? =some (.o x):=by simpa using e1
  exact absurd (RU h) (Cs.mp n).1
 | .o x::as,i+1,k+1,j,n,e1,e2=>congrArg (· +1) (MC (as:=as) (Cs.mp n).2 (by simpa using e1) (by simpa using e2))
noncomputable def GO(δ:Ev)(as:List AV)(i:Nat):Bool:=match as[i]? with
 |some (.o j)=>match δ[j]? with
  |some (.ow _)=>true
  |_=>false
 |_=>false
noncomputable def X1(mF:List Nat):List AV->Nat->Bool
 |[],_=>true
 | .d _::as,i=>X1 mF as (i+1)
 | .o _::as,i=>decide (i∈mF) && X1 mF as (i+1)
theorem U6{mF:List Nat}: ∀{as:List AV} {k i j:Nat},X1 mF as k=true->as[i]? =some (.o j)->k+i∈mF
 |[],_,_,_,_,e=>by simp at e
 | .d _::as,k,0,j,h,e=>by simp at e
 | .o _::as,k,0,j,h,e=>by
  simp only[X1,Ac,decide_eq_true_eq] at h
  exact h.1
 | .d _::as,k,i+1,j,h,e=>by
  have:=U6 (as:=as) (k:=k+1) (i:=i) (j:=j) h (by simpa using e)
  rwa[show k+(i+1)=k+1+i by omega]
 | .o _::as,k,i+1,j,h,e=>by
  simp only[X1,Ac] at h
  have:=U6 (as:=as) (k:=k+1) (i:=i) (j:=j) h.2 (by simpa using e)
  rwa[show k+(i+1)=k+1+i by omega]
noncomputable def VY:dM->Bool
 | .lst ds=>WJ ds
 | .dct _ ds=>WJ ds
 |_=>false
theorem QL.kids{N N':Addr->Prop}{a:Addr}(w:QL K N H a d)(h:VY d=true):QL K N' H a d:=by
 cases w with
 |lst q r=>exact .lst q (r.hard h)
 |dct q r=>exact .dct q (r.hard h)
noncomputable def XE(as:List AV):List Nat->List dM->Ev->Ev
 |i::is,o::os,δ=>match as[i]? with
  |some (.o j)=>XE as is os (δ.set j (.ow o))
  |_=>XE as is os δ
 |_,_,δ=>δ
theorem TK{as:List AV}: ∀{is:List Nat} {os:List dM} {δ:Ev},(XE as is os δ).length=δ.length
 |[],_,_=>rfl
 |_::_,[],_=>rfl
 |i::is,o::os,δ=>by
  unfold XE
  split
  ·rw[TK,Bv]
  ·rw[TK]
theorem P1{as:List AV}: ∀{is:List Nat} {os:List dM} {δ:Ev} (j:Nat),is.length=os.length->j<δ.length→
  (∃(k i:Nat) (o:dM),is[k]? =some i/\os[k]? =some o/\as[i]? =some (AV.o j)/\(XE as is os δ)[j]? =some (Sl.ow o))∨((∀i∈is,as[i]? ≠some (AV.o j))/\(XE as is os δ)[j]? =δ[j]?)
 | [],[],δ,j,_,_ => .inr ⟨(fun i h => nomatch h),rfl⟩
 | i :: is,o :: os,δ,j,hl,hj => by
  unfold XE
  split
  ·rename_i j0 e0
   rcases P1 (is:=is) (os:=os) (δ:=δ.set j0 (.ow o)) j (by simpa using hl) (by rw[Bv];exact hj) with⟨k,i',o',h1,h2,h3,h4⟩|⟨h1,h2⟩
   ·exact .inl ⟨k + 1,i',o',by simpa using h1,by simpa using h2,h3,h4⟩
   ·by_cases hjj:j=j0
    ·subst hjj
     rw[Cm hj] at h2
     exact .inl ⟨0,i,o,rfl,rfl,e0,h2⟩
    ·rw[Bm (Ee hjj)] at h2
     refine .inr ⟨fun i' hi'=> ?_,h2⟩
     rcases Ao.mp hi' with z|z
     ·rw[z,e0]
      intro w
      cases w
      exact hjj rfl
     ·exact h1 i' z
  ·rename_i hn
   rcases P1 (is:=is) (os:=os) (δ:=δ) j (by simpa using hl) hj with⟨k,i',o',h1,h2,h3,h4⟩|⟨h1,h2⟩
   ·exact .inl ⟨k + 1,i',o',by simpa using h1,by simpa using h2,h3,h4⟩
   ·refine .inr ⟨fun i' hi' => ?_,h2⟩
    rcases Ao.mp hi' with z|z
    ·rw[z]
     exact fun w=>hn j w
    ·exact h1 i' z
noncomputable def WR(mF:List Nat)(as:List AV)(δ:Ev):Bool:=mF.all (GO δ as) && decide (WC as).Nodup
noncomputable def XJ(mF:List Nat)(as:List AV)(r:dM)(os:List dM):Bool:=(X1 mF as 0 || r.hard) && (X1 mF as 0 || os.all VY) && decide (mF.length=os.length)
noncomputable def c9(n:Nat)(mF:List Nat)(F:bX)(fs:OZ):VF:=fun δ=>(fs δ).bind fun p=>(X3 p.2 p.1).bind fun ds=>if ds.length=n/\WR mF p.1 p.2=true then(F ds).bind fun q=>if XJ mF p.1 q.1 q.2=true then some (q.1,XE p.1 mF q.2 p.2) else none else none
theorem QV{n:Nat}{mF:List Nat}{F:bX}{fs:OZ}{Q:VK}(h:TV K ml (ps && mF.isEmpty) true true (c9 n mF F fs) σ H Q):K0 (spV K mF n F) [] E0 (F2 K ml ps fs) σ H Q:=by
 obtain⟨B,O,δ,d,δ2,S,q,k⟩:=h
 unfold c9 at q
 cases h1:fs δ with
 | none => rw [h1] at q;cases q
 |some p=>
  obtain⟨as,δ1⟩:=p
  rw[h1] at q
  have q : ((X3 δ1 as).bind fun ds => if ds.length = n /\ WR mF as δ1 = true then (F ds).bind fun q => if XJ mF as q.1 q.2 = true then some (q.1,XE as mF q.2 δ1) else none else none) = some (d,δ2) := q
  cases h2:X3 δ1 as with
  | none => rw [h2] at q;cases q
  |some ds=>
   rw[h2] at q
   have q : (if ds.length = n /\ WR mF as δ1 = true then (F ds).bind fun q => if XJ mF as q.1 q.2 = true then some (q.1,XE as mF q.2 δ1) else none else none) = some (d,δ2) := q
   split at q
   ·rename_i hc
    cases h3:F ds with
    | none => rw [h3] at q;cases q
    |some z=>
     obtain⟨r,os⟩:=z
     rw[h3] at q
     have q:(if XJ mF as r os=true then some (r,XE as mF os δ1) else none)=some (d,δ2):=q
     split at q
     ·rename_i hb
      cases q
      obtain⟨hn,hc⟩:=hc
      simp only[WR,Ac,decide_eq_true_eq,Cu] at hc
      simp only[XJ,Ac,decide_eq_true_eq] at hb
      obtain⟨hmu,hnd⟩:=hc
      obtain⟨⟨o8,oj⟩,ah⟩:=hb
      refine⟨B,O,δ,as,δ1,S,h1,fun vs H1 R=> ?_⟩
      show spV K mF n F (vs++[]) H1 Q E0
      rw[Dd]
      obtain⟨hal,hag⟩:=M7 h2
      have hm: ∀i∈mF,∃j a x,as[i]? =some (.o j)/\δ1[j]? =some (.ow x)/\O j=some a/\vs[i]? =some (.ref a)/\QL K (Nn B O) H1 a x:=fun i hi=>by
       have:=hmu i hi
       unfold GO at this
       split at this
       ·rename_i j ej
        split at this
        ·rename_i x ex
         obtain⟨a,e1,e2,w⟩:=R.sta.ow j x ex
         obtain⟨v,e3,e4⟩:=R.rep.getO ej
         rw[e2] at e4
         cases e4
         exact⟨j,a,x,ej,ex,e1,e3,w⟩
        ·cases this
       ·cases this
      have hP: ∀a,OG mF vs a-> ∃i j,i∈mF/\as[i]? =some (.o j)/\O j=some a:=fun a q0=>by
       obtain⟨i,hi,e⟩:=q0
       obtain⟨j,a',x,e1,_,e2,e3,_⟩:=hm i hi
       rw[e] at e3
       cases e3
       exact⟨i,j,hi,e1,e2⟩
      have hPO: ∀a,OG mF vs a->OA O a:=fun a h=>by
       obtain⟨i,j,_,_,e⟩:=hP a h
       exact⟨j,e⟩
      have hZp: ∀a,Zp (fun a=>Nn B O a/\ ∀j∈WC as,O j≠some a) mF vs a->Nn B O a:=fun a h=>by
       rcases h with h|h
       ·exact h.1
       ·exact .inr (hPO a h)
      refine⟨fun a=>Nn B O a/\ ∀j∈WC as,O j≠some a,ds,_,os,hn,⟨by rw[<- hal,R.rep.length],fun i hi=> ?_,fun i x hi e=> ?_,fun i x hi e=> ?_,fun i j a hi hj e1 e2=> ?_,fun a h=>R.sta.nin h.1⟩,h3,fun v H2 f2 w2 r2=> ?_⟩
      ·obtain⟨j,a,x,e1,_⟩:=hm i hi
       rw[<- hal]
       exact(Ah.mp e1).1
      ·obtain⟨a,e1,e2⟩:=hag i x e
       cases a with
       |d y=>
        cases e2
        obtain⟨v,e3,r⟩:=R.rep.getD e1
        exact⟨v,e3,r.mono hZp hZp⟩
       |o j=>
        obtain⟨v,e3,e4⟩:=R.rep.getO e1
        refine⟨v,e3,?_⟩
        rcases N6 e2 with e5|e5
        ·obtain⟨v',e6,r⟩:=R.sta.va j x e5
         rw[e4] at e6
         cases e6
         exact r.mono hZp hZp
        ·obtain⟨a,e7,e6,w⟩:=R.sta.ow j x e5
         rw[e4] at e6
         cases e6
         refine(w.mono hZp).rep fun z=> ?_
         rcases z with z|z
         ·exact z.2 j (RU e1) e7
         ·obtain⟨i',j',hi',e8,e9⟩:=hP a z
          have:j=j':=R.sta.inj j j' a e7 e9
          subst this
          have:=MC hnd e1 e8
          subst this
          exact hi hi'
      ·obtain⟨a,e1,e2⟩:=hag i x e
       obtain⟨j,b,y,e3,e4,e5,e6,w⟩:=hm i hi
       rw[e3] at e1
       cases e1
       have e7 : slot δ1 j = some y := by unfold slot;rw [e4]
       have e2:slot δ1 j=some x:=e2
       rw[e7] at e2
       cases e2
       exact⟨b,e6,w.mono hZp,fun z=>z.2 j (RU e3) e5⟩
      ·obtain⟨j1,b1,_,e3,_,e4,e5,_⟩:=hm i hi
       obtain⟨j2,b2,_,e6,_,e7,e8,_⟩:=hm j hj
       rw[e1] at e5
       cases e5
       rw[e2] at e8
       cases e8
       have:j1=j2:=R.sta.inj j1 j2 a e4 e7
       subst this
       exact MC hnd e3 e6
      ·have S2:bG K ml B O H2 σ (XE as mF os δ1):=by
        refine R.sta.call TK (fun j=> ?_) f2 hPO
        by_cases hj:j<δ1.length
        ·rcases P1 (as:=as) (is:=mF) (os:=os) (δ:=δ1) j ah hj with⟨kk,i,o,e1,e2,e3,e4⟩|⟨e1,e2⟩
         ·obtain⟨j',a,x,e5,_,e6,e7,_⟩:=hm i (Ex e1)
          rw[e3] at e5
          cases e5
          have w:=w2 kk i a o e1 e7 e2
          refine .inr ⟨a,o,e6,e4,?_⟩
          rcases(Ie _ _).mp oj with z|z
          ·refine w.mono fun b hb => ?_
           by_cases hjs: ∃j'∈WC as,O j'=some b
           ·obtain⟨j',hj',e8⟩:=hjs
            obtain⟨i',e9⟩:=GI hj'
            have hi':=U6 z e9
            rw[Gg] at hi'
            obtain⟨j'',a'',_,e10,_,e11,e12,_⟩:=hm i' hi'
            rw[e9] at e10
            cases e10
            rw[e8] at e11
            cases e11
            exact .inr ⟨i',hi',e12⟩
           ·exact .inl ⟨hb,fun j' hj' e=>hjs ⟨j',hj',e⟩⟩
          ·exact w.kids (Cu.mp z o (Ex e2))
         ·refine .inl ⟨e2,fun a ea hPa => ?_⟩
          obtain⟨i,j',hi,e3,e4⟩:=hP a hPa
          have:j=j':=R.sta.inj j j' a ea e4
          subst this
          exact e1 i hi e3
        ·refine .inl ⟨?_,fun a ea => ?_⟩
         ·rw [Cc (by rw [TK];omega),Cc (by omega)]
         ·obtain⟨x,ex⟩:=R.sta.dom j a ea
          exact absurd (Ah.mp ex).1 hj
       refine k v H2 ⟨S2,R.frm.trans (f2.mono hPO),fun z=> ?_,?_⟩
       ·obtain⟨z1,z2⟩:=(Ac _ _).mp z
        refine(R.pur z1).trans fun b o e=>f2 b o e fun w=> ?_
        obtain⟨i,hi,_⟩:=w
        rw[List.isEmpty_iff.mp z2] at hi
        cases hi
       ·rcases(Ie _ _).mp o8 with z|z
        ·have hN : ∀ a,Nn B O a -> Zp (fun a => Nn B O a /\ ∀ j ∈ WC as,O j ≠ some a) mF vs a := fun b hb => by
          by_cases hjs: ∃j'∈WC as,O j'=some b
          ·obtain⟨j',hj',e8⟩:=hjs
           obtain⟨i',e9⟩:=GI hj'
           have hi':=U6 z e9
           rw[Gg] at hi'
           obtain⟨j'',a'',_,e10,_,e11,e12,_⟩:=hm i' hi'
           rw[e9] at e10
           cases e10
           rw[e8] at e11
           cases e11
           exact .inr ⟨i',hi',e12⟩
          ·exact .inl ⟨hb,fun j' hj' e=>hjs ⟨j',hj',e⟩⟩
         exact r2.mono hN hN
        ·exact r2.hard z
     ·cases q
   ·cases q
theorem zAC{x:Str}{kk j n:Nat}{qs:List Str}{mF:List Nat}{F:bX}{ff:Addr}{p':Pos}{fs:OZ}(hK:X.K=K)(D:Def X.prog X.w K X.mg X.base x kk qs (spV K mF n F) ff)(hr:aH j X.A)(hk:kk<=j)(hg:Gl X x)(ha:PA X (e::es) (F2 K ml ps fs))(hdb:(x==("__debug__":Str))=false:=by decide)
  (he:starEach (e::es) X.env=(false,eval e X.env)::starEach es X.env:=by rfl) (hpl:(Dq pos (starEach es X.env)).any (·.1)=false:=by rfl):
  PE X (.Call (.Name x p') (e::es) [] pos) (TV K ml (ps && mF.isEmpty) true true (c9 n mF F fs)):=by
 subst hK
 exact(A9 D hr hk hg ha hdb he hpl).imp fun _ _ _ h=>QV h
end
section
variable{X:Cx}{K:Ai}{ml:List Nat}{e a b c:Expr}{es:List Expr}{pi pt pe pu bt bi ps bs:Bool}{f:VF}{B B':Bs}{O:Nat->Option Addr}{H H0 H1 H':Hp}{σ:St}{δ δ':Ev}{v:V}{d:dM}{p:Addr}{pos:Pos}{ix:List Nat}{nl:Nat}
noncomputable def bI(ix:List Nat)(δ:Ev):Ev:=ix.map fun i=>(δ[i]?).getD .no
noncomputable def OV(nl:Nat):Ev:=Ap nl Sl.no
noncomputable def ZV(n nl:Nat)(gg:VG)(tb:VB)(fe:VF):List dM->List dM->Ev->Option (List dM×Ev)
 |[],acc,δ=>some (acc,δ)
 |d::r,acc,δ=>(gg d (δ++OV nl)).bind fun δ1=>(tb δ1).bind fun p=>if p.1=true then(fe p.2).bind fun q=>if acc.length<16777216 then ZV n nl gg tb fe r (acc++[q.1]) (q.2.take n) else none else ZV n nl gg tb fe r acc (p.2.take n)
noncomputable def Z1:List Nat->Ev->Ev->Ev
 |i::is,s::ss,δ=>match s with
  | .ow d=>Z1 is ss (δ.set i (.ow d))
  |_=>Z1 is ss δ
 |_,_,δ=>δ
noncomputable def aD(ix:List Nat)(nl:Nat)(fi:VI)(gg:VG)(tb:VB)(fe:VF):VF:=fun δ=>(fi δ).bind fun p=>(ZV ix.length nl gg tb fe p.1 [] (bI ix p.2)).map fun q=>(.lst q.1,Z1 ix q.2 p.2)
noncomputable def XY:VB:=fun δ=>some (true,δ)
theorem W8: ∀{ix:List Nat} {ss δ:Ev},(Z1 ix ss δ).length=δ.length
 |[],_,_=>rfl
 |_::_,[],_=>rfl
 |i::is,s::ss,δ=>by
  cases s<;>simp only[Z1]<;>rw[W8]<;>try rw[Bv]
theorem W7: ∀{ix:List Nat} {ss δ:Ev} (i:Nat),i<δ.length->ix.length=ss.length→
  (∃(j:Nat) (d:dM),ix[j]? =some i/\ss[j]? =some (Sl.ow d)/\(Z1 ix ss δ)[i]? =some (Sl.ow d))∨((∀(j:Nat) (d:dM),ix[j]? =some i->ss[j]? ≠some (Sl.ow d))/\(Z1 ix ss δ)[i]? =δ[i]?)
 | [],ss,δ,i,hi,hl => .inr ⟨(fun j d h => by simp at h),rfl⟩
 | k :: is,[],δ,i,hi,hl => by cases hl
 | k :: is,s :: ss,δ,i,hi,hl => by
  have hl2:is.length=ss.length:=by simpa using hl
  cases s with
  |ow d=>
   simp only[Z1]
   rcases W7 (ix:=is) (ss:=ss) (δ:=δ.set k (.ow d)) i (by rw[Bv];exact hi) hl2 with⟨j,d',h1,h2,h3⟩|⟨h1,h2⟩
   ·exact .inl ⟨j + 1,d',by simpa using h1,by simpa using h2,h3⟩
   ·by_cases hk:i=k
    ·subst hk
     rw[Cm hi] at h2
     exact .inl ⟨0,d,rfl,rfl,h2⟩
    ·rw[Bm (Ee hk)] at h2
     refine .inr ⟨fun j d' e=> ?_,h2⟩
     cases j with
     |zero=>cases e;exact absurd rfl hk
     |succ j=>simpa using h1 j d' (by simpa using e)
  |va d=>
   simp only[Z1]
   rcases W7 (ix:=is) (ss:=ss) (δ:=δ) i hi hl2 with⟨j,d',h1,h2,h3⟩|⟨h1,h2⟩
   ·exact .inl ⟨j + 1,d',by simpa using h1,by simpa using h2,h3⟩
   ·refine .inr ⟨fun j d' e => ?_,h2⟩
    cases j with
    |zero=>simp
    |succ j=>simpa using h1 j d' (by simpa using e)
  |no=>
   simp only[Z1]
   rcases W7 (ix:=is) (ss:=ss) (δ:=δ) i hi hl2 with⟨j,d',h1,h2,h3⟩|⟨h1,h2⟩
   ·exact .inl ⟨j + 1,d',by simpa using h1,by simpa using h2,h3⟩
   ·refine .inr ⟨fun j d' e => ?_,h2⟩
    cases j with
    |zero=>simp
    |succ j=>simpa using h1 j d' (by simpa using e)
noncomputable def Oc(ix:List Nat)(O:Nat->Option Addr):Nat->Option Addr:=fun j=>(ix[j]?).bind O
noncomputable def Bc(ix:List Nat)(B:Bs)(O:Nat->Option Addr)(H0:Hp)(D:Addr)(kp:List (V×dM)):Bs:=
 ⟨fun a=>(B.Z a∨a=D)∨ ∃i,O i=some a/\i∉ix,OA (Oc ix O),H0,Oc ix O,kp⟩
theorem NW{D:Addr}{kp:List (V×dM)}: ∀a,Nn (Bc ix B O H0 D kp) (Oc ix O) a->Nn B O a∨a=D:=fun a h=>by
 rcases h with((h|h)|⟨i,h,_⟩)|⟨j,h⟩
 ·exact .inl (.inl h)
 ·exact .inr h
 ·exact .inl (.inr ⟨i,h⟩)
 ·unfold Oc at h
  cases q:ix[j]? with
  |none=>rw[q] at h;cases h
  |some i=>rw[q] at h;exact .inl (.inr ⟨i,h⟩)
theorem RY{D:Addr}{kp:List (V×dM)}: ∀a,Nn (B.add D) O a->Nn (Bc ix B O H0 D kp) (Oc ix O) a:=fun a h=>by
 rcases h with h|⟨i,h⟩
 ·exact .inl (.inl h)
 ·by_cases hi:i∈ix
  ·obtain⟨j,hj⟩:=Hk.mp hi
   exact .inr ⟨j,by unfold Oc;rw[hj];exact h⟩
  ·exact .inl (.inr ⟨i,h,hi⟩)
theorem bG.withKp{kp:List (V×dM)}(S:bG K ml B O H σ δ)(h: ∀p∈kp,b6 K (Nn B O) H (Nn B O) p.1 p.2):bG K ml {B with kp:=kp} O H σ δ:=
 ⟨S.len,S.va,S.ow,S.dom,S.inj,S.old,S.zin,S.frm,S.par,S.pin,h⟩
theorem bG.writeZ{D:Addr}{o:HO}{acc:List V}(S:bG K ml B O H σ δ)(hD:B.Z D)(hl:H D=some (.lst acc))(h0:B.H0 D=none):bG K ml B O (bL H D o) σ δ:=by
 have hf:Fr (fun b=>b=D) H (bL H D o):=fun b u q n=>by
  by_cases hb:b=D
  ·subst hb
   rw[hl] at q
   cases q
   exact absurd (n rfl) fun z=>z
  ·rw[cH hb]
   exact q
 have hN: ∀b,b=D->Nn B O b:=fun b z=> .inl (z▸hD)
 have hin: ∀b,(∃u,H b=some u)-> ∃u,bL H D o b=some u:=fun b q0=>by
  obtain⟨u,q⟩:=q0
  by_cases hb:b=D
  ·exact⟨o,by rw[hb];exact cQ⟩
  ·exact⟨u,by rw[cH hb];exact q⟩
 refine⟨S.len,fun i d q=> ?_,fun i d q=> ?_,S.dom,S.inj,S.old,fun b h=>hin b (S.zin b h),fun b u q n=> ?_,S.par,fun b h=>hin b (S.pin b h),fun p hp=>(S.kep p hp).fr hf hN hN⟩
 ·obtain⟨v,e,r⟩:=S.va i d q
  exact⟨v,e,r.fr hf hN hN⟩
 ·obtain⟨a,e,e2,w⟩:=S.ow i d q
  exact⟨a,e,e2,w.fr hf hN fun z=>(S.old i a e).1 (z▸hD)⟩
 ·have hb : b ≠ D := fun z => by rw [z,h0] at q;cases q
  rw[cH hb]
  exact S.frm b u q n
theorem NF{j:Nat}{s:Sl}(h:(bI ix δ++OV nl)[j]? =some s):(∃i,ix[j]? =some i/\s=(δ[i]?).getD .no)∨s= .no:=by
 unfold bI OV at h
 by_cases hj:j<ix.length
 ·rw [Am (by simpa using hj),Cw] at h
  cases q:ix[j]? with
  |none=>rw[q] at h;cases h
  |some i=>rw[q] at h;cases h;exact .inl ⟨i,rfl,rfl⟩
 ·rw [Bz (by simpa using hj),Cb] at h
  split at h
  ·cases h;exact .inr rfl
  ·cases h
theorem JQ{i j:Nat}{v:V}(hi:ix[j]? =some i)(h:σ[i]? =some (some v)):(bN ix σ++Ap nl none)[j]? =some (some v):=by
 have hj:j<ix.length:=(Ah.mp hi).1
 unfold bN
 rw[Am (by simpa using hj),Cw,hi]
 show some ((σ[i]?).join)=_
 rw[h]
 rfl
theorem bG.inner{D:Addr}(S:bG K ml B O H0 σ δ)(hD:H0 D=none)(hnd:ix.Nodup){kps:List (V×dM)}(hk: ∀p∈kps,b6 K (Nn B O) H0 (Nn B O) p.1 p.2):
  bG K (Ay ix.length) (Bc ix B O H0 D kps) (Oc ix O) (bL H0 D (.lst [])) (bN ix σ++Ap nl none) (bI ix δ++OV nl) where
 len:=by simp[bN,bI,OV]
 va := fun j d e => by
  rcases NF e with⟨i,hi,q⟩|q
  ·have q:δ[i]? =some (.va d):=by
    cases w:δ[i]? with
    |none=>rw[w] at q;cases q
    |some s=>rw[w] at q;rw[show s= .va d from q.symm]
   obtain⟨v,e1,r⟩:=S.va i d q
   exact⟨v,JQ hi e1,(r.away hD _ _ NW NW).same (dD hD)⟩
  ·cases q
 ow := fun j d e => by
  rcases NF e with⟨i,hi,q⟩|q
  ·have q:δ[i]? =some (.ow d):=by
    cases w:δ[i]? with
    |none=>rw[w] at q;cases q
    |some s=>rw[w] at q;rw[show s= .ow d from q.symm]
   obtain⟨a,e1,e2,w⟩:=S.ow i d q
   refine⟨a,by unfold Oc;rw[hi];exact e1,JQ hi e2,?_⟩
   cases w with
   |lst q' r=>exact .lst (dD hD _ _ q') ((r.away hD _ _ NW).same (dD hD))
   |dct q' r=>exact .dct (dD hD _ _ q') ((r.away hD _ _ NW).same (dD hD))
  ·cases q
 dom:=fun j a e=>by
  unfold Oc at e
  cases hi:ix[j]? with
  | none => rw [hi] at e;cases e
  |some i=>
   rw[hi] at e
   obtain⟨d,q⟩:=S.dom i a e
   refine⟨d,?_⟩
   have hj:j<ix.length:=(Ah.mp hi).1
   unfold bI
   rw[Am (by simpa using hj),Cw,hi]
   show some ((δ[i]?).getD .no)=_
   rw[q]
   rfl
 inj:=fun j k a e1 e2=>by
  unfold Oc at e1 e2
  cases hi:ix[j]? with
  | none => rw [hi] at e1;cases e1
  |some i=>
   cases hk:ix[k]? with
   |none=>rw[hk] at e2;cases e2
   |some i'=>
    rw[hi] at e1
    rw[hk] at e2
    have:i=i':=S.inj i i' a e1 e2
    subst this
    obtain⟨l1,q1⟩:=Ah.mp hi
    obtain⟨l2,q2⟩:=Ah.mp hk
    exact(No hnd).mp (q1.trans q2.symm)
 old:=fun j a e=>by
  have e':=e
  unfold Oc at e'
  cases hi:ix[j]? with
  | none => rw [hi] at e';cases e'
  |some i=>
   rw[hi] at e'
   refine⟨fun z=> ?_,.inl ⟨j,e⟩⟩
   rcases z with(z|z)|⟨i',z,n⟩
   ·exact(S.old i a e').1 z
   ·obtain⟨o,q⟩:=S.nin (.inr ⟨i,e'⟩)
    rw[z,hD] at q
    cases q
   ·have:i=i':=S.inj i i' a e' z
    subst this
    exact n (Ex hi)
 zin:=fun a h=>by
  rcases h with(h|h)|⟨i,h,_⟩
  ·obtain⟨o,q⟩:=S.zin a h
   exact⟨o,dD hD _ _ q⟩
  ·exact ⟨_,by rw [h];exact cQ⟩
  ·obtain⟨o,q⟩:=S.nin (.inr ⟨i,h⟩)
   exact⟨o,dD hD _ _ q⟩
 frm:=(dD hD).fr
 par:=⟨fun j a e=>by
  have e:(ix[j]?).bind O=some a:=e
  cases hi:ix[j]? with
  |none=>rw[hi] at e;cases e
  |some i=>exact Dn.mpr (Ah.mp hi).1,fun j _=>rfl⟩
 pin:=fun a q0=>by
  obtain⟨j,e⟩:=q0
  unfold Oc at e
  cases hi:ix[j]? with
  |none=>rw[hi] at e;cases e
  |some i=>
   rw[hi] at e
   obtain⟨o,q⟩:=S.nin (.inr ⟨i,e⟩)
   exact⟨o,dD hD _ _ q⟩
 kep:=fun p hp=>((hk p hp).away hD _ _ NW NW).same (dD hD)
theorem bG.turn{O':Nat->Option Addr}{σ':St}{n:Nat}{m:St}(S:bG K (Ay n) B O' H σ' δ)(hmu: ∀j,n<=j->B.mu j=none)(hm:m.length=n)(hσ:σ'.take n=m)(hn:n<=δ.length):bG K (Ay n) B B.mu H (m++Ap nl none) (δ.take n++OV nl):=by
 have hO: ∀j,j<n->O' j=B.mu j:=fun j hj=>S.par.2 j (Dn.mpr hj)
 have hle: ∀j a,B.mu j=some a->O' j=some a:=fun j a e=>by rw[hO j (Dn.mp (S.par.1 j a e))];exact e
 have hN: ∀a,Nn B B.mu a->Nn B O' a:=fun a h=>by
  rcases h with h|⟨j,h⟩
  ·exact .inl h
  ·exact .inr ⟨j,hle j a h⟩
 have hg: ∀(j:Nat) (s:Sl),(δ.take n++OV nl)[j]? =some s->(j<n/\δ[j]? =some s)∨s= .no:=fun j s h=>by
  have hl:(δ.take n).length=n:=by rw[Cj];omega
  by_cases hj:j<n
  ·rw [Am (by rw [hl];exact hj),By hj] at h
   exact .inl ⟨hj,h⟩
  ·unfold OV at h
   rw[Bz (by rw[hl];omega),Cb] at h
   split at h
   ·cases h;exact .inr rfl
   ·cases h
 have hs: ∀(j:Nat) (v:V),j<n->σ'[j]? =some (some v)->(m++Ap nl none)[j]? =some (some v):=fun j v hj e=>by
  rw[Am (by rw[hm];exact hj),<- hσ,By hj]
  exact e
 refine⟨?_,fun j d e=> ?_,fun j d e=> ?_,fun j a e=> ?_,fun j k a e1 e2=>S.inj j k a (hle j a e1) (hle k a e2),fun j a e=>S.old j a (hle j a e),S.zin,S.frm,⟨S.par.1,fun j _=>rfl⟩,S.pin,fun p hp=>(S.kep p hp).mono hN hN⟩
 ·simp[hm,OV,Cj]
  omega
 ·rcases hg j _ e with⟨hj,e⟩|e
  ·obtain⟨v,e1,r⟩:=S.va j d e
   exact⟨v,hs j v hj e1,r.mono hN hN⟩
  ·cases e
 ·rcases hg j _ e with⟨hj,e⟩|e
  ·obtain⟨a,e1,e2,w⟩:=S.ow j d e
   exact⟨a,(hO j hj)▸e1,hs j _ hj e2,w.mono hN⟩
  ·cases e
 ·have hj:=Dn.mp (S.par.1 j a e)
  obtain⟨d,q⟩:=S.dom j a (hle j a e)
  refine⟨d,?_⟩
  rw[Am (by rw[Cj];omega),By hj]
  exact q
theorem Y8(ix:List Nat)(σ:St):(bN ix σ).length=ix.length:=by simp[bN]
theorem N9{σ':St}(hl:ix.length<=σ'.length)(h: ∀i∈Ay ix.length,σ'[i]? =(bN ix σ++Ap nl none)[i]?):σ'.take ix.length=bN ix σ:=by
 refine Mv fun j=> ?_
 by_cases hj:j<ix.length
 ·rw[By hj,h j (Dn.mpr hj),Am (by rw[Y8];exact hj)]
 ·rw[Cc (by rw[Cj];omega),Cc (by rw[Y8];omega)]
theorem HA{fi:VI}{gg:VG}{tb:VB}{fe:VF}(hnd:ix.Nodup){Q:VK}(h:TN K ml (pi && pt && pe) (aD ix nl fi gg tb fe) σ H Q):
  CQ ix nl (F3 K ml pi fi) (D1 K (Ay ix.length) gg) (TB K (Ay ix.length) pt tb) (TV K (Ay ix.length) pe true true fe) σ H Q:=by
 obtain⟨B,O,δ,d,δ2,S,q,k⟩:=h
 unfold aD at q
 cases h1:fi δ with
 | none => rw [h1] at q;cases q
 |some p=>
  obtain⟨ds,δ1⟩:=p
  rw[h1] at q
  have q : ((ZV ix.length nl gg tb fe ds [] (bI ix δ1)).map fun q => (dM.lst q.1,Z1 ix q.2 δ1)) = some (d,δ2) := q
  cases h2:ZV ix.length nl gg tb fe ds [] (bI ix δ1) with
  | none => rw [h2] at q;cases q
  |some z=>
   obtain⟨res,δf⟩:=z
   rw[h2] at q
   cases q
   refine⟨B,O,δ,ds,δ1,S,h1,fun J kps H0 S0 f0 p0 wk D hD=> ?_⟩
   have hDO : ∀ j,Oc ix O j ≠ some D := fun j e => by
    unfold Oc at e
    cases hi:ix[j]? with
    | none => rw [hi] at e;cases e
    |some i=>
     rw[hi] at e
     obtain⟨o,q⟩:=S0.nin (.inr ⟨i,e⟩)
     rw[hD] at q
     cases q
   have im : ∀ kp j,ix.length <= j -> (Bc ix B O H0 D kp).mu j = none := fun kp j hj => by
    show(ix[j]?).bind O=none
    rw[Cc hj]
    rfl
   refine⟨fun i m acc H1=>m=ds.length - i/\i<=ds.length/\ ∃(ak:List dM) (δc:Ev),δc.length=ix.length/\acc.length=ak.length∧
     bG K (Ay ix.length) (Bc ix B O H0 D (kps++acc.zip ak)) (Oc ix O) H1 (bN ix σ++Ap nl none) (δc++OV nl)/\H1 D=some (.lst acc)/\((pt && pe)=true->bC H0 H1)∧
     ZV ix.length nl gg tb fe (ds.drop i) ak δc=some (res,δf),
    ⟨ds.length,rfl,Ek _,[],bI ix δ1,by simp [bI],rfl,by
     rw[Mw,Dd]
     exact S0.unkeep.inner hD hnd fun p hp=>S0.kep p (Bf _ hp),cQ,fun _=>dD hD,h2⟩,?_⟩
   rintro i m acc H1 ⟨rfl,hi,ak,δc,hlc,cx,S1,hD1,gc,hc⟩
   have w := wk (Nn (Bc ix B O H0 D (kps ++ acc.zip ak)) (Oc ix O)) H1 fun p hp => S1.kep p (Bf _ hp)
   by_cases hlt:i<ds.length
   ·obtain ⟨go,yl⟩ := w.1 i ds[i] (by simp [hlt])
    rw[Dx hlt] at hc
    simp only[ZV] at hc
    cases g1:gg ds[i] (δc++OV nl) with
    | none => rw [g1] at hc;cases hc
    |some δ3=>
     rw[g1] at hc
     simp only[Ag] at hc
     cases g2:tb δ3 with
     | none => rw [g2] at hc;cases hc
     |some z=>
      obtain⟨kk,δ4⟩:=z
      rw[g2] at hc
      simp only[Ag] at hc
      refine .inr ⟨go,fun ag H'=> ∃(ak:List dM) (δc:Ev),δc.length=ix.length/\ag.length=ak.length∧
       bG K (Ay ix.length) (Bc ix B O H0 D (kps++ag.zip ak)) (Oc ix O) H' (bN ix σ++Ap nl none) (δc++OV nl)/\H' D=some (.lst ag)/\((pt && pe)=true->bC H0 H')∧
       ZV ix.length nl gg tb fe (ds.drop (i + 1)) ak δc = some (res,δf),fun ag H' w' => ⟨ds.length - (i + 1),by omega,rfl,hlt,w'⟩,fun x H2 hy => ?_⟩
      obtain⟨sm,rx⟩:=yl x H2 hy
      refine⟨_,_,_,ds[i],δ3,S1.same sm,rx,g1,fun σ3 O3 S3 m3=> ?_⟩
      have ln3:ix.length<=σ3.length:=by
       by_cases hz:ix.length=0
       ·omega
       ·have hj : ix.length - 1 < ix.length := by omega
        have:=m3 (ix.length - 1) (Dn.mpr hj)
        have hs:(bN ix σ++Ap nl none)[ix.length - 1]? ≠none:=by
         rw [Am (by rw [Y8];exact hj)]
         simp[bN,hj]
        rw[<- this] at hs
        have og:ix.length - 1<σ3.length:=Nr fun z=>hs (Jd.mpr z)
        omega
      have hσ3:=N9 ln3 m3
      refine⟨hσ3,_,_,δ3,kk,δ4,S3,g2,fun H4 R4=> ?_⟩
      have hD4 : H4 D = some (.lst acc) := R4.frm _ _ (sm _ _ hD1) fun z => by
       obtain⟨j,e⟩:=z
       have:=(R4.sta.old j D e).1
       exact absurd (.inl (.inr rfl)) this
      have ln4 : ix.length <= δ4.length := by rw [<- R4.sta.len];exact ln3
      cases kk with
      |false=>
       rw[if_neg Db] at hc
       refine PV ⟨ak,δ4.take ix.length,by rw[Cj];omega,cx,R4.sta.turn (im _) (Y8 ix σ) hσ3 ln4,hD4,fun z=> ?_,hc⟩
       exact((gc z).trans sm).trans (R4.pur ((Ac _ _).mp z).1)
      |true=>
       rw[if_pos rfl] at hc
       cases g3:fe δ4 with
       | none => rw [g3] at hc;cases hc
       |some z=>
        obtain⟨dv,δ5⟩:=z
        rw[g3] at hc
        simp only[Ag] at hc
        split at hc
        ·rename_i hz
         refine PX ⟨_,_,δ4,dv,δ5,R4.sta,g3,fun v H5 R5=> ?_⟩
         have hD5:H5 D=some (.lst acc):=R5.frm _ _ hD4 fun z=>by
          obtain⟨j,e⟩:=z
          have:=(R5.sta.old j D e).1
          exact absurd (.inl (.inr rfl)) this
         have ln5:ix.length<=δ5.length:=by rw[<- R5.sta.len];exact ln3
         have S6:=R5.sta.turn (nl:=nl) (im _) (Y8 ix σ) hσ3 ln5
         have hv:b6 K (Nn (Bc ix B O H0 D (kps++acc.zip ak)) (Oc ix O)) H5 (Nn (Bc ix B O H0 D (kps++acc.zip ak)) (Oc ix O)) v dv:=by
          have hN: ∀a,Nn (Bc ix B O H0 D (kps++acc.zip ak)) (Oc ix O) a->av (Bc ix B O H0 D (kps++acc.zip ak)) O3 true a:=fun a h=>by
           rcases h with h|⟨j,h⟩
           ·exact .inl h
           ·refine .inr ⟨j,?_⟩
            have hj:j∈Ay ix.length:=R5.sta.par.1 j a h
            rw[R5.sta.par.2 j hj]
            exact h
          exact R5.rep.mono hN hN
         have S7:=S6.withKp (kp:=kps++(acc++[v]).zip (ak++[dv])) fun p hp=>by
          rw[Pa cx,<- Fw] at hp
          rcases Fa.mp hp with z|z
          ·exact S6.kep p z
          ·rw[Ax.mp (show p∈[(v,dv)] from z)]
           exact hv
         refine⟨hD5,by rw[cx,Bu];exact hz,ak++[dv],δ5.take ix.length,by rw[Cj];omega,by simp[cx],?_,cQ,fun z=> ?_,hc⟩
         ·exact S7.writeZ (.inl (.inr rfl)) hD5 hD
         ·intro b o e
          have hb:b≠D:=fun z=>by rw[z,hD] at e;cases e
          rw[cH hb]
          obtain⟨z1,z2⟩:=(Ac _ _).mp z
          exact(((gc z).trans sm).trans ((R4.pur z1).trans (R5.pur z2))) b o e
        ·cases hc
   ·have e : i = ds.length := by omega
    subst e
    rw[Gd] at hc
    cases hc
    refine .inl ⟨w.2,k D H1 ?_⟩
    have fP:Fr (OA (Oc ix O)) H0 H1:=S1.frm
    have hPO: ∀a,OA (Oc ix O) a->OA O a:=fun a q0=>by
     obtain⟨j,e⟩:=q0
     unfold Oc at e
     cases hi:ix[j]? with
     | none => rw [hi] at e;cases e
     | some i => rw [hi] at e;exact ⟨i,e⟩
    have SL:=S0.unkeep.laid (o:= .lst acc) hD
    have fL:Fr (OA (Oc ix O)) (bL H0 D (.lst acc)) H1:=fun b o e n=>by
     by_cases hb:b=D
     ·subst hb
      rw[cQ] at e
      cases e
      exact hD1
     ·rw[cH hb] at e
      exact fP b o e n
    refine⟨SL.call (W8) (fun i=> ?_) fL hPO,f0.trans (fP.mono hPO),fun z=> ?_,.lst hD1 (VD cx fun p hp=>(S1.kep p (Ar _ hp)).mono RY RY),S0.unkeep.new hD,S0.fresh hD⟩
    ·by_cases io:i<δ1.length
     ·rcases W7 (ix:=ix) (ss:=δf) (δ:=δ1) i io hlc.symm with⟨j,x,e1,e2,e3⟩|⟨e1,e2⟩
      ·have e4:(δf++OV nl)[j]? =some (.ow x):=by
        rw[Am (Ah.mp e2).1]
        exact e2
       obtain⟨a,e5,_,w⟩:=S1.ow j x e4
       refine .inr ⟨a,x,?_,e3,w.mono RY⟩
       unfold Oc at e5
       rw[e1] at e5
       exact e5
      ·refine .inl ⟨e2,fun a ea ⟨j,ej⟩ => ?_⟩
       obtain⟨x,ex⟩:=S1.dom j a ej
       unfold Oc at ej
       cases hi:ix[j]? with
       |none=>rw[hi] at ej;cases ej
       |some i'=>
        rw[hi] at ej
        have:i=i':=S0.inj i i' a ea ej
        subst this
        have hj:j<δf.length:=by rw[hlc];exact(Ah.mp hi).1
        rw[Am hj] at ex
        exact e1 j x hi ex
     ·refine .inl ⟨?_,fun a ea => ?_⟩
      ·rw [Cc (by rw [W8];omega),Cc (by omega)]
      ·obtain⟨x,ex⟩:=S0.dom i a ea
       exact absurd (Ah.mp ex).1 io
    ·simp only[Ac] at z
     exact(p0 z.1.1).trans (gc (by simp[z.1.2,z.2]))
theorem zD2{Q:Bool->Hp->Prop}(h:TB K ml true XY σ H Q):tYes σ H Q:=by
 obtain⟨B,O,δ,k,δ',S,q,w⟩:=h
 cases q
 exact w H (DZ.refl S)
theorem SF{Y:Cx}{t:VB}(h:PT Y c (TB K ml pt t)):PTs Y [c] (TB K ml pt t):=zAK h
theorem ZO{Y:Cx}:PTs Y [] (TB K ml true XY):=fun aa s σ H Q I hw=>zAL aa s σ H Q I (zD2 hw)
theorem zBW{Q:VK}{o:Bool}(h:TX K ml (if o then xO f else xV f) σ H Q):TN K ml pu f σ H Q:=by
 obtain⟨B,O,δ,s,δ',S,q,k⟩:=h
 have e: ∃d,f δ=some (d,δ')/\s=if o then .ow d else .va d:=by
  cases o with
  |true=>
   have q:(f δ).map (fun p=>(Sl.ow p.1,p.2))=some (s,δ'):=q
   cases h1:f δ with
   |none=>rw[h1] at q;cases q
   |some p=>rw[h1] at q;cases q;exact⟨p.1,rfl,rfl⟩
  |false=>
   have q:(f δ).map (fun p=>(Sl.va p.1,p.2))=some (s,δ'):=q
   cases h1:f δ with
   |none=>rw[h1] at q;cases q
   |some p=>rw[h1] at q;cases q;exact⟨p.1,rfl,rfl⟩
 obtain⟨d,h1,hs⟩:=e
 refine⟨B,O,δ,d,δ',S,h1,fun p H' R=> ?_⟩
 cases o with
 |true=>
  cases hs
  have w:=R.own
  cases w with
  |lst q1 r=>exact k _ H' _ (R.sta.keepV (VL r)) (.ol q1 r.length R.nz R.h0) R.frm
  |dct q1 r=>exact k _ H' _ (R.sta.keepV (VL r)) (.od q1 (by simpa using r.length) R.nz R.h0) R.frm
 |false=>
  cases hs
  exact k _ H' _ (R.sta.unadd.keepV (ps:=[(.ref p,d)]) fun z hz=>by
   rw[Ax.mp hz]
   exact(R.own.mono UN).rep R.nz) .va R.frm
theorem CY{i:Nat}{x:VX}{te:TE}(hte: ∀σ H Q,TX K ml x σ H Q->te σ H Q)(hm:i∉ml){D:HG}(h:U5 K ml (aZ i x) D σ H):CP te (JZ i) D σ H:=by
 obtain⟨B,O,δ,o,S,q,k⟩:=h
 unfold aZ at q
 cases h1:x δ with
 | none => rw [h1] at q;cases q
 |some p=>
  obtain⟨s,δ1⟩:=p
  rw[h1] at q
  have q:(if i<δ1.length then some (Ou.nx (δ1.set i s)) else none)=some o:=q
  split at q
  ·rename_i hl
   cases q
   refine hte _ _ _ ⟨B,O,δ,s,δ1,S,h1,fun v H' B' S' h' f'=> ?_⟩
   obtain⟨O'',S''⟩:=h'.bind S' hm hl
   exact k _ _ _ S''
  ·cases q
end
abbrev cL(P:Au)(w:World)(K:Ai)(mg:Str->Option Value)(base:Heap)(x:Str)(k:Nat)(ps:List Str)(mF:List Nat)(F:bX)(f:Addr):Prop:=Def P w K mg base x k ps (spV K mF ps.length F) f
section
variable{X:Cx}{K:Ai}{ml:List Nat}{e a b c:Expr}{es:List Expr}{pa ta ia pb tb ib pc tc ic pu bt bi ps bs:Bool}{fa fb fc f:VF}{B B':Bs}{O:Nat->Option Addr}{H H0 H1 H':Hp}{σ:St}{δ δ':Ev}{v:V}{d:dM}{p:Addr}{pos:Pos}
theorem c6{x:Str}(hg:Gl X x)(h: ∃u v,X.mg x=some u/\cO v u/\ ∀N H M,b6 K N H M v d)(hd:(x==("__debug__":Str))=false:=by decide):PE X (.Name x pos) (TV K ml true true true (fC d)):=by
 obtain⟨u,v,h1,h2,h3⟩:=h
 exact FW (zAU hg h1 h2 hd) h3
def zC6(K:Ai):R2:=fun x y H Q=> ∃a b xs ys,x= .ref a/\y= .ref b/\W4 K H a xs/\W4 K H b ys/\xs.length+ys.length<=sizeLine∧
 (xs=[]->Q (.ref b) H)/\(xs≠[]->ys=[]->Q (.ref a) H)/\(xs≠[]->ys≠[]-> ∀p,H p=none->Q (.ref p) (bL H p (.tup (xs++ys))))
theorem zB1:YD X (Ep .Add) (zC6 X.K):=by
 intro aa s σ H x y v u Q I rx ry h
 obtain⟨a,b,xs,ys,rfl,rfl,ha,hb,hz,q0,q1,q2⟩:=h
 cases rx
 cases ry
 obtain⟨its,r1,p1,_⟩:=I.tuple ha
 obtain⟨dn,r2,p2,_⟩:=I.tuple hb
 by_cases hx:xs=[]
 ·subst hx
  have e0:its=[]:=r1.nil_iff.mpr rfl
  subst e0
  obtain⟨⟨cls,dd,data,sl⟩,ho,hc,n,hd⟩:=id p1
  obtain⟨⟨mr,dd2,data2,sl2⟩,ho2,hc2,n2,hd2⟩:=id p2
  simp only at hc hd hc2 hd2
  subst hc hd hc2 hd2
  exact Ko ⟨_,ho,rfl⟩ ⟨_,ho2,rfl⟩ Kb Md Gz Gq (Gh _ _)
   (tuple_addW0 a b _ dn.toArray n n2 dd dd2 sl sl2 (by simp)) ⟨ho,ho2,⟨.ref b,H,I,rfl,q0 rfl⟩⟩
 ·refine HT.zBN p1 p2 (fun z => hx (r1.nil_iff.mp z)) (fun z => ⟨.ref a,H,I,rfl,q1 hx (r2.nil_iff.mp z)⟩) (fun z => ?_) (by rw [<- r1.length,<- r2.length];exact hz)
  refine⟨.ref s.heap.objs.size,_,I.laid (t':=s.toks) (o:= .tup (xs++ys)) (fun b ob q=>Ae _ q) (As _) ?_,rfl,q2 hx (fun w=>z (r2.nil_iff.mpr w)) _ (I.hok.fresh (As _))⟩
  exact⟨by rw[Cg];exact hz,_,r1.append r2,Kp _ _⟩
def zC5(K:Ai):R2:=fun x y H Q=> ∃l b xs zs,x= .ref l/\y= .ref b/\YO K H l xs/\YO K H b zs/\xs.length+zs.length<=sizeLine/\ ∀p,H p=none->Q (.ref p) (bL H p (.lst (xs++zs)))
theorem zB0:YD X (Ep .Add) (zC5 X.K):=by
 intro aa s σ H x y v u Q I rx ry h
 obtain⟨l,b,xs,zs,rfl,rfl,hH,hB,hz,q⟩:=h
 cases rx
 cases ry
 obtain⟨its,r,p1,_⟩:=I.list hH
 obtain⟨dn,r2,p2,_⟩:=I.list hB
 obtain⟨⟨cls,dd,data,sl⟩,n,ho,hc,_,hd⟩:=id p1
 obtain⟨⟨mr,dd2,data2,sl2⟩,n2,ho2,hc2,_,hd2⟩:=id p2
 simp only at hc hd hc2 hd2
 subst hc hd hc2 hd2
 have ea:its.toArray++dn.toArray=(its++dn).toArray:=by simp
 have hl:=r.length
 have hl2:=r2.length
 refine Ko ⟨_,ho,rfl⟩ ⟨_,ho2,rfl⟩ noFill_list_add seq_list_add PySem.F.slot_list_add PySem.F.entry_list_add (PySem.F.args_list_add_2 _ _) (list_addW l b its.toArray dn.toArray n n2 dd dd2 sl sl2 (by rw[Ak,Ak,<- hl,<- hl2];exact hz)) ⟨ho,ho2,?_⟩
 rw[ea]
 exact⟨.ref _,_,I.lnew (t':=s.toks) (r.append r2) (by rw[Cg];omega),rfl,q _ I.fresh⟩
def zC4(K:Ai):R2:=fun x y H Q=>((FJ (fun i j=> .int (i+j)) x y H Q∨zC6 K x y H Q)∨zC5 K x y H Q)∨ ∃i j,x= .str i/\y= .str j/\i.length+j.length<=sizeLine/\Q (.str (i++j)) H
theorem XU(h:X.K=K):YD X (Ep .Add) (zC4 K):=by subst h;exact((zE9.or zB1).or zB0).or IG
noncomputable def ZU:dM->dM->Option dM
 | .int i,.int j=>some (.int (i+j))
 | .tup ds,.tup es=>if ds.length+es.length<=16777216 then some (.tup (ds++es)) else none
 | .lst ds,.lst es=>if ds.length+es.length<=16777216 then some (.lst (ds++es)) else none
 | .str x,.str y=>if x.length+y.length<=16777216 then some (.str (x++y)) else none
 |_,_=>none
theorem b6.tupE{N M:Addr->Prop}{ds:List dM}(h:b6 K N H M v (.tup ds)): ∃a xs,v= .ref a/\W4 K H a xs/\cU K N H xs ds:=by
 cases h with
 |tup q r=>exact⟨_,_,rfl,q,r⟩
theorem b6.lstE{N M:Addr->Prop}{ds:List dM}(h:b6 K N H M v (.lst ds)): ∃a xs,v= .ref a/\YO K H a xs/\cU K N H xs ds:=by
 cases h with
 |lst q n r=>exact⟨_,_,rfl,YO.of q,r⟩
 |fzl q r=>exact⟨_,_,rfl,q.sq,r⟩
theorem Y7:OpC K (zC4 K) ZU:=by
 intro H N M M' x y d e c Q hx hy h k
 cases d with
 |int i=>
  cases e with
  |int j=>
   cases h
   cases hx
   cases hy
   exact .inl (.inl (.inl ⟨_,_,rfl,rfl,k _ _ (bC.refl _) fun _ _=> .int _⟩))
  | _ => cases h
 |str i=>
  cases e with
  |str j=>
   simp only[ZU] at h
   split at h
   ·cases h
    cases hx
    cases hy
    exact .inr ⟨_,_,rfl,rfl,by rw[Bu];assumption,k _ _ (bC.refl _) fun _ _=> .str _⟩
   ·cases h
  | _ => cases h
 |tup ds=>
  cases e with
  |tup es=>
   simp only[ZU] at h
   split at h
   ·rename_i hz
    cases h
    obtain⟨a,xs,rfl,q1,r1⟩:=hx.tupE
    obtain⟨b,ys,rfl,q2,r2⟩:=hy.tupE
    refine .inl (.inl (.inr ⟨a,b,xs,ys,rfl,rfl,q1,q2,by rw[r1.length,r2.length,Bu];exact hz,fun z=> ?_,fun z1 z2=> ?_,fun z1 z2 p hp=> ?_⟩))
    ·subst z
     have:ds=[]:=Gv.mp r1.length.symm
     subst this
     exact k _ _ (bC.refl _) fun M hM=> .tup q2 r2
    ·subst z2
     have:es=[]:=Gv.mp r2.length.symm
     subst this
     rw[Dd] at k
     exact k _ _ (bC.refl _) fun M hM=> .tup q1 r1
    ·exact k _ _ (dD hp) fun M hM => .tup (W4.of cQ) ((r1.append r2).same (dD hp))
   ·cases h
  | _ => cases h
 |lst ds=>
  cases e with
  |lst es=>
   simp only[ZU] at h
   split at h
   ·rename_i hz
    cases h
    obtain⟨a,xs,rfl,q1,r1⟩:=hx.lstE
    obtain⟨b,ys,rfl,q2,r2⟩:=hy.lstE
    exact .inl (.inr ⟨a,b,xs,ys,rfl,rfl,q1,q2,by rw[r1.length,r2.length,Bu];exact hz,fun p hp=>k _ _ (dD hp) fun M hM=> .lst cQ (fun z=>by
     obtain⟨o,q⟩:=hM _ z
     rw[hp] at q
     cases q) ((r1.append r2).same (dD hp))⟩)
   ·cases h
  |_=>cases h
 |_=>cases h
def B6:Ai->R2:=fun _=>rI DS fun i j=> .int (i*j)
theorem RW(h:X.K=K):YD X (Ep .Mult) (B6 K):=zE7
noncomputable abbrev UO:=oMul
theorem U7:OpC K (B6 K) UO:=by
 intro H N M M' x y d e c Q hx hy h k
 exact zGE H N N M M' x y d e c Q hx hy h fun v hv=>k v H (bC.refl _) fun M _=>hv _ _ _
noncomputable def WD:dM->Option aF
 | .int i=>some (.inl i)
 | .str x=>some (.inr x)
 |_=>none
theorem b6.key{N M:Addr->Prop}{k:aF}(h:b6 K N H M v d)(e:WD d=some k):v=kV k:=by
 cases h<;>first
  |(cases e;rfl)
  |cases e
noncomputable def bJ(ks:List aF)(ds:List dM)(k:aF):Option dM:=match ks,ds with
 |k'::ks,d::ds=>if k'=k then some d else bJ ks ds k
 |_,_=>none
theorem SX{N:Addr->Prop}{k:aF}: ∀{kvs:List (aF×V)} {ds:List dM},cU K N H (kvs.map Hr) ds→
  (∃v d,SE kvs k=some v/\bJ (kvs.map Hs) ds k=some d/\b6 K N H N v d)∨(SE kvs k=none/\bJ (kvs.map Hs) ds k=none)
 | [],_,.nil => .inr ⟨rfl,rfl⟩
 | (k',v) :: kvs,_,.cons h t => by
  by_cases hk:k'=k
  ·refine .inl ⟨v,_,TU (p:=(k',v)) hk,?_,h⟩
   simp[bJ,hk]
  ·rcases SX (k:=k) t with⟨v',d',h1,h2,h3⟩|⟨h1,h2⟩
   ·exact .inl ⟨v',d',(V8 (p:=(k',v)) hk).trans h1,by simpa[bJ,hk] using h2,h3⟩
   ·exact .inr ⟨(V8 (p:=(k',v)) hk).trans h1,by simpa[bJ,hk] using h2⟩
theorem zHL(hu:X.A.units+1<cLine):DV X (fun x y H Q=> ∃a v,x= .ref a/\RH H a y (some v)/\Q v H):=by
 intro value slice aa s σ H x y v u Q I rx ry h hs
 obtain⟨a,w,rfl,g,q⟩:=h
 cases rx
 exact Py (JU I g) PySem.F.slot_dict_getitem.lookup (EG hu I g ry fun w' s3 I3 rw'=>⟨w,H,I3,rw',q⟩) hs
def rIxA(K:Ai):R2:=fun x y H Q=>(rIx K x y H Q∨ ∃a v,x= .ref a/\RH H a y (some v)/\Q v H)∨ ∃a k D v,x= .ref a/\y= .str k/\KTab K a D/\Ew k D=some v/\Q v H
theorem kIxA(h:X.K=K)(hu:X.A.units+1<cLine):DV X (rIxA K):=by subst h;exact(zFC.or (zHL hu)).or zBF
noncomputable def b5:dM->dM->Option dM
 | .tup ds,.int i=>RK ds i
 | .lst ds,.int i=>RK ds i
 | .dct ks ds,e=>(WD e).bind (bJ ks ds)
 | .str z,.int i=>if z.length<=16777216 then(RK z.cps.toList i).map fun c=> .str ⟨#[c]⟩ else none
 |_,_=>none
theorem RN{N:Addr->Prop}{k:Str}: ∀{D:List (Str×V)} {ds:List dM},cU K N H (D.map Hr) ds→
  (∃ v d,Ew k D = some v /\ bJ (D.map fun p => .inr p.1) ds (.inr k) = some d /\ b6 K N H N v d) ∨ (Ew k D = none /\ bJ (D.map fun p => .inr p.1) ds (.inr k) = none)
 | [],_,.nil => .inr ⟨rfl,rfl⟩
 | (k',v) :: D,_,.cons h t => by
  by_cases hk:k'=k
  ·subst hk
   exact .inl ⟨v,_,by simp[Ew],by simp[bJ],h⟩
  ·have hk2 : ¬ k = k' := fun z => hk z.symm
   rcases RN (k:=k) t with⟨v',d',h1,h2,h3⟩|⟨h1,h2⟩
   ·exact .inl ⟨v',d',by simpa[Ew,hk,hk2] using h1,by simpa[bJ,hk] using h2,h3⟩
   ·exact .inr ⟨by simpa[Ew,hk,hk2] using h1,by simpa[bJ,hk] using h2⟩
theorem J9{i:Int}: ∀{D:List (Str×V)} {ds:List dM},bJ (D.map fun p=> .inr p.1) ds (.inl i)=none
 |[],_=>by simp[bJ]
 |_::_,[]=>by simp[bJ]
 |p::D,d::ds=>by simpa[bJ] using J9 (D:=D) (ds:=ds)
theorem zHO:OpI K (rIxA K) b5:=by
 intro H N N' M M' x y d e c Q hx hy h k
 have seq : ∀ ds i,ZA d = some ds -> e = .int i -> RK ds i = some c -> rIxA K x y H Q := fun ds i h1 h2 h3 => by
  subst h2
  cases hy
  obtain⟨a,xs,rfl,sq,r⟩:=hx.seq h1
  obtain⟨v,hv,rv⟩:=zBU r h3
  rcases sq with sq|sq
  ·exact .inl (.inl (.inl ⟨a,xs,i,v,rfl,rfl,sq,hv,k v rv⟩))
  ·exact .inl (.inl (.inr (.inl ⟨a,xs,i,v,rfl,rfl,sq,hv,k v rv⟩)))
 cases d with
 |tup ds=>
  cases e with
  | int i => exact seq ds i rfl rfl h
  | _ => cases h
 |lst ds=>
  cases e with
  | int i => exact seq ds i rfl rfl h
  | _ => cases h
 |str z=>
  cases e with
  |int i=>
   simp only[b5] at h
   split at h
   ·cases hc:RK z.cps.toList i with
    | none => rw [hc] at h;cases h
    |some ch=>
     rw[hc] at h
     cases h
     cases hx
     cases hy
     exact .inl (.inl (.inr (.inr ⟨z,i,ch,rfl,rfl,by rw[Bu];assumption,hc,k _ (.str _)⟩)))
   ·cases h
  | _ => cases h
 |dct ks ds=>
  simp only[b5] at h
  cases hk:WD e with
  | none => rw [hk] at h;cases h
  |some kk=>
   rw[hk] at h
   have h:bJ ks ds kk=some c:=h
   have ey:=hy.key hk
   subst ey
   cases hx with
   |dct q n r=>
    rcases SX (k:=kk) r with⟨v,d',h1,h2,h3⟩|⟨h1,h2⟩
    ·rw[h] at h2
     cases h2
     exact .inl (.inr ⟨_,v,rfl,h1▸RH.k q,k v h3⟩)
    ·rw[h] at h2;cases h2
   |ktb T r=>
    cases kk with
    | inl i => rw [J9] at h;cases h
    |inr x=>
     rcases RN (k:=x) r with⟨v,d',h1,h2,h3⟩|⟨h1,h2⟩
     ·rw[h] at h2
      cases h2
      exact .inr ⟨_,x,_,v,rfl,rfl,T,h1,k v h3⟩
     ·rw[h] at h2;cases h2
 |_=>cases h
noncomputable def YM(δ:Ev)(i:Nat):Option (List aF×List dM):=match δ[i]? with
 |some (.ow (.dct ks ds))=>some (ks,ds)
 |_=>none
theorem VA{i:Nat}{ks:List aF}{ds:List dM}(h:YM δ i=some (ks,ds)):δ[i]? =some (.ow (.dct ks ds)):=by
 unfold YM at h
 split at h
 ·cases h;assumption
 ·cases h
noncomputable def L6(i:Nat)(fk fx:VF):VF:=fun δ=>(YM δ i).bind fun _=>(fk δ).bind fun p=>(fx p.2).bind fun q=>(WD p.1).bind fun k=>(YM q.2 i).map fun z=>((bJ z.1 z.2 k).getD q.1,q.2)
theorem C4{i:Nat}{fk fx:VF}{ai ae:Pos}(hu:X.A.units+1<cLine)(ho:PE X a (P8 i))(hk:PE X b (TV K ml pa ta ia fk))(hx:PE X c (TV K ml pb true true fx))(m:M2 X a "get" ai b c ae):
  PE X (.Call (.Attribute a "get" ai) [b,c] [] ae) (TV K ml (pa && pb) true true (L6 i fk fx)) := (BF hu ho hk hx m).imp fun σ H Q ⟨B,O,δ,d,δ3,S,q,k⟩ => by
 unfold L6 at q
 cases h0:YM δ i with
 | none => rw [h0] at q;cases q
 |some z0=>
  obtain⟨ks0,ds0⟩:=z0
  rw[h0] at q
  cases h1:fk δ with
  | none => simp [h1] at q
  |some p1=>
   obtain⟨y,δ1⟩:=p1
   simp only[Ag,h1] at q
   cases h2:fx δ1 with
   | none => simp [h2] at q
   |some p2=>
    obtain⟨z,δ2⟩:=p2
    simp only[Ag,h2] at q
    cases h3:WD y with
    | none => simp [h3] at q
    |some kk=>
     simp only[Ag,h3] at q
     cases h4:YM δ2 i with
     | none => simp [h4] at q
     |some zz=>
      obtain⟨ks,ds⟩:=zz
      simp only[h4] at q
      cases q
      obtain⟨l,e1,e2,w⟩:=S.ow i _ (VA h0)
      refine⟨.ref l,e2,l,rfl,?_,B,O,δ,y,δ1,S,h1,fun v1 H1 R1=>⟨B,O,δ1,z,_,R1.sta,h2,fun v2 H2 R2=> ?_⟩⟩
      ·generalize hw:dM.dct ks0 ds0=dd at w
       cases w with
       |lst _ _=>cases hw
       |dct q _=>exact .inl ⟨_,.inl q⟩
      ·have ey:=R1.rep.key h3
       subst ey
       obtain⟨l',e3,_,w2⟩:=R2.sta.ow i _ (VA h4)
       rw[e1] at e3
       cases e3
       have fin: ∀o,b6 K (Nn B O) H2 (Nn B O) (o:V) ((bJ ks ds kk).getD z)->Q o H2:=fun o ho=>k o H2 ⟨R2.sta,R1.frm.trans R2.frm,fun z=>by
        obtain⟨z1,z2⟩:=(Ac _ _).mp z
        exact(R1.pur z1).trans (R2.pur z2),ho⟩
       generalize hw:dM.dct ks ds=dd at w2
       cases w2 with
       |lst _ _=>cases hw
       |dct q r=>
        cases hw
        refine⟨_,RH.k q,fin _ ?_⟩
        rcases SX (k:=kk) r with⟨v,d',g1,g2,g3⟩|⟨g1,g2⟩
        ·rw[g1,g2];exact g3
        ·rw[g1,g2];exact R2.rep
noncomputable def Y9:List aF->List dM->aF->dM->List aF×List dM
 |k'::ks,d::ds,k,v=>if k'=k then(k'::ks,v::ds) else let r:=Y9 ks ds k v;(k'::r.1,d::r.2)
 |_,_,k,v=>([k],[v])
noncomputable def G6(i:Nat)(fk fv:VF):VS:=fun δ=>(fv δ).bind fun p=>(YM p.2 i).bind fun _=>(fk p.2).bind fun q=>(WD q.1).bind fun k=>(YM q.2 i).bind fun z=>if z.1.length<16777216/\z.1.Nodup then some (.nx (q.2.set i (.ow (let r:=Y9 z.1 z.2 k p.1;.dct r.1 r.2)))) else none
theorem N4{N:Addr->Prop}{k:aF}{v:V}(h:b6 K N H N v d): ∀{kvs:List (aF×V)} {ds:List dM},(kvs.map Hs).Nodup->cU K N H (kvs.map Hr) ds→
  (XD kvs k v).map Hs=(Y9 (kvs.map Hs) ds k d).1/\cU K N H ((XD kvs k v).map Hr) (Y9 (kvs.map Hs) ds k d).2
 | [],_,_,.nil => ⟨rfl,.cons h .nil⟩
 | (k',u) :: kvs,_,nd,.cons hu t => by
  obtain⟨n1,n2⟩:=Cs.mp nd
  by_cases hk:k'=k
  ·subst hk
   have e:XD ((k',u)::kvs) k' v=(k',v)::kvs:=by
    unfold XD
    rw[if_pos (by simp)]
    simp only[Cq,if_true]
    congr 1
    refine(List.map_congr_left fun p hp=> ?_).trans (List.map_id _)
    have:p.1≠k':=fun z=>n1 (Hl.mpr ⟨p,hp,z⟩)
    simp[this]
   rw[e]
   exact⟨by simp[Y9],by simpa[Y9] using cU.cons h t⟩
  ·obtain⟨h1,h2⟩:=N4 (k:=k) h n2 t
   have e:XD ((k',u)::kvs) k v=(k',u)::XD kvs k v:=by
    unfold XD
    simp only[Jt,hk,decide_false,Qa]
    split
    ·simp[hk]
    ·rfl
   rw[e]
   exact⟨by simpa[Y9,hk] using h1,by simpa[Y9,hk] using cU.cons hu h2⟩
theorem MQ{N:Addr->Prop}{l:Addr}{o:HO}{xs:List V}{ds:List dM}{kvs:List (aF×V)}(ho:H l=some (.dK kvs))(hN:N l)(h:cU K N H xs ds):cU K N (bL H l o) xs ds:=
 h.fr (P:=fun b=>b=l) (fun b u q n=>by
  by_cases hb:b=l
  ·subst hb
   rw[ho] at q
   cases q
   exact absurd (n rfl) fun z=>z
  ·rw[cH hb]
   exact q) fun a z=>z▸hN
theorem zA9{i:Nat}{fk fv:VF}{bh:Pos}(hu:X.A.units+1<cLine)(ho:PE X a (P8 i))(hk:PE X b (TV K ml pa ta ia fk))(hv:PE X c (TV K ml pb true true fv))(hs:Fm c (some (.Subscript a b bh)) pos.line X.env=pure false):
  PS X (.Assign [.Subscript a b bh] c pos) (U5 K ml (G6 i fk fv)) := (zAN hu ho hk hv hs).imp fun D σ H ⟨B,O,δ,o,S,q,k⟩ => by
 unfold G6 at q
 cases h1:fv δ with
 | none => rw [h1] at q;cases q
 |some p1=>
  obtain⟨z,δ1⟩:=p1
  rw[h1] at q
  have q : ((YM δ1 i).bind fun _ => (fk δ1).bind fun q => (WD q.1).bind fun k => (YM q.2 i).bind fun z_1 => if z_1.1.length < 16777216 /\ z_1.1.Nodup then some (Ou.nx (q.2.set i (.ow (let r := Y9 z_1.1 z_1.2 k z;.dct r.1 r.2)))) else none) = some o := q
  cases h0:YM δ1 i with
  | none => rw [h0] at q;cases q
  |some z0=>
  obtain⟨ks0,ds0⟩:=z0
  rw[h0] at q
  cases h2:fk δ1 with
  | none => simp [h2] at q
  |some p2=>
   obtain⟨y,δ2⟩:=p2
   simp only[Ag,h2] at q
   cases h3:WD y with
   | none => simp [h3] at q
   |some kk=>
    simp only[Ag,h3] at q
    cases h4:YM δ2 i with
    | none => simp [h4] at q
    |some zz=>
     obtain⟨ks,ds⟩:=zz
     simp only[h4,Ag] at q
     split at q
     ·rename_i hz
      cases q
      refine⟨B,O,δ,z,δ1,S,h1,fun v1 H1 R1=> ?_⟩
      obtain⟨l,e1,e2,_⟩:=R1.sta.ow i _ (VA h0)
      refine⟨.ref l,e2,B,O,δ1,y,δ2,R1.sta,h2,fun v2 H2 R2=> ?_⟩
      have ey:=R2.rep.key h3
      subst ey
      obtain⟨l',e3,_,w2⟩:=R2.sta.ow i _ (VA h4)
      rw[e1] at e3
      cases e3
      generalize hw:dM.dct ks ds=dd at w2
      cases w2 with
      |lst _ _=>cases hw
      |dct qd r=>
       cases hw
       have rv:=R1.rep.fr R2.frm (fun a z=> .inr z) fun a z=> .inr z
       obtain⟨g1,g2⟩:=N4 (k:=kk) rv hz.2 r
       refine⟨l,_,rfl,DPut.k qd (by rw[Bu];simpa using hz.1),k σ _ O (R2.sta.wrote e1 (fun z=>z) ?_)⟩
       have w:QL K (Nn B O) (bL H2 l (.dK (XD _ kk v1))) l (.dct ((XD _ kk v1).map Hs) _):= .dct cQ (MQ qd (.inr ⟨i,e1⟩) g2)
       rw[g1] at w
       exact w
     ·cases q
end
section
variable{X:Cx}{K:Ai}{ml:List Nat}{e a b c:Expr}{es:List Expr}{pa ta ia pb tb ib pc tc ic pu bt bi ps bs:Bool}{fa fb fc f:VF}{B B':Bs}{O:Nat->Option Addr}{H H0 H1 H':Hp}{σ:St}{δ δ':Ev}{v:V}{d:dM}{p:Addr}{pos:Pos}
noncomputable def G7(i:Nat)(fi fv:VF):VS:=fun δ=>(fv δ).bind fun p=>(YF p.2 i).bind fun _=>(fi p.2).bind fun q=>(YF q.2 i).bind fun ds=>match q.1 with
 | .int k=>(LH ds.length k).map fun j=> .nx (q.2.set i (.ow (.lst (ds.set j p.1))))
 |_=>none
theorem zCS{i:Nat}{fi fv:VF}{bh:Pos}(hK:X.K=K)(ho:PE X a (P8 i))(hi:PE X b (TV K ml pa ta ia fi))(hv:PE X c (TV K ml pb true true fv))
  (ha: ∀v,assign (.Subscript a b bh) X.env v=(do
   let ov<- Jr [v] (eval a X.env)
   let iv<- Jr [v,ov] (eval b X.env)
   Jq bh
   Jr [v,ov,iv] (setItem ov iv v)
   release [v,ov,iv] []):=by intro _;rfl)
  (hs : Gj [.Subscript a b bh] c pos.line X.env = pure false := by rfl) (hw : Gk [.Subscript a b bh] c X.env = pure none := by rfl)
  (h1 : (assignEach [.Subscript a b bh] X.env).map (·.2) = [assign (.Subscript a b bh) X.env] := by rfl) : PS X (.Assign [.Subscript a b bh] c pos) (U5 K ml (G7 i fi fv)) :=
 (P0 hv (zE0 ho hi CN ha) hs hw h1).imp fun D σ H q0 => by
  obtain⟨B,O,δ,o,S,q,k⟩:=q0
  unfold G7 at q
  cases h1:fv δ with
  | none => rw [h1] at q;cases q
  |some p1=>
   obtain⟨z,δ1⟩:=p1
   rw[h1] at q
   cases h0:YF δ1 i with
   | none => simp [h0] at q
   |some ds0=>
    simp only[Ag,h0] at q
    cases h2:fi δ1 with
    | none => simp [h2] at q
    |some p2=>
     obtain⟨y,δ2⟩:=p2
     simp only[Ag,h2] at q
     cases h4:YF δ2 i with
     | none => simp [h4] at q
     |some ds=>
      simp only[h4,Ag] at q
      cases y with
      |int kk=>
       have q:((LH ds.length kk).map fun j=>Ou.nx (δ2.set i (.ow (.lst (ds.set j z)))))=some o:=q
       cases h5:LH ds.length kk with
       | none => rw [h5] at q;cases q
       |some j=>
        rw[h5] at q
        cases q
        refine⟨B,O,δ,z,δ1,S,h1,fun v1 H1 R1=> ?_⟩
        obtain⟨l,e1,e2,_⟩:=R1.sta.ow i _ (VC h0)
        refine⟨.ref l,e2,B,O,δ1,_,δ2,R1.sta,h2,fun v2 H2 R2=> ?_⟩
        have ey:v2= .int kk:=by
         have r:=R2.rep
         cases r
         rfl
        subst ey
        obtain⟨l',e3,_,w2⟩:=R2.sta.ow i _ (VC h4)
        rw[e1] at e3
        cases e3
        cases w2 with
        |lst hl r=>
         have rv:=R1.rep.fr R2.frm (fun a z=> .inr z) fun a z=> .inr z
         refine⟨l,_,kk,j,rfl,rfl,hl,by rw[r.length];exact h5,k σ _ O (R2.sta.wrote e1 (fun z=>z) (.lst cQ (RF (ys:=[]) hl (.inr ⟨i,e1⟩) (r.set rv j))))⟩
      |_=>cases q
def rIsB(neg:Bool):R2:=fun x y H Q=> ∃k,y= .bl k/\Q (.bl (if neg then !decide (x= .bl k) else decide (x= .bl k))) H
theorem QT:YD X (Cn .IsNot) (rIsB true):=by
 intro aa s σ H x y v u Q I rx ry h
 obtain⟨k,rfl,q⟩:=h
 cases ry
 have e:(v==Fs k)=decide (x=V.bl k):=by
  cases x<;>first
   |(cases rx;first|rfl|(rename_i z;cases z<;>cases k<;>rfl))
   |(obtain⟨t,rfl⟩:=rx;rfl)
 exact wpAny_isNot_plain (by cases x<;>first|(cases rx;cases k<;>rfl)|(obtain⟨t,rfl⟩:=rx;cases k<;>rfl)) (by rw[e];exact⟨.bl _,H,I,rfl,q⟩)
noncomputable def isBl(k:Bool):dM->Bool
 | .bl x=>x==k
 |_=>false
noncomputable def WL:dM->dM->Option dM
 |d,.bl k=>some (.bl (!isBl k d))
 |_,_=>none
theorem zAH{N M:Addr->Prop}{k:Bool}(h:b6 K N H M v d):decide (v=V.bl k)=isBl k d:=by
 cases h<;>simp[isBl]
 rename_i b
 cases b<;>cases k<;>rfl
theorem MS:Q4 K (rIsB true) WL:=by
  intro H N N' M M' x y d e c Q hx hy h k
  cases hy<;>first
    | (cases h
       refine⟨_,rfl,?_⟩
       simp only[if_true]
       rw[zAH hx]
       exact k _ fun _ _ _=> .bl _)
    |(simp[WL] at h)
end
section
variable{prog:Au}{w:World}{A:Bx}{E:Value->Ad->Prop}{s:Ad}
theorem UY{it t:Addr}{i:Nat}{items:Array Value}{x:Value}{Q:Value->Ad->Prop}(hit:s.heap.IsTupleIter it t i)(ht:s.heap.IsTuple t items)(hx:items[i]? =some x)
  (hQ: ∀h',h'.IsTupleIter it t (i+1)->Ef it s.heap h'->Q x {s with heap:=h'}):wpAny (model prog w) A (Bq (.ref it)) Q E s:=by
 obtain⟨oi,g1,c1,d1⟩:=id hit
 obtain⟨ot,g2,_,nt,d2⟩:=ht
 unfold Bq
 refine Aa (Cy (name:=Az "__next__") hit.typeIs Eo (Eb Eo hit.typeIs Ig ?_ (Ht _)))
 show wpAny _ _ (field (Bj it) 0>>=_) _ _ s
 refine Aa (Dr g1 d1 (x:= .ref t) rfl ?_)
 show wpAny _ _ (if(Bj t== .none)=true then _ else _) _ _ s
 rw[if_neg (show¬(Bj t==Value.none)=true from Db)]
 show wpAny _ _ (field (Bj it) 1>>=_) _ _ s
 refine Aa (Dr g1 d1 (x:= .int i 0) rfl ?_)
 show wpAny _ _ (Ku (Bj t)>>=_) _ _ s
 refine Aa (Df g2 d2 ?_)
 simp only[hx,Jj]
 refine Aa (wpAny_setField g1 d1 (by simp) (Af ⟨x,rfl,Af (hQ _ ⟨_,Fo _ g1 (Obj.isFreed_of_fields (Mf d1 _)),(Obj.cls_mapFields ..).trans c1,?_⟩ (Ls ..))⟩))
 rw[Mf d1]
 simp[rawInt]
theorem S9{it t:Addr}{i:Nat}{items:Array Value}{Q:Value->Ad->Prop}(hh:A.handled=none)(hit:s.heap.IsTupleIter it t i)(ht:s.heap.IsTuple t items)(hx:items[i]? =none)
  (hE: ∀h' e,Ic it s.heap h'->(∃o,h'.get? e=some o/\o.cls= .type "StopIteration")->E (.ref e) {s with heap:=h'}):wpAny (model prog w) A (Bq (.ref it)) Q E s:=by
 obtain⟨oi,g1,c1,d1⟩:=id hit
 obtain⟨ot,g2,_,nt,d2⟩:=ht
 unfold Bq
 refine Aa (Cy (name:=Az "__next__") hit.typeIs Eo (Eb Eo hit.typeIs Ig ?_ (Ht _)))
 show wpAny _ _ (field (Bj it) 0>>=_) _ _ s
 refine Aa (Dr g1 d1 (x:= .ref t) rfl ?_)
 show wpAny _ _ (if(Bj t== .none)=true then _ else _) _ _ s
 rw[if_neg (show¬(Bj t==Value.none)=true from Db)]
 show wpAny _ _ (field (Bj it) 1>>=_) _ _ s
 refine Aa (Dr g1 d1 (x:= .int i 0) rfl ?_)
 show wpAny _ _ (Ku (Bj t)>>=_) _ _ s
 refine Aa (Df g2 d2 ?_)
 simp only[hx,Jj]
 refine Aa (Hw (Aa (wpAny_setField g1 d1 (by simp) ?_)))
 show wpAny _ _ (newExc (Jg "StopIteration") []>>=_) _ _ _
 refine Aa ?_
 unfold newExc newTuple
 refine Aa (Cz ?_ (by size_fits))
 refine Aa (m:=firstArgMember _ _) (Pb (a:=Value.none) (by first|rfl|(unfold firstArgMember;rfl)) (Cz ?_ (by size_fits)))
 unfold raiseNew
 refine Aa (wpAny_handled ?_)
 first|rw[hh]|rw[show A.in1.handled=none from hh]
 refine Aa (Af (wpAny_throw (hE _ _ (((Ls ..).extBut.push _).push _) ⟨_,At _ rfl,rfl⟩)))
end
theorem EJ{prog:Au}{w:World}{A:Bx}(hh:A.handled=none)(it t:Addr)(hne:t≠it)(items:Array Value):
  Draws prog w A it [it,t] items.size (fun i v=>items[i]? =some v) (fun i h=>h.IsTupleIter it t i/\h.IsTuple t items) where
 live:=fun _ _ st=>let ⟨o,ho,_⟩:=st.1;⟨o,ho⟩
 frame:=fun _ _ _ st hk=>⟨st.1.at fun o e=>hk it (by simp) o e,by obtain⟨o,ho,r⟩:=st.2;exact⟨o,hk t (by simp) o ho,r⟩⟩
 item:=fun i s Q E hi st hQ=>UY st.1 st.2 (x:=items[i]) (by simp[hi]) fun h' a b=>hQ _ h' s.toks (by simp[hi]) ⟨a,st.2.extBut b.extBut hne⟩ b
 done:=fun s Q E st hE=>S9 hh st.1 st.2 (by simp) hE
section
variable{X:Cx}{aa:List (Addr×Obj)}{σ:St}{H:Hp}{s:Ad}{h':Heap}
theorem c7.turnedL{t':Nat}{fp:List Addr}(I:c7 X aa σ H s)(k: ∀b o,b∉fp->s.heap.get? b=some o->h'.get? b=some o)(there: ∀b∈fp,∃o,h'.get? b=some o)(hf: ∀b∈fp,RI X aa H b):c7 X aa σ H {s with heap:=h',toks:=t'}:=by
 have nit: ∀b u,H b=some u->b∉fp:=fun b u e z=>by rw[(hf b z).1] at e;cases e
 have hL:X.env.locals∉fp:=fun z=>(hf _ z).2.1 rfl
 refine I.step (g':=s.gens) (d':=s.drawn) (ch:=fp) (fun b hb=> ?_) (fun b o _ _ hc e _=>k b o hc e) (fun b o _ _ hc e _=>⟨o.slots,k b o hc e⟩) (fun _ _ _ _ n=>n)
  (fun b o hc e=>⟨o,k b o hc e⟩) (fun _ _ e=>e) (fun _ _ _ e=>e) (fun b ps e=>⟨#[],by rw[e];simp⟩) (fun m hm=> ?_) (fun b u e=> ?_) I.bare
 ·obtain⟨_,f1,f2,f3,f4,f5⟩:=hf b hb
  exact⟨f3,f1,f4,f5⟩
 ·obtain⟨o,es,ep,ho,r⟩:=hm
  exact⟨o,es,ep,k _ o hL ho,r⟩
 ·refine (I.hok b u e).stay (fun c v hc q => k c v ?_ q) (fun _ q => q) fun _ _ q => q
  rcases hc with z|z
  ·rw[z];exact nit b u e
  ·exact nit c _ z
end
section
variable{X:Cx}{aa:List (Addr×Obj)}{σ:St}{H:Hp}{s:Ad}{h':Heap}
theorem c7.turnedL'{t':Nat}{fp:List Addr}(I:c7 X aa σ H s)(k: ∀b o,b∉fp->s.heap.get? b=some o->h'.get? b=some o)(hf: ∀b∈fp,RI X aa H b):c7 X aa σ H {s with heap:=h',toks:=t'}:=by
 have nit: ∀b u,H b=some u->b∉fp:=fun b u e z=>by rw[(hf b z).1] at e;cases e
 have hL:X.env.locals∉fp:=fun z=>(hf _ z).2.1 rfl
 refine I.step (g':=s.gens) (d':=s.drawn) (ch:=fp) (fun b hb=> ?_) (fun b o _ _ hc e _=>k b o hc e) (fun b o _ _ hc e _=>⟨o.slots,k b o hc e⟩) (fun _ _ _ _ n=>n)
  (fun b o hc e=>⟨o,k b o hc e⟩) (fun _ _ e=>e) (fun _ _ _ e=>e) (fun b ps e=>⟨#[],by rw[e];simp⟩) (fun m hm=> ?_) (fun b u e=> ?_) I.bare
 ·obtain⟨_,f1,f2,f3,f4,f5⟩:=hf b hb
  exact⟨f3,f1,f4,f5⟩
 ·obtain⟨o,es,ep,ho,r⟩:=hm
  exact⟨o,es,ep,k _ o hL ho,r⟩
 ·refine (I.hok b u e).stay (fun c v hc q => k c v ?_ q) (fun _ q => q) fun _ _ q => q
  rcases hc with z|z
  ·rw[z];exact nit b u e
  ·exact nit c _ z
end
def M5(K:Ai)(tup:Bool)(H:Hp)(a:Addr)(xs:List V):Prop:=if tup=true then W4 K H a xs else YO K H a xs
def SI(tup:Bool)(h:Heap)(a:Addr)(items:Array Value):Prop:=if tup=true then h.IsTuple a items else h.IsList a items
def WB(tup:Bool)(h:Heap)(it a:Addr)(i:Nat):Prop:=if tup=true then h.IsTupleIter it a i else h.IsListIter it a i
theorem AH{prog:Au}{w:World}{A:Bx}(hh:A.handled=none)(tup:Bool)(it t:Addr)(hne:t≠it)(items:Array Value):
  Draws prog w A it [it,t] items.size (fun i v=>items[i]? =some v) (fun i h=>WB tup h it t i/\SI tup h t items):=by
 cases tup with
 |true=>exact EJ hh it t hne items
 |false=>exact Draws.list hh it t hne items
theorem SI.lt{tup:Bool}{h:Heap}{a:Addr}{items:Array Value}(s:SI tup h a items):a<h.objs.size:=by
 cases tup with
 |true=>obtain⟨o,e,_⟩:=s;exact Aj e
 |false=>obtain⟨o,e,_⟩:=s;exact Aj e
theorem c7.srcA{X:Cx}{aa:List (Addr×Obj)}{σ:St}{H:Hp}{s:Ad}{a:Addr}{xs:List V}{tup:Bool}(I:c7 X aa σ H s)(h:M5 X.K tup H a xs): ∃its:List Value,cA xs its/\SI tup s.heap a its.toArray/\xs.length<=sizeLine:=by
 cases tup with
 |true=>
  obtain⟨its,r,p,z⟩:=I.tuple h
  exact⟨its,r,p,z⟩
 |false=>
  obtain⟨its,r,p,z⟩:=I.list h
  exact⟨its,r,p.isList,z⟩
theorem c7.sq_inj{X:Cx}{aa:List (Addr×Obj)}{σ:St}{H:Hp}{s:Ad}{a:Addr}{xs ys:List V}{tup:Bool}(I:c7 X aa σ H s)(h:M5 X.K tup H a xs)(h':M5 X.K tup H a ys):xs=ys:=by
 cases tup with
 |true=>exact I.tuple_inj h h'
 |false=>exact I.list_inj h h'
theorem WB.at{tup:Bool}{h h':Heap}{it a:Addr}{i:Nat}(st:WB tup h it a i)(k: ∀o,h.get? it=some o->h'.get? it=some o):WB tup h' it a i:=by
 cases tup with
 |true=>exact Heap.IsTupleIter.at st k
 |false=>exact Heap.IsListIter.at st k
theorem WB.obj{tup:Bool}{h:Heap}{it a:Addr}{i:Nat}(st:WB tup h it a i): ∃o,h.get? it=some o/\ ∀v,o.data≠ .cell v:=by
 cases tup with
 |true=>
  obtain⟨o,e,c,d⟩:=st
  exact⟨o,e,fun v z=>by rw[d] at z;cases z⟩
 |false=>
  obtain⟨o,e,c,d⟩:=st
  exact⟨o,e,fun v z=>by rw[d] at z;cases z⟩
noncomputable def Ite(K:Ai)(tup:Bool)(a:Addr):It:=
 ⟨fun i H=> ∃xs x,M5 K tup H a xs/\xs[i]? =some x,fun i H v H'=> ∃p x,(∀xs,M5 K tup H a xs->xs[i]? =some x)/\H p=none/\H'=bL H p (.tup [.int i,x])/\v= .ref p,fun i H=> ∃xs,M5 K tup H a xs/\xs.length=i⟩
theorem FR{P:Au}{w:World}{K:Ai}{es:List Expr}{k:Nat}{pos:Pos}(tup:Bool)(a e it:Addr)(hei:e≠it)(hae:a≠e)(hai:a≠it):
  JJ P w K (.Tuple es k pos) (Ite K tup a) [e,it] e (fun i h => (∃ old,IsEnum h e it i old) /\ WB tup h it a i) where
 mem := by simp
 obj := fun i h st b hb => by
  obtain⟨⟨old,he⟩,hi⟩:=st
  rcases Ao.mp hb with z|z
  ·subst z
   exact⟨_,he,fun v z=>by cases z⟩
  ·have:=Ax.mp z
   subst this
   exact hi.obj
 keep:=fun i h h' st kk=>by
  obtain⟨⟨old,he⟩,hi⟩:=st
  exact⟨⟨old,kk e (by simp) _ he⟩,hi.at fun o q=>kk it (by simp) o q⟩
 item:=by
  intro X hP hw hK hc i aa s σ H E I hf st hg
  subst hP hw hK
  obtain⟨⟨old,he⟩,hi⟩:=st
  obtain⟨xs,x,hq,hx⟩:=hg
  obtain⟨its,rv,src,hz⟩:=I.srcA hq
  have hlt:i<its.toArray.size:=by
   have:=(Ah.mp hx).1
   have:=rv.length
   simp only[Ak]
   omega
  have hh:X.A.in1.handled=none:=I.ok.hd hc
  refine wpAny_pyNext_enum_itemD (AH hh tup it a hai its.toArray) he ⟨hi,src⟩ hlt hei (by simp[hei,Ee hae]) fun u h1 tk hu ho st1 ht hsz hk=>⟨_,rfl,?_⟩
  refine wpAny_letOwnedTupleGo_enum (s:={s with heap:=h1,toks:=tk+1}) ho fun h2 he2 sb2=> ?_
  have sb2:Ef e h1 h2:=sb2
  obtain⟨u',hu',ru⟩:=rv.get hx
  have hu:its.toArray[i]? =some u:=hu
  rw[List.getElem?_toArray,hu'] at hu
  have hu:=Bb hu
  subst hu
  have kk: ∀b o,b∉[e,it]->s.heap.get? b=some o->h2.get? b=some o:=fun b o hb q=>by
   have h1b:b≠e:=fun z=>hb (by simp[z])
   have h2b:b≠it:=fun z=>hb (by simp[z])
   exact(sb2.2 b h1b).trans (hk b o h1b h2b q)
  have jy:h2.get? s.heap.objs.size=some {cls:= .type "tuple",data:= .seq #[.int i tk,u']}:=(sb2.2 _ (Fn (Aj he))).trans ht
  have bn:H s.heap.objs.size=none:=I.hok.fresh (As _)
  have i7: ∀b∈[e,it],b<s.heap.objs.size:=fun b hb=>by
   rcases Ao.mp hb with z|z
   ·rw[z];exact Aj he
   ·rw[Ax.mp z]
    obtain⟨o,q,_⟩:=hi.obj
    exact Aj q
  have I0:c7 X aa σ (bL H s.heap.objs.size (.tup [.int i,x])) {s with heap:=s.heap.push {cls:= .type "tuple",data:= .seq #[.int i tk,u']},toks:=tk}:=
   I.laid (fun b o q=>Ae _ q) (As _) ⟨by show 2<=sizeLine;decide,[.int i tk,u'],.cons ⟨tk,rfl⟩ (.cons ru .nil),Kp _ _⟩
  have I1:c7 X aa σ (bL H s.heap.objs.size (.tup [.int i,x])) {s with heap:=h2,toks:=tk+1}:=by
   refine c7.turnedL (s:={s with heap:=s.heap.push {cls:= .type "tuple",data:= .seq #[.int i tk,u']},toks:=tk}) (h':=h2) (t':=tk+1) (fp:=[e,it]) I0 (fun b o hb q=> ?_) (fun b hb=> ?_) fun b hb=>⟨by rw[cH (Be (i7 b hb))];exact(hf b hb).1,(hf b hb).2⟩
   ·by_cases hbn:b=s.heap.objs.size
    ·subst hbn
     have q:(s.heap.push {cls:= .type "tuple",data:= .seq #[.int i tk,u']}).get? s.heap.objs.size=some o:=q
     rw[At _ rfl] at q
     cases q
     exact jy
    ·exact kk b o hb ((Mx _ _ _ hbn).symm.trans q)
   ·rcases Ao.mp hb with z|z
    ·rw[z];exact⟨_,he2⟩
    ·rw[Ax.mp z]
     obtain⟨o,q,_⟩:=st1.1.obj
     exact⟨o,(sb2.2 it (Ee hei)).trans q⟩
  refine⟨.ref s.heap.objs.size,bL H s.heap.objs.size (.tup [.int i,x]),?_,rfl,⟨_,x,fun ys hy=>by rw[I.sq_inj hy hq];exact hx,bn,rfl,rfl⟩,⟨⟨_,by simpa using he2⟩,st1.1.at fun o q=>(sb2.2 it (Ee hei)).trans q⟩,fun b hb=> ?_⟩
  ·exact I1
  ·rw[cH (Be (i7 b hb))]
   exact(hf b hb).1
 done:=by
  intro X hP hw hK hc i aa s σ H E I hf st hg
  subst hP hw hK
  obtain⟨⟨old,he⟩,hi⟩:=st
  obtain⟨xs,hq,hx⟩:=hg
  obtain⟨its,rv,src,hz⟩:=I.srcA hq
  have hh:X.A.in1.handled=none:=I.ok.hd hc
  have hn:its.toArray.size=i:=by rw[Ak,<- rv.length];exact hx
  refine wpAny_pyNext_enum_endD (AH hh tup it a hai its.toArray) he ⟨by rw[hn];exact hi,src⟩ fun h1 xb=>⟨rfl,?_⟩
  obtain⟨f0,f1,f2,f3,f4,f5⟩:=hf it (by simp)
  exact I.turned (t':=s.toks) (fun b o hb q=>xb b o hb q) f0 f1 f3 f4 f5
 self:=fun _ i _ _ _ st h=>My st.1.choose_spec h
theorem EL(a:Addr)(items:Array Value)(n:Nat)(dd:Option Addr)(sl:Array (Option Value)):
  Meets (Ed.«enumerate.__new__» ⟨[.type "enumerate",.ref a],[]⟩) (fun _ R s=>s.heap.get? a=some {cls:= .type "tuple",dict:=dd,data:= .seq items n,slots:=sl}∧
   R (.ok (.ret (.ref (s.heap.push {cls:= .type "tuple_iterator",data:= .fields #[.ref a,.int 0 0]}).objs.size)))
    {s with heap:=(s.heap.push {cls:= .type "tuple_iterator",data:= .fields #[.ref a,.int 0 0]}).push {cls:= .type "enumerate",data:= .fields #[.none,.bool false,.ref s.heap.objs.size,rawInt 0,.none,.none]}}):=by
 refine .of_wp fun prog w A R s h=> ?_
 obtain⟨hp,g,d,tk,os⟩:=s
 obtain⟨ha,h⟩:=h
 have hs:=sub_enumerate
 have hT:Heap.IsTuple (Pc ⟨hp,g,d,tk,os⟩) a items:=⟨_,ha,rfl,n,rfl⟩
 wp_walk using Cd ha
 refine wpAny_stack_any fun st=>Af ?_
 split
 ·rename_i c _ _ _ _ _
  cases (c==Jg "enumerate")<;>(wp_walk using Cd ha,Gm hT;exact⟨_,rfl,h⟩)
 ·wp_walk using Cd ha,Gm hT
  exact⟨_,rfl,h⟩
theorem HP{prog:Au}{w:World}{A:Bx}{E:Value->Ad->Prop}{s:Ad}{a:Addr}{items:Array Value}{tup:Bool}{Q:Value->Ad->Prop}(hs:SI tup s.heap a items)
  (h: ∀h',IsEnum h' (s.heap.objs.size+1) s.heap.objs.size 0 .none->WB tup h' s.heap.objs.size a 0->(∀b o,s.heap.get? b=some o->h'.get? b=some o)->Q (.ref (s.heap.objs.size+1)) {s with heap:=h'}):
  wpAny (model prog w) A (call (.type "enumerate") [.ref a]) Q E s:=by
 cases tup with
 |false=>exact call_enumerate_list hs fun h' a1 a2 _ a4=>h h' a1 a2 a4
 |true=>
  obtain⟨⟨cc,dd,dt,sl⟩,g1,hc,n,hd⟩:=hs
  replace hc:cc= .type "tuple":=hc
  replace hd:dt= .seq items n:=hd
  subst hc hd
  have hz:(s.heap.push {cls:= .type "tuple_iterator",data:= .fields #[.ref a,.int 0 0]}).objs.size=s.heap.objs.size+1:=Ch ..
  refine callType_new F.called_enumerate (by decide) (F.typeCall_enumerate_1 _) (F.newCall_enumerate_1 _) (fun obj=>F.args_object_init_2 obj _) F.entry_enumerate_new (EL a items n dd sl) ⟨g1,?_⟩
  show _/\_
  rw[hz]
  have he:=At (s.heap.push {cls:= .type "tuple_iterator",data:= .fields #[.ref a,.int 0 0]}) (o:={cls:= .type "enumerate",data:= .fields #[.none,.bool false,.ref s.heap.objs.size,rawInt 0,.none,.none]}) rfl
  rw[hz] at he
  exact⟨⟨_,he,rfl⟩,h _ he ⟨_,Ae _ (At _ rfl),rfl,rfl⟩ fun b o x=>Ae _ (Ae _ x)⟩
theorem LO:Bl "enumerate"=some (.type "enumerate"):=by decide+kernel
theorem zFN:Bl "zip"=some (.type "zip"):=by decide+kernel
section
variable{X:Cx}{K:Ai}{ml:List Nat}{l:Expr}{pu:Bool}{f:VF}{p pos eo:Pos}{es:List Expr}{tk:Nat}{δ:Ev}
def iEnu(K:Ai)(tl:TE):TI:=fun σ H R=>tl σ H fun x H1=> ∃a tup,x= .ref a/\(∃xs,M5 K tup H1 a xs)/\R (Ite K tup a) H1
theorem zAS{tl:TE}(hg:Gl X "enumerate") (hm:X.mg "enumerate"=none) (hl:PE X l tl) (he:starEach (l::[]) X.env=(false,eval l X.env)::starEach [] X.env:=by rfl):
  PI X (.Tuple es tk eo) (.Call (.Name "enumerate" p) [l] [] pos) (iEnu X.K tl):=by
 intro aa s σ H R I h
 refine Co (UK I hg hm LO ?_ (by decide) (by decide))
 refine Eh (aJ (bR hl ZN he pos aa s σ H (fun vs H1=>match vs with
  | [x] => ∃ a tup,x = .ref a /\ (∃ xs,M5 X.K tup H1 a xs) /\ R (Ite X.K tup a) H1
  | _ => False) I h) fun us s1 ⟨vs,H1,I1,r1,q1⟩ => ?_) he (by rfl)
 match vs,r1,q1 with
 |[x],r1,q1=>
  obtain⟨a,tup,rfl,⟨xs,hq⟩,hR⟩:=q1
  obtain⟨u,rfl,ru⟩:=QC r1
  cases ru
  obtain⟨its,rv,src,_⟩:=I1.srcA hq
  refine HP src fun h' he' hi' kp=> ?_
  have I2:c7 X aa σ H1 {s1 with heap:=h'}:=I1.kept (t':=s1.toks) kp
  have hn: ∀b,s1.heap.objs.size<=b->H1 b=none:=fun b hb=>I1.hok.fresh hb
  refine My he' ⟨s1.heap.objs.size+1,[s1.heap.objs.size+1,s1.heap.objs.size],_,Ite X.K tup a,H1,rfl,I2,FR tup a (s1.heap.objs.size+1) s1.heap.objs.size (Nat.succ_ne_self _) (fun z=> ?_) (fun z=> ?_),⟨⟨_,he'⟩,hi'⟩,fun b hb=> ?_,hR⟩
  ·have:=src.lt
   rw[z] at this
   exact absurd this (Nat.not_lt_of_le (Gf _))
  ·have:=src.lt
   rw[z] at this
   exact absurd this (Bw _)
  ·have hb':s1.heap.objs.size<=b:=by
    rcases Ao.mp hb with z|z
    ·rw[z];exact Gf _
    ·rw[Ax.mp z];exact As _
   exact I1.fpOk hb' (hn b hb')
theorem zF2(h:X.K=K){tl:TE}(hg:Gl X "enumerate") (hm:X.mg "enumerate"=none) (hl:PE X l tl) (he:starEach (l::[]) X.env=(false,eval l X.env)::starEach [] X.env:=by rfl):
  PI X (.Tuple es tk eo) (.Call (.Name "enumerate" p) [l] [] pos) (iEnu K tl):=by subst h;exact zAS hg hm hl he
noncomputable def W9:Nat->List dM->List dM
 |_,[]=>[]
 |i,d::ds=> .tup [.int i,d]::W9 (i+1) ds
noncomputable def SU(f:VF):VI:=fun δ=>(f δ).bind fun p=>(ZA p.1).map fun ds=>(W9 0 ds,p.2)
theorem JW: ∀{ds:List dM} {n i:Nat} {d:dM},(W9 n ds)[i]? =some d-> ∃x,ds[i]? =some x/\d= .tup [.int (n+i:Nat),x]
 |[],_,_,_,h=>by simp[W9] at h
 |x::ds,n,0,d,h=>by simp[W9] at h;exact⟨x,rfl,h.symm⟩
 |x::ds,n,i+1,d,h=>by
  have h:(W9 (n+1) ds)[i]? =some d:=by simpa[W9] using h
  obtain⟨y,h1,h2⟩:=JW h
  exact⟨y,by simpa using h1,by rw[h2,show n+1+i=n+(i+1) by omega]⟩
theorem JX: ∀(ds:List dM) (n:Nat),(W9 n ds).length=ds.length
 |[],_=>rfl
 |_::ds,n=>congrArg (· +1) (JX ds (n+1))
theorem OD{a:Addr}{tup:Bool}{ds:List dM}:Walk K (Ite K tup a) [(.ref a,if tup=true then .tup ds else .lst ds)] (W9 0 ds):=by
 intro N H h
 have r:=h _ (Ax.mpr rfl)
 have fin: ∀xs,M5 K tup H a xs->cU K N H xs ds->(∀(i:Nat) (d:dM),(W9 0 ds)[i]? =some d->(Ite K tup a).go i H/\ ∀x H',(Ite K tup a).yld i H x H'->bC H H'/\b6 K N H' N x d)/\(Ite K tup a).stop (W9 0 ds).length H:=fun xs sq r=>by
  refine⟨fun i d e=> ?_,xs,sq,by rw[r.length,JX]⟩
  obtain⟨z,e1,rfl⟩:=JW e
  obtain⟨x,e2,r1⟩:=r.get e1
  refine⟨⟨xs,x,sq,e2⟩,fun y H' hy=> ?_⟩
  obtain⟨p,x',e3,hp,rfl,rfl⟩:=hy
  have:=e3 xs sq
  rw[e2] at this
  cases this
  refine⟨dD hp,.tup (W4.of cQ) (.cons ?_ (.cons (r1.same (dD hp)) .nil))⟩
  rw[Gg]
  exact .int _
 cases tup with
 |true=>
  have r:b6 K N H N (.ref a) (.tup ds):=r
  cases r with
  |tup sq r=>exact fin _ sq r
 |false=>
  have r:b6 K N H N (.ref a) (.lst ds):=r
  cases r with
  |lst q n r=>exact fin _ (YO.of q) r
  |fzl q r=>exact fin _ q.sq r
theorem VH(hK:X.K=K)(hg:Gl X "enumerate") (hm:X.mg "enumerate"=none) (h:PE X l (TV K ml pu true true f)) (he:starEach (l::[]) X.env=(false,eval l X.env)::starEach [] X.env:=by rfl):
  PI X (.Tuple es tk eo) (.Call (.Name "enumerate" p) [l] [] pos) (F3 K ml pu (SU f)):=(zF2 (K:=K) hK hg hm h he).imp fun σ H R ⟨B,O,δ,ds,δ',S,q,k⟩=>by
 unfold SU at q
 cases h1:f δ with
 | none => rw [h1] at q;cases q
 |some p=>
  obtain⟨x,δ1⟩:=p
  rw[h1] at q
  refine⟨B,O,δ,x,δ1,S,h1,fun v H1 R1=> ?_⟩
  cases x with
  |lst ds'=>
   cases q
   obtain⟨a,xs,rfl,sq,r⟩:=R1.rep.lstE
   exact⟨a,false,rfl,⟨xs,sq⟩,k _ [(.ref a,.lst ds')] H1 (R1.sta.keepV fun p hp=>by rw[Ax.mp hp];exact R1.rep) R1.frm R1.pur (OD (tup:=false))⟩
  |tup ds'=>
   cases q
   obtain⟨a,xs,rfl,sq,r⟩:=R1.rep.tupE
   exact⟨a,true,rfl,⟨xs,sq⟩,k _ [(.ref a,.tup ds')] H1 (R1.sta.keepV fun p hp=>by rw[Ax.mp hp];exact R1.rep) R1.frm R1.pur (OD (tup:=true))⟩
  |_=>cases q
end
section
variable{prog:Au}{w:World}{A:Bx}{E:Value->Ad->Prop}{s:Ad}
theorem WB.ext{tup:Bool}{h h':Heap}{it a b:Addr}{i:Nat}(x:WB tup h it a i)(hs:Ic b h h')(hne:it≠b):WB tup h' it a i:=x.at fun o e=>hs _ _ hne e
theorem SI.ext{tup:Bool}{h h':Heap}{a b:Addr}{xs:Array Value}(x:SI tup h a xs)(hs:Ic b h h')(hne:a≠b):SI tup h' a xs:=by
 cases tup with
 |true=>obtain⟨o,e,r⟩:=x;exact⟨o,hs _ _ hne e,r⟩
 |false=>obtain⟨o,e,r⟩:=x;exact⟨o,hs _ _ hne e,r⟩
theorem UM{tup:Bool}{it a:Addr}{i:Nat}{xs:Array Value}{x:Value}{Q:Value->Ad->Prop}(hi:WB tup s.heap it a i)(hs:SI tup s.heap a xs)(hx:xs[i]? =some x)
  (hQ: ∀h',WB tup h' it a (i+1)->Ef it s.heap h'->Q x {s with heap:=h'}):wpAny (model prog w) A (Bq (.ref it)) Q E s:=by
 cases tup with
 |true=>exact UY hi hs hx hQ
 |false=>exact wpAny_nextOf_list_item hi hs hx hQ
theorem NV{tup:Bool}{it a:Addr}{i:Nat}{xs:Array Value}{Q:Value->Ad->Prop}(hh:A.handled=none)(hi:WB tup s.heap it a i)(hs:SI tup s.heap a xs)(hx:xs[i]? =none)
  (hE: ∀h' e,Ic it s.heap h'->(∃o,h'.get? e=some o/\o.cls= .type "StopIteration")->E (.ref e) {s with heap:=h'}):wpAny (model prog w) A (Bq (.ref it)) Q E s:=by
 cases tup with
 |true=>exact S9 hh hi hs hx hE
 |false=>exact wpAny_nextOf_list_end hh hi hs hx hE
structure ZSt(t1 t2:Bool)(h:Heap)(z p q i1 i2 a b:Addr)(k:Nat)(f0:Value):Prop where
 zip:IsZip h z p q f0
 its:IsPair h p (.ref i1) (.ref i2)
 res: ∃u v,IsPair h q u v
 one:WB t1 h i1 a k
 two:WB t2 h i2 b k
theorem FX{t1 t2:Bool}{z p q i1 i2 a b:Addr}{k:Nat}{xs ys:Array Value}{x y:Value}{Q:Value->Ad->Prop}(D:Lf z p q i1 i2 a b)(S:ZSt t1 t2 s.heap z p q i1 i2 a b k .none)
  (s1:SI t1 s.heap a xs) (s2:SI t2 s.heap b ys) (hx:xs[k]? =some x) (hy:ys[k]? =some y)
  (hQ: ∀h',ZSt t1 t2 h' z p q i1 i2 a b (k+1) (rawInt s.heap.objs.size)->IsPair h' s.heap.objs.size x y->h'.objs.size=s.heap.objs.size+1→
   (∀c o,c≠z->c≠q->c≠i1->c≠i2->s.heap.get? c=some o->h'.get? c=some o)->Q (.ref s.heap.objs.size) {s with heap:=h'}):
  wpAny (model prog w) A (Ed.«zip.__next__» ⟨[.ref z],[]⟩) (fun fin s'=> ∃v,fin= .done (.ret v)/\Q v s') E s:=by
 obtain⟨gz,gi,⟨u,v,gr⟩,g1,g2⟩:=S
 show wpAny _ _ (field (Bj z) 2>>=_) _ _ _
 refine Aa (Dr gz rfl (x:= .bool false) rfl ?_)
 show wpAny _ _ (field (Bj z) 3>>=_) _ _ _
 refine Aa (Dr gz rfl (x:= .ref p) rfl (Aa (Df gi rfl ?_)))
 show wpAny _ _ (Di (Bj z)>>=_) _ _ _
 refine Aa ?_
 (unfold Di)
 refine Aa (Dr gz rfl (x:= .none) rfl (Af ?_))
 simp only[if_true]
 refine Aa (Hw (Aa (Dr gz rfl (x:= .ref q) rfl (Aa (Es gz (by simp) fun ha za ba=>Aa ?_)))))
 have za:IsZip ha z p q .ellipsis:=za
 simp only[Pd,Nt,Ll,Ib]
 refine Aa (Aa (Jw ?_))
 show wpAny _ _ (Bq (Bj i1)>>=_) _ _ _
 refine Aa (UM (g1.ext ba.extBut D.i1z) (s1.ext ba.extBut D.l1z) hx fun hb n1 bb=>Af ?_)
 have rb:IsPair hb q u v:=bb.extBut _ _ D.TOi1 (ba.extBut _ _ D.TOz gr)
 refine Aa (Df rb rfl (Aa (Hn rb fun hc rc bc=>Aa (Hf (Af ?_)))))
 have rc:IsPair hc q x v:=rc
 refine Aa (Aa (Jw ?_))
 show wpAny _ _ (Bq (Bj i2)>>=_) _ _ _
 refine Aa (UM (((g2.ext ba.extBut D.i2z).ext bb.extBut D.i12.symm).ext bc.extBut D.TOi2.symm) (((s2.ext ba.extBut D.l2z).ext bb.extBut D.l2i1).ext bc.extBut D.l2TO) hy fun hd n2 bd=>Af ?_)
 have rd:IsPair hd q x v:=bd.extBut _ _ D.TOi2 rc
 refine Aa (Df rd rfl (Aa (Hn rd fun he re be=>Aa (Hf (Af (Af ?_))))))
 have re:IsPair he q x y:=re
 refine Aa (Df re rfl (Aa (wpAny_newTuple ?_)))
 have size:he.objs.size=s.heap.objs.size:=by rw[be.1,bd.1,bc.1,bb.1,ba.1]
 have ze:IsZip he z p q .ellipsis:=be.extBut _ _ D.TOz.symm (bd.extBut _ _ D.i2z.symm (bc.extBut _ _ D.TOz.symm (bb.extBut _ _ D.i1z.symm za)))
 have ke: ∀c o,c≠z->c≠q->c≠i1->c≠i2->s.heap.get? c=some o->he.get? c=some o:=fun c o c1 c2 c3 c4 g=>be.extBut _ _ c2 (bd.extBut _ _ c4 (bc.extBut _ _ c2 (bb.extBut _ _ c3 (ba.extBut _ _ c1 g))))
 have e1:WB t1 he i1 a (k+1):=((n1.ext bc.extBut D.TOi1.symm).ext bd.extBut D.i12).ext be.extBut D.TOi1.symm
 have e2:WB t2 he i2 b (k+1):=n2.ext be.extBut D.TOi2.symm
 have ie:IsPair he p (.ref i1) (.ref i2):=ke _ _ D.TIz D.TITO D.TIi1 D.TIi2 gi
 have zlt:z<he.objs.size:=Aj ze
 show wpAny _ _ (Gc (Bj z) (.ref he.objs.size)>>=_) _ _ _
 refine Aa ?_
 (unfold Gc)
 have zf:IsZip (he.push {cls:= .type "tuple",data:= .seq #[x,y]}) z p q .ellipsis:=Ae _ ze
 refine Aa (Es zf (by simp) fun hg zg bg=> ?_)
 have zg:IsZip hg z p q (rawInt he.objs.size):=zg
 refine Es zg (by simp) fun hk zk bk=> ?_
 have zk:IsZip hk z p q (rawInt he.objs.size):=zk
 have up: ∀c o,c≠z->he.get? c=some o->hk.get? c=some o:=fun c o c1 g=>bk.extBut _ _ c1 (bg.extBut _ _ c1 (Ae _ g))
 have tk:IsPair hk he.objs.size x y:=bk.extBut _ _ (Fn zlt) (bg.extBut _ _ (Fn zlt) (At _ rfl))
 have szk:hk.objs.size=he.objs.size+1:=by rw[bk.1,bg.1,Ch]
 rw[size] at zk tk szk
 refine Af ⟨_,rfl,?_⟩
 show Q (.ref he.objs.size) _
 rw[size]
 exact hQ hk ⟨zk,up _ _ D.TIz ie,⟨x,y,up _ _ D.TOz re⟩,e1.at fun o g=>up _ o D.i1z g,e2.at fun o g=>up _ o D.i2z g⟩ tk szk fun c o c1 c2 c3 c4 g=>up c o c1 (ke c o c1 c2 c3 c4 g)
theorem DL{t1 t2:Bool}{z p q i1 i2 a b:Addr}{k:Nat}{xs ys:Array Value}{Q:Fin->Ad->Prop}(hh:A.handled=none)(D:Lf z p q i1 i2 a b)(S:ZSt t1 t2 s.heap z p q i1 i2 a b k .none)
  (s1:SI t1 s.heap a xs) (s2:SI t2 s.heap b ys) (iq:xs[k]? =none∨ys[k]? =none)
  (hE: ∀h' e,(∀c o,c≠z->c≠q->c≠i1->c≠i2->s.heap.get? c=some o->h'.get? c=some o)->(∃o,h'.get? e=some o/\o.cls= .type "StopIteration")->E (.ref e) {s with heap:=h'}):
  wpAny (model prog w) A (Ed.«zip.__next__» ⟨[.ref z],[]⟩) Q E s:=by
 obtain⟨gz,gi,⟨u,v,gr⟩,g1,g2⟩:=S
 show wpAny _ _ (field (Bj z) 2>>=_) _ _ _
 refine Aa (Dr gz rfl (x:= .bool false) rfl ?_)
 show wpAny _ _ (field (Bj z) 3>>=_) _ _ _
 refine Aa (Dr gz rfl (x:= .ref p) rfl (Aa (Df gi rfl ?_)))
 show wpAny _ _ (Di (Bj z)>>=_) _ _ _
 refine Aa ?_
 (unfold Di)
 refine Aa (Dr gz rfl (x:= .none) rfl (Af ?_))
 simp only[if_true]
 refine Aa (Hw (Aa (Dr gz rfl (x:= .ref q) rfl (Aa (Es gz (by simp) fun ha za ba=>Aa ?_)))))
 have za:IsZip ha z p q .ellipsis:=za
 simp only[Pd,Nt,Ll,Ib]
 refine Aa (Aa (Jw ?_))
 show wpAny _ _ (Bq (Bj i1)>>=_) _ _ _
 cases hx:xs[k]? with
 |none=>
  refine Aa (NV hh (g1.ext ba.extBut D.i1z) (s1.ext ba.extBut D.l1z) hx fun hb e bb ⟨oe,ge,ce⟩=> ?_)
  have zb:IsZip hb z p q .ellipsis:=bb _ _ D.i1z.symm za
  have ne:e≠z:=fun w=>by subst w;rw[zb] at ge;cases ge;simp at ce
  exact Es zb (by simp) fun hc _ bc=>hE hc e (fun c o c1 _ c3 _ g=>bc.extBut _ _ c1 (bb _ _ c3 (ba.extBut _ _ c1 g))) ⟨oe,bc.extBut _ _ ne ge,ce⟩
 |some x=>
  have hy:ys[k]? =none:=iq.resolve_left fun w=>by rw[hx] at w;cases w
  refine Aa (UM (g1.ext ba.extBut D.i1z) (s1.ext ba.extBut D.l1z) hx fun hb n1 bb=>Af ?_)
  have rb:IsPair hb q u v:=bb.extBut _ _ D.TOi1 (ba.extBut _ _ D.TOz gr)
  refine Aa (Df rb rfl (Aa (Hn rb fun hc rc bc=>Aa (Hf (Af (Aa (Aa (Jw ?_))))))))
  show wpAny _ _ (Bq (Bj i2)>>=_) _ _ _
  refine Aa (NV hh (((g2.ext ba.extBut D.i2z).ext bb.extBut D.i12.symm).ext bc.extBut D.TOi2.symm) (((s2.ext ba.extBut D.l2z).ext bb.extBut D.l2i1).ext bc.extBut D.l2TO) hy fun hd e bd ⟨oe,ge,ce⟩=> ?_)
  have zd:IsZip hd z p q .ellipsis:=bd _ _ D.i2z.symm (bc.extBut _ _ D.TOz.symm (bb.extBut _ _ D.i1z.symm za))
  have ne:e≠z:=fun w=>by subst w;rw[zd] at ge;cases ge;simp at ce
  exact Es zd (by simp) fun hf _ bf=>hE hf e (fun c o c1 c2 c3 c4 g=>bf.extBut _ _ c1 (bd _ _ c4 (bc.extBut _ _ c2 (bb.extBut _ _ c3 (ba.extBut _ _ c1 g))))) ⟨oe,bf.extBut _ _ ne ge,ce⟩
theorem IC{t1 t2:Bool}{z p q i1 i2 a b:Addr}{k:Nat}{xs ys:Array Value}{x y:Value}{Q:Option Value->Ad->Prop}(D:Lf z p q i1 i2 a b)(S:ZSt t1 t2 s.heap z p q i1 i2 a b k .none)
  (s1:SI t1 s.heap a xs) (s2:SI t2 s.heap b ys) (hx:xs[k]? =some x) (hy:ys[k]? =some y)
  (hQ: ∀h',ZSt t1 t2 h' z p q i1 i2 a b (k+1) (rawInt s.heap.objs.size)->IsPair h' s.heap.objs.size x y->h'.objs.size=s.heap.objs.size+1→
   (∀c o,c≠z->c≠q->c≠i1->c≠i2->s.heap.get? c=some o->h'.get? c=some o)->Q (some (.ref s.heap.objs.size)) {s with heap:=h'}):wpAny (model prog w) A (pyNext (.ref z)) Q E s:=by
 have ty:s.TypeIs (.ref z) "zip":=⟨_,S.zip,rfl⟩
 (unfold pyNext)
 exact Aa (Mg (Cy (name:=Az "__next__") ty Ih (Eb Ih ty Nu (FX D S s1 s2 hx hy fun h' a1 a2 a3 a4=>Af (hQ h' a1 a2 a3 a4)) (Mz _))))
theorem E7{t1 t2:Bool}{z p q i1 i2 a b:Addr}{k:Nat}{xs ys:Array Value}{Q:Option Value->Ad->Prop}(hh:A.handled=none)(D:Lf z p q i1 i2 a b)(S:ZSt t1 t2 s.heap z p q i1 i2 a b k .none)
  (s1:SI t1 s.heap a xs) (s2:SI t2 s.heap b ys) (iq:xs[k]? =none∨ys[k]? =none)
  (hQ: ∀h',(∀c o,c≠z->c≠q->c≠i1->c≠i2->s.heap.get? c=some o->h'.get? c=some o)->Q none {s with heap:=h'}):wpAny (model prog w) A (pyNext (.ref z)) Q E s:=by
 have ty:s.TypeIs (.ref z) "zip":=⟨_,S.zip,rfl⟩
 (unfold pyNext)
 refine Aa (Mg (Cy (name:=Az "__next__") ty Ih (Eb Ih ty Nu (DL hh D S s1 s2 iq fun h' e kk ⟨o,ge,ce⟩=> ?_) (Mz _))))
 exact Aa (wpAny_isInstance (T:= "StopIteration") (b:=true) ⟨o,ge,ce⟩ isSubtype_stop (Af (hQ _ kk)))
end
noncomputable def zHM(tup:Bool):String:=if tup=true then "tuple_iterator" else "list_iterator"
noncomputable abbrev zO(tup:Bool)(a:Addr):Obj:={cls:= .type (zHM tup),data:= .fields #[.ref a,.int 0 0]}
theorem zCG{prog:Au}{w:World}{A:Bx}{E:Value->Ad->Prop}{s:Ad}{tup:Bool}{a:Addr}{xs:Array Value}{Q:Value->Ad->Prop}(h:SI tup s.heap a xs)(hQ:Q (.ref s.heap.objs.size) {s with heap:=s.heap.push (zO tup a)}):
  wpAny (model prog w) A (Ot (.ref a)) Q E s:=by
 cases tup with
 |true=>exact Gm h hQ
 |false=>exact Hc h hQ
theorem SI.push{tup:Bool}{h:Heap}{a:Addr}{xs:Array Value}(x:SI tup h a xs)(o:Obj):SI tup (h.push o) a xs:=by
 cases tup with
 |true=>obtain⟨o,e,r⟩:=x;exact⟨o,Ae _ e,r⟩
 |false=>obtain⟨o,e,r⟩:=x;exact⟨o,Ae _ e,r⟩
theorem DM(t1 t2:Bool)(a b:Addr)(xs ys:Array Value):
  Meets (Ed.«zip.__new__» ⟨[.type "zip",.ref a,.ref b],[]⟩) (fun _ R s=>SI t1 s.heap a xs/\SI t2 s.heap b ys/\ ∀h1 h2 h3 h4 h5,h1=s.heap.push (zO t1 a)->h2=h1.push (zO t2 b)->h3=h2.push {cls:= .type "tuple",data:= .seq #[.ref s.heap.objs.size,.ref h1.objs.size]}→
   h4=h3.push {cls:= .type "tuple",data:= .seq #[.none,.none]}->h5=h4.push {cls:= .type "zip",data:= .fields #[.none,.bool false,.bool false,.ref h2.objs.size,.ref h3.objs.size]}->R (.ok (.ret (.ref h4.objs.size))) {s with heap:=h5}):=by
 refine .of_wp fun prog w A R s h=> ?_
 obtain⟨hp,g,d,tk,os⟩:=s
 obtain⟨g1,g2,h⟩:=h
 have hs:=sub_zip
 have k1:SI t1 (Pc ⟨hp,g,d,tk,os⟩) a xs:=g1
 have k2:SI t2 (Pc ⟨hp.push (zO t1 a),g,d,tk,os⟩) b ys:=SI.push g2 _
 wp_walk using zCG k1,zCG k2
 exact⟨_,rfl,h _ _ _ _ _ rfl rfl rfl rfl rfl⟩
theorem ED{prog:Au}{w:World}{A:Bx}{E:Value->Ad->Prop}{s:Ad}{t1 t2:Bool}{a b:Addr}{xs ys:Array Value}{Q:Value->Ad->Prop}(g1:SI t1 s.heap a xs)(g2:SI t2 s.heap b ys)
  (h: ∀h',ZSt t1 t2 h' (s.heap.objs.size+4) (s.heap.objs.size+2) (s.heap.objs.size+3) s.heap.objs.size (s.heap.objs.size+1) a b 0 .none->(∀c o,s.heap.get? c=some o->h'.get? c=some o)->Q (.ref (s.heap.objs.size+4)) {s with heap:=h'}):
  wpAny (model prog w) A (call (.type "zip") [.ref a,.ref b]) Q E s:=by
 refine callType_new F.called_zip (by decide) (F.typeCall_zip_2 _ _) (F.newCall_zip_2 _ _) (fun obj=>F.args_object_init_3 obj _ _) F.entry_zip_new (DM t1 t2 a b xs ys) ⟨g1,g2,?_⟩
 rintro h1 h2 h3 h4 h5 e1 e2 e3 e4 e5
 have z1:h1.objs.size=s.heap.objs.size+1:=by rw[e1,Ch]
 have z2:h2.objs.size=s.heap.objs.size+2:=by rw[e2,Ch,z1]
 have z3:h3.objs.size=s.heap.objs.size+3:=by rw[e3,Ch,z2]
 have z4:h4.objs.size=s.heap.objs.size+4:=by rw[e4,Ch,z3]
 have u4: ∀c o,h4.get? c=some o->h5.get? c=some o:=fun c o q=>by rw[e5];exact Ae _ q
 have u3: ∀c o,h3.get? c=some o->h5.get? c=some o:=fun c o q=>u4 c o (by rw[e4];exact Ae _ q)
 have u2: ∀c o,h2.get? c=some o->h5.get? c=some o:=fun c o q=>u3 c o (by rw[e3];exact Ae _ q)
 have u1: ∀c o,h1.get? c=some o->h5.get? c=some o:=fun c o q=>u2 c o (by rw[e2];exact Ae _ q)
 have u0: ∀c o,s.heap.get? c=some o->h5.get? c=some o:=fun c o q=>u1 c o (by rw[e1];exact Ae _ q)
 have o5:h5.get? h4.objs.size=some {cls:= .type "zip",data:= .fields #[.none,.bool false,.bool false,.ref h2.objs.size,.ref h3.objs.size]}:=by rw[e5];exact At _ rfl
 have o4:h5.get? h3.objs.size=some {cls:= .type "tuple",data:= .seq #[.none,.none]}:=u4 _ _ (by rw[e4];exact At _ rfl)
 have o3:h5.get? h2.objs.size=some {cls:= .type "tuple",data:= .seq #[.ref s.heap.objs.size,.ref h1.objs.size]}:=u3 _ _ (by rw[e3];exact At _ rfl)
 have o2:h5.get? h1.objs.size=some (zO t2 b):=u2 _ _ (by rw[e2];exact At _ rfl)
 have o1:h5.get? s.heap.objs.size=some (zO t1 a):=u1 _ _ (by rw[e1];exact At _ rfl)
 show _/\_
 rw[z2,z3,z4] at o5
 rw[z3] at o4
 rw[z1,z2] at o3
 rw[z1] at o2
 rw[z4]
 refine⟨⟨_,o5,rfl⟩,h _ ⟨o5,o3,⟨_,_,o4⟩,?_,?_⟩ u0⟩
 ·cases t1 with
  |true=>exact⟨_,o1,rfl,rfl⟩
  |false=>exact⟨_,o1,rfl,rfl⟩
 ·cases t2 with
  |true=>exact⟨_,o2,rfl,rfl⟩
  |false=>exact⟨_,o2,rfl,rfl⟩
theorem zCO(n a b:Nat)(ha:a<n)(hb:b<n):Lf (n+4) (n+2) (n+3) n (n+1) a b:=by
 have f: ∀x y:Nat,x<y∨y<x->x≠y:=fun x y h=>by omega
 exact⟨f _ _ (by omega),f _ _ (by omega),f _ _ (by omega),f _ _ (by omega),f _ _ (by omega),f _ _ (by omega),f _ _ (by omega),f _ _ (by omega),f _ _ (by omega),f _ _ (by omega),f _ _ (by omega),f _ _ (by omega),f _ _ (by omega),f _ _ (by omega),f _ _ (by omega),f _ _ (by omega),f _ _ (by omega),f _ _ (by omega)⟩
noncomputable def Itz(K:Ai)(t1 t2:Bool)(a b:Addr):It:=
  ⟨fun i H => ∃ xs ys x y,M5 K t1 H a xs /\ M5 K t2 H b ys /\ xs[i]? = some x /\ ys[i]? = some y,
   fun i H v H'=> ∃p x y,(∀xs,M5 K t1 H a xs->xs[i]? =some x)/\(∀ys,M5 K t2 H b ys->ys[i]? =some y)/\H p=none/\H'=bL H p (.tup [x,y])/\v= .ref p,
   fun i H=> ∃xs ys,M5 K t1 H a xs/\M5 K t2 H b ys/\(xs.length<=i∨ys.length<=i)⟩
theorem CZ{P:Au}{w:World}{K:Ai}{es:List Expr}{k:Nat}{pos:Pos}(t1 t2:Bool)(z p q i1 i2 a b:Addr)(D:Lf z p q i1 i2 a b):
  JJ P w K (.Tuple es k pos) (Itz K t1 t2 a b) [z,p,q,i1,i2] z (fun i h => ZSt t1 t2 h z p q i1 i2 a b i .none) where
 mem := by simp
 obj := fun i h st c hc => by
  simp only[Ao,Bk,or_false] at hc
  rcases hc with rfl|rfl|rfl|rfl|rfl
  ·exact ⟨_,st.zip,fun v e => by cases e⟩
  ·exact ⟨_,st.its,fun v e => by cases e⟩
  ·obtain⟨u,v,g⟩:=st.res
   exact⟨_,g,fun v e=>by cases e⟩
  ·exact st.one.obj
  ·exact st.two.obj
 keep:=fun i h h' st kk=>by
  obtain⟨u,v,g⟩:=st.res
  exact⟨kk z (by simp) _ st.zip,kk p (by simp) _ st.its,⟨u,v,kk q (by simp) _ g⟩,st.one.at fun o e=>kk i1 (by simp) o e,st.two.at fun o e=>kk i2 (by simp) o e⟩
 item:=by
  intro X hP hw hK hc i aa s σ H E I hf st hg
  subst hP hw hK
  obtain⟨xs,ys,x,y,hq1,hq2,hx,hy⟩:=hg
  obtain⟨us,r1,g1,_⟩:=I.srcA hq1
  obtain⟨vs,r2,g2,_⟩:=I.srcA hq2
  obtain⟨u,hu,ru⟩:=r1.get hx
  obtain⟨v,hv,rv⟩:=r2.get hy
  refine IC D st g1 g2 (by simpa using hu) (by simpa using hv) fun h1 st1 hp hsz hk=>⟨_,rfl,?_⟩
  refine wpAny_letOwnedTupleGo_zip (s:={s with heap:=h1}) st1.zip fun h2 z2 sb=> ?_
  have sb:Ef z h1 h2:=sb
  have lt: ∀c∈[z,p,q,i1,i2],c<s.heap.objs.size:=fun c hc=>by
   simp only[Ao,Bk,or_false] at hc
   rcases hc with rfl|rfl|rfl|rfl|rfl
   ·exact Aj st.zip
   ·exact Aj st.its
   ·obtain⟨u,v,g⟩:=st.res
    exact Aj g
   ·obtain⟨o,e,_⟩:=st.one.obj
    exact Aj e
   ·obtain⟨o,e,_⟩:=st.two.obj
    exact Aj e
  have up: ∀c o,c≠z->h1.get? c=some o->h2.get? c=some o:=fun c o hcz e=>(sb.2 c hcz).trans e
  have st2:ZSt t1 t2 h2 z p q i1 i2 a b (i+1) .none:=by
   obtain⟨u',v',g⟩:=st1.res
   exact⟨z2,up _ _ D.TIz st1.its,⟨u',v',up _ _ D.TOz g⟩,st1.one.at fun o e=>up _ o D.i1z e,st1.two.at fun o e=>up _ o D.i2z e⟩
  have jy:h2.get? s.heap.objs.size=some {cls:= .type "tuple",data:= .seq #[u,v]}:=up _ _ (Fn (lt z (by simp))) hp
  have bn:H s.heap.objs.size=none:=I.hok.fresh (As _)
  have I0:c7 X aa σ (bL H s.heap.objs.size (.tup [x,y])) {s with heap:=s.heap.push {cls:= .type "tuple",data:= .seq #[u,v]},toks:=s.toks}:=
   I.laid (fun c o e=>Ae _ e) (As _) ⟨by show 2<=sizeLine;decide,[u,v],.cons ru (.cons rv .nil),Kp _ _⟩
  have I1:c7 X aa σ (bL H s.heap.objs.size (.tup [x,y])) {s with heap:=h2,toks:=s.toks}:=by
   refine c7.turnedL (s:={s with heap:=s.heap.push {cls:= .type "tuple",data:= .seq #[u,v]},toks:=s.toks}) (h':=h2) (t':=s.toks) (fp:=[z,p,q,i1,i2]) I0 (fun c o hc e=> ?_) (fun c hc=> ?_) fun c hc=>⟨by rw[cH (Be (lt c hc))];exact(hf c hc).1,(hf c hc).2⟩
   ·by_cases hcn:c=s.heap.objs.size
    ·subst hcn
     have e:(s.heap.push {cls:= .type "tuple",data:= .seq #[u,v]}).get? s.heap.objs.size=some o:=e
     rw[At _ rfl] at e
     cases e
     exact jy
    ·have e':=(Mx _ _ _ hcn).symm.trans e
     exact up c o (fun w=>hc (by simp[w])) (hk c o (fun w=>hc (by simp[w])) (fun w=>hc (by simp[w])) (fun w=>hc (by simp[w])) (fun w=>hc (by simp[w])) e')
   ·simp only[Ao,Bk,or_false] at hc
    rcases hc with rfl|rfl|rfl|rfl|rfl
    ·exact⟨_,st2.zip⟩
    ·exact⟨_,st2.its⟩
    ·obtain⟨u,v,g⟩:=st2.res
     exact⟨_,g⟩
    ·obtain⟨o,e,_⟩:=st2.one.obj
     exact⟨o,e⟩
    ·obtain⟨o,e,_⟩:=st2.two.obj
     exact⟨o,e⟩
  exact⟨.ref s.heap.objs.size,_,I1,rfl,⟨_,x,y,fun zs hz=>by rw[I.sq_inj hz hq1];exact hx,fun zs hz=>by rw[I.sq_inj hz hq2];exact hy,bn,rfl,rfl⟩,st2,fun c hc=>by
   rw[cH (Be (lt c hc))]
   exact(hf c hc).1⟩
 done:=by
  intro X hP hw hK hc i aa s σ H E I hf st hg
  subst hP hw hK
  obtain⟨xs,ys,hq1,hq2,iq⟩:=hg
  obtain⟨us,r1,g1,_⟩:=I.srcA hq1
  obtain⟨vs,r2,g2,_⟩:=I.srcA hq2
  have l1:=r1.length
  have l2:=r2.length
  have he:us.toArray[i]? =none∨vs.toArray[i]? =none:=by
   rcases iq with z|z
   ·exact .inl (by simp;omega)
   ·exact .inr (by simp;omega)
  refine E7 (I.ok.hd hc) D st g1 g2 he fun h1 hk=>⟨rfl,?_⟩
  have fq: ∀c∈[z,q,i1,i2],c∈[z,p,q,i1,i2]:=fun c hc=>by
   simp only[Ao,Bk,or_false] at hc⊢
   rcases hc with w|w|w|w<;>simp[w]
  have I':=c7.turnedL' (s:=s) (h':=h1) (t':=s.toks) (fp:=[z,q,i1,i2]) I (fun c o hc e=>hk c o (fun w=>hc (by simp[w])) (fun w=>hc (by simp[w])) (fun w=>hc (by simp[w])) (fun w=>hc (by simp[w])) e) fun c hc=>hf c (fq c hc)
  exact I'
 self:=fun _ i _ _ _ st h=>wpAny_pyIter_zip st.zip h
section
variable{X:Cx}{K:Ai}{ml:List Nat}{l m:Expr}{pa ta ia pb tb ib:Bool}{f g:VF}{p pos eo:Pos}{es:List Expr}{tk:Nat}{δ:Ev}
def iZp(K:Ai)(tl tm:TE):TI:=fun σ H R=>tl σ H fun x H1=>tm σ H1 fun y H2=> ∃a b t1 t2,x= .ref a/\y= .ref b/\(∃xs,M5 K t1 H2 a xs)/\(∃ys,M5 K t2 H2 b ys)/\R (Itz K t1 t2 a b) H2
theorem zDX{tl tm:TE}(hg:Gl X "zip") (hm:X.mg "zip"=none) (hl:PE X l tl) (hr:PE X m tm) (he:starEach (l::[m]) X.env=(false,eval l X.env)::starEach [m] X.env:=by rfl) (he2:starEach (m::[]) X.env=(false,eval m X.env)::starEach [] X.env:=by rfl)
  (hpl : (Dq pos (starEach [m] X.env)).any (·.1) = false := by rfl) : PI X (.Tuple es tk eo) (.Call (.Name "zip" p) [l,m] [] pos) (iZp X.K tl tm) := by
 intro aa s σ H R I h
 refine Co (UK I hg hm zFN ?_ (by decide) (by decide))
 refine Eh (aJ (bR hl (bR hr ZN he2) he pos aa s σ H (fun vs H1=>match vs with
  |[x,y]=> ∃a b t1 t2,x= .ref a/\y= .ref b/\(∃xs,M5 X.K t1 H1 a xs)/\(∃ys,M5 X.K t2 H1 b ys)/\R (Itz X.K t1 t2 a b) H1
  |_=>False) I h) fun us s1 ⟨vs,H1,I1,r1,q1⟩=> ?_) he hpl
 match vs,r1,q1 with
 |[x,y],r1,q1=>
  obtain⟨a,b,t1,t2,rfl,rfl,⟨xs,hq1⟩,⟨ys,hq2⟩,hR⟩:=q1
  obtain⟨u,v,rfl,ru,rv⟩:=K5 r1
  cases ru
  cases rv
  obtain⟨us,w1,g1,_⟩:=I1.srcA hq1
  obtain⟨vs,w2,g2,_⟩:=I1.srcA hq2
  refine ED g1 g2 fun h' st kp=> ?_
  have I2:c7 X aa σ H1 {s1 with heap:=h'}:=I1.kept (t':=s1.toks) kp
  have ha:=g1.lt
  have hb:=g2.lt
  have D:Lf (s1.heap.objs.size+4) (s1.heap.objs.size+2) (s1.heap.objs.size+3) s1.heap.objs.size (s1.heap.objs.size+1) a b:=by exact zCO _ a b ha hb
  refine wpAny_pyIter_zip st.zip ⟨s1.heap.objs.size+4,[s1.heap.objs.size+4,s1.heap.objs.size+2,s1.heap.objs.size+3,s1.heap.objs.size,s1.heap.objs.size+1],_,Itz X.K t1 t2 a b,H1,rfl,I2,CZ t1 t2 _ _ _ _ _ a b D,st,fun c hc=> ?_,hR⟩
  have hc':s1.heap.objs.size<=c:=by
   simp only[Ao,Bk,or_false] at hc
   rcases hc with w|w|w|w|w<;>rw[w]<;>first|exact Nat.le_add_right _ _|exact As _
  exact I1.fpOk hc' (I1.hok.fresh hc')
theorem zHG(h:X.K=K){tl tm:TE}(hg:Gl X "zip") (hm:X.mg "zip"=none) (hl:PE X l tl) (hr:PE X m tm) (he:starEach (l::[m]) X.env=(false,eval l X.env)::starEach [m] X.env:=by rfl) (he2:starEach (m::[]) X.env=(false,eval m X.env)::starEach [] X.env:=by rfl)
  (hpl:(Dq pos (starEach [m] X.env)).any (·.1)=false:=by rfl):PI X (.Tuple es tk eo) (.Call (.Name "zip" p) [l,m] [] pos) (iZp K tl tm):=by subst h;exact zDX hg hm hl hr he he2 hpl
noncomputable def U4:List dM->List dM->List dM
 |d::ds,e::es=> .tup [d,e]::U4 ds es
 |_,_=>[]
noncomputable def AN(f g:VF):VI:=fun δ=>(f δ).bind fun p=>(g p.2).bind fun q=>(ZA p.1).bind fun ds=>(ZA q.1).map fun es=>(U4 ds es,q.2)
theorem LC: ∀{ds es:List dM} {i:Nat} {d:dM},(U4 ds es)[i]? =some d-> ∃x y,ds[i]? =some x/\es[i]? =some y/\d= .tup [x,y]
 |[],_,_,_,h=>by simp[U4] at h
 |_::_,[],_,_,h=>by simp[U4] at h
 |x::ds,y::es,0,d,h=>by simp[U4] at h;exact⟨x,y,rfl,rfl,h.symm⟩
 |x::ds,y::es,i+1,d,h=>by
  obtain⟨x',y',h1,h2,h3⟩:=LC (ds:=ds) (es:=es) (i:=i) (d:=d) (by simpa[U4] using h)
  exact⟨x',y',by simpa using h1,by simpa using h2,h3⟩
theorem LD: ∀{ds es:List dM},ds.length<=(U4 ds es).length∨es.length<=(U4 ds es).length
 |[],_=> .inl (Ek _)
 |_::_,[]=> .inr (Ek _)
 |x::ds,y::es=>by
  rcases LD (ds:=ds) (es:=es) with h|h
  ·exact .inl (Nv h)
  ·exact .inr (Nv h)
noncomputable def zHN:dM->Bool
 | .tup _=>true
 |_=>false
theorem b6.sqA{N M:Addr->Prop}{H:Hp}{v:V}{d:dM}{ds:List dM}(h:b6 K N H M v d)(e:ZA d=some ds): ∃a tup xs,v= .ref a/\M5 K tup H a xs/\cU K N H xs ds/\tup=zHN d:=by
  cases d<;>first
    | (cases e
       obtain⟨a,xs,h1,h2,h3⟩:=h.tupE
       exact⟨a,true,xs,h1,h2,h3,rfl⟩)
    | (cases e
       obtain⟨a,xs,h1,h2,h3⟩:=h.lstE
       exact⟨a,false,xs,h1,h2,h3,rfl⟩)
    |cases e
theorem C6(hK:X.K=K)(hg:Gl X "zip") (hm:X.mg "zip"=none) (h:PE X l (TV K ml pa true true f)) (h':PE X m (TV K ml pb true true g)) (he:starEach (l::[m]) X.env=(false,eval l X.env)::starEach [m] X.env:=by rfl) (he2:starEach (m::[]) X.env=(false,eval m X.env)::starEach [] X.env:=by rfl)
  (hpl : (Dq pos (starEach [m] X.env)).any (·.1) = false := by rfl) : PI X (.Tuple es tk eo) (.Call (.Name "zip" p) [l,m] [] pos) (F3 K ml (pa && pb) (AN f g)) := (zHG (K := K) hK hg hm h h' he he2 hpl).imp fun σ H R ⟨B,O,δ,ds,δ2,S,q,k⟩ => by
 unfold AN at q
 cases h1:f δ with
 | none => rw [h1] at q;cases q
 |some p1=>
  obtain⟨x,δ1⟩:=p1
  rw[h1] at q
  cases h2:g δ1 with
  | none => simp [h2] at q
  |some p2=>
   obtain⟨y,δ3⟩:=p2
   simp only[Ag,h2] at q
   cases h3:ZA x with
   | none => rw [h3] at q;cases q
   |some xs=>
    rw[h3] at q
    have q:(ZA y).map (fun es=>(U4 xs es,δ3))=some (ds,δ2):=q
    cases h4:ZA y with
    | none => rw [h4] at q;cases q
    |some ys=>
     rw[h4] at q
     cases q
     refine⟨B,O,δ,x,δ1,S,h1,fun v1 H1 R1=>⟨B,O,δ1,y,_,R1.sta,h2,fun v2 H2 R2=> ?_⟩⟩
     have r1:=R1.rep.fr R2.frm (fun a z=> .inr z) fun a z=> .inr z
     obtain⟨a,t1,us,e1,q1,w1,et1⟩:=r1.sqA h3
     obtain⟨b,t2,vs,e2,q2,w2,et2⟩:=R2.rep.sqA h4
     refine⟨a,b,t1,t2,e1,e2,⟨us,q1⟩,⟨vs,q2⟩,k _ [(v1,x),(v2,y)] H2 (R2.sta.keepV fun z hz=> ?_) (R1.frm.trans R2.frm) (fun z=> ?_) ?_⟩
     ·simp only[Ao,Bk,or_false] at hz
      rcases hz with rfl|rfl
      ·exact r1
      ·exact R2.rep
     ·obtain⟨z1,z2⟩:=(Ac _ _).mp z
      exact(R1.pur z1).trans (R2.pur z2)
     ·intro N H h
      obtain⟨a',t1',us',f1,f2,f3,f4⟩:=(h (v1,x) (by simp)).sqA h3
      obtain⟨b',t2',vs',g1,g2,g3,g4⟩:=(h (v2,y) (by simp)).sqA h4
      have f1:v1= .ref a':=f1
      have g1:v2= .ref b':=g1
      rw[e1] at f1
      rw[e2] at g1
      cases f1
      cases g1
      have:t1'=t1:=f4.trans et1.symm
      subst this
      have:t2'=t2:=g4.trans et2.symm
      subst this
      refine⟨fun i d e=> ?_,us',vs',f2,g2,?_⟩
      ·obtain⟨dx,dy,hx,hy,rfl⟩:=LC e
       obtain⟨ux,ex,rx⟩:=f3.get hx
       obtain⟨uy,ey,ry⟩:=g3.get hy
       refine⟨⟨us',vs',ux,uy,f2,g2,ex,ey⟩,fun z H' hz=> ?_⟩
       obtain⟨pp,x',y',c1,c2,hp,rfl,rfl⟩:=hz
       have d1:=c1 us' f2
       have d2:=c2 vs' g2
       rw[ex] at d1
       rw[ey] at d2
       cases d1
       cases d2
       exact⟨dD hp,.tup (W4.of cQ) (.cons (rx.same (dD hp)) (.cons (ry.same (dD hp)) .nil))⟩
      ·rcases LD (ds:=xs) (es:=ys) with w|w
       ·exact .inl (by rw[f3.length];exact w)
       ·exact .inr (by rw[g3.length];exact w)
end
end L2
namespace L2
open PySem PySem.Spec PyProof.Rows PySem.W
section
variable{prog:Au}{w:World}{A:Bx}{E:Value->Ad->Prop}{s:Ad}
theorem IT{t:Addr}{items:Array Value}{Q:List Value->Ad->Prop}(hh:A.handled=none)(ht:IsTup s.heap t items)(h1:1<=items.size)(hz:items.size<=16777216)
  (hQ: ∀(x:Value) (hb:Heap) (tk:Nat),items[0]? =some x->(∀b o,s.heap.get? b=some o->hb.get? b=some o)->Q [x,.ref hb.objs.size] {s with heap:=hb.push {cls:= .type "list",data:= .seq (items.toList.drop 1).toArray},toks:=tk}):
  wpAny (model prog w) A (Lr (.ref t) 2 (some 1)) Q E s:=by
 have hne:t≠s.heap.objs.size:=by obtain⟨o,e,_⟩:=ht;exact Be (Aj e)
 (unfold Lr)
 refine Aa ?_
 (unfold notIterableAtAll)
 refine Aa (wpAny_specialOf ht.typeIs slot_tuple_iter.lookup (Af ?_))
 simp only[Fk,if_false]
 refine Aa (Bo (iter_tuple ht (Aa (Bo (draw_tuple hne 1 0 _ _ ⟨_,At _ rfl,rfl,rfl⟩ (ht.push _) (by omega) fun ha ia ba=> ?_)))))
 have ta:IsTup ha t items:=(ht.push _).extBut ba.extBut hne
 have ia:ha.IsTupleIter s.heap.objs.size t 1:=ia
 obtain⟨oi,gi,_⟩:=id ia
 obtain⟨ot,gt,_⟩:=id ta
 have hsz:ha.objs.size=s.heap.objs.size+1:=by rw[ba.1,Ch]
 have ny:((items.toList.drop 0).take 1).length=1:=by simp;omega
 rw[if_neg (show¬((items.toList.drop 0).take 1).length<1 by rw[ny];exact Bw _)]
 refine Aa (Bo (kun_collect (s:={s with heap:=ha}) (T:= "tuple_iterator") (.inr (.inr (.inr rfl))) (Walks.tuple (A:=A.in1) hh s.heap.objs.size t hne items) (fun j u st=>st.1.typeIs) (k:=1) h1 ⟨ia,ta⟩ (Aj gi) (Aj gt) (fun hb tk kb=> ?_) (by rw[Bu];exact hz)))
 have ou:(items.toList.drop 1).length=items.size - 1:=by simp
 show wpAny _ _ (if(items.toList.drop 1).length<2 - 1 - 1 then _ else _) _ _ _
 rw[if_neg (Kv _)]
 show wpAny _ _ (Qb ((items.toList.drop 1).take ((items.toList.drop 1).length - (2 - 1 - 1)))>>=fun d=>pure ((items.toList.drop 0).take 1++[d]++(items.toList.drop 1).drop ((items.toList.drop 1).length - (2 - 1 - 1)))) _ _ _
 have e1:(items.toList.drop 1).take ((items.toList.drop 1).length - (2 - 1 - 1))=items.toList.drop 1:=Dt (As _)
 have e2:(items.toList.drop 1).drop ((items.toList.drop 1).length - (2 - 1 - 1))=[]:=Gd
 rw[e1,e2]
 refine Aa (Cz (Af ?_) (by show _<=sizeLine;rw[Bu];simp;omega))
 obtain⟨x,hx⟩: ∃x,items[0]? =some x:=⟨items[0],by simp[show 0<items.size by omega]⟩
 have e3:(items.toList.drop 0).take 1=[x]:=by
  rw[Pk]
  have:items.toList[0]? =some x:=by simpa using hx
  cases hl:items.toList with
  |nil=>rw[hl] at this;cases this
  |cons y r=>rw[hl] at this;cases this;rfl
 rw[e3]
 have keep: ∀b o,s.heap.get? b=some o->hb.get? b=some o:=fun b o e=>kb b o (Be (Aj e)) (ba.extBut b o (Be (Aj e)) (Ae _ e))
 exact hQ x hb tk hx keep
end
section
variable{X:Cx}{K:Ai}{ml:List Nat}{e a b c:Expr}{es:List Expr}{pa ta ia pb tb ib pc tc ic pu bt bi ps bs:Bool}{fa fb fc f:VF}{B B':Bs}{O:Nat->Option Addr}{H H0 H1 H':Hp}{σ:St}{δ δ':Ev}{v:V}{d:dM}{p:Addr}{pos:Pos}
def zI0(K:Ai)(i j:Nat):TG:=fun v σ H Q=> ∃a x xs,v= .ref a/\W4 K H a (x::xs)/\ ∀p,H p=none->Q ((σ.set i (some x)).set j (some (.ref p))) (bL H p (.lst xs))
theorem zAT{i j:Nat}{x y:Str}{px py ps tp:Pos}{k:Nat}(hc:X.calm=true)(hN:X.N.Nodup)(hi:X.N[i]? =some x)(hj:X.N[j]? =some y)(hx:F0 X.env.scope x)(hy:F0 X.env.scope y)
  (fx:X.fn x=true∨X.env.scope.names.lookup x=some .local) (fy:X.fn y=true∨X.env.scope.names.lookup y=some .local)
  (hl:(assignEach [.Name x px,.Starred (.Name y py) ps] X.env).map (·.2)=[assign (.Name x px) X.env,assign (.Name y py) X.env]) (hn:(assignEach [.Name x px,.Starred (.Name y py) ps] X.env).length=2) (hst:(assignEach [.Name x px,.Starred (.Name y py) ps] X.env).findIdx? (·.1)=some 1):
  PG X (.Tuple [.Name x px,.Starred (.Name y py) ps] k tp) (zI0 X.K i j):=by
 intro aa s σ H v u Q I r hw
 obtain⟨a,z,zs,e1,hq,q⟩:=hw
 subst e1
 cases r
 obtain⟨its,rv,ht,hz⟩:=I.tuple hq
 rw[assign_Tuple]
 refine Aa (Cv ?_)
 (unfold unpack)
 rw[hn,hst]
 have ah:=rv.length
 rw[Dg] at ah
 have hz':its.length<=16777216:=by rw[<- Bu,<- ah];exact hz
 refine Aa (Bo (IT (I.ok.hd hc) ht (by rw[Ak];omega) (by rw[Ak];exact hz') fun u hb tk hu kp=> ?_))
 rw[hl]
 cases rv with
 | @cons _ w _ ws rz rzs=>
  have hu:some w=some u:=by simpa using hu
  cases hu
  have I1:c7 X aa σ H {s with heap:=hb,toks:=tk}:=I.kept kp
  have I2:=c7.lnew (s:={s with heap:=hb,toks:=tk}) (t':=tk) I1 rzs (by rw[Bu];simp only[Dg] at hz' ah;have:=rzs.length;omega)
  refine Iv (Ft (V7 I2 hN hi hx rz (fun s3 I3=> ?_) fx))
  refine Iv (Ft (V7 I3 hN hj hy (v:= .ref hb.objs.size) rfl (fun s4 I4=>Mq ⟨_,_,I4,q _ (I1.hok.fresh (As _))⟩) fy))
noncomputable def N5(i j:Nat)(f:VF):VS:=fun δ=>(f δ).bind fun p=>match p.1 with
 | .tup (d::ds)=>some (.nx ((p.2.set i (.va d)).set j (.va (.lst ds))))
 |_=>none
theorem HD{i j:Nat}{x y:Str}{px py sp tp:Pos}{k:Nat}(hK:X.K=K)(hc:X.calm=true)(hN:X.N.Nodup)(hi:X.N[i]? =some x)(hj:X.N[j]? =some y)(hij:i≠j)(hx:F0 X.env.scope x)(hy:F0 X.env.scope y)(he:PE X e (TV K ml pu true true f))
  (hmi : i ∉ ml := by decide) (hmj : j ∉ ml := by decide)
  (fx : X.fn x = true ∨ X.env.scope.names.lookup x = some .local := by first | exact .inl rfl | exact .inr rfl | assumption) (fy : X.fn y = true ∨ X.env.scope.names.lookup y = some .local := by first | exact .inl rfl | exact .inr rfl | assumption)
  (hl : (assignEach [.Name x px,.Starred (.Name y py) sp] X.env).map (·.2) = [assign (.Name x px) X.env,assign (.Name y py) X.env] := by rfl) (hn : (assignEach [.Name x px,.Starred (.Name y py) sp] X.env).length = 2 := by rfl) (hst : (assignEach [.Name x px,.Starred (.Name y py) sp] X.env).findIdx? (·.1) = some 1 := by rfl)
  (hs : Gj [.Tuple [.Name x px,.Starred (.Name y py) sp] k tp] e pos.line X.env = pure false := by rfl) (hw : Gk [.Tuple [.Name x px,.Starred (.Name y py) sp] k tp] e X.env = pure none := by rfl)
  (h1 : (assignEach [.Tuple [.Name x px,.Starred (.Name y py) sp] k tp] X.env).map (·.2) = [assign (.Tuple [.Name x px,.Starred (.Name y py) sp] k tp) X.env] := by rfl) :
  PS X (.Assign [.Tuple [.Name x px,.Starred (.Name y py) sp] k tp] e pos) (U5 K ml (N5 i j f)):=by
 subst hK
 refine(P0 he (zAT hc hN hi hj hx hy fx fy hl hn hst) hs hw h1).imp fun D σ H ⟨B,O,δ,o,S,q,k⟩=> ?_
 unfold N5 at q
 cases h1:f δ with
 | none => rw [h1] at q;cases q
 |some p1=>
  obtain⟨z,δ1⟩:=p1
  rw[h1] at q
  refine⟨B,O,δ,z,δ1,S,h1,fun v H1 R=> ?_⟩
  cases z with
  |tup ds=>
   cases ds with
   | nil => cases q
   |cons d ds=>
    cases q
    obtain⟨a,xs,rfl,sq,r⟩:=R.rep.tupE
    cases r with
    | @cons v0 vs _ _ r1 r2=>
     refine⟨a,v0,vs,rfl,sq,fun p hp=> ?_⟩
     have S1:=(R.sta.same (dD (o:= .lst vs) hp)).setVa hmi (r1.same (dD (o:= .lst vs) hp))
     have N1: ∀c,Nn B (fun j=>if j=i then none else O j) c->Nn B O c:=RD (o:=none)
     refine k _ _ _ (S1.setVa hmj (.lst cQ (fun z=>R.sta.new hp (N1 _ z)) ((r2.same (dD hp)).mono N1)))
  |_=>cases q
end
end L2
namespace L2
open PySem PySem.Spec PyProof.Rows
section
variable{X:Cx}{K:Ai}{ml:List Nat}{e a b c:Expr}{es:List Expr}{pa ta ia pb tb ib pc tc ic pu bt bi ps bs:Bool}{fa fb fc f:VF}{B B':Bs}{O:Nat->Option Addr}{H H0 H1 H':Hp}{σ:St}{δ δ':Ev}{v:V}{d:dM}{p:Addr}{pos:Pos}
def rInD(K:Ai)(neg:Bool):R2:=fun x y H Q=> ∃d e ds,Dp K H x d/\Dp K H y e/\(e= .list ds∨e= .tuple ds)/\Dz d=true/\Dz e=true/\Q (.bl (if neg then !ds.any (fun z=>Hv z d) else ds.any fun z=>Hv z d)) H
theorem TQ{d:Lk}(h:Dz d=true):d.canLay0=true/\d.depth<=64:=by
 unfold Dz at h
 simp only[Ac,decide_eq_true_eq] at h
 exact h
theorem A5(neg:Bool)(hu:X.A.units+64<cLine):YD X (Cn (if neg then .NotIn else .In)) (rInD X.K neg):=by
 intro aa s σ H x y v u Q I rx ry h
 obtain⟨d,e,ds,hd,he,hk,sd,se,q⟩:=h
 obtain⟨as,h1⟩:=I.reads hd rx
 obtain⟨bs,h2⟩:=I.reads he ry
 obtain⟨c1,d1⟩:=TQ sd
 obtain⟨c2,d2⟩:=TQ se
 have fin: ∀k,(k=if neg then !ds.any (fun z=>Hv z d) else ds.any fun z=>Hv z d)->EP X aa σ Q (.bool k) s:=fun k hk=>by subst hk;exact⟨.bl _,H,I,rfl,q⟩
 rcases hk with rfl|rfl
 ·have hc : Hg ds = true := by simpa [Gb] using c2
  have k6:El ds<=63:=by simp only[Iy] at d2;omega
  have hm:X.A.units+1+min (El ds) d.depth<cLine:=by have:=Pe (El ds) d.depth;omega
  cases neg with
  |false=>exact SeqAt.in_list_reads h2 h1 hc c1 hm (fin _ rfl)
  |true=>exact SeqAt.notIn_list_reads h2 h1 hc c1 hm (fin _ rfl)
 ·have hc : Hg ds = true := by simpa [Gb] using c2
  have k6:El ds<=63:=by simp only[Iy] at d2;omega
  have hm:X.A.units+1+min (El ds) d.depth<cLine:=by have:=Pe (El ds) d.depth;omega
  cases neg with
  |false=>exact SeqAt.in_tuple_reads h2 h1 hc c1 hm (fin _ rfl)
  |true=>exact SeqAt.notIn_tuple_reads h2 h1 hc c1 hm (fin _ rfl)
theorem RV(h:X.K=K)(hu:X.A.units+64<cLine):YD X (Cn .In) (rInD K false):=by subst h;exact A5 false hu
theorem GJ(h:X.K=K)(hu:X.A.units+64<cLine):YD X (Cn .NotIn) (rInD K true):=by subst h;exact A5 true hu
noncomputable def inE(d:dM)(ds:List dM):Bool:=(DR ds).any fun z=>Hv z d.pd
noncomputable def X5(neg:Bool)(d e:dM):Option dM:=(ZA e).bind fun ds=>if(NX d && NX e)=true then some (.bl (if neg then !inE d ds else inE d ds)) else none
theorem X6{neg:Bool}:Q4 K (rInD K neg) (X5 neg):=by
 intro H N N' M M' x y d e c Q hx hy h k
 unfold X5 at h
 cases hs:ZA e with
 | none => rw [hs] at h;cases h
 |some ds=>
  rw[hs] at h
  have h:(if(NX d && NX e)=true then some (dM.bl (if neg then !inE d ds else inE d ds)) else none)=some c:=h
  split at h
  ·rename_i hh
   cases h
   simp only[NX,Ac] at hh
   refine⟨d.pd,e.pd,DR ds,hx.dp hh.1.1,hy.dp hh.2.1,?_,hh.1.2,hh.2.2,k _ fun _ _ _=> .bl _⟩
   cases e<;>first
    |(cases hs;exact .inr rfl)
    |(cases hs;exact .inl rfl)
    |cases hs
  ·cases h
def zG2(K:Ai)(td ty:TE):TE:=fun σ H Q=>td σ H fun x H1=> ∃a,x= .ref a/\((IsD H1 a/\ty σ H1 fun y H2=> ∃o,RH H2 a y o/\Q (o.getD .non) H2)∨ ∃D,KTab K a D/\ty σ H1 fun y H2=> ∃k,y= .str k/\Q ((Ew k D).getD .non) H2)
theorem BH{ai ae:Pos}{td ty:TE}(hu:X.A.units+1<cLine)(ho:PE X a td)(he:PE X e ty)(m:M1 X a "get" ai e ae):PE X (.Call (.Attribute a "get" ai) [e] [] ae) (zG2 X.K td ty):=by
 intro aa s σ H Q I h
 refine Mt m.base m.few m.line Jv Dj Ks (aJ (ho aa s σ H _ I h) fun u s1 ⟨x,H1,I1,rx,l,ex,q1⟩=> ?_)
 subst ex
 obtain rfl:u=Bj l:=rx
 rcases q1 with⟨hd,q1⟩|⟨D,T,q1⟩
 ·obtain⟨t1,t2,_⟩:=AO I1 hd
  refine⟨t1,t2,?_⟩
  rw[m.trees]
  refine Fh rfl (Ey (Fi (aJ (he aa s1 σ H1 _ I1 q1) fun iv s2 ⟨y,H2,I2,ry,ov,g,q2⟩=>Hd ?_)))
  exact zFL hu I2 g ry fun w' s3 I3 rw'=>⟨_,H2,I3,rw',q2⟩
 ·obtain⟨o6,o,ox,ep,hk,hex,bw,_⟩:=id T
  refine⟨⟨o,I1.kIn _ _ hk,hex.1⟩,fun b q=> ?_,?_⟩
  ·cases q
   exact⟨o,I1.kIn _ _ hk,hex.2.1⟩
  rw[m.trees]
  refine Fh rfl (Ey (Fi (aJ (he aa s1 σ H1 _ I1 q1) fun iv s2 ⟨y,H2,I2,ry,k,ey,q2⟩=>Hd ?_)))
  subst ey
  obtain⟨t,rfl⟩:=ry
  have hT:s2.TypeIs (.ref l) "dict":=⟨o,I2.kIn _ _ hk,hex.1⟩
  refine Eb Dj hT En ?_ (Gs _ _)
  show wpAny _ _ (dictGet l (.str k t)>>=_) _ _ s2
  refine Aa (J7 I2.kIn T (fun d' v' ha hv=>Af ⟨v',rfl,?_⟩) fun hn=> ?_)
  ·rw[ha] at q2
   exact⟨d',H2,I2.tok _,hv,q2⟩
  ·rw[hn] at q2
   show wpAny _ _ (Lu l (.str k t)>>=_) _ _ _
   unfold Lu
   rw[if_neg (by rw[o6];exact Db)]
   exact Aa (Af (Af ⟨.none,rfl,.non,H2,I2.tok _,rfl,q2⟩))
noncomputable def zCC:dM->dM->Option dM
 | .dct ks ds,.str x=>some ((bJ ks ds (.inr x)).getD .non)
 |_,_=>none
theorem zAB{ai ae:Pos}(hK:X.K=K)(hu:X.A.units+1<cLine)(ha:PE X a (TV K ml pa ta ia fa))(hb:PE X b (TV K ml pb tb ib fb))(m:M1 X a "get" ai b ae) (hs:(pb || (ta && ia))=true:=by rfl):
  PE X (.Call (.Attribute a "get" ai) [b] [] ae) (TV K ml (pa && pb) ia ia (f2 zCC fa fb)):=by
 subst hK
 refine(BH hu ha hb m).imp fun σ H Q ⟨B,O,δ,d,δ2,S,q,k⟩=> ?_
 obtain⟨x,δ1,y,h1,h2,h3⟩:=T9 q
 refine⟨B,O,δ,x,δ1,S,h1,fun v1 H1 R1=> ?_⟩
 have fin : ∀ v2 H2 (R2 : Res X.K ml B O H1 σ pb tb ib H2 δ2 v2 y) o,b6 X.K (av B O ia) H2 (av B O ia) o d -> Q o H2 := fun v2 H2 R2 o ho => k o H2 ⟨R2.sta,R1.frm.trans R2.frm,fun z => by
  obtain⟨z1,z2⟩:=(Ac _ _).mp z
  exact(R1.pur z1).trans (R2.pur z2),ho.mono (fun _ z=>z) zCM⟩
 cases x with
 |dct ks ds=>
  cases y with
  |str z=>
   cases h3
   generalize hx:dM.dct ks ds=dd at R1
   have r1:=R1.rep
   cases r1 with
   | @dct _ l kvs ds' qd n r=>
    cases hx
    refine⟨l,rfl,.inl ⟨.inl ⟨_,.inl qd⟩,B,O,δ1,_,δ2,R1.sta,h2,fun v2 H2 R2=> ?_⟩⟩
    have r2:=R2.rep
    cases r2
    have h4:H2 l=some (.dK kvs)/\cU X.K (av B O ia) H2 (kvs.map Hr) ds:=by
     cases pb with
     |true=>exact⟨R2.pur rfl _ _ qd,r.same (R2.pur rfl)⟩
     |false=>
      have hs:(ta && ia)=true:=by simpa using hs
      obtain⟨z1,z2⟩:=(Ac _ _).mp hs
      subst z1 z2
      exact⟨R2.frm _ _ qd fun w=>absurd (.inr w) n,r.fr R2.frm fun a z=> .inr z⟩
    refine⟨_,RH.k (k:= .inr z) h4.1,fin _ _ R2 _ ?_⟩
    rcases SX (k:= .inr z) h4.2 with⟨v,d',g1,g2,g3⟩|⟨g1,g2⟩
    ·rw[g1,g2];exact g3
    ·rw[g1,g2];exact .non
   | @ktb _ l D ds' T r=>
    cases hx
    refine⟨l,rfl,.inr ⟨D,T,B,O,δ1,_,δ2,R1.sta,h2,fun v2 H2 R2=> ?_⟩⟩
    have r2:=R2.rep
    cases r2
    refine⟨z,rfl,fin _ _ R2 _ ?_⟩
    have r':cU X.K (av B O ia) H2 (D.map Hr) ds:=by
     cases pb with
     |true=>exact r.same (R2.pur rfl)
     |false=>
      have hs:(ta && ia)=true:=by simpa using hs
      obtain⟨z1,z2⟩:=(Ac _ _).mp hs
      subst z1 z2
      exact r.fr R2.frm fun a z=> .inr z
    rcases RN (k:=z) r' with⟨v,d',g1,g2,g3⟩|⟨g1,g2⟩
    ·rw[g1,g2];exact g3
    ·rw[g1,g2];exact .non
   |_=>cases hx
  |_=>cases h3
 |_=>cases h3
end
theorem HM:Bl "all"=some (.builtin "all"):=by decide+kernel
section
variable{X:Cx}{K:Ai}{ml:List Nat}{e a b c:Expr}{es:List Expr}{pa ta ia pb tb ib pc tc ic pu bt bi ps bs:Bool}{fa fb fc f:VF}{B B':Bs}{O:Nat->Option Addr}{H H0 H1 H':Hp}{σ:St}{δ δ':Ev}{v:V}{d:dM}{p:Addr}{pos:Pos}
theorem zBP{ks:List Bool}{us:List Value}(r:cA (ks.map V.bl) us){i:Nat}{u:Value}(h:us[i]? =some u): ∃k,ks[i]? =some k/\u= .bool k:=by
 have hl:=r.length
 rw[De] at hl
 have hi:i<us.length:=(Ah.mp h).1
 have e:(ks.map V.bl)[i]? =some (.bl ks[i]):=by simp[hl▸hi]
 obtain⟨w,h1,h2⟩:=r.get e
 rw[h] at h1
 cases h1
 exact⟨ks[i],by simp[hl▸hi],h2⟩
theorem FK{ks:List Bool}:(Ay ks.length).all (fun i=>(ks[i]?).getD true)=ks.all id:=by
 induction ks with
 |nil=>rfl
 |cons k ks ih=>
  rw[Dg,List.range_succ_eq_map,Qc,Qk,Qc,<- ih]
  rfl
def G2(K:Ai)(g:List Bool->Bool):RC:=fun xs H Q=> ∃p ks,xs=[.ref p]/\YO K H p (ks.map V.bl)/\Q (.bl (g ks)) H
theorem CW{prog:Au}{w:World}{A:Bx}{ks:List Bool}{us:List Value}(r:cA (ks.map V.bl) us):TruthOf prog w A (fun i v=>us.toArray[i]? =some v) fun i=>(ks[i]?).getD true:=by
 intro i v s Q E hP hQ
 obtain⟨k,h1,rfl⟩:=zBP r (by simpa using hP)
 have hQ:Q ((ks[i]?).getD true) s:=hQ
 rw[h1] at hQ
 exact Du hQ
theorem D8(hc:X.calm=true):aL X (.builtin "all") (G2 X.K fun ks=>ks.all id):=by
 intro aa s σ H xs us Q I r h
 obtain⟨l,ks,rfl,hq,q⟩:=h
 obtain⟨u,rfl,rx⟩:=QC r
 cases rx
 obtain⟨its,rv,pl,hz⟩:=I.list hq
 have hl:=pl.isList
 have hne:l≠s.heap.objs.size:=by obtain⟨o,g,_⟩:=hl;exact Be (Aj g)
 have ah:=rv.length
 rw[De] at ah
 refine call_all_walk (Hc hl ⟨_,_,_,_,_,_,_,rfl,Walks.list (show X.A.in1.handled=none from I.ok.hd hc) s.heap.objs.size l hne its.toArray,⟨⟨_,At _ rfl,rfl,rfl⟩,?_⟩,CW rv,fun h' tk hk=> ?_⟩)
 ·obtain⟨o,g,r⟩:=hl
  exact⟨o,Ae _ g,r⟩
 ·rw[Ak,<- ah,FK]
  exact⟨.bl _,H,I.kept (t':=tk) fun b o g=>hk b o (by simp;exact Be (Aj g)) (Ae _ g),rfl,q⟩
theorem kAll(h:X.K=K)(hc:X.calm=true):aL X (.builtin "all") (G2 K fun ks=>ks.all id):=by subst h;exact D8 hc
noncomputable def Q1:List dM->Option (List Bool)
 |[]=>some []
 | .bl k::ds=>(Q1 ds).map fun ks=>k::ks
 |_=>none
theorem F5{N:Addr->Prop}: ∀{xs:List V} {ds:List dM} {ks:List Bool},cU K N H xs ds->Q1 ds=some ks->xs=ks.map V.bl
 | _,_,_,.nil,h => by cases h;rfl
 | _,_,_,@cU.cons _ _ _ v vs d ds h t,e => by
  cases d with
  |bl k=>
   cases h
   have e:(Q1 ds).map (fun ks=>k::ks)=some _:=e
   cases h2:Q1 ds with
   |none=>rw[h2] at e;cases e
   |some ks'=>
    rw[h2] at e
    cases e
    rw[F5 t h2,Cq]
  |_=>cases e
noncomputable def AU(g:List Bool->Bool):dM->Option dM
 | .lst ds=>(Q1 ds).map fun ks=> .bl (g ks)
 |_=>none
noncomputable abbrev ID:=AU fun ks=>ks.all id
theorem zDJ{g:List Bool->Bool}:DT K (G2 K g) (AU g):=by
 intro H N M x d c Q hx h k
 cases d with
 |lst ds=>
  have h:(Q1 ds).map (fun ks=>dM.bl (g ks))=some c:=h
  cases h1:Q1 ds with
  |none=>rw[h1] at h;cases h
  |some ks=>
   rw[h1] at h
   cases h
   obtain⟨a,xs,rfl,sq,r⟩:=hx.lstE
   have:=F5 r h1
   subst this
   exact⟨a,ks,rfl,sq,k _ fun _ _ _=> .bl _⟩
 |_=>cases h
theorem CD:DT K (G2 K fun ks=>ks.all id) ID:=zDJ
noncomputable def UX:List dM->Option (List Int)
 |[]=>some []
 | .int i::ds=>(UX ds).map fun ns=>i::ns
 |_=>none
theorem PU{N:Addr->Prop}: ∀{xs:List V} {ds:List dM} {ns:List Int},cU K N H xs ds->UX ds=some ns->xs=ns.map V.int
 | _,_,_,.nil,h => by cases h;rfl
 | _,_,_,@cU.cons _ _ _ v vs d ds h t,e => by
  cases d with
  |int k=>
   cases h
   have e:(UX ds).map (fun ks=>k::ks)=some _:=e
   cases h2:UX ds with
   |none=>rw[h2] at e;cases e
   |some ks'=>
    rw[h2] at e
    cases e
    rw[PU t h2,Cq]
  |_=>cases e
end
section
variable{X:Cx}{K:Ai}{ml:List Nat}{e a b c:Expr}{es:List Expr}{pa ta ia pb tb ib pc tc ic pu bt bi ps bs:Bool}{fa fb fc f:VF}{B B':Bs}{O:Nat->Option Addr}{H H0 H1 H':Hp}{σ:St}{δ δ':Ev}{v:V}{d:dM}{p:Addr}{pos:Pos}
noncomputable def OO(n:Int):List Int->Option Nat
 |[]=>none
 |i::ns=>if i=n then some 0 else(OO n ns).map (· +1)
theorem N3{n:Int}: ∀{ns:List Int} {j:Nat},OO n ns=some j->ns[j]? =some n/\ ∀m,m<j->ns[m]? ≠some n
 | [],_,h => by cases h
 | i :: ns,j,h => by
  unfold OO at h
  split at h
  ·rename_i hi
   cases h
   exact⟨by rw[hi];rfl,fun m hm=>absurd hm (Kv _)⟩
  ·rename_i hi
   cases h1:OO n ns with
   |none=>rw[h1] at h;cases h
   |some k=>
    rw[h1] at h
    cases h
    obtain⟨h2,h3⟩:=N3 h1
    refine⟨by simpa using h2,fun m hm=> ?_⟩
    cases m with
    |zero=>simpa using hi
    |succ m=>simpa using h3 m (Kh hm)
theorem K6{ns:List Int}{us:List Value}(r:cA (ns.map V.int) us){m:Nat}{u:Value}(h:us[m]? =some u): ∃i t,ns[m]? =some i/\u= .int i t:=by
 have hl:=r.length
 rw[De] at hl
 have hm:m<us.length:=(Ah.mp h).1
 have e:(ns.map V.int)[m]? =some (.int ns[m]):=by simp[hl▸hm]
 obtain⟨u',e1,t,e2⟩:=r.get e
 rw[h] at e1
 cases e1
 exact⟨ns[m],t,by simp[hl▸hm],e2⟩
noncomputable def MB(n:Int):Value->Bool
 | .int i _=>i==n
 |_=>false
theorem zFE{ns:List Int}{its:List Value}{n:Int}{j:Nat}(r:cA (ns.map V.int) its)(h:OO n ns=some j):
  ∃hj:j<its.toArray.size,MB n its.toArray[j]=true/\(∀m (hm:m<its.toArray.size),m<j->MB n its.toArray[m]=false):=by
 obtain⟨h1,h2⟩:=N3 h
 have hl:=r.length
 rw[De] at hl
 have hj:j<ns.length:=(Ah.mp h1).1
 have at_: ∀(m:Nat) (hm:m<its.toArray.size),∃i t,ns[m]? =some i/\its.toArray[m]= .int i t:=fun m hm=>by
  have hm':m<its.length:=by simpa using hm
  exact K6 r (u:=its.toArray[m]) (by simp[hm'])
 refine⟨by simpa[<- hl] using hj,?_,fun m hm hmj=> ?_⟩
 ·obtain ⟨i,t',e1,e2⟩ := at_ j (by simpa [<- hl] using hj)
  rw[h1] at e1
  cases e1
  rw[e2]
  simp[MB]
 ·obtain⟨i,t',e1,e2⟩:=at_ m hm
  have:=h2 m hmj
  rw[e1] at this
  rw[e2]
  exact beq_eq_false_iff_ne.mpr fun z=>this (by rw[z])
theorem zFD{ns:List Int}{its:List Value}(r:cA (ns.map V.int) its){y:Value}(hy:y∈its.toArray): ∃i t,y= .int i t:=by
 obtain⟨m,hm,rfl⟩:=Array.mem_iff_getElem.mp hy
 have hm':m<its.length:=by simpa using hm
 obtain⟨i,t,_,e⟩:=K6 r (m:=m) (u:=its.toArray[m]) (by simp[hm'])
 exact⟨i,t,e⟩
def BZ(K:Ai):V->List V->Hp->VK->Prop:=fun x vs H Q=> ∃(l:Addr) (ns:List Int) (n:Int) (j:Nat),x= .ref l/\vs=[.int n]/\YO K H l (ns.map V.int)/\OO n ns=some j/\Q (.int j) H
theorem E5:MtM X "list.index" (BZ X.K):=by
 intro aa s σ H x vs v us Q I rx rv h
 obtain⟨l,ns,n,j,rfl,rfl,hq,hj,q⟩:=h
 cases rx
 obtain⟨u,rfl,t,rfl⟩:=rv.one
 obtain⟨its,r,⟨o,c,e,hc,hd,bw⟩,hz⟩:=I.list hq
 obtain⟨cls,dd,data,sl⟩:=o
 simp only at hc hd bw
 subst hc hd bw
 obtain⟨hjs,h1,h2⟩:=zFE r hj
 have hl:=r.length
 refine Fv Na ⟨_,e,rfl⟩ Mh (Lv _ _) (Mi l its.toArray c none sl (.int n t) (MB n) j hjs (by
  have h3:its.length<=16777216:=by rw[<- hl,<- Bu];exact hz
  have h4:j<its.length:=by simpa using hjs
  omega) h1 h2) ⟨e,?_,?_⟩
 ·intro y hy
  obtain⟨i,t',rfl⟩:=zFD r hy
  exact SeqAt.EqAt.int_int i t' n t
 ·exact⟨.int j,H,I.tok _,⟨_,rfl⟩,q⟩
theorem zF9(h:X.K=K):MtM X "list.index" (BZ K):=by subst h;exact E5
noncomputable def IE:dM->dM->Option dM
 | .lst ds,.int n=>(UX ds).bind fun ns=>(OO n ns).map fun j=> .int j
 |_,_=>none
theorem K8{ai ae:Pos}(hK:X.K=K)(ha:PE X a (TV K ml pa ta ia fa))(hb:PE X b (TV K ml pb tb ib fb))
  (cf : Fu a "index" X.env (eval a X.env) = eval a X.env := by rfl)
  (dq : ((Dq ae (starEach (b :: []) X.env)).all (fun x => !x.1) && (Er ae (Cr [] X.env)).all (fun x => x.1.isSome)
   && decide ((b :: ([] : List Expr)).length + ([] : List Ge).length + (if ([] : List Ge).isEmpty then 0 else 1) < 30)) = true := by rfl)
  (cb : (ai.endLine == ae.line) = true := by rfl) (hs : starEach (b :: []) X.env = (false,eval b X.env) :: starEach [] X.env := by rfl) (bj : (Dq ae (starEach [] X.env)).any (·.1) = false := by rfl) (hl : (pb || (ta && ia)) = true := by rfl) :
  PE X (.Call (.Attribute a "index" ai) [b] [] ae) (TV K ml (pa && pb) true true (f2 IE fa fb)):=
 (kBm (K := K) hK Gu Jx Jy (zF9 hK) ha (bR hb ZN hs) cf dq cb hs bj).imp fun σ H Q q0 => by
  obtain⟨B,O,δ,d,δ2,S,q,k⟩:=q0
  obtain⟨x,δ1,y,h1,h2,h3⟩:=T9 q
  refine⟨B,O,δ,x,δ1,S,h1,fun v1 H1 R1=> ?_⟩
  cases x with
  |lst ds=>
   cases y with
   |int n=>
    have h3:((UX ds).bind fun ns=>(OO n ns).map fun j=>dM.int j)=some d:=h3
    cases h4:UX ds with
    | none => rw [h4] at h3;cases h3
    |some ns=>
     rw[h4] at h3
     have h3:(OO n ns).map (fun j=>dM.int j)=some d:=h3
     cases h5:OO n ns with
     | none => rw [h5] at h3;cases h3
     |some j=>
      rw[h5] at h3
      cases h3
      obtain⟨l,xs,rfl,sq,_⟩:=R1.rep.lstE
      refine⟨.inl ⟨rfl,xs,sq⟩,B,O,δ1,_,δ2,R1.sta,h2,fun v2 H2 R2=> ?_⟩
      have r2:=R2.rep
      cases r2
      obtain⟨l',xs',e1,sq',r'⟩:=(R2.live hl R1.rep).lstE
      cases e1
      have:=PU r' h4
      subst this
      exact⟨l,ns,n,j,rfl,rfl,sq',h5,k _ H2 ⟨R2.sta,R1.frm.trans R2.frm,fun z=>by
       obtain⟨z1,z2⟩:=(Ac _ _).mp z
       exact(R1.pur z1).trans (R2.pur z2),.int _⟩⟩
   |_=>cases h3
  |_=>cases h3
end
section
variable{X:Cx}{K:Ai}{ml:List Nat}{e:Expr}{es:List Expr}{pu bt bi bs:Bool}{f:VF}{fs:Q0}
theorem dC(h:PE X e (TV K ml pu bt bi f))(hb:(bt && bi)=true:=by rfl):PE X e (TV K ml pu true true f):=by
 obtain⟨h1,h2⟩:=(Ac _ _).mp hb
 subst h1 h2
 exact h
theorem zFW(h:PE X e (TV K ml pu bt bi f))(hb:bi=true:=by rfl):PE X e (TV K ml pu bt true f):=by
 subst hb
 exact h
theorem cZ(h:PA X es (D0 K ml pu bs fs))(hb:bs=true:=by rfl):PA X es (D0 K ml pu true fs):=by
 subst hb
 exact h
theorem QG{st:Stmt}:PS X st (U5 K ml fun _=>none):=fun _ _ _ _ _ _ ⟨_,_,_,_,_,q,_⟩=>nomatch q
variable{a b c:Expr}{pa ta ia pb tb ib pc tc ic:Bool}{fa fb fc:VF}{pos:Pos}{δ:Ev}
end
theorem VR: ∀(names:List (Str×NameKind)) (n:Nat) (acc:List (Str×Addr)),cellsFrom n names acc=cellsFrom n names []++acc
 | [],_,_ => rfl
 | (x,k) :: r,n,acc => by
  unfold cellsFrom
  split
  ·rw[VR r (n+1) ((x,n)::acc),VR r (n+1) [(x,n)]]
   simp
  ·exact VR r n acc
theorem LW: ∀{names:List (Str×NameKind)} {n:Nat} {x:Str} {c:Addr},(x,c)∈cellsFrom n names []->(x,Bp)∈names
 | [],_,_,_,h => nomatch h
 | (y,k) :: r,n,x,c,h => by
  unfold cellsFrom at h
  split at h
  ·rename_i hk
   rw[VR] at h
   rcases Fa.mp h with h|h
   ·exact Av _ (LW h)
   ·cases Ax.mp h
    rw[show k=Bp from beq_iff_eq.mp hk]
    exact Bg
  ·exact Av _ (LW h)
theorem LV: ∀{names:List (Str×NameKind)} {n:Nat} {x:Str},(x,Bp)∈names-> ∃c,(x,c)∈cellsFrom n names []
 | (y,k) :: r,n,x,h => by
  unfold cellsFrom
  rcases Ao.mp h with e|h
  ·cases e
   rw[if_pos (by decide),VR]
   exact⟨n,Ar _ (Ax.mpr rfl)⟩
  ·split
   ·rw[VR]
    obtain⟨c,hc⟩:=LV (n:=n+1) h
    exact⟨c,Bf _ hc⟩
   ·exact LV h
theorem UL: ∀{l:List (Str×Addr)} {x:Str} {c:Addr},(x,c)∈l-> ∃c',l.lookup x=some c'
 | (y,d) :: r,x,c,h => by
  rw[Ca]
  cases hb:x==y with
  | true => exact ⟨d,rfl⟩
  |false=>
   rcases Ao.mp h with e|h
   ·cases e
    simp at hb
   ·exact UL h
theorem bO: ∀{l m:List (Str×Addr)} {x:Str} {c:Addr},(l++m).lookup x=some c->l.lookup x=some c∨(l.lookup x=none/\m.lookup x=some c)
 |[],_,_,_,h=> .inr ⟨rfl,h⟩
 |(y,d)::r,m,x,c,h=>by
  rw[Kc,Ca] at h
  rw[Ca]
  cases hb:x==y with
  |true=>rw[hb] at h;exact .inl h
  |false=>rw[hb] at h;exact bO h
theorem X2: ∀{l m:List (Str×Addr)} {x:Str},l.lookup x=none->(l++m).lookup x=m.lookup x
 |[],_,_,_=>rfl
 |(y,d)::r,m,x,h=>by
  rw[Ca] at h
  rw[Kc,Ca]
  cases hb:x==y with
  |true=>rw[hb] at h;cases h
  |false=>rw[hb] at h;exact X2 h
theorem RB{M:Model}{A:Bx}{E:Value->Ad->Prop}{s:Ad}{scope:Scope}{globals:Addr}{gw:List (Str×Addr)}{qual:Str}{outer:Env}{Q:Env->Ad->Prop}
  (hQ:Q (newEnv scope s.heap.objs.size globals (cellsFrom (s.heap.objs.size+1) scope.names gw) qual none .none (some outer) builtinsNs) {s with heap:=Jn (s.heap.push {cls:= .type "dict",data:= .dict #[]}) scope.names}):
  wpAny M A (Je scope globals gw [] qual none .none (some outer)) Q E s:=by
 simp only[Je,Me,if_true]
 refine Aa (wpAny_alloc ?_)
 refine Aa (wpAny_layCells _ (fun name kind cells=>by cases hkc:kind==Bp<;>simp[hkc]) _ _ _ _ ?_)
 rw[show({s with heap:=s.heap.push {cls:= .type "dict",data:= .dict #[]}}:Ad).heap.objs.size=s.heap.objs.size+1 from Ch ..]
 rw[Ll]
 exact Aa (Af (Af hQ))
theorem YR: ∀{l m:List (Str×Addr)} {x:Str} {c:Addr},l.lookup x=some c->(l++m).lookup x=some c
 |(y,d)::r,m,x,c,h=>by
  rw[Ca] at h
  rw[Kc,Ca]
  cases hb:x==y with
  |true=>rw[hb] at h;exact h
  |false=>rw[hb] at h;exact YR h
structure WM(X:Cx)(N':List Str)(ix:List Nat)(scope:Scope):Prop where
 kind:scope.kind= .function
 cel: ∀y∈scope.names,y.2= .cell->scope.names.lookup y.1=some .cell
 names: ∀y∈scope.names,y.2= .local->scope.names.lookup y.1=some .local
 free: ∀y∈scope.names,y.2= .free->X.env.kindOf y.1=some .cell∨X.env.kindOf y.1=some .free
 nd:N'.Nodup
 cap: ∀j,j<ix.length->N'[j]? =(ix[j]?).bind fun i=>X.N[i]?
 capf: ∀x∈N'.take ix.length,scope.names.lookup x=some .free
noncomputable def cD(X:Cx)(N':List Str)(scope:Scope)(cl:List (Str×Addr))(s1:Ad)(H1:Hp)(fp:List Addr):Cx:=
 {X with N:=N',s₀:=s1,H₀:=H1,env:=Oi scope cl s1.heap.objs.size X.env,outer:=X.stack,stack:=X.stack,ex:=fp,fn:=fun x=>scope.names.lookup x==some Bp,pn:=[],xe:=fun _ _=>False}
theorem YG{env:Env}{x:Str}: ∀{l:List (Str×NameKind)},
  ((l.map fun (n,k) => if (k == Ba && env.scope.kind == .function && env.kindOf n == some .cell) then (n,Bp) else (n,k)).lookup x = some .cell ∨
  (l.map fun (n,k) => if (k == Ba && env.scope.kind == .function && env.kindOf n == some .cell) then (n,Bp) else (n,k)).lookup x = some .free) -> (x,Ba) ∈ l ∨ (x,Bp) ∈ l
 | [],h => by rcases h with z | z <;> cases z
 | (n,k) :: r,h => by
  have h:Lq x ((if(k==Ba && env.scope.kind== .function && env.kindOf n==some .cell)=true then(n,Bp) else(n,k))::r.map fun(n,k)=>if(k==Ba && env.scope.kind== .function && env.kindOf n==some .cell) then(n,Bp) else(n,k))=some .cell∨
   Lq x ((if(k==Ba && env.scope.kind== .function && env.kindOf n==some .cell)=true then(n,Bp) else(n,k))::r.map fun(n,k)=>if(k==Ba && env.scope.kind== .function && env.kindOf n==some .cell) then(n,Bp) else(n,k))=some .free:=h
  by_cases hc:(k==Ba && env.scope.kind== .function && env.kindOf n==some .cell)=true
  ·rw[if_pos hc] at h
   by_cases hx:x=n
   ·subst hx
    have hk:k= .free:=by
     simp only[Ac] at hc
     exact beq_iff_eq.mp hc.1.1
    subst hk
    exact .inl Bg
   ·have hb:(x==n)=false:=beq_eq_false_iff_ne.mpr hx
    simp only[Ca,hb] at h
    rcases YG (env:=env) h with z|z
    ·exact .inl (Av _ z)
    ·exact .inr (Av _ z)
  ·rw[if_neg hc] at h
   by_cases hx:x=n
   ·subst hx
    rw[Dk] at h
    rcases h with z|z
    ·cases z;exact .inr Bg
    ·cases z;exact .inl Bg
   ·have hb:(x==n)=false:=beq_eq_false_iff_ne.mpr hx
    simp only[Ca,hb] at h
    rcases YG (env:=env) h with z|z
    ·exact .inl (Av _ z)
    ·exact .inr (Av _ z)
theorem O4{X:Cx}{aa:List (Addr×Obj)}{σ:St}{H2:Hp}{s2:Ad}{E:Value->Ad->Prop}{tg iter elt:Expr}{ifs:List Expr}{scope:Scope}{pos:Pos}{N':List Str}{ix:List Nat}{nl:Nat}{g:TG}{tt:TT}{te:TE}
  {cl:List (Str×Addr)} {J:It} {fp:List Addr} {it:Addr} {tn:Nat->Heap->Prop} {Q:V->Hp->Prop} {RR:Value->Addr->Ma->Ad->Prop}
  (hc:X.calm=true) (S:WM X N' ix scope) (hnl:N'.length=ix.length+nl)
  (bx: ∀x c,cl.lookup x=some c->X.env.cells.lookup x=some c) (iu: ∀x,(x,Ba)∈scope.names-> ∃c,cl.lookup x=some c)
  (blk: ∀(cl:List (Str×Addr)) (s1:Ad) (H1:Hp) (fp:List Addr),Blk (cD X N' scope cl s1 H1 fp) tg ifs elt g tt te)
  (I2:c7 X aa σ H2 s2) (T:JJ X.prog X.w X.K tg J fp it tn) (st2:tn 0 s2.heap) (f2: ∀b∈fp,RI X aa H2 b)
  (h : ∀ D,H2 D = none -> zCN D ix nl J g tt te σ H2 fun H' => Q (.ref D) H')
  (fin: ∀(D C:Addr) (s':Ad) (H':Hp),c7 X aa σ H' s'->(∃m,s'.heap.Ns C m)->C≠X.env.locals->(∀x c,X.env.cells.lookup x=some c->c≠C)→
   (∀(σ':St) (s'':Ad) (h'':Heap),c7 X aa σ' H' s''->Ef C s''.heap h''->c7 X aa σ' H' {s'' with heap:=h''})->Q (.ref D) H'->RR (.ref D) C (.ok .next) s'):
  wpAny (model X.prog X.w) X.A (Qb []) (fun acc s₃=>wpAny (model X.prog X.w) X.A (Je scope X.env.globals cl [] X.env.qual none .none (some X.env)) (fun iw s₄=>
   Ej (model X.prog X.w) X.A (.compStart (.ListComp elt [⟨tg,iter,ifs,0⟩] scope pos) 0 (.ref it) acc {iw with scope:=relabel scope X.env}) (RR acc iw.locals) s₄) E s₃) E s2:=by
 refine Cz (RB ?_)
 dsimp only
 have I1:c7 X aa σ (bL H2 s2.heap.objs.size (.lst [])) {s2 with heap:=s2.heap.push {cls:= .type "list",dict:=none,data:= .seq ([]:List Value).toArray}}:=
  I2.lnew (t':=s2.toks) (ys:=[]) (its:=[]) .nil (Ek _)
 have hDn:H2 s2.heap.objs.size=none:=I2.hok.fresh (As _)
 obtain⟨W,⟨m0,w0⟩,turn⟩:=h _ hDn
 generalize hs1:({s2 with heap:=s2.heap.push {cls:= .type "list",dict:=none,data:= .seq ([]:List Value).toArray}}:Ad)=s1 at I1
 have cv:s2.heap.push {cls:= .type "list",dict:=none,data:= .seq ([]:List Value).toArray}=s1.heap:=by rw[<- hs1]
 rw[cv]
 have old: ∀b o,s1.heap.get? b=some o->(Jn (s1.heap.push {cls:= .type "dict",data:= .dict #[]}) scope.names).get? b=some o:=fun b o e=>Ii _ _ _ _ (Ae _ e)
 have hns₁:(Jn (s1.heap.push {cls:= .type "dict",data:= .dict #[]}) scope.names).Ns s1.heap.objs.size (fun _=>none):=(Qp s1.heap (.type "dict")).keeps fun b o e=>Ii _ _ _ _ e
 have okc:=cellsFrom_ok scope.names (s1.heap.push {cls:= .type "dict",data:= .dict #[]}) (s1.heap.objs.size+1) [] ⟨fun _ _ hm=>(nomatch hm),Jm⟩ (by rw[Ch];exact As _)
 rw[Ch] at okc
 generalize hz1:Jn (s1.heap.push {cls:= .type "dict",data:= .dict #[]}) scope.names=h₁ at old hns₁ okc
 rw[VR]
 generalize hnc:cellsFrom (s1.heap.objs.size+1) scope.names []=nc at okc
 have ncm: ∀x c,nc.lookup x=some c->(x,Bp)∈scope.names/\h₁.IsCell c none/\s1.heap.objs.size+1<=c:=fun x c e=>by
  have hm:=Bi e
  exact⟨LW (n:=s1.heap.objs.size+1) (by rw[hnc];exact hm),okc.empty x c hm⟩
 have nch: ∀x,(x,Bp)∈scope.names-> ∃c,nc.lookup x=some c:=fun x h=>by
  obtain⟨c,hc⟩:=LV (n:=s1.heap.objs.size+1) h
  rw[hnc] at hc
  exact UL hc
 have gf: ∀b∈fp,b<s2.heap.objs.size:=fun b hb=>by
  obtain⟨o,e,_⟩:=T.obj _ _ st2 b hb
  exact Aj e
 have ij:s1.heap.objs.size=s2.heap.objs.size+1:=by rw[<- cv,Ch]
 have ju: ∀b o,s2.heap.get? b=some o->s1.heap.get? b=some o:=fun b o e=>by rw[<- cv];exact Ae _ e
 have cw: ∀x c,cl.lookup x=some c->c<s1.heap.objs.size:=fun x c e=>by
  obtain⟨v,q⟩:=I1.cell x c (bx x c e)
  exact q.lt
 have o7: ∀b∈UW X.stack,b<s1.heap.objs.size:=fun b hb=>by
  obtain⟨_,o,ho,_⟩:=(I1.stack).mem hb
  exact Aj ho
 have okY:(cD X N' scope (nc++cl) s1 (bL H2 s2.heap.objs.size (.lst [])) fp).Ok:=by
  refine⟨I1.ok.mod,S.kind,I1.ok.glob,I1.ok.blt,As _,fun x y c e1 e2=> ?_,fun x hx=> ?_,fun x c hf e=> ?_,I1.ok.hd,I1.ok.frames,.inl rfl,fun b hb=>⟨?_,fun x c e=> ?_⟩,fun b o e=> ?_,
   Dy I1.ok.bsz I1.sz,fun b o e hb=> ?_,fun b hb hb2=> ?_,I1.stack,I1.stkFree⟩
  ·rcases bO e1 with n1|⟨_,o1⟩
   ·rcases bO e2 with n2|⟨_,o2⟩
    ·exact Mj okc.apart (Bi n1) (Bi n2)
    ·exact absurd (Aq (cw y c o2) (Dw (ncm x c n1).2.2)) (Bw _)
   ·rcases bO e2 with n2|⟨_,o2⟩
    ·exact absurd (Aq (cw x c o1) (Dw (ncm y c n2).2.2)) (Bw _)
    ·exact I1.ok.inj x y c (bx x c o1) (bx y c o2)
  ·cases q:nc.lookup x with
   | some c => exact ⟨c,YR q⟩
   |none=>
    rcases YG hx with h|h
    ·obtain⟨c,hc⟩:=iu x h
     exact⟨c,(X2 q).trans hc⟩
    ·obtain⟨c,hc⟩:=nch x h
     rw[q] at hc
     cases hc
  ·have hx:(x,Bp)∈scope.names:=Bi (beq_iff_eq.mp hf)
   obtain⟨c',hc'⟩:=nch x hx
   have:=YR (m:=cl) hc'
   have e:(nc++cl).lookup x=some c:=e
   rw[this] at e
   cases e
   exact Dw (ncm x c hc').2.2
  ·exact Be (Aq (gf b hb) (by show s2.heap.objs.size <= s1.heap.objs.size;rw [ij];exact Gf _))
  ·rcases bO e with n1|⟨_,o1⟩
   ·have h1:=gf b hb
    have h2:=(ncm x c n1).2.2
    rw[ij] at h2
    exact fun z=>absurd (z▸h2) (Nw (Aq h1 (Dy (Gf _) (Gf _))))
   ·exact(f2 b hb).2.2.2.2.1 x c (bx x c o1)
  ·exact I1.bs b o e
  ·have:=(f2 b hb)
   obtain⟨o',e',_⟩:=T.obj _ _ st2 b hb
   have hlt:=Aq (Aj e) I1.ok.bsz
   rcases this.2.2.2.1 with z|z
   ·exact I1.ok.noex b o e z
   ·exact absurd (Aq hlt z) (Bw _)
  ·rcases Ao.mp (I1.stkSub b hb2) with z|z
   ·exact(f2 b hb).2.1 z
   ·exact(f2 b hb).2.2.1 z
 have ev : (bN ix σ ++ Ap nl none).length = N'.length := by rw [Cg,Hi,hnl];simp [bN]
 have IY:c7 (cD X N' scope (nc++cl) s1 (bL H2 s2.heap.objs.size (.lst [])) fp) [] (bN ix σ++Ap nl none) (bL H2 s2.heap.objs.size (.lst [])) {s2 with heap:=h₁}:=by
  refine⟨okY,?_,I2.bare,Un.kept old,⟨_,hns₁,fun j x v e1 e2 e3=> ?_⟩,fun x c e=> ?_,I1.hok.fresh (As _),fun x c e=> ?_,fun p hp=>absurd (show p∈([]:List (Addr×Obj)) from hp) (by simp),I1.hok.kept old,ev⟩
  ·show s2.os=s1.os
   rw[<- hs1]
  ·have hj:j<ix.length:=by
    by_cases hj:j<ix.length
    ·exact hj
    ·exfalso
     have hl:(bN ix σ).length=ix.length:=by simp[bN]
     rw[Bz (by rw[hl];omega),Cb] at e2
     split at e2<;>cases e2
   have hl:(bN ix σ).length=ix.length:=by simp[bN]
   rw [Am (by rw [hl];exact hj)] at e2
   have hci:=S.cap j hj
   obtain⟨i,hi⟩: ∃i,ix[j]? =some i:=⟨ix[j],by simp[hj]⟩
   rw[hi] at hci
   have hNi:X.N[i]? =some x:=by
    have:N'[j]? =X.N[i]? :=hci
    rw[<- this];exact e1
   have hσ:σ[i]? =some (some v):=by
    unfold bN at e2
    rw[Cw,hi] at e2
    have e2':(σ[i]?).join=some v:=by simpa using e2
    cases q:σ[i]? with
    | none => rw [q] at e2';cases e2'
    | some o => rw [q] at e2';rw [show o = some v from e2']
   have hfl:scope.names.lookup x=some .free:=S.capf x (by
    rw[Hk]
    exact⟨j,by rw[By hj];exact e1⟩)
   have bn:(x,Ba)∈scope.names:=Bi hfl
   have hpk:X.env.kindOf x=some .cell∨X.env.kindOf x=some .free:=by exact S.free (x,.free) bn rfl
   have jw:Vis X.env.scope x:=by
    rcases hpk with z|z
    ·exact .inr (.inl z)
    ·exact .inr (.inr z)
   obtain⟨m,hn,k4⟩:=I1.loc
   obtain⟨u,ru,l⟩:=k4 i x v hNi hσ jw
   refine⟨u,ru,?_⟩
   rcases l with⟨hk,_⟩|⟨hk,c,ec,z⟩
   ·rcases hpk with q|q<;>rw[hk] at q<;>cases q
   ·obtain⟨c',hc'⟩:=iu x bn
    have:c'=c:=by
     have:=bx x c' hc'
     rw[ec] at this;exact(Bb this).symm
    subst this
    have jz:nc.lookup x=none:=by
     cases q:nc.lookup x with
     |none=>rfl
     |some d=>
      have:=S.cel (x,.cell) (ncm x d q).1 rfl
      rw[hfl] at this
      cases this
    refine .inr ⟨WX hfl,c',(X2 jz).trans hc',?_⟩
    ·obtain⟨o,ho,hd⟩:=z
     exact⟨o,old _ _ ho,hd⟩
  ·rcases bO e with n1|⟨_,o1⟩
   ·exact⟨none,(ncm x c n1).2.1⟩
   ·obtain⟨v,o,ho,hd⟩:=I1.cell x c (bx x c o1)
    exact⟨v,o,old _ _ ho,hd⟩
  ·rcases bO e with n1|⟨_,o1⟩
   ·exact I1.hok.fresh (Dw (ncm x c n1).2.2)
   ·exact I1.freeC x c (bx x c o1)
 have back: ∀{pY:List (Addr×Obj)} {σ':St} {H':Hp} {s':Ad},c7 (cD X N' scope (nc++cl) s1 (bL H2 s2.heap.objs.size (.lst [])) fp) pY σ' H' s'->c7 X aa σ H' s':=fun{pY σ' H' s'} J'=>
  I1.call' J'.os J'.base J'.hok J'.bare fun b hb=>⟨(f2 b hb).2.2.2.1,(f2 b hb).2.1,(f2 b hb).2.2.2.2.1,(f2 b hb).2.2.2.2.2⟩
 have stat: ∀{H':Hp} {pY:List (Addr×Obj)},(∀b∈fp,H' b=none)->pY=[]-> ∀b∈fp,RI (cD X N' scope (nc++cl) s1 (bL H2 s2.heap.objs.size (.lst [])) fp) pY H' b:=fun{H' pY} hn hp b hb=>by
  subst hp
  refine⟨hn b hb,(okY.exf b hb).1,okY.exfs b hb,.inl hb,(okY.exf b hb).2,fun p hp=>absurd (show p∈([]:List (Addr×Obj)) from hp) (by simp)⟩
 have st1:tn 0 h₁:=T.keep 0 s2.heap h₁ st2 fun b hb o e=>old b o (ju b o e)
 have fr1: ∀b∈fp,(bL H2 s2.heap.objs.size (.lst [])) b=none:=fun b hb=>by
  rw[cH (Be (gf b hb))]
  exact(f2 b hb).1
 have loop: ∀s₃:Ad,s₃={s2 with heap:=h₁}→
   Ej (model X.prog X.w) X.A (.compLoop (.ListComp elt [⟨tg,iter,ifs,0⟩] scope pos) 0 (.ref it) (.ref s2.heap.objs.size) (Oi scope (nc++cl) s1.heap.objs.size X.env)) (RR (.ref s2.heap.objs.size) s1.heap.objs.size) s₃:=by
  rintro s₃ rfl
  refine EE (fun n s'=> ∃i σ' H' acc,c7 (cD X N' scope (nc++cl) s1 (bL H2 s2.heap.objs.size (.lst [])) fp) [] σ' H' s'/\σ'.take ix.length=bN ix σ/\tn i s'.heap/\(∀b∈fp,H' b=none)/\W i n acc H') ?_ m0
   ⟨0,_,_,[],IY,by rw [Ff (by simp [bN])];exact Dt (by simp [bN]),st1,fr1,w0⟩
  rintro n s' ⟨i,σ',H',acc,J',hσ,st',fr',w'⟩
  have Jc:c7 (cD X N' scope (nc++cl) s1 (bL H2 s2.heap.objs.size (.lst [])) fp) [] (bN ix σ++Ap nl none) H' s':=by
   refine J'.weak (by rw[ev];exact J'.len.symm) fun j v e=> ?_
   have hl:(bN ix σ).length=ix.length:=by simp[bN]
   by_cases hj:j<ix.length
   ·rw [Am (by rw [hl];exact hj),<- hσ,By hj] at e
    exact e
   ·rw [Bz (by rw [hl];omega),Cb] at e
    split at e<;>cases e
  rcases turn i n acc H' w' with⟨stop,q⟩|⟨go,N,hN,step⟩
  ·refine An (T.done (cD X N' scope (nc ++ cl) s1 (bL H2 s2.heap.objs.size (.lst [])) fp) rfl rfl rfl hc i [] s' _ H' (fun _ _ => False) Jc (stat fr' rfl) st' stop) (fun r s4 ⟨hr,I4⟩ => ?_) fun _ _ z => z
   subst hr
   have IX:=back I4
   obtain⟨m,hm,_⟩:=I4.loc
   exact fin _ _ s4 H' IX ⟨m,hm⟩ (Fn I1.lt) (fun x c e z=>by
    obtain⟨v,q⟩:=I1.cell x c e
    have:=q.lt
    rw[z] at this
    exact Bw _ this) (fun σ'' s'' h'' I'' sb=>c7.offNew I1 I'' I4.free fun b o hb e=>(sb.2 b hb).trans e) q
  ·refine An (T.item (cD X N' scope (nc ++ cl) s1 (bL H2 s2.heap.objs.size (.lst [])) fp) rfl rfl rfl hc i [] s' _ H' (fun _ _ => False) Jc (stat fr' rfl) st' go) (fun r s4 ⟨u,hr,h4⟩ => ?_) fun _ _ z => z
   subst hr
   refine An h4 (fun _ s5 ⟨x,H5,I5,r5,y5,st5,fr5⟩=> ?_) fun _ _ z=>z
   have I5':=I5.pinned (stat fr5 rfl) (T.obj _ _ st5)
   obtain⟨btg,bts,bel⟩:=blk (nc++cl) s1 (bL H2 s2.heap.objs.size (.lst [])) fp
   refine An (btg _ s5 _ H5 x u _ I5' r5 (step x H5 y5)) (fun _ s6 ⟨σ6,H6,I6,hσ6,q6⟩=> ?_) fun _ _ z=>z
   have again: ∀{H7:Hp} {s7:Ad} {ag:List V},c7 (cD X N' scope (nc++cl) s1 (bL H2 s2.heap.objs.size (.lst [])) fp) ([]++UQ fp s5.heap) σ6 H7 s7->N ag H7→
     ∃m,m<n/\ ∃i σ' H' acc,c7 (cD X N' scope (nc++cl) s1 (bL H2 s2.heap.objs.size (.lst [])) fp) [] σ' H' s7/\σ'.take ix.length=bN ix σ/\tn i s7.heap/\(∀b∈fp,H' b=none)/\W i m acc H':=fun{H7 s7 ag} I7 n7=>by
    obtain⟨m',hm,w7⟩:=hN ag H7 n7
    refine⟨m',hm,i+1,σ6,H7,ag,I7.unpinned,hσ6,T.keep _ _ _ st5 fun b hb o e=>(I7.pin (b,o) (Ar _ (Ar _ (Z3 hb e)))).1,fun b hb=> ?_,w7⟩
    obtain⟨o,e,d⟩:=T.obj _ _ st5 b hb
    exact(I7.pin (b,o) (Ar _ (Ar _ (Z3 hb e)))).2.1
   refine An (bts _ s6 σ6 H6 _ I6 q6) (fun okb s7 ⟨H7,I7,q7⟩=> ?_) fun _ _ z=>z
   cases okb with
   | false => exact again I7 q7
   |true=>
    refine An (bel _ s7 σ6 H7 _ I7 q7) (fun v s8 ⟨y,H8,I8,r8,hD8,hz8,n8⟩=> ?_) fun _ _ z=>z
    refine An (aY (X:=cD X N' scope (nc++cl) s1 (bL H2 s2.heap.objs.size (.lst [])) fp) _ s8 σ6 H8 (.ref s2.heap.objs.size) [y] (.ref s2.heap.objs.size) [v] (fun _ H9=>N (acc++[y]) H9) I8 rfl (.cons r8 .nil)
     ⟨s2.heap.objs.size,acc,y,rfl,rfl,hD8,hz8,n8⟩) (fun _ s9 ⟨_,H9,I9,_,n9⟩=>again I9 n9) fun _ _ z=>z
 have he:({newEnv scope s1.heap.objs.size X.env.globals (nc++cl) X.env.qual none .none (some X.env) builtinsNs with scope:=relabel scope X.env}:Env)=Oi scope (nc++cl) s1.heap.objs.size X.env:=rfl
 exact Ki (loop _ rfl) (T.self _ 0 _ _ _ st1 (loop _ rfl))
theorem BD{X:Cx}{tg iter elt:Expr}{ifs:List Expr}{scope:Scope}{pos:Pos}{N':List Str}{ix:List Nat}{nl:Nat}{wi:TI}{g:TG}{tt:TT}{te:TE}
  (hc:X.calm=true) (S:WM X N' ix scope) (hnl:N'.length=ix.length+nl) (hi:PI X tg iter wi)
  (blk: ∀(cl:List (Str×Addr)) (s1:Ad) (H1:Hp) (fp:List Addr),Blk (cD X N' scope cl s1 H1 fp) tg ifs elt g tt te)
  (hs: ∀x,foldedSetIterable iter X.env x=pure x:=by intro _;rfl):PE X (.ListComp elt [⟨tg,iter,ifs,0⟩] scope pos) (CQ ix nl wi g tt te):=by
 intro aa s σ H Q I h
 rw[eval_ListComp]
 obtain⟨cl,e1,e2,e3⟩:=QO (env:=X.env) (scope:=scope) fun y hy hf=>I.ok.has y.1 (S.free y hy hf)
 refine Fd (use:=none) (cl:=cl) rfl hs e1 S.kind S.names (An (hi aa s σ H _ I h) (fun xv s₁ h₁=>An h₁ (fun itv s₂ h₂=> ?_) fun _ _ e=>e) fun _ _ e=>e)
 obtain⟨it,fp,tn,J,H2,e,I2,T,st2,f2,q⟩:=h₂
 subst e
 refine O4 (Q:=Q) (RR:=fun acc C=>Qd (model X.prog X.w) X.A X.xe none (EP X aa σ Q) acc C) hc S hnl e2 e3 blk I2 T st2 f2 q ?_
 intro D C s' H' I' hm hC1 hC2 hb hq
 obtain⟨m,hm⟩:=hm
 exact⟨m,hm,fun h'' sb=>⟨.ref D,H',hb σ s' h'' I' sb,rfl,hq⟩⟩
section
variable{X:Cx}{K:Ai}{ml:List Nat}{pi pt pe pu:Bool}{pos:Pos}{ix:List Nat}{nl:Nat}{f:VF}
noncomputable def RM(N N':List Str)(ix:List Nat)(names:List (Str×NameKind))(k:Str->Option NameKind):Bool:=
 names.all (fun y=>y.2 != .cell || names.lookup y.1==some .cell) && (names.all (fun y=>y.2 != .local || names.lookup y.1==some .local) && (names.all (fun y=>y.2 != .free || (k y.1==some .cell || k y.1==some .free)) &&
  (decide N'.Nodup && ((Ay ix.length).all (fun j=>N'[j]? ==(ix[j]?).bind fun i=>N[i]?) && (N'.take ix.length).all fun x=>names.lookup x==some .free))))
theorem YB{N':List Str}{scope:Scope}(hk:scope.kind= .function)(h:RM X.N N' ix scope.names X.env.kindOf=true):WM X N' ix scope:=by
 unfold RM at h
 simp only[Ac,Cu,Ie,bne_iff_ne,beq_iff_eq,decide_eq_true_eq,Dn] at h
 obtain⟨h1,h2,h3,h4,h5,h6⟩:=h
 exact⟨hk,fun y hy e=>(h1 y hy).resolve_left fun z=>z e,fun y hy e=>(h2 y hy).resolve_left fun z=>z e,fun y hy e=>(h3 y hy).resolve_left fun z=>z e,h4,h5,h6⟩
abbrev BlkC(X:Cx)(K:Ai)(N':List Str)(ix:List Nat)(scope:Scope)(tg:Expr)(ifs:List Expr)(elt:Expr)(gg:VG)(pt:Bool)(tb:VB)(pe:Bool)(fe:VF):Prop:=N'.Nodup-> ∀(cl:List (Str×Addr)) (s1:Ad) (H1:Hp) (fp:List Addr),Blk (cD X N' scope cl s1 H1 fp) tg ifs elt (D1 K (Ay ix.length) gg) (TB K (Ay ix.length) pt tb) (TV K (Ay ix.length) pe true true fe)
theorem aN{tg iter elt:Expr}{ifs:List Expr}{scope:Scope}{fi:VI}{gg:VG}{tb:VB}{fe:VF}(N':List Str)(ix:List Nat)(nl:Nat)(hi:PI X tg iter (F3 K ml pi fi))(blk:BlkC X K N' ix scope tg ifs elt gg pt tb pe fe)(hc:X.calm=true:=by rfl)(hk:scope.kind= .function:=by rfl)(hok:RM X.N N' ix scope.names X.env.kindOf=true:=by rfl)(hnl:N'.length=ix.length+nl:=by rfl)(hnd:ix.Nodup:=by decide)
  (hs: ∀x,foldedSetIterable iter X.env x=pure x:=by intro _;rfl):PE X (.ListComp elt [⟨tg,iter,ifs,0⟩] scope pos) (TN K ml (pi && pt && pe) (aD ix nl fi gg tb fe)):=
 (BD hc (YB hk hok) hnl hi (blk (YB hk hok).nd) hs).imp fun _ _ _ h=>HA hnd h
theorem BP{i:Nat}{y:Str}{py cr:Pos}{tg iter elt:Expr}{ifs:List Expr}{scope:Scope}{N':List Str}{wi:TI}{g:TG}{tt:TT}{te:TE}
  (hN:X.N.Nodup) (hi':X.N[i]? =some y) (hy:X.env.scope.names.lookup y=some .local)
  (hc:X.calm=true) (S:WM X N' ix scope) (hnl:N'.length=ix.length+nl) (hi:PI X tg iter wi)
  (blk: ∀(cl:List (Str×Addr)) (s1:Ad) (H1:Hp) (fp:List Addr),Blk (cD X N' scope cl s1 H1 fp) tg ifs elt g tt te)
  (hsw:Fm (.ListComp elt [⟨tg,iter,ifs,0⟩] scope pos) (some (.Name y py)) cr.line X.env=pure true:=by rfl)
  (hs: ∀x,foldedSetIterable iter X.env x=pure x:=by intro _;rfl):PS X (.Assign [.Name y py] (.ListComp elt [⟨tg,iter,ifs,0⟩] scope pos) cr) (CP (CQ ix nl wi g tt te) (JZ i)):=by
 intro aa s σ H D I h
 rw[Kw _ _ _ _ hsw]
 refine Aa (Cv (Aa ?_))
 show wpAny _ X.A (do let _<- comprehension (.ListComp elt [⟨tg,iter,ifs,0⟩] scope pos) scope X.env _ (Qb []) false (eval iter X.env) (some (assign (.Name y py) X.env))) _ _ s
 obtain⟨cl,e1,e2,e3⟩:=QO (env:=X.env) (scope:=scope) fun y hy hf=>I.ok.has y.1 (S.free y hy hf)
 refine Aa (An (Fd (use:=some (assign (.Name y py) X.env)) (cl:=cl) (Q:=fun _ s'=>SP X aa D .next s') rfl hs e1 S.kind S.names
  (An (hi aa s σ H _ I h) (fun xv s₁ h₁=>An h₁ (fun itv s₂ h₂=> ?_) fun _ _ e=>e) fun _ _ e=>e)) (fun _ s' hq=>Af (Af hq)) fun _ _ e=>e)
 obtain⟨it,fp,tn,J,H2,e,I2,T,st2,f2,q⟩:=h₂
 subst e
 refine O4 (Q:=fun v H'=>D.nx (σ.set i (some v)) H') (RR:=fun acc C=>Qd (model X.prog X.w) X.A X.xe (some (assign (.Name y py) X.env)) (fun _ s'=>SP X aa D .next s') acc C) hc S hnl e2 e3 blk I2 T st2 f2 q ?_
 intro Dl C s' H' I' hm hC1 hC2 hb hq
 obtain⟨m,hm⟩:=hm
 show wpAny _ X.A (assign (.Name y py) X.env (.ref Dl)) _ _ _
 refine Ft (SA I' hN hi' (.inl hy) (v:= .ref Dl) rfl (fun s'' I'' ⟨a,hsb,ha⟩=> ?_) (.inr hy))
 have hCa:C≠a:=by
  rcases ha with z|z
  ·rw[z];exact hC1
  ·exact Ee (hC2 y a z)
 exact⟨m,hm.sameBut hsb hCa,fun h'' sb=>⟨_,H',hb _ s'' h'' I'' sb,hq⟩⟩
theorem T0{i:Nat}{y:Str}{py cr:Pos}{tg iter elt:Expr}{ifs:List Expr}{scope:Scope}{fi:VI}{gg:VG}{tb:VB}{fe:VF}(o:Bool)(hN:X.N.Nodup)(N':List Str)(ix:List Nat)(nl:Nat)(hi:PI X tg iter (F3 K ml pi fi))(blk:BlkC X K N' ix scope tg ifs elt gg pt tb pe fe)(hi':X.N[i]? =some y:=by rfl)(hy:X.env.scope.names.lookup y=some .local:=by rfl)
  (hc:X.calm=true:=by rfl) (hk:scope.kind= .function:=by rfl) (hok:RM X.N N' ix scope.names X.env.kindOf=true:=by rfl) (hnl:N'.length=ix.length+nl:=by rfl) (hnd:ix.Nodup:=by decide) (hm:i∉ml:=by decide)
  (hsw:Fm (.ListComp elt [⟨tg,iter,ifs,0⟩] scope pos) (some (.Name y py)) cr.line X.env=pure true:=by rfl)
  (hs: ∀x,foldedSetIterable iter X.env x=pure x:=by intro _;rfl):PS X (.Assign [.Name y py] (.ListComp elt [⟨tg,iter,ifs,0⟩] scope pos) cr) (U5 K ml (aZ i (if o then xO (aD ix nl fi gg tb fe) else xV (aD ix nl fi gg tb fe)))):=
 (BP hN hi' hy hc (YB hk hok) hnl hi (blk (YB hk hok).nd) hsw hs).imp fun D σ H h=>CY (fun σ H Q z=>HA hnd (zBW (pu:=pi && pt && pe) z)) hm h
end
section
variable{X:Cx}{K:Ai}{H:Hp}
noncomputable def WE:List Int->Int
 |[]=>0
 |[i]=>i
 |i::j::r=>let m:=WE (j::r);if m<i then m else i
theorem zBA: ∀{ns:List Int} {m:Int},m∈ns->(∀a∈ns,m<=a)->m=WE ns
 | [i],m,h,_ => Ax.mp h
 | i :: j :: r,m,h,h2 => by
  have sp:WE (j::r)∈j::r/\ ∀a∈j::r,WE (j::r)<=a:=spec (j::r) (by simp)
  have h3:=h2 (WE (j::r)) (Av _ sp.1)
  have h4:=h2 i Bg
  show m=if WE (j::r)<i then WE (j::r) else i
  rcases Ao.mp h with e|e
  ·split<;>omega
  ·have h5:=sp.2 m e
   split<;>omega
where
 spec: ∀ns:List Int,ns≠[]->WE ns∈ns/\ ∀a∈ns,WE ns<=a
  | [],h => absurd rfl h
  | [i],_ => ⟨Ax.mpr rfl,fun a h => by rw [Ax.mp h];exact Int.le_refl _⟩
  | i :: j :: r,_ => by
   obtain⟨h1,h2⟩:=spec (j::r) (by simp)
   show(if WE (j::r)<i then WE (j::r) else i)∈_/\ ∀a∈i::j::r,(if WE (j::r)<i then WE (j::r) else i)<=a
   split
   ·refine ⟨Av _ h1,fun a h => ?_⟩
    rcases Ao.mp h with e|e
    ·omega
    ·exact h2 a e
   ·refine ⟨Bg,fun a h => ?_⟩
    rcases Ao.mp h with e|e
    ·omega
    ·have:=h2 a e
     omega
end
section
variable{X:Cx}{K:Ai}{ml:List Nat}{e a b c:Expr}{es:List Expr}{pa ta ia pb tb ib pc tc ic pu bt bi ps bs:Bool}{fa fb fc f:VF}{B B':Bs}{O:Nat->Option Addr}{H H1 H':Hp}{σ:St}{δ δ':Ev}{v:V}{d:dM}{p:Addr}{pos:Pos}
noncomputable def K1:List (Str×bX)->Str->Option bX
 |[],_=>none
 |(y,F)::r,x=>if y=x then some F else K1 r x
def F4(X:Cx)(K:Ai)(mF:List Nat)(n:Nat)(tb:List (Str×bX)):Prop:= ∀x F a,K1 tb x=some F->Fq K mainGlobals x=some (some (.ref a))->FnAt X a (spV K mF n F)
theorem G8{mF:List Nat}{n:Nat}:F4 X K mF n []:=fun _ _ _ h=>nomatch h
theorem TR{x:Str}{kk j n:Nat}{qs:List Str}{mF:List Nat}{F:bX}{ff:Addr}{tb:List (Str×bX)}(hK:X.K=K)(hm: ∀x a,Fq K mainGlobals x=some (some (.ref a))->X.mg x=some (.ref a))(hr:aH j X.A)
  (D:Def X.prog X.w K X.mg X.base x kk qs (spV K mF n F) ff) (hk:kk<=j) (t:F4 X K mF n tb):F4 X K mF n ((x,F)::tb):=fun y G a h1 h2=>by
 unfold K1 at h1
 split at h1
 ·rename_i hxy
  subst hxy
  cases h1
  have e:=(hm x a h2).symm.trans D.at_
  cases e
  subst hK
  exact D.fnAt hr hk
 ·exact t y G a h1 h2
end
section
variable{X:Cx}{K:Ai}{ml:List Nat}{e a b c:Expr}{es:List Expr}{pa ta ia pb tb ib pc tc ic pu bt bi ps bs:Bool}{fa fb fc f:VF}{pos p':Pos}{d:dM}{x:Str}
theorem vv(i:Nat)(hN:X.N[i]? =some x:=by rfl)(hv:Vis X.env.scope x:=by first|exact Aw rfl|exact Al (Aw rfl)|exact Al (Al rfl))(hd:(x==("__debug__":Str))=false:=by decide)
  (hcd:(x==("__classdict__":Str))=false:=by decide):PE X (.Name x pos) (TV K ml true true true (fV i)):=zCU (IH hN hv hd hcd)
theorem vo(i:Nat)(hN:X.N[i]? =some x:=by rfl)(hv:Vis X.env.scope x:=by first|exact Aw rfl|exact Al (Aw rfl)|exact Al (Al rfl))(hd:(x==("__debug__":Str))=false:=by decide)
  (hcd:(x==("__classdict__":Str))=false:=by decide):PE X (.Name x pos) (TV K ml true false true (fO i)):=zCV (IH hN hv hd hcd)
theorem YH(hu:X.A.units+1<cLine)(ha:PE X a (TV K ml pa ta ia fa))(hb:PE X b (TV K ml pb tb ib fb))(hK:X.K=K:=by rfl)(hx:LK b:=by exact fun _ _=>rfl)(hs:(pb || (ta && ia))=true:=by rfl):PE X (.Subscript a b pos) (TV K ml (pa && pb) ia ia (f2 b5 fa fb)):=
 zFV (kIxA hK hu) zHO ha hb hx hs
theorem veq(hu:X.A.units+64<cLine)(ha:PE X a (TV K ml pa ta ia fa))(hb:PE X b (TV K ml pb tb ib fb))(hK:X.K=K:=by rfl)(hs:(pb || (ta && ia))=true:=by rfl):PE X (.Compare a [.Eq] [b] pos) (TV K ml (pa && pb) true true (f2 WK fa fb)):=
 M0 (kEqD hK hu) s_eq ha hb (bK _) hs
theorem X8(hu:X.A.units+64<cLine)(ha:PE X a (TV K ml pa ta ia fa))(hb:PE X b (TV K ml pb tb ib fb))(hK:X.K=K:=by rfl)(hs:(pb || (ta && ia))=true:=by rfl):PT X (.Compare a [.Eq] [b] pos) (TB K ml (pa && pb) (fB (f2 WK fa fb))):=
 b9 (kEqD hK hu) s_eq ha hb (bK _) hs
theorem cF{kk j n:Nat}{qs:List Str}{mF:List Nat}{F:bX}{ff:Addr}{fs:OZ}(D:Def X.prog X.w K X.mg X.base x kk qs (spV K mF n F) ff)(hr:aH j X.A)(ha:PA X (e::es) (F2 K ml ps fs))(hK:X.K=K:=by rfl)(hk:kk<=j:=by decide)(hg:Gl X x:=by rfl)(hdb:(x==("__debug__":Str))=false:=by decide)
  (he:starEach (e::es) X.env=(false,eval e X.env)::starEach es X.env:=by rfl) (hpl:(Dq pos (starEach es X.env)).any (·.1)=false:=by rfl):
  PE X (.Call (.Name x p') (e::es) [] pos) (TV K ml (ps && mF.isEmpty) true true (c9 n mF F fs)):=zAC hK D hr hk hg ha hdb he hpl
theorem Y4(hm:X.mg "len"=none) (ha:PE X a (TV K ml pa ta ia fa)) (hK:X.K=K:=by rfl) (hg:Gl X "len":=by rfl) (he:starEach (a::[]) X.env=(false,eval a X.env)::starEach [] X.env:=by rfl):PE X (.Call (.Name "len" p') [a] [] pos) (TV K ml pa true true (f1 Z6 fa)):=
 HC (zHK hK) zGH hg hm zFP ha (by decide) (by decide) he
theorem DC{n:String}(hm:X.mg x=none)(hv:Bl x=some (.type n))(hg:Gl X x:=by rfl)(hn:x≠ "__name__":=by decide) (hd:(x==("__debug__":Str))=false:=by decide):PE X (.Name x pos) (TV K ml true true true (fC (.ty n))):=
 FW (zAX (v:= .ty n) hg hm hv rfl hn hd) fun _ _ _=> .ty _
theorem OT(hm:X.mg "isinstance"=none) (ha:PE X a (TV K ml pa ta ia fa)) (hb:PE X b (TV K ml pb tb ib fb)) (hK:X.K=K:=by rfl) (hg:Gl X "isinstance":=by rfl)
  (he:starEach (a::[b]) X.env=(false,eval a X.env)::starEach [b] X.env:=by rfl) (he2:starEach (b::[]) X.env=(false,eval b X.env)::starEach [] X.env:=by rfl) (hpl:(Dq pos (starEach [b] X.env)).any (·.1)=false:=by rfl) (hs:(pb || (ta && ia))=true:=by rfl):
  PE X (.Call (.Name "isinstance" p') [a,b] [] pos) (TV K ml (pa && pb) true true (f2 V1 fa fb)):=Y3 (kIsi hK) zGI hg hm cK ha hb (by decide) (by decide) he he2 hpl hs
end
def A4(K:Ai)(x:Str)(st:Stmt)(f:Addr):Prop:= ∃(oc:Value) (od:Option Addr) (kV doc pm:Value) (an:Option Addr) (cdv ct:Value) (osl:Array (Option Value)),Fq K mainGlobals x=some (some (.ref f))∧
 K.lookup f=some ⟨oc,od,.func (Ji x x (Z8 st) (bQ st) (dH st) .none kV doc pm an cdv ct),osl⟩/\Mc K cdv x=true/\Fj K (.ref f)=true
theorem a4{K:Ai}{x:Str}{st:Stmt}{f:Addr}{oc:Value}{od:Option Addr}{kV doc pm:Value}{an:Option Addr}{cdv ct:Value}{osl:Array (Option Value)}(a:Fq K mainGlobals x=some (some (.ref f)))
  (b:K.lookup f=some ⟨oc,od,.func (Ji x x (Z8 st) (bQ st) (dH st) .none kV doc pm an cdv ct),osl⟩) (c:Mc K cdv x=true) (d:Fj K (.ref f)=true):A4 K x st f:=⟨oc,od,kV,doc,pm,an,cdv,ct,osl,a,b,c,d⟩
theorem A4.ns{K:Ai}{x:Str}{st:Stmt}{f:Addr}(p:A4 K x st f):Fq K mainGlobals x=some (some (.ref f)):=by
 obtain⟨_,_,_,_,_,_,_,_,_,a,_⟩:=p
 exact a
theorem ZT{P:Au}{w:World}{K:Ai}{mg:Str->Option Value}{base h:Heap}{x:Str}{st:Stmt}{f:Addr}{ps:List Str}{sp:Sp}{k:Nat}(X:K.In h)(G:h.Ns mainGlobals mg)(p:A4 K x st f)(ok: ∀{fd:Ck},ZH K x x st f fd->bU P w K mg base CX0 k f fd ps sp)
  (hb: ∀{kV doc pm:Value} {an:Option Addr} {cdv ct:Value} (us:List Value),us.length=ps.length->bindArgs (Ji x x (Z8 st) (bQ st) (dH st) .none kV doc pm an cdv ct) ⟨us,[]⟩=pure (ps.zip us)):Def P w K mg base x k ps sp f:=by
 obtain⟨oc,od,kV,doc,pm,an,cdv,ct,osl,a,b,c,d⟩:=p
 have U:=PF (st:=st) b c d
 exact⟨Ci X G a,⟨_,ok U,U.binds fun _ _ _ _ _ _=>hb⟩,d⟩
theorem U3(P:Au)(w:World)(K:Ai)(mg:Str->Option Value)(base:Heap){x qual:Str}{st:Stmt}{f:Addr}{fd:Ck}(N ps:List Str)(k:Nat)(g:VS)(ml:List Nat)(F:ZH K x qual st f fd)(S:cV N ps (dH st))
  (am: ∀(cdv:Value) (A:Bx) (outer:List Env) (s:Ad) (H:Hp) (E:XK) (hr:aH k (A.deeper (envOfC qual (dH st) s.heap.objs.size f cdv))) (_:(A.deeper (envOfC qual (dH st) s.heap.objs.size f cdv)).units+64<cLine) (_:(A.deeper (envOfC qual (dH st) s.heap.objs.size f cdv)).units+1<cLine),
   W6 (T7 CX0 P w K mg base N qual (dH st) f cdv A outer s H E).nox (bQ st) (U5 K ml g)) (hps:ps.length<=N.length:=by decide):bU P w K mg base CX0 (k+1) f fd ps (spV K ml ps.length (aP N.length ml g)):=
 ZH.okV F S hps fun cdv A outer s H E hr=>am cdv A outer s H E hr hr.units (zCI hr)
theorem Z5{N P:List Str}{sc:Scope}(a:sc.kind= .function:=by rfl)(b:sc.isCoroutine=false:=by rfl)(c:sc.isGenerator=false:=by rfl)(d:N.Nodup:=by decide+kernel)(e:N.take P.length=P:=by rfl)
  (f: ∀x∈P,sc.names.lookup x=some .local∨sc.names.lookup x=some .cell:=by decide+kernel) (g: ∀y∈sc.names,y.2≠Ba:=by decide+kernel):cV N P sc:=⟨a,b,c,d,e,f,g⟩
section
variable{X:Cx}{K:Ai}{ml:List Nat}{e a b c d:Expr}{B:Bs}{O:Nat->Option Addr}{H:Hp}{σ:St}{δ:Ev}{pos:Pos}
noncomputable def KS(i j k l:Nat)(x y z u:VX):VS:=fun δ=>(x δ).bind fun p=>(y p.2).bind fun q=>(z q.2).bind fun r=>(u r.2).bind fun s=>
 if i<s.2.length/\j<s.2.length/\k<s.2.length/\l<s.2.length then some (.nx ((((s.2.set l s.1).set k r.1).set j q.1).set i p.1)) else none
theorem FL{i j k l:Nat}{x y z u:VX}{o:Ou}(h:KS i j k l x y z u δ=some o): ∃s1 δ1 s2 δ2 s3 δ3 s4 δ4,x δ=some (s1,δ1)/\y δ1=some (s2,δ2)/\z δ2=some (s3,δ3)/\u δ3=some (s4,δ4)∧
  (i<δ4.length/\j<δ4.length/\k<δ4.length/\l<δ4.length)/\o= .nx ((((δ4.set l s4).set k s3).set j s2).set i s1):=by
 unfold KS at h
 cases h1:x δ with
 | none => rw [h1] at h;cases h
 |some p=>
  rw[h1] at h
  cases h2:y p.2 with
  | none => simp [h2] at h
  |some q=>
   simp only[Ag,h2] at h
   cases h3:z q.2 with
   | none => simp [h3] at h
   |some r=>
    simp only[Ag,h3] at h
    cases h4:u r.2 with
    | none => simp [h4] at h
    |some s=>
     simp only[Ag,h4] at h
     split at h
     ·cases h
      exact⟨p.1,p.2,q.1,q.2,r.1,r.2,s.1,s.2,rfl,h2,h3,h4,by assumption,rfl⟩
     ·cases h
theorem zA7{i j k l:Nat}{x y z u:Str}{fx fy fz fu:VX}{px py pz pu pt:Pos}{kt k2 pt2}(hK:X.K=K)(hc:X.calm=true)(hN:X.N.Nodup)(hi:X.N[i]? =some x)(hj:X.N[j]? =some y)(hk:X.N[k]? =some z)(hl:X.N[l]? =some u)
  (hd:[i,j,k,l].Nodup) (hx:F0 X.env.scope x) (hy:F0 X.env.scope y) (hz:F0 X.env.scope z) (hu:F0 X.env.scope u) (ha:PE X a (TX K ml fx)) (hb:PE X b (TX K ml fy)) (hcc:PE X c (TX K ml fz)) (hdd:PE X d (TX K ml fu))
  (hmi : i ∉ ml := by decide) (hmj : j ∉ ml := by decide) (hmk : k ∉ ml := by decide) (hml : l ∉ ml := by decide)
  (hs : Gj [.Tuple [.Name x px,.Name y py,.Name z pz,.Name u pu] kt pt] (.Tuple [a,b,c,d] k2 pt2) pos.line X.env = pure false := by rfl)
  (hw : Gk [.Tuple [.Name x px,.Name y py,.Name z pz,.Name u pu] kt pt] (.Tuple [a,b,c,d] k2 pt2) X.env = pure none := by rfl)
  (hn : (assignEach [.Name x px,.Name y py,.Name z pz,.Name u pu] X.env).length = 4 := by rfl) (hst : (assignEach [.Name x px,.Name y py,.Name z pz,.Name u pu] X.env).findIdx? (·.1) = none := by rfl)
  (g1 : (assignEach [.Name x px,.Name y py,.Name z pz,.Name u pu] X.env).map (·.2) = assign (.Name x px) X.env :: (assignEach [.Name y py,.Name z pz,.Name u pu] X.env).map (·.2) := by rfl)
  (g2 : (assignEach [.Name y py,.Name z pz,.Name u pu] X.env).map (·.2) = assign (.Name y py) X.env :: (assignEach [.Name z pz,.Name u pu] X.env).map (·.2) := by rfl)
  (g3 : (assignEach [.Name z pz,.Name u pu] X.env).map (·.2) = assign (.Name z pz) X.env :: (assignEach [.Name u pu] X.env).map (·.2) := by rfl)
  (g4 : (assignEach [.Name u pu] X.env).map (·.2) = assign (.Name u pu) X.env :: (assignEach [] X.env).map (·.2) := by rfl)
  (fx' : X.fn x = true ∨ X.env.scope.names.lookup x = some .local := by first | exact .inl rfl | exact .inr rfl | assumption) (fy' : X.fn y = true ∨ X.env.scope.names.lookup y = some .local := by first | exact .inl rfl | exact .inr rfl | assumption) (fz' : X.fn z = true ∨ X.env.scope.names.lookup z = some .local := by first | exact .inl rfl | exact .inr rfl | assumption)
  (fu' : X.fn u = true ∨ X.env.scope.names.lookup u = some .local := by first | exact .inl rfl | exact .inr rfl | assumption)
  (h1 : (assignEach [.Tuple [.Name x px,.Name y py,.Name z pz,.Name u pu] kt pt] X.env).map (·.2) = [assign (.Tuple [.Name x px,.Name y py,.Name z pz,.Name u pu] kt pt) X.env] := by rfl)
  (he : starEach (a :: [b,c,d]) X.env = (false,eval a X.env) :: starEach [b,c,d] X.env := by rfl) (he2 : starEach (b :: [c,d]) X.env = (false,eval b X.env) :: starEach [c,d] X.env := by rfl) (he3 : starEach (c :: [d]) X.env = (false,eval c X.env) :: starEach [d] X.env := by rfl)
  (he4 : starEach (d :: []) X.env = (false,eval d X.env) :: starEach [] X.env := by rfl) :
  PS X (.Assign [.Tuple [.Name x px,.Name y py,.Name z pz,.Name u pu] kt pt] (.Tuple [a,b,c,d] k2 pt2) pos) (U5 K ml (KS i j k l fx fy fz fu)):=
 (P0 (BM (bR ha (bR hb (bR hcc (bR hdd ZN he4) he3) he2) he)) (zCF (K := K) hK hc (V4 (TF hN hi hx fx') (V4 (TF hN hj hy fy') (V4 (TF hN hk hz fz') (V4 (TF hN hl hu fu') GZ g4) g3) g2) g1) hn hst) hs hw h1).imp fun D σ H q0 => by
  obtain⟨B,O,δ,o,S,q,kk⟩:=q0
  obtain⟨s1,δ1,s2,δ2,s3,δ3,s4,δ4,h1,h2,h3,h4,hll,rfl⟩:=FL q
  simp only[Cs,Ao,Bk,or_false,not_or] at hd
  obtain⟨⟨hij,hik,hil⟩,⟨hjk,hjl⟩,hkl,_⟩:=hd
  refine⟨B,O,δ,s1,δ1,S,h1,fun v H1 B1 S1 w1 f1=>⟨B1,O,δ1,s2,δ2,S1,h2,fun v2 H2 B2 S2 w2 f2=>⟨B2,O,δ2,s3,δ3,S2,h3,fun v3 H3 B3 S3 w3 f3=>⟨B3,O,δ3,s4,δ4,S3,h4,fun v4 H4 B4 S4 w4 f4=>⟨(by show 4<=sizeLine;decide),fun p hp=>⟨p,_,rfl,W4.of cQ,rfl,v,_,rfl,v2,_,rfl,v3,_,rfl,v4,_,rfl,rfl,?_⟩⟩⟩⟩⟩⟩
  have f5:Fr (OA O) H4 (bL H4 p (.tup [v,v2,v3,v4])):=(dD hp).fr
  obtain⟨O5,S5⟩:=(w4.fr f5).bind (S4.same (dD hp)) hml hll.2.2.2
  obtain⟨O6,S6⟩:=((w3.fr f4).fr f5).bind S5 hmk (by rw[Bv];exact hll.2.2.1)
  obtain⟨O7,S7⟩:=(((w2.fr f3).fr f4).fr f5).bind S6 hmj (by rw[Bv,Bv];exact hll.2.1)
  obtain⟨O8,S8⟩:=((((w1.fr f2).fr f3).fr f4).fr f5).bind S7 hmi (by rw[Bv,Bv,Bv];exact hll.1)
  have e:(((σ.set i (some v)).set j (some v2)).set k (some v3)).set l (some v4)=(((σ.set l (some v4)).set k (some v3)).set j (some v2)).set i (some v):=by
   have c: ∀(l:St) {i j:Nat} (a b:Option V),i≠j->(l.set i a).set j b=(l.set j b).set i a:=fun l i j a b h=>List.set_comm a b h
   rw[c σ (some v) (some v2) hij,c (σ.set j (some v2)) (some v) (some v3) hik,c ((σ.set j (some v2)).set k (some v3)) (some v) (some v4) hil,c σ (some v2) (some v3) hjk,c (σ.set k (some v3)) (some v2) (some v4) hjl,c σ (some v3) (some v4) hkl]
  rw[e]
  exact kk _ _ _ S8
end
theorem OJ(elt tg1 it1 tg2 it2:Expr)(ax af:List Expr)(scope:Scope)(pos:Pos)(it acc:Value)(env:Env):
  Oh (.ListComp elt [⟨tg1,it1,ax,0⟩,⟨tg2,it2,af,0⟩] scope pos) 0 it acc env=(do
   Jq it1.pos
   match<- pyNext it with
   | none => pure (.done .next)
   |some v=>
    Eg tg1 it v
    assign tg1 env v
    let mut ok:=true
    for c in ax do
     if ok then ok<- isTrue c env (eval c env)
    if ok then
     let x<- eval it2 env
     Jq it2.pos
     let x<- foldedSetIterable it2 env x
     let _<- runOwn (.compStart (.ListComp elt [⟨tg1,it1,ax,0⟩,⟨tg2,it2,af,0⟩] scope pos) 1 (<- Jr [x] (Ot x)) acc env) env
    Qq (.compLoop (.ListComp elt [⟨tg1,it1,ax,0⟩,⟨tg2,it2,af,0⟩] scope pos) 0 it acc env)):=by rfl
theorem OK(elt tg1 it1 tg2 it2:Expr)(ax af:List Expr)(scope:Scope)(pos:Pos)(it acc:Value)(env:Env):
  Oh (.ListComp elt [⟨tg1,it1,ax,0⟩,⟨tg2,it2,af,0⟩] scope pos) 1 it acc env=(do
   Jq it2.pos
   match<- pyNext it with
   | none => pure (.done .next)
   |some v=>
    Eg tg2 it v
    assign tg2 env v
    let mut ok:=true
    for c in af do
     if ok then ok<- isTrue c env (eval c env)
    if ok then
     (do let _<- call (.builtin "list.append") [acc,<- eval elt env])
    Qq (.compLoop (.ListComp elt [⟨tg1,it1,ax,0⟩,⟨tg2,it2,af,0⟩] scope pos) 1 it acc env)):=by rfl
theorem HR{prog:Au}{w:World}{A:Bx}{s:Ad}{elt tg1 it1 tg2 it2:Expr}{ax af:List Expr}{scope:Scope}{pos:Pos}{it acc:Value}{env:Env}{R:Ma->Ad->Prop}(I:Nat->Ad->Prop)
  (turn : ∀ n s,I n s -> wpAny (model prog w) A (pyNext it) (fun r s₁ => match r with
   | none => R (.ok .next) s₁
   | some v => wpAny (model prog w) A (Eg tg2 it v) (fun _ s₀ => wpAny (model prog w) A (assign tg2 env v) (fun _ s₂ =>
     wpAny (model prog w) A (forIn af true fun c r=>if r=true then do let ok<- isTrue c env (eval c env);pure (Ct ok) else pure (Ct r)) (fun ok s₃=>if ok=true then wpAny (model prog w) A (eval elt env) (fun x s₄=>
      wpAny (model prog w) A (call (.builtin "list.append") [acc,x]) (fun _ s₅=> ∃m,m<n/\I m s₅) (fun _ _=>False) s₄) (fun _ _=>False) s₃
      else∃m,m<n/\I m s₃) (fun _ _=>False) s₂)
     (fun _ _=>False) s₀) (fun _ _=>False) s₁) (fun _ _=>False) s)
  (n:Nat) (h:I n s):Ej (model prog w) A (.compLoop (.ListComp elt [⟨tg1,it1,ax,0⟩,⟨tg2,it2,af,0⟩] scope pos) 1 it acc env) R s:=by
 refine Nk rfl I (fun n s hI=> ?_) n h
 show wpAny _ A ((Oh (.ListComp elt [⟨tg1,it1,ax,0⟩,⟨tg2,it2,af,0⟩] scope pos) 1 it acc env).onRaise (fun x=>do Oy x env;Kt x)) _ _ s
 refine Oz ?_
 rw[OK]
 refine Aa (Cv (Aa (An (turn n s hI) (fun r s₁ h₁=> ?_) fun _ _ h'=>h'.elim)))
 cases r with
 |none=>exact Af h₁
 |some v=>
  refine Aa (An h₁ (fun _ s₀ h₀'=> ?_) fun _ _ h'=>h'.elim)
  refine Aa (An h₀' (fun _ s₂ h₂=> ?_) fun _ _ h'=>h'.elim)
  refine Aa (An h₂ (fun okb s₃ h₃=> ?_) fun _ _ h'=>h'.elim)
  cases okb with
  |false=>exact Af ⟨rfl,h₃⟩
  |true=>exact Aa (Aa (An h₃ (fun x s₄ h₄=>Aa (An h₄ (fun _ s₅ h₅=>Af (Af ⟨rfl,h₅⟩)) fun _ _ h'=>h'.elim)) fun _ _ h'=>h'.elim))
theorem HQ{prog:Au}{w:World}{A:Bx}{s:Ad}{elt tg1 it1 tg2 it2:Expr}{ax af:List Expr}{scope:Scope}{pos:Pos}{it acc:Value}{env:Env}{R:Ma->Ad->Prop}(I:Nat->Ad->Prop)
  (turn : ∀ n s,I n s -> wpAny (model prog w) A (pyNext it) (fun r s₁ => match r with
   | none => R (.ok .next) s₁
   | some v => wpAny (model prog w) A (Eg tg1 it v) (fun _ s₀ => wpAny (model prog w) A (assign tg1 env v) (fun _ s₂ =>
     wpAny (model prog w) A (forIn ax true fun c r=>if r=true then do let ok<- isTrue c env (eval c env);pure (Ct ok) else pure (Ct r)) (fun ok s₃=>if ok=true then
      wpAny (model prog w) A (eval it2 env) (fun x s₄=>wpAny (model prog w) A (Ot x) (fun i2 s₅=>
       Ej (model prog w) A (.compStart (.ListComp elt [⟨tg1,it1,ax,0⟩,⟨tg2,it2,af,0⟩] scope pos) 1 i2 acc env) (fun r s₆=>match r with| .ok _=> ∃m,m<n/\I m s₆| .error _=>False) s₅) (fun _ _=>False) s₄) (fun _ _=>False) s₃
      else∃m,m<n/\I m s₃) (fun _ _=>False) s₂)
     (fun _ _=>False) s₀) (fun _ _=>False) s₁) (fun _ _=>False) s)
  (n : Nat) (h : I n s) (hs : ∀ x,foldedSetIterable it2 env x = pure x := by intro _;rfl) : Ej (model prog w) A (.compLoop (.ListComp elt [⟨tg1,it1,ax,0⟩,⟨tg2,it2,af,0⟩] scope pos) 0 it acc env) R s := by
 refine Nk rfl I (fun n s hI=> ?_) n h
 show wpAny _ A ((Oh (.ListComp elt [⟨tg1,it1,ax,0⟩,⟨tg2,it2,af,0⟩] scope pos) 0 it acc env).onRaise (fun x=>do Oy x env;Kt x)) _ _ s
 refine Oz ?_
 rw[OJ]
 refine Aa (Cv (Aa (An (turn n s hI) (fun r s₁ h₁=> ?_) fun _ _ h'=>h'.elim)))
 cases r with
 | none => exact Af h₁
 |some v=>
  refine Aa (An h₁ (fun _ s₀ h₀'=> ?_) fun _ _ h'=>h'.elim)
  refine Aa (An h₀' (fun _ s₂ h₂=> ?_) fun _ _ h'=>h'.elim)
  refine Aa (An h₂ (fun okb s₃ h₃=> ?_) fun _ _ h'=>h'.elim)
  cases okb with
  |false=>exact Af ⟨rfl,h₃⟩
  |true=>
   refine Aa (An h₃ (fun x s₄ h₄=> ?_) fun _ _ h'=>h'.elim)
   refine Aa (Cv (Aa (Pb (hs x) (Aa (Bo (An h₄ (fun i2 s₅ h₅=> ?_) fun _ _ h'=>h'.elim))))))
   refine Aa (wpAny_runOwn (Fe h₅ fun r s₆ h₆=> ?_))
   cases r with
   |ok f=>exact Af ⟨rfl,h₆⟩
   |error e=>exact h₆.elim
theorem WS{prog:Au}{w:World}{A:Bx}{s:Ad}{elt tg1 it1 tg2 it2:Expr}{ax af:List Expr}{scope:Scope}{pos:Pos}{it acc:Value}{env:Env}{R:Ma->Ad->Prop}
  (h0:Ej (model prog w) A (.compLoop (.ListComp elt [⟨tg1,it1,ax,0⟩,⟨tg2,it2,af,0⟩] scope pos) 1 it acc env) R s)
  (h : wpAny (model prog w) A (Ot it) (fun it' s' => Ej (model prog w) A (.compLoop (.ListComp elt [⟨tg1,it1,ax,0⟩,⟨tg2,it2,af,0⟩] scope pos) 1 it' acc env) R s')
   (notedBy (model prog w) A env fun x s'=>R (.error x) s') s):
  Ej (model prog w) A (.compStart (.ListComp elt [⟨tg1,it1,ax,0⟩,⟨tg2,it2,af,0⟩] scope pos) 1 it acc env) R s:=by
 refine codeAny_of_tree ?_
 show wpAny _ _ ((compStart (.ListComp elt [⟨tg1,it1,ax,0⟩,⟨tg2,it2,af,0⟩] scope pos) 1 it acc env).onRaise (fun x=>do Oy x env;Jq theWindowsPlace)) _ _ s
 refine wpAny_notedAt ?_
 unfold compStart
 show wpAny _ _ (ask>>=_) _ _ s
 refine Aa (wpAny_askSetting (wpAny_ite ?_))
 split
 ·first
   |exact Aa (Af (Af (And.intro rfl h0)))
   |exact Af (And.intro rfl h0)
 ·first
   |exact Aa (Hw (Aa (Cv (Aa (An h (fun it' s' h'=>Af (And.intro rfl h')) fun _ _ x=>x)))))
   |(refine Aa (Hw ?_);show wpAny _ _ (Jq it2.pos>>=_) _ _ s;exact Aa (Cv (Aa (An h (fun it' s' h'=>Af (And.intro rfl h')) fun _ _ x=>x))))
def EmW(D:Addr)(wi:TI)(g:TG)(tt:TT)(te:TE)(jj:List V)(σ:St)(H:Hp)(N:List V->St->Hp->Prop):Prop:=
 wi σ H fun J H0=> ∃W:Nat->Nat->List V->St->Hp->Prop,(∃m,W 0 m jj σ H0)/\ ∀i m acc σ1 H1,W i m acc σ1 H1→
  (J.stop i H1/\N acc σ1 H1)∨
  (J.go i H1/\ ∃N2:List V->St->Hp->Prop,(∀ag σ' H',N2 ag σ' H'-> ∃m',m'<m/\W (i+1) m' ag σ' H')∧
   ∀x H2,J.yld i H1 x H2->g x σ1 H2 fun σ2 H3=>tt σ2 H3 fun b H4=>if b=true then te σ2 H4 fun v H5=>H5 D=some (.lst acc)/\acc.length<sizeLine/\N2 (acc++[v]) σ2 (bL H5 D (.lst (acc++[v]))) else N2 acc σ2 H4)
theorem zI3{Y:Cx}{elt tg1 it1 tg2 it2:Expr}{ax af:List Expr}{scope:Scope}{pos:Pos}{wi:TI}{g:TG}{tt:TT}{te:TE}{aa:List (Addr×Obj)}{s:Ad}{σ:St}{H:Hp}{D:Addr}{jj:List V}{N:List V->St->Hp->Prop}
  (hc : Y.calm = true) (hxe : Y.xe = fun _ _ => False) (hi : PI Y tg2 it2 wi) (hg : PG Y tg2 g) (ht : PTs Y af tt) (he : PE Y elt te) (I : c7 Y aa σ H s) (h : EmW D wi g tt te jj σ H N) :
  wpAny (model Y.prog Y.w) Y.A (eval it2 Y.env) (fun x s₄=>wpAny (model Y.prog Y.w) Y.A (Ot x) (fun i2 s₅=>
   Ej (model Y.prog Y.w) Y.A (.compStart (.ListComp elt [⟨tg1,it1,ax,0⟩,⟨tg2,it2,af,0⟩] scope pos) 1 i2 (.ref D) Y.env) (fun r s₆=>match r with| .ok _=> ∃ag σ' H',c7 Y aa σ' H' s₆/\N ag σ' H'| .error _=>False) s₅) (fun _ _=>False) s₄) (fun _ _=>False) s:=by
 have nx: ∀{α:Sort _} {x:Value} {s:Ad},Y.xe x s->α:=fun z=>by rw[hxe] at z;exact z.elim
 refine An (hi aa s σ H _ I h) (fun v s1 h1=>An h1 (fun itv s2 h2=> ?_) fun _ _ z=>nx z) fun _ _ z=>nx z
 obtain⟨it,fp,tn,J,H2,e,I2,T,st2,f2,W,⟨m0,w0⟩,turn⟩:=h2
 subst e
 have stat: ∀{H':Hp},(∀b∈fp,H' b=none)-> ∀b∈fp,RI Y aa H' b:=fun hn b hb=>⟨hn b hb,(f2 b hb).2⟩
 have loop: ∀s₃:Ad,s₃=s2->Ej (model Y.prog Y.w) Y.A (.compLoop (.ListComp elt [⟨tg1,it1,ax,0⟩,⟨tg2,it2,af,0⟩] scope pos) 1 (.ref it) (.ref D) Y.env) (fun r s₆=>match r with| .ok _=> ∃ag σ' H',c7 Y aa σ' H' s₆/\N ag σ' H'| .error _=>False) s₃:=by
  rintro s₃ rfl
  refine HR (fun n s'=> ∃i σ' H' acc,c7 Y aa σ' H' s'/\tn i s'.heap/\(∀b∈fp,H' b=none)/\W i n acc σ' H') ?_ m0 ⟨0,σ,H2,jj,I2,st2,fun b hb=>(f2 b hb).1,w0⟩
  rintro n s3 ⟨i,σ3,H3,acc,I3,st3,fr3,w3⟩
  rcases turn i n acc σ3 H3 w3 with⟨stop,qn⟩|⟨go,N2,hN,step⟩
  ·refine An (T.done Y rfl rfl rfl hc i aa s3 σ3 H3 (fun _ _ => False) I3 (stat fr3) st3 stop) (fun r s4 ⟨hr,I4⟩ => ?_) fun _ _ z => z
   subst hr
   exact⟨acc,σ3,H3,I4,qn⟩
  ·refine An (T.item Y rfl rfl rfl hc i aa s3 σ3 H3 (fun _ _ => False) I3 (stat fr3) st3 go) (fun r s4 ⟨u,hr,h4⟩ => ?_) fun _ _ z => z
   subst hr
   refine An h4 (fun _ s5 ⟨x,H5,I5,r5,y5,st5,fr5⟩=> ?_) fun _ _ z=>z
   have I5':=I5.pinned (stat fr5) (T.obj _ _ st5)
   refine An (hg _ s5 σ3 H5 x u _ I5' r5 (step x H5 y5)) (fun _ s6 ⟨σ6,H6,I6,q6⟩=> ?_) fun _ _ z=>nx z
   have again: ∀{H7:Hp} {s7:Ad} {ag:List V},c7 Y (aa++UQ fp s5.heap) σ6 H7 s7->N2 ag σ6 H7-> ∃m,m<n/\ ∃i σ' H' acc,c7 Y aa σ' H' s7/\tn i s7.heap/\(∀b∈fp,H' b=none)/\W i m acc σ' H':=fun{H7 s7 ag} I7 n7=>by
    obtain⟨m',hm,w7⟩:=hN ag σ6 H7 n7
    refine⟨m',hm,i+1,σ6,H7,ag,I7.unpinned,T.keep _ _ _ st5 fun b hb o e=>(I7.pin (b,o) (Ar _ (Ar _ (Z3 hb e)))).1,fun b hb=> ?_,w7⟩
    obtain⟨o,e,d⟩:=T.obj _ _ st5 b hb
    exact(I7.pin (b,o) (Ar _ (Ar _ (Z3 hb e)))).2.1
   refine An (ht _ s6 σ6 H6 _ I6 q6) (fun okb s7 ⟨H7,I7,q7⟩=> ?_) fun _ _ z=>nx z
   cases okb with
   | false => exact again I7 q7
   |true=>
    refine An (he _ s7 σ6 H7 _ I7 q7) (fun v s8 ⟨y,H8,I8,r8,hD8,hz8,n8⟩=> ?_) fun _ _ z=>nx z
    refine An (aY (X:=Y) _ s8 σ6 H8 (.ref D) [y] (.ref D) [v] (fun _ H9=>N2 (acc++[y]) σ6 H9) I8 rfl (.cons r8 .nil)
     ⟨D,acc,y,rfl,rfl,hD8,hz8,n8⟩) (fun _ s9 ⟨_,H9,I9,_,n9⟩=>again I9 n9) fun _ _ z=>nx z
 exact WS (loop _ rfl) (T.self _ 0 _ _ _ st2 (loop _ rfl))
structure Blk2(Y:Cx)(tg:Expr)(ifs:List Expr)(tg2 it2:Expr)(af:List Expr)(elt:Expr)(g:TG)(tt:TT)(wi2:TI)(g2:TG)(tt2:TT)(te:TE):Prop where
 tg:PG Y tg g
 ts:PTs Y ifs tt
 it:PI Y tg2 it2 wi2
 tg2:PG Y tg2 g2
 ts2:PTs Y af tt2
 el:PE Y elt te
def zA1(D:Addr)(ix:List Nat)(nl:Nat)(J:It)(g:TG)(tt:TT)(wi2:TI)(g2:TG)(tt2:TT)(te:TE)(σ:St)(H0:Hp)(Q:Hp->Prop):Prop:=
 ∃W:Nat->Nat->List V->Hp->Prop,(∃m,W 0 m [] (bL H0 D (.lst [])))/\ ∀i m acc H1,W i m acc H1→
  (J.stop i H1/\Q H1)∨
  (J.go i H1/\ ∃N:List V->Hp->Prop,(∀ag H',N ag H'-> ∃m',m'<m/\W (i+1) m' ag H')∧
   ∀x H2,J.yld i H1 x H2->g x (bN ix σ++Ap nl none) H2 fun σ2 H3=>σ2.take ix.length=bN ix σ∧
    tt σ2 H3 fun b H4=>if b=true then EmW D wi2 g2 tt2 te acc σ2 H4 (fun ag σ' H'=>σ'.take ix.length=bN ix σ/\N ag H') else N acc H4)
def IV(ix:List Nat)(nl:Nat)(wi:TI)(g:TG)(tt:TT)(wi2:TI)(g2:TG)(tt2:TT)(te:TE):TE:=fun σ H Q=>wi σ H fun J H0=> ∀D,H0 D=none->zA1 D ix nl J g tt wi2 g2 tt2 te σ H0 fun H'=>Q (.ref D) H'
theorem O9{X:Cx}{aa:List (Addr×Obj)}{σ:St}{H2:Hp}{s2:Ad}{E:Value->Ad->Prop}{tg iter tg2 it2 elt:Expr}{ifs af:List Expr}{scope:Scope}{pos:Pos}{N':List Str}{ix:List Nat}{nl:Nat}{g g2:TG}{tt tt2:TT}{wi2:TI}{te:TE}
  {cl:List (Str×Addr)} {J:It} {fp:List Addr} {it:Addr} {tn:Nat->Heap->Prop} {Q:V->Hp->Prop} {RR:Value->Addr->Ma->Ad->Prop}
  (hs2: ∀(env:Env) (x:Value),foldedSetIterable it2 env x=pure x) (hc:X.calm=true) (S:WM X N' ix scope) (hnl:N'.length=ix.length+nl)
  (bx: ∀x c,cl.lookup x=some c->X.env.cells.lookup x=some c) (iu: ∀x,(x,Ba)∈scope.names-> ∃c,cl.lookup x=some c)
  (blk: ∀(cl:List (Str×Addr)) (s1:Ad) (H1:Hp) (fp:List Addr),Blk2 (cD X N' scope cl s1 H1 fp) tg ifs tg2 it2 af elt g tt wi2 g2 tt2 te)
  (I2:c7 X aa σ H2 s2) (T:JJ X.prog X.w X.K tg J fp it tn) (st2:tn 0 s2.heap) (f2: ∀b∈fp,RI X aa H2 b)
  (h : ∀ D,H2 D = none -> zA1 D ix nl J g tt wi2 g2 tt2 te σ H2 fun H' => Q (.ref D) H')
  (fin: ∀(D C:Addr) (s':Ad) (H':Hp),c7 X aa σ H' s'->(∃m,s'.heap.Ns C m)->C≠X.env.locals->(∀x c,X.env.cells.lookup x=some c->c≠C)→
   (∀(σ':St) (s'':Ad) (h'':Heap),c7 X aa σ' H' s''->Ef C s''.heap h''->c7 X aa σ' H' {s'' with heap:=h''})->Q (.ref D) H'->RR (.ref D) C (.ok .next) s'):
  wpAny (model X.prog X.w) X.A (Qb []) (fun acc s₃=>wpAny (model X.prog X.w) X.A (Je scope X.env.globals cl [] X.env.qual none .none (some X.env)) (fun iw s₄=>
   Ej (model X.prog X.w) X.A (.compStart (.ListComp elt [⟨tg,iter,ifs,0⟩,⟨tg2,it2,af,0⟩] scope pos) 0 (.ref it) acc {iw with scope:=relabel scope X.env}) (RR acc iw.locals) s₄) E s₃) E s2:=by
 refine Cz (RB ?_)
 dsimp only
 have I1:c7 X aa σ (bL H2 s2.heap.objs.size (.lst [])) {s2 with heap:=s2.heap.push {cls:= .type "list",dict:=none,data:= .seq ([]:List Value).toArray}}:=
  I2.lnew (t':=s2.toks) (ys:=[]) (its:=[]) .nil (Ek _)
 have hDn:H2 s2.heap.objs.size=none:=I2.hok.fresh (As _)
 obtain⟨W,⟨m0,w0⟩,turn⟩:=h _ hDn
 generalize hs1:({s2 with heap:=s2.heap.push {cls:= .type "list",dict:=none,data:= .seq ([]:List Value).toArray}}:Ad)=s1 at I1
 have cv:s2.heap.push {cls:= .type "list",dict:=none,data:= .seq ([]:List Value).toArray}=s1.heap:=by rw[<- hs1]
 rw[cv]
 have old: ∀b o,s1.heap.get? b=some o->(Jn (s1.heap.push {cls:= .type "dict",data:= .dict #[]}) scope.names).get? b=some o:=fun b o e=>Ii _ _ _ _ (Ae _ e)
 have hns₁:(Jn (s1.heap.push {cls:= .type "dict",data:= .dict #[]}) scope.names).Ns s1.heap.objs.size (fun _=>none):=(Qp s1.heap (.type "dict")).keeps fun b o e=>Ii _ _ _ _ e
 have okc:=cellsFrom_ok scope.names (s1.heap.push {cls:= .type "dict",data:= .dict #[]}) (s1.heap.objs.size+1) [] ⟨fun _ _ hm=>(nomatch hm),Jm⟩ (by rw[Ch];exact As _)
 rw[Ch] at okc
 generalize hz1:Jn (s1.heap.push {cls:= .type "dict",data:= .dict #[]}) scope.names=h₁ at old hns₁ okc
 rw[VR]
 generalize hnc:cellsFrom (s1.heap.objs.size+1) scope.names []=nc at okc
 have ncm: ∀x c,nc.lookup x=some c->(x,Bp)∈scope.names/\h₁.IsCell c none/\s1.heap.objs.size+1<=c:=fun x c e=>by
  have hm:=Bi e
  exact⟨LW (n:=s1.heap.objs.size+1) (by rw[hnc];exact hm),okc.empty x c hm⟩
 have nch: ∀x,(x,Bp)∈scope.names-> ∃c,nc.lookup x=some c:=fun x h=>by
  obtain⟨c,hc⟩:=LV (n:=s1.heap.objs.size+1) h
  rw[hnc] at hc
  exact UL hc
 have gf: ∀b∈fp,b<s2.heap.objs.size:=fun b hb=>by
  obtain⟨o,e,_⟩:=T.obj _ _ st2 b hb
  exact Aj e
 have ij:s1.heap.objs.size=s2.heap.objs.size+1:=by rw[<- cv,Ch]
 have ju: ∀b o,s2.heap.get? b=some o->s1.heap.get? b=some o:=fun b o e=>by rw[<- cv];exact Ae _ e
 have cw: ∀x c,cl.lookup x=some c->c<s1.heap.objs.size:=fun x c e=>by
  obtain⟨v,q⟩:=I1.cell x c (bx x c e)
  exact q.lt
 have o7: ∀b∈UW X.stack,b<s1.heap.objs.size:=fun b hb=>by
  obtain⟨_,o,ho,_⟩:=(I1.stack).mem hb
  exact Aj ho
 have okY:(cD X N' scope (nc++cl) s1 (bL H2 s2.heap.objs.size (.lst [])) fp).Ok:=by
  refine⟨I1.ok.mod,S.kind,I1.ok.glob,I1.ok.blt,As _,fun x y c e1 e2=> ?_,fun x hx=> ?_,fun x c hf e=> ?_,I1.ok.hd,I1.ok.frames,.inl rfl,fun b hb=>⟨?_,fun x c e=> ?_⟩,fun b o e=> ?_,
   Dy I1.ok.bsz I1.sz,fun b o e hb=> ?_,fun b hb hb2=> ?_,I1.stack,I1.stkFree⟩
  ·rcases bO e1 with n1|⟨_,o1⟩
   ·rcases bO e2 with n2|⟨_,o2⟩
    ·exact Mj okc.apart (Bi n1) (Bi n2)
    ·exact absurd (Aq (cw y c o2) (Dw (ncm x c n1).2.2)) (Bw _)
   ·rcases bO e2 with n2|⟨_,o2⟩
    ·exact absurd (Aq (cw x c o1) (Dw (ncm y c n2).2.2)) (Bw _)
    ·exact I1.ok.inj x y c (bx x c o1) (bx y c o2)
  ·cases q:nc.lookup x with
   | some c => exact ⟨c,YR q⟩
   |none=>
    rcases YG hx with h|h
    ·obtain⟨c,hc⟩:=iu x h
     exact⟨c,(X2 q).trans hc⟩
    ·obtain⟨c,hc⟩:=nch x h
     rw[q] at hc
     cases hc
  ·have hx:(x,Bp)∈scope.names:=Bi (beq_iff_eq.mp hf)
   obtain⟨c',hc'⟩:=nch x hx
   have:=YR (m:=cl) hc'
   have e:(nc++cl).lookup x=some c:=e
   rw[this] at e
   cases e
   exact Dw (ncm x c hc').2.2
  ·exact Be (Aq (gf b hb) (by show s2.heap.objs.size <= s1.heap.objs.size;rw [ij];exact Gf _))
  ·rcases bO e with n1|⟨_,o1⟩
   ·have h1:=gf b hb
    have h2:=(ncm x c n1).2.2
    rw[ij] at h2
    exact fun z=>absurd (z▸h2) (Nw (Aq h1 (Dy (Gf _) (Gf _))))
   ·exact(f2 b hb).2.2.2.2.1 x c (bx x c o1)
  ·exact I1.bs b o e
  ·have:=(f2 b hb)
   obtain⟨o',e',_⟩:=T.obj _ _ st2 b hb
   have hlt:=Aq (Aj e) I1.ok.bsz
   rcases this.2.2.2.1 with z|z
   ·exact I1.ok.noex b o e z
   ·exact absurd (Aq hlt z) (Bw _)
  ·rcases Ao.mp (I1.stkSub b hb2) with z|z
   ·exact(f2 b hb).2.1 z
   ·exact(f2 b hb).2.2.1 z
 have ev : (bN ix σ ++ Ap nl none).length = N'.length := by rw [Cg,Hi,hnl];simp [bN]
 have IY:c7 (cD X N' scope (nc++cl) s1 (bL H2 s2.heap.objs.size (.lst [])) fp) [] (bN ix σ++Ap nl none) (bL H2 s2.heap.objs.size (.lst [])) {s2 with heap:=h₁}:=by
  refine⟨okY,?_,I2.bare,Un.kept old,⟨_,hns₁,fun j x v e1 e2 e3=> ?_⟩,fun x c e=> ?_,I1.hok.fresh (As _),fun x c e=> ?_,fun p hp=>absurd (show p∈([]:List (Addr×Obj)) from hp) (by simp),I1.hok.kept old,ev⟩
  ·show s2.os=s1.os
   rw[<- hs1]
  ·have hj:j<ix.length:=by
    by_cases hj:j<ix.length
    ·exact hj
    ·exfalso
     have hl:(bN ix σ).length=ix.length:=by simp[bN]
     rw[Bz (by rw[hl];omega),Cb] at e2
     split at e2<;>cases e2
   have hl:(bN ix σ).length=ix.length:=by simp[bN]
   rw [Am (by rw [hl];exact hj)] at e2
   have hci:=S.cap j hj
   obtain⟨i,hi⟩: ∃i,ix[j]? =some i:=⟨ix[j],by simp[hj]⟩
   rw[hi] at hci
   have hNi:X.N[i]? =some x:=by
    have:N'[j]? =X.N[i]? :=hci
    rw[<- this];exact e1
   have hσ:σ[i]? =some (some v):=by
    unfold bN at e2
    rw[Cw,hi] at e2
    have e2':(σ[i]?).join=some v:=by simpa using e2
    cases q:σ[i]? with
    | none => rw [q] at e2';cases e2'
    | some o => rw [q] at e2';rw [show o = some v from e2']
   have hfl:scope.names.lookup x=some .free:=S.capf x (by
    rw[Hk]
    exact⟨j,by rw[By hj];exact e1⟩)
   have bn:(x,Ba)∈scope.names:=Bi hfl
   have hpk:X.env.kindOf x=some .cell∨X.env.kindOf x=some .free:=by exact S.free (x,.free) bn rfl
   have jw:Vis X.env.scope x:=by
    rcases hpk with z|z
    ·exact .inr (.inl z)
    ·exact .inr (.inr z)
   obtain⟨m,hn,k4⟩:=I1.loc
   obtain⟨u,ru,l⟩:=k4 i x v hNi hσ jw
   refine⟨u,ru,?_⟩
   rcases l with⟨hk,_⟩|⟨hk,c,ec,z⟩
   ·rcases hpk with q|q<;>rw[hk] at q<;>cases q
   ·obtain⟨c',hc'⟩:=iu x bn
    have:c'=c:=by
     have:=bx x c' hc'
     rw[ec] at this;exact(Bb this).symm
    subst this
    have jz:nc.lookup x=none:=by
     cases q:nc.lookup x with
     |none=>rfl
     |some d=>
      have:=S.cel (x,.cell) (ncm x d q).1 rfl
      rw[hfl] at this
      cases this
    refine .inr ⟨WX hfl,c',(X2 jz).trans hc',?_⟩
    ·obtain⟨o,ho,hd⟩:=z
     exact⟨o,old _ _ ho,hd⟩
  ·rcases bO e with n1|⟨_,o1⟩
   ·exact⟨none,(ncm x c n1).2.1⟩
   ·obtain⟨v,o,ho,hd⟩:=I1.cell x c (bx x c o1)
    exact⟨v,o,old _ _ ho,hd⟩
  ·rcases bO e with n1|⟨_,o1⟩
   ·exact I1.hok.fresh (Dw (ncm x c n1).2.2)
   ·exact I1.freeC x c (bx x c o1)
 have back: ∀{pY:List (Addr×Obj)} {σ':St} {H':Hp} {s':Ad},c7 (cD X N' scope (nc++cl) s1 (bL H2 s2.heap.objs.size (.lst [])) fp) pY σ' H' s'->c7 X aa σ H' s':=fun{pY σ' H' s'} J'=>
  I1.call' J'.os J'.base J'.hok J'.bare fun b hb=>⟨(f2 b hb).2.2.2.1,(f2 b hb).2.1,(f2 b hb).2.2.2.2.1,(f2 b hb).2.2.2.2.2⟩
 have stat: ∀{H':Hp} {pY:List (Addr×Obj)},(∀b∈fp,H' b=none)->pY=[]-> ∀b∈fp,RI (cD X N' scope (nc++cl) s1 (bL H2 s2.heap.objs.size (.lst [])) fp) pY H' b:=fun{H' pY} hn hp b hb=>by
  subst hp
  refine⟨hn b hb,(okY.exf b hb).1,okY.exfs b hb,.inl hb,(okY.exf b hb).2,fun p hp=>absurd (show p∈([]:List (Addr×Obj)) from hp) (by simp)⟩
 have st1:tn 0 h₁:=T.keep 0 s2.heap h₁ st2 fun b hb o e=>old b o (ju b o e)
 have fr1: ∀b∈fp,(bL H2 s2.heap.objs.size (.lst [])) b=none:=fun b hb=>by
  rw[cH (Be (gf b hb))]
  exact(f2 b hb).1
 have loop: ∀s₃:Ad,s₃={s2 with heap:=h₁}→
   Ej (model X.prog X.w) X.A (.compLoop (.ListComp elt [⟨tg,iter,ifs,0⟩,⟨tg2,it2,af,0⟩] scope pos) 0 (.ref it) (.ref s2.heap.objs.size) (Oi scope (nc++cl) s1.heap.objs.size X.env)) (RR (.ref s2.heap.objs.size) s1.heap.objs.size) s₃:=by
  rintro s₃ rfl
  refine HQ (hs:=hs2 _) (fun n s'=> ∃i σ' H' acc,c7 (cD X N' scope (nc++cl) s1 (bL H2 s2.heap.objs.size (.lst [])) fp) [] σ' H' s'/\σ'.take ix.length=bN ix σ/\tn i s'.heap/\(∀b∈fp,H' b=none)/\W i n acc H') ?_ m0
   ⟨0,_,_,[],IY,by rw [Ff (by simp [bN])];exact Dt (by simp [bN]),st1,fr1,w0⟩
  rintro n s' ⟨i,σ',H',acc,J',hσ,st',fr',w'⟩
  have Jc:c7 (cD X N' scope (nc++cl) s1 (bL H2 s2.heap.objs.size (.lst [])) fp) [] (bN ix σ++Ap nl none) H' s':=by
   refine J'.weak (by rw[ev];exact J'.len.symm) fun j v e=> ?_
   have hl:(bN ix σ).length=ix.length:=by simp[bN]
   by_cases hj:j<ix.length
   ·rw [Am (by rw [hl];exact hj),<- hσ,By hj] at e
    exact e
   ·rw [Bz (by rw [hl];omega),Cb] at e
    split at e<;>cases e
  rcases turn i n acc H' w' with⟨stop,q⟩|⟨go,N,hN,step⟩
  ·refine An (T.done (cD X N' scope (nc ++ cl) s1 (bL H2 s2.heap.objs.size (.lst [])) fp) rfl rfl rfl hc i [] s' _ H' (fun _ _ => False) Jc (stat fr' rfl) st' stop) (fun r s4 ⟨hr,I4⟩ => ?_) fun _ _ z => z
   subst hr
   have IX:=back I4
   obtain⟨m,hm,_⟩:=I4.loc
   exact fin _ _ s4 H' IX ⟨m,hm⟩ (Fn I1.lt) (fun x c e z=>by
    obtain⟨v,q⟩:=I1.cell x c e
    have:=q.lt
    rw[z] at this
    exact Bw _ this) (fun σ'' s'' h'' I'' sb=>c7.offNew I1 I'' I4.free fun b o hb e=>(sb.2 b hb).trans e) q
  ·refine An (T.item (cD X N' scope (nc ++ cl) s1 (bL H2 s2.heap.objs.size (.lst [])) fp) rfl rfl rfl hc i [] s' _ H' (fun _ _ => False) Jc (stat fr' rfl) st' go) (fun r s4 ⟨u,hr,h4⟩ => ?_) fun _ _ z => z
   subst hr
   refine An h4 (fun _ s5 ⟨x,H5,I5,r5,y5,st5,fr5⟩=> ?_) fun _ _ z=>z
   have I5':=I5.pinned (stat fr5 rfl) (T.obj _ _ st5)
   obtain⟨btg,bts,bit,bt2,bs2,bel⟩:=blk (nc++cl) s1 (bL H2 s2.heap.objs.size (.lst [])) fp
   refine An (btg _ s5 _ H5 x u _ I5' r5 (step x H5 y5)) (fun _ s6 ⟨σ6,H6,I6,hσ6,q6⟩=> ?_) fun _ _ z=>z
   have again: ∀{σ7:St} {H7:Hp} {s7:Ad} {ag:List V},σ7.take ix.length=bN ix σ->c7 (cD X N' scope (nc++cl) s1 (bL H2 s2.heap.objs.size (.lst [])) fp) ([]++UQ fp s5.heap) σ7 H7 s7->N ag H7→
     ∃m,m<n/\ ∃i σ' H' acc,c7 (cD X N' scope (nc++cl) s1 (bL H2 s2.heap.objs.size (.lst [])) fp) [] σ' H' s7/\σ'.take ix.length=bN ix σ/\tn i s7.heap/\(∀b∈fp,H' b=none)/\W i m acc H':=fun{σ7 H7 s7 ag} hσ7 I7 n7=>by
    obtain⟨m',hm,w7⟩:=hN ag H7 n7
    refine⟨m',hm,i+1,σ7,H7,ag,I7.unpinned,hσ7,T.keep _ _ _ st5 fun b hb o e=>(I7.pin (b,o) (Ar _ (Ar _ (Z3 hb e)))).1,fun b hb=> ?_,w7⟩
    obtain⟨o,e,d⟩:=T.obj _ _ st5 b hb
    exact(I7.pin (b,o) (Ar _ (Ar _ (Z3 hb e)))).2.1
   refine An (bts _ s6 σ6 H6 _ I6 q6) (fun okb s7 ⟨H7,I7,q7⟩=> ?_) fun _ _ z=>z
   cases okb with
   | false => exact again hσ6 I7 q7
   |true=>
    refine An (zI3 (Y:=cD X N' scope (nc++cl) s1 (bL H2 s2.heap.objs.size (.lst [])) fp) hc rfl bit bt2 bs2 bel I7 q7) (fun x s8 h8=>An h8 (fun i2 s9 h9=>Fe h9 fun r s10 h10=> ?_) fun _ _ z=>z) fun _ _ z=>z
    cases r with
    |ok f=>
     obtain⟨ag,σ',H',I9,hσ9,n9⟩:=h10
     exact again hσ9 I9 n9
    |error e=>exact h10.elim
 have he:({newEnv scope s1.heap.objs.size X.env.globals (nc++cl) X.env.qual none .none (some X.env) builtinsNs with scope:=relabel scope X.env}:Env)=Oi scope (nc++cl) s1.heap.objs.size X.env:=rfl
 exact Ki (loop _ rfl) (T.self _ 0 _ _ _ st1 (loop _ rfl))
theorem BE{X:Cx}{tg iter tg2 it2 elt:Expr}{ifs af:List Expr}{scope:Scope}{pos:Pos}{N':List Str}{ix:List Nat}{nl:Nat}{wi wi2:TI}{g g2:TG}{tt tt2:TT}{te:TE}
  (hc:X.calm=true) (S:WM X N' ix scope) (hnl:N'.length=ix.length+nl) (hi:PI X tg iter wi)
  (blk: ∀(cl:List (Str×Addr)) (s1:Ad) (H1:Hp) (fp:List Addr),Blk2 (cD X N' scope cl s1 H1 fp) tg ifs tg2 it2 af elt g tt wi2 g2 tt2 te)
  (hs: ∀x,foldedSetIterable iter X.env x=pure x:=by intro _;rfl) (hs2: ∀(env:Env) (x:Value),foldedSetIterable it2 env x=pure x:=by intro _ _;rfl):PE X (.ListComp elt [⟨tg,iter,ifs,0⟩,⟨tg2,it2,af,0⟩] scope pos) (IV ix nl wi g tt wi2 g2 tt2 te):=by
 intro aa s σ H Q I h
 rw[eval_ListComp]
 obtain⟨cl,e1,e2,e3⟩:=QO (env:=X.env) (scope:=scope) fun y hy hf=>I.ok.has y.1 (S.free y hy hf)
 refine Fd (use:=none) (cl:=cl) rfl hs e1 S.kind S.names (An (hi aa s σ H _ I h) (fun xv s₁ h₁=>An h₁ (fun itv s₂ h₂=> ?_) fun _ _ e=>e) fun _ _ e=>e)
 obtain⟨it,fp,tn,J,H2,e,I2,T,st2,f2,q⟩:=h₂
 subst e
 refine O9 (Q:=Q) (RR:=fun acc C=>Qd (model X.prog X.w) X.A X.xe none (EP X aa σ Q) acc C) hs2 hc S hnl e2 e3 blk I2 T st2 f2 q ?_
 intro D C s' H' I' hm hC1 hC2 hb hq
 obtain⟨m,hm⟩:=hm
 exact⟨m,hm,fun h'' sb=>⟨.ref D,H',hb σ s' h'' I' sb,rfl,hq⟩⟩
noncomputable def HU(gg:VG)(tb:VB)(fe:VF):List dM->List dM->Ev->Option (List dM×Ev)
 |[],acc,δ=>some (acc,δ)
 |d::r,acc,δ=>(gg d δ).bind fun δ1=>(tb δ1).bind fun p=>if p.1=true then(fe p.2).bind fun q=>if acc.length<16777216 then HU gg tb fe r (acc++[q.1]) q.2 else none else HU gg tb fe r acc p.2
noncomputable def VT(n nl:Nat)(gg:VG)(tb:VB)(fi2:VI)(gg2:VG)(tb2:VB)(fe:VF):List dM->List dM->Ev->Option (List dM×Ev)
 |[],acc,δ=>some (acc,δ)
 |d::r,acc,δ=>(gg d (δ++OV nl)).bind fun δ1=>(tb δ1).bind fun p=>if p.1=true then(fi2 p.2).bind fun u=>(HU gg2 tb2 fe u.1 acc u.2).bind fun q=>VT n nl gg tb fi2 gg2 tb2 fe r q.1 (q.2.take n) else VT n nl gg tb fi2 gg2 tb2 fe r acc (p.2.take n)
noncomputable def UA(ix:List Nat)(nl:Nat)(fi:VI)(gg:VG)(tb:VB)(fi2:VI)(gg2:VG)(tb2:VB)(fe:VF):VF:=fun δ=>(fi δ).bind fun p=>(VT ix.length nl gg tb fi2 gg2 tb2 fe p.1 [] (bI ix p.2)).map fun q=>(.lst q.1,Z1 ix q.2 p.2)
section
variable{X:Cx}{K:Ai}{ml:List Nat}{e a b c:Expr}{es:List Expr}{pi pt pe pi2 pt2 pu bt bi ps bs:Bool}{f:VF}{B B':Bs}{O:Nat->Option Addr}{H H0 H1 H':Hp}{σ:St}{δ δ':Ev}{v:V}{d:dM}{p:Addr}{pos:Pos}{ix:List Nat}{nl:Nat}
theorem K3{fi fi2:VI}{gg gg2:VG}{tb tb2:VB}{fe:VF}(hnd:ix.Nodup){Q:VK}(h:TN K ml (pi && (pt && pi2 && pt2 && pe)) (UA ix nl fi gg tb fi2 gg2 tb2 fe) σ H Q):
  IV ix nl (F3 K ml pi fi) (D1 K (Ay ix.length) gg) (TB K (Ay ix.length) pt tb) (F3 K (Ay ix.length) pi2 fi2) (D1 K (Ay ix.length) gg2) (TB K (Ay ix.length) pt2 tb2) (TV K (Ay ix.length) pe true true fe) σ H Q:=by
 obtain⟨B,O,δ,d,δ2,S,q,k⟩:=h
 unfold UA at q
 cases h1:fi δ with
 | none => rw [h1] at q;cases q
 |some p=>
  obtain⟨ds,δ1⟩:=p
  rw[h1] at q
  have q : ((VT ix.length nl gg tb fi2 gg2 tb2 fe ds [] (bI ix δ1)).map fun q => (dM.lst q.1,Z1 ix q.2 δ1)) = some (d,δ2) := q
  cases h2:VT ix.length nl gg tb fi2 gg2 tb2 fe ds [] (bI ix δ1) with
  | none => rw [h2] at q;cases q
  |some z=>
   obtain⟨res,δf⟩:=z
   rw[h2] at q
   cases q
   refine⟨B,O,δ,ds,δ1,S,h1,fun J kps H0 S0 f0 p0 wk D hD=> ?_⟩
   have hDO : ∀ j,Oc ix O j ≠ some D := fun j e => by
    unfold Oc at e
    cases hi:ix[j]? with
    | none => rw [hi] at e;cases e
    |some i=>
     rw[hi] at e
     obtain⟨o,q⟩:=S0.nin (.inr ⟨i,e⟩)
     rw[hD] at q
     cases q
   have im : ∀ kp j,ix.length <= j -> (Bc ix B O H0 D kp).mu j = none := fun kp j hj => by
    show(ix[j]?).bind O=none
    rw[Cc hj]
    rfl
   refine⟨fun i m acc H1=>m=ds.length - i/\i<=ds.length/\ ∃(ak:List dM) (δc:Ev),δc.length=ix.length/\acc.length=ak.length∧
     bG K (Ay ix.length) (Bc ix B O H0 D (kps++acc.zip ak)) (Oc ix O) H1 (bN ix σ++Ap nl none) (δc++OV nl)/\H1 D=some (.lst acc)/\((pt && pi2 && pt2 && pe)=true->bC H0 H1)∧
     VT ix.length nl gg tb fi2 gg2 tb2 fe (ds.drop i) ak δc=some (res,δf),
    ⟨ds.length,rfl,Ek _,[],bI ix δ1,by simp [bI],rfl,by
     rw[Mw,Dd]
     exact S0.unkeep.inner hD hnd fun p hp=>S0.kep p (Bf _ hp),cQ,fun _=>dD hD,h2⟩,?_⟩
   rintro i m acc H1 ⟨rfl,hi,ak,δc,hlc,cx,S1,hD1,gc,hc⟩
   have w := wk (Nn (Bc ix B O H0 D (kps ++ acc.zip ak)) (Oc ix O)) H1 fun p hp => S1.kep p (Bf _ hp)
   by_cases hlt:i<ds.length
   ·obtain ⟨go,yl⟩ := w.1 i ds[i] (by simp [hlt])
    rw[Dx hlt] at hc
    simp only[VT] at hc
    cases g1:gg ds[i] (δc++OV nl) with
    | none => rw [g1] at hc;cases hc
    |some δ3=>
     rw[g1] at hc
     simp only[Ag] at hc
     cases g2:tb δ3 with
     | none => rw [g2] at hc;cases hc
     |some z=>
      obtain⟨kk,δ4⟩:=z
      rw[g2] at hc
      simp only[Ag] at hc
      refine .inr ⟨go,fun ag H'=> ∃(ak:List dM) (δc:Ev),δc.length=ix.length/\ag.length=ak.length∧
       bG K (Ay ix.length) (Bc ix B O H0 D (kps++ag.zip ak)) (Oc ix O) H' (bN ix σ++Ap nl none) (δc++OV nl)/\H' D=some (.lst ag)/\((pt && pi2 && pt2 && pe)=true->bC H0 H')∧
       VT ix.length nl gg tb fi2 gg2 tb2 fe (ds.drop (i + 1)) ak δc = some (res,δf),fun ag H' w' => ⟨ds.length - (i + 1),by omega,rfl,hlt,w'⟩,fun x H2 hy => ?_⟩
      obtain⟨sm,rx⟩:=yl x H2 hy
      refine⟨_,_,_,ds[i],δ3,S1.same sm,rx,g1,fun σ3 O3 S3 m3=> ?_⟩
      have ln3:ix.length<=σ3.length:=by
       by_cases hz:ix.length=0
       ·omega
       ·have hj : ix.length - 1 < ix.length := by omega
        have:=m3 (ix.length - 1) (Dn.mpr hj)
        have hs:(bN ix σ++Ap nl none)[ix.length - 1]? ≠none:=by
         rw [Am (by rw [Y8];exact hj)]
         simp[bN,hj]
        rw[<- this] at hs
        have og : ix.length - 1 < σ3.length := Nr fun z => hs (Jd.mpr z)
        omega
      have hσ3:=N9 ln3 m3
      refine ⟨hσ3,_,_,δ3,kk,δ4,S3,g2,fun H4 R4 => ?_⟩
      have hD4 : H4 D = some (.lst acc) := R4.frm _ _ (sm _ _ hD1) fun z => by
       obtain⟨j,e⟩:=z
       have:=(R4.sta.old j D e).1
       exact absurd (.inl (.inr rfl)) this
      have ln4 : ix.length <= δ4.length := by rw [<- R4.sta.len];exact ln3
      cases kk with
      |false=>
       rw[if_neg Db] at hc
       refine PV ⟨ak,δ4.take ix.length,by rw [Cj];omega,cx,R4.sta.turn (im _) (Y8 ix σ) hσ3 ln4,hD4,fun z => ?_,hc⟩
       simp only[Ac] at z
       exact ((gc (by simp [z.1.1.1,z.1.1.2,z.1.2,z.2])).trans sm).trans (R4.pur z.1.1.1)
      |true=>
       rw[if_pos rfl] at hc
       cases g3:fi2 δ4 with
       | none => rw [g3] at hc;cases hc
       |some z=>
        obtain⟨ds2,δ5⟩:=z
        rw[g3] at hc
        simp only[Ag] at hc
        cases g4:HU gg2 tb2 fe ds2 ak δ5 with
        | none => rw [g4] at hc;cases hc
        |some z2=>
         obtain⟨je,δ2f⟩:=z2
         rw[g4] at hc
         simp only[Ag] at hc
         refine PX ⟨_,_,δ4,ds2,δ5,R4.sta,g3,fun J2 i5 H5 S5 f5 p5 wk2=> ?_⟩
         have hD5 : H5 D = some (.lst acc) := f5 _ _ hD4 fun z => by
          obtain⟨j,e⟩:=z
          have:=(R4.sta.old j D e).1
          exact absurd (.inl (.inr rfl)) this
         refine⟨fun i2 m2 cz σ1 H6=>m2=ds2.length - i2/\i2<=ds2.length/\ ∃(az:List dM) (δc1:Ev) (O1:Nat->Option Addr),cz.length=az.length∧
           bG K (Ay ix.length) (Bc ix B O H0 D (i5++(kps++cz.zip az))) O1 H6 σ1 δc1/\σ1.take ix.length=bN ix σ/\ix.length<=σ1.length/\H6 D=some (.lst cz)/\((pt && pi2 && pt2 && pe)=true->bC H0 H6)∧
           HU gg2 tb2 fe (ds2.drop i2) az δc1=some (je,δ2f),
          ⟨ds2.length,rfl,Ek _,ak,δ5,_,cx,S5,hσ3,ln3,hD5,fun z => by
           simp only[Ac] at z
           exact(((gc (by simp[z.1.1.1,z.1.1.2,z.1.2,z.2])).trans sm).trans (R4.pur z.1.1.1)).trans (p5 z.1.1.2),g4⟩,?_⟩
         rintro i2 m2 cz σ1 H6 ⟨rfl,hi2,az,δc1,O1,f6,S6,hσ1,ln1,hD6,jv,hc6⟩
         have w2 := wk2 (Nn (Bc ix B O H0 D (i5 ++ (kps ++ cz.zip az))) O1) H6 fun p hp => S6.kep p (Bf _ hp)
         by_cases i7:i2<ds2.length
         ·obtain ⟨go2,yl2⟩ := w2.1 i2 ds2[i2] (by simp [i7])
          rw[Dx i7] at hc6
          simp only[HU] at hc6
          cases k1:gg2 ds2[i2] δc1 with
          | none => rw [k1] at hc6;cases hc6
          |some δ7=>
           rw[k1] at hc6
           simp only[Ag] at hc6
           cases k2:tb2 δ7 with
           | none => rw [k2] at hc6;cases hc6
           |some z3=>
            obtain⟨kk2,δ8⟩:=z3
            rw[k2] at hc6
            simp only[Ag] at hc6
            refine .inr ⟨go2,fun ag σ' H'=> ∃(az:List dM) (δc1:Ev) (O1:Nat->Option Addr),ag.length=az.length∧
             bG K (Ay ix.length) (Bc ix B O H0 D (i5++(kps++ag.zip az))) O1 H' σ' δc1/\σ'.take ix.length=bN ix σ/\ix.length<=σ'.length/\H' D=some (.lst ag)/\((pt && pi2 && pt2 && pe)=true->bC H0 H')∧
             HU gg2 tb2 fe (ds2.drop (i2 + 1)) az δc1 = some (je,δ2f),fun ag σ' H' w' => ⟨ds2.length - (i2 + 1),by omega,rfl,i7,w'⟩,fun x2 H7 hy2 => ?_⟩
            obtain⟨sm2,rx2⟩:=yl2 x2 H7 hy2
            refine⟨_,_,_,ds2[i2],δ7,S6.same sm2,rx2,k1,fun σ7 O7 S7 m7=> ?_⟩
            have hσ7:σ7.take ix.length=bN ix σ:=by
             rw[<- hσ1]
             refine Mv fun j=> ?_
             rw[Mk,Mk]
             split
             ·rename_i hj
              exact m7 j (Dn.mpr hj)
             ·rfl
            have ln7:ix.length<=σ7.length:=by
             have:(σ7.take ix.length).length=ix.length:=by rw[hσ7,Y8]
             rw[Cj] at this
             omega
            refine⟨_,_,δ7,kk2,δ8,S7,k2,fun H8 R8=> ?_⟩
            have hD8 : H8 D = some (.lst cz) := R8.frm _ _ (sm2 _ _ hD6) fun z => by
             obtain⟨j,e⟩:=z
             have:=(R8.sta.old j D e).1
             exact absurd (.inl (.inr rfl)) this
            cases kk2 with
            |false=>
             rw[if_neg Db] at hc6
             refine PV ⟨az,δ8,_,f6,R8.sta,hσ7,ln7,hD8,fun z=> ?_,hc6⟩
             have z0:=z
             simp only[Ac] at z
             exact((jv z0).trans sm2).trans (R8.pur z.1.2)
            |true=>
             rw[if_pos rfl] at hc6
             cases k3:fe δ8 with
             | none => rw [k3] at hc6;cases hc6
             |some z4=>
              obtain⟨dv,δ9⟩:=z4
              rw[k3] at hc6
              simp only[Ag] at hc6
              split at hc6
              ·rename_i hz
               refine PX ⟨_,_,δ8,dv,δ9,R8.sta,k3,fun v H9 R9=> ?_⟩
               have hD9:H9 D=some (.lst cz):=R9.frm _ _ hD8 fun z=>by
                obtain⟨j,e⟩:=z
                have:=(R9.sta.old j D e).1
                exact absurd (.inl (.inr rfl)) this
               have hv:b6 K (Nn (Bc ix B O H0 D (i5++(kps++cz.zip az))) O7) H9 (Nn (Bc ix B O H0 D (i5++(kps++cz.zip az))) O7) v dv:=R9.rep.mono (fun a h=>by
                rcases h with h|h
                ·exact .inl h
                ·exact .inr h) (fun a h => by
                rcases h with h|h
                ·exact .inl h
                ·exact .inr h)
               have S10:=R9.sta.withKp (kp:=i5++(kps++(cz++[v]).zip (az++[dv]))) fun p hp=>by
                rw[Pa f6,<- Fw,<- Fw] at hp
                rcases Fa.mp hp with z|z
                ·exact R9.sta.kep p (by rw [<- Fw];exact z)
                ·rw[Ax.mp (show p∈[(v,dv)] from z)]
                 exact hv
               refine⟨hD9,by rw[f6,Bu];exact hz,az++[dv],δ9,O7,by simp[f6],?_,hσ7,ln7,cQ,fun z=> ?_,hc6⟩
               ·exact S10.writeZ (.inl (.inr rfl)) hD9 hD
               ·intro b o e
                have hb:b≠D:=fun z=>by rw[z,hD] at e;cases e
                rw[cH hb]
                have z0:=z
                simp only[Ac] at z
                exact(((jv z0).trans sm2).trans ((R8.pur z.1.2).trans (R9.pur z.2))) b o e
              ·cases hc6
         ·have e : i2 = ds2.length := by omega
          subst e
          rw[Gd] at hc6
          cases hc6
          refine .inl ⟨w2.2,hσ1,je,δ2f.take ix.length,by rw[Cj,<- S6.len];omega,f6,?_,hD6,jv,hc⟩
          have S11:=S6.turn (nl:=nl) (im _) (Y8 ix σ) hσ1 (by rw[<- S6.len];exact ln1)
          exact S11.withKp (kp:=kps++cz.zip je) fun p hp=>S11.kep p (Ar _ hp)
   ·have e : i = ds.length := by omega
    subst e
    rw[Gd] at hc
    cases hc
    refine .inl ⟨w.2,k D H1 ?_⟩
    have fP:Fr (OA (Oc ix O)) H0 H1:=S1.frm
    have hPO: ∀a,OA (Oc ix O) a->OA O a:=fun a q0=>by
     obtain⟨j,e⟩:=q0
     unfold Oc at e
     cases hi:ix[j]? with
     | none => rw [hi] at e;cases e
     | some i => rw [hi] at e;exact ⟨i,e⟩
    have SL:=S0.unkeep.laid (o:= .lst acc) hD
    have fL:Fr (OA (Oc ix O)) (bL H0 D (.lst acc)) H1:=fun b o e n=>by
     by_cases hb:b=D
     ·subst hb
      rw[cQ] at e
      cases e
      exact hD1
     ·rw[cH hb] at e
      exact fP b o e n
    refine⟨SL.call (W8) (fun i=> ?_) fL hPO,f0.trans (fP.mono hPO),fun z=> ?_,.lst hD1 (VD cx fun p hp=>(S1.kep p (Ar _ hp)).mono RY RY),S0.unkeep.new hD,S0.fresh hD⟩
    ·by_cases io:i<δ1.length
     ·rcases W7 (ix:=ix) (ss:=δf) (δ:=δ1) i io hlc.symm with⟨j,x,e1,e2,e3⟩|⟨e1,e2⟩
      ·have e4:(δf++OV nl)[j]? =some (.ow x):=by
        rw[Am (Ah.mp e2).1]
        exact e2
       obtain⟨a,e5,_,w⟩:=S1.ow j x e4
       refine .inr ⟨a,x,?_,e3,w.mono RY⟩
       unfold Oc at e5
       rw[e1] at e5
       exact e5
      ·refine .inl ⟨e2,fun a ea ⟨j,ej⟩ => ?_⟩
       obtain⟨x,ex⟩:=S1.dom j a ej
       unfold Oc at ej
       cases hi:ix[j]? with
       |none=>rw[hi] at ej;cases ej
       |some i'=>
        rw[hi] at ej
        have:i=i':=S0.inj i i' a ea ej
        subst this
        have hj:j<δf.length:=by rw[hlc];exact(Ah.mp hi).1
        rw[Am hj] at ex
        exact e1 j x hi ex
     ·refine .inl ⟨?_,fun a ea => ?_⟩
      ·rw [Cc (by rw [W8];omega),Cc (by omega)]
      ·obtain⟨x,ex⟩:=S0.dom i a ea
       exact absurd (Ah.mp ex).1 io
    ·rw[Ac] at z
     exact(p0 z.1).trans (gc z.2)
theorem C7{tg iter tg2 it2 elt:Expr}{ifs af:List Expr}{scope:Scope}{N':List Str}{fi fi2:VI}{gg gg2:VG}{tb tb2:VB}{fe:VF}
  (hc:X.calm=true) (hk:scope.kind= .function) (hok:RM X.N N' ix scope.names X.env.kindOf=true) (hnl:N'.length=ix.length+nl) (hnd:ix.Nodup) (hi:PI X tg iter (F3 K ml pi fi))
  (blk: ∀(cl:List (Str×Addr)) (s1:Ad) (H1:Hp) (fp:List Addr),Blk2 (cD X N' scope cl s1 H1 fp) tg ifs tg2 it2 af elt (D1 K (Ay ix.length) gg) (TB K (Ay ix.length) pt tb) (F3 K (Ay ix.length) pi2 fi2) (D1 K (Ay ix.length) gg2) (TB K (Ay ix.length) pt2 tb2) (TV K (Ay ix.length) pe true true fe))
  (hs: ∀x,foldedSetIterable iter X.env x=pure x:=by intro _;rfl) (hs2: ∀(env:Env) (x:Value),foldedSetIterable it2 env x=pure x:=by intro _ _;rfl):PE X (.ListComp elt [⟨tg,iter,ifs,0⟩,⟨tg2,it2,af,0⟩] scope pos) (TN K ml (pi && (pt && pi2 && pt2 && pe)) (UA ix nl fi gg tb fi2 gg2 tb2 fe)):=
 (BE hc (YB hk hok) hnl hi blk hs hs2).imp fun _ _ _ h=>K3 hnd h
end
section
variable{prog:Au}{w:World}{A:Bx}{R:Ma->Ad->Prop}{I:Addr}{fp wr:List Addr}{n:Nat}{P:Nat->Value->Prop}{St:Nat->Heap->Prop}
theorem SY:(toString "min" ++toString ".loop":String)= "min.loop":=by decide
theorem zBB(W:Walks prog w A.in1 I fp wr n P St)(bt:Nat->Nat->Bool)(k7:CmpOf prog w A.in1 .Lt P bt)(S:Addr)(hSf:S∉fp)(kw:List (Str×Value)): ∀(k j:Nat) (s:Ad) (vb:Value) (c:Nat),n - (j+1)=k->j+1<=n->St (j+1) s.heap->P (argBest bt j) vb→
  s.heap.get? S=some ⟨.type "list",none,.seq #[vb,vb] c,#[]⟩→
  (∀v g tk,P (argBest bt (n - 1)) v->(∀b o,b∉wr->b≠S->s.heap.get? b=some o->g.get? b=some o)->R (.ok (.ret v)) {s with heap:=g,toks:=tk})→
  Ej (model prog w) A (.builtin "min.loop" ⟨[.ref I,.none,.ref S],kw⟩) R s:=by
 have nSw:S∉wr:=fun z=>hSf (W.sub _ z)
 intro k
 induction k with
 |zero=>
  intro j s vb c ek ej est ep eS eR
  have ej':j+1=n:=by omega
  refine Gw Hm (by
   rw[Fy Ds _]
   show wpAny _ A.in1 (Ku (.ref S)>>=_) _ _ s
   refine Aa (Df eS rfl ?_)
   show wpAny _ A.in1 (tryCatch (pyNext (.ref I)) _>>=_) _ _ s
   refine Aa (Hh (W.done s _ _ (ej'▸est) fun g tk kept=> ?_))
   have eS':=kept S _ nSw eS
   show wpAny _ A.in1 (updateSeq S (fun _=> #[])>>=_) _ _ _
   refine Aa (Ij eS' rfl (Aa (Hf (Af ?_))))
   exact eR vb _ tk (by rw[<- ej'];exact ep) fun b o z1 z2 e=>(Dc _ _ (Ee z2)).trans (kept b o z1 e))
 |succ k ih=>
  intro j s vb c ek ej est ep eS eR
  have hlt:j+1<n:=by omega
  refine Gw Hm (by
   rw[Fy Ds _]
   show wpAny _ A.in1 (Ku (.ref S)>>=_) _ _ s
   refine Aa (Df eS rfl ?_)
   show wpAny _ A.in1 (tryCatch (pyNext (.ref I)) _>>=_) _ _ s
   refine Aa (Hh (W.item (j+1) s _ _ hlt est fun v g tk pv jh kept=> ?_))
   have eS':=kept S _ nSw eS
   show wpAny _ A.in1 (tryCatch (Jr [v,v] (richCompare .Lt v vb>>=_)) _>>=_) _ _ _
   refine Aa (Hh (Bo (Aa (k7 (j+1) (argBest bt j) v vb _ _ _ pv ep ?_))))
   refine Aa (Bo (Du ?_))
   refine Aa (Hf (Af ?_))
   cases hb:bt (j+1) (argBest bt j) with
   |true=>
    simp only[if_true]
    refine Aa (Ij eS' rfl (Aa (Hf ?_)))
    rw[SY]
    refine Af ⟨Hu Ds _,ih (j+1) _ v _ (by omega) hlt (W.frame _ _ _ jh fun b hbf o e=>(Dc _ _ (fun z:S=b=>hSf (by rw[z];exact hbf))).trans e) (by simp only[argBest,hb,if_true];exact pv) (Fo _ eS' rfl)
     fun v' g' tk' pv' eu=>eR v' g' tk' pv' fun b o z1 z2 e=>eu b o z1 z2 ((Dc _ _ (Ee z2)).trans (kept b o z1 e))⟩
   |false=>
    simp only[Fk,if_false]
    refine Aa (Hf ?_)
    rw[SY]
    exact Af ⟨Hu Ds _,ih (j+1) _ vb c (by omega) hlt jh (by simp only[argBest,hb,Fk,if_false];exact ep) eS' fun v' g' tk' pv' eu=>
     eR v' g' tk' pv' fun b o z1 z2 e=>eu b o z1 z2 (kept b o z1 e)⟩)
theorem HZ(W:Walks prog w A.in1 I fp wr n P St)(bt:Nat->Nat->Bool)(k7:CmpOf prog w A.in1 .Lt P bt)(S:Addr)(hSf:S∉fp)(kw:List (Str×Value))(hn:0<n){s:Ad}{c:Nat}(est:St 0 s.heap)(eS:s.heap.get? S=some ⟨.type "list",none,.seq #[] c,#[]⟩)
  (eR: ∀v g tk,P (argBest bt (n - 1)) v->(∀b o,b∉wr->b≠S->s.heap.get? b=some o->g.get? b=some o)->R (.ok (.ret v)) {s with heap:=g,toks:=tk}):
  Ej (model prog w) A (.builtin "min.loop" ⟨[.ref I,.none,.ref S],kw⟩) R s:=by
 have nSw:S∉wr:=fun z=>hSf (W.sub _ z)
 refine Gw Hm (by
  rw[Fy Ds _]
  show wpAny _ A.in1 (Ku (.ref S)>>=_) _ _ s
  refine Aa (Df eS rfl ?_)
  show wpAny _ A.in1 (tryCatch (pyNext (.ref I)) _>>=_) _ _ s
  refine Aa (Hh (W.item 0 s _ _ hn est fun v g tk pv jh kept=> ?_))
  have eS':=kept S _ nSw eS
  refine Aa (Af ?_)
  show wpAny _ A.in1 (updateSeq S (fun _=> #[v,v])>>=_) _ _ _
  refine Aa (Ij eS' rfl ?_)
  rw[SY]
  exact Af ⟨Hu Ds _,zBB W bt k7 S hSf kw _ 0 _ v _ rfl hn (W.frame _ _ _ jh fun b hbf o e=>(Dc _ _ (fun z:S=b=>hSf (by rw[z];exact hbf))).trans e) pv (Fo _ eS' rfl)
   fun v' g' tk' pv' eu=>eR v' g' tk' pv' fun b o z1 z2 e=>eu b o z1 z2 ((Dc _ _ (Ee z2)).trans (kept b o z1 e))⟩)
theorem E2(W:Walks prog w A.in1 I fp wr n P St)(S:Addr)(hSf:S∉fp)(x:Str)(d:Value)(kw:List (Str×Value))(hn:n=0){s:Ad}{c:Nat}(est:St 0 s.heap)(eS:s.heap.get? S=some ⟨.type "list",none,.seq #[] c,#[]⟩)
  (eR: ∀g tk,(∀b o,b∉wr->b≠S->s.heap.get? b=some o->g.get? b=some o)->R (.ok (.ret d)) {s with heap:=g,toks:=tk}):
  Ej (model prog w) A (.builtin "min.loop" ⟨[.ref I,.none,.ref S],(x,d)::kw⟩) R s:=by
 refine Gw Hm (by
  rw[Fy Ds _]
  show wpAny _ A.in1 (Ku (.ref S)>>=_) _ _ s
  refine Aa (Df eS rfl ?_)
  show wpAny _ A.in1 (tryCatch (pyNext (.ref I)) _>>=_) _ _ s
  refine Aa (Hh (W.done s _ _ (hn▸est) fun g tk kept=> ?_))
  exact Aa (Hw (Af (eR g tk fun b o z1 _ e=>kept b o z1 e))))
end
section
variable{prog:Au}{w:World}{M:Model}{A:Bx}{E:Value->Ad->Prop}{s:Ad}
theorem AD{pos:Pos}{id:String}{args:List (Bool×Sem Value)}{kws:List (Option Str×Sem Value)}{Q:Value->Ad->Prop}(h1:args.any (·.1)=false)(h2:kws.any (·.1.isNone)=false)
  (h:wpAny M A (evalArgs (.builtin id) true args kws) (fun a s₁=>wpAny M A (call (.builtin id) a.pos a.kw) Q E s₁) E s):wpAny M A (Oj pos (.builtin id) [] args kws) Q E s:=by
 unfold Oj
 refine Aa (Bo (An h (fun a s₁ hx=>Aa (Cv ?_)) fun _ _ z=>z))
 rw[h1,h2]
 exact Aa (Af (Aa (An hx (fun r s₂ hr=>Aa (Bo (wpAny_point (Af hr)))) fun _ _ z=>z)))
theorem CV{id:String}{b:Ed}{args:List Value}{kw:List (Str×Value)}{Q:Value->Ad->Prop}(hk:builtinKind id=none)(hp:plainId id=true)(hb:entryFor table id=some b)(ha:argsOk id ⟨args,kw⟩)
  (hc : wpAny (model prog w) A.in1 (b ⟨args,kw⟩) (fun fin s' => match fin with
   | .done f=>(match(Except.ok f:Ma) with| .ok (.ret v)=>Q v s'| .ok _=>False| .error e=>E e s')
   | .again c'=>c'.quiet=true/\Ej (model prog w) A c' (fun r s'=>match r with| .ok (.ret v)=>Q v s'| .ok _=>False| .error e=>E e s') s') E s):wpAny (model prog w) A (call (.builtin id) args kw) Q E s:=by
 refine Jh (Ho hp hb (by
  simp only[checkBuiltinCall,hk]
  cases hsig:Manifest.signature? id with
  |none=>exact Af hc
  |some sig=>
   simp only[argsOk,hsig] at ha
   have e:Pm id sig ⟨args,kw⟩=pure ():=ha
   show wpAny _ A.in1 (Pm id sig ⟨args,kw⟩) _ _ s
   rw[e]
   exact Af hc))
theorem D3(a d:Value):argsOk "min" ⟨[a],[(Az "default",d)]⟩:=by unfold argsOk;kernel_rfl
theorem KB{l:Addr}{xs:Array (Int×Tok)}{d:Value}{Q:Value->Ad->Prop}(hh:A.handled=none)(hl:s.heap.IsList l (intItems xs))
  (h0:xs.size=0-> ∀g tk,(∀b o,s.heap.get? b=some o->g.get? b=some o)->Q d {s with heap:=g,toks:=tk})
  (h1 : 0 < xs.size -> ∀ v g tk,(intItems xs)[argBest (fun i j => decide (numAt xs i < numAt xs j)) (xs.size - 1)]? = some v -> (∀ b o,s.heap.get? b = some o -> g.get? b = some o) -> Q v { s with heap := g,toks := tk }) :
  wpAny (model prog w) A (call (.builtin "min") [.ref l] [(Az "default",d)]) Q E s:=by
 refine CV F.kind_min F.plain_min F.entry_min (D3 _ _) ?_
 show wpAny _ A.in1 (Ik "min" ["key","default"] 0 ⟨[],[(Az "default",d)]⟩>>=_) _ _ s
 refine Aa (Pb (show Ik "min" ["key","default"] 0 ⟨[],[(Az "default",d)]⟩=pure [none,some d] from rfl) ?_)
 refine Aa (Af ?_)
 refine Aa (iter_intList hl fun s₂ e st hfp hlI=>Aa (Cz ?_))
 subst e
 have W:=Walks.list (prog:=prog) (w:=w) (A:=A.in1) hh _ l hlI (intItems xs)
 have hS: ∀b∈[s.heap.objs.size,l],b≠(s.heap.push {cls:= .type "list_iterator",data:= .fields #[.ref l,.int 0 0]}).objs.size:=fun b hb=>Be (hfp b hb)
 have kept: ∀{g:Heap},(∀b o,b∉[s.heap.objs.size]->b≠(s.heap.push {cls:= .type "list_iterator",data:= .fields #[.ref l,.int 0 0]}).objs.size->((s.heap.push {cls:= .type "list_iterator",data:= .fields #[.ref l,.int 0 0]}).push {cls:= .type "list",data:= .seq ([]:List Value).toArray}).get? b=some o->g.get? b=some o)→
   ∀b o,s.heap.get? b=some o->g.get? b=some o:=fun hk b o e=>by
  have hb:=Aj e
  exact hk b o (fun z=>by rw[Ax.mp z] at hb;exact Bw _ hb) (Be (by rw[Ch];exact Nat.lt_succ_of_lt hb)) (Ae _ (Ae _ e))
 rw[SY]
 by_cases hz:xs.size=0
 ·exact Af ⟨Hu Ds _,E2 W _ (fun z=>hS _ z rfl) _ d [] (by simpa[intItems] using hz) (W.frame 0 _ _ st fun b _ o e=>Ae _ e) (At _ rfl) fun g tk hk=>h0 hz g tk (kept hk)⟩
 ·exact Af ⟨Hu Ds _,HZ W _ (CmpOf.ints_lt (numAt xs) (fun _ _=>intItems_at)) _ (fun z=>hS _ z rfl) _ (by simp[intItems];omega) (W.frame 0 _ _ st fun b _ o e=>Ae _ e) (At _ rfl)
   fun v g tk hv hk=>h1 (by omega) v g tk (by simpa[intItems] using hv) (kept hk)⟩
end
section
variable{X:Cx}{K:Ai}{ml:List Nat}{e a b c:Expr}{es:List Expr}{pa ta ia:Bool}{fa fb fc f:VF}{H:Hp}{σ:St}{d:dM}{p' pos:Pos}
def B5(K:Ai):RC:=fun xs H Q=> ∃(p:Addr) (ns:List Int),xs=[.ref p]/\YO K H p (ns.map V.int)/\Q (if ns=[] then .non else .int (WE ns)) H
theorem EC(hc:X.calm=true){aa:List (Addr×Obj)}{s:Ad}{xs:List V}{us:List Value}{Q:VK}(I:c7 X aa σ H s)(r:cA xs us)(h:B5 X.K xs H Q):wpAny (model X.prog X.w) X.A (call (.builtin "min") us [(Az "default",.none)]) (EP X aa σ Q) X.xe s:=by
 obtain⟨l,ns,rfl,hq,q⟩:=h
 obtain⟨u,rfl,rx⟩:=QC r
 cases rx
 obtain⟨its,rv,pl,hz⟩:=I.list hq
 have hi:=SV rv
 obtain⟨xs,ex⟩:=hi.allInts.items
 have hns:ns=xs.toList.map (·.1):=by rw[<- hi.numsOf,<- nums_intItems,<- ex]
 have hl:=pl.isList
 rw[ex] at hl
 refine KB (I.ok.hd hc) hl (fun h0 g tk hk=> ?_) fun h1 v g tk hv hk=> ?_
 ·have : ns = [] := by rw [hns,List.map_eq_nil_iff,<- Gv,Dh];exact h0
  rw[if_pos this] at q
  exact⟨.non,H,I.kept (t':=tk) hk,rfl,q⟩
 ·have hne : ns ≠ [] := fun z => by rw [z] at hns;have := congrArg List.length hns;simp at this;omega
  rw[if_neg hne] at q
  obtain⟨t,rfl⟩:=intItems_at hv
  obtain⟨b1,b2⟩:=argBest_lt (numAt xs) (xs.size - 1)
  have e:numAt xs (argBest (fun i j=>decide (numAt xs i<numAt xs j)) (xs.size - 1))=WE ns:=by
   refine zBA (by rw[hns,numAt_eq];exact PySem.getD_mem (by rw[De,Dh];omega)) fun a ha=> ?_
   rw[hns] at ha
   obtain⟨j,hj,rfl⟩:=PySem.mem_getD ha
   rw[De,Dh] at hj
   rw[<- numAt_eq]
   exact b2 j (by omega)
  exact⟨.int (WE ns),H,I.kept (t':=tk) hk,⟨t,by rw[e]⟩,q⟩
noncomputable def AY:dM->Option dM
 | .lst ds=>(UX ds).map fun ns=>if ns=[] then .non else .int (WE ns)
 |_=>none
theorem zDI:DT K (B5 K) AY:=by
 intro H N M x d c Q hx h k
 cases d with
 |lst ds=>
  have h:(UX ds).map (fun ns=>if ns=[] then dM.non else dM.int (WE ns))=some c:=h
  cases h1:UX ds with
  |none=>rw[h1] at h;cases h
  |some ns=>
   rw[h1,Option.map_some,Option.some.injEq] at h
   subst h
   obtain⟨a,xs,rfl,sq,r⟩:=hx.lstE
   have e:=PU r h1
   subst e
   refine⟨a,ns,rfl,sq,k _ fun _ _ _=> ?_⟩
   split
   ·exact .non
   ·exact .int _
 |_=>cases h
theorem zAA{j:Nat}{kp cp:Pos}(hK:X.K=K)(hc:X.calm=true)(hg:Gl X "min") (hm:X.mg "min"=none) (hv:Bl "min"=some (.builtin "min")) (ha:PE X a (TV K ml pa ta ia fa))
  (he:starEach (a::[]) X.env=(false,eval a X.env)::starEach [] X.env:=by rfl):PE X (.Call (.Name "min" p') [a] [⟨some "default",.Constant .none j cp,kp⟩] pos) (TV K ml pa true true (f1 AY fa)):=by
 subst hK
 refine PE.imp (t:=tCB (B5 X.K) (U0 (TV X.K ml pa ta ia fa) OS)) ?_ fun _ _ _ h=>OB zDI h
 intro aa s σ H Q I h
 refine Co (UK I hg hm hv ?_ (by decide) (by decide))
 have hp:=(bR ha ZN he) pos aa s σ H _ I h
 rw[he] at hp⊢
 refine AD rfl rfl (evalArgs_kw rfl (aJ hp fun us s1 ⟨vs,H1,I1,r1,q1⟩=> ?_))
 refine Mb (Aa (aJ (BJ (X:=X) aa s1 σ H1 (fun v H2=>v= .non/\H2=H1) I1 ⟨rfl,rfl⟩) fun u s2 ⟨v,H2,I2,rv,e1,e2⟩=>Aa (Cv (Af (Mr ?_)))))
 subst e1 e2
 cases rv
 exact EC hc I2 r1 q1
end
section
variable{X:Cx}{K:Ai}{ml:List Nat}{pi pt pe pi2 pt2 pu:Bool}{pos:Pos}{ix:List Nat}{nl:Nat}{f:VF}
theorem BQ{i:Nat}{y:Str}{py cr:Pos}{tg iter tg2 it2 elt:Expr}{ifs af:List Expr}{scope:Scope}{N':List Str}{wi wi2:TI}{g g2:TG}{tt tt2:TT}{te:TE}
  (hN:X.N.Nodup) (hi':X.N[i]? =some y) (hy:X.env.scope.names.lookup y=some .local)
  (hc:X.calm=true) (S:WM X N' ix scope) (hnl:N'.length=ix.length+nl) (hi:PI X tg iter wi)
  (blk: ∀(cl:List (Str×Addr)) (s1:Ad) (H1:Hp) (fp:List Addr),Blk2 (cD X N' scope cl s1 H1 fp) tg ifs tg2 it2 af elt g tt wi2 g2 tt2 te)
  (hsw:Fm (.ListComp elt [⟨tg,iter,ifs,0⟩,⟨tg2,it2,af,0⟩] scope pos) (some (.Name y py)) cr.line X.env=pure true:=by rfl)
  (hs: ∀x,foldedSetIterable iter X.env x=pure x:=by intro _;rfl) (hs2: ∀(env:Env) (x:Value),foldedSetIterable it2 env x=pure x:=by intro _ _;rfl):PS X (.Assign [.Name y py] (.ListComp elt [⟨tg,iter,ifs,0⟩,⟨tg2,it2,af,0⟩] scope pos) cr) (CP (IV ix nl wi g tt wi2 g2 tt2 te) (JZ i)):=by
 intro aa s σ H D I h
 rw[Kw _ _ _ _ hsw]
 refine Aa (Cv (Aa ?_))
 show wpAny _ X.A (do let _<- comprehension (.ListComp elt [⟨tg,iter,ifs,0⟩,⟨tg2,it2,af,0⟩] scope pos) scope X.env _ (Qb []) false (eval iter X.env) (some (assign (.Name y py) X.env))) _ _ s
 obtain⟨cl,e1,e2,e3⟩:=QO (env:=X.env) (scope:=scope) fun y hy hf=>I.ok.has y.1 (S.free y hy hf)
 refine Aa (An (Fd (use:=some (assign (.Name y py) X.env)) (cl:=cl) (Q:=fun _ s'=>SP X aa D .next s') rfl hs e1 S.kind S.names
  (An (hi aa s σ H _ I h) (fun xv s₁ h₁=>An h₁ (fun itv s₂ h₂=> ?_) fun _ _ e=>e) fun _ _ e=>e)) (fun _ s' hq=>Af (Af hq)) fun _ _ e=>e)
 obtain⟨it,fp,tn,J,H2,e,I2,T,st2,f2,q⟩:=h₂
 subst e
 refine O9 (Q:=fun v H'=>D.nx (σ.set i (some v)) H') (RR:=fun acc C=>Qd (model X.prog X.w) X.A X.xe (some (assign (.Name y py) X.env)) (fun _ s'=>SP X aa D .next s') acc C) hs2 hc S hnl e2 e3 blk I2 T st2 f2 q ?_
 intro Dl C s' H' I' hm hC1 hC2 hb hq
 obtain⟨m,hm⟩:=hm
 show wpAny _ X.A (assign (.Name y py) X.env (.ref Dl)) _ _ _
 refine Ft (SA I' hN hi' (.inl hy) (v:= .ref Dl) rfl (fun s'' I'' ⟨a,hsb,ha⟩=> ?_) (.inr hy))
 have hCa:C≠a:=by
  rcases ha with z|z
  ·rw[z];exact hC1
  ·exact Ee (hC2 y a z)
 exact⟨m,hm.sameBut hsb hCa,fun h'' sb=>⟨_,H',hb _ s'' h'' I'' sb,hq⟩⟩
theorem DB{i:Nat}{y:Str}{py cr:Pos}{tg iter tg2 it2 elt:Expr}{ifs af:List Expr}{scope:Scope}{N':List Str}{fi fi2:VI}{gg gg2:VG}{tb tb2:VB}{fe:VF}(o:Bool)
  (hN:X.N.Nodup) (hi':X.N[i]? =some y) (hy:X.env.scope.names.lookup y=some .local)
  (hc:X.calm=true) (hk:scope.kind= .function) (hok:RM X.N N' ix scope.names X.env.kindOf=true) (hnl:N'.length=ix.length+nl) (hnd:ix.Nodup) (hi:PI X tg iter (F3 K ml pi fi))
  (blk: ∀(cl:List (Str×Addr)) (s1:Ad) (H1:Hp) (fp:List Addr),Blk2 (cD X N' scope cl s1 H1 fp) tg ifs tg2 it2 af elt (D1 K (Ay ix.length) gg) (TB K (Ay ix.length) pt tb) (F3 K (Ay ix.length) pi2 fi2) (D1 K (Ay ix.length) gg2) (TB K (Ay ix.length) pt2 tb2) (TV K (Ay ix.length) pe true true fe))
  (hm:i∉ml:=by decide)
  (hsw:Fm (.ListComp elt [⟨tg,iter,ifs,0⟩,⟨tg2,it2,af,0⟩] scope pos) (some (.Name y py)) cr.line X.env=pure true:=by rfl)
  (hs: ∀x,foldedSetIterable iter X.env x=pure x:=by intro _;rfl) (hs2: ∀(env:Env) (x:Value),foldedSetIterable it2 env x=pure x:=by intro _ _;rfl):PS X (.Assign [.Name y py] (.ListComp elt [⟨tg,iter,ifs,0⟩,⟨tg2,it2,af,0⟩] scope pos) cr) (U5 K ml (aZ i (if o then xO (UA ix nl fi gg tb fi2 gg2 tb2 fe) else xV (UA ix nl fi gg tb fi2 gg2 tb2 fe)))):=
 (BQ hN hi' hy hc (YB hk hok) hnl hi blk hsw hs hs2).imp fun D σ H h=>CY (fun σ H Q z=>K3 hnd (zBW (pu:=pi && (pt && pi2 && pt2 && pe)) z)) hm h
end
end L2
namespace TS
open PySem PySem.W PyProof.Rows
end TS
namespace L2
open PySem PySem.Spec PyProof.Rows
variable{X:Cx}{K:Ai}
variable{X:Cx}{K:Ai}{H:Hp}{σ:St}{s:Ad}{aa:List (Addr×Obj)}{ml:List Nat}{pa ta ia:Bool}{fa:VF}{a:Expr}{p' pos:Pos}
theorem aR.alive{P:Au}{w:World}{H:Hp}{h:Heap}{a:Addr}{o:HO}(x:aR P w H h a o): ∃u,h.get? a=some u:=by
 cases o with
 |lst xs=>obtain⟨_,_,_,_,e⟩:=x;exact⟨_,e⟩
 |tup xs=>obtain⟨_,_,_,ob,e,_⟩:=x;exact⟨_,e⟩
 |dK kvs=>obtain⟨_,_,_,_,o,_,_,e,_⟩:=x;exact⟨_,e⟩
 |dT kvs=>obtain⟨_,_,_,_,o,_,_,e,_⟩:=x;exact⟨_,e⟩
 |set S n=>obtain⟨o,_,_,_,e,_⟩:=x;exact⟨_,e⟩
 |ins C dx fs=>obtain⟨_,_,_,e,_⟩:=x;exact⟨_,e⟩
 |own y=>exact x
 |xd fs=>obtain⟨_,⟨_,_,_,e,_⟩,_⟩:=x;exact⟨_,e⟩
 |rng lo hi=>obtain⟨_,_,_,e⟩:=x;exact⟨_,e⟩
 |frz ob u=>obtain⟨e,_⟩:=x;exact⟨_,e⟩
 |tbl ps=>exact⟨_,(show h.get? a=some _ from x)⟩
 |met f y=>exact⟨_,(show h.get? a=some _ from x)⟩
 |ext φ=>exact x.2.1
structure XA(K:Ai)(C:Addr):Prop where
 mro:W.mroIn K C (.type "object")=some true
 cls:Of K (.ref C) "__class__"=some (some (.builtin "object.__class__"))
 get:W.specialIn K (.builtin "object.__class__") "__get__"=some (some (.builtin "getset_descriptor.__get__"))
 tak:W.takesIn K (.builtin "object.__class__")=some true
 ga:Of K (.ref C) "__getattribute__"=some (some (.builtin "BaseException.__getattribute__"))
 no:Of K (.ref C) "__getattr__"=some none
 sub:W.subIn K (.ref C) (.type "BaseException")=some true
structure XP(K:Ai)(C Cp:Addr):Prop where
 at_:Fq K mainGlobals "PackError"=some (some (.ref Cp))
 ty:W.typeIn K (.ref Cp)=some (.type "type")
 cls:(Qr K Cp).isSome=true
 base:W.subIn K (.ref Cp) (.type "BaseException")=some true
 sub:W.subIn K (.ref C) (.ref Cp)=some true
noncomputable abbrev vbs:List Value:=[.type "ValueError",.type "Exception",.type "BaseException",.type "object"]
structure XC(K:Ai)(x:Str)(C:Addr):Prop where
 at_:Fq K mainGlobals x=some (some (.ref C))
 exc:W.excIn K C vbs "ValueError.__new__"=true
 att:XA K C
 cls:(Qr K C).isSome=true
 pk: ∃Cp,XP K C Cp
def ExcF(l:List Env)(g:Heap)(H:Hp)(C:Addr)(e:Value)(h:Heap):Prop:=
 ∃a a0 B,e= .ref a/\Kx B l a (.ref C) a0 h/\(∀b o,g.get? b=some o->b∉UW l-> ∃o',h.get? b=some o'/\B.get? b=some o')/\ ∀b u,H b=some u-> ∃o,h.get? b=some o/\B.get? b=some o
def LI(P:Au)(w:World):HF:=fun outer H s E e s'=> ∃C H1,s'.os=s.os/\Jp s'.gens/\Un (UW outer) [] H H1 s.heap s'.heap/\U2 P w H1 s'.heap/\ExcF outer s.heap H1 C e s'.heap/\E (.ref C) none H1
theorem GD{P:Au}{w:World}{H:Hp}{h h' B:Heap}(ok:U2 P w H h)(st:B.StaysIn h')(c2: ∀b u,H b=some u-> ∃o,h.get? b=some o/\B.get? b=some o):U2 P w H h':=fun b u e=>
 (ok b u e).stay (fun c v hc q => by
  have: ∃u,H c=some u:=by
   rcases hc with rfl|hc
   ·exact⟨u,e⟩
   ·exact⟨_,hc⟩
  obtain⟨u',e'⟩:=this
  obtain⟨o,e1,e2⟩:=c2 c u' e'
  rw[q] at e1
  cases e1
  exact st c v e2) (fun _ q=>q) fun _ _ q=>q
section
variable{X:Cx}{aa:List (Addr×Obj)}{σ:St}{H H1:Hp}{s s':Ad}{g h' B:Heap}{C a:Addr}{a0:Value}
theorem c7.fly(I:c7 X aa σ H s)(st:B.StaysIn h')(up:s.heap.UpToSlots h')(c1: ∀b o,X.s₀.heap.get? b=some o->b∉UW X.stack-> ∃o',s.heap.get? b=some o'/\B.get? b=some o')
  (cp: ∀p∈X.pn++aa,B.get? p.1=some p.2) (c2: ∀b u,H b=some u-> ∃o,s.heap.get? b=some o/\B.get? b=some o):c7 X aa σ H {s with heap:=h'}:=by
 have neL: ∀b o,X.s₀.heap.get? b=some o->b≠X.env.locals:=fun b o e=>Be (Aq (Aj e) I.ok.above)
 have out: ∀b o,X.s₀.heap.get? b=some o->b∉X.fs->b∉UW X.stack:=fun b o e hb z=>(Ao.mp (I.stkSub b z)).elim (neL b o e) hb
 have et: ∀b∈X.fs,∀o,s.heap.get? b=some o-> ∃sl,h'.get? b=some {o with slots:=sl}:=fun b hb o e=>by
  obtain⟨_,o',e',nf⟩:=I.funs.mem hb
  rw[e] at e'
  cases e'
  exact up b o e nf
 have g9: ∀x c,X.env.cells.lookup x=some c-> ∀v,s.heap.IsCell c v->h'.IsCell c v:=fun x c _ v q0=>by
  obtain⟨o,ho,hd⟩:=q0
  obtain⟨sl,e⟩:=up c o ho fun vs q=>by rw[hd] at q;cases q
  exact⟨_,e,hd⟩
 refine⟨I.ok,I.os,I.bare,⟨fun b o e n hb hx=> ?_,fun b o e n hb hx=> ?_,I.base.free,fun b o e hx=> ?_,I.base.tups,I.base.frzs,I.base.tbls⟩,?_,fun x c e=> ?_,I.free,I.freeC,fun p hp=> ?_,GD I.hok st c2,I.len⟩
 ·obtain⟨o',e1,e2⟩:=c1 b o e (out b o e hb)
  rw[I.base.keep b o e n hb hx] at e1
  cases e1
  exact st b o e2
 ·obtain⟨sl,e1⟩:=I.base.slot b o e n hb hx
  obtain⟨sl',e2⟩:=et b hb _ e1
  exact⟨sl',e2⟩
 ·by_cases hb:b∈X.fs
  ·obtain⟨o',e1⟩:=I.base.there b o e hx
   obtain⟨sl',e2⟩:=et b hb _ e1
   exact⟨_,e2⟩
  ·obtain⟨o',e1,e2⟩:=c1 b o e (out b o e hb)
   exact⟨o',st b o' e2⟩
 ·obtain⟨m,hn,hl⟩:=I.loc
  refine⟨m,up.ns hn,fun i x v e1 e2 e3=> ?_⟩
  obtain⟨u,r,l⟩:=hl i x v e1 e2 e3
  refine⟨u,r,?_⟩
  rcases l with l|⟨k,c,e,z⟩
  ·exact .inl l
  ·exact .inr ⟨k,c,e,g9 x c e _ z⟩
 ·obtain⟨v,z⟩:=I.cell x c e
  exact⟨v,g9 x c e v z⟩
 ·obtain⟨e,n,ne,nf,d⟩:=I.pin p hp
  exact⟨st _ _ (cp p hp),n,ne,nf,d⟩
structure Low(X:Cx)(aa:List (Addr×Obj))(g:Heap):Prop where
 s0: ∀b o,X.s₀.heap.get? b=some o->b∉UW X.stack-> ∃o',g.get? b=some o'
 pin: ∀p∈X.pn++aa,∃o,g.get? p.1=some o
theorem c7.low(I:c7 X aa σ H s)(hx:X.ex=[]):Low X aa s.heap:=
 ⟨fun b o e _=>I.base.there b o e (by rw[hx];simp),fun p hp=>⟨_,(I.pin p hp).1⟩⟩
theorem c7.flyG(I:c7 X aa σ H s)(lo:Low X aa g)(st:B.StaysIn h')(up:s.heap.UpToSlots h')(c1: ∀b o,g.get? b=some o->b∉UW X.stack-> ∃o',s.heap.get? b=some o'/\B.get? b=some o')
  (c2: ∀b u,H b=some u-> ∃o,s.heap.get? b=some o/\B.get? b=some o):c7 X aa σ H {s with heap:=h'}:=by
 refine I.fly st up (fun b o e hb=> ?_) (fun p hp=> ?_) c2
 ·obtain⟨o',e'⟩:=lo.s0 b o e hb
  exact c1 b o' e' hb
 ·obtain⟨o,e⟩:=lo.pin p hp
  obtain⟨e1,_,ne,nf,_⟩:=I.pin p hp
  obtain⟨o',e2,e3⟩:=c1 p.1 o e fun z=>(Ao.mp (I.stkSub _ z)).elim ne nf
  rw[e1] at e2
  cases e2
  exact e3
def RzF(X:Cx)(R:Str->St->Hp->Prop):Prop:= ∀(aa:List (Addr×Obj)) (x:Str) (C:Addr) (σ:St) (H1:Hp) (e:Value) (s':Ad) (g:Heap),XC X.K x C->c7 X aa σ H1 s'->ExcF X.stack g H1 C e s'.heap->Low X aa g->R x σ H1->X.xe e s'
def RzM(X:Cx)(R:Str->St->Hp->Prop):Prop:= ∀(aa:List (Addr×Obj)) (x:Str) (C a:Addr) (args:List Value) (σ:St) (H1:Hp) (h:Heap) (s':Ad),XC X.K x C->c7 X aa σ H1 {s' with heap:=h}->Heap.MadeExcOf h s'.heap a (.ref C) args->R x σ H1->X.xe (.ref a) s'
end
section
variable{P:Au}{w:World}{K:Ai}{mg:Str->Option Value}{base:Heap}{N:List Str}{qual:Str}{scope:Scope}{f:Addr}{cd:Value}{A:Bx}{outer:List Env}{s:Ad}{H:Hp}{E:XK}
def rE(K:Ai)(E:XK):Str->St->Hp->Prop:=fun x _ H1=> ∀C,XC K x C->E (.ref C) none H1
theorem GY{aa:List (Addr×Obj)}{σ:St}{H1:Hp}{s':Ad}{g h' B:Heap}{C a:Addr}{a0:Value}{d:Drawn}{tk:Nat}(I:c7 (T7 (LI P w) P w K mg base N qual scope f cd A outer s H E) aa σ H1 s')
  (lo: ∀b o,s.heap.get? b=some o->b∉UW (envOfC qual scope s.heap.objs.size f cd::outer)-> ∃o',g.get? b=some o') (fl:Kx B outer a (.ref C) a0 h') (up:s'.heap.UpToSlots h')
  (c1: ∀b o,g.get? b=some o->b∉UW (envOfC qual scope s.heap.objs.size f cd::outer)-> ∃o',s'.heap.get? b=some o'/\B.get? b=some o')
  (c2: ∀b u,H1 b=some u-> ∃o,s'.heap.get? b=some o/\B.get? b=some o) (hE:E (.ref C) none H1):LI P w outer H s E (.ref a) {s' with heap:=h',drawn:=d,toks:=tk}:=by
 have bs:Un (UW outer) [] H H1 s.heap s'.heap:=I.base
 have stk:s'.heap.FunFrames base (envOfC qual scope s.heap.objs.size f cd::outer):=I.stack
 have got: ∀b o,s.heap.get? b=some o->b∉UW outer-> ∃o',s'.heap.get? b=some o'/\B.get? b=some o':=fun b o q hb=>by
  have nL:b∉UW (envOfC qual scope s.heap.objs.size f cd::outer):=fun z=>by
   rcases Ao.mp (show b∈s.heap.objs.size::UW outer from z) with z|z
   ·have:=Aj q
    rw[z] at this
    exact absurd this (Bw _)
   ·exact hb z
  obtain⟨o',e⟩:=lo b o q nL
  exact c1 b o' e nL
 have et: ∀b∈UW outer,∀o,s'.heap.get? b=some o-> ∃sl,h'.get? b=some {o with slots:=sl}:=fun b hb o e=>by
  obtain⟨_,o',e',nf⟩:=stk.mem (Av _ hb:b∈s.heap.objs.size::UW outer)
  rw[e] at e'
  cases e'
  exact up b o e nf
 refine⟨C,H1,I.os,I.bare,⟨fun b o q n hb hx=> ?_,fun b o q n hb hx=> ?_,bs.free,fun b o q hx=> ?_,bs.tups,bs.frzs,bs.tbls⟩,GD I.hok fl.1 c2,⟨a,a0,B,rfl,fl,fun b o e hn=> ?_,fun b u e=> ?_⟩,hE⟩
 ·obtain⟨o',e1,e2⟩:=got b o q hb
  rw[bs.keep b o q n hb hx] at e1
  cases e1
  exact fl.1 b o e2
 ·obtain⟨sl,e1⟩:=bs.slot b o q n hb hx
  obtain⟨sl',e3⟩:=et b hb _ e1
  exact⟨sl',e3⟩
 ·by_cases hb:b∈UW outer
  ·obtain⟨o',e1⟩:=bs.there b o q hx
   obtain⟨sl',e3⟩:=et b hb _ e1
   exact⟨_,e3⟩
  ·obtain⟨o',e1,e2⟩:=got b o q hb
   exact⟨o',fl.1 b o' e2⟩
 ·obtain⟨o',e1,e2⟩:=got b o e hn
  exact⟨o',fl.1 b o' e2,e2⟩
 ·obtain⟨o,e1,e2⟩:=c2 b u e
  exact⟨o,fl.1 b o e2,e2⟩
theorem TL:RzF (T7 (LI P w) P w K mg base N qual scope f cd A outer s H E) (rE K E):=by
 intro aa x C σ H1 e s' g hx I F lo hR
 obtain⟨a,a0,B,rfl,fl,c1,c2⟩:=F
 exact wpAny_leaves_onW (I.ok.frames.trans rfl) rfl fl fun h' fl' up=>GY (d:=s'.drawn) (tk:=s'.toks) I lo.s0 fl' up c1 c2 (hR C hx)
theorem QU:RzM (T7 (LI P w) P w K mg base N qual scope f cd A outer s H E) (rE K E):=by
 intro aa x C a args σ H1 h s' hx I M hR
 have stk:h.FunFrames base (envOfC qual scope s.heap.objs.size f cd::outer):=I.stack
 have hin: ∀env∈(envOfC qual scope s.heap.objs.size f cd::outer),∀b,env.frame=some b->b∈UW (envOfC qual scope s.heap.objs.size f cd::outer):=fun env he b hb=>Iw.mpr ⟨env,he,hb⟩
 refine wpAny_leaves_madeW (base:=W.hideAll h (UW (envOfC qual scope s.heap.objs.size f cd::outer))) (h:=h) (I.ok.frames.trans rfl) rfl (fun b o q=>W.of_hideAll _ q) (W.funFrames_hide stk hin) M fun h' t fl _ _ up=> ?_
 have up':h.UpToSlots h':=(Qe M.keeps).trans up
 exact GY (s':={s' with heap:=h}) (g:=h) (d:=s'.drawn) (tk:=s'.toks) I (fun b o q _=>I.base.there b o q (fun z=>nomatch z)) fl up' (fun b o e hb=>⟨o,e,Lz _ e hb⟩) (fun b u e=>by
  obtain⟨o,q⟩:=(I.hok b u e).alive
  exact⟨o,q,Lz _ q fun z=>by have:=I.stkFree b z;rw[e] at this;cases this⟩) (hR C hx)
end
theorem E8{K:Ai}{h:Heap}{C:Addr}{bmB:List Value}{jq:String}(X:K.In h)(q:W.excIn K C bmB jq=true):
  ∃bm N nm q bs hdct sn sub ab col dd k0 k1 k2 k3 k5 mN,h.get? C=some (excClassObj nm q C N bs bm hdct sn sub ab col dd k0 k1 k2 k3 k5 jq)/\h.Ns N mN/\mN "__init__"=none/\OwnTail h bmB bm:=by
 unfold W.excIn at q
 split at q
 ·rename_i dd cd sl ho
  split at q
  ·rename_i C' bm k0 k1 k2 k3 n k5 hm hs
   simp only[Ac,beq_iff_eq,Bool.not_eq_true'] at q
   obtain⟨⟨⟨⟨⟨rfl,rfl⟩,mj⟩,ht⟩,hok⟩,hni⟩:=q
   obtain⟨nm,bs,mro,ns,qn,hd,sn,sub,ab,col,del⟩:=cd
   dsimp only at hm mj hok hni
   subst hm mj
   obtain⟨sl⟩:=sl
   simp only at hs
   subst hs
   exact⟨bm,ns,nm,qn,bs,hd,sn,sub,ab,col,dd,k0,k1,k2,k3,k5,_,X _ _ ho,.of_isNs (W.isNs_of_in X hok),W.nsMap_none_of_in X hok hni,W.tail_of_in X ht⟩
  ·cases q
 ·cases q
abbrev VZ:=Ev->Option (Str×Ev)
def TZ(R:Str->St->Hp->Prop)(K:Ai)(ml:List Nat)(z:VZ)(σ:St)(H:Hp):Prop:= ∃B O δ x δ',bG K ml B O H σ δ/\z δ=some (x,δ')/\ ∀σ' H' O',bG K ml B O' H' σ' δ'->R x σ' H'
abbrev ZE(R:Str->St->Hp->Prop)(K:Ai)(ml:List Nat)(z:VZ):TE:=fun σ H _=>TZ R K ml z σ H
abbrev ZS(R:Str->St->Hp->Prop)(K:Ai)(ml:List Nat)(z:VZ):TS:=fun _ σ H=>TZ R K ml z σ H
section
variable{X:Cx}{K:Ai}{ml:List Nat}{e a b c:Expr}{es:List Expr}{pa ta ia pb tb ib pc tc ic pu bt bi ps bs:Bool}{fa fb fc f:VF}{B B':Bs}{O:Nat->Option Addr}{H H1 H':Hp}{σ:St}{δ δ':Ev}{v:V}{d:dM}{pos:Pos}{st:Stmt}{rest:List Stmt}{g g':VS}{z z':VZ}{R:Str->St->Hp->Prop}
noncomputable def zNo:VZ:=fun _=>none
theorem QI{sts:List Stmt}:W6 X sts (ZS R K ml zNo):=fun _ _ _ _ _ _ h=>by
 obtain⟨_,_,_,_,_,_,q,_⟩:=h
 cases q
noncomputable def Q3(z z':VZ):VZ:=fun δ=>match z δ with
 |some r=>some r
 |none=>z' δ
theorem zCY(h:TZ R K ml (Q3 z z') σ H):TZ R K ml z σ H∨TZ R K ml z' σ H:=by
 obtain⟨B,O,δ,x,δ',S,q,k⟩:=h
 unfold Q3 at q
 cases h1:z δ with
 |some r=>rw[h1] at q;exact .inl ⟨B,O,δ,x,δ',S,h1.trans q,k⟩
 |none=>rw[h1] at q;exact .inr ⟨B,O,δ,x,δ',S,q,k⟩
theorem T3{sts:List Stmt}(h1:W6 X sts (ZS R K ml z))(h2:W6 X sts (ZS R K ml z')):W6 X sts (ZS R K ml (Q3 z z')):=fun aa s σ H D I h=>
 (zCY h).elim (h1 aa s σ H D I) (h2 aa s σ H D I)
noncomputable def WF(g:VS)(z:VZ):VZ:=fun δ=>match g δ with
 |some (.nx δ')=>z δ'
 |_=>none
theorem ZP(h1:PS X st (U5 K ml g))(h2:W6 X rest (ZS R K ml z)):W6 X (st::rest) (ZS R K ml (WF g z)):=(TJ h1 h2).imp fun D σ H q0=>by
 obtain⟨B,O,δ,x,δ',S,q,k⟩:=q0
 unfold WF at q
 split at q
 ·rename_i δ1 hg
  exact⟨B,O,δ,.nx δ1,S,hg,fun σ' H' O' S'=>⟨B,O',δ1,x,δ',S',q,k⟩⟩
 ·cases q
theorem bF(h:PS X st (ZS R K ml z)):W6 X (st::rest) (ZS R K ml z):=(TJ h FG).imp fun _ _ _ h=>h
noncomputable def JD(t:VB)(z z':VZ):VZ:=fun δ=>(t δ).bind fun p=>if p.1=true then z p.2 else z' p.2
theorem LA{x y:List Stmt}{t:VB}(ht:PT X c (TB K ml pc t))(ha:W6 X x (ZS R K ml z))(hb:W6 X y (ZS R K ml z')):PS X (.If c x y pos) (ZS R K ml (JD t z z')):=(zCA ht ha hb).imp fun D σ H q0=>by
 obtain⟨B,O,δ,x,δ',S,q,k⟩:=q0
 unfold JD at q
 cases h1:t δ with
 |none=>rw[h1] at q;cases q
 |some p=>
  obtain⟨kk,δ1⟩:=p
  rw[h1] at q
  refine⟨B,O,δ,kk,δ1,S,h1,fun H1 R1=> ?_⟩
  cases kk with
  |true=>exact PX ⟨B,O,δ1,x,δ',R1.sta,q,k⟩
  |false=>exact PV ⟨B,O,δ1,x,δ',R1.sta,q,k⟩
theorem zCP{t:VB}(ht:PT X c (TB K ml pc t))(ha:PE X a (ZE R K ml z))(hb:PE X b (ZE R K ml z')):PE X (.IfExp c a b pos) (ZE R K ml (JD t z z')):=(KP ht ha hb).imp fun σ H Q q0=>by
 obtain⟨B,O,δ,x,δ',S,q,k⟩:=q0
 unfold JD at q
 cases h1:t δ with
 |none=>rw[h1] at q;cases q
 |some p=>
  obtain⟨kk,δ1⟩:=p
  rw[h1] at q
  refine⟨B,O,δ,kk,δ1,S,h1,fun H1 R1=> ?_⟩
  cases kk with
  |true=>exact PX ⟨B,O,δ1,x,δ',R1.sta,q,k⟩
  |false=>exact PV ⟨B,O,δ1,x,δ',R1.sta,q,k⟩
theorem DG(h:PE X e (ZE R K ml z)):PS X (.Return (some e) pos) (ZS R K ml z):=(IL h).imp fun _ _ _ h=>h
theorem QW(h:PE X e (ZE R K ml z))(hs:Fm e none pos.line X.env=pure false:=by rfl):PS X (.Expr e pos) (ZS R K ml z):=(MN h hs).imp fun _ _ _ h=>h
theorem T2{x:Str}{np ae p1:Pos}{t:Str}{j:Nat}(hK:X.K=K)(hz:RzM X R)(hc:X.calm=true)(hg:Gl X x)(hx: ∃C,XC K x C/\X.mg x=some (.ref C))(hdb:(x==("__debug__":Str))=false:=by decide)
  (hpl:(Dq ae (starEach [.Constant (.str t) j p1] X.env)).any (·.1)=false:=by rfl):
  PS X (.Raise (some (.Call (.Name x np) [.Constant (.str t) j p1] [] ae)) none pos) (ZS R K ml fun δ=>some (x,δ)):=by
 intro aa s σ H D I h
 obtain⟨B,O,δ,x',δ',S,q,k⟩:=h
 cases q
 subst hK
 obtain⟨C,hC,hm⟩:=hx
 obtain⟨bm,N,nm,q,bs,hdct,sn,sub,ab,col,dd,k0,k1,k2,k3,k5,mN,o1,o2,o3,o4⟩:=E8 I.ok.mod.kin hC.exc
 refine wpAny_Raise_call_subT (C:=C) (nm:=nm) (q:=q) (N:=N) (bs:=bs) (bm:=bm) (hdct:=hdct) (sn:=sn) (sub:=sub) (ab:=ab) (col:=col) (dd:=dd) (k0:=k0) (k1:=k1) (k2:=k2) (k3:=k3) (k5:=k5) (mN:=mN) PySem.F.excBase_ValueError (o4.hasType (by decide)) (I.ok.hd hc) hpl o3 (XV I hg hm ⟨rfl,?_⟩ hdb)
 have pa:PA X [.Constant (.str t) j p1] _:=bR BL ZN
 refine Ey (An (pa ae aa s σ H (fun vs H'=>H'=H/\vs.length=1) I ⟨rfl,rfl⟩) (fun us s2 hq=> ?_) fun _ _ z=>z)
 obtain⟨vs,H2,I2,rv,rfl,hl⟩:=hq
 have kp: ∀b o,X.base.get? b=some o->s2.heap.get? b=some o:=fun b o e=>(I2.bs b o e).1
 refine⟨rfl,?_,kp _ _ o1,o2.keeps kp,o4.keeps kp,fun h' a hm'=>hz aa x C a us σ H2 s2.heap _ hC I2 hm' (k σ H2 O S)⟩
 show us.length<=sizeLine
 rw[<- rv.length,hl]
 decide
theorem BB{x:Str}{kk:Nat}{qs:List Str}{sp:Sp}{ff:Addr}{fd:Ck}{p':Pos}{t:TA}{CX:HF}(F:bU X.prog X.w X.K X.mg X.base CX kk ff fd qs sp)(hr:aH kk X.A)(hg:Gl X x)(hm:X.mg x=some (.ref ff))(hk:Fj X.K (.ref ff)=true)(hb:WG X.K fd qs [])
  (ha:PA X (e::es) t) (hdb:(x==("__debug__":Str))=false:=by decide) (he:starEach (e::es) X.env=(false,eval e X.env)::starEach es X.env:=by rfl) (hpl:(Dq pos (starEach es X.env)).any (·.1)=false:=by rfl):
  PE X (.Call (.Name x p') (e::es) [] pos) (fun σ H Q=>t σ H fun vs H1=> ∃E,(∀(aa:List (Addr×Obj)) (s:Ad) (e':Value) (s':Ad),c7 X aa σ H1 s->CX X.stack H1 s E e' s'->X.xe e' s')/\sp vs H1 Q E):=by
 intro aa s σ H Q I h
 refine Co (XV I hg hm (Ix (h₀:=X.base) I.ok.mod.kin hk (aJ (ha pos aa s σ H _ I h) fun us s1 hq=> ?_) he hpl) hdb)
 obtain⟨vs,H1,I1,rv,E,hE,hs⟩:=hq
 have hl:us.length=qs.length:=by rw[<- rv.length];exact F.len _ _ _ _ hs
 have hb:=hb s1 us I1.kIn (by simpa using hl)
 rw[Dd] at hb
 refine⟨I1.kIn,Jh (Fe (F.run X.A X.stack s1 H1 ⟨us,[]⟩ us vs Q E hr I1.env0 hb rv hs) fun r s' hq=> ?_)⟩
 cases r with
 |error e'=>exact hE aa s1 e' s' I1 hq
 |ok fl=>cases fl with
  |ret u=>exact I1.after hq
  |next=>cases hq
  |brk=>cases hq
  |cont=>cases hq
def FN(K:Ai)(n:Nat)(XF:List dM->Option Str):Sp:=fun vs H _ E=> ∃(Z:Addr->Prop) (ds:List dM) (x:Str),ds.length=n/\zA2 K [] Z H vs ds/\XF ds=some x/\ ∀C H',XC K x C->bC H H'->E (.ref C) none H'
structure T5(P:Au)(w:World)(K:Ai)(mg:Str->Option Value)(base:Heap)(x:Str)(k:Nat)(ps:List Str)(XF:List dM->Option Str)(f:Addr):Prop where
 at_:mg x=some (.ref f)
 ok: ∃fd,bU P w K mg base (LI P w) k f fd ps (FN K ps.length XF)/\WG K fd ps []
 kp:Fj K (.ref f)=true
noncomputable def XX:List AV->Option (List dM)
 |[]=>some []
 | .d d::as=>(XX as).map fun ds=>d::ds
 | .o _::_=>none
theorem NZ{N:Addr->Prop}: ∀{vs:List V} {as:List AV} {ds:List dM},WO K N H σ vs as->XX as=some ds->vs.length=ds.length/\ ∀(i:Nat) (d:dM),ds[i]? =some d-> ∃v,vs[i]? =some v/\b6 K N H N v d
 | _,_,_,.nil,h => by cases h;exact ⟨rfl,fun i d e => by simp at e⟩
 | _,.d d0 :: as,_,.d r t,h => by
  unfold XX at h
  cases e:XX as with
  |none=>rw[e] at h;cases h
  |some ds=>
   rw[e] at h
   cases h
   obtain⟨h1,h2⟩:=NZ t e
   refine⟨by simp[h1],fun i d q=> ?_⟩
   cases i with
   |zero=>simp at q;subst q;exact⟨_,rfl,r⟩
   |succ i=>exact h2 i d (by simpa using q)
 |_,.o _::_,_,.o _ _,h=>by cases h
noncomputable def YI(n:Nat)(XF:List dM->Option Str)(fs:OZ):VZ:=fun δ=>(fs δ).bind fun p=>(XX p.1).bind fun ds=>if ds.length=n then(XF ds).map fun x=>(x,p.2) else none
theorem MZ{fs:OZ}{XF:List dM->Option Str}{n:Nat}{Q:VK}(hz:RzF X R)(hK:X.K=K)(hex:X.ex=[])(h:TZ R K ml (YI n XF fs) σ H):
  F2 K ml ps fs σ H fun vs H1 => ∃ E,(∀ (aa : List (Addr × Obj)) (s : Ad) (e' : Value) (s' : Ad),c7 X aa σ H1 s -> LI X.prog X.w X.stack H1 s E e' s' -> X.xe e' s') /\ FN K n XF vs H1 Q E := by
 subst hK
 obtain⟨B,O,δ,x,δ',S,q,k⟩:=h
 unfold YI at q
 cases h1:fs δ with
 | none => rw [h1] at q;cases q
 |some p=>
  obtain⟨as,δ1⟩:=p
  rw[h1,Ag] at q
  cases h2:XX as with
  | none => rw [h2] at q;cases q
  |some ds=>
   rw[h2,Ag] at q
   split at q
   ·rename_i hn
    cases h3:XF ds with
    | none => rw [h3] at q;cases q
    |some x'=>
     rw[h3] at q
     cases q
     refine⟨B,O,δ,as,δ1,S,h1,fun vs H1 G=>⟨fun v _ H2=> ∃x C,v= .ref C/\XC X.K x C/\R x σ H2,fun aa s e' s' I hc=> ?_,?_⟩⟩
     ·obtain⟨C,H2,os,bare,un,ok,F,x1,C1,hv,hx,hR⟩:=hc
      cases hv
      exact hz aa x1 C σ H2 e' s' s.heap hx (I.call' os un ok bare fun b hb=>nomatch hb) F (I.low hex) hR
     ·obtain⟨g1,g2⟩:=NZ G.rep h2
      have zp: ∀a,Zp (Nn B O) [] vs a->Nn B O a:=fun a z=>z.elim id fun⟨i,hi,_⟩=>nomatch hi
      refine⟨Nn B O,ds,x,hn,⟨g1,fun i hi=>(nomatch hi),fun i d _ e=> ?_,fun i d hi=>(nomatch hi),fun i j a hi=>(nomatch hi),fun a z=>G.sta.nin z⟩,h3,fun C H2 hx hs=>⟨x,C,rfl,hx,k σ H2 O (G.sta.same hs)⟩⟩
      obtain⟨v,e1,r⟩:=g2 i d e
      exact⟨v,e1,r.mono zp zp⟩
   ·cases q
theorem VJ{x:Str}{kk j:Nat}{qs:List Str}{XF:List dM->Option Str}{ff:Addr}{p':Pos}{fs:OZ}(hz:RzF X R)(hK:X.K=K)(D:T5 X.prog X.w K X.mg X.base x kk qs XF ff)(hr:aH j X.A)(hk:kk<=j)(hg:Gl X x)(hex:X.ex=[])(ha:PA X (e::es) (F2 K ml ps fs))
  (hdb:(x==("__debug__":Str))=false:=by decide) (he:starEach (e::es) X.env=(false,eval e X.env)::starEach es X.env:=by rfl) (hpl:(Dq pos (starEach es X.env)).any (·.1)=false:=by rfl):
  PE X (.Call (.Name x p') (e::es) [] pos) (ZE R K ml (YI qs.length XF fs)):=by
 obtain⟨fd,F,Bd⟩:=D.ok
 subst hK
 exact(BB F (hr.mono hk) hg D.at_ D.kp Bd ha hdb he hpl).imp fun σ H Q h=>MZ hz rfl hex h
end
noncomputable def P4(n:Nat)(z:VZ):List dM->Option Str:=fun ds=>(z (bW [] n ds)).map (·.1)
theorem ZH.okX{P:Au}{w:World}{K:Ai}{mg:Str->Option Value}{base:Heap}{x qual:Str}{st:Stmt}{f:Addr}{fd:Ck}{N ps:List Str}{k:Nat}{z:VZ}(F:ZH K x qual st f fd)(S:cV N ps (dH st))(hps:ps.length<=N.length)
  (am: ∀(cdv:Value) (A:Bx) (outer:List Env) (s:Ad) (H:Hp) (E:XK),aH k (A.deeper (envOfC qual (dH st) s.heap.objs.size f cdv))→
   W6 (T7 (LI P w) P w K mg base N qual (dH st) f cdv A outer s H E) (bQ st) (ZS (rE K E) K [] z)):bU P w K mg base (LI P w) (k+1) f fd ps (FN K ps.length (P4 N.length z)):=by
 obtain⟨oc,od,kV,doc,pm,an,cdv,ct,osl,rfl,lk,hcd⟩:=F.ex
 refine zCJ lk hcd S (fun vs H Q E h=> ?_) fun A outer s H vs Q E hr hsp=>⟨_,am cdv A outer s H E hr,?_⟩
 ·obtain⟨Z,ds,x,hn,AV,_⟩:=h
  rw[AV.len,hn]
 ·obtain⟨Z,ds,x,hn,AV,hX,hE⟩:=hsp
  obtain⟨mu,hmu,S0⟩:=N7 (N:=N) AV (by rw[hn];exact hps)
  unfold P4 at hX
  cases h1:z (bW [] N.length ds) with
  |none=>rw[h1] at hX;cases hX
  |some p=>
   obtain⟨x',δ'⟩:=p
   rw[h1] at hX
   cases hX
   exact⟨_,mu,_,x',δ',S0,h1,fun σ' H' O' S' C hC=>hE C H' hC fun b o q=>S'.frm b o q fun⟨i,hi,_⟩=>nomatch hi⟩
end L2
namespace L2
open PySem PySem.Spec PyProof.Rows PySem.W PySem.Calls PySem.Builtin PySem.Builtin.ObjectAttr PySem.Builtin.Getset_descriptor
section
variable{prog:Au}{w:World}{A:Bx}{E:Value->Ad->Prop}{s:Ad}{K:Frag}{x C:Addr}{o:Obj}{R:Ma->Ad->Prop}
theorem zBJ{tp:Value}(X:K.In s.heap)(hx:s.heap.get? x=some o)(hc:o.cls= .ref C)(F:XA K C)
  (h:R (.ok (.ret (.ref C))) s):Ej (model prog w) A (.call (.builtin "getset_descriptor.__get__") ⟨[.builtin "object.__class__",.ref x,tp],[]⟩) R s:=by
 obtain⟨hh,g,dr,t,os⟩:=s
 have L0:Looks (model prog w) hh (Nj (.ref x)) (.ref C):=hc▸(Ol hx).andThen .now
 have L1:=looks_mroIn (M:=model prog w) X F.mro
 refine Ho KF.slot_gs.plain KF.entry_gs (KF.slot_gs.check _ _ _ _ _ _ _ _ KF.type_class (KF.args_gs _ _ _) ?_)
 unfold Ed.«getset_descriptor.__get__» descrGet
 rw[dga_obj]
 refine Aa (Af ?_)
 unfold descrGetter descrCheckInstance descrNameAndClass Pq
 simp only[KF.owner_class]
 repeat lk
 refine⟨Code.quiet_builtin _ (by decide+kernel),Gw KF.entry_class ?_⟩
 unfold Ed.«object.__class__» shownTypeOf
 repeat lk
 exact h
theorem EN{tk:Tok}{Q:Fin->Ad->Prop}(X:K.In s.heap)(hx:s.heap.get? x=some o)(hc:o.cls= .ref C)(F:XA K C)
  (h:Q (.done (.ret (.ref C))) s):wpAny (model prog w) A (Ed.«object.__getattribute__» ⟨[.ref x,.str "__class__" tk],[]⟩) Q E s:=by
 obtain⟨hh,g,dr,t,os⟩:=s
 have L0:Looks (model prog w) hh (Nj (.ref x)) (.ref C):=hc▸(Ol hx).andThen .now
 have L1:=Nl (M:=model prog w) X F.cls
 have L2:Looks (model prog w) hh (getOf (some (.builtin "object.__class__"))) (some (.builtin "getset_descriptor.__get__")):=looks_specialIn X F.get
 have L3:=looks_takesIn (M:=model prog w) X F.tak
 have LF:Looks (model prog w) hh (find (.ref x) (.ref C) "__class__") (.bind (.builtin "getset_descriptor.__get__") (.builtin "object.__class__")):=
  L1.andThen (L2.andThen ((show Looks (model prog w) hh (dataDescriptor? (some (.builtin "object.__class__")) (some (.builtin "getset_descriptor.__get__"))) (some (.builtin "getset_descriptor.__get__",.builtin "object.__class__")) from L3.andThen .now).andThen (Looks.tag .now)))
 unfold Ed.«object.__getattribute__»
 repeat (any_goals (first|assumption|with_reducible refine Looks.at L0 ?_|with_reducible refine Looks.at LF ?_|wp_step))
 refine zBJ (s:=⟨hh,g,dr,t,os⟩) X hx hc F ?_
 exact Af h
theorem zFI{tk:Tok}(X:K.In s.heap)(hx:s.heap.get? x=some o)(hc:o.cls= .ref C)(F:XA K C)(h:R (.ok (.ret (.ref C))) s):
  Ej (model prog w) A (.call (.builtin "BaseException.__getattribute__") ⟨[.ref x,.str "__class__" tk],[]⟩) R s:=by
 obtain⟨hh,g,dr,t,os⟩:=s
 have L0:Looks (model prog w) hh (Nj (.ref x)) (.ref C):=hc▸(Ol hx).andThen .now
 have L1:=looks_subIn (M:=model prog w) X F.sub
 have hk:builtinKind "BaseException.__getattribute__"=some .slot:=by decide+kernel
 have hs:splitId "BaseException.__getattribute__"=some ("BaseException","__getattribute__"):=by decide+kernel
 have ha:=PySem.F.args_bexc_ga (.ref x) (.str "__class__" tk)
 refine Ho PySem.F.excAttr_ValueError.ga.plain PySem.F.entry_bexc_ga (An (Q:=fun _ s'=>s'=⟨hh,g,dr,t,os⟩) ?_ (fun _ s' z=> ?_) fun _ _ z=>z)
 ·simp only[checkBuiltinCall,hk,hs]
  unfold Pq
  repeat (any_goals (first|rfl|assumption|with_reducible refine Looks.at L0 ?_|with_reducible refine Looks.at L1 ?_|wp_step))
 ·subst z
  refine EN (s:=⟨hh,g,dr,t,os⟩) X hx hc F ?_
  exact h
theorem EM{Q:Option Value->Ad->Prop}(X:K.In s.heap)(hx:s.heap.get? x=some o)(hc:o.cls= .ref C)(F:XA K C)(h:Q (some (.ref C)) {s with toks:=s.toks+1}):
  wpAny (model prog w) A (getAttr? (.ref x) "__class__") Q E s:=by
 obtain⟨hh,g,dr,t,os⟩:=s
 have L0:Looks (model prog w) hh (Nj (.ref x)) (.ref C):=hc▸(Ol hx).andThen .now
 have L1:=Nl (M:=model prog w) X F.ga
 have L2:=Nl (M:=model prog w) X F.no
 have fb:=PySem.F.excAttr_ValueError.ga.bind (.ref x)
 unfold getAttr? getAttrBy? getAttrBy
 refine Aa (wpAny_mkText (Aa (Mg (Bo (Aa (L0.at (Aa (L1.at ?_))))))))
 show wpAny _ _ (getAttrByItsOwn _ _ _ _ _ _) _ _ _
 unfold getAttrByItsOwn hookBefore callGetattribute boundAndCalled
 repeat (any_goals (first|assumption|with_reducible refine Looks.at L0 ?_|with_reducible refine Looks.at L2 ?_|wp_step))
 refine zFI (s:=⟨hh,g,dr,t+1,os⟩) X hx hc F ?_
 refine handed_on rfl ?_
 first|exact h|exact Af h|exact Af (Af h)
theorem J6(F:XA K C)(hdct:(clsIn K C).isSome=true):KitX K (.ref x) (.ref C) (fun h=> ∃o,h.get? x=some o/\o.cls= .ref C) where
 ty:=fun M h _ p=>by
  obtain⟨o,h1,h2⟩:=p
  exact h2▸(Ol h1).andThen .now
 it:=fun _ _ X _=>by
  unfold clsIn at hdct
  split at hdct
  ·rename_i ho
   intro A' Q' E' s' k q
   unfold isType loadHead
   exact Aa (wpAny_loadPart (k _ _ (X _ _ ho)) (Af q))
  ·cases hdct
 ne:=fun h tp dd its n sl X htp=>by
  refine Bool.eq_false_iff.mpr fun q=> ?_
  have e:C=tp:=Value.ref.inj (beq_iff_eq.mp q)
  subst e
  unfold clsIn at hdct
  split at hdct
  ·rename_i ho
   have z:=(X _ _ ho).symm.trans htp
   cases z
  ·cases hdct
 ca:=fun X p k=>by
  obtain⟨o,h1,h2⟩:=p
  exact EM X h1 h2 F k
end
end L2
namespace L2
open PySem PySem.Spec PyProof.Rows
structure Y5(k:Nat)(A:Bx):Prop where
 dp:A.depth+3*k+5<Ja
 un:A.units+16*k+200<cLine
theorem aH.h{k:Nat}{A:Bx}(r:aH k A):Y5 k A:=⟨r.dp,r.un⟩
theorem Y5.mono{j k:Nat}{A:Bx}(r:Y5 k A)(h:j<=k):Y5 j A:=⟨by have:=r.dp;omega,by have:=r.un;omega⟩
theorem Y5.deeper{k:Nat}{A:Bx}(r:Y5 (k+1) A)(env:Env):Y5 k (A.deeper env):=
 ⟨by have:=r.dp;show A.depth+1+3*k+5<_;omega,by have:=r.un;show A.units+3+16*k+200<_;omega⟩
theorem Y5.units{k:Nat}{A:Bx}(r:Y5 k A):A.units+64<cLine:=by have:=r.un;omega
theorem Y5.unit{k:Nat}{A:Bx}(r:Y5 k A):A.units+1<cLine:=by have:=r.un;omega
noncomputable def cxH(P:Au)(w:World)(K:Ai)(mg:Str->Option Value)(base:Heap)(N:List Str)(qual:Str)(scope:Scope)(f:Addr)(cd:Value)(A:Bx)(outer:List Env)(s:Ad)(H:Hp):Cx:=
 {T7 CX0 P w K mg base N qual scope f cd A outer s H E0 with calm:=false,xe:=fun _ _=>False}
structure FnH(P:Au)(w:World)(K:Ai)(mg:Str->Option Value)(base:Heap)(k:Nat)(f:Addr)(fd:Ck)(ps:List Str)(sp:Sp):Prop where
 len: ∀vs H Q E,sp vs H Q E->vs.length=ps.length
 run: ∀(A:Bx) (outer:List Env) (s:Ad) (H:Hp) (args:Args) (us:List Value) (vs:List V) (Q:VK),Y5 k A->DU P w K mg base A outer s H->Lo s fd args (ps.zip us)->cA vs us->sp vs H Q E0→
  Ej (model P w) A (.call (.ref f) args) (CR CX0 outer P w H s Q E0) s
theorem c7.around{X:Cx}{A':Bx}{aa:List (Addr×Obj)}{σ:St}{H:Hp}{s:Ad}{xe:Value->Ad->Prop}(I:c7 X aa σ H s)(hf:A'.frames=X.A.frames):c7 {X with A:=A',calm:=false,xe:=xe} aa σ H s:=
 ⟨⟨I.ok.mod,I.ok.kind,I.ok.glob,I.ok.blt,I.ok.above,I.ok.inj,I.ok.has,I.ok.cab,fun z=>(nomatch z),hf.trans I.ok.frames,I.ok.stk,I.ok.exf,I.ok.bs,I.ok.bsz,I.ok.noex,I.ok.exfs,I.ok.funs,I.ok.frf⟩,I.os,I.bare,I.base,I.loc,I.cell,I.free,I.freeC,I.pin,I.hok,I.len⟩
theorem c7.back{X:Cx}{A':Bx}{aa:List (Addr×Obj)}{σ:St}{H:Hp}{s:Ad}{xe:Value->Ad->Prop}(ok:X.Ok)(I:c7 {X with A:=A',calm:=false,xe:=xe} aa σ H s):c7 X aa σ H s:=
 ⟨ok,I.os,I.bare,I.base,I.loc,I.cell,I.free,I.freeC,I.pin,I.hok,I.len⟩
theorem ZH.okH{P:Au}{w:World}{K:Ai}{mg:Str->Option Value}{base:Heap}{x qual:Str}{st:Stmt}{f:Addr}{fd:Ck}{N ps:List Str}{k:Nat}{sp:Sp}(F:ZH K x qual st f fd)(S:cV N ps (dH st))(len: ∀vs H Q E,sp vs H Q E->vs.length=ps.length)
  (am: ∀(cdv:Value) (A:Bx) (outer:List Env) (s:Ad) (H:Hp) (vs:List V) (Q:VK),Y5 k (A.deeper (envOfC qual (dH st) s.heap.objs.size f cdv))->sp vs H Q E0→
   ∃t,W6 (cxH P w K mg base N qual (dH st) f cdv A outer s H) (bQ st) t/\t {nx:=fun _ H'=>Q .non H',rt:=Q} (start N vs) H):FnH P w K mg base (k+1) f fd ps sp:=by
 obtain⟨oc,od,kV,doc,pm,an,cdv,ct,osl,rfl,lk,hcd⟩:=F.ex
 refine⟨len,fun A outer s H args us vs Q hr e0 hb r hsp=> ?_⟩
 have hl:=len _ _ _ _ hsp
 have KX:K.In s.heap:=e0.mod.kin.keeps fun b o e=>(e0.bs b o e).1
 have lim:s.heap.NoLimit:=e0.mod.nolimit.keeps fun b o e=>(e0.bs b o e).1
 have ip: ∀y∈ps.zip us,(dH st).names.lookup y.1=some .local∨((dH st).names.lookup y.1=some .cell/\((cellsFrom (s.heap.objs.size+1) (dH st).names []).lookup y.1).isSome=true):=fun⟨n,v⟩ hy=>by
  rcases S.par n (Hz hy).1 with q|q
  ·exact .inl q
  ·exact .inr ⟨q,Ka _ _ _ (.inl q)⟩
 have k6:A.depth<Ja:=by have:=hr.dp;omega
 refine Kn k6 (KX _ _ lk) rfl S.co S.gen rfl (W.codeRec_of KX hcd) (hb _ _ _ _ ?_)
 refine Ip S.kind ip fun env he s1 x=> ?_
 subst he
 refine⟨lim.keeps x.toInCall.keep,codeAny_func ?_⟩
 obtain⟨t,ht,hq⟩:=am cdv A outer s H vs Q (hr.deeper _) hsp
 have e1:DU P w K mg base {A with handled:=none} outer s H:=⟨e0.frames,e0.mod,e0.bs,e0.bsz,e0.funs,e0.frf,e0.hok,e0.bare⟩
 have I0:c7 (T7 CX0 P w K mg base N qual (dH st) f cdv {A with handled:=none} outer s H E0) [] (start N vs) H s1:=NP S rfl e1 hl r x
 have I:c7 (cxH P w K mg base N qual (dH st) f cdv A outer s H) [] (start N vs) H s1:=I0.around rfl
 refine An (ht [] s1 (start N vs) H _ I hq) (fun fl s' hs=> ?_) fun e s' hs=>(show False from hs).elim
 have fin: ∀{σ':St} {H':Hp} {v:V} {u:Value},c7 (cxH P w K mg base N qual (dH st) f cdv A outer s H) [] σ' H' s'->cO v u->Q v H'->CE outer P w H s Q u s':=
  fun{σ' H' v u} J rv q=>⟨v,H',J.os,J.bare,J.base,J.hok,rv,q⟩
 cases fl with
 |ret u=>
  obtain⟨v,σ',H',J,rv,q⟩:=hs
  exact fin J rv q
 |next=>
  obtain⟨σ',H',J,q⟩:=hs
  exact fin (v:=V.non) (u:=Value.none) J rfl q
 |brk=>
  obtain⟨_,_,_,q⟩:=hs
  cases q
 |cont=>
  obtain⟨_,_,_,q⟩:=hs
  cases q
structure DefH(P:Au)(w:World)(K:Ai)(mg:Str->Option Value)(base:Heap)(x:Str)(k:Nat)(ps:List Str)(sp:Sp)(f:Addr):Prop where
 at_:mg x=some (.ref f)
 ok: ∃fd,FnH P w K mg base k f fd ps sp/\WG K fd ps []
 kp:Fj K (.ref f)=true
section
variable{X:Cx}{K:Ai}{ml:List Nat}{e a b c:Expr}{es:List Expr}{ps:Bool}{pos:Pos}
theorem zFX{x:Str}{kk j n:Nat}{qs:List Str}{mF:List Nat}{F:bX}{ff:Addr}{p':Pos}{fs:OZ}(D:DefH X.prog X.w K X.mg X.base x kk qs (spV K mF n F) ff)(hr:Y5 j X.A)(ha:PA X (e::es) (F2 K ml ps fs))(hK:X.K=K:=by rfl)(hk:kk<=j:=by decide)(hg:Gl X x:=by rfl)(hdb:(x==("__debug__":Str))=false:=by decide)
  (he:starEach (e::es) X.env=(false,eval e X.env)::starEach es X.env:=by rfl) (hpl:(Dq pos (starEach es X.env)).any (·.1)=false:=by rfl):
  PE X (.Call (.Name x p') (e::es) [] pos) (TV K ml (ps && mF.isEmpty) true true (c9 n mF F fs)):=by
 subst hK
 obtain⟨fd,F',Bd⟩:=D.ok
 refine PE.imp (t:=K0 (spV X.K mF n F) [] E0 (F2 X.K ml ps fs)) (fun aa s σ H Q I h=> ?_) fun _ _ _ h=>QV h
 refine Co (XV I hg D.at_ (Ix (h₀:=X.base) I.ok.mod.kin D.kp (aJ (ha pos aa s σ H _ I h) fun us s1 hq=> ?_) he hpl) hdb)
 obtain⟨vs,H1,I1,rv,hs⟩:=hq
 rw[Dd] at hs
 have hl:us.length=qs.length:=by rw[<- rv.length];exact F'.len _ _ _ _ hs
 have hb:=Bd s1 us I1.kIn (by simpa using hl)
 rw[Dd] at hb
 refine⟨I1.kIn,Jh (Fe (F'.run X.A X.stack s1 H1 ⟨us,[]⟩ us vs Q (hr.mono hk) I1.env0 hb rv hs) fun r s' hq=> ?_)⟩
 cases r with
 |error e'=>cases hq
 |ok fl=>cases fl with
  |ret u=>exact I1.after hq
  |next=>cases hq
  |brk=>cases hq
  |cont=>cases hq
end
theorem ZH.okVH{P:Au}{w:World}{K:Ai}{mg:Str->Option Value}{base:Heap}{x qual:Str}{st:Stmt}{f:Addr}{fd:Ck}{N ps:List Str}{k:Nat}{ml:List Nat}{g:VS}(F:ZH K x qual st f fd)(S:cV N ps (dH st))(hps:ps.length<=N.length)
  (am: ∀(cdv:Value) (A:Bx) (outer:List Env) (s:Ad) (H:Hp),Y5 k (A.deeper (envOfC qual (dH st) s.heap.objs.size f cdv))→
   W6 (cxH P w K mg base N qual (dH st) f cdv A outer s H) (bQ st) (U5 K ml g)):FnH P w K mg base (k+1) f fd ps (spV K ml ps.length (aP N.length ml g)):=by
 refine F.okH S (fun vs H Q E h=> ?_) (fun cdv A outer s H vs Q hr h=>⟨_,am cdv A outer s H hr,zCK (E:=E0) hps h⟩)
 obtain⟨Z,ds,r,os,hn,AV,_⟩:=h
 rw[AV.len,hn]
theorem EO{prog:Au}{w:World}{A:Bx}{E:Value->Ad->Prop}{s:Ad}{K:Ai}{x C Cp:Addr}{o:Obj}{Q:Bool->Ad->Prop}(X:K.In s.heap)(hx:s.heap.get? x=some o)(hc:o.cls= .ref C)(F:XP K C Cp)(h:Q true s):
  wpAny (model prog w) A (excMatches (.ref x) (.ref Cp)) Q E s:=by
 obtain⟨hh,g,dr,t,os⟩:=s
 have L0:W.Looks (model prog w) hh (Nj (.ref x)) (.ref C):=hc▸(W.Looks.ld hx).andThen .now
 have L1:=W.looks_typeIn (M:=model prog w) X F.ty
 have L2:=W.looks_subIn (M:=model prog w) X F.base
 have L3:=W.looks_subIn (M:=model prog w) X F.sub
 have L4:W.Looks (model prog w) hh (isType (.ref Cp)) true:=by
  have hd:=F.cls
  unfold Qr at hd
  split at hd
  ·rename_i ho
   intro A' Q' E' s' k q
   unfold isType loadHead
   exact Aa (wpAny_loadPart (k _ _ (X _ _ ho)) (Af q))
  ·cases hd
 have f:=tc_notTuple
 unfold excMatches isExcClass Pq
 repeat (any_goals (first|assumption|with_reducible refine W.Looks.at L0 ?_|with_reducible refine W.Looks.at L1 ?_|with_reducible refine W.Looks.at L2 ?_|with_reducible refine W.Looks.at L3 ?_|with_reducible refine W.Looks.at L4 ?_|wp_step))
section
variable{X:Cx}{aa:List (Addr×Obj)}{σ:St}{H:Hp}{s:Ad}{h':Heap}{a C:Addr}
theorem c7.track{o:Obj}{vs:Array Value}(I:c7 X aa σ H s)(ha:H a=none)(he:s.heap.get? a=some o)(hc:o.cls= .ref C)(hd:o.data= .fields vs)(hs:X.s₀.heap.get? a=none)(hp: ∀p∈X.pn++aa,p.1≠a):
  c7 X aa σ (bL H a (.ext fun h=>FZ h a C)) s:=by
 have neS: ∀b o,X.s₀.heap.get? b=some o->b≠a:=fun b o e z=>by rw[z,hs] at e;cases e
 have neH: ∀b u,H b=some u->b≠a:=fun b u e z=>by rw[z,ha] at e;cases e
 refine⟨I.ok,I.os,I.bare,⟨I.base.keep,I.base.slot,fun b o e n hx=> ?_,I.base.there,fun b xs e=> ?_,fun b o u e=> ?_,fun b ps e=> ?_⟩,I.loc,I.cell,?_,fun x c e=> ?_,fun p hq=> ?_,fun b u e=> ?_,I.len⟩
 ·rw[cH (neS b o e)];exact I.base.free b o e n hx
 ·have q:=I.base.tups b xs e
  rw[cH (neH b _ q)];exact q
 ·have q:=I.base.frzs b o u e
  rw[cH (neH b _ q)];exact q
 ·obtain⟨more,q⟩:=I.base.tbls b ps e
  exact⟨more,by rw[cH (neH b _ q)];exact q⟩
 ·obtain⟨m,⟨oL,_,_,hoL,hdL,_⟩,_⟩:=I.loc
  have:X.env.locals≠a:=fun z=>by
   rw[z,he] at hoL
   cases hoL
   rw[hd] at hdL
   cases hdL
  rw[cH this];exact I.free
 ·obtain⟨v,oc,hoc,hdc⟩:=I.cell x c e
  have:c≠a:=fun z=>by
   rw[z,he] at hoc
   cases hoc
   rw[hd] at hdc
   cases hdc
  rw[cH this];exact I.freeC x c e
 ·obtain⟨e,n,ne,nf,d⟩:=I.pin p hq
  exact⟨e,by rw[cH (hp p hq)];exact n,ne,nf,d⟩
 ·by_cases hb:b=a
  ·subst hb
   rw[cQ] at e
   cases e
   exact⟨⟨o,vs,he,hc,hd⟩,⟨o,he⟩,fun h1 h2 q k=>by
    obtain⟨o1,vs1,e1,e2,e3⟩:=q
    exact⟨o1,vs1,k o1 e1,e2,e3⟩⟩
  ·rw[cH hb] at e
   exact(I.hok b u e).stay (fun _ _ _ q=>q) (fun c q=>by rw[cH (neH c _ q)];exact q) fun c xs q=>by rw[cH (neH c _ q)];exact q
theorem c7.unbound{m':Str->Option Value}{t':Nat}(I:c7 X aa σ H s)(ns:h'.Ns X.env.locals m')(sb:Ef X.env.locals s.heap h'):c7 X aa (Ap X.N.length none) H {s with heap:=h',toks:=t'}:=by
 have neL: ∀b o,X.s₀.heap.get? b=some o->b≠X.env.locals:=fun b o e=>Be (Aq (Aj e) I.ok.above)
 have neH: ∀b u,H b=some u->b≠X.env.locals:=fun b u e z=>by rw[z,I.free] at e;cases e
 refine⟨I.ok,I.os,I.bare,⟨fun b o e n hb hx=>(sb.2 b (neL b o e)).trans (I.base.keep b o e n hb hx),fun b o e n hb hx=> ?_,I.base.free,fun b o e hx=> ?_,I.base.tups,I.base.frzs,I.base.tbls⟩,⟨m',ns,fun i x v _ e2 _=> ?_⟩,fun x c e=> ?_,I.free,I.freeC,fun p hp=> ?_,fun b u e=> ?_,by simp⟩
 ·obtain⟨sl,e1⟩:=I.base.slot b o e n hb hx
  exact⟨sl,(sb.2 b (neL b o e)).trans e1⟩
 ·obtain⟨o',e1⟩:=I.base.there b o e hx
  exact⟨o',(sb.2 b (neL b o e)).trans e1⟩
 ·rw[Cb] at e2
  split at e2<;>cases e2
 ·obtain⟨v,z⟩:=I.cell x c e
  exact⟨v,z.sameBut sb (I.cne x c e)⟩
 ·obtain⟨e,n,ne,nf,d⟩:=I.pin p hp
  exact⟨(sb.2 p.1 ne).trans e,n,ne,nf,d⟩
 ·refine (I.hok b u e).stay (fun c v hc q => (sb.2 c ?_).trans q) (fun _ q => q) fun _ _ q => q
  rcases hc with rfl|hc
  ·exact neH _ u e
  ·exact neH c _ hc
end
theorem Cx.Ok.pns{X:Cx}(ok:X.Ok)(pn:List (Addr×Obj))(xe:Value->Ad->Prop):Cx.Ok {X with pn:=pn,xe:=xe}:=
 ⟨ok.mod,ok.kind,ok.glob,ok.blt,ok.above,ok.inj,ok.has,ok.cab,ok.hd,ok.frames,ok.stk,ok.exf,ok.bs,ok.bsz,ok.noex,ok.exfs,ok.funs,ok.frf⟩
abbrev Cx.hnd(X:Cx)(a:Addr):Cx:={X with A:=X.A.mark (some (.ref a)),calm:=false,xe:=fun _ _=>False}
noncomputable def CC(g:VS)(z:VZ)(i:Nat)(k:VS):VS:=fun δ=>match g δ with
 | some o => some o
 | none => match z δ with
  |some (x,δ1)=>match k (δ1.set i (.va (.exn x))) with
   |some (.rt d δ2)=>some (.rt d δ2)
   |_=>none
  |none=>none
section
variable{X:Cx}{K:Ai}{ml:List Nat}{pos:Pos}{g k:VS}{z:VZ}
theorem zCR{body:List Stmt}{n:Str}{np i6:Pos}{b0:Stmt}{jl:List Stmt}{i:Nat}(hK:X.K=K)(hst:X.stack=X.env::X.outer)(hfr:X.env.frame=some X.env.locals)(hN:X.N.Nodup)(hi:X.N[i]? =some n)(hl:X.env.kindOf n=some .local)(him:i∉ml)
  (hg0:Gl X "PackError") (hm: ∀C,Fq K mainGlobals "PackError"=some (some (.ref C))->X.mg "PackError"=some (.ref C))
  (hg:W6 X.nox body (U5 K ml g)) (hz: ∀(pn:List (Addr×Obj)) (xe:Value->Ad->Prop) (R:Str->St->Hp->Prop),RzF {X with pn:=pn,xe:=xe} R->W6 {X with pn:=pn,xe:=xe} body (ZS R K ml z)) (hk: ∀a,W6 (X.hnd a) (b0::jl) (U5 K ml k)):
  PS X (.Try body [.ExceptHandler (some (.Name "PackError" np)) (some n) (b0::jl) i6] [] [] pos) (U5 K ml (CC g z i k)):=by
 intro aa s σ H D I h
 obtain⟨B,O,δ,o,S,q,post⟩:=h
 refine wpAny_Try_except ?_
 unfold CC at q
 cases h1:g δ with
 |some o'=>
  rw[h1] at q
  cases q
  refine An (hg aa s σ H D (I.wish _) ⟨B,O,δ,o,S,h1,post⟩) (fun f s1 hf=> ?_) fun e s1 he=>(show False from he).elim
  have hf:=hf.unwish
  cases f with
  | next => exact Kl hf
  | _ => exact hf
 |none=>
  rw[h1] at q
  dsimp only at q
  cases h2:z δ with
  | none => rw [h2] at q;cases q
  |some p=>
   obtain⟨x0,δ1⟩:=p
   rw[h2] at q
   dsimp only at q
   cases h3:k (δ1.set i (.va (.exn x0))) with
   | none => rw [h3] at q;cases q
   |some ok=>
    rw[h3] at q
    cases ok with
    | nx _ => cases q
    | bk _ => cases q
    | ct _ => cases q
    |rt d δ2=>
     cases q
     subst hK
     have I1: ∀{xe:Value->Ad->Prop} {σ:St} {H:Hp} {s:Ad},c7 X aa σ H s->c7 {X with pn:=X.pn++aa,xe:=xe} [] σ H s:=fun I=>⟨I.ok.pns _ _,I.os,I.bare,I.base,I.loc,I.cell,I.free,I.freeC,fun p hp=>I.pin p (by simpa using hp),I.hok,I.len⟩
     have I2: ∀{xe:Value->Ad->Prop} {ps:List (Addr×Obj)} {σ:St} {H:Hp} {s:Ad},c7 {X with pn:=X.pn++aa,xe:=xe} ps σ H s->c7 X aa σ H s:=fun J=>⟨I.ok,J.os,J.bare,J.base,J.loc,J.cell,J.free,J.freeC,fun p hp=>J.pin p (Bf _ hp),J.hok,J.len⟩
     refine An (hz (X.pn++aa) _ (fun x σ' H'=>x=x0/\ ∃O',bG X.K ml B O' H' σ' δ1) (fun ps x C σ2 H2 e s' gh hx J F lo hR=> ?_) [] s σ H ⟨fun _ _=>False,fun _ _=>False,fun _ _=>False,fun _ _=>False⟩ (I1 I) ⟨B,O,δ,x0,δ1,S,h2,fun σ' H' O' S'=>⟨rfl,O',S'⟩⟩) (fun f s1 hf=> ?_) fun e s1 he=>he
     rotate_left
     ·cases f with
      |next=>obtain⟨_,_,_,z⟩:=hf;cases z
      |brk=>obtain⟨_,_,_,z⟩:=hf;cases z
      |cont=>obtain⟨_,_,_,z⟩:=hf;cases z
      |ret u=>obtain⟨_,_,_,_,_,z⟩:=hf;cases z
     obtain⟨rfl,O',S1⟩:=hR
     have J':=I2 J
     have lo':Low X aa gh:=⟨lo.s0,fun p hp=>lo.pin p (Bf _ hp)⟩
     obtain⟨a,a0,Bh,rfl,fl,c1,c2⟩:=F
     obtain⟨Cp,hP⟩:=hx.pk
     have fl:Kx Bh (X.env::X.outer) a (.ref C) a0 s'.heap:=hst▸fl
     have c1: ∀b o,gh.get? b=some o->b∉UW X.stack-> ∃o',s'.heap.get? b=some o'/\Bh.get? b=some o':=c1
     have nfr: ∀{h:Heap},Kx Bh (X.env::X.outer) a (.ref C) a0 h->a∉UW X.stack:=fun fl hb=>by
      rw[hst] at hb
      obtain⟨oe,vs,_,_,_,he,_,hd,_⟩:=fl.2.2.2
      obtain⟨_,o',e',nf⟩:=fl.2.2.1.mem hb
      rw[he] at e'
      cases e'
      exact nf vs hd
     refine wpAny_looks_onW (J'.ok.frames.trans (by rw[hst])) hfr fl fun h4 hd4 up4=>wpAny_landsW hd4 fun h5 fl5 up5=> ?_
     have I5:c7 X aa σ2 H2 {s' with heap:=h5}:=J'.flyG lo' fl5.1 (up4.trans up5) c1 c2
     have I5h:c7 (X.hnd a) aa σ2 H2 {s' with heap:=h5}:=I5.around rfl
     refine wpAny_handleBy_cons (codeAny_handlers_test (XV (X:=X.hnd a) I5h hg0 (hm Cp hP.at_) ?_)) (by intro q;cases q)
     obtain⟨oe5,vs5,_,_,_,he5,oq,_⟩:=fl5.2.2.2
     refine EO I5.kIn he5 oq.1 hP ?_
     refine codeAny_handlers_suite_as (lands_againW fl5 fun h6 fl6 up6=> ?_)
     have I6:c7 X aa σ2 H2 {s' with heap:=h6}:=J'.flyG lo' fl6.1 ((up4.trans up5).trans up6) c1 c2
     obtain⟨oe,vs,_,_,_,he,hcl,hdt,_⟩:=fl6.2.2.2
     have Bn:Bh.get? a=none:=fl6.2.1
     have na: ∀b o,gh.get? b=some o->b≠a:=fun b o e z=>by
      subst z
      obtain⟨o',_,e2⟩:=c1 b o e (nfr fl6)
      rw[Bn] at e2
      cases e2
     have ha:H2 a=none:=by
      cases e:H2 a with
      |none=>rfl
      |some u=>
       obtain⟨o',_,e2⟩:=c2 a u e
       rw[Bn] at e2
       cases e2
     have hs0:X.s₀.heap.get? a=none:=by
      cases e:X.s₀.heap.get? a with
      |none=>rfl
      |some o'=>
       obtain⟨o2,e2⟩:=lo'.s0 a o' e (nfr fl6)
       exact absurd rfl (na a o2 e2)
     have I7:=I6.track (C:=C) ha he hcl.1 hdt hs0 fun p hp=>by
      obtain⟨o2,e2⟩:=lo'.pin p hp
      exact na _ o2 e2
     have S7:bG X.K ml B O' (bL H2 a (.ext fun h=>FZ h a C)) σ2 δ1:=S1.same (dD ha)
     refine V7 (X:=X.hnd a) (I7.around rfl) hN hi (.inl hl) (v:= .ref a) rfl (fun s8 I8=> ?_) (.inr hl)
     have S8:=S7.setVa (i:=i) (v:= .ref a) (d:= .exn x) him (.exn hx.at_ cQ fun h z=>z)
     refine An (hk a aa s8 _ _ ⟨fun _ _=>False,D.rt,fun _ _=>False,fun _ _=>False⟩ I8 ⟨B,_,_,.rt d δ2,S8,h3,post⟩) (fun f s9 hf=> ?_) fun e s9 he=>(show False from he).elim
     cases f with
     |next=>obtain⟨_,_,_,z⟩:=hf;cases z
     |brk=>obtain⟨_,_,_,z⟩:=hf;cases z
     |cont=>obtain⟨_,_,_,z⟩:=hf;cases z
     |ret u=>
      obtain⟨v,σ9,H9,I9,r9,hD⟩:=hf
      have I9:=I9.back I.ok
      obtain⟨m,hn,_⟩:=id I9.loc
      refine wpAny_nameGoes hl hn (by rw[I9.ok.kind];rfl) fun h' m' ns' sb=> ?_
      exact⟨v,_,H9,I9.unbound ns' sb,r9,hD⟩
end
section
variable{X:Cx}{K:Ai}{ml:List Nat}{e a b c fx:Expr}{es:List Expr}{pa ta ia pb tb ib pf ft fi ps:Bool}{fa fb fe:VF}{B:Bs}{O:Nat->Option Addr}{H H1 H':Hp}{σ:St}{δ δ':Ev}{v:V}{d:dM}{pos:Pos}{R:Str->St->Hp->Prop}
noncomputable def X4:List dM->Option (List Bool)
 |[]=>some []
 | .bl i::ds=>(X4 ds).map fun ns=>i::ns
 |_=>none
theorem ND{N:Addr->Prop}: ∀{xs:List V} {ds:List dM} {ns:List Bool},cU K N H xs ds->X4 ds=some ns->xs=ns.map V.bl
 | _,_,_,.nil,h => by cases h;rfl
 | _,_,_,@cU.cons _ _ _ v vs d ds h t,e => by
  cases d with
  |bl k=>
   cases h
   have e:(X4 ds).map (fun ks=>k::ks)=some _:=e
   cases h2:X4 ds with
   |none=>rw[h2] at e;cases e
   |some ks=>
    rw[h2] at e
    cases e
    rw[ND t h2]
    rfl
  |_=>cases e
noncomputable def IK(n:Bool):List Bool->Option Nat
 |[]=>none
 |i::ns=>if i=n then some 0 else(IK n ns).map (· +1)
theorem N0{n:Bool}: ∀{ns:List Bool} {j:Nat},IK n ns=some j->ns[j]? =some n/\ ∀m,m<j->ns[m]? ≠some n
 | [],_,h => by cases h
 | i :: ns,j,h => by
  unfold IK at h
  split at h
  ·rename_i hi
   cases h
   exact⟨by rw[hi];rfl,fun m hm=>absurd hm (Kv _)⟩
  ·rename_i hi
   cases h1:IK n ns with
   |none=>rw[h1] at h;cases h
   |some k=>
    rw[h1] at h
    cases h
    obtain⟨h2,h3⟩:=N0 h1
    refine⟨by simpa using h2,fun m hm=> ?_⟩
    cases m with
    |zero=>simpa using hi
    |succ m=>simpa using h3 m (Kh hm)
noncomputable def J1(n:Bool):Value->Bool
 | .bool i=>i==n
 |_=>false
theorem O0: ∀{ns:List Bool} {us:List Value},cA (ns.map V.bl) us->us=ns.map Fs
 |[],_,.nil=>rfl
 |i::ns,_,.cons r t=>by rw[O0 t];cases r;rfl
def MP(K:Ai):V->List V->Hp->VK->Prop:=fun x vs H Q=> ∃(l:Addr) (ns:List Bool) (n:Bool) (j:Nat),x= .ref l/\vs=[.bl n]/\YO K H l (ns.map V.bl)/\IK n ns=some j/\Q (.int j) H
def MO(K:Ai):V->List V->Hp->VK->Prop:=fun x vs H Q=> ∃(l:Addr) (ns:List Bool) (n:Bool),x= .ref l/\vs=[.bl n]/\YO K H l (ns.map V.bl)/\Q (.int (ns.count n:Nat)) H
theorem A3{us:List Value}{n:Bool}(r:cA [V.bl n] us):us=[.bool n]:=by
 cases r with
 |cons r t=>cases t;cases r;rfl
theorem E6:MtM X "list.index" (MP X.K):=by
 intro aa s σ H x vs v us Q I rx rv h
 obtain⟨l,ns,n,j,rfl,rfl,hq,hj,q⟩:=h
 cases rx
 obtain rfl:=A3 rv
 obtain⟨its,r,⟨o,c,e,hc,hd,bw⟩,hz⟩:=I.list hq
 obtain⟨cls,dd,data,sl⟩:=o
 simp only at hc hd bw
 subst hc hd bw
 have hl:=r.length
 obtain rfl:=O0 r
 obtain⟨h1,h2⟩:=N0 hj
 have hj':j<ns.length:=(Ah.mp h1).1
 have hsz:ns.length<=16777216:=by rw[De] at hz;rw[<- Bu];exact hz
 refine Fv Na ⟨_,e,rfl⟩ Mh (Lv _ _) (Mi l (ns.map Fs).toArray c none sl (.bool n) (J1 n) j (by simpa using hj') (by omega) ?_ ?_) ⟨e,?_,?_⟩
 ·have : ns[j] = n := by have := Gi hj';rw [h1] at this;exact (Bb this).symm
  simp[J1,this]
 ·intro m hm hmj
  have hm':m<ns.length:=by simpa using hm
  have:=h2 m hmj
  rw[Gi hm'] at this
  simp only[List.getElem_toArray,List.getElem_map,J1]
  exact beq_eq_false_iff_ne.mpr fun z=>this (by rw[z])
 ·intro y hy
  have hy:y∈ns.map Fs:=by simpa using hy
  obtain⟨i,_,rfl⟩:=Hl.mp hy
  exact Li i n
 ·exact⟨.int j,H,I.tok _,⟨_,rfl⟩,q⟩
theorem E4:MtM X "list.count" (MO X.K):=by
 intro aa s σ H x vs v us Q I rx rv h
 obtain⟨l,ns,n,rfl,rfl,hq,q⟩:=h
 cases rx
 obtain rfl:=A3 rv
 obtain⟨its,r,⟨o,c,e,hc,hd,bw⟩,hz⟩:=I.list hq
 obtain⟨cls,dd,data,sl⟩:=o
 simp only at hc hd bw
 subst hc hd bw
 obtain rfl:=O0 r
 refine Fv F.slot_list_count ⟨_,e,rfl⟩ F.entry_list_count (F.args_list_count_2 _ _) (SeqAt.list_countAt l (ns.map Fs).toArray c none sl (.bool n) (J1 n)) ⟨e,?_,?_⟩
 ·intro y hy
  have hy:y∈ns.map Fs:=by simpa using hy
  obtain⟨i,_,rfl⟩:=Hl.mp hy
  exact Li i n
 ·have on:(ns.map Fs).toArray.toList.countP (J1 n)=ns.count n:=by
   rw[List.toList_toArray,List.countP_map]
   rfl
  refine⟨.int (ns.count n:Nat),H,I.tok _,⟨s.toks,?_⟩,q⟩
  rw[on]
noncomputable def MJ:dM->dM->Option dM
 | .lst ds,.bl n=>(X4 ds).bind fun ns=>(IK n ns).map fun j=> .int j
 |_,_=>none
noncomputable def MI:dM->dM->Option dM
 | .lst ds,.bl n=>(X4 ds).map fun ns=> .int (ns.count n:Nat)
 |_,_=>none
theorem zBV{ai ae:Pos}{name:Str}{id:String}{r:V->List V->Hp->VK->Prop}{o:dM->dM->Option dM}(hK:X.K=K)(sl:Slot "list" name id) (ty:Nj (.builtin id)=pure (.type "method_descriptor")) (mt:MtM X id r)
  (ho: ∀{x y d:dM},o x y=some d-> ∃ds n ns i,x= .lst ds/\y= .bl n/\X4 ds=some ns/\d= .int i/\ ∀(H:Hp) (l:Addr) (Q:VK),YO K H l (ns.map V.bl)->Q (.int i) H->r (.ref l) [.bl n] H Q)
  (ha:PE X a (TV K ml pa ta ia fa)) (hb:PE X b (TV K ml pb tb ib fb))
  (cf : Fu a name X.env (eval a X.env) = eval a X.env := by rfl)
  (dq : ((Dq ae (starEach (b :: []) X.env)).all (fun x => !x.1) && (Er ae (Cr [] X.env)).all (fun x => x.1.isSome)
   && decide ((b::([]:List Expr)).length+([]:List Ge).length+(if([]:List Ge).isEmpty then 0 else 1)<30))=true:=by rfl)
  (cb : (ai.endLine == ae.line) = true := by rfl) (hs : starEach (b :: []) X.env = (false,eval b X.env) :: starEach [] X.env := by rfl) (bj : (Dq ae (starEach [] X.env)).any (·.1) = false := by rfl) (hl : (pb || (ta && ia)) = true := by rfl) :
  PE X (.Call (.Attribute a name ai) [b] [] ae) (TV K ml (pa && pb) true true (f2 o fa fb)):=
 (kBm (K := K) hK Gu sl ty mt ha (bR hb ZN hs) cf dq cb hs bj).imp fun σ H Q q0 => by
  obtain⟨B,O,δ,d,δ2,S,q,k⟩:=q0
  obtain⟨x,δ1,y,h1,h2,h3⟩:=T9 q
  obtain⟨ds,n,ns,i,rfl,rfl,h4,rfl,h5⟩:=ho h3
  refine⟨B,O,δ,_,δ1,S,h1,fun v1 H1 R1=> ?_⟩
  obtain⟨l,xs,rfl,sq,_⟩:=R1.rep.lstE
  refine⟨.inl ⟨rfl,xs,sq⟩,B,O,δ1,_,δ2,R1.sta,h2,fun v2 H2 R2=> ?_⟩
  have r2:=R2.rep
  cases r2
  obtain⟨l',xs',e1,sq',r'⟩:=(R2.live hl R1.rep).lstE
  cases e1
  have:=ND r' h4
  subst this
  exact h5 H2 l Q sq' (k _ H2 ⟨R2.sta,R1.frm.trans R2.frm,fun z=>by
   obtain⟨z1,z2⟩:=(Ac _ _).mp z
   exact(R1.pur z1).trans (R2.pur z2),.int _⟩)
theorem A0{x y d:dM}(h:MJ x y=some d): ∃ds n ns i,x= .lst ds/\y= .bl n/\X4 ds=some ns/\d= .int i/\ ∀(H:Hp) (l:Addr) (Q:VK),YO K H l (ns.map V.bl)->Q (.int i) H->MP K (.ref l) [.bl n] H Q:=by
 unfold MJ at h
 split at h
 ·rename_i ds n
  cases h1:X4 ds with
  | none => rw [h1] at h;cases h
  |some ns=>
   rw[h1,Ag] at h
   cases h2:IK n ns with
   |none=>rw[h2] at h;cases h
   |some j=>
    rw[h2] at h
    cases h
    exact⟨ds,n,ns,j,rfl,rfl,h1,rfl,fun H l Q sq q=>⟨l,ns,n,j,rfl,rfl,sq,h2,q⟩⟩
 ·cases h
theorem AZ{x y d:dM}(h:MI x y=some d): ∃ds n ns i,x= .lst ds/\y= .bl n/\X4 ds=some ns/\d= .int i/\ ∀(H:Hp) (l:Addr) (Q:VK),YO K H l (ns.map V.bl)->Q (.int i) H->MO K (.ref l) [.bl n] H Q:=by
 unfold MI at h
 split at h
 ·rename_i ds n
  cases h1:X4 ds with
  |none=>rw[h1] at h;cases h
  |some ns=>
   rw[h1] at h
   cases h
   exact⟨ds,n,ns,_,rfl,rfl,h1,rfl,fun H l Q sq q=>⟨l,ns,n,rfl,rfl,sq,q⟩⟩
 ·cases h
theorem zBC(h:X.K=K):MtM X "list.index" (MP K):=by subst h;exact E6
theorem zBD(h:X.K=K):MtM X "list.count" (MO K):=by subst h;exact E4
def rIsx(K:Ai):RC:=fun xs H Q=> ∃a C φ u k,xs=[.ref a,u]/\H a=some (.ext φ)/\(∀h,φ h->FZ h a C)/\XA K C/\(Qr K C).isSome=true/\((∃D,u= .ref D/\Hq K (.ref C) (.ref D)=some k)∨ ∃n,u= .ty n/\Hq K (.ref C) (.type n)=some k)/\Q (.bl k) H
theorem AE:aL X (.builtin "isinstance") (rIsx X.K):=by
 intro aa s σ H xs us Q I r h
 obtain⟨a,C,φ,u,k,rfl,hH,hφ,xa,hc,hk,q⟩:=h
 obtain⟨v,c,rfl,rx,rc⟩:=K5 r
 cases rx
 obtain⟨o,vs,e1,e2,_⟩:=hφ _ (I.hok a _ hH).1
 have fin: ∀tk,EP X aa σ Q (.bool k) {s with toks:=tk}:=fun tk=>⟨.bl k,H,I.tok tk,rfl,q⟩
 rcases hk with⟨D,rfl,hk⟩|⟨n,rfl,hk⟩
 ·cases rc
  exact Ei (J6 xa hc) I.kIn ⟨o,e1,e2⟩ hk (fun z=>nomatch z) fin
 ·cases rc
  exact Ei (J6 xa hc) I.kIn ⟨o,e1,e2⟩ hk (fun z=>nomatch z) fin
theorem UJ(h:X.K=K):aL X (.builtin "isinstance") (rIsx K):=by subst h;exact AE
structure XI(K:Ai)(cs all:List Str):Prop where
 own: ∀c∈cs,∃C,XC K c C
 isi: ∀c∈cs,∀C,Fq K mainGlobals c=some (some (.ref C))-> ∀x∈all,∃D,Fq K mainGlobals x=some (some (.ref D))/\Hq K (.ref C) (.ref D)=some (decide (c=x))
 val: ∀c∈cs,∀C,Fq K mainGlobals c=some (some (.ref C))->Hq K (.ref C) (.type "ValueError")=some true
noncomputable def V2(cs all:List Str):dM->dM->Option dM
 | .exn c,.fn x=>if c∈cs/\x∈all then some (.bl (decide (c=x))) else none
 | .exn c,.ty n=>if c∈cs/\n= "ValueError" then some (.bl true) else none
 |_,_=>none
theorem X7{cs all:List Str}(F:XI K cs all):OW K (rIsx K) (V2 cs all):=by
 intro H N N' M M' x y d e c Q hx hy h k
 unfold V2 at h
 split at h
 ·rename_i c0 x0
  split at h
  ·rename_i hm
   cases h
   cases hx with
   |exn hn hH hφ=>
    cases hy with
    |fn hf=>
     obtain⟨C',hC⟩:=F.own _ hm.1
     have:=hn.symm.trans hC.at_
     cases this
     obtain⟨D,hD,hk⟩:=F.isi _ hm.1 _ hn _ hm.2
     have:=hf.symm.trans hD
     cases this
     exact⟨_,_,_,_,_,rfl,hH,hφ,hC.att,hC.cls,.inl ⟨_,rfl,hk⟩,k _ fun _ _ _=> .bl _⟩
  ·cases h
 ·rename_i c0 n0
  split at h
  ·rename_i hm
   cases h
   obtain⟨hm,rfl⟩:=hm
   cases hx with
   |exn hn hH hφ=>
    cases hy
    obtain⟨C',hC⟩:=F.own _ hm
    have:=hn.symm.trans hC.at_
    cases this
    exact⟨_,_,_,_,_,rfl,hH,hφ,hC.att,hC.cls,.inr ⟨_,rfl,F.val _ hm _ hn⟩,k _ fun _ _ _=> .bl _⟩
  ·cases h
 ·cases h
theorem BA{tf:TE}{t:TA}(hf:PE X fx tf)(ha:PA X (e::es) t)
  (hc:eval (.Call fx (e::es) [] pos) X.env=(do Oj pos (<- eval fx X.env) [] (Dq pos (starEach (e::es) X.env)) (Er pos (Cr [] X.env))):=by rfl)
  (he:starEach (e::es) X.env=(false,eval e X.env)::starEach es X.env:=by rfl) (hpl:(Dq pos (starEach es X.env)).any (·.1)=false:=by rfl):
  PE X (.Call fx (e::es) [] pos) (zD7 X tf t):=by
 intro aa s σ H Q I h
 rw[hc]
 refine Aa (aJ (hf aa s σ H _ I h) fun u s1 ⟨x,H1,I1,rx,f,sp,ex,F,q⟩=> ?_)
 subst ex
 obtain rfl:u=Bj f:=rx
 obtain⟨k,fd,qs,F,hr,hk,hb⟩:=F
 refine Ix (h₀:=X.base) I.ok.mod.kin hk (aJ (ha pos aa s1 σ H1 _ I1 q) fun us s2 ⟨vs,H2,I2,r,q2⟩=>⟨I2.kIn,IN (dvs:=[]) (ds:=[]) F hr hb .nil A7 I2 r ?_⟩) he hpl
 rwa[Dd]
noncomputable def L5(n:Nat)(mF:List Nat)(tb:List (Str×bX))(fe:VF)(fs:OZ):VF:=fun δ=>match fe δ with
 |some (.fn x,δ1)=>(K1 tb x).bind fun F=>c9 n mF F fs δ1
 |_=>none
theorem K7{n:Nat}{mF:List Nat}{tb:List (Str×bX)}{fs:OZ}(ht:F4 X K mF n tb)(hf:PE X fx (TV K ml pf ft fi fe))(ha:PA X (e::es) (F2 K ml ps fs))
  (hc : eval (.Call fx (e :: es) [] pos) X.env = (do Oj pos (<- eval fx X.env) [] (Dq pos (starEach (e :: es) X.env)) (Er pos (Cr [] X.env))) := by rfl)
  (he : starEach (e :: es) X.env = (false,eval e X.env) :: starEach es X.env := by rfl) (hpl : (Dq pos (starEach es X.env)).any (·.1) = false := by rfl) :
  PE X (.Call fx (e::es) [] pos) (TV K ml false true true (L5 n mF tb fe fs)):=(BA hf ha hc he hpl).imp fun σ H Q h=>by
 obtain⟨B,O,δ,d,δ',S,q,k⟩:=h
 unfold L5 at q
 split at q
 ·rename_i x δ1 hx
  cases hF:K1 tb x with
  | none => rw [hF] at q;cases q
  |some F=>
   rw[hF] at q
   refine⟨B,O,δ,_,δ1,S,hx,fun v H1 R1=> ?_⟩
   have r:=R1.rep
   cases r with
   |fn h=>
    refine⟨_,_,rfl,ht x F _ hF h,?_⟩
    obtain⟨B',O',δ2,as,δ3,S',q',k'⟩:=QV (F:=F) (fs:=fs) (K:=K) (ml:=ml) (ps:=ps) (n:=n) (mF:=mF) (σ:=σ) (H:=H1) (Q:=Q) ⟨B,O,δ1,d,δ',R1.sta,q,fun v H' R'=>k v H' ⟨R'.sta,R1.frm.trans R'.frm,(fun z=>nomatch z),R'.rep⟩⟩
    exact⟨B',O',δ2,as,δ3,S',q',fun vs H' R=>by have z:spV K mF n F (vs++[]) H' Q E0:=k' vs H' R;rwa[Dd] at z⟩
 ·cases q
noncomputable def P9:List (Str×(List dM->Option Str))->Str->Option (List dM->Option Str)
 |[],_=>none
 |(y,F)::r,x=>if y=x then some F else P9 r x
def TabX(X:Cx)(K:Ai)(n:Nat)(tb:List (Str×(List dM->Option Str))):Prop:= ∀x F a,P9 tb x=some F->Fq K mainGlobals x=some (some (.ref a))→
 ∃(k:Nat) (fd:Ck) (qs:List Str),bU X.prog X.w X.K X.mg X.base (LI X.prog X.w) k a fd qs (FN K n F)/\aH k X.A/\Fj X.K (.ref a)=true/\WG X.K fd qs []
theorem CS{n:Nat}:TabX X K n []:=fun _ _ _ h=>nomatch h
theorem N8{x:Str}{kk j:Nat}{qs:List Str}{F:List dM->Option Str}{ff:Addr}{tb:List (Str×(List dM->Option Str))}(hK:X.K=K)(hm: ∀x a,Fq K mainGlobals x=some (some (.ref a))->X.mg x=some (.ref a))(hr:aH j X.A)
  (D:T5 X.prog X.w K X.mg X.base x kk qs F ff) (hk:kk<=j) (t:TabX X K qs.length tb):TabX X K qs.length ((x,F)::tb):=fun y G a h1 h2=>by
 unfold P9 at h1
 split at h1
 ·rename_i hxy
  subst hxy
  cases h1
  have e:=(hm x a h2).symm.trans D.at_
  cases e
  subst hK
  obtain⟨fd,F,Bd⟩:=D.ok
  exact⟨kk,fd,qs,F,hr.mono hk,D.kp,Bd⟩
 ·exact t y G a h1 h2
noncomputable def JC(n:Nat)(tb:List (Str×(List dM->Option Str)))(fe:VF)(fs:OZ):VZ:=fun δ=>match fe δ with
 |some (.fn x,δ1)=>(P9 tb x).bind fun F=>YI n F fs δ1
 |_=>none
theorem DF{n:Nat}{tb:List (Str×(List dM->Option Str))}{fs:OZ}(hz:RzF X R)(hK:X.K=K)(hex:X.ex=[])(ht:TabX X K n tb)(hf:PE X fx (TV K ml pf ft fi fe))(ha:PA X (e::es) (F2 K ml ps fs))
  (hc : eval (.Call fx (e :: es) [] pos) X.env = (do Oj pos (<- eval fx X.env) [] (Dq pos (starEach (e :: es) X.env)) (Er pos (Cr [] X.env))) := by rfl)
  (he : starEach (e :: es) X.env = (false,eval e X.env) :: starEach es X.env := by rfl) (hpl : (Dq pos (starEach es X.env)).any (·.1) = false := by rfl) :
  PE X (.Call fx (e::es) [] pos) (ZE R K ml (JC n tb fe fs)):=by
 intro aa s σ H Q I h
 obtain⟨B,O,δ,x0,δ',S,q,k⟩:=h
 unfold JC at q
 split at q
 ·rename_i x δ1 hx
  cases hF:P9 tb x with
  | none => rw [hF] at q;cases q
  |some XF=>
   rw[hF,Ag] at q
   rw[hc]
   refine Aa (aJ (hf aa s σ H (fun v H1=> ∃a,v= .ref a/\Fq K mainGlobals x=some (some (.ref a))/\bG K ml B O H1 σ δ1) I ⟨B,O,δ,_,δ1,S,hx,fun v H1 R1=> ?_⟩) fun u s1 hq=> ?_)
   ·have r:=R1.rep
    cases r with
    |fn h=>exact⟨_,rfl,h,R1.sta⟩
   ·obtain⟨v,H1,I1,rx,a,rfl,hn,S1⟩:=hq
    obtain rfl:u=Bj a:=rx
    obtain⟨kk,fd,qs,F,hr,hkp,hb⟩:=ht x XF a hF hn
    refine Ix (h₀:=X.base) I.ok.mod.kin hkp (aJ (ha pos aa s1 σ H1 _ I1 (MZ (ps:=ps) (Q:=Q) hz hK hex ⟨B,O,δ1,x0,δ',S1,q,k⟩)) fun us s2 hq=> ?_) he hpl
    obtain⟨vs,H2,I2,rv,E,hE,hs⟩:=hq
    have hl:us.length=qs.length:=by rw[<- rv.length];exact F.len _ _ _ _ hs
    have hb:=hb s2 us I2.kIn (by simpa using hl)
    rw[Dd] at hb
    refine⟨I2.kIn,Jh (Fe (F.run X.A X.stack s2 H2 ⟨us,[]⟩ us vs Q E hr I2.env0 hb rv hs) fun r s' hq=> ?_)⟩
    cases r with
    |error e'=>exact hE aa s2 e' s' I2 hq
    |ok fl=>cases fl with
     |ret u=>exact I2.after hq
     |next=>cases hq
     |brk=>cases hq
     |cont=>cases hq
 ·cases q
end
theorem EQ(l b:Addr)(u v:Array Value)(n m:Nat)(sl:Array (Option Value))(h0: ¬(!u.isEmpty && Fc (u.size+v.size))=true)(h1:u.size<=sizeLine)(h2:(u++v).size<=sizeLine+1):
  Meets (Ed.«list.extend» ⟨[.ref l,.ref b],[]⟩) (fun _ R s=>s.heap.get? l=some ⟨.type "list",none,.seq u n,#[]⟩/\s.heap.get? b=some ⟨.type "list",none,.seq v m,sl⟩/\R (.ok (.ret .none)) {s with heap:=s.heap.update l (Jl fun x=>x++v)}):=
 .of_wp fun prog w A R s h=>by
  obtain⟨hp,g,d,tk,os⟩:=s
  obtain⟨hl,hb,h⟩:=h
  have f1:=Ke
  have f2:=AutoSeq1.sub_tuple_tuple
  have f3:=AutoSeq1.sub_list_list
  have f4:=AutoSeq1.sub_tuple_list
  have f5:=AutoSeq1.sub_list_tuple
  wp_walk using(Ij hl rfl (hz:=h1) (_hz':=h2)),Cd hl,Cd hb
  exact⟨_,rfl,h⟩
def BY(K:Ai):V->List V->Hp->VK->Prop:=fun x vs H Q=> ∃l b xs zs,x= .ref l/\vs=[.ref b]/\H l=some (.lst xs)/\YO K H b zs/\xs.length+zs.length<=sizeLine/\Q .non (bL H l (.lst (xs++zs)))
theorem zB9{X:Cx}:MtM X "list.extend" (BY X.K):=by
 intro aa s σ H x vs v us Q I rx rv h
 obtain⟨l,b,xs,zs,rfl,rfl,hH,hB,hz,q⟩:=h
 cases rx
 obtain⟨u,rfl,ru⟩:=rv.one
 cases ru
 obtain⟨z,its,n,r,hl,e⟩:=I.lstM hH
 obtain⟨dn,r2,⟨⟨cls,dd,data,sl⟩,n2,e2,hc,hd,bw⟩,_⟩:=I.list hB
 simp only at hc hd bw
 subst hc hd bw
 have hl2:=r2.length
 have hsz:its.toArray.size+dn.toArray.size<=sizeLine:=by rw[Ak,Ak];omega
 refine Fv F.slot_list_extend ⟨_,e,rfl⟩ F.entry_list_extend (F.args_list_extend_2 _ _) (EQ l b its.toArray dn.toArray n n2 sl (by
  rw[AT hsz,Bool.and_false]
  exact Db) (by rw[Ak];omega) (by rw[Array.size_append];omega)) ⟨e,e2,?_⟩
 refine⟨.non,_,I.lset (its':=its++dn) hH e (by simp) (r.append r2) ?_,rfl,q⟩
 rw[Cg]
 omega
theorem Q9{X:Cx}{K:Ai}(h:X.K=K):MtM X "list.extend" (BY K):=by subst h;exact zB9
noncomputable def ON:List dM->List dM->Option (List dM)
 |ds,[.lst es]=>if ds.length+es.length<=16777216 then some (ds++es) else none
 |_,_=>none
theorem V0{K:Ai}:MuV K (BY K) ON:=by
 intro H N l xs vs ds es ds' Q hl hN rx re h k
 cases re with
 | nil => cases h
 | @cons v vs d es hd t=>
  cases t with
  | cons _ _ => cases d <;> cases h
  |nil=>
   cases d with
   |lst es=>
    simp only[ON] at h
    split at h
    ·rename_i hz
     cases h
     obtain⟨b,zs,rfl,sq,r⟩:=hd.lstE
     exact⟨l,b,xs,zs,rfl,rfl,hl,sq,by rw[rx.length,r.length,Bu];exact hz,k _ _ (rx.append r)⟩
    ·cases h
   |_=>cases h
theorem OH:Bl "ValueError"=some (.type "ValueError"):=by decide+kernel
theorem Y5.mark{k:Nat}{A:Bx}(r:Y5 k A)(h:Option Value):Y5 k (A.mark h):=⟨r.dp,r.un⟩
noncomputable def xiOk(K:Ai)(cs all:List Str):Bool:=cs.all fun c=>match Fq K mainGlobals c with
 |some (some (.ref C))=>all.all (fun x=>match Fq K mainGlobals x with
  |some (some (.ref D))=>Hq K (.ref C) (.ref D)==some (decide (c=x))
  |_=>false) && Hq K (.ref C) (.type "ValueError")==some true
 |_=>false
theorem XI.of{K:Ai}{cs all:List Str}(own: ∀c∈cs,∃C,XC K c C)(h:xiOk K cs all=true):XI K cs all:=by
 have key: ∀c∈cs,∀C,Fq K mainGlobals c=some (some (.ref C))->(∀x∈all,∃D,Fq K mainGlobals x=some (some (.ref D))/\Hq K (.ref C) (.ref D)=some (decide (c=x)))/\Hq K (.ref C) (.type "ValueError")=some true:=by
  intro c hc C hn
  have:=Cu.mp h c hc
  rw[hn] at this
  simp only[Ac,beq_iff_eq] at this
  refine⟨fun x hx=> ?_,this.2⟩
  have h2:=Cu.mp this.1 x hx
  split at h2
  ·rename_i D hD
   exact⟨D,hD,beq_iff_eq.mp h2⟩
  ·cases h2
 exact⟨own,fun c hc C hn=>(key c hc C hn).1,fun c hc C hn=>(key c hc C hn).2⟩
theorem GN{P:Au}{w:World}{K:Ai}{mg:Str->Option Value}{base h:Heap}{x:Str}{st:Stmt}{f:Addr}{ps:List Str}{XF:List dM->Option Str}{k:Nat}(X:K.In h)(G:h.Ns mainGlobals mg)(p:A4 K x st f)(ok: ∀{fd:Ck},ZH K x x st f fd->bU P w K mg base (LI P w) k f fd ps (FN K ps.length XF))
  (hb: ∀{kV doc pm:Value} {an:Option Addr} {cdv ct:Value} (us:List Value),us.length=ps.length->bindArgs (Ji x x (Z8 st) (bQ st) (dH st) .none kV doc pm an cdv ct) ⟨us,[]⟩=pure (ps.zip us)):T5 P w K mg base x k ps XF f:=by
 obtain⟨oc,od,kV,doc,pm,an,cdv,ct,osl,a,b,c,d⟩:=p
 have U:=PF (st:=st) b c d
 exact⟨Ci X G a,⟨_,ok U,U.binds fun _ _ _ _ _ _=>hb⟩,d⟩
theorem zHD{P:Au}{w:World}{K:Ai}{mg:Str->Option Value}{base h:Heap}{x:Str}{st:Stmt}{f:Addr}{ps:List Str}{sp:Sp}{k:Nat}(X:K.In h)(G:h.Ns mainGlobals mg)(p:A4 K x st f)(ok: ∀{fd:Ck},ZH K x x st f fd->FnH P w K mg base k f fd ps sp)
  (hb: ∀{kV doc pm:Value} {an:Option Addr} {cdv ct:Value} (us:List Value),us.length=ps.length->bindArgs (Ji x x (Z8 st) (bQ st) (dH st) .none kV doc pm an cdv ct) ⟨us,[]⟩=pure (ps.zip us)):DefH P w K mg base x k ps sp f:=by
 obtain⟨oc,od,kV,doc,pm,an,cdv,ct,osl,a,b,c,d⟩:=p
 have U:=PF (st:=st) b c d
 exact⟨Ci X G a,⟨_,ok U,U.binds fun _ _ _ _ _ _=>hb⟩,d⟩
theorem okZ(P:Au)(w:World)(K:Ai)(mg:Str->Option Value)(base:Heap){x qual:Str}{st:Stmt}{f:Addr}{fd:Ck}(N ps:List Str)(k:Nat)(z:VZ)(F:ZH K x qual st f fd)(S:cV N ps (dH st))
  (am: ∀(cdv:Value) (A:Bx) (outer:List Env) (s:Ad) (H:Hp) (E:XK) (hr:aH k (A.deeper (envOfC qual (dH st) s.heap.objs.size f cdv))) (_:(A.deeper (envOfC qual (dH st) s.heap.objs.size f cdv)).units+64<cLine) (_:(A.deeper (envOfC qual (dH st) s.heap.objs.size f cdv)).units+1<cLine),
   W6 (T7 (LI P w) P w K mg base N qual (dH st) f cdv A outer s H E) (bQ st) (ZS (rE K E) K [] z)) (hps:ps.length<=N.length:=by decide):bU P w K mg base (LI P w) (k+1) f fd ps (FN K ps.length (P4 N.length z)):=
 ZH.okX F S hps fun cdv A outer s H E hr=>am cdv A outer s H E hr hr.units (zCI hr)
theorem okWH(P:Au)(w:World)(K:Ai)(mg:Str->Option Value)(base:Heap){x qual:Str}{st:Stmt}{f:Addr}{fd:Ck}(N ps:List Str)(k:Nat)(g:VS)(ml:List Nat)(F:ZH K x qual st f fd)(S:cV N ps (dH st))
  (am: ∀(cdv:Value) (A:Bx) (outer:List Env) (s:Ad) (H:Hp) (hr:Y5 k (A.deeper (envOfC qual (dH st) s.heap.objs.size f cdv))) (_:(A.deeper (envOfC qual (dH st) s.heap.objs.size f cdv)).units+64<cLine) (_:(A.deeper (envOfC qual (dH st) s.heap.objs.size f cdv)).units+1<cLine),
   W6 (cxH P w K mg base N qual (dH st) f cdv A outer s H) (bQ st) (U5 K ml g)) (hps:ps.length<=N.length:=by decide):FnH P w K mg base (k+1) f fd ps (spV K ml ps.length (aP N.length ml g)):=
 ZH.okVH F S hps fun cdv A outer s H hr=>am cdv A outer s H hr hr.units hr.unit
noncomputable def WY{α:Type}(k:Nat)(xs:List α):List α:=(Ap k xs).flatten
theorem P2{α:Type}(k:Nat)(xs:List α):(WY k xs).length=xs.length*k:=by
 unfold WY
 induction k with
 |zero=>simp
 |succ k ih=>rw[Em,Fx,Cg,ih,Nat.mul_succ,Nat.add_comm]
theorem cA.repV{xs:List V}{us:List Value}(r:cA xs us)(k:Nat):cA (WY k xs) (WY k us):=by
 unfold WY
 induction k with
 |zero=>exact .nil
 |succ k ih=>rw[Em,Em,Fx,Fx];exact r.append ih
theorem cU.rep{K:Ai}{N:Addr->Prop}{H:Hp}{xs:List V}{ds:List dM}(r:cU K N H xs ds)(k:Nat):cU K N H (WY k xs) (WY k ds):=by
 unfold WY
 induction k with
 |zero=>exact .nil
 |succ k ih=>rw[Em,Em,Fx,Fx];exact r.append ih
theorem R0:fillsNumberSlot (.type "tuple") "mul"=pure false:=
 PySem.fillsNumberSlot_seq (id:= "tuple.__mul__") (r:=some (.builtin "tuple.__rmul__")) F.slot_tuple_mul.lookup (by decide+kernel) F.slot_tuple_rmul.lookup (by decide+kernel)
theorem MR:seqRepeat? (.type "tuple")=pure (some (.builtin "tuple.__mul__")):=by
 unfold seqRepeat?
 rw[Nx (T:= "tuple") (name:= "__mul__") (id:= "tuple.__mul__") F.slot_tuple_mul.lookup (by decide+kernel),Nx (T:= "tuple") (name:= "__rmul__") (id:= "tuple.__rmul__") F.slot_tuple_rmul.lookup (by decide+kernel)]
 rfl
theorem IM(a:Int)(t:Tok)(l:Addr)(u:Array Value)(n:Nat)(dd:Option Addr)(sl:Array (Option Value)):Meets (Ed.«int.__rmul__» ⟨[.int a t,.ref l],[]⟩) (fun _ R s=>s.heap.get? l=some ⟨.type "tuple",dd,.seq u n,sl⟩/\R (.ok (.ret Value.notImplemented)) s):=
 .of_wp fun prog w A R s h=>by
  obtain⟨hp,g,d,tk,os⟩:=s
  obtain⟨hl,h⟩:=h
  wp_walk
  exact⟨_,rfl,h⟩
theorem IA(l:Addr)(t:Tok)(u:Array Value)(n:Nat)(dd:Option Addr)(sl:Array (Option Value)):Meets (Ed.«tuple.__mul__» ⟨[.ref l,.int 1 t],[]⟩) (fun _ R s=>s.heap.get? l=some ⟨.type "tuple",dd,.seq u n,sl⟩/\R (.ok (.ret (.ref l))) s):=
 .of_wp fun prog w A R s h=>by
  obtain⟨hp,g,d,tk,os⟩:=s
  obtain⟨hl,h⟩:=h
  have f1:=Ke
  unfold Ed.«tuple.__mul__»
  wp_walk using Cd hl
  exact⟨_,rfl,h⟩
theorem IB(l:Addr)(x:Int)(t:Tok)(u:Array Value)(n:Nat)(dd:Option Addr)(sl:Array (Option Value))(h1:1<x)(h2:x<2 ^ 62)(hu:u.isEmpty=false)(hz:u.size*x.toNat<=16777216):Meets (Ed.«tuple.__mul__» ⟨[.ref l,.int x t],[]⟩)
  (fun _ R s => s.heap.get? l = some ⟨.type "tuple",dd,.seq u n,sl⟩ /\ R (.ok (.ret (.ref s.heap.objs.size))) { s with heap := s.heap.push { cls := .type "tuple",data := .seq ((Ap x.toNat u).foldl (· ++ ·) #[]) } }) :=
 .of_wp fun prog w A R s h=>by
  obtain⟨hp,g,d,tk,os⟩:=s
  obtain⟨hl,h⟩:=h
  have f1:=Ke
  unfold Ed.«tuple.__mul__»
  have e1:(decide (x< -2 ^ 63) || decide (x≥2 ^ 63))=false:=by simp;omega
  have e2:(x==1)=false:=by simp;omega
  have e3:decide (x<=0)=false:=by simp;omega
  have e4:(u.size:Int)*x=((u.size*x.toNat:Nat):Int):=by rw[Int.natCast_mul,Lw (by omega)]
  have e5: ¬((u.size:Int)*x>(2 ^ 63 - 1)/8):=by rw[e4];omega
  have e6:Iu ((u.size:Int)*x)=false:=by rw[e4];unfold Iu;simp only[Bu,decide_eq_false_iff_not];omega
  wp_walk using Cd hl
  rw[e1]
  wp_walk using Cd hl
  simp only[hu,e2,e3,Pz]
  wp_walk
  rw[e6,if_neg e5]
  have e7: ¬(List.foldl (fun x1 x2=>x1++x2) #[] (Ap x.toNat u)).size>sizeLine:=by
   have:=P2 x.toNat u.toList
   unfold WY at this
   rw[listMul_foldl,Ak]
   show¬([]++(Ap x.toNat u.toList).flatten).length>sizeLine
   rw[Ky,this,Dh,Bu]
   omega
  wp_walk
  exact⟨_,rfl,h⟩
section
variable{X:Cx}{K:Ai}
def zC2(K:Ai):R2:=fun x y H Q=> ∃l xs k,x= .ref l/\y= .int k/\YO K H l xs/\(0<=k/\k<2 ^ 62)/\xs.length*k.toNat<=16777216/\ ∀p,H p=none->Q (.ref p) (bL H p (.lst (WY k.toNat xs)))
theorem zAZ:YD X (Ep .Mult) (zC2 X.K):=by
 intro aa s σ H x y v u Q I rx ry h
 obtain⟨l,xs,x,rfl,rfl,hq,⟨x0,x1⟩,hz,q⟩:=h
 cases rx
 obtain⟨t,rfl⟩:=ry
 obtain⟨its,r,⟨⟨cls,dd,data,sl⟩,n,ho,hc,hd,bw⟩,_⟩:=I.list hq
 simp only at hc hd bw
 subst hc hd bw
 have hl:=r.length
 have hsz:its.toArray.size*x.toNat<=16777216:=by rw[Ak,<- hl];exact hz
 refine Jf (T:= "list") (U:= "int") (by decide) ⟨_,ho,rfl⟩ (fun s'=>Le s' x t) noFill_list_mul Pf Il repeat_list F.slot_int_index.lookup
  (Fv Il (Le s x t) Ny (Nb _ _) (lm_int_rmul_list_any x t l its.toArray n none sl) ⟨ho,rfl,⟨_,ho,rfl⟩,?_⟩)
 refine Fv F.slot_list_mul ⟨_,ho,rfl⟩ F.entry_list_mul (F.args_list_mul_2 _ _) (lm_list_mul_any l its.toArray n none sl x t (by simp[Builtin.List.listFitsIndex];omega) (by omega) (by simp[Fc,sizeLine];omega)) ⟨ho,?_⟩
 rw[listMul_foldl_if]
 refine⟨.ref s.heap.objs.size,_,I.laid (t':=s.toks) (o:= .lst (WY x.toNat xs)) (fun b ob e=>Ae _ e) (As _) ?_,rfl,q _ (I.hok.fresh (As _))⟩
 exact⟨by rw[P2,Bu];exact hz,WY x.toNat its,0,r.repV _,At _ rfl⟩
def zC1(K:Ai):R2:=fun x y H Q=> ∃l xs k,x= .ref l/\y= .int k/\W4 K H l xs/\xs≠[]/\(1<=k/\k<2 ^ 62)/\xs.length*k.toNat<=16777216/\(k=1->Q (.ref l) H)/\ ∀p,H p=none->Q (.ref p) (bL H p (.tup (WY k.toNat xs)))
theorem zAY:YD X (Ep .Mult) (zC1 X.K):=by
 intro aa s σ H x y v u Q I rx ry h
 obtain⟨l,xs,x,rfl,rfl,hq,hne,⟨x0,x1⟩,hz,q1,q⟩:=h
 cases rx
 obtain⟨t,rfl⟩:=ry
 obtain⟨its,r,⟨⟨cls,dd,data,sl⟩,ho,hc,n,hd⟩,_⟩:=I.tuple hq
 simp only at hc hd
 subst hc hd
 have hl:=r.length
 have hsz:its.toArray.size*x.toNat<=16777216:=by rw[Ak,<- hl];exact hz
 have hu:its.toArray.isEmpty=false:=by
  cases its with
  |nil=>exact absurd (r.nil_iff.mp rfl) hne
  |cons a b=>rfl
 refine Jf (T:= "tuple") (U:= "int") (by decide) ⟨_,ho,rfl⟩ (fun s'=>Le s' x t) R0 Pf Il MR F.slot_int_index.lookup
  (Fv Il (Le s x t) Ny (Nb _ _) (IM x t l its.toArray n dd sl) ⟨ho,rfl,⟨_,ho,rfl⟩,?_⟩)
 by_cases hk:x=1
 ·subst hk
  exact Fv Nz ⟨_,ho,rfl⟩ Nc (Ml _ _) (IA l t its.toArray n dd sl) ⟨ho,⟨.ref l,H,I,rfl,q1 rfl⟩⟩
 ·refine Fv Nz ⟨_,ho,rfl⟩ Nc (Ml _ _) (IB l x t its.toArray n dd sl (by omega) x1 hu hsz) ⟨ho,?_⟩
  rw[listMul_foldl]
  refine⟨.ref s.heap.objs.size,_,I.laid (t':=s.toks) (o:= .tup (WY x.toNat xs)) (fun b ob e=>Ae _ e) (As _) ?_,rfl,q _ (I.hok.fresh (As _))⟩
  exact⟨by rw[P2,Bu];exact hz,WY x.toNat its,r.repV _,Kp _ _⟩
def zC3(K:Ai):R2:=fun x y H Q=>zC2 K x y H Q∨zC1 K x y H Q
theorem MD(h:X.K=K):YD X (Ep .Mult) (zC3 K):=by subst h;exact zAZ.or zAY
noncomputable def Z9:dM->dM->Option dM
 | .lst ds,.int k=>if(0<=k/\k<2 ^ 62)/\ds.length*k.toNat<=16777216 then some (.lst (WY k.toNat ds)) else none
 | .tup (d::ds),.int k=>if(1<=k/\k<2 ^ 62)/\(ds.length+1)*k.toNat<=16777216 then some (.tup (WY k.toNat (d::ds))) else none
 |_,_=>none
theorem SQ:OpC K (zC3 K) Z9:=by
 intro H N M M' x y d e c Q hx hy h k
 cases d with
 |lst ds=>
  cases e with
  |int i=>
   simp only[Z9] at h
   split at h
   ·rename_i hz
    cases h
    obtain⟨a,xs,rfl,q1,r1⟩:=hx.lstE
    cases hy
    exact .inl ⟨a,xs,i,rfl,rfl,q1,hz.1,by rw[r1.length];exact hz.2,fun p hp=>k _ _ (dD hp) fun M hM=> .lst cQ (fun z=>by
     obtain⟨o,q⟩:=hM _ z
     rw[hp] at q
     cases q) ((r1.rep _).same (dD hp))⟩
   ·cases h
  | _ => cases h
 |tup ds=>
  cases ds with
  | nil => cases h
  |cons d ds=>
   cases e with
   |int i=>
    simp only[Z9] at h
    split at h
    ·rename_i hz
     cases h
     obtain⟨a,xs,rfl,q1,r1⟩:=hx.tupE
     cases hy
     refine .inr ⟨a,xs,i,rfl,rfl,q1,fun z=> ?_,hz.1,by rw[r1.length];exact hz.2,fun z=> ?_,fun p hp=>k _ _ (dD hp) fun M hM=> .tup (W4.of cQ) ((r1.rep _).same (dD hp))⟩
     ·subst z
      cases r1
     ·subst z
      refine k _ _ (bC.refl _) fun M hM=> ?_
      rw[show WY (1:Int).toNat (d::ds)=d::ds by simp[WY]]
      exact .tup q1 r1
    ·cases h
   |_=>cases h
 |_=>cases h
end
noncomputable def EZ:Expr->Option dM
 | .Constant (.int i) _ _=>some (.int i)
 | .Constant (.bool i) _ _=>some (.bl i)
 | .Constant (.str i) _ _=>some (.str i)
 | .Constant .none _ _=>some .non
 | .UnaryOp .USub (.Constant (.int i) _ _) _=>some (.int (-i))
 |_=>none
noncomputable def OM(f:Expr->Option dM):List Expr->Option (List dM)
 |[]=>some []
 |e::es=>(f e).bind fun d=>(OM f es).map fun ds=>d::ds
noncomputable def J8:Nat->Expr->Option dM
 |0,e=>EZ e
 |k+1,e=>match e with
  | .Tuple es _ _=>(OM (J8 k) es).bind fun ds=>if ds.length<=16777216 then some (.tup ds) else none
  | .List es _=>(OM (J8 k) es).bind fun ds=>if ds.length<=16777216 then some (.lst ds) else none
  |e=>EZ e
section
variable{X:Cx}{K:Ai}{ml:List Nat}
theorem GK{e:Expr}{d:dM}(h:EZ e=some d):PE X e (TV K ml true true true (fC d)):=by
 unfold EZ at h
 split at h
 ·cases h;exact dL
 ·cases h;exact aK
 ·cases h;exact cN
 ·cases h;exact aA
 ·cases h;exact QE dL
 ·cases h
theorem NT{e:Expr}{es:List Expr}{d:dM}(h:EZ e=some d):starEach (e::es) X.env=(false,eval e X.env)::starEach es X.env:=by
 unfold EZ at h
 split at h<;>first
  |rfl
  |cases h
theorem MG{f:Expr->Option dM}(hf: ∀e d,f e=some d->PE X e (TV K ml true true true (fC d))/\ ∀es,starEach (e::es) X.env=(false,eval e X.env)::starEach es X.env): ∀{es:List Expr} {ds:List dM},OM f es=some ds->PA X es (D0 K ml true true fun δ=>some (ds,δ))
 | [],_,h => by
  cases h
  exact dE
 | e :: es,ds,h => by
  have h:((f e).bind fun d=>(OM f es).map fun ds=>d::ds)=some ds:=h
  cases h1:f e with
  | none => rw [h1] at h;cases h
  |some d=>
   rw[h1] at h
   have h:(OM f es).map (fun ds=>d::ds)=some ds:=h
   cases h2:OM f es with
   |none=>rw[h2] at h;cases h
   |some ds'=>
    rw[h2] at h
    cases h
    obtain⟨a,b⟩:=hf e d h1
    exact dO a (MG hf h2) (b es)
theorem MF: ∀{k:Nat} {e:Expr} {d:dM},J8 k e=some d->PE X e (TV K ml true true true (fC d))/\ ∀es,starEach (e::es) X.env=(false,eval e X.env)::starEach es X.env
 | 0,e,d,h => ⟨GK h,fun es => NT h⟩
 | k + 1,e,d,h => by
  have hl: ∀(es:List Expr) (g:List dM->dM) (fg:Q0->VF),(∀fs δ,fg fs δ=(fs δ).bind fun p=>if p.1.length<=16777216 then some (g p.1,p.2) else none)->((OM (J8 k) es).bind fun ds=>if ds.length<=16777216 then some (g ds) else none)=some d-> ∃ds,PA X es (D0 K ml true true fun δ=>some (ds,δ))/\fg (fun δ=>some (ds,δ))=fC d:=by
   intro es g fg hg h
   cases h1:OM (J8 k) es with
   | none => rw [h1] at h;cases h
   |some ds=>
    rw[h1] at h
    have h:(if ds.length<=16777216 then some (g ds) else none)=some d:=h
    split at h
    ·rename_i hz
     cases h
     refine⟨ds,MG (fun e d=>MF) h1,funext fun δ=> ?_⟩
     rw[hg]
     show(if ds.length<=16777216 then some (g ds,δ) else none)=_
     rw[if_pos hz]
     rfl
    ·cases h
  unfold J8 at h
  split at h
  ·rename_i es x1 pos
   obtain⟨ds,a,b⟩:=hl es .tup bZ (fun _ _=>rfl) h
   exact⟨b▸cT a,fun _=>rfl⟩
  ·rename_i es pos
   obtain⟨ds,a,b⟩:=hl es .lst bE (fun _ _=>rfl) h
   exact⟨b▸zCW a,fun _=>rfl⟩
  ·exact⟨GK h,fun es=>NT h⟩
theorem W0{k:Nat}{e:Expr}{d:dM}(h:J8 k e=some d):PE X e (TV K ml true true true (fC d)):=(MF h).1
theorem QF{k:Nat}{es:List Expr}{pos:Pos}{ds:List dM}(h:OM (J8 k) es=some ds)(hz:ds.length<=16777216):PE X (.List es pos) (TN K ml true (fC (.lst ds))):=by
 have a:=b7 (pos:=pos) (MG (X:=X) (K:=K) (ml:=ml) (fun e d=>MF (k:=k)) h)
 have b:bE (fun δ=>some (ds,δ))=fC (.lst ds):=funext fun δ=>by
  show(if ds.length<=16777216 then some (dM.lst ds,δ) else none)=_
  rw[if_pos hz]
  rfl
 exact b▸a
end
section
variable{X:Cx}{K:Ai}{ml:List Nat}{e a b c:Expr}{es:List Expr}{pa ta ia pb tb ib pc tc ic pu bt bi ps bs:Bool}{fa fb fc f:VF}{B B':Bs}{O:Nat->Option Addr}{H H1 H':Hp}{σ:St}{δ δ':Ev}{v:V}{d:dM}{pos:Pos}{st:Stmt}{rest:List Stmt}{g g':VS}{z z':VZ}{R:Str->St->Hp->Prop}
theorem K9:PE X e (TV K ml true true true (fun _=>none)):=fun _ _ _ _ _ _ h=>by
 obtain⟨_,_,_,_,_,_,q,_⟩:=h
 cases q
theorem zCQ{tg:Expr}(he:PE X e (ZE R K ml z))(hs:Gj [tg] e pos.line X.env=pure false:=by rfl)(hw:Gk [tg] e X.env=pure none:=by rfl)(h1:(assignEach [tg] X.env).map (·.2)=[assign tg X.env]:=by rfl):PS X (.Assign [tg] e pos) (ZS R K ml z):=
 (P0 (g:=fun _ _ _ _=>False) he (fun _ _ _ _ _ _ _ _ _ h=>h.elim) hs hw h1).imp fun _ _ _ h=>h
theorem zCT{t:TS}(h:PS X.nox st t):PS X st t:=fun aa s σ H D I hw=>
 An (h aa s σ H D (I.wish _) hw) (fun _ _ q=>q.unwish) fun _ _ z=>Fg z
theorem zFY{x:Str}{p':Pos}{kk j:Nat}{qs:List Str}{F:bX}{ff:Addr}(D:Def X.prog X.w K X.mg X.base x kk qs (spV K [] 0 F) ff)(hr:aH j X.A)(hK:X.K=K:=by rfl)(hk:kk<=j:=by decide)(hg:Gl X x:=by rfl)(hdb:(x==("__debug__":Str))=false:=by decide):
  PE X (.Call (.Name x p') [] [] pos) (TV K ml true true true (c9 0 [] F cW)):=by
 subst hK
 obtain⟨fd,F',Bd⟩:=D.ok
 refine(A8 F' (hr.mono hk) hg D.at_ D.kp Bd .nil A7 hdb).imp fun σ H Q h=> ?_
 obtain⟨B,O,δ,as,δ',S,q,k⟩:=QV (ps:=true) h
 cases q
 exact k [] H ⟨S,Fr.refl _ _,fun _=>bC.refl _,.nil⟩
noncomputable def gk(us ws:List Value):List Value:=match us,ws with
 |[u],[w]=>[u,w]
 |_,_=>[]
noncomputable def gkV(us ws:List V):List V:=match us,ws with
 |[u],[w]=>[u,w]
 |_,_=>[]
theorem kb1{fd:Ck}{x y:Str}(h: ∀u w,bindArgs fd ⟨[u],[(y,w)]⟩=pure [(x,u),(y,w)]):HH K fd [x,y] [y] gk gkV:=⟨fun s us ws hK hl=>by
 match us,ws,hl with
 | [u],[w],_ => exact BindsTo.of_eq (h u w),fun {vs us zs ws} r rz => by
 cases r with
 | nil => exact .nil
 |cons r1 r2=>
  cases r2 with
  |nil=>
   cases rz with
   |nil=>exact .nil
   |cons z1 z2=>
    cases z2 with
    |nil=>exact .cons r1 (.cons z1 .nil)
    |cons _ _=>exact .nil
  |cons _ _=>exact .nil⟩
structure FY(P:Au)(w:World)(K:Ai)(mg:Str->Option Value)(base:Heap)(x:Str)(k:Nat)(p q:Str)(XF:List dM->Option Str)(f:Addr):Prop where
 at_:mg x=some (.ref f)
 ok: ∃fd,bU P w K mg base (LI P w) k f fd [p,q] (FN K 2 XF)/\HH K fd [p,q] [q] gk gkV
 kp:Fj K (.ref f)=true
theorem FD{x p q:Str}{kk:Nat}{sp:Sp}{ff:Addr}{fd:Ck}{p' cq:Pos}{te tf:TE}{CX:HF}(F:bU X.prog X.w X.K X.mg X.base CX kk ff fd [p,q] sp)(hr:aH kk X.A)(hg:Gl X x)(hm:X.mg x=some (.ref ff))(hk:Fj X.K (.ref ff)=true)(hb:HH X.K fd [p,q] [q] gk gkV)
  (ha:PE X a te) (hw:PE X b tf) (gd:(Er pos (Cr [⟨some q,b,cq⟩] X.env)).all (·.1.isSome)=true:=by rfl) (hks:(Er pos (Cr [⟨some q,b,cq⟩] X.env)).filterMap (·.1)=[q]:=by rfl)
  (hdb:(x==("__debug__":Str))=false:=by decide) (he:starEach (a::[]) X.env=(false,eval a X.env)::starEach [] X.env:=by rfl)
  (hpl:((Dq pos (starEach (a::[]) X.env)).any (·.1) || (Er pos (Cr [⟨some q,b,cq⟩] X.env)).any (·.1.isNone))=false:=by rfl):
  PE X (.Call (.Name x p') [a] [⟨some q,b,cq⟩] pos) (fun σ H Q=>te σ H fun v1 H1=>tf σ H1 fun v2 H2=> ∃E,(∀(aa:List (Addr×Obj)) (s:Ad) (e':Value) (s':Ad),c7 X aa σ H2 s->CX X.stack H2 s E e' s'->X.xe e' s')/\sp [v1,v2] H2 Q E):=by
 intro aa s σ H Q I h
 have pa:PA X [a] (U0 te OS):=bR ha ZN he
 have pk:PK X [⟨some q,b,cq⟩] (U0 tf OS):=zAQ hw zDW
 refine Co (XV I hg hm (W.callWith_KW (h₀:=X.base) I.ok.mod.kin hk gd (aJ (pa pos aa s σ H (fun vs H1=>tf σ H1 fun v2 H2=> ∃E,(∀(aa:List (Addr×Obj)) (s:Ad) (e':Value) (s':Ad),c7 X aa σ H2 s->CX X.stack H2 s E e' s'->X.xe e' s')/\sp (gkV vs [v2]) H2 Q E) I h) fun us s1 hq=> ?_) hpl he) hdb)
 obtain⟨vs,H1,I1,rv,hq⟩:=hq
 refine aJ (pk pos aa s1 σ H1 (fun zs H2=> ∃E,(∀(aa:List (Addr×Obj)) (s:Ad) (e':Value) (s':Ad),c7 X aa σ H2 s->CX X.stack H2 s E e' s'->X.xe e' s')/\sp (gkV vs zs) H2 Q E) I1 hq) fun ws s2 hq2=> ?_
 obtain⟨zs,H2,I2,rz,E,hE,hs⟩:=hq2
 have r2:=hb.rel rv rz
 have hl:(gk us ws).length=[p,q].length:=by rw[<- r2.length];exact F.len _ _ _ _ hs
 rw[hks]
 refine⟨I2.kIn,Jh (Fe (F.run X.A X.stack s2 H2 ⟨us,[q].zip ws⟩ (gk us ws) (gkV vs zs) Q E hr I2.env0 (hb.to s2 us ws I2.kIn hl) r2 hs) fun r s' hq=> ?_)⟩
 cases r with
 |error e'=>exact hE aa s2 e' s' I2 hq
 |ok fl=>cases fl with
  |ret u=>exact I2.after hq
  |next=>cases hq
  |brk=>cases hq
  |cont=>cases hq
theorem DE{x p q:Str}{kk j:Nat}{XF:List dM->Option Str}{ff:Addr}{p' cq:Pos}(hz:RzF X R)(hK:X.K=K)(D:FY X.prog X.w K X.mg X.base x kk p q XF ff)(hr:aH j X.A)(hk:kk<=j)(hg:Gl X x)(hex:X.ex=[])(ha:PE X a (TV K ml pa true true fa))(hw:PE X b (TV K ml pb true true fb))
  (gd : (Er pos (Cr [⟨some q,b,cq⟩] X.env)).all (·.1.isSome) = true := by rfl) (hks : (Er pos (Cr [⟨some q,b,cq⟩] X.env)).filterMap (·.1) = [q] := by rfl)
  (hdb : (x == ("__debug__" : Str)) = false := by decide) (he : starEach (a :: []) X.env = (false,eval a X.env) :: starEach [] X.env := by rfl)
  (hpl : ((Dq pos (starEach (a :: []) X.env)).any (·.1) || (Er pos (Cr [⟨some q,b,cq⟩] X.env)).any (·.1.isNone)) = false := by rfl) :
  PE X (.Call (.Name x p') [a] [⟨some q,b,cq⟩] pos) (ZE R K ml (YI 2 XF (aE fa (aE fb cW)))):=by
 obtain⟨fd,F,Bd⟩:=D.ok
 subst hK
 refine(FD F (hr.mono hk) hg D.at_ D.kp Bd ha hw gd hks hdb he hpl).imp fun σ H Q h=> ?_
 have t:=MZ (ps:=pa && (pb && true)) (Q:=Q) hz rfl hex h
 obtain⟨B,O,δ,as,δ2,S,q,k⟩:=t
 unfold aE at q
 cases h1:fa δ with
 | none => rw [h1] at q;cases q
 |some p=>
  obtain⟨x,δ1⟩:=p
  rw[h1] at q
  have q:((aE fb cW δ1).map fun q=>(AV.d x::q.1,q.2))=some (as,δ2):=q
  unfold aE at q
  cases h2:fb δ1 with
  |none=>rw[h2] at q;cases q
  |some p2=>
   obtain⟨y,δ3⟩:=p2
   rw[h2] at q
   cases q
   refine⟨B,O,δ,x,δ1,S,h1,fun v1 H1 R1=>⟨B,O,δ1,y,_,R1.sta,h2,fun v2 H2 R2=>k _ H2 ⟨R2.sta,R1.frm.trans R2.frm,fun z=> ?_,.d (R1.rep.fr R2.frm (fun a z=> .inr z) fun a z=> .inr z) (.d R2.rep .nil)⟩⟩⟩
   obtain⟨z1,z2⟩:=(Ac _ _).mp z
   obtain⟨z2,_⟩:=(Ac _ _).mp z2
   exact(R1.pur z1).trans (R2.pur z2)
end
theorem zEY{P:Au}{w:World}{K:Ai}{mg:Str->Option Value}{base h:Heap}{x p q:Str}{st:Stmt}{f:Addr}{XF:List dM->Option Str}{k:Nat}(X:K.In h)(G:h.Ns mainGlobals mg)(pp:A4 K x st f)(ok: ∀{fd:Ck},ZH K x x st f fd->bU P w K mg base (LI P w) k f fd [p,q] (FN K 2 XF))
  (hb: ∀{kV doc pm:Value} {an:Option Addr} {cdv ct:Value} (u v:Value),bindArgs (Ji x x (Z8 st) (bQ st) (dH st) .none kV doc pm an cdv ct) ⟨[u],[(q,v)]⟩=pure [(p,u),(q,v)]):FY P w K mg base x k p q XF f:=by
 obtain⟨oc,od,kV,doc,pm,an,cdv,ct,osl,a,b,c,d⟩:=pp
 have U:=PF (st:=st) b c d
 exact⟨Ci X G a,⟨_,ok U,kb1 fun u v=>hb u v⟩,d⟩
end L2
namespace L2
open PySem
section
variable{α β:Type}{d x y z c:dM}{δ δ1 δ':Ev}{fa fb fc:VF}{o o':dM->dM->Option dM}{i j k n:Nat}{s:Sl}{b:Bool}{ds:List dM}
noncomputable def q0(r:Option α)(δ:Ev):Option (α×Ev):=r.map fun c=>(c,δ)
@[simp] theorem q0_s{a:α}:q0 (some a) δ=some (a,δ):=rfl
@[simp] theorem fC_e:fC d δ=some (d,δ):=rfl
noncomputable def qV:Option Sl->Ev->Option (dM×Ev)
 |some (.va d),δ=>some (d,δ)
 |_,_=>none
noncomputable def qO:Option Sl->Ev->Option (dM×Ev)
 |some (.va d),δ=>some (d,δ)
 |some (.ow d),δ=>some (d,δ)
 |_,_=>none
@[simp] theorem fV_e:fV i δ=qV δ[i]? δ:=by unfold fV qV;split<;>simp_all
@[simp] theorem fO_e:fO i δ=qO δ[i]? δ:=by unfold fO qO;split<;>simp_all
@[simp] theorem qV_s:qV (some (.va d)) δ=some (d,δ):=rfl
@[simp] theorem qO_v:qO (some (.va d)) δ=some (d,δ):=rfl
@[simp] theorem qO_o:qO (some (.ow d)) δ=some (d,δ):=rfl
noncomputable def q1(o:dM->Option dM)(r:Option (dM×Ev)):Option (dM×Ev):=r.bind fun p=>q0 (o p.1) p.2
@[simp] theorem f1_e{o:dM->Option dM}:f1 o fa δ=q1 o (fa δ):=rfl
@[simp] theorem q1_s{o:dM->Option dM}:q1 o (some (x,δ))=q0 (o x) δ:=rfl
noncomputable def q2(o:dM->dM->Option dM)(r:Option (dM×Ev))(fb:VF):Option (dM×Ev):=r.bind fun p=>(fb p.2).bind fun q=>q0 (o p.1 q.1) q.2
noncomputable def q2b(o:dM->dM->Option dM)(x:dM)(r:Option (dM×Ev)):Option (dM×Ev):=r.bind fun q=>q0 (o x q.1) q.2
@[simp] theorem f2_e:f2 o fa fb δ=q2 o (fa δ) fb:=rfl
@[simp] theorem q2_s:q2 o (some (x,δ)) fb=q2b o x (fb δ):=rfl
@[simp] theorem zMM:q2b o x (some (y,δ))=q0 (o x y) δ:=rfl
noncomputable def q3(o o':dM->dM->Option dM)(r:Option (dM×Ev))(fb fc:VF):Option (dM×Ev):=r.bind fun p=>(fb p.2).bind fun q=>(o p.1 q.1).bind fun z=>match z with
 | .bl true=>(fc q.2).bind fun s=>(o' q.1 s.1).map fun u=>(u,s.2)
 | .bl false=>some (.bl false,q.2)
 |_=>none
noncomputable def q3b(o o':dM->dM->Option dM)(x:dM)(r:Option (dM×Ev))(fc:VF):Option (dM×Ev):=q3 o o' (some (x,[])) (fun _=>r) fc
noncomputable def q3c(o':dM->dM->Option dM)(y:dM)(δ:Ev)(fc:VF):Option dM->Option (dM×Ev)
 |some (.bl true)=>q2b o' y (fc δ)
 |some (.bl false)=>some (.bl false,δ)
 |_=>none
@[simp] theorem f3_e:f3 o o' fa fb fc δ=q3 o o' (fa δ) fb fc:=rfl
@[simp] theorem q3_s:q3 o o' (some (x,δ)) fb fc=q3b o o' x (fb δ) fc:=rfl
@[simp] theorem zML:q3b o o' x (some (y,δ)) fc=q3c o' y δ fc (o x y):=by
 simp only[q3b,q3,Ag]
 cases o x y with
 |none=>rfl
 |some z=>cases z with
  |bl b=>cases b<;>rfl
  |_=>rfl
@[simp] theorem zMJ:q3c o' y δ fc (some (.bl true))=q2b o' y (fc δ):=rfl
@[simp] theorem zMK:q3c o' y δ fc (some (.bl false))=some (.bl false,δ):=rfl
noncomputable def qc(r:Option (dM×Ev))(fs:Q0):Option (List dM×Ev):=r.bind fun p=>(fs p.2).map fun q=>(p.1::q.1,q.2)
noncomputable def qcb(x:dM)(r:Option (List dM×Ev)):Option (List dM×Ev):=r.map fun q=>(x::q.1,q.2)
@[simp] theorem zLD:cX δ=some ([],δ):=rfl
@[simp] theorem zJ1{fs:Q0}:dN fa fs δ=qc (fa δ) fs:=rfl
@[simp] theorem qc_s{fs:Q0}:qc (some (x,δ)) fs=qcb x (fs δ):=rfl
@[simp] theorem zM2:qcb x (some (ds,δ))=some (x::ds,δ):=rfl
noncomputable def qT(g:List dM->dM)(r:Option (List dM×Ev)):Option (dM×Ev):=r.bind fun p=>if p.1.length<=16777216 then some (g p.1,p.2) else none
@[simp] theorem zLC{fs:Q0}:bZ fs δ=qT .tup (fs δ):=rfl
@[simp] theorem zLE{fs:Q0}:bE fs δ=qT .lst (fs δ):=rfl
@[simp] theorem qT_s{g:List dM->dM}:qT g (some (ds,δ))=if ds.length<=16777216 then some (g ds,δ) else none:=rfl
noncomputable def qB:Option (dM×Ev)->Option (Bool×Ev)
 |some (.bl k,δ)=>some (k,δ)
 |_=>none
@[simp] theorem fB_e:fB fa δ=qB (fa δ):=by
 unfold fB qB
 cases fa δ with
 |none=>rfl
 |some p=>
  obtain⟨d,e⟩:=p
  cases d<;>rfl
@[simp] theorem qB_s:qB (some (.bl b,δ))=some (b,δ):=rfl
variable{tb tb':VB}{g g':VS}
noncomputable def qAnd(r:Option (Bool×Ev))(y:VB):Option (Bool×Ev):=r.bind fun p=>if p.1=true then y p.2 else some (false,p.2)
noncomputable def qOr(r:Option (Bool×Ev))(y:VB):Option (Bool×Ev):=r.bind fun p=>if p.1=true then some (true,p.2) else y p.2
noncomputable def qNot(r:Option (Bool×Ev)):Option (Bool×Ev):=r.map fun p=>(!p.1,p.2)
@[simp] theorem zLN:D6 tb tb' δ=qAnd (tb δ) tb':=rfl
@[simp] theorem zN7:Q5 tb tb' δ=qOr (tb δ) tb':=rfl
@[simp] theorem zLM:YJ tb δ=qNot (tb δ):=rfl
@[simp] theorem zLL:XY δ=some (true,δ):=rfl
@[simp] theorem zKA:qAnd (some (true,δ)) tb=tb δ:=rfl
@[simp] theorem zKB:qAnd (some (false,δ)) tb=some (false,δ):=rfl
@[simp] theorem zM6:qOr (some (true,δ)) tb=some (true,δ):=rfl
@[simp] theorem zM7:qOr (some (false,δ)) tb=tb δ:=rfl
@[simp] theorem zK4:qNot (some (b,δ))=some (!b,δ):=rfl
noncomputable def qA(r:Option (dM×Ev))(y:VF):Option (dM×Ev):=r.bind fun p=>match p.1 with
 | .bl true=>y p.2
 | .bl false=>some (.bl false,p.2)
 |_=>none
@[simp] theorem zLF:JY fa fb δ=qA (fa δ) fb:=rfl
@[simp] theorem qA_t:qA (some (.bl true,δ)) fb=fb δ:=rfl
@[simp] theorem qA_f:qA (some (.bl false,δ)) fb=some (.bl false,δ):=rfl
noncomputable def qI(r:Option (Bool×Ev))(x y:VF):Option (dM×Ev):=r.bind fun p=>if p.1=true then x p.2 else y p.2
@[simp] theorem zN6:DP tb fa fb δ=qI (tb δ) fa fb:=rfl
@[simp] theorem qI_t:qI (some (true,δ)) fa fb=fa δ:=rfl
@[simp] theorem qI_f:qI (some (false,δ)) fa fb=fb δ:=rfl
noncomputable def qS(r:Option Ou)(g:VS):Option Ou:=r.bind fun o=>match o with
 | .nx δ'=>g δ'
 |o=>some o
@[simp] theorem zJL:a8 δ=some (.nx δ):=rfl
@[simp] theorem XR:cS g g' δ=qS (g δ) g':=rfl
@[simp] theorem OP:qS (some (.nx δ)) g=g δ:=rfl
@[simp] theorem qS_r:qS (some (.rt d δ)) g=some (.rt d δ):=rfl
@[simp] theorem qS_b:qS (some (.bk δ)) g=some (.bk δ):=rfl
@[simp] theorem qS_c:qS (some (.ct δ)) g=some (.ct δ):=rfl
noncomputable def qJ(r:Option (Bool×Ev))(x y:VS):Option Ou:=r.bind fun p=>if p.1=true then x p.2 else y p.2
@[simp] theorem zLO:YN tb g g' δ=qJ (tb δ) g g':=rfl
@[simp] theorem qJ_t:qJ (some (true,δ)) g g'=g δ:=rfl
@[simp] theorem qJ_f:qJ (some (false,δ)) g g'=g' δ:=rfl
noncomputable def BS(r:Option (dM×Ev)):Option Ou:=r.map fun p=> .rt p.1 p.2
noncomputable def zC8(r:Option (dM×Ev)):Option Ou:=r.map fun p=> .nx p.2
@[simp] theorem zJK:cB fa δ=BS (fa δ):=rfl
@[simp] theorem zK0:BS (some (d,δ))=some (.rt d δ):=rfl
@[simp] theorem zIC:RG fa δ=zC8 (fa δ):=rfl
@[simp] theorem zIE:zC8 (some (d,δ))=some (.nx δ):=rfl
noncomputable def qx(f:dM->Sl)(r:Option (dM×Ev)):Option (Sl×Ev):=r.map fun p=>(f p.1,p.2)
@[simp] theorem xV_e:xV fa δ=qx .va (fa δ):=rfl
@[simp] theorem xO_e:xO fa δ=qx .ow (fa δ):=rfl
@[simp] theorem qx_s{f:dM->Sl}:qx f (some (d,δ))=some (f d,δ):=rfl
noncomputable def qSet(i:Nat)(r:Option (Sl×Ev)):Option Ou:=r.bind fun p=>if i<p.2.length then some (.nx (p.2.set i p.1)) else none
@[simp] theorem zJJ{x:VX}:aZ i x δ=qSet i (x δ):=rfl
@[simp] theorem zJX:qSet i (some (s,δ))=if i<δ.length then some (.nx (δ.set i s)) else none:=rfl
noncomputable def qP4(i j k n:Nat)(r:Option (Sl×Ev))(y z u:VX):Option Ou:=r.bind fun p=>(y p.2).bind fun q=>(z q.2).bind fun r=>(u r.2).bind fun s=>if i<s.2.length/\j<s.2.length/\k<s.2.length/\n<s.2.length then some (.nx ((((s.2.set n s.1).set k r.1).set j q.1).set i p.1)) else none
noncomputable def qP4b(i j k n:Nat)(s1:Sl)(r:Option (Sl×Ev))(z u:VX):Option Ou:=r.bind fun q=>(z q.2).bind fun r=>(u r.2).bind fun s=>if i<s.2.length/\j<s.2.length/\k<s.2.length/\n<s.2.length then some (.nx ((((s.2.set n s.1).set k r.1).set j q.1).set i s1)) else none
noncomputable def qP4c(i j k n:Nat)(s1 s2:Sl)(r:Option (Sl×Ev))(u:VX):Option Ou:=r.bind fun r=>(u r.2).bind fun s=>if i<s.2.length/\j<s.2.length/\k<s.2.length/\n<s.2.length then some (.nx ((((s.2.set n s.1).set k r.1).set j s2).set i s1)) else none
noncomputable def qP4d(i j k n:Nat)(s1 s2 s3:Sl)(r:Option (Sl×Ev)):Option Ou:=r.bind fun s=>if i<s.2.length/\j<s.2.length/\k<s.2.length/\n<s.2.length then some (.nx ((((s.2.set n s.1).set k s3).set j s2).set i s1)) else none
@[simp] theorem zIB{x y z u:VX}:KS i j k n x y z u δ=qP4 i j k n (x δ) y z u:=rfl
@[simp] theorem zM5{y z u:VX}:qP4 i j k n (some (s,δ)) y z u=qP4b i j k n s (y δ) z u:=rfl
@[simp] theorem zK3{s':Sl}{z u:VX}:qP4b i j k n s (some (s',δ)) z u=qP4c i j k n s s' (z δ) u:=rfl
@[simp] theorem zK2{s' s'':Sl}{u:VX}:qP4c i j k n s s' (some (s'',δ)) u=qP4d i j k n s s' s'' (u δ):=rfl
@[simp] theorem zK1{s' s'' s3:Sl}:qP4d i j k n s s' s'' (some (s3,δ))=if i<δ.length/\j<δ.length/\k<δ.length/\n<δ.length then some (.nx ((((δ.set n s3).set k s'').set j s').set i s)) else none:=rfl
@[simp] theorem AI:gN i d δ=some (δ.set i (.va d)):=rfl
noncomputable def qg(r:Option Ev)(gs:DN)(ds:List dM):Option Ev:=r.bind fun δ1=>gs ds δ1
@[simp] theorem zJ0:ZK [] δ=some δ:=rfl
@[simp] theorem zHQ{gg:VG}{gs:DN}:cM gg gs (d::ds) δ=qg (gg d δ) gs ds:=rfl
@[simp] theorem qg_s{gs:DN}:qg (some δ) gs ds=gs ds δ:=rfl
@[simp] theorem zN3{gs:DN}:OU n gs (.tup ds) δ=if ds.length=n then gs ds δ else none:=rfl
@[simp] theorem zN4{gs:DN}:OU n gs (.lst ds) δ=if ds.length=n then gs ds δ else none:=rfl
noncomputable def qAsg(r:Option (dM×Ev))(gg:VG):Option Ou:=r.bind fun p=>(gg p.1 p.2).map Ou.nx
@[simp] theorem zJN{gg:VG}:OQ fa gg δ=qAsg (fa δ) gg:=rfl
@[simp] theorem zK9{gg:VG}:qAsg (some (d,δ)) gg=(gg d δ).map Ou.nx:=rfl
noncomputable def qM(i:Nat)(m:List dM->List dM->Option (List dM))(r:Option (List dM))(δ:Ev)(fs:Q0):Option Ou:=r.bind fun _=>(fs δ).bind fun p=>(YF p.2 i).bind fun ds=>(m ds p.1).map fun ds'=> .nx (p.2.set i (.ow (.lst ds')))
noncomputable def qMb(i:Nat)(m:List dM->List dM->Option (List dM))(r:Option (List dM×Ev)):Option Ou:=r.bind fun p=>(YF p.2 i).bind fun ds=>(m ds p.1).map fun ds'=> .nx (p.2.set i (.ow (.lst ds')))
noncomputable def qMc(i:Nat)(m:List dM->List dM->Option (List dM))(es:List dM)(δ:Ev)(r:Option (List dM)):Option Ou:=r.bind fun ds=>(m ds es).map fun ds'=> .nx (δ.set i (.ow (.lst ds')))
noncomputable def qMd(i:Nat)(δ:Ev)(r:Option (List dM)):Option Ou:=r.map fun ds'=> .nx (δ.set i (.ow (.lst ds')))
@[simp] theorem zJM{m:List dM->List dM->Option (List dM)}{fs:Q0}:XZ i m fs δ=qM i m (YF δ i) δ fs:=rfl
@[simp] theorem qM_s{m:List dM->List dM->Option (List dM)}{fs:Q0}:qM i m (some ds) δ fs=qMb i m (fs δ):=rfl
@[simp] theorem zMC{m:List dM->List dM->Option (List dM)}{es:List dM}:qMb i m (some (es,δ))=qMc i m es δ (YF δ i):=rfl
@[simp] theorem zMB{m:List dM->List dM->Option (List dM)}{es:List dM}:qMc i m es δ (some ds)=qMd i δ (m ds es):=rfl
@[simp] theorem zMA:qMd i δ (some ds)=some (.nx (δ.set i (.ow (.lst ds)))):=rfl
noncomputable def qOl:Option Sl->Option (List dM)
 |some (.ow (.lst ds))=>some ds
 |_=>none
@[simp] theorem zKE:YF δ i=qOl δ[i]? :=by unfold YF qOl;split<;>simp_all
@[simp] theorem zM8:qOl (some (.ow (.lst ds)))=some ds:=rfl
@[simp] theorem zKY:SZ ds [d]=if ds.length<16777216 then some (ds++[d]) else none:=rfl
noncomputable def qOd:Option Sl->Option (List aF×List dM)
 |some (.ow (.dct ks ds))=>some (ks,ds)
 |_=>none
@[simp] theorem zKF:YM δ i=qOd δ[i]? :=by unfold YM qOd;split<;>simp_all
@[simp] theorem zM9{ks:List aF}:qOd (some (.ow (.dct ks ds)))=some (ks,ds):=rfl
noncomputable def qL(i:Nat)(r:Option (dM×Ev))(fi:VF):Option Ou:=r.bind fun p=>(YF p.2 i).bind fun _=>(fi p.2).bind fun q=>(YF q.2 i).bind fun ds=>match q.1 with
 | .int k=>(LH ds.length k).map fun j=> .nx (q.2.set i (.ow (.lst (ds.set j p.1))))
 |_=>none
noncomputable def qLb(i:Nat)(x:dM)(r:Option (List dM))(δ:Ev)(fi:VF):Option Ou:=r.bind fun _=>(fi δ).bind fun q=>(YF q.2 i).bind fun ds=>match q.1 with
 | .int k=>(LH ds.length k).map fun j=> .nx (q.2.set i (.ow (.lst (ds.set j x))))
 |_=>none
noncomputable def qLc(i:Nat)(x:dM)(r:Option (dM×Ev)):Option Ou:=r.bind fun q=>(YF q.2 i).bind fun ds=>match q.1 with
 | .int k=>(LH ds.length k).map fun j=> .nx (q.2.set i (.ow (.lst (ds.set j x))))
 |_=>none
noncomputable def qLd(i:Nat)(x:dM)(k:Int)(δ:Ev)(r:Option (List dM)):Option Ou:=r.bind fun ds=>(LH ds.length k).map fun j=> .nx (δ.set i (.ow (.lst (ds.set j x))))
@[simp] theorem zIA{fi fv:VF}:G7 i fi fv δ=qL i (fv δ) fi:=rfl
@[simp] theorem qL_s{fi:VF}:qL i (some (x,δ)) fi=qLb i x (YF δ i) δ fi:=rfl
@[simp] theorem zMF{fi:VF}:qLb i x (some ds) δ fi=qLc i x (fi δ):=rfl
@[simp] theorem zME{k:Int}:qLc i x (some (.int k,δ))=qLd i x k δ (YF δ i):=rfl
@[simp] theorem zMD{k:Int}:qLd i x k δ (some ds)=(LH ds.length k).map fun j=> .nx (δ.set i (.ow (.lst (ds.set j x)))):=rfl
noncomputable def qi(r:Option (dM×Ev)):Option (List dM×Ev):=r.bind fun p=>(ZA p.1).map fun ds=>(ds,p.2)
@[simp] theorem zLA:XB fa δ=qi (fa δ):=rfl
@[simp] theorem qi_t:qi (some (.tup ds,δ))=some (ds,δ):=rfl
@[simp] theorem qi_l:qi (some (.lst ds,δ))=some (ds,δ):=rfl
noncomputable def qr1:Option (dM×Ev)->Option (List dM×Ev)
 |some (.int j,δ)=>if -4611686018427387904<=j/\j<4611686018427387904 then some (V5 0 j.toNat,δ) else none
 |_=>none
@[simp] theorem zN2:GF fa δ=qr1 (fa δ):=by
 unfold GF qr1
 cases fa δ with
 |none=>rfl
 |some p=>
  obtain⟨d,e⟩:=p
  cases d<;>rfl
@[simp] theorem zLV{j:Int}:qr1 (some (.int j,δ))=if -4611686018427387904<=j/\j<4611686018427387904 then some (V5 0 j.toNat,δ) else none:=rfl
noncomputable def qe(r:Option (dM×Ev)):Option (List dM×Ev):=r.bind fun p=>(ZA p.1).map fun ds=>(W9 0 ds,p.2)
@[simp] theorem zIZ:SU fa δ=qe (fa δ):=rfl
@[simp] theorem qe_t:qe (some (.tup ds,δ))=some (W9 0 ds,δ):=rfl
@[simp] theorem qe_l:qe (some (.lst ds,δ))=some (W9 0 ds,δ):=rfl
noncomputable def qz(r:Option (dM×Ev))(g:VF):Option (List dM×Ev):=r.bind fun p=>(g p.2).bind fun q=>(ZA p.1).bind fun ds=>(ZA q.1).map fun es=>(U4 ds es,q.2)
noncomputable def qzb(x:dM)(r:Option (dM×Ev)):Option (List dM×Ev):=r.bind fun q=>(ZA x).bind fun ds=>(ZA q.1).map fun es=>(U4 ds es,q.2)
@[simp] theorem zL9:AN fa fb δ=qz (fa δ) fb:=rfl
@[simp] theorem qz_s:qz (some (x,δ)) fb=qzb x (fb δ):=rfl
@[simp] theorem zLP:qzb x (some (y,δ))=(ZA x).bind fun ds=>(ZA y).map fun es=>(U4 ds es,δ):=rfl
@[simp] theorem zJH:ZA (.tup ds)=some ds:=rfl
@[simp] theorem zJI:ZA (.lst ds)=some ds:=rfl
noncomputable def qF(r:Option (List dM×Ev))(gg:VG)(g:VS):Option Ou:=r.bind fun p=>XM gg g p.1 p.2
@[simp] theorem zDL{fi:VI}{gg:VG}:TM fi gg g δ=qF (fi δ) gg g:=rfl
@[simp] theorem qF_s{gg:VG}:qF (some (ds,δ)) gg g=XM gg g ds δ:=rfl
noncomputable def qK(ix:List Nat)(nl:Nat)(r:Option (List dM×Ev))(gg:VG)(tb:VB)(fe:VF):Option (dM×Ev):=r.bind fun p=>(ZV ix.length nl gg tb fe p.1 [] (bI ix p.2)).map fun q=>(.lst q.1,Z1 ix q.2 p.2)
noncomputable def qKb(ix:List Nat)(δ:Ev)(r:Option (List dM×Ev)):Option (dM×Ev):=r.map fun q=>(.lst q.1,Z1 ix q.2 δ)
@[simp] theorem zJ2{ix:List Nat}{nl:Nat}{fi:VI}{gg:VG}:aD ix nl fi gg tb fa δ=qK ix nl (fi δ) gg tb fa:=rfl
@[simp] theorem qK_s{ix:List Nat}{nl:Nat}{gg:VG}:qK ix nl (some (ds,δ)) gg tb fa=qKb ix δ (ZV ix.length nl gg tb fa ds [] (bI ix δ)):=rfl
@[simp] theorem zMG{ix:List Nat}:qKb ix δ (some (ds,δ1))=some (.lst ds,Z1 ix δ1 δ):=rfl
variable{as:List AV}{fs:OZ}{mF:List Nat}{F:bX}
noncomputable def qa(r:Option (dM×Ev))(fs:OZ):Option (List AV×Ev):=r.bind fun p=>(fs p.2).map fun q=>(.d p.1::q.1,q.2)
noncomputable def qab(x:AV)(r:Option (List AV×Ev)):Option (List AV×Ev):=r.map fun q=>(x::q.1,q.2)
@[simp] theorem zFS:cW δ=some ([],δ):=rfl
@[simp] theorem JK:aE fa fs δ=qa (fa δ) fs:=rfl
@[simp] theorem BV:qa (some (x,δ)) fs=qab (.d x) (fs δ):=rfl
@[simp] theorem BW{a:AV}:qab a (some (as,δ))=some (a::as,δ):=rfl
noncomputable def qao(j:Nat)(r:Option dM)(δ:Ev)(fs:OZ):Option (List AV×Ev):=r.bind fun _=>qab (.o j) (fs δ)
@[simp] theorem aO_e:aO j fs δ=qao j (slot δ j) δ fs:=rfl
@[simp] theorem zGS:qao j (some d) δ fs=qab (.o j) (fs δ):=rfl
noncomputable def qsl:Option Sl->Option dM
 |some (.va d)=>some d
 |some (.ow d)=>some d
 |_=>none
@[simp] theorem zJG:slot δ j=qsl δ[j]? :=by unfold slot qsl;split<;>simp_all
@[simp] theorem zLT:qsl (some (.va d))=some d:=rfl
@[simp] theorem zLU:qsl (some (.ow d))=some d:=rfl
@[simp] theorem zJA:X3 δ []=some []:=rfl
@[simp] theorem zJB:X3 δ (.d d::as)=(X3 δ as).map fun ds=>d::ds:=rfl
@[simp] theorem zJ9:X3 δ (.o j::as)=(slot δ j).bind fun d=>(X3 δ as).map fun ds=>d::ds:=rfl
noncomputable def zC9(n:Nat)(mF:List Nat)(F:bX)(r:Option (List AV×Ev)):Option (dM×Ev):=r.bind fun p=>(X3 p.2 p.1).bind fun ds=>if ds.length=n/\WR mF p.1 p.2=true then(F ds).bind fun q=>if XJ mF p.1 q.1 q.2=true then some (q.1,XE p.1 mF q.2 p.2) else none else none
noncomputable def qCb(n:Nat)(mF:List Nat)(F:bX)(as:List AV)(δ:Ev)(r:Option (List dM)):Option (dM×Ev):=r.bind fun ds=>if ds.length=n/\WR mF as δ=true then(F ds).bind fun q=>if XJ mF as q.1 q.2=true then some (q.1,XE as mF q.2 δ) else none else none
noncomputable def qCc(mF:List Nat)(as:List AV)(δ:Ev)(r:Option (dM×List dM)):Option (dM×Ev):=r.bind fun q=>if XJ mF as q.1 q.2=true then some (q.1,XE as mF q.2 δ) else none
@[simp] theorem QQ:c9 n mF F fs δ=zC9 n mF F (fs δ):=rfl
@[simp] theorem zAI:zC9 n mF F (some (as,δ))=qCb n mF F as δ (X3 δ as):=rfl
@[simp] theorem zGU:qCb n mF F as δ (some ds)=if ds.length=n/\WR mF as δ=true then qCc mF as δ (F ds) else none:=rfl
@[simp] theorem zGT{os:List dM}:qCc mF as δ (some (d,os))=if XJ mF as d os=true then some (d,XE as mF os δ) else none:=rfl
@[simp] theorem zIY:GO δ as i=(match as[i]? with
 |some (.o j)=>match δ[j]? with
  |some (.ow _)=>true
  |_=>false
 |_=>false):=rfl
@[simp] theorem zL2:WC []=[]:=rfl
@[simp] theorem zL3:WC (.d d::as)=WC as:=rfl
@[simp] theorem zL1:WC (.o j::as)=j::WC as:=rfl
@[simp] theorem zI6:WR mF as δ=(mF.all (GO δ as) && decide (WC as).Nodup):=rfl
@[simp] theorem zJD:X1 mF [] i=true:=rfl
@[simp] theorem zJE:X1 mF (.d d::as) i=X1 mF as (i+1):=rfl
@[simp] theorem zJC:X1 mF (.o j::as) i=(decide (i∈mF) && X1 mF as (i+1)):=rfl
@[simp] theorem zI7{os:List dM}:XJ mF as d os=((X1 mF as 0 || d.hard) && (X1 mF as 0 || os.all VY) && decide (mF.length=os.length)):=rfl
@[simp] theorem zKC{os:List dM}:XE as [] os δ=δ:=by cases os<;>rfl
@[simp] theorem zKD{os:List dM}{is:List Nat}:XE as (i::is) (d::os) δ=(match as[i]? with
  |some (.o j)=>XE as is os (δ.set j (.ow d))
  |_=>XE as is os δ):=rfl
@[simp] theorem zMO:pNo δ=some (none,δ):=rfl
noncomputable def qpS:Option (dM×Ev)->Option (Option Int×Ev)
 |some (.int i,δ)=>some (some i,δ)
 |_=>none
@[simp] theorem zMN:pSo fa δ=qpS (fa δ):=by
 unfold pSo qpS
 cases fa δ with
 |none=>rfl
 |some p=>
  obtain⟨d,e⟩:=p
  cases d<;>rfl
@[simp] theorem zLW{i:Int}:qpS (some (.int i,δ))=some (some i,δ):=rfl
noncomputable def qSl(r:Option (dM×Ev))(fl fh:VP):Option (dM×Ev):=r.bind fun p=>(fl p.2).bind fun l=>(fh l.2).bind fun u=>(oSl p.1 l.1 u.1).map fun c=>(c,u.2)
noncomputable def qSlb(x:dM)(r:Option (Option Int×Ev))(fh:VP):Option (dM×Ev):=r.bind fun l=>(fh l.2).bind fun u=>(oSl x l.1 u.1).map fun c=>(c,u.2)
noncomputable def qSlc(x:dM)(l:Option Int)(r:Option (Option Int×Ev)):Option (dM×Ev):=r.bind fun u=>q0 (oSl x l u.1) u.2
@[simp] theorem zN5{fl fh:VP}:fSl fa fl fh δ=qSl (fa δ) fl fh:=rfl
@[simp] theorem zM4{fl fh:VP}:qSl (some (x,δ)) fl fh=qSlb x (fl δ) fh:=rfl
@[simp] theorem zJW{l:Option Int}{fh:VP}:qSlb x (some (l,δ)) fh=qSlc x l (fh δ):=rfl
@[simp] theorem zJV{l u:Option Int}:qSlc x l (some (u,δ))=q0 (oSl x l u) δ:=rfl
@[simp] theorem zMS{l u:Option Int}:oSl (.tup ds) l u=some (.tup (PB ds l u)):=rfl
@[simp] theorem zMT{l u:Option Int}:oSl (.lst ds) l u=some (.lst (PB ds l u)):=rfl
noncomputable def qSt(i j:Nat):Option (dM×Ev)->Option Ou
 |some (.tup (d::ds),δ)=>some (.nx ((δ.set i (.va d)).set j (.va (.lst ds))))
 |_=>none
@[simp] theorem zI9:N5 i j fa δ=qSt i j (fa δ):=by
 unfold N5 qSt
 cases fa δ with
 |none=>rfl
 |some p=>
  obtain⟨d,e⟩:=p
  cases d with
  |tup ds=>cases ds<;>rfl
  |_=>rfl
@[simp] theorem zM3:qSt i j (some (.tup (d::ds),δ))=some (.nx ((δ.set i (.va d)).set j (.va (.lst ds)))):=rfl
noncomputable def qDg(i:Nat)(r:Option (List aF×List dM))(δ:Ev)(fk fx:VF):Option (dM×Ev):=r.bind fun _=>(fk δ).bind fun p=>(fx p.2).bind fun q=>(WD p.1).bind fun k=>(YM q.2 i).map fun z=>((bJ z.1 z.2 k).getD q.1,q.2)
noncomputable def qDgb(i:Nat)(r:Option (dM×Ev))(fx:VF):Option (dM×Ev):=r.bind fun p=>(fx p.2).bind fun q=>(WD p.1).bind fun k=>(YM q.2 i).map fun z=>((bJ z.1 z.2 k).getD q.1,q.2)
noncomputable def qDgc(i:Nat)(x:dM)(r:Option (dM×Ev)):Option (dM×Ev):=r.bind fun q=>(WD x).bind fun k=>(YM q.2 i).map fun z=>((bJ z.1 z.2 k).getD q.1,q.2)
@[simp] theorem zI2:L6 i fa fb δ=qDg i (YM δ i) δ fa fb:=rfl
@[simp] theorem zMI{z:List aF×List dM}:qDg i (some z) δ fa fb=qDgb i (fa δ) fb:=rfl
@[simp] theorem zK8:qDgb i (some (x,δ)) fb=qDgc i x (fb δ):=rfl
@[simp] theorem zK7:qDgc i x (some (y,δ))=(WD x).bind fun k=>(YM δ i).map fun z=>((bJ z.1 z.2 k).getD y,δ):=rfl
noncomputable def qDp(i:Nat)(r:Option (dM×Ev))(fk:VF):Option Ou:=r.bind fun p=>(YM p.2 i).bind fun _=>(fk p.2).bind fun q=>(WD q.1).bind fun k=>(YM q.2 i).bind fun z=>if z.1.length<16777216/\z.1.Nodup then some (.nx (q.2.set i (.ow (let r:=Y9 z.1 z.2 k p.1;.dct r.1 r.2)))) else none
noncomputable def qDpb(i:Nat)(x:dM)(r:Option (List aF×List dM))(δ:Ev)(fk:VF):Option Ou:=r.bind fun _=>(fk δ).bind fun q=>(WD q.1).bind fun k=>(YM q.2 i).bind fun z=>if z.1.length<16777216/\z.1.Nodup then some (.nx (q.2.set i (.ow (let r:=Y9 z.1 z.2 k x;.dct r.1 r.2)))) else none
noncomputable def qDpc(i:Nat)(x:dM)(r:Option (dM×Ev)):Option Ou:=r.bind fun q=>(WD q.1).bind fun k=>(YM q.2 i).bind fun z=>if z.1.length<16777216/\z.1.Nodup then some (.nx (q.2.set i (.ow (.dct (Y9 z.1 z.2 k x).1 (Y9 z.1 z.2 k x).2)))) else none
@[simp] theorem zID{fk fv:VF}:G6 i fk fv δ=qDp i (fv δ) fk:=rfl
@[simp] theorem zMH{fk:VF}:qDp i (some (x,δ)) fk=qDpb i x (YM δ i) δ fk:=rfl
@[simp] theorem zK6{z:List aF×List dM}{fk:VF}:qDpb i x (some z) δ fk=qDpc i x (fk δ):=rfl
@[simp] theorem zK5:qDpc i x (some (y,δ))=(WD y).bind fun k=>(YM δ i).bind fun z=>if z.1.length<16777216/\z.1.Nodup then some (.nx (δ.set i (.ow (.dct (Y9 z.1 z.2 k x).1 (Y9 z.1 z.2 k x).2)))) else none:=rfl
@[simp] theorem zL0{i:Int}:WD (.int i)=some (.inl i):=rfl
@[simp] theorem zKZ{s:Str}:WD (.str s)=some (.inr s):=rfl
noncomputable def FH(ml:List Nat):Option Ou->Option (dM×List dM)
 |some (.rt d δ)=>(V3 ml δ).map fun os=>(d,os)
 |some (.nx δ)=>(V3 ml δ).map fun os=>(.non,os)
 |_=>none
theorem bV{ml:List Nat}:aP n ml g ds=FH ml (g (bW ml n ds)):=by
 unfold aP FH
 cases g (bW ml n ds) with
 |none=>rfl
 |some o=>cases o<;>rfl
@[simp] theorem zJY{ml:List Nat}:FH ml (some (.rt d δ))=(V3 ml δ).map fun os=>(d,os):=rfl
@[simp] theorem zJZ{ml:List Nat}:FH ml (some (.nx δ))=(V3 ml δ).map fun os=>(.non,os):=rfl
noncomputable def qow:Option Sl->Option dM
 |some (.ow d)=>some d
 |_=>none
@[simp] theorem zKG:V3 [] δ=some []:=rfl
@[simp] theorem zKH{ml:List Nat}:V3 (i::ml) δ=(qow δ[i]?).bind fun d=>(V3 ml δ).map fun os=>d::os:=by
 unfold V3
 rw[Pl]
 cases h:(δ[i]? :Option Sl) with
 | none => rfl
 | some s => cases s with
  |no=>rfl
  |va d=>rfl
  |ow d=>
   show(Option.bind _ fun os=>some (d::os))=Option.map (fun os=>d::os) _
   cases (List.mapM _ ml:Option (List dM))<;>rfl
@[simp] theorem zLX:qow (some (.ow d))=some d:=rfl
end
section
variable{i j:Int}{x y:Str}{ds es:List dM}
@[simp] theorem oI_e{C:Int->Int->Bool}{g:Int->Int->dM}:oI C g (.int i) (.int j)=if C i j=true then some (g i j) else none:=rfl
@[simp] theorem zIO:ZU (.int i) (.int j)=some (.int (i+j)):=rfl
@[simp] theorem zIM:ZU (.tup ds) (.tup es)=if ds.length+es.length<=16777216 then some (.tup (ds++es)) else none:=rfl
@[simp] theorem zIN:ZU (.lst ds) (.lst es)=if ds.length+es.length<=16777216 then some (.lst (ds++es)) else none:=rfl
@[simp] theorem zMU{g:Int->Int->Int}:o2I g (.int i) (.int j)=some (.int (g i j)):=rfl
@[simp] theorem zKK:Z6 (.tup ds)=some (.int ds.length):=rfl
@[simp] theorem zKL:Z6 (.lst ds)=some (.int ds.length):=rfl
@[simp] theorem zIT:GQ (.tup ds)=some (.lst ds):=rfl
@[simp] theorem zIU:GQ (.lst ds)=some (.lst ds):=rfl
@[simp] theorem zHA:R6 (.tup ds)=some (.tup ds):=rfl
@[simp] theorem zHB:R6 (.lst ds)=some (.tup ds):=rfl
@[simp] theorem zKM:b5 (.tup ds) (.int i)=RK ds i:=rfl
@[simp] theorem zKN:b5 (.lst ds) (.int i)=RK ds i:=rfl
@[simp] theorem zIW{ks:List aF}:b5 (.dct ks ds) (.int i)=bJ ks ds (.inl i):=rfl
@[simp] theorem zIV{ks:List aF}:b5 (.dct ks ds) (.str x)=bJ ks ds (.inr x):=rfl
@[simp] theorem zMQ:NX (.int i)=true:=rfl
@[simp] theorem zMP:NX .non=true:=rfl
@[simp] theorem zMR{b:Bool}:NX (.bl b)=true:=rfl
@[simp] theorem zL8:SW "int" "bool"=some false:=by decide+kernel
@[simp] theorem zL7:SW "int" "int"=some true:=by decide+kernel
@[simp] theorem zL6:SW "tuple" "tuple"=some true:=by decide+kernel
@[simp] theorem zL5:SW "str" "str"=some true:=by decide+kernel
@[simp] theorem zL4:SW "list" "list"=some true:=by decide+kernel
@[simp] theorem zKR{n:String}:V1 (.int i) (.ty n)=(SW "int" n).map dM.bl:=rfl
@[simp] theorem zKO{n:String}:V1 (.tup ds) (.ty n)=(SW "tuple" n).map dM.bl:=rfl
@[simp] theorem zKQ{n:String}:V1 (.lst ds) (.ty n)=(SW "list" n).map dM.bl:=rfl
@[simp] theorem zKP{n:String}:V1 (.str x) (.ty n)=(SW "str" n).map dM.bl:=rfl
@[simp] theorem zKU:KH .non .non=some (.bl true):=rfl
@[simp] theorem zKV:KH (.int i) .non=some (.bl false):=rfl
@[simp] theorem zKT:KH (.str x) .non=some (.bl false):=rfl
@[simp] theorem zKS:KH (.tup ds) .non=some (.bl false):=rfl
@[simp] theorem zIR:TC .non .non=some (.bl false):=rfl
@[simp] theorem zIS:TC (.int i) .non=some (.bl true):=rfl
@[simp] theorem zIQ:TC (.str x) .non=some (.bl true):=rfl
@[simp] theorem zIP:TC (.tup ds) .non=some (.bl true):=rfl
end
section
variable{d x:dM}{δ δ1:Ev}{r acc:List dM}{gg:VG}{tb:VB}{fe:VF}{n nl:Nat}{g:VS}
noncomputable def qk1(n nl:Nat)(gg:VG)(tb:VB)(fe:VF)(r acc:List dM)(o:Option Ev):Option (List dM×Ev):=o.bind fun δ1=>(tb δ1).bind fun p=>if p.1=true then(fe p.2).bind fun q=>if acc.length<16777216 then ZV n nl gg tb fe r (acc++[q.1]) (q.2.take n) else none else ZV n nl gg tb fe r acc (p.2.take n)
noncomputable def qk2(n nl:Nat)(gg:VG)(tb:VB)(fe:VF)(r acc:List dM)(o:Option (Bool×Ev)):Option (List dM×Ev):=o.bind fun p=>if p.1=true then(fe p.2).bind fun q=>if acc.length<16777216 then ZV n nl gg tb fe r (acc++[q.1]) (q.2.take n) else none else ZV n nl gg tb fe r acc (p.2.take n)
noncomputable def qk3(n nl:Nat)(gg:VG)(tb:VB)(fe:VF)(r acc:List dM)(o:Option (dM×Ev)):Option (List dM×Ev):=o.bind fun q=>if acc.length<16777216 then ZV n nl gg tb fe r (acc++[q.1]) (q.2.take n) else none
@[simp] theorem zJ3:ZV n nl gg tb fe [] acc δ=some (acc,δ):=rfl
@[simp] theorem F9:ZV n nl gg tb fe (d::r) acc δ=qk1 n nl gg tb fe r acc (gg d (δ++OV nl)):=rfl
@[simp] theorem zC7:qk1 n nl gg tb fe r acc (some δ)=qk2 n nl gg tb fe r acc (tb δ):=rfl
@[simp] theorem zGQ:qk2 n nl gg tb fe r acc (some (true,δ))=qk3 n nl gg tb fe r acc (fe δ):=rfl
@[simp] theorem zGR:qk2 n nl gg tb fe r acc (some (false,δ))=ZV n nl gg tb fe r acc (δ.take n):=rfl
@[simp] theorem zGP:qk3 n nl gg tb fe r acc (some (x,δ))=if acc.length<16777216 then ZV n nl gg tb fe r (acc++[x]) (δ.take n) else none:=rfl
noncomputable def qf1(gg:VG)(g:VS)(r:List dM)(o:Option Ev):Option Ou:=o.bind fun δ1=>(g δ1).bind (again (XM gg g r))
noncomputable def qf2(gg:VG)(g:VS)(r:List dM)(o:Option Ou):Option Ou:=o.bind (again (XM gg g r))
@[simp] theorem zLB:XM gg g [] δ=some (.nx δ):=rfl
@[simp] theorem L8:XM gg g (d::r) δ=qf1 gg g r (gg d δ):=rfl
@[simp] theorem BX:qf1 gg g r (some δ)=qf2 gg g r (g δ):=rfl
@[simp] theorem G1:qf2 gg g r (some (.nx δ))=XM gg g r δ:=rfl
@[simp] theorem zLZ:qf2 gg g r (some (.ct δ))=XM gg g r δ:=rfl
@[simp] theorem zM0:qf2 gg g r (some (.bk δ))=some (.nx δ):=rfl
@[simp] theorem zLY:qf2 gg g r (some (.rt d δ))=some (.rt d δ):=rfl
@[simp] theorem zJ7{ss:Ev}:Z1 [] ss δ=δ:=by cases ss<;>rfl
@[simp] theorem zJ6{i:Nat}{is:List Nat}{ss:Ev}:Z1 (i::is) (.ow d::ss) δ=Z1 is ss (δ.set i (.ow d)):=rfl
@[simp] theorem zJ5{i:Nat}{is:List Nat}{ss:Ev}:Z1 (i::is) (.va d::ss) δ=Z1 is ss δ:=rfl
@[simp] theorem zJ4{i:Nat}{is:List Nat}{ss:Ev}:Z1 (i::is) (.no::ss) δ=Z1 is ss δ:=rfl
end
@[simp] theorem zCD:OV 1=[.no]:=rfl
@[simp] theorem zMW:OV 2=[.no,.no]:=rfl
@[simp] theorem zMV:OV 3=[.no,.no,.no]:=rfl
@[simp] theorem zJS{i:Int}:V5 i 0=[]:=rfl
@[simp] theorem zJR:V5 0 1=[.int 0]:=rfl
@[simp] theorem zJQ:V5 0 2=[.int 0,.int 1]:=rfl
@[simp] theorem zJP:V5 0 3=[.int 0,.int 1,.int 2]:=rfl
@[simp] theorem zJO:V5 0 4=[.int 0,.int 1,.int 2,.int 3]:=rfl
theorem RL{α:Type}{xs:List α}{i:Int}(h0:0<=i)(h1:i<xs.length):RK xs i=xs[i.toNat]? :=by
 unfold RK LH
 rw[if_pos h0,if_pos h1]
 rfl
theorem HK{α:Type}{xs:List α}{i:Int}(h0:0<=i)(h1:i<xs.length): ∃x∈xs,RK xs i=some x:=by
 rw[RL h0 h1]
 have h:i.toNat<xs.length:=by omega
 exact⟨xs[i.toNat],List.getElem_mem _,Gi h⟩
section
variable{F:bX}{fa fb fc:VF}{δ:Ev}{x y z d o:dM}{j:Nat}
noncomputable def FI(δ:Ev):Option (dM×List dM)->Option (dM×Ev)
 |some (d,[])=>some (d,δ)
 |_=>none
@[simp] theorem zM1:FI δ (some (d,[]))=some (d,δ):=rfl
theorem HN{n:Nat}{ds:List dM}{as:List AV}(h:X3 δ as=some ds)(hn:ds.length=n)(hj:WC as=[])(ha:X1 [] as 0=true):qCb n [] F as δ (some ds)=FI δ (F ds):=by
 have hc:WR [] as δ=true:=by simp[hj]
 rw[zGU,if_pos ⟨hn,hc⟩]
 cases F ds with
 |none=>rfl
 |some q=>
  obtain⟨r,os⟩:=q
  rw[zGT]
  cases os with
  |nil=>simp[ha,FI]
  |cons o os=>simp[FI]
noncomputable def qx1(F:bX)(r:Option (dM×Ev)):Option (dM×Ev):=r.bind fun p=>FI p.2 (F [p.1])
@[simp] theorem zLQ:qx1 F (some (x,δ))=FI δ (F [x]):=rfl
@[simp high] theorem call1:c9 1 [] F (aE fa cW) δ=qx1 F (fa δ):=by
 rw[QQ,JK]
 cases fa δ with
 |none=>rfl
 |some p=>exact HN (as:=[.d p.1]) rfl rfl rfl rfl
noncomputable def qx2(F:bX)(r:Option (dM×Ev))(fb:VF):Option (dM×Ev):=r.bind fun p=>(fb p.2).bind fun q=>FI q.2 (F [p.1,q.1])
noncomputable def qx2b(F:bX)(x:dM)(r:Option (dM×Ev)):Option (dM×Ev):=r.bind fun q=>FI q.2 (F [x,q.1])
@[simp] theorem zGM:qx2 F (some (x,δ)) fb=qx2b F x (fb δ):=rfl
@[simp] theorem zJU:qx2b F x (some (y,δ))=FI δ (F [x,y]):=rfl
@[simp high] theorem call2:c9 2 [] F (aE fa (aE fb cW)) δ=qx2 F (fa δ) fb:=by
 rw[QQ,JK]
 cases fa δ with
 |none=>rfl
 |some p=>
  rw[BV,JK,zGM]
  cases fb p.2 with
  |none=>rfl
  |some q=>exact HN (as:=[.d p.1,.d q.1]) rfl rfl rfl rfl
noncomputable def qx3(F:bX)(r:Option (dM×Ev))(fb fc:VF):Option (dM×Ev):=r.bind fun p=>(fb p.2).bind fun q=>(fc q.2).bind fun s=>FI s.2 (F [p.1,q.1,s.1])
noncomputable def qx3b(F:bX)(x:dM)(r:Option (dM×Ev))(fc:VF):Option (dM×Ev):=r.bind fun q=>(fc q.2).bind fun s=>FI s.2 (F [x,q.1,s.1])
noncomputable def qx3c(F:bX)(x y:dM)(r:Option (dM×Ev)):Option (dM×Ev):=r.bind fun s=>FI s.2 (F [x,y,s.1])
@[simp] theorem zGL:qx3 F (some (x,δ)) fb fc=qx3b F x (fb δ) fc:=rfl
@[simp] theorem zDP:qx3b F x (some (y,δ)) fc=qx3c F x y (fc δ):=rfl
@[simp] theorem zJT:qx3c F x y (some (z,δ))=FI δ (F [x,y,z]):=rfl
@[simp high] theorem call3:c9 3 [] F (aE fa (aE fb (aE fc cW))) δ=qx3 F (fa δ) fb fc:=by
 rw[QQ,JK]
 cases fa δ with
 | none => rfl
 |some p=>
  rw[BV,JK,zGL]
  cases fb p.2 with
  |none=>rfl
  |some q=>
   rw[BV,JK,zDP]
   cases fc q.2 with
   |none=>rfl
   |some s=>exact HN (as:=[.d p.1,.d q.1,.d s.1]) rfl rfl rfl rfl
noncomputable def qw3(j:Nat)(δ:Ev):Option (dM×List dM)->Option (dM×Ev)
 |some (r,[o])=>some (r,δ.set j (.ow o))
 |_=>none
noncomputable def qw2(F:bX)(j:Nat)(x y:dM)(δ:Ev):Option Sl->Option (dM×Ev)
 |some (.ow d)=>qw3 j δ (F [x,d,y])
 |_=>none
noncomputable def qwb(F:bX)(j:Nat)(x:dM)(r:Option (dM×Ev)):Option (dM×Ev):=r.bind fun q=>qw2 F j x q.1 q.2 q.2[j]?
noncomputable def qwa(F:bX)(j:Nat)(x:dM)(δ:Ev)(fb:VF)(s:Option dM):Option (dM×Ev):=s.bind fun _=>qwb F j x (fb δ)
noncomputable def qw(F:bX)(j:Nat)(r:Option (dM×Ev))(fb:VF):Option (dM×Ev):=r.bind fun p=>qwa F j p.1 p.2 fb (slot p.2 j)
@[simp] theorem zLR:qw3 j δ (some (x,[o]))=some (x,δ.set j (.ow o)):=rfl
@[simp] theorem zLS:qw2 F j x y δ (some (.ow d))=qw3 j δ (F [x,d,y]):=rfl
@[simp] theorem zGN:qwb F j x (some (y,δ))=qw2 F j x y δ δ[j]? :=rfl
@[simp] theorem zGO:qwa F j x δ fb (some d)=qwb F j x (fb δ):=rfl
@[simp] theorem qw_s:qw F j (some (x,δ)) fb=qwa F j x δ fb (slot δ j):=rfl
@[simp high] theorem callO:c9 3 [1] F (aE fa (aO j (aE fb cW))) δ=qw F j (fa δ) fb:=by
 rw[QQ,JK]
 cases fa δ with
 | none => rfl
 |some p=>
  obtain⟨x,δ1⟩:=p
  rw[BV,aO_e,qw_s]
  cases h:slot δ1 j with
  | none => rfl
  |some d0=>
   rw[zGS,JK,zGO]
   cases fb δ1 with
   | none => rfl
   |some q=>
    obtain⟨y,δ2⟩:=q
    rw[zGN,BV,zFS,BW,BW,BW,zAI]
    cases h2:δ2[j]? with
    | none => simp [h2,qsl,qCb,qw2]
    |some s=>
     cases s with
     | no => simp [h2,qsl,qCb,qw2]
     | va d => simp [h2,qw2]
     |ow d=>
      simp[h2]
      cases F [x,d,y] with
      | none => rfl
      |some r=>
       obtain⟨v,os⟩:=r
       cases os with
       |nil=>simp[qw3]
       |cons o os=>
        cases os with
        |nil=>simp
        |cons o2 os=>simp[qw3]
end
def Z2:dM:= .int 999
def F7:dM:= .tup [.str "plus",.str "minus",.str "times",.str "least",.str "most",.str "less",.str "over"]
def VQ:dM:= .int 64
def VO:dM:= .int 40
def ZY:dM:= .int 63
def SN:dM:= .tup [.str "row",.str "row"]
def UV:dM:= .dct [.inr "number",.inr "pick",.inr "load",.inr "take",.inr "store",.inr "put"] [.tup [.str "word"],.tup [.str "row",.str "row",.str "row"],.tup [.str "place"],.tup [.str "place",.str "row",.str "row"],.tup [.str "place",.str "row"],.tup [.str "place",.str "row",.str "row"]]
def Y0:dM:= .tup [.str "load",.str "take"]
def aX:dM:= .tup [.str "store",.str "put"]
def UU:dM:= .int 2
def SO:dM:= .int 4
def WP:dM:= .int 64
def WQ:dM:= .int 8
def YZ:dM:= .int 8
def XT:dM:= .int 9
noncomputable abbrev LB:List Str:=["NoCells","NoLanes","NoLoop","TooLong"]
noncomputable abbrev V9:List Str:=["NoBlock","NoCells","NoRow","NoLanes","NoPlan","NoProgram","NoTree","NoLoop","NoText","NoName","TooMany","TooLong","NotValid","Nothing"]
def UC:VS:=
   (cS (YN (Q5 (fB (f2 V1 (fV 0) (fC (.ty "bool")))) (YJ (fB (f2 V1 (fV 0) (fC (.ty "int"))))))
   (cB (fC (.bl false)))
   a8)
   (cB (f3 oLe oLe (fV 1) (fV 0) (fV 2))))
def cP:bX:=aP 3 [] UC
def PP:VS:=
   (cS (YN (fB (f2 (X5 false) (fV 0) (fC F7)))
   (cB (fC SN))
   a8)
   (cB (f2 zCC (fC UV) (fV 0))))
def bM:bX:=aP 1 [] PP
def WV:VS:=
   (cB (f2 (X5 true) (f2 b5 (fV 0) (fC (.int 0))) (fC aX)))
def ZX:bX:=aP 1 [] WV
def UI:VS:=
   (cB (DP (Q5 (fB (f2 (X5 false) (f2 b5 (fV 0) (fC (.int 0))) (fC Y0))) (fB (f2 (X5 false) (f2 b5 (fV 0) (fC (.int 0))) (fC aX)))) (f2 b5 (fV 0) (fC (.int 1))) (fC .non)))
def aG:bX:=aP 1 [] UI
def PN:VS:=
   (cS (N5 1 2 (fV 0))
   (cB (aD [] 2 (AN (c9 1 [] bM (aE (fV 1) cW)) (fV 2)) (OU 2 (cM (gN 0) (cM (gN 1) ZK))) (fB (f2 WK (fV 0) (fC (.str "row")))) (fV 1))))
def WN:bX:=aP 3 [] PN
def SR:VS:=
   (cB (f2 ZU (fSl (fV 0) pNo (pSo (f2 TD (f1 Z6 (fV 0)) (f1 Z6 (fV 1))))) (f1 R6 (fV 1))))
def YC:bX:=aP 2 [] SR
def UG:VS:=
   (cB (JY (c9 3 [] cP (aE (fV 0) (aE (fC (.int 0)) (aE (f2 TD (f1 Z6 (fV 1)) (fC (.int 1))) cW)))) (f2 b5 (fV 1) (fV 0))))
def YV:bX:=aP 2 [] UG
def PH:VS:=
   (cS (YN (fB (f2 WK (fV 0) (fC (.str "word"))))
   (cB (c9 3 [] cP (aE (fV 1) (aE (fC (.int 0)) (aE (fC Z2) cW)))))
   a8)
   (cS (YN (fB (f2 WK (fV 0) (fC (.str "place"))))
   (cB (c9 3 [] cP (aE (fV 1) (aE (fC (.int 0)) (aE (fC ZY) cW)))))
   a8)
   (cB (c9 2 [] YV (aE (fV 1) (aE (fV 2) cW))))))
def XH:bX:=aP 3 [] PH
def PL:VS:=
   (cS (YN (Q5 (YJ (fB (f2 V1 (fV 0) (fC (.ty "tuple"))))) (fB (f2 WK (f1 Z6 (fV 0)) (fC (.int 0)))))
   (cB (fC (.bl false)))
   a8)
   (cS (N5 2 3 (fV 0))
   (cS (aZ 4 (xV (DP (fB (f2 V1 (fV 2) (fC (.ty "str")))) (c9 1 [] bM (aE (fV 2) cW)) (fC .non))))
   (cS (YN (Q5 (fB (f2 KH (fV 4) (fC .non))) (fB (f2 KJ (f1 Z6 (fV 4)) (f1 Z6 (fV 3)))))
   (cB (fC (.bl false)))
   a8)
   (cB (f1 ID (aD [1] 2 (AN (fV 4) (fV 3)) (OU 2 (cM (gN 1) (cM (gN 2) ZK))) XY (c9 3 [] XH (aE (fV 1) (aE (fV 2) (aE (fV 0) cW)))))))))))
def X0:bX:=aP 5 [] PL
def J0:VS:=
   (cB (f2 (X5 false) (f2 b5 (fV 0) (fC (.int 0))) (fC aX)))
def VM:bX:=aP 1 [] J0
def PJ:VS:=
   (cB (c9 3 [] cP (aE (fV 0) (aE (fC UU) (aE (fC SO) cW)))))
def ZM:bX:=aP 1 [] PJ
def UB:VS:=
   (cS (YN (Q5 (YJ (fB (f2 V1 (fV 0) (fC (.ty "list"))))) (YJ (fB (f3 oLe oLe (fV 1) (f1 Z6 (fV 0)) (fC WP)))))
   (cB (fC (.bl false)))
   a8)
   (cB (f1 ID (aD [] 1 (XB (fV 0)) (gN 0) XY (c9 3 [] cP (aE (fV 0) (aE (fC (.int 0)) (aE (fC Z2) cW))))))))
def aQ:bX:=aP 2 [] UB
def UH:VS:=
   (cS (OQ (fV 0) (OU 2 (cM (gN 2) (cM (gN 3) ZK))))
   (cB (f2 ZU (fV 2) (f2 UO (fV 3) (fV 1)))))
def a6:bX:=aP 4 [] UH
def RO:VS:=
   (cS (aZ 2 (xV (c9 1 [] aG (aE (fV 0) cW))))
   (cB (DP (fB (f2 KH (fV 2) (fC .non))) (fV 0) (f2 ZU (bZ (dN (f2 b5 (fV 0) (fC (.int 0))) (dN (c9 2 [] a6 (aE (fV 2) (aE (fV 1) cW))) cX))) (fSl (fV 0) (pSo (fC (.int 2))) pNo)))))
def ZC:bX:=aP 3 [] RO
def VU:VS:=
   (cS (YN (Q5 (YJ (fB (f2 V1 (fV 0) (fC (.ty "tuple"))))) (fB (f2 KJ (f1 Z6 (fV 0)) (fC (.int 2)))))
   (cB (fC (.bl false)))
   a8)
   (cS (YN (Q5 (YJ (fB (c9 3 [] cP (aE (f2 b5 (fV 0) (fC (.int 0))) (aE (fC (.int 0)) (aE (fC ZY) cW)))))) (YJ (fB (c9 3 [] cP (aE (f2 b5 (fV 0) (fC (.int 1))) (aE (f1 IF (fC XT)) (aE (fC XT) cW)))))))
   (cB (fC (.bl false)))
   a8)
   (cB (c9 3 [] cP (aE (c9 2 [] a6 (aE (fV 0) (aE (f2 TD (fV 1) (fC (.int 1))) cW))) (aE (fC (.int 0)) (aE (fC ZY) cW)))))))
def ZD:bX:=aP 2 [] VU
def RP:VS:=
   (cB (JY (f2 WK (f1 Z6 (fV 0)) (fC (.int 3))) (JY (c9 3 [] cP (aE (f2 b5 (fV 0) (fC (.int 1))) (aE (fC (.int 0)) (aE (f2 TD (fV 1) (fC (.int 1))) cW)))) (c9 3 [] cP (aE (f2 b5 (fV 0) (fC (.int 2))) (aE (fC (.int 0)) (aE (fC Z2) cW)))))))
def X9:bX:=aP 2 [] RP
def ZR:VS:=
   (cS (YN (Q5 (YJ (fB (f2 V1 (fV 0) (fC (.ty "tuple"))))) (Q5 (fB (f2 WK (f1 Z6 (fV 0)) (fC (.int 0)))) (YJ (fB (f2 V1 (f2 b5 (fV 0) (fC (.int 0))) (fC (.ty "str")))))))
   (cB (fC (.bl false)))
   a8)
   (cS (YN (fB (f2 WK (f2 b5 (fV 0) (fC (.int 0))) (fC (.str "last"))))
   (cB (c9 2 [] X9 (aE (fV 0) (aE (fV 3) cW))))
   a8)
   (cS (YN (Q5 (fB (f2 (X5 false) (f2 b5 (fV 0) (fC (.int 0))) (fC Y0))) (fB (f2 (X5 false) (f2 b5 (fV 0) (fC (.int 0))) (fC aX))))
   (cB (JY (f2 oGt (f1 Z6 (fV 0)) (fC (.int 1))) (JY (c9 2 [] ZD (aE (f2 b5 (fV 0) (fC (.int 1))) (aE (fV 2) cW))) (c9 2 [] X0 (aE (c9 2 [] ZC (aE (fV 0) (aE (fC (.int 0)) cW))) (aE (fV 1) cW))))))
   a8)
   (cB (c9 2 [] X0 (aE (fV 0) (aE (fV 1) cW)))))))
def bA:bX:=aP 4 [] ZR
def Z7:VS:=
   (cS (YN (YJ (fB (c9 4 [] bA (aE (fV 3) (aO 2 (aE (fV 1) (aE (f1 Z6 (fV 0)) cW)))))))
   (cB (fC (.bl false)))
   a8)
   (XZ 2 SZ (dN (c9 1 [] ZX (aE (fV 3) cW)) cX)))
def YL:VS:=
   (cS (aZ 2 (xO (bE cX)))
   (cS (TM (XB (fV 0)) (gN 3)
   Z7)
   (cB (f1 ID (aD [2] 1 (XB (fV 0)) (gN 1) (fB (f2 WK (f2 b5 (fV 1) (fC (.int 0))) (fC (.str "last")))) (f2 b5 (fO 0) (f2 b5 (fV 1) (fC (.int 1)))))))))
def aV:bX:=aP 4 [] YL
def RQ:VS:=
   (cS (YN (Q5 (YJ (fB (f2 V1 (fV 0) (fC (.ty "tuple"))))) (fB (f2 KJ (f1 Z6 (fV 0)) (fC (.int 3)))))
   (cB (fC (.bl false)))
   a8)
   (cS (OQ (fV 0) (OU 3 (cM (gN 1) (cM (gN 2) (cM (gN 3) ZK)))))
   (cS (YN (Q5 (YJ (fB (c9 3 [] cP (aE (fV 1) (aE (fC (.int 0)) (aE (fC VQ) cW)))))) (YJ (fB (c9 3 [] cP (aE (fV 2) (aE (fC (.int 1)) (aE (fC WQ) cW)))))))
   (cB (fC (.bl false)))
   a8)
   (cS (YN (Q5 (YJ (fB (f2 V1 (fV 3) (fC (.ty "tuple"))))) (YJ (fB (f3 oLe oLe (fC (.int 1)) (f1 Z6 (fV 3)) (fC YZ)))))
   (cB (fC (.bl false)))
   a8)
   (cB (c9 2 [] aV (aE (fV 3) (aE (fV 2) cW))))))))
def cE:bX:=aP 4 [] RQ
def WU:VS:=
   (YN (YJ (fB (c9 1 [] cE (aE (fV 0) cW))))
   (fun _=>none)
   a8)
def cC:bX:=aP 1 [] WU
def W3:VZ:=
   (JD (YJ (fB (c9 1 [] cE (aE (fV 0) cW)))) (fun δ=>some ("NoLoop",δ)) zNo)
def bY:List dM->Option Str:=P4 1 W3
def UT:VZ:=
   (Q3 (YI 1 bY (aE (fV 0) cW))
   (WF (RG (c9 1 [] cC (aE (fV 0) cW)))
   (WF (OQ (fV 0) (OU 3 (cM (gN 2) (cM (gN 3) (cM (gN 4) ZK)))))
   (JD (YJ (fB (c9 2 [] aQ (aE (fV 1) (aE (fV 2) cW))))) (fun δ=>some ("NoCells",δ)) zNo))))
def YX:List dM->Option Str:=P4 9 UT
def LM:VS:=
   (YN (fB (f2 WK (f2 b5 (fV 6) (fC (.int 0))) (fC (.str "last"))))
   (XZ 4 SZ (dN (DP (fB (f2 WK (fV 1) (fC (.int 0)))) (f2 b5 (fV 2) (fV 5)) (f2 b5 (fV 2) (f2 b5 (fV 6) (fC (.int 1))))) cX))
   (cS (XZ 3 SZ (dN (c9 2 [] YC (aE (c9 2 [] ZC (aE (fV 6) (aE (fV 1) cW))) (aE (aD [4] 1 (XB (c9 1 [] WN (aE (fV 6) cW))) (gN 1) XY (f2 b5 (fO 0) (fV 1))) cW))) cX))
   (XZ 4 SZ (dN (f2 TD (f1 Z6 (fO 3)) (fC (.int 1))) cX))))
def PM:VS:=
   (cS (aZ 4 (xO (bE cX)))
   (cS (TM (SU (fV 0)) (OU 2 (cM (gN 5) (cM (gN 6) ZK)))
   LM)
   (cB (fO 4))))
def YU:bX:=aP 7 [3] PM
def LN:VS:=
   (cS (aZ 6 (xV (c9 4 [3] YU (aE (fV 3) (aE (fV 8) (aE (fV 6) (aO 5 cW)))))))
   (XZ 7 SZ (dN (aD [4] 2 (SU (fV 6)) (OU 2 (cM (gN 1) (cM (gN 2) ZK))) XY (DP (fB (f2 (X5 false) (fV 1) (fV 0))) (fC .non) (fV 2))) cX)))
def PQ:VS:=
   (cS (RG (c9 1 [] cC (aE (fV 0) cW)))
   (cS (OQ (fV 0) (OU 3 (cM (gN 1) (cM (gN 2) (cM (gN 3) ZK)))))
   (cS (aZ 4 (xV (aD [] 2 (SU (fV 3)) (OU 2 (cM (gN 0) (cM (gN 1) ZK))) (fB (f2 WK (f2 b5 (fV 1) (fC (.int 0))) (fC (.str "last")))) (fV 0))))
   (cS (aZ 5 (xO (aD [3] 1 (XB (fV 4)) (gN 1) XY (bZ (dN (fC (.str "number")) (dN (f2 b5 (f2 b5 (fV 0) (fV 1)) (fC (.int 2))) cX))))))
   (cS (aZ 6 (xV (aD [4] 1 (GF (f1 Z6 (fV 3))) (gN 1) XY (DP (fB (f2 (X5 false) (fV 1) (fV 0))) (f2 IE (fV 0) (fV 1)) (fC .non)))))
   (cS (aZ 7 (xO (bE cX)))
   (cS (TM (GF (fV 2)) (gN 8)
   LN)
   (cS (YN (fB (f2 oGt (f1 Z6 (fO 5)) (fC VO)))
   (fun _=>none)
   a8)
   (cB (bZ (dN (bZ (dN (fV 1) (dN (f1 R6 (fO 5)) cX))) (dN (fO 7) cX))))))))))))
def YW:bX:=aP 9 [] PQ
def QK:VZ:=
   (Q3 (YI 1 bY (aE (fV 0) cW))
   (WF (RG (c9 1 [] cC (aE (fV 0) cW)))
   (WF (OQ (fV 0) (OU 3 (cM (gN 1) (cM (gN 2) (cM (gN 3) ZK)))))
   (WF (aZ 4 (xV (aD [] 2 (SU (fV 3)) (OU 2 (cM (gN 0) (cM (gN 1) ZK))) (fB (f2 WK (f2 b5 (fV 1) (fC (.int 0))) (fC (.str "last")))) (fV 0))))
   (WF (aZ 5 (xO (aD [3] 1 (XB (fV 4)) (gN 1) XY (bZ (dN (fC (.str "number")) (dN (f2 b5 (f2 b5 (fV 0) (fV 1)) (fC (.int 2))) cX))))))
   (WF (aZ 6 (xV (aD [4] 1 (GF (f1 Z6 (fV 3))) (gN 1) XY (DP (fB (f2 (X5 false) (fV 1) (fV 0))) (f2 IE (fV 0) (fV 1)) (fC .non)))))
   (WF (aZ 7 (xO (bE cX)))
   (WF (TM (GF (fV 2)) (gN 8)
   (cS (aZ 6 (xV (c9 4 [3] YU (aE (fV 3) (aE (fV 8) (aE (fV 6) (aO 5 cW)))))))
   (XZ 7 SZ (dN (aD [4] 2 (SU (fV 6)) (OU 2 (cM (gN 1) (cM (gN 2) ZK))) XY (DP (fB (f2 (X5 false) (fV 1) (fV 0))) (fC .non) (fV 2))) cX))))
   (JD (fB (f2 oGt (f1 Z6 (fO 5)) (fC VO))) (fun δ=>some ("TooLong",δ)) zNo)))))))))
def YY:List dM->Option Str:=P4 9 QK
def WA:VZ:=
   (Q3 (YI 1 bY (aE (fV 0) cW))
   (WF (RG (c9 1 [] cC (aE (fV 0) cW)))
   (Q3 (JD (YJ (fB (c9 1 [] ZM (aE (fV 1) cW)))) (fun δ=>some ("NoLanes",δ)) zNo)
   (WF (YN (YJ (fB (c9 1 [] ZM (aE (fV 1) cW))))
   (fun _=>none)
   a8)
   (YI 1 YY (aE (fV 0) cW))))))
def ZJ:List dM->Option Str:=P4 8 WA
def GC:VS:=
   (cS (RG (c9 1 [] cC (aE (fV 0) cW)))
   (cS (OQ (fV 0) (OU 3 (cM (gN 1) (cM (gN 2) (cM (gN 3) ZK)))))
   (cS (aZ 4 (xV (aD [] 1 (XB (fV 3)) (gN 0) (fB (f2 TC (c9 1 [] aG (aE (fV 0) cW)) (fC .non))) (fV 0))))
   (cS (aZ 5 (xV (UA [4] 2 (GF (fV 2)) (gN 1) XY (XB (fV 0)) (gN 2) XY (bZ (dN (fV 1) (dN (c9 2 [] a6 (aE (f2 b5 (fV 2) (fC (.int 1))) (aE (fV 1) cW))) (dN (c9 1 [] VM (aE (fV 2) cW)) cX)))))))
   (cS (aZ 6 (xV (UA [5] 6 (XB (fV 5)) (OU 3 (cM (gN 1) (cM (gN 2) (cM (gN 3) ZK)))) XY (XB (fV 0)) (OU 3 (cM (gN 4) (cM (gN 5) (cM (gN 6) ZK)))) (D6 (fB (f2 oGt (fV 4) (fV 1))) (D6 (fB (f2 WK (fV 5) (fV 2))) (Q5 (fB (fV 3)) (fB (fV 6))))) (f2 TD (fV 4) (fV 1)))))
   (cB (f1 AY (fV 6))))))))
def SG:bX:=aP 7 [] GC
def HE:VZ:=
   (YI 1 bY (aE (fV 0) cW))
def QM:List dM->Option Str:=P4 7 HE
def WH:VS:=
   (aZ 2 (xV (f2 GP (fV 2) (fC (.int 1000003)))))
def XN:VS:=
   (cS (YN (fB (f2 oLt (fV 1) (f1 Z6 (fV 0))))
   (cB (f2 b5 (fV 0) (fV 1)))
   a8)
   (cS (YN (fB (f2 WK (fV 0) (bE cX)))
   (cB (fC (.int 0)))
   a8)
   (cS (aZ 2 (xV (f2 b5 (fV 0) (f2 KI (fV 1) (f1 Z6 (fV 0))))))
   (cS (TM (GF (f2 oMin (f2 GP (fV 1) (f1 Z6 (fV 0))) (fC (.int 60)))) (gN 3)
   WH)
   (cB (f2 ZU (f2 ZU (f2 UO (f2 b5 (fV 0) (f2 KI (fV 1) (f1 Z6 (fV 0)))) (fC (.int 31))) (fV 1)) (f2 UO (fV 2) (fC (.int 101)))))))))
def bB:bX:=aP 4 [] XN
def VV:VS:=
   (cS (aZ 3 (xV (f2 KI (f2 ZU (f2 ZU (f2 UO (c9 2 [] bB (aE (fV 0) (aE (fV 1) cW))) (fC (.int 1103515245))) (f2 UO (fC (.int 7919)) (fV 1))) (fC (.int 12345))) (fC (.int 2147483647)))))
   (cB (f2 KI (f2 KI (f2 KI (f2 oPow (fV 3) (fC (.int 5))) (fC (.int 2147483647))) (fC (.int 999983))) (fV 2))))
def ZF:bX:=aP 4 [] VV
def UD:VS:=
   (cS (XZ 1 SZ (dN (fC (.int 0)) cX))
   (cB (c9 3 [] ZF (aE (fV 0) (aE (f1 Z6 (fO 1)) (aE (fV 2) cW))))))
def cG:bX:=aP 3 [1] UD
def UF:VS:=
   (cB (f2 b5 (fV 2) (c9 3 [1] cG (aE (fV 0) (aO 1 (aE (f1 Z6 (fV 2)) cW))))))
def b8:bX:=aP 3 [1] UF
def VW:VS:=
   (cS (G6 2 (fV 3) (f2 KI (f2 ZU (L6 2 (fV 3) (c9 3 [1] cG (aE (fV 0) (aO 1 (aE (fV 4) cW))))) (c9 3 [1] b8 (aE (fV 0) (aO 1 (aE (bE (dN (fC (.int 1)) (dN (fC (.int 1)) (dN (fC (.int 1)) (dN (fC (.int 0)) (dN (fC (.int 3)) cX)))))) cW))))) (fV 4)))
   (cB (f2 b5 (fO 2) (fV 3))))
def bH:bX:=aP 5 [1,2] VW
def RS:VS:=
   (cS (aZ 5 (xV (c9 3 [1] cG (aE (fV 0) (aO 1 (aE (fC (.int 13)) cW))))))
   (cS (YN (Q5 (fB (f2 WK (fV 2) (bE cX))) (fB (f2 WK (fV 5) (fC (.int 0)))))
   (cS (YN (fB (f2 WK (c9 3 [1] cG (aE (fV 0) (aO 1 (aE (fC (.int 2)) cW)))) (fC (.int 0))))
   (cB (bZ (dN (fC (.str "number")) (dN (c9 3 [1] b8 (aE (fV 0) (aO 1 (aE (bE (dN (fC (.int 0)) (dN (fC (.int 1)) (dN (fC (.int 2)) (dN (fC (.int 5)) (dN (fC (.int 999)) (dN (c9 3 [1] cG (aE (fV 0) (aO 1 (aE (fC (.int 1000)) cW)))) cX))))))) cW)))) cX))))
   a8)
   (cB (bZ (dN (fC (.str "load")) (dN (c9 5 [1,2] bH (aE (fV 0) (aO 1 (aO 3 (aE (fC (.str "load")) (aE (fV 4) cW)))))) cX)))))
   a8)
   (cS (OQ (aD [0,1,2] 1 (GF (fC (.int 3))) (gN 3) XY (f2 b5 (fV 2) (f2 oMax (fC (.int 0)) (f2 TD (f2 TD (f1 Z6 (fV 2)) (fC (.int 1))) (c9 3 [1] cG (aE (fV 0) (aO 1 (aE (fC (.int 6)) cW)))))))) (OU 3 (cM (gN 6) (cM (gN 7) (cM (gN 8) ZK)))))
   (cS (YN (fB (f2 (X5 false) (fV 5) (bZ (dN (fC (.int 1)) (dN (fC (.int 2)) cX)))))
   (cB (bZ (dN (fC (.str "load")) (dN (c9 5 [1,2] bH (aE (fV 0) (aO 1 (aO 3 (aE (fC (.str "load")) (aE (fV 4) cW)))))) cX))))
   a8)
   (cS (YN (fB (f2 WK (fV 5) (fC (.int 3))))
   (cB (bZ (dN (fC (.str "take")) (dN (c9 5 [1,2] bH (aE (fV 0) (aO 1 (aO 3 (aE (fC (.str "take")) (aE (fV 4) cW)))))) (dN (fV 8) (dN (fV 6) cX))))))
   a8)
   (cS (YN (fB (f2 (X5 false) (fV 5) (bZ (dN (fC (.int 4)) (dN (fC (.int 5)) cX)))))
   (cB (bZ (dN (fC (.str "store")) (dN (c9 5 [1,2] bH (aE (fV 0) (aO 1 (aO 3 (aE (fC (.str "store")) (aE (fV 4) cW)))))) (dN (fV 6) cX)))))
   a8)
   (cS (YN (fB (f2 WK (fV 5) (fC (.int 6))))
   (cB (bZ (dN (fC (.str "put")) (dN (c9 5 [1,2] bH (aE (fV 0) (aO 1 (aO 3 (aE (fC (.str "put")) (aE (fV 4) cW)))))) (dN (fV 6) (dN (fV 8) cX))))))
   a8)
   (cS (YN (fB (f2 WK (fV 5) (fC (.int 7))))
   (cB (bZ (dN (fC (.str "pick")) (dN (fV 8) (dN (fV 6) (dN (fV 7) cX))))))
   a8)
   (cB (bZ (dN (f2 b5 (bE (dN (fC (.str "over")) (dN (fC (.str "plus")) (dN (fC (.str "minus")) (dN (fC (.str "times")) (dN (fC (.str "least")) (dN (fC (.str "most")) (dN (fC (.str "less")) cX)))))))) (c9 3 [1] cG (aE (fV 0) (aO 1 (aE (fC (.int 7)) cW))))) (dN (fV 6) (dN (fV 7) cX)))))))))))))
def YA:bX:=aP 9 [1,3] RS
def Q8:VS:=
   (cS (aZ 1 (xO (bE (dN (f2 (V2 LB V9) (fV 0) (fC (.fn "NoBlock"))) (dN (f2 (V2 LB V9) (fV 0) (fC (.fn "NoCells"))) (dN (f2 (V2 LB V9) (fV 0) (fC (.fn "NoRow"))) (dN (f2 (V2 LB V9) (fV 0) (fC (.fn "NoLanes"))) cX)))))))
   (cS (XZ 1 ON (dN (bE (dN (f2 (V2 LB V9) (fV 0) (fC (.fn "NoPlan"))) (dN (f2 (V2 LB V9) (fV 0) (fC (.fn "NoProgram"))) (dN (f2 (V2 LB V9) (fV 0) (fC (.fn "NoTree"))) (dN (f2 (V2 LB V9) (fV 0) (fC (.fn "NoLoop"))) cX))))) cX))
   (cS (XZ 1 ON (dN (bE (dN (f2 (V2 LB V9) (fV 0) (fC (.fn "NoText"))) (dN (f2 (V2 LB V9) (fV 0) (fC (.fn "NoName"))) (dN (f2 (V2 LB V9) (fV 0) (fC (.fn "TooMany"))) (dN (f2 (V2 LB V9) (fV 0) (fC (.fn "TooLong"))) cX))))) cX))
   (cS (XZ 1 ON (dN (bE (dN (f2 (V2 LB V9) (fV 0) (fC (.fn "NotValid"))) (dN (f2 (V2 LB V9) (fV 0) (fC (.fn "Nothing"))) cX))) cX))
   (cS (YN (Q5 (fB (f2 KJ (f2 MI (fO 1) (fC (.bl true))) (fC (.int 1)))) (YJ (fB (f2 (V2 LB V9) (fV 0) (fC (.ty "ValueError"))))))
   (cB (bZ (dN (fC (.str "refused")) (dN (f1 IF (fC (.int 1))) cX))))
   a8)
   (cB (bZ (dN (fC (.str "refused")) (dN (f2 MJ (fO 1) (fC (.bl true))) cX)))))))))
def ZG:bX:=aP 2 [] Q8
def bD:VS:=
   (YN (fB (f2 WK (f2 b5 (fV 7) (fC (.int 0))) (fC (.str "last"))))
   (G7 3 (fV 10) (bZ (dN (fC (.str "last")) (dN (c9 3 [1] b8 (aE (fV 0) (aO 1 (aO 4 cW)))) (dN (f2 b5 (fV 7) (fC (.int 2))) cX)))))
   a8)
def Y6:VS:=
   (cS (YN (fB (f2 WK (c9 3 [1] cG (aE (fV 0) (aO 1 (aE (fC (.int 6)) cW)))) (fC (.int 0))))
   (XZ 3 SZ (dN (bZ (dN (fC (.str "last")) (dN (fC (.int 0)) (dN (c9 3 [1] cG (aE (fV 0) (aO 1 (aE (c9 3 [1] b8 (aE (fV 0) (aO 1 (aE (bE (dN (fC (.int 3)) (dN (fC (.int 1000)) cX))) cW)))) cW)))) cX)))) cX))
   (cS (aZ 7 (xV (c9 5 [1,3] YA (aE (fV 0) (aO 1 (aO 4 (aO 5 (aE (fC (.int 9)) cW))))))))
   (cS (YN (fB (f2 (X5 false) (f2 b5 (fV 7) (fC (.int 0))) (bZ (dN (fC (.str "load")) (dN (fC (.str "take")) (dN (fC (.str "store")) (dN (fC (.str "put")) cX)))))))
   (cS (aZ 8 (xV (c9 3 [1] b8 (aE (fV 0) (aO 1 (aE (bE (dN (fC (.int 1)) (dN (fC (.int 1)) (dN (fC (.int 1)) (dN (fC (.int 0)) (dN (fC (.int 2)) (dN (f1 IF (fC (.int 1))) (dN (fC (.int 7)) cX)))))))) cW))))))
   (cS (aZ 9 (xV (f2 ZU (f2 b5 (fV 7) (fC (.int 1))) (c9 3 [1] b8 (aE (fV 0) (aO 1 (aE (bE (dN (fC (.int 0)) (dN (fC (.int 0)) (dN (fC (.int 8)) (dN (fC (.int 20)) cX))))) cW)))))))
   (cS (YN (YJ (fB (f3 oLe oLe (fC (.int 0)) (f2 ZU (fV 9) (f2 UO (fV 8) (f2 TD (fV 2) (fC (.int 1))))) (fC (.int 63)))))
   (aZ 8 (xV (fC (.int 1))))
   a8)
   (aZ 7 (xV (f2 ZU (bZ (dN (f2 b5 (fV 7) (fC (.int 0))) (dN (bZ (dN (fV 9) (dN (fV 8) cX))) cX))) (fSl (fV 7) (pSo (fC (.int 2))) pNo)))))))
   a8)
   (XZ 3 SZ (dN (fV 7) cX)))))
   (YN (fB (f2 (X5 true) (f2 b5 (f2 b5 (fO 3) (f1 IF (fC (.int 1)))) (fC (.int 0))) (bZ (dN (fC (.str "store")) (dN (fC (.str "put")) cX)))))
   (XZ 4 SZ (dN (f2 TD (f1 Z6 (fO 3)) (fC (.int 1))) cX))
   a8))
def UE:VS:=
   (cS (KS 2 3 4 5 (xV (f2 ZU (fC (.int 1)) (c9 3 [1] cG (aE (fV 0) (aO 1 (aE (fC (.int 8)) cW)))))) (xO (bE cX)) (xO (bE cX)) (xO (fC (.dct [] []))))
   (cS (TM (GF (f2 ZU (fC (.int 1)) (c9 3 [1] cG (aE (fV 0) (aO 1 (aE (fC (.int 5)) cW)))))) (gN 6)
   Y6)
   (cS (TM (SU (f1 GQ (fO 3))) (OU 2 (cM (gN 10) (cM (gN 7) ZK)))
   bD)
   (cB (bZ (dN (c9 3 [1] b8 (aE (fV 0) (aO 1 (aE (bE (dN (fC (.int 0)) (dN (fC (.int 9)) (dN (fC (.int 64)) (dN (fC (.int 40)) cX))))) cW)))) (dN (fV 2) (dN (f1 R6 (fO 3)) cX))))))))
def Z0:bX:=aP 11 [1] UE
def U8:VS:=
   (CC (cS (YN (fB (f2 oLt (fV 0) (fC (.int 2))))
   (cB (L5 1 [] [("unrolled",YW),("reach",SG)] (f2 b5 (bE (dN (fC (.fn "unrolled")) (dN (fC (.fn "reach")) cX))) (fV 0)) (aE (fV 1) cW)))
   a8)
   (cB (DP (fB (f2 WK (fV 0) (fC (.int 2)))) (fun _=>none) (fun _=>none))))
   (Q3 (JD (fB (f2 oLt (fV 0) (fC (.int 2)))) (JC 1 [("unrolled",YY),("reach",QM)] (f2 b5 (bE (dN (fC (.fn "unrolled")) (dN (fC (.fn "reach")) cX))) (fV 0)) (aE (fV 1) cW)) zNo)
   (WF (YN (fB (f2 oLt (fV 0) (fC (.int 2))))
   (cB (L5 1 [] [("unrolled",YW),("reach",SG)] (f2 b5 (bE (dN (fC (.fn "unrolled")) (dN (fC (.fn "reach")) cX))) (fV 0)) (aE (fV 1) cW)))
   a8)
   (JD (fB (f2 WK (fV 0) (fC (.int 2)))) (YI 2 YX (aE (fV 1) (aE (fV 2) cW))) (YI 2 ZJ (aE (fV 1) (aE (fV 2) cW))))))
   3 (cB (c9 1 [] ZG (aE (fV 3) cW))))
def cI:bX:=aP 4 [] U8
def WI:VS:=
   (cS (aZ 0 (xV (fC (.tup [.str "load",.tup [.int 0,.int 1]]))))
   (cS (aZ 1 (xO (bE (dN (bZ (dN (fC (.int 0)) (dN (fC (.int 0)) (dN (bZ (dN (fV 0) cX)) cX)))) (dN (bZ (dN (fC (.int 0)) (dN (fC (.int 9)) (dN (bZ (dN (fV 0) cX)) cX)))) (dN (fC (.tup [.int 0,.int 1,.tup []])) (dN (bZ (dN (fC (.int 0)) (dN (fC (.int 1)) (dN (f2 Z9 (bZ (dN (fV 0) cX)) (fC (.int 9))) cX)))) (dN (bZ (dN (fC (.int 65)) (dN (fC (.int 1)) (dN (bZ (dN (fV 0) cX)) cX)))) (dN (bZ (dN (fC (.bl true)) (dN (fC (.int 1)) (dN (bZ (dN (fV 0) cX)) cX)))) cX)))))))))
   (cS (XZ 1 ON (dN (fC (.lst [.tup [.int 0,.int 8,.tup [.tup [.str "load",.tup [.int 60,.int 1]]]],.tup [.int 0,.int 8,.tup [.tup [.str "load",.tup [.int 6,.int (-1)]]]],.tup [.int 0,.int 2,.tup [.tup [.str "load",.int 5]]]])) cX))
   (cS (XZ 1 ON (dN (fC (.lst [.tup [.int 0,.int 2,.tup [.tup [.str "load",.tup [.int 0,.int 10]]]],.tup [.int 0,.int 1,.tup [.tup [.str "load",.tup [.int 64,.int 0]]]],.tup [.int 0,.int 1,.tup [.tup [.str "load",.lst [.int 0,.int 1]]]]])) cX))
   (cS (XZ 1 ON (dN (fC (.lst [.tup [.int 0,.int 1,.tup [.tup [.str "last",.int 0,.int 1000]]],.tup [.int 0,.int 1,.tup [.tup [.str "last",.int 1,.int 0]]],.tup [.int 0,.int 1,.tup [.tup [.str "plus",.int 0,.int 0]]]])) cX))
   (cS (XZ 1 ON (dN (bE (dN (bZ (dN (fC (.int 0)) (dN (fC (.int 1)) (dN (bZ (dN (fV 0) (dN (fC (.tup [.str "store",.tup [.int 0,.int 1],.int 0])) (dN (bZ (dN (fC (.str "last")) (dN (fC (.int 1)) (dN (fC (.int 0)) cX)))) cX)))) cX)))) (dN (bZ (dN (fC (.int 0)) (dN (fC (.int 1)) (dN (bE (dN (fV 0) cX)) cX)))) (dN (bZ (dN (fC (.int 0)) (dN (fC (.int 1)) (dN (bZ (dN (fV 0) (dN (fC (.int 5)) cX))) cX)))) cX)))) cX))
   (cS (XZ 1 ON (dN (bE (dN (fC .non) (dN (fC (.int 5)) (dN (bZ cX) (dN (bZ (dN (fC (.int 0)) (dN (fC (.int 1)) cX))) (dN (bE (dN (fC (.int 0)) (dN (fC (.int 1)) (dN (bZ (dN (fV 0) cX)) cX)))) (dN (bZ (dN (fC (.int 0)) (dN (fC .non) (dN (bZ (dN (fV 0) cX)) cX)))) (dN (fC (.tup [.int 0,.int 1,.tup [.tup [.str "last",.int 0]]])) cX)))))))) cX))
   (cB (f2 ZU (fO 1) (bE (dN (bZ (dN (fC (.int 0)) (dN (fC (.int 1)) (dN (bZ (dN (fV 0) (dN (fC (.tup [.str "if",.int 0,.tup [],.tup []])) cX))) cX)))) cX)))))))))))
def aW:bX:=aP 2 [] WI
def SM:VS:=
   (YN (fB (f2 KJ (c9 3 [] cI (aE (fC (.int 2)) (aE (fV 2) (aE (fV 5) cW)))) (bZ (dN (fC (.str "refused")) (dN (fC (.int 1)) cX)))))
   (cB (fC (.bl false)))
   a8)
def QN:VS:=
   (YN (fB (f2 KJ (c9 3 [] cI (aE (fC (.int 3)) (aE (fV 2) (aE (fV 4) cW)))) (bZ (dN (fC (.str "refused")) (dN (fC (.int 3)) cX)))))
   (cB (fC (.bl false)))
   a8)
def AJ:VS:=
   (cS (aZ 1 (xO (bE cX)))
   (cS (aZ 2 (xV (c9 2 [1] Z0 (aE (fV 0) (aO 1 cW)))))
   (cS (YN (fB (f2 WL (c9 1 [] cE (aE (fV 2) cW)) (fC (.bl true))))
   (cB (fC (.bl false)))
   a8)
   (cS (aZ 3 (xV (c9 3 [1] b8 (aE (fV 0) (aO 1 (aE (c9 0 [] aW cW) cW))))))
   (cS (YN (Q5 (fB (f2 WL (c9 1 [] cE (aE (fV 3) cW)) (fC (.bl false)))) (fB (f2 KJ (aD [3] 1 (GF (fC (.int 4))) (gN 1) XY (c9 3 [] cI (aE (fV 1) (aE (fV 0) (aE (fC .non) cW))))) (f2 Z9 (fC (.lst [.tup [.str "refused",.int 7]])) (fC (.int 4))))))
   (cB (fC (.bl false)))
   a8)
   (cS (TM (XB (bE (dN (fC .non) (dN (fC (.int 1)) (dN (fC (.int 5)) (dN (fC (.str "2")) (dN (fC (.bl true)) cX))))))) (gN 4)
   QN)
   (cS (TM (XB (bE (dN (fC .non) (dN (bZ (dN (fC (.int 0)) cX)) (dN (f2 Z9 (bE (dN (fC (.int 0)) cX)) (fC (.int 65))) (dN (f2 Z9 (bE (dN (fC (.int 1000)) cX)) (fC (.int 64))) (dN (f2 Z9 (bE (dN (fC (.str "0")) cX)) (fC (.int 64))) cX))))))) (gN 5)
   SM)
   (cS (aZ 6 (xV (bZ (dN (fC (.int 0)) (dN (fC (.int 8)) (dN (f2 Z9 (fC (.tup [.tup [.str "load",.tup [.int 0,.int 1]]])) (fC (.int 6))) cX))))))
   (cS (YN (Q5 (fB (f2 KJ (aD [6] 1 (XB (bZ (dN (fC (.int 0)) (dN (fC (.int 3)) cX)))) (gN 1) XY (c9 3 [] cI (aE (fV 1) (aE (fV 0) (aE (fC (.int 2)) cW))))) (f2 Z9 (fC (.lst [.tup [.str "refused",.int 11]])) (fC (.int 2))))) (fB (f2 TC (c9 3 [] cI (aE (fC (.int 1)) (aE (fV 6) (aE (fC .non) cW)))) (fC .non))))
   (cB (fC (.bl false)))
   a8)
   (cS (YN (Q5 (fB (f2 WL (c9 1 [] cE (aE (fC (.tup [.int 0,.int 8,.tup [.tup [.str "load",.tup [.int 56,.int 1]]]])) cW)) (fC (.bl true)))) (fB (f2 WL (c9 1 [] cE (aE (bZ (dN (fC (.int 0)) (dN (fC (.int 1)) (dN (f2 Z9 (fC (.tup [.tup [.str "load",.tup [.int 63,.int 9]]])) (fC (.int 8))) cX)))) cW)) (fC (.bl true)))))
   (cB (fC (.bl false)))
   a8)
   (cB (f2 WK (f1 Z6 (f2 b5 (f2 b5 (c9 3 [] cI (aE (fC (.int 0)) (aE (bZ (dN (fC (.int 0)) (dN (fC (.int 8)) (dN (f2 Z9 (fC (.tup [.tup [.str "load",.tup [.int 0,.int 1]]])) (fC (.int 5))) cX)))) (aE (fC .non) cW)))) (fC (.int 0))) (fC (.int 1)))) (fC (.int 40))))))))))))))
def M3:bX:=aP 7 [] AJ
end L2
namespace RR
open PySem L2
structure W5(K:Ai)(mg:Str->Option Value):Prop where
 fnm: ∀x a,Fq K mainGlobals x=some (some (.ref a))->mg x=some (.ref a)
 n_len:mg "len"=none
 n_range:mg "range"=none
 n_min:mg "min"=none
 n_max:mg "max"=none
 MH:mg "list"=none
 n_tuple:mg "tuple"=none
 n_isinstance:mg "isinstance"=none
 n_bool:mg "bool"=none
 n_int:mg "int"=none
 n_str:mg "str"=none
 n_enumerate:mg "enumerate"=none
 n_zip:mg "zip"=none
 n_all:mg "all"=none
 n_ValueError:mg "ValueError"=none
 v_DEEDS: ∃u v,mg "DEEDS"=some u/\cO v u/\ ∀N H M,b6 K N H M v F7
 v_DEED_PARTS: ∃u v,mg "DEED_PARTS"=some u/\cO v u/\ ∀N H M,b6 K N H M v SN
 v_LEAST_LANES: ∃u v,mg "LEAST_LANES"=some u/\cO v u/\ ∀N H M,b6 K N H M v UU
 v_MOST_CELLS: ∃u v,mg "MOST_CELLS"=some u/\cO v u/\ ∀N H M,b6 K N H M v WP
 v_MOST_LANES: ∃u v,mg "MOST_LANES"=some u/\cO v u/\ ∀N H M,b6 K N H M v SO
 v_MOST_LOOP_ROWS: ∃u v,mg "MOST_LOOP_ROWS"=some u/\cO v u/\ ∀N H M,b6 K N H M v YZ
 v_MOST_PLACE: ∃u v,mg "MOST_PLACE"=some u/\cO v u/\ ∀N H M,b6 K N H M v ZY
 v_MOST_ROWS: ∃u v,mg "MOST_ROWS"=some u/\cO v u/\ ∀N H M,b6 K N H M v VO
 v_MOST_STEP: ∃u v,mg "MOST_STEP"=some u/\cO v u/\ ∀N H M,b6 K N H M v XT
 v_MOST_SURE: ∃u v,mg "MOST_SURE"=some u/\cO v u/\ ∀N H M,b6 K N H M v VQ
 v_MOST_TURNS: ∃u v,mg "MOST_TURNS"=some u/\cO v u/\ ∀N H M,b6 K N H M v WQ
 v_MOST_WORD: ∃u v,mg "MOST_WORD"=some u/\cO v u/\ ∀N H M,b6 K N H M v Z2
 v_OTHER_PARTS: ∃u v,mg "OTHER_PARTS"=some u/\cO v u/\ ∀N H M,b6 K N H M v UV
 v_READERS: ∃u v,mg "READERS"=some u/\cO v u/\ ∀N H M,b6 K N H M v Y0
 v_WRITERS: ∃u v,mg "WRITERS"=some u/\cO v u/\ ∀N H M,b6 K N H M v aX
 v_Nothing: ∃u v,mg "Nothing"=some u/\cO v u/\ ∀N H M,b6 K N H M v (.fn "Nothing")
 v_NotValid: ∃u v,mg "NotValid"=some u/\cO v u/\ ∀N H M,b6 K N H M v (.fn "NotValid")
 v_TooLong: ∃u v,mg "TooLong"=some u/\cO v u/\ ∀N H M,b6 K N H M v (.fn "TooLong")
 v_TooMany: ∃u v,mg "TooMany"=some u/\cO v u/\ ∀N H M,b6 K N H M v (.fn "TooMany")
 v_NoName: ∃u v,mg "NoName"=some u/\cO v u/\ ∀N H M,b6 K N H M v (.fn "NoName")
 v_NoText: ∃u v,mg "NoText"=some u/\cO v u/\ ∀N H M,b6 K N H M v (.fn "NoText")
 v_NoLoop: ∃u v,mg "NoLoop"=some u/\cO v u/\ ∀N H M,b6 K N H M v (.fn "NoLoop")
 v_NoTree: ∃u v,mg "NoTree"=some u/\cO v u/\ ∀N H M,b6 K N H M v (.fn "NoTree")
 v_NoProgram: ∃u v,mg "NoProgram"=some u/\cO v u/\ ∀N H M,b6 K N H M v (.fn "NoProgram")
 v_NoPlan: ∃u v,mg "NoPlan"=some u/\cO v u/\ ∀N H M,b6 K N H M v (.fn "NoPlan")
 v_NoLanes: ∃u v,mg "NoLanes"=some u/\cO v u/\ ∀N H M,b6 K N H M v (.fn "NoLanes")
 v_NoRow: ∃u v,mg "NoRow"=some u/\cO v u/\ ∀N H M,b6 K N H M v (.fn "NoRow")
 v_NoCells: ∃u v,mg "NoCells"=some u/\cO v u/\ ∀N H M,b6 K N H M v (.fn "NoCells")
 v_NoBlock: ∃u v,mg "NoBlock"=some u/\cO v u/\ ∀N H M,b6 K N H M v (.fn "NoBlock")
 v_reach: ∃u v,mg "reach"=some u/\cO v u/\ ∀N H M,b6 K N H M v (.fn "reach")
 v_unrolled: ∃u v,mg "unrolled"=some u/\cO v u/\ ∀N H M,b6 K N H M v (.fn "unrolled")
 x_NoCells: ∃C,XC K "NoCells" C/\mg "NoCells"=some (.ref C)
 x_NoLanes: ∃C,XC K "NoLanes" C/\mg "NoLanes"=some (.ref C)
 x_NoLoop: ∃C,XC K "NoLoop" C/\mg "NoLoop"=some (.ref C)
 x_TooLong: ∃C,XC K "TooLong" C/\mg "TooLong"=some (.ref C)
 xi:XI K LB V9
section
variable{P:Au}{w:World}{K:Ai}{mg:Str->Option Value}{base:Heap}{f:Addr}{fd:Ck}
noncomputable abbrev Nx0:List Str:=["thing","low","high"]
noncomputable abbrev Qx0:List Str:=["thing","low","high"]
theorem zGC:cV Nx0 Qx0 (dH (top 19)):=Z5
theorem zH9(F:ZH K "is_whole" "is_whole" (top 19) f fd) (T:W5 K mg):
  bU P w K mg base CX0 1 f fd Qx0 (spV K [] 3 cP):=
 U3 P w K mg base Nx0 Qx0 0 UC [] F zGC fun _ _ _ _ _ _ hr hu hu1=>by
  refine dI ?_ ?_
  ·exact(b4 (W2 (ZB (a7 (OT T.n_isinstance (vv 0) (DC T.n_bool zBO))) (aC (a5 (a7 (OT T.n_isinstance (vv 0) (DC T.n_int zFQ)))))))
   (dF (c5 aK))
   cR)
  exact dF (c5 (C3 RE RE KU KU (vv 1) (vv 0) (vv 2)))
noncomputable abbrev Nx1:List Str:=["deed"]
noncomputable abbrev Qx1:List Str:=["deed"]
theorem zGB:cV Nx1 Qx1 (dH (top 38)):=Z5
theorem zH8(F:ZH K "parts_of" "parts_of" (top 38) f fd) (T:W5 K mg):
  bU P w K mg base CX0 1 f fd Qx1 (spV K [] 1 bM):=
 U3 P w K mg base Nx1 Qx1 0 PP [] F zGB fun _ _ _ _ _ _ hr hu hu1=>by
  refine dI ?_ ?_
  ·exact (b4 (b9 (RV (K := K) rfl hu) (X6 (neg := false)) (vv 0) (c6 (by rfl) T.v_DEEDS) (by with_unfolding_all rfl))
   (dF (c5 (c6 (by rfl) T.v_DEED_PARTS)))
   cR)
  exact dF (c5 (zAB rfl hu1 (c6 (by rfl) T.v_OTHER_PARTS) (vv 0) ⟨rfl,rfl,rfl,rfl⟩))
noncomputable abbrev Nx2:List Str:=["row"]
noncomputable abbrev Qx2:List Str:=["row"]
theorem zGA:cV Nx2 Qx2 (dH (top 39)):=Z5
theorem zH7(F:ZH K "makes_word" "makes_word" (top 39) f fd) (T:W5 K mg):
  bU P w K mg base CX0 1 f fd Qx2 (spV K [] 1 ZX):=
 U3 P w K mg base Nx2 Qx2 0 WV [] F zGA fun _ _ _ _ _ _ hr hu hu1=>by exact(dF (c5 (M0 (GJ (K:=K) rfl hu) (X6 (neg:=true)) (YH hu1 (vv 0) dL) (c6 (by rfl) T.v_WRITERS) (by with_unfolding_all rfl))))
noncomputable abbrev Nx3:List Str:=["row"]
noncomputable abbrev Qx3:List Str:=["row"]
theorem zG9:cV Nx3 Qx3 (dH (top 40)):=Z5
theorem zH6(F:ZH K "place_of" "place_of" (top 40) f fd) (T:W5 K mg):
  bU P w K mg base CX0 1 f fd Qx3 (spV K [] 1 aG):=
 U3 P w K mg base Nx3 Qx3 0 UI [] F zG9 fun _ _ _ _ _ _ hr hu hu1=>by exact(dF (c5 (TW (W2 (ZB (b9 (RV (K:=K) rfl hu) (X6 (neg:=false)) (YH hu1 (vv 0) dL) (c6 (by rfl) T.v_READERS) (by with_unfolding_all rfl)) (aC (b9 (RV (K:=K) rfl hu) (X6 (neg:=false)) (YH hu1 (vv 0) dL) (c6 (by rfl) T.v_WRITERS) (by with_unfolding_all rfl))))) (YH hu1 (vv 0) dL) aA)))
noncomputable abbrev Nx4:List Str:=["row","deed","rest"]
noncomputable abbrev Qx4:List Str:=["row"]
theorem zBY:cV Nx4 Qx4 (dH (top 41)):=Z5
theorem zH5(F:ZH K "names_of" "names_of" (top 41) f fd) (T:W5 K mg) (ig:cL P w K mg base "parts_of" 1 Qx1 [] bM f_x1):
  bU P w K mg base CX0 2 f fd Qx4 (spV K [] 1 WN):=
 U3 P w K mg base Nx4 Qx4 1 PN [] F zBY fun _ _ _ _ _ _ hr hu hu1=>by
  refine dI ?_ ?_
  ·exact(HD (i:=1) (j:=2) rfl rfl zBY.nd rfl rfl (by decide) (Aw rfl) (Aw rfl) (vv 0))
  exact dF (c5 (cJ (aN ["part","given"] [] 2 (C6 rfl (by rfl) T.n_zip (dC (cF ig hr (dJ (vv 1) dG))) (vv 2)) (fun hn _ _ _ _=>⟨(Z4 (K:=K) rfl rfl (cY (c8 hn) (cY (c8 hn) aU))),(SF (X8 hu (vv 0) cN)),(vv 1)⟩))))
noncomputable abbrev Nx5:List Str:=["row","names"]
noncomputable abbrev Qx5:List Str:=["row","names"]
theorem zG8:cV Nx5 Qx5 (dH (top 42)):=Z5
theorem zH4(F:ZH K "with_names" "with_names" (top 42) f fd) (T:W5 K mg):
  bU P w K mg base CX0 1 f fd Qx5 (spV K [] 2 YC):=
 U3 P w K mg base Nx5 Qx5 0 SR [] F zG8 fun _ _ _ _ _ _ hr hu hu1=>by exact(dF (c5 (bT (XU (K:=K) rfl) Y7 (C5 rfl (vv 0) C9 (DA (ZL XQ UZ (Y4 T.n_len (vv 0)) (Y4 T.n_len (vv 1))))) (C2 (ME (K:=K) rfl) LP (by rfl) T.n_tuple YQ (vv 1)))))
noncomputable abbrev Nx6:List Str:=["thing","able"]
noncomputable abbrev Qx6:List Str:=["thing","able"]
theorem zG7:cV Nx6 Qx6 (dH (top 43)):=Z5
theorem zH3(F:ZH K "may_name" "may_name" (top 43) f fd) (T:W5 K mg) (ap:cL P w K mg base "is_whole" 1 Qx0 [] cP f_x0):
  bU P w K mg base CX0 2 f fd Qx6 (spV K [] 2 YV):=
 U3 P w K mg base Nx6 Qx6 1 UG [] F zG7 fun _ _ _ _ _ _ hr hu hu1=>by exact(dF (c5 (QD (cF ap hr (dJ (vv 0) (dJ dL (dJ (dC (ZL XQ UZ (Y4 T.n_len (vv 1)) dL)) dG)))) (JB (YH hu1 (vv 1) (vv 0))))))
noncomputable abbrev Nx7:List Str:=["part","thing","able"]
noncomputable abbrev Qx7:List Str:=["part","thing","able"]
theorem zG6:cV Nx7 Qx7 (dH (top 44)):=Z5
theorem zH2(F:ZH K "fits" "fits" (top 44) f fd) (T:W5 K mg) (ap:cL P w K mg base "is_whole" 1 Qx0 [] cP f_x0) (k9:cL P w K mg base "may_name" 2 Qx6 [] YV f_x6):
  bU P w K mg base CX0 3 f fd Qx7 (spV K [] 3 XH):=
 U3 P w K mg base Nx7 Qx7 2 PH [] F zG6 fun _ _ _ _ _ _ hr hu hu1=>by
  refine dI ?_ ?_
  ·exact(b4 (X8 hu (vv 0) cN)
   (dF (c5 (cF ap hr (dJ (vv 1) (dJ dL (dJ (dC (c6 (by rfl) T.v_MOST_WORD)) dG))))))
   cR)
  refine dI ?_ ?_
  ·exact(b4 (X8 hu (vv 0) cN)
   (dF (c5 (cF ap hr (dJ (vv 1) (dJ dL (dJ (dC (c6 (by rfl) T.v_MOST_PLACE)) dG))))))
   cR)
  exact dF (c5 (cF k9 hr (dJ (vv 1) (dJ (vv 2) dG))))
noncomputable abbrev Nx8:List Str:=["thing","able","deed","rest","parts"]
noncomputable abbrev Qx8:List Str:=["thing","able"]
theorem CM:cV Nx8 Qx8 (dH (top 45)):=Z5
theorem zH1(F:ZH K "is_row" "is_row" (top 45) f fd) (T:W5 K mg) (ig:cL P w K mg base "parts_of" 1 Qx1 [] bM f_x1) (k8:cL P w K mg base "fits" 3 Qx7 [] XH f_x7):
  bU P w K mg base CX0 4 f fd Qx8 (spV K [] 2 X0):=
 U3 P w K mg base Nx8 Qx8 3 PL [] F CM fun _ _ _ _ _ _ hr hu hu1=>by
  refine dI ?_ ?_
  ·exact(b4 (W2 (ZB (a5 (a7 (OT T.n_isinstance (vv 0) (DC T.n_tuple YQ)))) (aC (X8 hu (Y4 T.n_len (vv 0)) dL))))
   (dF (c5 aK))
   cR)
  refine dI ?_ ?_
  ·exact (HD (i := 2) (j := 3) rfl rfl CM.nd rfl rfl (by decide) (Aw rfl) (Aw rfl) (vv 0))
  refine dI ?_ ?_
  ·exact(bS CM.nd (ZW (dC (TW (a7 (OT T.n_isinstance (vv 2) (DC T.n_str AB))) (cF ig hr (dJ (vv 2) dG)) aA))))
  refine dI ?_ ?_
  ·exact(b4 (W2 (ZB (b9 A6 zBZ (vv 4) aA (bK _)) (aC (b9 (J4 (K:=K) rfl hu) KW (Y4 T.n_len (vv 4)) (Y4 T.n_len (vv 3)) (bK _)))))
   (dF (c5 aK))
   cR)
  exact dF (c5 (HC (kAll (K:=K) rfl rfl) CD (by rfl) T.n_all HM (cJ (aN ["able","part","given"] [1] 2 (C6 rfl (by rfl) T.n_zip (vv 4) (vv 3)) (fun hn _ _ _ _=>⟨(Z4 (K:=K) rfl rfl (cY (c8 hn) (cY (c8 hn) aU))),ZO,(dC (cF k8 hr (dJ (vv 1) (dJ (vv 2) (dJ (vv 0) dG)))))⟩)))))
noncomputable abbrev Nx9:List Str:=["row"]
noncomputable abbrev Qx9:List Str:=["row"]
theorem zG5:cV Nx9 Qx9 (dH (top 47)):=Z5
theorem zH0(F:ZH K "writes" "writes" (top 47) f fd) (T:W5 K mg):
  bU P w K mg base CX0 1 f fd Qx9 (spV K [] 1 VM):=
 U3 P w K mg base Nx9 Qx9 0 J0 [] F zG5 fun _ _ _ _ _ _ hr hu hu1=>by exact(dF (c5 (M0 (RV (K:=K) rfl hu) (X6 (neg:=false)) (YH hu1 (vv 0) dL) (c6 (by rfl) T.v_WRITERS) (by with_unfolding_all rfl))))
noncomputable abbrev Nx10:List Str:=["thing"]
noncomputable abbrev Qx10:List Str:=["thing"]
theorem zDH:cV Nx10 Qx10 (dH (top 56)):=Z5
theorem zEX(F:ZH K "is_lanes" "is_lanes" (top 56) f fd) (T:W5 K mg) (ap:cL P w K mg base "is_whole" 1 Qx0 [] cP f_x0):
  bU P w K mg base CX0 2 f fd Qx10 (spV K [] 1 ZM):=
 U3 P w K mg base Nx10 Qx10 1 PJ [] F zDH fun _ _ _ _ _ _ hr hu hu1=>by exact(dF (c5 (cF ap hr (dJ (vv 0) (dJ (dC (c6 (by rfl) T.v_LEAST_LANES)) (dJ (dC (c6 (by rfl) T.v_MOST_LANES)) dG))))))
noncomputable abbrev Nx11:List Str:=["thing","sure"]
noncomputable abbrev Qx11:List Str:=["thing","sure"]
theorem zDG:cV Nx11 Qx11 (dH (top 68)):=Z5
theorem zEW(F:ZH K "is_cells" "is_cells" (top 68) f fd) (T:W5 K mg) (ap:cL P w K mg base "is_whole" 1 Qx0 [] cP f_x0):
  bU P w K mg base CX0 2 f fd Qx11 (spV K [] 2 aQ):=
 U3 P w K mg base Nx11 Qx11 1 UB [] F zDG fun _ _ _ _ _ _ hr hu hu1=>by
  refine dI ?_ ?_
  ·exact (b4 (W2 (ZB (a5 (a7 (OT T.n_isinstance (vv 0) (DC T.MH F6)))) (aC (a5 (QH RE RE KU KU (vv 1) (Y4 T.n_len (vv 0)) (c6 (by rfl) T.v_MOST_CELLS))))))
   (dF (c5 aK))
   cR)
  exact dF (c5 (HC (kAll (K:=K) rfl rfl) CD (by rfl) T.n_all HM (cJ (aN ["word"] [] 1 (Y2 rfl (vv 0)) (fun hn _ _ _ _=>⟨(c8 hn),ZO,(dC (cF ap hr (dJ (vv 0) (dJ dL (dJ (dC (c6 (by rfl) T.v_MOST_WORD)) dG)))))⟩)))))
noncomputable abbrev Nx12:List Str:=["stride","turn","base","step"]
noncomputable abbrev JG:List Str:=["stride","turn"]
theorem IP:cV Nx12 JG (dH (top 76)):=Z5
theorem zEV(F:ZH K "place_in" "place_in" (top 76) f fd) (T:W5 K mg):
  bU P w K mg base CX0 1 f fd JG (spV K [] 2 a6):=
 U3 P w K mg base Nx12 JG 0 UH [] F IP fun _ _ _ _ _ _ hr hu hu1=>by
  refine dI ?_ ?_
  ·exact(US (vv 0) (Z4 (K:=K) rfl rfl (cY (c8 IP.nd) (cY (c8 IP.nd) aU))))
  exact dF (c5 (bT (XU (K:=K) rfl) Y7 (vv 2) (bT (RW (K:=K) rfl) U7 (vv 3) (vv 1))))
noncomputable abbrev Nx13:List Str:=["row","turn","stride"]
noncomputable abbrev DX:List Str:=["row","turn"]
theorem CH:cV Nx13 DX (dH (top 77)):=Z5
theorem zEU(F:ZH K "in_turn" "in_turn" (top 77) f fd) (T:W5 K mg) (gb:cL P w K mg base "place_of" 1 Qx3 [] aG f_x3) (bp:cL P w K mg base "place_in" 1 JG [] a6 f_x12):
  bU P w K mg base CX0 2 f fd DX (spV K [] 2 ZC):=
 U3 P w K mg base Nx13 DX 1 RO [] F CH fun _ _ _ _ _ _ hr hu hu1=>by
  refine dI ?_ ?_
  ·exact(bS CH.nd (ZW (dC (cF gb hr (dJ (vv 0) dG)))))
  exact dF (c5 (TW (b9 A6 zBZ (vv 2) aA (bK _)) (vv 0) (bT (XU (K:=K) rfl) Y7 (cT (dO (YH hu1 (vv 0) dL) (dO (cF bp hr (dJ (vv 2) (dJ (vv 1) dG))) dE))) (C5 rfl (vv 0) (DA dL) C9))))
noncomputable abbrev Nx14:List Str:=["thing","turns"]
noncomputable abbrev Qx14:List Str:=["thing","turns"]
theorem zDF:cV Nx14 Qx14 (dH (top 78)):=Z5
theorem zET(F:ZH K "is_stride" "is_stride" (top 78) f fd) (T:W5 K mg) (ap:cL P w K mg base "is_whole" 1 Qx0 [] cP f_x0) (bp:cL P w K mg base "place_in" 1 JG [] a6 f_x12):
  bU P w K mg base CX0 2 f fd Qx14 (spV K [] 2 ZD):=
 U3 P w K mg base Nx14 Qx14 1 VU [] F zDF fun _ _ _ _ _ _ hr hu hu1=>by
  refine dI ?_ ?_
  ·exact(b4 (W2 (ZB (a5 (a7 (OT T.n_isinstance (vv 0) (DC T.n_tuple YQ)))) (aC (b9 (J4 (K:=K) rfl hu) KW (Y4 T.n_len (vv 0)) dL (bK _)))))
   (dF (c5 aK))
   cR)
  refine dI ?_ ?_
  ·exact (b4 (W2 (ZB (a5 (a7 (cF ap hr (dJ (dC (YH hu1 (vv 0) dL)) (dJ dL (dJ (dC (c6 (by rfl) T.v_MOST_PLACE)) dG)))))) (aC (a5 (a7 (cF ap hr (dJ (dC (YH hu1 (vv 0) dL)) (dJ (dC (QE (c6 (by rfl) T.v_MOST_STEP))) (dJ (dC (c6 (by rfl) T.v_MOST_STEP)) dG)))))))))
   (dF (c5 aK))
   cR)
  exact dF (c5 (cF ap hr (dJ (dC (cF bp hr (dJ (vv 0) (dJ (dC (ZL XQ UZ (vv 1) dL)) dG)))) (dJ dL (dJ (dC (c6 (by rfl) T.v_MOST_PLACE)) dG)))))
noncomputable abbrev Nx15:List Str:=["thing","many"]
noncomputable abbrev Qx15:List Str:=["thing","many"]
theorem zDE:cV Nx15 Qx15 (dH (top 79)):=Z5
theorem zES(F:ZH K "is_last" "is_last" (top 79) f fd) (T:W5 K mg) (ap:cL P w K mg base "is_whole" 1 Qx0 [] cP f_x0):
  bU P w K mg base CX0 2 f fd Qx15 (spV K [] 2 X9):=
 U3 P w K mg base Nx15 Qx15 1 RP [] F zDE fun _ _ _ _ _ _ hr hu hu1=>by exact(dF (c5 (QD (veq hu (Y4 T.n_len (vv 0)) dL) (QD (cF ap hr (dJ (dC (YH hu1 (vv 0) dL)) (dJ dL (dJ (dC (ZL XQ UZ (vv 1) dL)) dG)))) (JB (cF ap hr (dJ (dC (YH hu1 (vv 0) dL)) (dJ dL (dJ (dC (c6 (by rfl) T.v_MOST_WORD)) dG)))))))))
noncomputable abbrev Nx16:List Str:=["thing","able","turns","many"]
noncomputable abbrev Qx16:List Str:=["thing","able","turns","many"]
theorem zDD:cV Nx16 Qx16 (dH (top 80)):=Z5
theorem zER(F:ZH K "is_loop_row" "is_loop_row" (top 80) f fd) (T:W5 K mg) (jk:cL P w K mg base "is_row" 4 Qx8 [] X0 f_x8) (dj:cL P w K mg base "in_turn" 2 DX [] ZC f_x13) (ja:cL P w K mg base "is_stride" 2 Qx14 [] ZD f_x14) (j9:cL P w K mg base "is_last" 2 Qx15 [] X9 f_x15):
  bU P w K mg base CX0 5 f fd Qx16 (spV K [] 4 bA):=
 U3 P w K mg base Nx16 Qx16 4 ZR [] F zDD fun _ _ _ _ _ _ hr hu hu1=>by
  refine dI ?_ ?_
  ·exact(b4 (W2 (ZB (a5 (a7 (OT T.n_isinstance (vv 0) (DC T.n_tuple YQ)))) (ZB (X8 hu (Y4 T.n_len (vv 0)) dL) (aC (a5 (a7 (OT T.n_isinstance (YH hu1 (vv 0) dL) (DC T.n_str AB))))))))
   (dF (c5 aK))
   cR)
  refine dI ?_ ?_
  ·exact(b4 (X8 hu (YH hu1 (vv 0) dL) cN)
   (dF (c5 (cF j9 hr (dJ (vv 0) (dJ (vv 3) dG)))))
   cR)
  refine dI ?_ ?_
  ·exact (b4 (W2 (ZB (b9 (RV (K := K) rfl hu) (X6 (neg := false)) (YH hu1 (vv 0) dL) (c6 (by rfl) T.v_READERS) (by with_unfolding_all rfl)) (aC (b9 (RV (K := K) rfl hu) (X6 (neg := false)) (YH hu1 (vv 0) dL) (c6 (by rfl) T.v_WRITERS) (by with_unfolding_all rfl)))))
   (dF (c5 (QD (M0 GU s_gt (Y4 T.n_len (vv 0)) dL (bK _)) (QD (cF ja hr (dJ (dC (YH hu1 (vv 0) dL)) (dJ (vv 2) dG))) (JB (cF jk hr (dJ (dC (cF dj hr (dJ (vv 0) (dJ dL dG)))) (dJ (vv 1) dG))))))))
   cR)
  exact dF (c5 (cF jk hr (dJ (vv 0) (dJ (vv 1) dG))))
noncomputable abbrev Nx17:List Str:=["things","turns","able","thing"]
noncomputable abbrev Qx17:List Str:=["things","turns"]
theorem IQ:cV Nx17 Qx17 (dH (top 81)):=Z5
theorem zEQ(F:ZH K "are_loop_rows" "are_loop_rows" (top 81) f fd) (T:W5 K mg) (kf:cL P w K mg base "makes_word" 1 Qx2 [] ZX f_x2) (j8:cL P w K mg base "is_loop_row" 5 Qx16 [] bA f_x16):
  bU P w K mg base CX0 6 f fd Qx17 (spV K [] 2 aV):=
 U3 P w K mg base Nx17 Qx17 5 YL [] F IQ fun _ _ _ _ _ _ hr hu hu1=>by
  refine dI ?_ ?_
  ·exact(bS IQ.nd (U1 (b7 (cZ dE))))
  refine dI ?_ ?_
  ·exact(W1 Ea rfl (Y2 rfl (vv 0)) (c8 IQ.nd)
   (dI (b4 (a5 (a7 (cF j8 hr (dJ (vv 3) (bP (pv 2) (dJ (vv 1) (dJ (dC (Y4 T.n_len (vv 0))) dG)))))))
   (dF (c5 aK))
   cR)
   (dF (aB (K:=K) rfl Br Bt aY XO (pv 2) (cZ (dO (cF kf hr (dJ (vv 3) dG)) dE))))))
  exact dF (c5 (HC (kAll (K:=K) rfl rfl) CD (by rfl) T.n_all HM (cJ (aN ["able","row"] [2] 1 (Y2 rfl (vv 0)) (fun hn _ _ _ _=>⟨(c8 hn),(SF (X8 hu (YH hu1 (vv 1) dL) cN)),(dC (YH hu1 (vo 0) (YH hu1 (vv 1) dL)))⟩)))))
noncomputable abbrev Nx18:List Str:=["thing","sure","turns","rows"]
noncomputable abbrev HI:List Str:=["thing"]
theorem MT:cV Nx18 HI (dH (top 82)):=Z5
theorem zEP(F:ZH K "is_loop" "is_loop" (top 82) f fd) (T:W5 K mg) (ap:cL P w K mg base "is_whole" 1 Qx0 [] cP f_x0) (j7:cL P w K mg base "are_loop_rows" 6 Qx17 [] aV f_x17):
  bU P w K mg base CX0 7 f fd HI (spV K [] 1 cE):=
 U3 P w K mg base Nx18 HI 6 RQ [] F MT fun _ _ _ _ _ _ hr hu hu1=>by
  refine dI ?_ ?_
  ·exact(b4 (W2 (ZB (a5 (a7 (OT T.n_isinstance (vv 0) (DC T.n_tuple YQ)))) (aC (b9 (J4 (K:=K) rfl hu) KW (Y4 T.n_len (vv 0)) dL (bK _)))))
   (dF (c5 aK))
   cR)
  refine dI ?_ ?_
  ·exact(US (vv 0) (Z4 (K:=K) rfl rfl (cY (c8 MT.nd) (cY (c8 MT.nd) (cY (c8 MT.nd) aU)))))
  refine dI ?_ ?_
  ·exact (b4 (W2 (ZB (a5 (a7 (cF ap hr (dJ (vv 1) (dJ dL (dJ (dC (c6 (by rfl) T.v_MOST_SURE)) dG)))))) (aC (a5 (a7 (cF ap hr (dJ (vv 2) (dJ dL (dJ (dC (c6 (by rfl) T.v_MOST_TURNS)) dG)))))))))
   (dF (c5 aK))
   cR)
  refine dI ?_ ?_
  ·exact (b4 (W2 (ZB (a5 (a7 (OT T.n_isinstance (vv 3) (DC T.n_tuple YQ)))) (aC (a5 (QH RE RE KU KU dL (Y4 T.n_len (vv 3)) (c6 (by rfl) T.v_MOST_LOOP_ROWS))))))
   (dF (c5 aK))
   cR)
  exact dF (c5 (cF j7 hr (dJ (vv 3) (dJ (vv 2) dG))))
noncomputable abbrev Nx19:List Str:=["loop"]
noncomputable abbrev VN:List Str:=["loop"]
theorem CI:cV Nx19 VN (dH (top 83)):=Z5
theorem zEO(F:ZH K "check_loop" "check_loop" (top 83) f fd) (T:W5 K mg) (bo:cL P w K mg base "is_loop" 7 HI [] cE f_x18):
  bU P w K mg base CX0 8 f fd VN (spV K [] 1 cC):=
 U3 P w K mg base Nx19 VN 7 WU [] F CI fun _ _ _ _ _ _ hr hu hu1=>by
  exact(dF (b4 (a5 (a7 (cF bo hr (dJ (vv 0) dG))))
   (dF QG)
   cR))
theorem zB7(F:ZH K "check_loop" "check_loop" (top 83) f fd) (T:W5 K mg) (bo:cL P w K mg base "is_loop" 7 HI [] cE f_x18):
  bU P w K mg base (LI P w) 8 f fd VN (FN K 1 bY):=
 okZ P w K mg base Nx19 VN 7 W3 F CI fun _ _ _ _ _ _ hr hu hu1=>by exact(bF (LA (a5 (a7 (cF bo hr (dJ (vv 0) dG)))) (bF (T2 rfl QU rfl (by rfl) T.x_NoLoop)) QI))
noncomputable abbrev Nx20:List Str:=["loop","cells","sure","turns","rows","then","words","turn","fault"]
noncomputable abbrev Qx20:List Str:=["loop","cells"]
theorem MU:cV Nx20 Qx20 (dH (top 85)):=Z5
theorem zB6(F:ZH K "run_loop" "run_loop" (top 85) f fd) (T:W5 K mg) (jb:cL P w K mg base "is_cells" 2 Qx11 [] aQ f_x11) (ao:cL P w K mg base "check_loop" 8 VN [] cC f_x19) (aq:T5 P w K mg base "check_loop" 8 VN bY f_x19):
  bU P w K mg base (LI P w) 9 f fd Qx20 (FN K 2 YX):=
 okZ P w K mg base Nx20 Qx20 8 UT F MU fun _ _ _ _ _ _ hr hu hu1=>by
  exact(T3 (bF (QW (VJ TL rfl aq hr (by decide) (by rfl) rfl (dJ (vv 0) dG))))
   (ZP (TY (cF ao hr (dJ (vv 0) dG)))
   (ZP (US (vv 0) (Z4 (K:=K) rfl rfl (cY (c8 MU.nd) (cY (c8 MU.nd) (cY (c8 MU.nd) aU)))))
   (bF (LA (a5 (a7 (cF jb hr (dJ (vv 1) (dJ (vv 2) dG))))) (bF (T2 rfl QU rfl (by rfl) T.x_NoCells)) QI)))))
noncomputable abbrev Nx21:List Str:=["rows","turn","before","laid","meant","at","row"]
noncomputable abbrev DY:List Str:=["rows","turn","before","laid"]
theorem MV:cV Nx21 DY (dH (top 86)):=Z5
theorem zEN(F:ZH K "lay_turn" "lay_turn" (top 86) f fd) (T:W5 K mg) (kc:cL P w K mg base "names_of" 2 Qx4 [] WN f_x4) (ka:cL P w K mg base "with_names" 1 Qx5 [] YC f_x5) (dj:cL P w K mg base "in_turn" 2 DX [] ZC f_x13):
  bU P w K mg base CX0 3 f fd DY (spV K [3] 4 YU):=
 U3 P w K mg base Nx21 DY 2 PM [3] F MV fun _ _ _ _ _ _ hr hu hu1=>by
  refine dI ?_ ?_
  ·exact(bS MV.nd (U1 (b7 (cZ dE))))
  refine dI ?_ ?_
  ·exact (W1 Ea rfl (VH rfl (by rfl) T.n_enumerate (vv 0)) (Z4 (K := K) rfl rfl (cY (c8 MV.nd) (cY (c8 MV.nd) aU)))
   (dF (b4 (X8 hu (YH hu1 (vv 6) dL) cN)
   (dF (aB (K:=K) rfl Br Bt aY XO (pv 4) (cZ (dO (TW (X8 hu (vv 1) dL) (YH hu1 (vv 2) (vv 5)) (YH hu1 (vv 2) (YH hu1 (vv 6) dL))) dE))))
   (dI (aB (K:=K) rfl Br Bt aY XO (pv 3) (cZ (dO (cF ka hr (dJ (dC (cF dj hr (dJ (vv 6) (dJ (vv 1) dG)))) (dJ (cJ (aN ["meant","name"] [4] 1 (Y2 rfl (dC (cF kc hr (dJ (vv 6) dG)))) (fun hn _ _ _ _=>⟨(c8 hn),ZO,(dC (YH hu1 (vo 0) (vv 1)))⟩))) dG))) dE)))
   (dF (aB (K:=K) rfl Br Bt aY XO (pv 4) (cZ (dO (ZL XQ UZ (Y4 T.n_len (vo 3)) dL) dE))))))))
  exact dF (zA8 (pv 4))
noncomputable abbrev Nx22:List Str:=["loop","sure","turns","rows","lasts","laid","meant","numbers","turn"]
noncomputable abbrev QY:List Str:=["loop"]
theorem aM:cV Nx22 QY (dH (top 87)):=Z5
theorem zEM(F:ZH K "unrolled" "unrolled" (top 87) f fd) (T:W5 K mg) (ao:cL P w K mg base "check_loop" 8 VN [] cC f_x19) (di:cL P w K mg base "lay_turn" 3 DY [3] YU f_x21):
  bU P w K mg base CX0 9 f fd QY (spV K [] 1 YW):=
 U3 P w K mg base Nx22 QY 8 PQ [] F aM fun _ _ _ _ _ _ hr hu hu1=>by
  refine dI ?_ ?_
  ·exact(TY (cF ao hr (dJ (vv 0) dG)))
  refine dI ?_ ?_
  ·exact(US (vv 0) (Z4 (K:=K) rfl rfl (cY (c8 aM.nd) (cY (c8 aM.nd) (cY (c8 aM.nd) aU)))))
  refine dI ?_ ?_
  ·exact (@bS _ _ _ _ _ _ _ _ _ aM.nd (@ZW _ _ _ _ _ _ (@cJ _ _ _ _ _ _ (aN ["at","row"] [] 2 (@VH _ _ _ _ _ _ _ _ _ _ _ rfl (by rfl) T.n_enumerate (@vv _ _ _ _ _ 3 rfl (by first | exact Aw rfl | exact Al (Aw rfl) | exact Al (Al rfl)) (by decide) (by decide)) rfl) (fun hn _ _ _ _ => ⟨ (@Z4 _ _ _ _ _ _ _ _ rfl rfl (@cY _ _ _ _ _ _ _ (@c8 _ _ _ _ _ _ hn rfl (by first | exact .inl rfl | exact .inr rfl) (by decide) (by first | exact .inl rfl | exact .inr rfl | assumption)) (@cY _ _ _ _ _ _ _ (@c8 _ _ _ _ _ _ hn rfl (by first | exact .inl rfl | exact .inr rfl) (by decide) (by first | exact .inl rfl | exact .inr rfl | assumption)) aU rfl) rfl) rfl rfl) ,(@SF _ _ _ _ _ _ (@X8 _ _ _ _ _ _ _ _ _ _ _ _ _ _ hu (@YH _ _ _ _ _ _ _ _ _ _ _ _ _ _ hu1 (@vv _ _ _ _ _ 1 rfl (by first | exact Aw rfl | exact Al (Aw rfl) | exact Al (Al rfl)) (by decide) (by decide)) dL rfl (by exact fun _ _ => rfl) rfl) cN rfl rfl)) ,(@vv _ _ _ _ _ 0 rfl (by first | exact Aw rfl | exact Al (Aw rfl) | exact Al (Al rfl)) (by decide) (by decide)) ⟩)))) rfl (by first | exact .inl rfl | exact .inr rfl) (by decide) rfl (by first | exact .inl rfl | exact .inr rfl | assumption))
  refine dI ?_ ?_
  ·exact (T0 true aM.nd ["rows","at"] [3] 1 (Y2 rfl (vv 4)) (fun hn _ _ _ _ => ⟨(c8 hn),ZO,(dC (cT (dO cN (dO (YH hu1 (YH hu1 (vv 0) (vv 1)) dL) dE))))⟩))
  refine dI ?_ ?_
  ·exact (T0 false aM.nd ["lasts","at"] [4] 1 (ZZ (by rfl) T.n_range (Y4 T.n_len (vv 3))) (fun hn _ _ _ _ => ⟨(c8 hn),ZO,(dC (TW (b9 (RV (K := K) rfl hu) (X6 (neg := false)) (vv 1) (vv 0) (by with_unfolding_all rfl)) (K8 rfl (vv 0) (vv 1)) aA))⟩))
  refine dI ?_ ?_
  ·exact(bS aM.nd (U1 (b7 (cZ dE))))
  refine dI ?_ ?_
  ·exact (W1 Ea rfl (ZZ (by rfl) T.n_range (vv 2)) (c8 aM.nd)
   (dI (bS aM.nd (ZW (dC (cF di hr (dJ (vv 3) (dJ (vv 8) (dJ (vv 6) (bP (pv 5) dG))))))))
   (dF (aB (K:=K) rfl Br Bt aY XO (pv 7) (cZ (dO (cJ (aN ["lasts","at","number"] [4] 2 (VH rfl (by rfl) T.n_enumerate (vv 6)) (fun hn _ _ _ _=>⟨(Z4 (K:=K) rfl rfl (cY (c8 hn) (cY (c8 hn) aU))),ZO,(dC (TW (b9 (RV (K:=K) rfl hu) (X6 (neg:=false)) (vv 1) (vv 0) (by with_unfolding_all rfl)) aA (vv 2)))⟩))) dE))))))
  refine dI ?_ ?_
  ·exact (b4 (b9 GU s_gt (Y4 T.n_len (vo 5)) (c6 (by rfl) T.v_MOST_ROWS) (bK _))
   (dF QG)
   cR)
  exact dF (c5 (cT (dO (cT (dO (vv 1) (dO (C2 (ME (K:=K) rfl) LP (by rfl) T.n_tuple YQ (vo 5)) dE))) (C0 (pv 7) dE))))
theorem zB5(F:ZH K "unrolled" "unrolled" (top 87) f fd) (T:W5 K mg) (ao:cL P w K mg base "check_loop" 8 VN [] cC f_x19) (di:cL P w K mg base "lay_turn" 3 DY [3] YU f_x21) (aq:T5 P w K mg base "check_loop" 8 VN bY f_x19):
  bU P w K mg base (LI P w) 9 f fd QY (FN K 1 YY):=
 okZ P w K mg base Nx22 QY 8 QK F aM fun _ _ _ _ _ _ hr hu hu1=>by
  exact(T3 (bF (QW (VJ TL rfl aq hr (by decide) (by rfl) rfl (dJ (vv 0) dG))))
   (ZP (TY (cF ao hr (dJ (vv 0) dG)))
   (ZP (US (vv 0) (Z4 (K:=K) rfl rfl (cY (c8 aM.nd) (cY (c8 aM.nd) (cY (c8 aM.nd) aU)))))
   (ZP (bS aM.nd (ZW (cJ (aN ["at","row"] [] 2 (VH rfl (by rfl) T.n_enumerate (vv 3)) (fun hn _ _ _ _=>⟨(Z4 (K:=K) rfl rfl (cY (c8 hn) (cY (c8 hn) aU))),(SF (X8 hu (YH hu1 (vv 1) dL) cN)),(vv 0)⟩)))))
   (ZP (T0 true aM.nd ["rows","at"] [3] 1 (Y2 rfl (vv 4)) (fun hn _ _ _ _=>⟨(c8 hn),ZO,(dC (cT (dO cN (dO (YH hu1 (YH hu1 (vv 0) (vv 1)) dL) dE))))⟩))
   (ZP (T0 false aM.nd ["lasts","at"] [4] 1 (ZZ (by rfl) T.n_range (Y4 T.n_len (vv 3))) (fun hn _ _ _ _=>⟨(c8 hn),ZO,(dC (TW (b9 (RV (K:=K) rfl hu) (X6 (neg:=false)) (vv 1) (vv 0) (by with_unfolding_all rfl)) (K8 rfl (vv 0) (vv 1)) aA))⟩))
   (ZP (bS aM.nd (U1 (b7 (cZ dE))))
   (ZP (zCT (W1 Ea rfl (ZZ (by rfl) T.n_range (vv 2)) (c8 aM.nd)
   (dI (bS aM.nd (ZW (dC (cF di hr (dJ (vv 3) (dJ (vv 8) (dJ (vv 6) (bP (pv 5) dG))))))))
   (dF (aB (K:=K) rfl Br Bt aY XO (pv 7) (cZ (dO (cJ (aN ["lasts","at","number"] [4] 2 (VH rfl (by rfl) T.n_enumerate (vv 6)) (fun hn _ _ _ _=>⟨(Z4 (K:=K) rfl rfl (cY (c8 hn) (cY (c8 hn) aU))),ZO,(dC (TW (b9 (RV (K:=K) rfl hu) (X6 (neg:=false)) (vv 1) (vv 0) (by with_unfolding_all rfl)) aA (vv 2)))⟩))) dE)))))))
   (bF (LA (b9 GU s_gt (Y4 T.n_len (vo 5)) (c6 (by rfl) T.v_MOST_ROWS) (bK _)) (bF (T2 rfl QU rfl (by rfl) T.x_TooLong)) QI))))))))))
noncomputable abbrev Nx23:List Str:=["loop","lanes","block","numbers","plan","first","at","pack"]
noncomputable abbrev Qx23:List Str:=["loop","lanes"]
theorem zDC:cV Nx23 Qx23 (dH (top 88)):=Z5
theorem zB4(F:ZH K "turn_plan" "turn_plan" (top 88) f fd) (T:W5 K mg) (i3:cL P w K mg base "is_lanes" 2 Qx10 [] ZM f_x10) (ao:cL P w K mg base "check_loop" 8 VN [] cC f_x19) (dh:cL P w K mg base "unrolled" 9 QY [] YW f_x22) (aq:T5 P w K mg base "check_loop" 8 VN bY f_x19) (ck:T5 P w K mg base "unrolled" 9 QY YY f_x22):
  bU P w K mg base (LI P w) 10 f fd Qx23 (FN K 2 ZJ):=
 okZ P w K mg base Nx23 Qx23 9 WA F zDC fun _ _ _ _ _ _ hr hu hu1=>by
  exact(T3 (bF (QW (VJ TL rfl aq hr (by decide) (by rfl) rfl (dJ (vv 0) dG))))
   (ZP (TY (cF ao hr (dJ (vv 0) dG)))
   (T3 (bF (LA (a5 (a7 (cF i3 hr (dJ (vv 1) dG)))) (bF (T2 rfl QU rfl (by rfl) T.x_NoLanes)) QI))
   (ZP (b4 (a5 (a7 (cF i3 hr (dJ (vv 1) dG))))
   (dF QG)
   cR)
   (bF (zCQ (VJ TL rfl ck hr (by decide) (by rfl) rfl (dJ (vv 0) dG))))))))
noncomputable abbrev Nx24:List Str:=["loop","sure","turns","rows","on_cells","touched","spans"]
noncomputable abbrev OE:List Str:=["loop"]
theorem V6:cV Nx24 OE (dH (top 89)):=Z5
theorem zEL(F:ZH K "reach" "reach" (top 89) f fd) (T:W5 K mg) (gb:cL P w K mg base "place_of" 1 Qx3 [] aG f_x3) (iy:cL P w K mg base "writes" 1 Qx9 [] VM f_x9) (bp:cL P w K mg base "place_in" 1 JG [] a6 f_x12) (ao:cL P w K mg base "check_loop" 8 VN [] cC f_x19):
  bU P w K mg base CX0 9 f fd OE (spV K [] 1 SG):=
 U3 P w K mg base Nx24 OE 8 GC [] F V6 fun _ _ _ _ _ _ hr hu hu1=>by
  refine dI ?_ ?_
  ·exact(TY (cF ao hr (dJ (vv 0) dG)))
  refine dI ?_ ?_
  ·exact(US (vv 0) (Z4 (K:=K) rfl rfl (cY (c8 V6.nd) (cY (c8 V6.nd) (cY (c8 V6.nd) aU)))))
  refine dI ?_ ?_
  ·exact(@bS _ _ _ _ _ _ _ _ _ V6.nd (@ZW _ _ _ _ _ _ (@cJ _ _ _ _ _ _ (@aN _ _ _ _ _ _ _ _ _ _ _ _ _ _ _ _ ["row"] [] 1 (@Y2 _ _ _ _ _ _ _ rfl (@vv _ _ _ _ _ 3 rfl (by first|exact Aw rfl|exact Al (Aw rfl)|exact Al (Al rfl)) (by decide) (by decide))) (fun hn _ _ _ _=>⟨(@c8 _ _ _ _ _ _ hn rfl (by first|exact .inl rfl|exact .inr rfl) (by decide) (by first|exact .inl rfl|exact .inr rfl|assumption)),(@SF _ _ _ _ _ _ (@b9 _ _ _ _ _ _ _ _ _ _ _ _ _ _ _ _ _ GW CG (@cF _ _ _ _ _ _ _ _ _ _ _ _ _ _ _ _ _ gb hr (@dJ _ _ _ _ _ _ _ _ _ (@vv _ _ _ _ _ 0 rfl (by first|exact Aw rfl|exact Al (Aw rfl)|exact Al (Al rfl)) (by decide) (by decide)) dG rfl) rfl (by decide) rfl (by decide) rfl rfl) aA (bK _) rfl)),(@vv _ _ _ _ _ 0 rfl (by first|exact Aw rfl|exact Al (Aw rfl)|exact Al (Al rfl)) (by decide) (by decide))⟩) rfl rfl rfl rfl (by decide) (by intro _;rfl)))) rfl (by first|exact .inl rfl|exact .inr rfl) (by decide) rfl (by first|exact .inl rfl|exact .inr rfl|assumption))
  refine dI ?_ ?_
  ·exact(@bS _ _ _ _ _ _ _ _ _ V6.nd (@ZW _ _ _ _ _ _ (@cJ _ _ _ _ _ _ (C7 (N':=["on_cells","turn","row"]) (ix:=[4]) (nl:=2) rfl rfl (by rfl) rfl (by decide) (@ZZ _ _ _ _ _ _ _ _ _ _ _ (by rfl) T.n_range (@vv _ _ _ _ _ 2 rfl (by first|exact Aw rfl|exact Al (Aw rfl)|exact Al (Al rfl)) (by decide) (by decide)) rfl rfl) (fun cl s1 H1 fp=>⟨(@c8 _ _ _ _ _ _ (show(["on_cells","turn","row"]:List Str).Nodup by decide+kernel) rfl (by first|exact .inl rfl|exact .inr rfl) (by decide) (by first|exact .inl rfl|exact .inr rfl|assumption)),ZO,(@Y2 _ _ _ _ _ _ _ rfl (@vv _ _ _ _ _ 0 rfl (by first|exact Aw rfl|exact Al (Aw rfl)|exact Al (Al rfl)) (by decide) (by decide))),(@c8 _ _ _ _ _ _ (show(["on_cells","turn","row"]:List Str).Nodup by decide+kernel) rfl (by first|exact .inl rfl|exact .inr rfl) (by decide) (by first|exact .inl rfl|exact .inr rfl|assumption)),ZO,(@dC _ _ _ _ _ _ _ _ (@cT _ _ _ _ _ _ _ _ _ (@dO _ _ _ _ _ _ _ _ _ _ _ _ (@vv _ _ _ _ _ 1 rfl (by first|exact Aw rfl|exact Al (Aw rfl)|exact Al (Al rfl)) (by decide) (by decide)) (@dO _ _ _ _ _ _ _ _ _ _ _ _ (@cF _ _ _ _ _ _ _ _ _ _ _ _ _ _ _ _ _ bp hr (@dJ _ _ _ _ _ _ _ _ _ (@dC _ _ _ _ _ _ _ _ (@YH _ _ _ _ _ _ _ _ _ _ _ _ _ _ hu1 (@vv _ _ _ _ _ 2 rfl (by first|exact Aw rfl|exact Al (Aw rfl)|exact Al (Al rfl)) (by decide) (by decide)) dL rfl (by exact fun _ _=>rfl) rfl) rfl) (@dJ _ _ _ _ _ _ _ _ _ (@vv _ _ _ _ _ 1 rfl (by first|exact Aw rfl|exact Al (Aw rfl)|exact Al (Al rfl)) (by decide) (by decide)) dG rfl) rfl) rfl (by decide) rfl (by decide) rfl rfl) (@dO _ _ _ _ _ _ _ _ _ _ _ _ (@cF _ _ _ _ _ _ _ _ _ _ _ _ _ _ _ _ _ iy hr (@dJ _ _ _ _ _ _ _ _ _ (@vv _ _ _ _ _ 2 rfl (by first|exact Aw rfl|exact Al (Aw rfl)|exact Al (Al rfl)) (by decide) (by decide)) dG rfl) rfl (by decide) rfl (by decide) rfl rfl) dE rfl rfl rfl) rfl rfl rfl) rfl rfl rfl)) rfl)⟩)))) rfl (by first|exact .inl rfl|exact .inr rfl) (by decide) rfl (by first|exact .inl rfl|exact .inr rfl|assumption))
  refine dI ?_ ?_
  ·exact(DB (i:=6) false V6.nd rfl rfl (N':=["touched","turn","place","written","later","other","rewritten"]) (ix:=[5]) (nl:=6) rfl rfl (by rfl) rfl (by decide) (Y2 rfl (vv 5)) (fun cl s1 H1 fp=>⟨(Z4 (K:=K) rfl rfl (cY (c8 (show(["touched","turn","place","written","later","other","rewritten"]:List Str).Nodup by decide+kernel)) (cY (c8 (show(["touched","turn","place","written","later","other","rewritten"]:List Str).Nodup by decide+kernel)) (cY (c8 (show(["touched","turn","place","written","later","other","rewritten"]:List Str).Nodup by decide+kernel)) aU)))),ZO,(Y2 rfl (vv 0)),(Z4 (K:=K) rfl rfl (cY (c8 (show(["touched","turn","place","written","later","other","rewritten"]:List Str).Nodup by decide+kernel)) (cY (c8 (show(["touched","turn","place","written","later","other","rewritten"]:List Str).Nodup by decide+kernel)) (cY (c8 (show(["touched","turn","place","written","later","other","rewritten"]:List Str).Nodup by decide+kernel)) aU)))),(SF (W2 (DD (b9 GU s_gt (vv 4) (vv 1) (bK _)) (DD (X8 hu (vv 5) (vv 2)) (zA6 (W2 (ZB (a7 (vv 3)) (aC (a7 (vv 6)))))))))),(dC (ZL XQ UZ (vv 4) (vv 1)))⟩))
  exact dF (c5 (zAA rfl rfl (by rfl) T.n_min AA (vv 6)))
theorem zB3(F:ZH K "reach" "reach" (top 89) f fd) (T:W5 K mg) (gb:cL P w K mg base "place_of" 1 Qx3 [] aG f_x3) (iy:cL P w K mg base "writes" 1 Qx9 [] VM f_x9) (bp:cL P w K mg base "place_in" 1 JG [] a6 f_x12) (ao:cL P w K mg base "check_loop" 8 VN [] cC f_x19) (aq:T5 P w K mg base "check_loop" 8 VN bY f_x19):
  bU P w K mg base (LI P w) 9 f fd OE (FN K 1 QM):=
 okZ P w K mg base Nx24 OE 8 HE F V6 fun _ _ _ _ _ _ hr hu hu1=>by exact(bF (QW (VJ TL rfl aq hr (by decide) (by rfl) rfl (dJ (vv 0) dG))))
noncomputable abbrev Nx25:List Str:=["_law_script","_law_k","_law_rest","_law_again"]
noncomputable abbrev Qx25:List Str:=["_law_script","_law_k"]
theorem MW:cV Nx25 Qx25 (dH (top 91)):=Z5
theorem zEK(F:ZH K "_law_cell_at" "_law_cell_at" (top 91) f fd) (T:W5 K mg):
  bU P w K mg base CX0 1 f fd Qx25 (spV K [] 2 bB):=
 U3 P w K mg base Nx25 Qx25 0 XN [] F MW fun _ _ _ _ _ _ hr hu hu1=>by
  refine dI ?_ ?_
  ·exact(b4 (b9 GV s_lt (vv 1) (Y4 T.n_len (vv 0)) (bK _))
   (dF (c5 (YH hu1 (vv 0) (vv 1))))
   cR)
  refine dI ?_ ?_
  ·exact(b4 (X8 hu (vv 0) (cJ (b7 (cZ dE))))
   (dF (c5 dL))
   cR)
  refine dI ?_ ?_
  ·exact(bS MW.nd (ZW (dC (YH hu1 (vv 0) (ZL UP P5 (vv 1) (Y4 T.n_len (vv 0)))))))
  refine dI ?_ ?_
  ·exact (W1 Ea rfl (ZZ (by rfl) T.n_range (Y3 (EB rfl) zGF (by rfl) T.n_min AA (ZL GS CF (vv 1) (Y4 T.n_len (vv 0))) dL)) (c8 MW.nd)
   (dF (bS MW.nd (ZW (dC (ZL GS CF (vv 2) dL))))))
  exact dF (c5 (bT (XU (K:=K) rfl) Y7 (bT (XU (K:=K) rfl) Y7 (bT (RW (K:=K) rfl) U7 (YH hu1 (vv 0) (ZL UP P5 (vv 1) (Y4 T.n_len (vv 0)))) dL) (vv 1)) (bT (RW (K:=K) rfl) U7 (vv 2) dL)))
noncomputable abbrev Nx26:List Str:=["_law_script","_law_k","_law_bound","_law_drawn"]
noncomputable abbrev Qx26:List Str:=["_law_script","_law_k","_law_bound"]
theorem CJ:cV Nx26 Qx26 (dH (top 92)):=Z5
theorem zEJ(F:ZH K "_law_mixed" "_law_mixed" (top 92) f fd) (T:W5 K mg) (j6:cL P w K mg base "_law_cell_at" 1 Qx25 [] bB f_x25):
  bU P w K mg base CX0 2 f fd Qx26 (spV K [] 3 ZF):=
 U3 P w K mg base Nx26 Qx26 1 VV [] F CJ fun _ _ _ _ _ _ hr hu hu1=>by
  refine dI ?_ ?_
  ·exact(@bS _ _ _ _ _ _ _ _ _ CJ.nd (@ZW _ _ _ _ _ _ (@dC _ _ _ _ _ _ _ _ (@ZL _ _ _ _ _ _ _ _ _ _ _ _ _ _ _ _ _ UP P5 (@bT _ _ _ _ _ _ _ _ _ _ _ _ _ _ _ _ _ (XU (K:=K) rfl) Y7 (@bT _ _ _ _ _ _ _ _ _ _ _ _ _ _ _ _ _ (XU (K:=K) rfl) Y7 (@bT _ _ _ _ _ _ _ _ _ _ _ _ _ _ _ _ _ (RW (K:=K) rfl) U7 (@cF _ _ _ _ _ _ _ _ _ _ _ _ _ _ _ _ _ j6 hr (@dJ _ _ _ _ _ _ _ _ _ (@vv _ _ _ _ _ 0 rfl (by first|exact Aw rfl|exact Al (Aw rfl)|exact Al (Al rfl)) (by decide) (by decide)) (@dJ _ _ _ _ _ _ _ _ _ (@vv _ _ _ _ _ 1 rfl (by first|exact Aw rfl|exact Al (Aw rfl)|exact Al (Al rfl)) (by decide) (by decide)) dG rfl) rfl) rfl (by decide) rfl (by decide) rfl rfl) dL rfl) (@bT _ _ _ _ _ _ _ _ _ _ _ _ _ _ _ _ _ (RW (K:=K) rfl) U7 dL (@vv _ _ _ _ _ 1 rfl (by first|exact Aw rfl|exact Al (Aw rfl)|exact Al (Al rfl)) (by decide) (by decide)) rfl) rfl) dL rfl) dL rfl) rfl)) rfl (by first|exact .inl rfl|exact .inr rfl) (by decide) rfl (by first|exact .inl rfl|exact .inr rfl|assumption))
  exact dF (c5 (ZL UP P5 (ZL UP P5 (ZL UP P5 (ZL zE5 zGD (vv 3) dL) dL) dL) (vv 2)))
noncomputable abbrev Nx27:List Str:=["_law_script","_law_town","_law_bound"]
noncomputable abbrev JH:List Str:=["_law_script","_law_town","_law_bound"]
theorem zDB:cV Nx27 JH (dH (top 93)):=Z5
theorem zEI(F:ZH K "_law_draw" "_law_draw" (top 93) f fd) (T:W5 K mg) (j5:cL P w K mg base "_law_mixed" 2 Qx26 [] ZF f_x26):
  bU P w K mg base CX0 3 f fd JH (spV K [1] 3 cG):=
 U3 P w K mg base Nx27 JH 2 UD [1] F zDB fun _ _ _ _ _ _ hr hu hu1=>by
  refine dI ?_ ?_
  ·exact(aB (K:=K) rfl Br Bt aY XO (pv 1) (cZ (dO dL dE)))
  exact dF (c5 (cF j5 hr (dJ (vv 0) (dJ (dC (Y4 T.n_len (vo 1))) (dJ (vv 2) dG)))))
noncomputable abbrev Nx28:List Str:=["_law_script","_law_town","_law_some"]
noncomputable abbrev JI:List Str:=["_law_script","_law_town","_law_some"]
theorem zDA:cV Nx28 JI (dH (top 94)):=Z5
theorem zEH(F:ZH K "_law_pick" "_law_pick" (top 94) f fd) (T:W5 K mg) (al:cL P w K mg base "_law_draw" 3 JH [1] cG f_x27):
  bU P w K mg base CX0 4 f fd JI (spV K [1] 3 b8):=
 U3 P w K mg base Nx28 JI 3 UF [1] F zDA fun _ _ _ _ _ _ hr hu hu1=>by exact(dF (c5 (YH hu1 (vv 2) (cF al hr (dJ (vv 0) (bP (pv 1) (dJ (dC (Y4 T.n_len (vv 2))) dG)))))))
noncomputable abbrev Nx29:List Str:=["_law_script","_law_town","_law_seen","_law_deed","_law_room"]
noncomputable abbrev Qx29:List Str:=["_law_script","_law_town","_law_seen","_law_deed","_law_room"]
theorem zD9:cV Nx29 Qx29 (dH (top 95)):=Z5
theorem zEG(F:ZH K "_law_place" "_law_place" (top 95) f fd) (T:W5 K mg) (al:cL P w K mg base "_law_draw" 3 JH [1] cG f_x27) (ar:cL P w K mg base "_law_pick" 4 JI [1] b8 f_x28):
  bU P w K mg base CX0 5 f fd Qx29 (spV K [1,2] 5 bH):=
 U3 P w K mg base Nx29 Qx29 4 VW [1,2] F zD9 fun _ _ _ _ _ _ hr hu hu1=>by
  refine dI ?_ ?_
  ·exact(zA9 hu1 (pv 2) (vv 3) (dC (ZL UP P5 (bT (XU (K:=K) rfl) Y7 (C4 hu1 (pv 2) (vv 3) (dC (cF al hr (dJ (vv 0) (bP (pv 1) (dJ (vv 4) dG))))) ⟨rfl,rfl,rfl,rfl⟩) (cF ar hr (dJ (vv 0) (bP (pv 1) (dJ (cJ (b7 (cZ (dO dL (dO dL (dO dL (dO dL (dO dL dE)))))))) dG))))) (vv 4))) rfl)
  exact dF (c5 (YH hu1 (vo 2) (vv 3)))
noncomputable abbrev Nx30:List Str:=["_law_script","_law_town","_law_made","_law_seen","_law_room","_law_kind","_law_a","_law_b","_law_c"]
noncomputable abbrev Qx30:List Str:=["_law_script","_law_town","_law_made","_law_seen","_law_room"]
theorem P6:cV Nx30 Qx30 (dH (top 96)):=Z5
theorem zEF(F:ZH K "_law_row" "_law_row" (top 96) f fd) (T:W5 K mg) (al:cL P w K mg base "_law_draw" 3 JH [1] cG f_x27) (ar:cL P w K mg base "_law_pick" 4 JI [1] b8 f_x28) (d7:cL P w K mg base "_law_place" 5 Qx29 [1,2] bH f_x29):
  bU P w K mg base CX0 6 f fd Qx30 (spV K [1,3] 5 YA):=
 U3 P w K mg base Nx30 Qx30 5 RS [1,3] F P6 fun _ _ _ _ _ _ hr hu hu1=>by
  refine dI ?_ ?_
  ·exact(bS P6.nd (ZW (dC (cF al hr (dJ (vv 0) (bP (pv 1) (dJ dL dG)))))))
  refine dI ?_ ?_
  ·exact(b4 (W2 (ZB (X8 hu (vv 2) (cJ (b7 (cZ dE)))) (aC (X8 hu (vv 5) dL))))
   (dI (b4 (X8 hu (cF al hr (dJ (vv 0) (bP (pv 1) (dJ dL dG)))) dL)
   (dF (c5 (cT (dO cN (dO (cF ar hr (dJ (vv 0) (bP (pv 1) (dJ (cJ (b7 (cZ (dO dL (dO dL (dO dL (dO dL (dO dL (dO (cF al hr (dJ (vv 0) (bP (pv 1) (dJ dL dG)))) dE))))))))) dG)))) dE)))))
   cR)
   (dF (c5 (cT (dO cN (dO (cF d7 hr (dJ (vv 0) (bP (pv 1) (bP (pv 3) (dJ cN (dJ (vv 4) dG)))))) dE))))))
   cR)
  refine dI ?_ ?_
  ·exact (US (cJ (aN ["_law_script","_law_town","_law_made","_law_k"] [0,1,2] 1 (ZZ (by rfl) T.n_range dL) (fun hn _ _ _ _ => ⟨(c8 hn),ZO,(dC (YH hu1 (vv 2) (Y3 (EA rfl) zGG (by rfl) T.n_max zFO dL (ZL XQ UZ (ZL XQ UZ (Y4 T.n_len (vv 2)) dL) (cF al hr (dJ (vv 0) (bP (pv 1) (dJ dL dG))))))))⟩))) (Z4 (K := K) rfl rfl (cY (c8 P6.nd) (cY (c8 P6.nd) (cY (c8 P6.nd) aU)))))
  refine dI ?_ ?_
  ·exact (b4 (b9 (RV (K := K) rfl hu) (X6 (neg := false)) (vv 5) (cT (dO dL (dO dL dE))) (by with_unfolding_all rfl))
   (dF (c5 (cT (dO cN (dO (cF d7 hr (dJ (vv 0) (bP (pv 1) (bP (pv 3) (dJ cN (dJ (vv 4) dG)))))) dE)))))
   cR)
  refine dI ?_ ?_
  ·exact(b4 (X8 hu (vv 5) dL)
   (dF (c5 (cT (dO cN (dO (cF d7 hr (dJ (vv 0) (bP (pv 1) (bP (pv 3) (dJ cN (dJ (vv 4) dG)))))) (dO (vv 8) (dO (vv 6) dE)))))))
   cR)
  refine dI ?_ ?_
  ·exact (b4 (b9 (RV (K := K) rfl hu) (X6 (neg := false)) (vv 5) (cT (dO dL (dO dL dE))) (by with_unfolding_all rfl))
   (dF (c5 (cT (dO cN (dO (cF d7 hr (dJ (vv 0) (bP (pv 1) (bP (pv 3) (dJ cN (dJ (vv 4) dG)))))) (dO (vv 6) dE))))))
   cR)
  refine dI ?_ ?_
  ·exact(b4 (X8 hu (vv 5) dL)
   (dF (c5 (cT (dO cN (dO (cF d7 hr (dJ (vv 0) (bP (pv 1) (bP (pv 3) (dJ cN (dJ (vv 4) dG)))))) (dO (vv 6) (dO (vv 8) dE)))))))
   cR)
  refine dI ?_ ?_
  ·exact(b4 (X8 hu (vv 5) dL)
   (dF (c5 (cT (dO cN (dO (vv 8) (dO (vv 6) (dO (vv 7) dE)))))))
   cR)
  exact dF (@c5 _ _ _ _ _ _ _ _ _ (@cT _ _ _ _ _ _ _ _ _ (@dO _ _ _ _ _ _ _ _ _ _ _ _ (@YH _ _ _ _ _ _ _ _ _ _ _ _ _ _ hu1 (@cJ _ _ _ _ _ _ (@b7 _ _ _ _ _ _ _ (@cZ _ _ _ _ _ _ _ (@dO _ _ _ _ _ _ _ _ _ _ _ _ cN (@dO _ _ _ _ _ _ _ _ _ _ _ _ cN (@dO _ _ _ _ _ _ _ _ _ _ _ _ cN (@dO _ _ _ _ _ _ _ _ _ _ _ _ cN (@dO _ _ _ _ _ _ _ _ _ _ _ _ cN (@dO _ _ _ _ _ _ _ _ _ _ _ _ cN (@dO _ _ _ _ _ _ _ _ _ _ _ _ cN dE rfl rfl rfl) rfl rfl rfl) rfl rfl rfl) rfl rfl rfl) rfl rfl rfl) rfl rfl rfl) rfl rfl rfl) rfl))) (@cF _ _ _ _ _ _ _ _ _ _ _ _ _ _ _ _ _ al hr (@dJ _ _ _ _ _ _ _ _ _ (@vv _ _ _ _ _ 0 rfl (by first|exact Aw rfl|exact Al (Aw rfl)|exact Al (Al rfl)) (by decide) (by decide)) (@bP _ _ _ _ _ _ _ _ (pv 1) (@dJ _ _ _ _ _ _ _ _ _ dL dG rfl) rfl) rfl) rfl (by decide) rfl (by decide) rfl rfl) rfl (by exact fun _ _=>rfl) rfl) (@dO _ _ _ _ _ _ _ _ _ _ _ _ (@vv _ _ _ _ _ 6 rfl (by first|exact Aw rfl|exact Al (Aw rfl)|exact Al (Al rfl)) (by decide) (by decide)) (@dO _ _ _ _ _ _ _ _ _ _ _ _ (@vv _ _ _ _ _ 7 rfl (by first|exact Aw rfl|exact Al (Aw rfl)|exact Al (Al rfl)) (by decide) (by decide)) dE rfl rfl rfl) rfl rfl rfl) rfl rfl rfl)) rfl)
noncomputable abbrev Nx31:List Str:=["_law_e","_law_own"]
noncomputable abbrev Qx31:List Str:=["_law_e"]
theorem CK:cV Nx31 Qx31 (dH (top 97)):=Z5
theorem zEE(F:ZH K "_law_which" "_law_which" (top 97) f fd) (T:W5 K mg):
  FnH P w K mg base 1 f fd Qx31 (spV K [] 1 ZG):=
 okWH P w K mg base Nx31 Qx31 0 Q8 [] F CK fun _ _ _ _ _ hr hu hu1=>by
  refine dI ?_ ?_
  ·exact (@bS _ _ _ _ _ _ _ _ _ CK.nd (@U1 _ _ _ _ _ _ (@b7 _ _ _ _ _ _ _ (@cZ _ _ _ _ _ _ _ (@dO _ _ _ _ _ _ _ _ _ _ _ _ (@Y3 _ _ _ _ _ _ _ _ _ _ _ _ _ _ _ _ _ _ _ (UJ (K := K) rfl) (X7 T.xi) (by rfl) T.n_isinstance cK (@vv _ _ _ _ _ 0 rfl (by first | exact Aw rfl | exact Al (Aw rfl) | exact Al (Al rfl)) (by decide) (by decide)) (@c6 _ _ _ _ _ _ (by rfl) T.v_NoBlock (by decide)) (by decide) (by decide) rfl rfl rfl rfl) (@dO _ _ _ _ _ _ _ _ _ _ _ _ (@Y3 _ _ _ _ _ _ _ _ _ _ _ _ _ _ _ _ _ _ _ (UJ (K := K) rfl) (X7 T.xi) (by rfl) T.n_isinstance cK (@vv _ _ _ _ _ 0 rfl (by first | exact Aw rfl | exact Al (Aw rfl) | exact Al (Al rfl)) (by decide) (by decide)) (@c6 _ _ _ _ _ _ (by rfl) T.v_NoCells (by decide)) (by decide) (by decide) rfl rfl rfl rfl) (@dO _ _ _ _ _ _ _ _ _ _ _ _ (@Y3 _ _ _ _ _ _ _ _ _ _ _ _ _ _ _ _ _ _ _ (UJ (K := K) rfl) (X7 T.xi) (by rfl) T.n_isinstance cK (@vv _ _ _ _ _ 0 rfl (by first | exact Aw rfl | exact Al (Aw rfl) | exact Al (Al rfl)) (by decide) (by decide)) (@c6 _ _ _ _ _ _ (by rfl) T.v_NoRow (by decide)) (by decide) (by decide) rfl rfl rfl rfl) (@dO _ _ _ _ _ _ _ _ _ _ _ _ (@Y3 _ _ _ _ _ _ _ _ _ _ _ _ _ _ _ _ _ _ _ (UJ (K := K) rfl) (X7 T.xi) (by rfl) T.n_isinstance cK (@vv _ _ _ _ _ 0 rfl (by first | exact Aw rfl | exact Al (Aw rfl) | exact Al (Al rfl)) (by decide) (by decide)) (@c6 _ _ _ _ _ _ (by rfl) T.v_NoLanes (by decide)) (by decide) (by decide) rfl rfl rfl rfl) dE rfl rfl rfl) rfl rfl rfl) rfl rfl rfl) rfl rfl rfl) rfl))) rfl (by first | exact .inl rfl | exact .inr rfl) (by decide) rfl (by first | exact .inl rfl | exact .inr rfl | assumption))
  refine dI ?_ ?_
  ·exact (@aB _ _ _ _ _ _ _ _ _ _ _ _ _ _ _ _ _ rfl Ce Cf (Q9 (K := K) rfl) V0 (pv 1) (@cZ _ _ _ _ _ _ _ (@dO _ _ _ _ _ _ _ _ _ _ _ _ (@cJ _ _ _ _ _ _ (@b7 _ _ _ _ _ _ _ (@cZ _ _ _ _ _ _ _ (@dO _ _ _ _ _ _ _ _ _ _ _ _ (@Y3 _ _ _ _ _ _ _ _ _ _ _ _ _ _ _ _ _ _ _ (UJ (K := K) rfl) (X7 T.xi) (by rfl) T.n_isinstance cK (@vv _ _ _ _ _ 0 rfl (by first | exact Aw rfl | exact Al (Aw rfl) | exact Al (Al rfl)) (by decide) (by decide)) (@c6 _ _ _ _ _ _ (by rfl) T.v_NoPlan (by decide)) (by decide) (by decide) rfl rfl rfl rfl) (@dO _ _ _ _ _ _ _ _ _ _ _ _ (@Y3 _ _ _ _ _ _ _ _ _ _ _ _ _ _ _ _ _ _ _ (UJ (K := K) rfl) (X7 T.xi) (by rfl) T.n_isinstance cK (@vv _ _ _ _ _ 0 rfl (by first | exact Aw rfl | exact Al (Aw rfl) | exact Al (Al rfl)) (by decide) (by decide)) (@c6 _ _ _ _ _ _ (by rfl) T.v_NoProgram (by decide)) (by decide) (by decide) rfl rfl rfl rfl) (@dO _ _ _ _ _ _ _ _ _ _ _ _ (@Y3 _ _ _ _ _ _ _ _ _ _ _ _ _ _ _ _ _ _ _ (UJ (K := K) rfl) (X7 T.xi) (by rfl) T.n_isinstance cK (@vv _ _ _ _ _ 0 rfl (by first | exact Aw rfl | exact Al (Aw rfl) | exact Al (Al rfl)) (by decide) (by decide)) (@c6 _ _ _ _ _ _ (by rfl) T.v_NoTree (by decide)) (by decide) (by decide) rfl rfl rfl rfl) (@dO _ _ _ _ _ _ _ _ _ _ _ _ (@Y3 _ _ _ _ _ _ _ _ _ _ _ _ _ _ _ _ _ _ _ (UJ (K := K) rfl) (X7 T.xi) (by rfl) T.n_isinstance cK (@vv _ _ _ _ _ 0 rfl (by first | exact Aw rfl | exact Al (Aw rfl) | exact Al (Al rfl)) (by decide) (by decide)) (@c6 _ _ _ _ _ _ (by rfl) T.v_NoLoop (by decide)) (by decide) (by decide) rfl rfl rfl rfl) dE rfl rfl rfl) rfl rfl rfl) rfl rfl rfl) rfl rfl rfl) rfl))) dE rfl rfl rfl) rfl) rfl rfl rfl rfl rfl rfl)
  refine dI ?_ ?_
  ·exact (@aB _ _ _ _ _ _ _ _ _ _ _ _ _ _ _ _ _ rfl Ce Cf (Q9 (K := K) rfl) V0 (pv 1) (@cZ _ _ _ _ _ _ _ (@dO _ _ _ _ _ _ _ _ _ _ _ _ (@cJ _ _ _ _ _ _ (@b7 _ _ _ _ _ _ _ (@cZ _ _ _ _ _ _ _ (@dO _ _ _ _ _ _ _ _ _ _ _ _ (@Y3 _ _ _ _ _ _ _ _ _ _ _ _ _ _ _ _ _ _ _ (UJ (K := K) rfl) (X7 T.xi) (by rfl) T.n_isinstance cK (@vv _ _ _ _ _ 0 rfl (by first | exact Aw rfl | exact Al (Aw rfl) | exact Al (Al rfl)) (by decide) (by decide)) (@c6 _ _ _ _ _ _ (by rfl) T.v_NoText (by decide)) (by decide) (by decide) rfl rfl rfl rfl) (@dO _ _ _ _ _ _ _ _ _ _ _ _ (@Y3 _ _ _ _ _ _ _ _ _ _ _ _ _ _ _ _ _ _ _ (UJ (K := K) rfl) (X7 T.xi) (by rfl) T.n_isinstance cK (@vv _ _ _ _ _ 0 rfl (by first | exact Aw rfl | exact Al (Aw rfl) | exact Al (Al rfl)) (by decide) (by decide)) (@c6 _ _ _ _ _ _ (by rfl) T.v_NoName (by decide)) (by decide) (by decide) rfl rfl rfl rfl) (@dO _ _ _ _ _ _ _ _ _ _ _ _ (@Y3 _ _ _ _ _ _ _ _ _ _ _ _ _ _ _ _ _ _ _ (UJ (K := K) rfl) (X7 T.xi) (by rfl) T.n_isinstance cK (@vv _ _ _ _ _ 0 rfl (by first | exact Aw rfl | exact Al (Aw rfl) | exact Al (Al rfl)) (by decide) (by decide)) (@c6 _ _ _ _ _ _ (by rfl) T.v_TooMany (by decide)) (by decide) (by decide) rfl rfl rfl rfl) (@dO _ _ _ _ _ _ _ _ _ _ _ _ (@Y3 _ _ _ _ _ _ _ _ _ _ _ _ _ _ _ _ _ _ _ (UJ (K := K) rfl) (X7 T.xi) (by rfl) T.n_isinstance cK (@vv _ _ _ _ _ 0 rfl (by first | exact Aw rfl | exact Al (Aw rfl) | exact Al (Al rfl)) (by decide) (by decide)) (@c6 _ _ _ _ _ _ (by rfl) T.v_TooLong (by decide)) (by decide) (by decide) rfl rfl rfl rfl) dE rfl rfl rfl) rfl rfl rfl) rfl rfl rfl) rfl rfl rfl) rfl))) dE rfl rfl rfl) rfl) rfl rfl rfl rfl rfl rfl)
  refine dI ?_ ?_
  ·exact (@aB _ _ _ _ _ _ _ _ _ _ _ _ _ _ _ _ _ rfl Ce Cf (Q9 (K := K) rfl) V0 (pv 1) (@cZ _ _ _ _ _ _ _ (@dO _ _ _ _ _ _ _ _ _ _ _ _ (@cJ _ _ _ _ _ _ (@b7 _ _ _ _ _ _ _ (@cZ _ _ _ _ _ _ _ (@dO _ _ _ _ _ _ _ _ _ _ _ _ (@Y3 _ _ _ _ _ _ _ _ _ _ _ _ _ _ _ _ _ _ _ (UJ (K := K) rfl) (X7 T.xi) (by rfl) T.n_isinstance cK (@vv _ _ _ _ _ 0 rfl (by first | exact Aw rfl | exact Al (Aw rfl) | exact Al (Al rfl)) (by decide) (by decide)) (@c6 _ _ _ _ _ _ (by rfl) T.v_NotValid (by decide)) (by decide) (by decide) rfl rfl rfl rfl) (@dO _ _ _ _ _ _ _ _ _ _ _ _ (@Y3 _ _ _ _ _ _ _ _ _ _ _ _ _ _ _ _ _ _ _ (UJ (K := K) rfl) (X7 T.xi) (by rfl) T.n_isinstance cK (@vv _ _ _ _ _ 0 rfl (by first | exact Aw rfl | exact Al (Aw rfl) | exact Al (Al rfl)) (by decide) (by decide)) (@c6 _ _ _ _ _ _ (by rfl) T.v_Nothing (by decide)) (by decide) (by decide) rfl rfl rfl rfl) dE rfl rfl rfl) rfl rfl rfl) rfl))) dE rfl rfl rfl) rfl) rfl rfl rfl rfl rfl rfl)
  refine dI ?_ ?_
  ·exact (b4 (W2 (ZB (b9 (J4 (K := K) rfl hu) KW (zBV rfl PySem.F.slot_list_count PySem.F.type_list_count (zBD (K := K) rfl) AZ (vo 1) aK) dL (bK _)) (aC (a5 (a7 (Y3 (UJ (K := K) rfl) (X7 T.xi) (by rfl) T.n_isinstance cK (vv 0) (DC T.n_ValueError OH)))))))
   (dF (c5 (cT (dO cN (dO (QE dL) dE)))))
   cR)
  exact dF (c5 (cT (dO cN (dO (zBV rfl Jx Jy (zBC (K:=K) rfl) A0 (vo 1) aK) dE))))
noncomputable abbrev Nx32:List Str:=["_law_script","_law_town","_law_turns","_law_rows","_law_made","_law_seen","_law_again","_law_row_here","_law_more","_law_base","_law_at"]
noncomputable abbrev Qx32:List Str:=["_law_script","_law_town"]
theorem XS:cV Nx32 Qx32 (dH (top 98)):=Z5
theorem zED(F:ZH K "_law_loop" "_law_loop" (top 98) f fd) (T:W5 K mg) (al:cL P w K mg base "_law_draw" 3 JH [1] cG f_x27) (ar:cL P w K mg base "_law_pick" 4 JI [1] b8 f_x28) (j4:cL P w K mg base "_law_row" 6 Qx30 [1,3] YA f_x30):
  bU P w K mg base CX0 7 f fd Qx32 (spV K [1] 2 Z0):=
 U3 P w K mg base Nx32 Qx32 6 UE [1] F XS fun _ _ _ _ _ _ hr hu hu1=>by
  refine dI ?_ ?_
  ·exact (zA7 (i := 2) (j := 3) (k := 4) (l := 5) rfl rfl XS.nd rfl rfl rfl rfl (by decide) (Aw rfl) (Aw rfl) (Aw rfl) (Aw rfl) (ZW (dC (bT (XU (K := K) rfl) Y7 dL (cF al hr (dJ (vv 0) (bP (pv 1) (dJ dL dG))))))) (U1 (b7 (cZ dE))) (U1 (b7 (cZ dE))) (U1 C8))
  refine dI ?_ ?_
  ·exact (W1 Ea rfl (ZZ (by rfl) T.n_range (bT (XU (K := K) rfl) Y7 dL (cF al hr (dJ (vv 0) (bP (pv 1) (dJ dL dG)))))) (c8 XS.nd)
   (dI (b4 (X8 hu (cF al hr (dJ (vv 0) (bP (pv 1) (dJ dL dG)))) dL)
   (dF (aB (K:=K) rfl Br Bt aY XO (pv 3) (cZ (dO (cT (dO cN (dO dL (dO (cF al hr (dJ (vv 0) (bP (pv 1) (dJ (dC (cF ar hr (dJ (vv 0) (bP (pv 1) (dJ (cJ (b7 (cZ (dO dL (dO dL dE))))) dG))))) dG)))) dE)))) dE))))
   (dI (bS XS.nd (ZW (dC (cF j4 hr (dJ (vv 0) (bP (pv 1) (bP (pv 4) (bP (pv 5) (dJ dL dG)))))))))
   (dI (b4 (b9 (RV (K:=K) rfl hu) (X6 (neg:=false)) (YH hu1 (vv 7) dL) (cT (dO cN (dO cN (dO cN (dO cN dE))))) (by with_unfolding_all rfl))
   (dI (bS XS.nd (ZW (dC (cF ar hr (dJ (vv 0) (bP (pv 1) (dJ (cJ (b7 (cZ (dO dL (dO dL (dO dL (dO dL (dO dL (dO (QE dL) (dO dL dE)))))))))) dG)))))))
   (dI (bS XS.nd (ZW (dC (bT (XU (K:=K) rfl) Y7 (YH hu1 (vv 7) dL) (cF ar hr (dJ (vv 0) (bP (pv 1) (dJ (cJ (b7 (cZ (dO dL (dO dL (dO dL (dO dL dE))))))) dG))))))))
   (dI (b4 (a5 (QH RE RE KU KU dL (bT (XU (K:=K) rfl) Y7 (vv 9) (bT (RW (K:=K) rfl) U7 (vv 8) (ZL XQ UZ (vv 2) dL))) dL))
   (dF (bS XS.nd (ZW dL)))
   cR)
   (dF (bS XS.nd (ZW (dC (bT (XU (K:=K) rfl) Y7 (cT (dO (YH hu1 (vv 7) dL) (dO (cT (dO (vv 9) (dO (vv 8) dE))) dE))) (C5 rfl (vv 7) (DA dL) C9)))))))))
   cR)
   (dF (aB (K:=K) rfl Br Bt aY XO (pv 3) (cZ (dO (vv 7) dE)))))))
   (dF (b4 (b9 (GJ (K:=K) rfl hu) (X6 (neg:=true)) (YH hu1 (YH hu1 (vo 3) (QE dL)) dL) (cT (dO cN (dO cN dE))) (by with_unfolding_all rfl))
   (dF (aB (K:=K) rfl Br Bt aY XO (pv 4) (cZ (dO (ZL XQ UZ (Y4 T.n_len (vo 3)) dL) dE))))
   cR))))
  refine dI ?_ ?_
  ·exact (W1 Ea rfl (VH rfl (by rfl) T.n_enumerate (cJ (zFU (zF8 (K := K) rfl) MH (by rfl) T.MH F6 (zFW (vo 3))))) (Z4 (K := K) rfl rfl (cY (c8 XS.nd) (cY (c8 XS.nd) aU)))
   (dF (b4 (X8 hu (YH hu1 (vv 7) dL) cN)
   (dF (zCS rfl (pv 3) (vv 10) (dC (cT (dO cN (dO (cF ar hr (dJ (vv 0) (bP (pv 1) (bP (pv 4) dG)))) (dO (YH hu1 (vv 7) dL) dE)))))))
   cR)))
  exact dF (c5 (cT (dO (cF ar hr (dJ (vv 0) (bP (pv 1) (dJ (cJ (b7 (cZ (dO dL (dO dL (dO dL (dO dL dE))))))) dG)))) (dO (vv 2) (dO (C2 (ME (K:=K) rfl) LP (by rfl) T.n_tuple YQ (vo 3)) dE)))))
noncomputable abbrev Nx33:List Str:=["_law_what","_law_thing","_law_more","_law_e"]
noncomputable abbrev Qx33:List Str:=["_law_what","_law_thing","_law_more"]
theorem CL:cV Nx33 Qx33 (dH (top 99)):=Z5
theorem zEC(F:ZH K "_law_ask" "_law_ask" (top 99) f fd) (T:W5 K mg) (dh:cL P w K mg base "unrolled" 9 QY [] YW f_x22) (gy:cL P w K mg base "reach" 9 OE [] SG f_x24) (gm:DefH P w K mg base "_law_which" 1 Qx31 (spV K [] 1 ZG) f_x31) (gl:T5 P w K mg base "run_loop" 9 Qx20 YX f_x20) (ck:T5 P w K mg base "unrolled" 9 QY YY f_x22) (eh:FY P w K mg base "turn_plan" 10 "loop" "lanes" ZJ f_x23) (gj:T5 P w K mg base "reach" 9 OE QM f_x24):
  bU P w K mg base CX0 11 f fd Qx33 (spV K [] 3 cI):=
 U3 P w K mg base Nx33 Qx33 10 U8 [] F CL fun _ _ _ _ _ _ hr hu hu1=>by
  exact(dF (zCR (i:=3) rfl rfl rfl CL.nd rfl rfl (by decide) (by rfl) (fun _=>T.fnm _ _)
   (dI (b4 (b9 GV s_lt (vv 0) dL (bK _))
   (dF (c5 (K7 (TR (K:=K) rfl T.fnm hr dh (by decide) (TR (K:=K) rfl T.fnm hr gy (by decide) G8)) (YH hu1 (cJ (b7 (cZ (dO (c6 (by rfl) T.v_unrolled) (dO (c6 (by rfl) T.v_reach) dE))))) (vv 0)) (dJ (vv 1) dG))))
   cR)
   (dF (c5 (TW (X8 hu (vv 0) dL) K9 K9))))
   (fun _ _ _ hz=>(T3 (bF (LA (b9 GV s_lt (vv 0) dL (bK _)) (bF (DG (DF hz rfl rfl (N8 (K:=K) (kk:=9) (j:=10) (qs:=QY) rfl T.fnm hr ck (by decide) (N8 (K:=K) (kk:=9) (j:=10) (qs:=OE) rfl T.fnm hr gj (by decide) CS)) (YH hu1 (cJ (b7 (cZ (dO (c6 (by rfl) T.v_unrolled) (dO (c6 (by rfl) T.v_reach) dE))))) (vv 0)) (dJ (vv 1) dG)))) QI))
   (ZP (b4 (b9 GV s_lt (vv 0) dL (bK _))
   (dF (c5 (K7 (TR (K:=K) rfl T.fnm hr dh (by decide) (TR (K:=K) rfl T.fnm hr gy (by decide) G8)) (YH hu1 (cJ (b7 (cZ (dO (c6 (by rfl) T.v_unrolled) (dO (c6 (by rfl) T.v_reach) dE))))) (vv 0)) (dJ (vv 1) dG))))
   cR)
   (bF (DG (zCP (X8 hu (vv 0) dL) (VJ hz rfl gl hr (by decide) (by rfl) rfl (dJ (vv 1) (dJ (vv 2) dG))) (DE hz rfl eh hr (by decide) (by rfl) rfl (vv 1) (vv 2))))))))
   fun _=>(dF (c5 (zFX gm (hr.h.mark _) (dJ (vv 3) dG))))))
noncomputable abbrev Nx34:List Str:=["_law_load","_law_some"]
noncomputable abbrev Qx34:List Str:=[]
theorem IS:cV Nx34 Qx34 (dH (top 100)):=Z5
theorem zEB(F:ZH K "_law_bad_loops" "_law_bad_loops" (top 100) f fd) (T:W5 K mg):
  bU P w K mg base CX0 1 f fd Qx34 (spV K [] 0 aW):=
 U3 P w K mg base Nx34 Qx34 0 WI [] F IS fun _ _ _ _ _ _ hr hu hu1=>by
  refine dI ?_ ?_
  ·exact(@bS _ _ _ _ _ _ _ _ _ IS.nd (@ZW _ _ _ _ _ _ (@dC _ _ _ _ _ _ _ _ (@W0 _ _ _ 2 _ _ rfl) rfl)) rfl (by first|exact .inl rfl|exact .inr rfl) (by decide) rfl (by first|exact .inl rfl|exact .inr rfl|assumption))
  refine dI ?_ ?_
  ·exact(@bS _ _ _ _ _ _ _ _ _ IS.nd (@U1 _ _ _ _ _ _ (@b7 _ _ _ _ _ _ _ (@cZ _ _ _ _ _ _ _ (@dO _ _ _ _ _ _ _ _ _ _ _ _ (@cT _ _ _ _ _ _ _ _ _ (@dO _ _ _ _ _ _ _ _ _ _ _ _ dL (@dO _ _ _ _ _ _ _ _ _ _ _ _ dL (@dO _ _ _ _ _ _ _ _ _ _ _ _ (@cT _ _ _ _ _ _ _ _ _ (@dO _ _ _ _ _ _ _ _ _ _ _ _ (@vv _ _ _ _ _ 0 rfl (by first|exact Aw rfl|exact Al (Aw rfl)|exact Al (Al rfl)) (by decide) (by decide)) dE rfl rfl rfl)) dE rfl rfl rfl) rfl rfl rfl) rfl rfl rfl)) (@dO _ _ _ _ _ _ _ _ _ _ _ _ (@cT _ _ _ _ _ _ _ _ _ (@dO _ _ _ _ _ _ _ _ _ _ _ _ dL (@dO _ _ _ _ _ _ _ _ _ _ _ _ dL (@dO _ _ _ _ _ _ _ _ _ _ _ _ (@cT _ _ _ _ _ _ _ _ _ (@dO _ _ _ _ _ _ _ _ _ _ _ _ (@vv _ _ _ _ _ 0 rfl (by first|exact Aw rfl|exact Al (Aw rfl)|exact Al (Al rfl)) (by decide) (by decide)) dE rfl rfl rfl)) dE rfl rfl rfl) rfl rfl rfl) rfl rfl rfl)) (@dO _ _ _ _ _ _ _ _ _ _ _ _ (@W0 _ _ _ 2 _ _ rfl) (@dO _ _ _ _ _ _ _ _ _ _ _ _ (@cT _ _ _ _ _ _ _ _ _ (@dO _ _ _ _ _ _ _ _ _ _ _ _ dL (@dO _ _ _ _ _ _ _ _ _ _ _ _ dL (@dO _ _ _ _ _ _ _ _ _ _ _ _ (@bT _ _ _ _ _ _ _ _ _ _ _ _ _ _ _ _ _ (MD (K:=K) rfl) SQ (@cT _ _ _ _ _ _ _ _ _ (@dO _ _ _ _ _ _ _ _ _ _ _ _ (@vv _ _ _ _ _ 0 rfl (by first|exact Aw rfl|exact Al (Aw rfl)|exact Al (Al rfl)) (by decide) (by decide)) dE rfl rfl rfl)) dL rfl) dE rfl rfl rfl) rfl rfl rfl) rfl rfl rfl)) (@dO _ _ _ _ _ _ _ _ _ _ _ _ (@cT _ _ _ _ _ _ _ _ _ (@dO _ _ _ _ _ _ _ _ _ _ _ _ dL (@dO _ _ _ _ _ _ _ _ _ _ _ _ dL (@dO _ _ _ _ _ _ _ _ _ _ _ _ (@cT _ _ _ _ _ _ _ _ _ (@dO _ _ _ _ _ _ _ _ _ _ _ _ (@vv _ _ _ _ _ 0 rfl (by first|exact Aw rfl|exact Al (Aw rfl)|exact Al (Al rfl)) (by decide) (by decide)) dE rfl rfl rfl)) dE rfl rfl rfl) rfl rfl rfl) rfl rfl rfl)) (@dO _ _ _ _ _ _ _ _ _ _ _ _ (@cT _ _ _ _ _ _ _ _ _ (@dO _ _ _ _ _ _ _ _ _ _ _ _ aK (@dO _ _ _ _ _ _ _ _ _ _ _ _ dL (@dO _ _ _ _ _ _ _ _ _ _ _ _ (@cT _ _ _ _ _ _ _ _ _ (@dO _ _ _ _ _ _ _ _ _ _ _ _ (@vv _ _ _ _ _ 0 rfl (by first|exact Aw rfl|exact Al (Aw rfl)|exact Al (Al rfl)) (by decide) (by decide)) dE rfl rfl rfl)) dE rfl rfl rfl) rfl rfl rfl) rfl rfl rfl)) dE rfl rfl rfl) rfl rfl rfl) rfl rfl rfl) rfl rfl rfl) rfl rfl rfl) rfl rfl rfl) rfl))) rfl (by first|exact .inl rfl|exact .inr rfl) (by decide) rfl (by first|exact .inl rfl|exact .inr rfl|assumption))
  refine dI ?_ ?_
  ·exact(@aB _ _ _ _ _ _ _ _ _ _ _ _ _ _ _ _ _ rfl Ce Cf (Q9 (K:=K) rfl) V0 (pv 1) (@cZ _ _ _ _ _ _ _ (@dO _ _ _ _ _ _ _ _ _ _ _ _ (@cJ _ _ _ _ _ _ (@QF _ _ _ 4 _ _ _ rfl (by decide))) dE rfl rfl rfl) rfl) rfl rfl rfl rfl rfl rfl)
  refine dI ?_ ?_
  ·exact(@aB _ _ _ _ _ _ _ _ _ _ _ _ _ _ _ _ _ rfl Ce Cf (Q9 (K:=K) rfl) V0 (pv 1) (@cZ _ _ _ _ _ _ _ (@dO _ _ _ _ _ _ _ _ _ _ _ _ (@cJ _ _ _ _ _ _ (@QF _ _ _ 4 _ _ _ rfl (by decide))) dE rfl rfl rfl) rfl) rfl rfl rfl rfl rfl rfl)
  refine dI ?_ ?_
  ·exact(@aB _ _ _ _ _ _ _ _ _ _ _ _ _ _ _ _ _ rfl Ce Cf (Q9 (K:=K) rfl) V0 (pv 1) (@cZ _ _ _ _ _ _ _ (@dO _ _ _ _ _ _ _ _ _ _ _ _ (@cJ _ _ _ _ _ _ (@QF _ _ _ 3 _ _ _ rfl (by decide))) dE rfl rfl rfl) rfl) rfl rfl rfl rfl rfl rfl)
  refine dI ?_ ?_
  ·exact(@aB _ _ _ _ _ _ _ _ _ _ _ _ _ _ _ _ _ rfl Ce Cf (Q9 (K:=K) rfl) V0 (pv 1) (@cZ _ _ _ _ _ _ _ (@dO _ _ _ _ _ _ _ _ _ _ _ _ (@cJ _ _ _ _ _ _ (@b7 _ _ _ _ _ _ _ (@cZ _ _ _ _ _ _ _ (@dO _ _ _ _ _ _ _ _ _ _ _ _ (@cT _ _ _ _ _ _ _ _ _ (@dO _ _ _ _ _ _ _ _ _ _ _ _ dL (@dO _ _ _ _ _ _ _ _ _ _ _ _ dL (@dO _ _ _ _ _ _ _ _ _ _ _ _ (@cT _ _ _ _ _ _ _ _ _ (@dO _ _ _ _ _ _ _ _ _ _ _ _ (@vv _ _ _ _ _ 0 rfl (by first|exact Aw rfl|exact Al (Aw rfl)|exact Al (Al rfl)) (by decide) (by decide)) (@dO _ _ _ _ _ _ _ _ _ _ _ _ (@W0 _ _ _ 2 _ _ rfl) (@dO _ _ _ _ _ _ _ _ _ _ _ _ (@cT _ _ _ _ _ _ _ _ _ (@dO _ _ _ _ _ _ _ _ _ _ _ _ cN (@dO _ _ _ _ _ _ _ _ _ _ _ _ dL (@dO _ _ _ _ _ _ _ _ _ _ _ _ dL dE rfl rfl rfl) rfl rfl rfl) rfl rfl rfl)) dE rfl rfl rfl) rfl rfl rfl) rfl rfl rfl)) dE rfl rfl rfl) rfl rfl rfl) rfl rfl rfl)) (@dO _ _ _ _ _ _ _ _ _ _ _ _ (@cT _ _ _ _ _ _ _ _ _ (@dO _ _ _ _ _ _ _ _ _ _ _ _ dL (@dO _ _ _ _ _ _ _ _ _ _ _ _ dL (@dO _ _ _ _ _ _ _ _ _ _ _ _ (@cJ _ _ _ _ _ _ (@b7 _ _ _ _ _ _ _ (@cZ _ _ _ _ _ _ _ (@dO _ _ _ _ _ _ _ _ _ _ _ _ (@vv _ _ _ _ _ 0 rfl (by first|exact Aw rfl|exact Al (Aw rfl)|exact Al (Al rfl)) (by decide) (by decide)) dE rfl rfl rfl) rfl))) dE rfl rfl rfl) rfl rfl rfl) rfl rfl rfl)) (@dO _ _ _ _ _ _ _ _ _ _ _ _ (@cT _ _ _ _ _ _ _ _ _ (@dO _ _ _ _ _ _ _ _ _ _ _ _ dL (@dO _ _ _ _ _ _ _ _ _ _ _ _ dL (@dO _ _ _ _ _ _ _ _ _ _ _ _ (@cT _ _ _ _ _ _ _ _ _ (@dO _ _ _ _ _ _ _ _ _ _ _ _ (@vv _ _ _ _ _ 0 rfl (by first|exact Aw rfl|exact Al (Aw rfl)|exact Al (Al rfl)) (by decide) (by decide)) (@dO _ _ _ _ _ _ _ _ _ _ _ _ dL dE rfl rfl rfl) rfl rfl rfl)) dE rfl rfl rfl) rfl rfl rfl) rfl rfl rfl)) dE rfl rfl rfl) rfl rfl rfl) rfl rfl rfl) rfl))) dE rfl rfl rfl) rfl) rfl rfl rfl rfl rfl rfl)
  refine dI ?_ ?_
  ·exact(@aB _ _ _ _ _ _ _ _ _ _ _ _ _ _ _ _ _ rfl Ce Cf (Q9 (K:=K) rfl) V0 (pv 1) (@cZ _ _ _ _ _ _ _ (@dO _ _ _ _ _ _ _ _ _ _ _ _ (@cJ _ _ _ _ _ _ (@b7 _ _ _ _ _ _ _ (@cZ _ _ _ _ _ _ _ (@dO _ _ _ _ _ _ _ _ _ _ _ _ aA (@dO _ _ _ _ _ _ _ _ _ _ _ _ dL (@dO _ _ _ _ _ _ _ _ _ _ _ _ (@cT _ _ _ _ _ _ _ _ _ dE) (@dO _ _ _ _ _ _ _ _ _ _ _ _ (@cT _ _ _ _ _ _ _ _ _ (@dO _ _ _ _ _ _ _ _ _ _ _ _ dL (@dO _ _ _ _ _ _ _ _ _ _ _ _ dL dE rfl rfl rfl) rfl rfl rfl)) (@dO _ _ _ _ _ _ _ _ _ _ _ _ (@cJ _ _ _ _ _ _ (@b7 _ _ _ _ _ _ _ (@cZ _ _ _ _ _ _ _ (@dO _ _ _ _ _ _ _ _ _ _ _ _ dL (@dO _ _ _ _ _ _ _ _ _ _ _ _ dL (@dO _ _ _ _ _ _ _ _ _ _ _ _ (@cT _ _ _ _ _ _ _ _ _ (@dO _ _ _ _ _ _ _ _ _ _ _ _ (@vv _ _ _ _ _ 0 rfl (by first|exact Aw rfl|exact Al (Aw rfl)|exact Al (Al rfl)) (by decide) (by decide)) dE rfl rfl rfl)) dE rfl rfl rfl) rfl rfl rfl) rfl rfl rfl) rfl))) (@dO _ _ _ _ _ _ _ _ _ _ _ _ (@cT _ _ _ _ _ _ _ _ _ (@dO _ _ _ _ _ _ _ _ _ _ _ _ dL (@dO _ _ _ _ _ _ _ _ _ _ _ _ aA (@dO _ _ _ _ _ _ _ _ _ _ _ _ (@cT _ _ _ _ _ _ _ _ _ (@dO _ _ _ _ _ _ _ _ _ _ _ _ (@vv _ _ _ _ _ 0 rfl (by first|exact Aw rfl|exact Al (Aw rfl)|exact Al (Al rfl)) (by decide) (by decide)) dE rfl rfl rfl)) dE rfl rfl rfl) rfl rfl rfl) rfl rfl rfl)) (@dO _ _ _ _ _ _ _ _ _ _ _ _ (@W0 _ _ _ 3 _ _ rfl) dE rfl rfl rfl) rfl rfl rfl) rfl rfl rfl) rfl rfl rfl) rfl rfl rfl) rfl rfl rfl) rfl rfl rfl) rfl))) dE rfl rfl rfl) rfl) rfl rfl rfl rfl rfl rfl)
  exact dF (@c5 _ _ _ _ _ _ _ _ _ (@bT _ _ _ _ _ _ _ _ _ _ _ _ _ _ _ _ _ (XU (K:=K) rfl) Y7 (@vo _ _ _ _ _ 1 rfl (by first|exact Aw rfl|exact Al (Aw rfl)|exact Al (Al rfl)) (by decide) (by decide)) (@cJ _ _ _ _ _ _ (@b7 _ _ _ _ _ _ _ (@cZ _ _ _ _ _ _ _ (@dO _ _ _ _ _ _ _ _ _ _ _ _ (@cT _ _ _ _ _ _ _ _ _ (@dO _ _ _ _ _ _ _ _ _ _ _ _ dL (@dO _ _ _ _ _ _ _ _ _ _ _ _ dL (@dO _ _ _ _ _ _ _ _ _ _ _ _ (@cT _ _ _ _ _ _ _ _ _ (@dO _ _ _ _ _ _ _ _ _ _ _ _ (@vv _ _ _ _ _ 0 rfl (by first|exact Aw rfl|exact Al (Aw rfl)|exact Al (Al rfl)) (by decide) (by decide)) (@dO _ _ _ _ _ _ _ _ _ _ _ _ (@W0 _ _ _ 2 _ _ rfl) dE rfl rfl rfl) rfl rfl rfl)) dE rfl rfl rfl) rfl rfl rfl) rfl rfl rfl)) dE rfl rfl rfl) rfl))) rfl) rfl)
noncomputable abbrev Nx35:List Str:=["_law_script","_law_town","_law_loop_here","_law_bad","_law_wrong","_law_cells","_law_wide"]
noncomputable abbrev Qx35:List Str:=["_law_script"]
theorem UR:cV Nx35 Qx35 (dH (top 101)):=Z5
theorem zEA(F:ZH K "law" "law" (top 101) f fd) (T:W5 K mg) (bo:cL P w K mg base "is_loop" 7 HI [] cE f_x18) (ar:cL P w K mg base "_law_pick" 4 JI [1] b8 f_x28) (j3:cL P w K mg base "_law_loop" 7 Qx32 [1] Z0 f_x32) (cn:cL P w K mg base "_law_ask" 11 Qx33 [] cI f_x33) (iz:cL P w K mg base "_law_bad_loops" 1 Qx34 [] aW f_x34):
  bU P w K mg base CX0 12 f fd Qx35 (spV K [] 1 M3):=
 U3 P w K mg base Nx35 Qx35 11 AJ [] F UR fun _ _ _ _ _ _ hr hu hu1=>by
  refine dI ?_ ?_
  ·exact(bS UR.nd (U1 (b7 (cZ dE))))
  refine dI ?_ ?_
  ·exact(bS UR.nd (ZW (dC (cF j3 hr (dJ (vv 0) (bP (pv 1) dG))))))
  refine dI ?_ ?_
  ·exact(b4 (b9 QT MS (cF bo hr (dJ (vv 2) dG)) aK (bK _))
   (dF (c5 aK))
   cR)
  refine dI ?_ ?_
  ·exact (@bS _ _ _ _ _ _ _ _ _ UR.nd (@ZW _ _ _ _ _ _ (@dC _ _ _ _ _ _ _ _ (@cF _ _ _ _ _ _ _ _ _ _ _ _ _ _ _ _ _ ar hr (@dJ _ _ _ _ _ _ _ _ _ (@vv _ _ _ _ _ 0 rfl (by first | exact Aw rfl | exact Al (Aw rfl) | exact Al (Al rfl)) (by decide) (by decide)) (@bP _ _ _ _ _ _ _ _ (pv 1) (@dJ _ _ _ _ _ _ _ _ _ (@dC _ _ _ _ _ _ _ _ (@zFY _ _ _ _ _ _ _ _ _ _ _ iz hr rfl (by decide) rfl (by decide)) rfl) dG rfl) rfl) rfl) rfl (by decide) rfl (by decide) rfl rfl) rfl)) rfl (by first | exact .inl rfl | exact .inr rfl) (by decide) rfl (by first | exact .inl rfl | exact .inr rfl | assumption))
  refine dI ?_ ?_
  ·exact (@b4 _ _ _ _ _ _ _ _ _ _ _ (@W2 _ _ _ _ _ _ (@ZB _ _ _ _ _ _ _ _ _ _ _ (@b9 _ _ _ _ _ _ _ _ _ _ _ _ _ _ _ _ _ QT MS (@cF _ _ _ _ _ _ _ _ _ _ _ _ _ _ _ _ _ bo hr (@dJ _ _ _ _ _ _ _ _ _ (@vv _ _ _ _ _ 3 rfl (by first | exact Aw rfl | exact Al (Aw rfl) | exact Al (Al rfl)) (by decide) (by decide)) dG rfl) rfl (by decide) rfl (by decide) rfl rfl) aK (bK _) rfl) (@aC _ _ _ _ _ _ _ (@b9 _ _ _ _ _ _ _ _ _ _ _ _ _ _ _ _ _ (J4 (K := K) rfl hu) KW (@cJ _ _ _ _ _ _ (aN ["_law_bad","_law_what"] [3] 1 (@ZZ _ _ _ _ _ _ _ _ _ _ _ (by rfl) T.n_range dL rfl rfl) (fun hn _ _ _ _ => ⟨ (@c8 _ _ _ _ _ _ hn rfl (by first | exact .inl rfl | exact .inr rfl) (by decide) (by first | exact .inl rfl | exact .inr rfl | assumption)) ,ZO,(@dC _ _ _ _ _ _ _ _ (@cF _ _ _ _ _ _ _ _ _ _ _ _ _ _ _ _ _ cn hr (@dJ _ _ _ _ _ _ _ _ _ (@vv _ _ _ _ _ 1 rfl (by first | exact Aw rfl | exact Al (Aw rfl) | exact Al (Al rfl)) (by decide) (by decide)) (@dJ _ _ _ _ _ _ _ _ _ (@vv _ _ _ _ _ 0 rfl (by first | exact Aw rfl | exact Al (Aw rfl) | exact Al (Al rfl)) (by decide) (by decide)) (@dJ _ _ _ _ _ _ _ _ _ aA dG rfl) rfl) rfl) rfl (by decide) rfl (by decide) rfl rfl) rfl) ⟩))) (@bT _ _ _ _ _ _ _ _ _ _ _ _ _ _ _ _ _ (MD (K := K) rfl) SQ (@cJ _ _ _ _ _ _ (@QF _ _ _ 1 _ _ _ rfl (by decide))) dL rfl) (bK _) rfl)))) (@dF _ _ _ _ _ (@c5 _ _ _ _ _ _ _ _ _ aK rfl)) cR)
  refine dI ?_ ?_
  ·exact(W1 Ea rfl (Y2 rfl (cJ (b7 (cZ (dO aA (dO dL (dO dL (dO cN (dO aK dE))))))))) (c8 UR.nd)
   (dF (b4 (b9 (J4 (K:=K) rfl hu) KW (cF cn hr (dJ dL (dJ (vv 2) (dJ (vv 4) dG)))) (cT (dO cN (dO dL dE))) (bK _))
   (dF (c5 aK))
   cR)))
  refine dI ?_ ?_
  ·exact(W1 Ea rfl (Y2 rfl (cJ (b7 (cZ (dO aA (dO (cT (dO dL dE)) (dO (bT (MD (K:=K) rfl) SQ (cJ (b7 (cZ (dO dL dE)))) dL) (dO (bT (MD (K:=K) rfl) SQ (cJ (b7 (cZ (dO dL dE)))) dL) (dO (bT (MD (K:=K) rfl) SQ (cJ (b7 (cZ (dO cN dE)))) dL) dE))))))))) (c8 UR.nd)
   (dF (b4 (b9 (J4 (K:=K) rfl hu) KW (cF cn hr (dJ dL (dJ (vv 2) (dJ (vv 5) dG)))) (cT (dO cN (dO dL dE))) (bK _))
   (dF (c5 aK))
   cR)))
  refine dI ?_ ?_
  ·exact(@bS _ _ _ _ _ _ _ _ _ UR.nd (@ZW _ _ _ _ _ _ (@dC _ _ _ _ _ _ _ _ (@cT _ _ _ _ _ _ _ _ _ (@dO _ _ _ _ _ _ _ _ _ _ _ _ dL (@dO _ _ _ _ _ _ _ _ _ _ _ _ dL (@dO _ _ _ _ _ _ _ _ _ _ _ _ (@bT _ _ _ _ _ _ _ _ _ _ _ _ _ _ _ _ _ (MD (K:=K) rfl) SQ (@W0 _ _ _ 3 _ _ rfl) dL rfl) dE rfl rfl rfl) rfl rfl rfl) rfl rfl rfl)) rfl)) rfl (by first|exact .inl rfl|exact .inr rfl) (by decide) rfl (by first|exact .inl rfl|exact .inr rfl|assumption))
  refine dI ?_ ?_
  ·exact(@b4 _ _ _ _ _ _ _ _ _ _ _ (@W2 _ _ _ _ _ _ (@ZB _ _ _ _ _ _ _ _ _ _ _ (@b9 _ _ _ _ _ _ _ _ _ _ _ _ _ _ _ _ _ (J4 (K:=K) rfl hu) KW (@cJ _ _ _ _ _ _ (aN ["_law_wide","_law_what"] [6] 1 (@Y2 _ _ _ _ _ _ _ rfl (@dC _ _ _ _ _ _ _ _ (@cT _ _ _ _ _ _ _ _ _ (@dO _ _ _ _ _ _ _ _ _ _ _ _ dL (@dO _ _ _ _ _ _ _ _ _ _ _ _ dL dE rfl rfl rfl) rfl rfl rfl)) rfl)) (fun hn _ _ _ _=>⟨(@c8 _ _ _ _ _ _ hn rfl (by first|exact .inl rfl|exact .inr rfl) (by decide) (by first|exact .inl rfl|exact .inr rfl|assumption)),ZO,(@dC _ _ _ _ _ _ _ _ (@cF _ _ _ _ _ _ _ _ _ _ _ _ _ _ _ _ _ cn hr (@dJ _ _ _ _ _ _ _ _ _ (@vv _ _ _ _ _ 1 rfl (by first|exact Aw rfl|exact Al (Aw rfl)|exact Al (Al rfl)) (by decide) (by decide)) (@dJ _ _ _ _ _ _ _ _ _ (@vv _ _ _ _ _ 0 rfl (by first|exact Aw rfl|exact Al (Aw rfl)|exact Al (Al rfl)) (by decide) (by decide)) (@dJ _ _ _ _ _ _ _ _ _ dL dG rfl) rfl) rfl) rfl (by decide) rfl (by decide) rfl rfl) rfl)⟩))) (@bT _ _ _ _ _ _ _ _ _ _ _ _ _ _ _ _ _ (MD (K:=K) rfl) SQ (@cJ _ _ _ _ _ _ (@QF _ _ _ 1 _ _ _ rfl (by decide))) dL rfl) (bK _) rfl) (@aC _ _ _ _ _ _ _ (@b9 _ _ _ _ _ _ _ _ _ _ _ _ _ _ _ _ _ GW CG (@cF _ _ _ _ _ _ _ _ _ _ _ _ _ _ _ _ _ cn hr (@dJ _ _ _ _ _ _ _ _ _ dL (@dJ _ _ _ _ _ _ _ _ _ (@vv _ _ _ _ _ 6 rfl (by first|exact Aw rfl|exact Al (Aw rfl)|exact Al (Al rfl)) (by decide) (by decide)) (@dJ _ _ _ _ _ _ _ _ _ aA dG rfl) rfl) rfl) rfl (by decide) rfl (by decide) rfl rfl) aA (bK _) rfl)))) (@dF _ _ _ _ _ (@c5 _ _ _ _ _ _ _ _ _ aK rfl)) cR)
  refine dI ?_ ?_
  ·exact(@b4 _ _ _ _ _ _ _ _ _ _ _ (@W2 _ _ _ _ _ _ (@ZB _ _ _ _ _ _ _ _ _ _ _ (@b9 _ _ _ _ _ _ _ _ _ _ _ _ _ _ _ _ _ QT MS (@cF _ _ _ _ _ _ _ _ _ _ _ _ _ _ _ _ _ bo hr (@dJ _ _ _ _ _ _ _ _ _ (@dC _ _ _ _ _ _ _ _ (@W0 _ _ _ 4 _ _ rfl) rfl) dG rfl) rfl (by decide) rfl (by decide) rfl rfl) aK (bK _) rfl) (@aC _ _ _ _ _ _ _ (@b9 _ _ _ _ _ _ _ _ _ _ _ _ _ _ _ _ _ QT MS (@cF _ _ _ _ _ _ _ _ _ _ _ _ _ _ _ _ _ bo hr (@dJ _ _ _ _ _ _ _ _ _ (@dC _ _ _ _ _ _ _ _ (@cT _ _ _ _ _ _ _ _ _ (@dO _ _ _ _ _ _ _ _ _ _ _ _ dL (@dO _ _ _ _ _ _ _ _ _ _ _ _ dL (@dO _ _ _ _ _ _ _ _ _ _ _ _ (@bT _ _ _ _ _ _ _ _ _ _ _ _ _ _ _ _ _ (MD (K:=K) rfl) SQ (@W0 _ _ _ 3 _ _ rfl) dL rfl) dE rfl rfl rfl) rfl rfl rfl) rfl rfl rfl)) rfl) dG rfl) rfl (by decide) rfl (by decide) rfl rfl) aK (bK _) rfl)))) (@dF _ _ _ _ _ (@c5 _ _ _ _ _ _ _ _ _ aK rfl)) cR)
  exact dF (@c5 _ _ _ _ _ _ _ _ _ (@veq _ _ _ _ _ _ _ _ _ _ _ _ _ _ hu (@Y4 _ _ _ _ _ _ _ _ _ _ T.n_len (@YH _ _ _ _ _ _ _ _ _ _ _ _ _ _ hu1 (@YH _ _ _ _ _ _ _ _ _ _ _ _ _ _ hu1 (@cF _ _ _ _ _ _ _ _ _ _ _ _ _ _ _ _ _ cn hr (@dJ _ _ _ _ _ _ _ _ _ dL (@dJ _ _ _ _ _ _ _ _ _ (@dC _ _ _ _ _ _ _ _ (@cT _ _ _ _ _ _ _ _ _ (@dO _ _ _ _ _ _ _ _ _ _ _ _ dL (@dO _ _ _ _ _ _ _ _ _ _ _ _ dL (@dO _ _ _ _ _ _ _ _ _ _ _ _ (@bT _ _ _ _ _ _ _ _ _ _ _ _ _ _ _ _ _ (MD (K:=K) rfl) SQ (@W0 _ _ _ 3 _ _ rfl) dL rfl) dE rfl rfl rfl) rfl rfl rfl) rfl rfl rfl)) rfl) (@dJ _ _ _ _ _ _ _ _ _ aA dG rfl) rfl) rfl) rfl (by decide) rfl (by decide) rfl rfl) dL rfl (by exact fun _ _=>rfl) rfl) dL rfl (by exact fun _ _=>rfl) rfl) rfl rfl rfl) dL rfl rfl) rfl)
end
end RR
namespace L2
open PySem
theorem aI(a b:String):Az a=Az b↔a=b:=by
 refine⟨fun h=> ?_,fun h=>by rw[h]⟩
 rw[Ha,Ha] at h
 injection h with h
 have h2:a.toList.map Nd=b.toList.map Nd:=by simpa using h
 have h3:a.toList=b.toList:=by
  have inj: ∀(l m:List Char),l.map Nd=m.map Nd->l=m:=by
   intro l
   induction l with
   | nil => intro m h;cases m with
    |nil=>rfl
    |cons=>cases h
   | cons c l ih => intro m h;cases m with
    |nil=>cases h
    |cons e m=>
     simp only[Cq,Gx] at h
     rw[ih m h.2,Char.toNat_inj.mp h.1]
  exact inj _ _ h2
 exact String.toList_inj.mp h3
theorem FO(a:String):Ql (Az a)=true:=by
 unfold Ql
 rw[Ha]
 simp only[List.all_toArray,Qk,Cu,Function.comp,decide_eq_true_eq]
 intro c _
 have:=c.valid
 rcases this with h|⟨_,h⟩
 ·show c.val.toNat<1114112
  have:c.val.toNat<55296:=h
  omega
 ·exact h
def FA(k:Nat)(d:dM):Prop:=d.isD=true/\d.pd.canLay0=true/\d.pd.depth<=k
theorem MK{k:Nat}{i:Int}:FA k (.int i):=⟨rfl,rfl,Ek _⟩
theorem YE{k:Nat}{a:String}:FA k (.str (Az a)):=⟨rfl,by simp[dM.pd,Gb,FO],Ek _⟩
theorem GR{k:Nat}: ∀{ds:List dM},(∀d∈ds,FA k d)->OL ds=true/\Hg (DR ds)=true/\El (DR ds)<=k
 |[],_=>⟨rfl,rfl,Ek _⟩
 |d::ds,h=>by
  obtain⟨a1,a2,a3⟩:=h d Bg
  obtain⟨b1,b2,b3⟩:=GR fun e he=>h e (Av _ he)
  refine⟨by simp[OL,a1,b1],by simp[DR,Hg,a2,b2],?_⟩
  simp only[DR,El]
  omega
theorem zB2{k:Nat}{ds:List dM}(h: ∀d∈ds,FA k d):FA (k+1) (.tup ds):=by
 obtain⟨a,b,c⟩:=GR h
 exact⟨by simpa[dM.isD] using a,by simpa[dM.pd,Gb] using b,by simp only[dM.pd,Iy];omega⟩
theorem FA.ok{k:Nat}{d:dM}(h:FA k d)(hk:k<=64:=by decide):NX d=true:=by
 unfold NX Dz
 simp only[h.1,h.2.1,Qf,Ac,decide_eq_true_eq]
 have:=h.2.2
 omega
@[simp] theorem zIL{a:String}:NX (.str (Az a))=true:=(YE (k:=0)).ok
theorem ML{k:Nat}: ∀d∈([]:List dM),FA k d:=fun _ h=>nomatch h
theorem YS{k:Nat}{d:dM}{ds:List dM}(h:FA k d)(t: ∀d∈ds,FA k d): ∀e∈d::ds,FA k e:=fun e he=>by
 rcases Ao.mp he with z|z
 ·rw[z];exact h
 ·exact t e z
@[simp] theorem zLH{i j:Int}:eqD (.int i) (.int j)=decide (i=j):=by show(i==j)=_;rw[Kz]
@[simp] theorem zLG{a b:String}:eqD (.str (Az a)) (.str (Az b))=decide (a=b):=by
 show(Az a==Az b)=_
 rw[Kz]
 simp only[aI]
@[simp] theorem zKX{i j:Int}:WK (.int i) (.int j)=some (.bl (decide (i=j))):=by unfold WK;simp
@[simp] theorem zKJ{i j:Int}:KJ (.int i) (.int j)=some (.bl (!decide (i=j))):=by unfold KJ;simp
@[simp] theorem zKW{a b:String}:WK (.str (Az a)) (.str (Az b))=some (.bl (decide (a=b))):=by unfold WK;simp
theorem AX{j k:Nat}{neg:Bool}{d:dM}{ds:List dM}(h:FA j d)(h': ∀e∈ds,FA k e)(hj:j<=64:=by decide)(hk:k+1<=64:=by decide):X5 neg d (.tup ds)=some (.bl (if neg then !inE d ds else inE d ds)):=by
 unfold X5
 simp[h.ok hj,(zB2 h').ok hk]
@[simp] theorem zN0{d:dM}:inE d []=false:=(rfl)
@[simp] theorem zN1{d e:dM}{ds:List dM}:inE d (e::ds)=(eqD e d || inE d ds):=(rfl)
@[simp] theorem zMY{neg:Bool}{a b c:String}:X5 neg (.str (Az a)) (.tup [.str (Az b),.str (Az c)])=some (.bl (if neg then !(decide (b=a) || decide (c=a)) else decide (b=a) || decide (c=a))):=by
 rw[AX (j:=0) YE (YS (YE (k:=0)) (YS YE ML))]
 simp
@[simp] theorem zMX{neg:Bool}{a b c d e:String}:X5 neg (.str (Az a)) (.tup [.str (Az b),.str (Az c),.str (Az d),.str (Az e)])=some (.bl (if neg then !(decide (b=a) || (decide (c=a) || (decide (d=a) || decide (e=a)))) else decide (b=a) || (decide (c=a) || (decide (d=a) || decide (e=a))))):=by
 rw[AX (j:=0) YE (YS (YE (k:=0)) (YS YE (YS YE (YS YE ML))))]
 simp
@[simp] theorem zMZ{neg:Bool}{a b c:Int}:X5 neg (.int a) (.tup [.int b,.int c])=some (.bl (if neg then !(decide (b=a) || decide (c=a)) else decide (b=a) || decide (c=a))):=by
 rw[AX (j:=0) MK (YS (MK (k:=0)) (YS MK ML))]
 simp
noncomputable def OF(ns:List Int):dM:= .lst (ns.map .int)
noncomputable def OY(n:Nat):dM:= .lst (Ap n (.int 0))
theorem NQ: ∀ns:List Int,OL (ns.map dM.int)=true
 |[]=>rfl
 |n::ns=>by simp[OL,dM.isD,NQ ns]
theorem KN: ∀ns:List Int,DR (ns.map dM.int)=ns.map Mu
 |[]=>rfl
 |n::ns=>by simp[DR,dM.pd,KN ns]
theorem A2(ns:List Int):NX (.lst (ns.map .int))=true:=by
 unfold NX
 simp only[dM.isD,NQ,dM.pd,KN,Qf]
 exact KZ ns
theorem YK(ns:List Int):WK (.lst (ns.map .int)) (.lst [])=some (.bl ns.isEmpty):=by
 unfold WK
 rw[A2,show NX (.lst [])=true from by decide+kernel]
 cases ns<;>rfl
theorem NO: ∀n:Nat,WJ (Ap n (.int 0))=true
 |0=>rfl
 |n+1=>by simp[Em,WJ,dM.hard,NO n]
@[simp] theorem zHF(n:Nat):VY (OY n)=true:=NO n
theorem NG: ∀(ds:List dM) (a b:dM) (r:Int) (s:Sl),∃r' s',XM (gN 3) (aZ 2 (xV (f2 GP (fV 2) (fC (.int 1000003))))) ds [.va a,.va b,.va (.int r),s]=some (.nx [.va a,.va b,.va (.int r'),s'])
 |[],a,b,r,s=>⟨r,s,rfl⟩
 |d::ds,a,b,r,s=>by
  obtain⟨r',s',h⟩:=NG ds a b (r/1000003) (.va d)
  exact⟨r',s',by simp[cDiv,h]⟩
theorem MA{ns:List Int}{i:Int}(h0:0<=i)(h1:i<ns.length): ∃r∈ns,RK (ns.map dM.int) i=some (.int r):=by
 obtain⟨x,hx,e⟩:=HK (xs:=ns.map dM.int) h0 (by simpa using h1)
 obtain⟨r,hr,rfl⟩:=Hl.mp hx
 exact⟨r,hr,e⟩
theorem zBM(ns:List Int)(k:Nat)(hl:ns.length<=63)(hk:k<1000000): ∃r,bB [OF ns,.int k]=some (.int r,[]):=by
 unfold bB
 rw[bV]
 unfold XN WH OF
 by_cases h:(k:Int)<ns.length
 ·obtain ⟨r,_,e⟩ := MA (ns := ns) (i := k) (by omega) h
  exact⟨r,by simp[bW,h,e]⟩
 ·cases ns with
  |nil=>
   have h0: ¬((k:Int)<0):=by omega
   have e:WK (.lst []) (.lst [])=some (.bl true):=YK []
   exact⟨0,by simp[bW,h0,e]⟩
  |cons m ms=>
   generalize hns:m::ms=ns at*
   have i6:(0:Int)<ns.length:=by rw[<- hns];simp
   have hb:=Im (k:Int) (show(ns.length:Int)≠0 by omega)
   have hb2:=Gy (k:Int) i6
   obtain⟨r,_,e⟩:=MA (ns:=ns) hb hb2
   have he:ns.isEmpty=false:=by rw[<- hns];rfl
   have hq:0<=(k:Int)/ns.length:=Int.ediv_nonneg (by omega) (by omega)
   have hm: -4611686018427387904<=(if(60:Int)<(k:Int)/ns.length then 60 else(k:Int)/ns.length)/\(if(60:Int)<(k:Int)/ns.length then 60 else(k:Int)/ns.length)<4611686018427387904:=by split<;>omega
   obtain⟨r',s',e2⟩:=NG (V5 0 (if(60:Int)<(k:Int)/ns.length then 60 else(k:Int)/ns.length).toNat) (.lst (ns.map .int)) (.int k) r .no
   have hp2:0<ns.length:=by omega
   have hp3:(ns.length:Int)<1073741824:=by omega
   exact⟨r*31+k+r'*101,by simp[bW,h,YK,he,i6,hp2,hp3,e,cDiv,hm,e2,JP]⟩
noncomputable def cel(ns:List Int)(k:Nat):Int:=match bB [OF ns,.int k] with
 |some (.int r,_)=>r
 |_=>0
theorem zFM(ns:List Int)(k:Nat)(hl:ns.length<=63)(hk:k<1000000):bB [OF ns,.int k]=some (.int (cel ns k),[]):=by
 obtain⟨r,e⟩:=zBM ns k hl hk
 unfold cel
 rw[e]
noncomputable def JE(ns:List Int)(n:Nat)(b:Int):Int:=((cel ns (n+1)*1103515245+7919*(((n+1:Nat)):Int)+12345) % 2147483647) ^ 5 % 2147483647 % 999983 % b
theorem Q7(ns:List Int)(n:Nat){b:Int}(h:0<b):0<=JE ns n b:=Im _ (by omega)
theorem PC(ns:List Int)(n:Nat){b:Int}(h:0<b):JE ns n b<b:=Gy _ h
theorem zEZ(ns:List Int)(n:Nat)(b:Int)(hl:ns.length<=63)(hn:n<900000)(hb:0<b):ZF [OF ns,.int ((n+1:Nat):Int),.int b]=some (.int (JE ns n b),[]):=by
 have e:=zFM ns (n+1) hl (by omega)
 unfold ZF
 rw[bV]
 unfold VV JE
 have e1:=Im (cel ns (n+1)*1103515245+7919*((n+1:Nat):Int)+12345) (show(2147483647:Int)≠0 by decide)
 have e2:=Gy (cel ns (n+1)*1103515245+7919*((n+1:Nat):Int)+12345) (show(0:Int)<2147483647 by decide)
 generalize hz:(cel ns (n+1)*1103515245+7919*((n+1:Nat):Int)+12345) % 2147483647=z at*
 have hz2:z.natAbs<18446744073709551616:=by omega
 generalize hk:((n+1:Nat):Int)=k at*
 simp[bW,e,JP,cPow,hz,hz2,hb]
theorem YT(ns:List Int)(n:Nat)(b:Int)(hl:ns.length<=63)(hn:n<900000)(hb:0<b):cG [OF ns,OY n,.int b]=some (.int (JE ns n b),[OY (n+1)]):=by
 have e:=zEZ ns n b hl hn hb
 unfold cG
 rw[bV]
 unfold UD
 have ht:OY n= .lst (Ap n (.int 0)):=rfl
 have ht2:OY (n+1)= .lst (Ap n (.int 0)++[.int 0]):=by unfold OY;rw[List.replicate_succ']
 rw[ht2,ht]
 have hs:n<16777216:=by omega
 push_cast at e
 simp[bW,hs,e]
theorem XW(ns:List Int)(n:Nat)(xs:List dM)(hl:ns.length<=63)(hn:n<900000)(hx:0<xs.length): ∃x∈xs,b8 [OF ns,OY n,.lst xs]=some (x,[OY (n+1)]):=by
 have hx':(0:Int)<xs.length:=by omega
 obtain⟨x,hm,e⟩:=HK (xs:=xs) (Q7 ns n hx') (PC ns n hx')
 refine⟨x,hm,?_⟩
 unfold b8
 rw[bV]
 unfold UF
 simp[bW,YT ns n _ hl hn hx',e]
theorem GB(ns:List Int)(n:Nat)(b:Int)(hl:ns.length<=63)(hn:n<900000)(hb:0<b)(tl:Ev):c9 3 [1] cG (aE (fV 0) (aO 1 (aE (fC (.int b)) cW))) (.va (OF ns):: .ow (OY n)::tl)=some (.int (JE ns n b),.va (OF ns):: .ow (OY (n+1))::tl):=by simp[YT ns n b hl hn hb]
def T6(n:Nat)(d:dM):Prop:= ∃(ks:List aF) (vs:List Int),d= .dct ks (vs.map .int)/\ks.length=vs.length/\ks.Nodup/\ks.length<=n
theorem T6.mono{n m:Nat}{d:dM}(h:T6 n d)(hn:n<=m):T6 m d:=by
 obtain⟨ks,vs,h1,h2,h3,h4⟩:=h
 exact⟨ks,vs,h1,h2,h3,by omega⟩
theorem zCE: ∀(ks:List aF) (vs:List Int) (k:aF) (q:Int),∃r,(bJ ks (vs.map .int) k).getD (.int q)= .int r
 | [],_,_,q => ⟨q,by simp [bJ]⟩
 | _ :: _,[],_,q => ⟨q,by simp [bJ]⟩
 | k' :: ks,v :: vs,k,q => by
  by_cases h:k'=k
  ·exact ⟨v,by simp [bJ,h]⟩
  ·obtain⟨r,e⟩:=zCE ks vs k q
   exact⟨r,by simp only[Cq,bJ,if_neg h];exact e⟩
theorem putI: ∀(ks:List aF) (vs:List Int) (k:aF) (p:Int),ks.length=vs.length->ks.Nodup-> ∃(ks':List aF) (vs':List Int),Y9 ks (vs.map .int) k (.int p)=(ks',vs'.map .int)/\ks'.length=vs'.length/\ks'.Nodup/\ks'.length<=ks.length+1/\(∀z∈ks',z=k∨z∈ks)/\bJ ks' (vs'.map .int) k=some (.int p)
 | [],[],k,p,_,_ => ⟨[k],[p],by simp [Y9],rfl,by simp,by simp,by simp,by simp [bJ]⟩
 | k' :: ks,v :: vs,k,p,hl,hn => by
  by_cases h:k'=k
  ·subst h
   exact⟨k'::ks,p::vs,by simp[Y9],by simpa using hl,hn,by simp,by simp,by simp[bJ]⟩
  ·obtain ⟨ks',vs',e,h1,h2,h3,h4,h5⟩ := putI ks vs k p (by simpa using hl) (Cs.mp hn).2
   refine⟨k'::ks',v::vs',by simp only[Cq,Y9,if_neg h,e],by simp[h1],?_,by simp;omega,?_,by simp only[Cq,bJ,if_neg h];exact h5⟩
   ·refine Cs.mpr ⟨fun z => ?_,h2⟩
    rcases h4 _ z with y|y
    ·exact h y
    ·exact(Cs.mp hn).1 y
   ·intro z hz
    rcases Ao.mp hz with y|y
    ·exact .inr (by rw[y];exact Bg)
    ·exact(h4 z y).imp id (Av _)
theorem KQ(ns:List Int)(n:Nat)(sn:dM)(x:Str)(au:Int)(hl:ns.length<=63)(hn:n<800000)(hs:T6 n sn)(hr:0<au):
  ∃p sn',0<=p/\p<au/\T6 (n+2) sn'/\bH [OF ns,OY n,sn,.str x,.int au]=some (.int p,[OY (n+2),sn']):=by
 obtain⟨ks,vs,rfl,h1,h2,h3⟩:=hs
 obtain⟨a,ha⟩:=zCE ks vs (.inr x) (JE ns n au)
 obtain⟨y,hy,ey⟩:=XW ns (n+1) [.int 1,.int 1,.int 1,.int 0,.int 3] hl (by omega) (by simp)
 obtain⟨b,rfl⟩: ∃b,y= .int b:=by
  simp only[Ao,Bk,or_false] at hy
  rcases hy with h|h|h|h|h<;>exact⟨_,h⟩
 obtain⟨ks',vs',e,h4,h5,h6,h7,h8⟩:=putI ks vs (.inr x) ((a+b) % au) h1 h2
 refine⟨(a+b) % au,.dct ks' (vs'.map .int),Im _ (by omega),Gy _ hr,⟨ks',vs',rfl,h4,h5,by omega⟩,?_⟩
 have hk:ks.length<16777216:=by omega
 unfold bH
 rw[bV]
 unfold VW
 simp[bW,YT ns n au hl (by omega) hr,ha,ey,hr,hk,h2,e,h8]
inductive ZI(M:Int->Prop):dM->Prop
 |number {n:Int}:0<=n->n<=999->ZI M (.tup [.str "number",.int n])
 |two {x:String} {a b:Int}:x∈["over","plus","minus","times","least","most","less"]->M a->M b->ZI M (.tup [.str x,.int a,.int b])
 |pick {c a b:Int}:M c->M a->M b->ZI M (.tup [.str "pick",.int c,.int a,.int b])
 |load {p:Int}:0<=p->p<=63->ZI M (.tup [.str "load",.int p])
 |take {p c a:Int}:0<=p->p<=63->M c->M a->ZI M (.tup [.str "take",.int p,.int c,.int a])
 |store {p a:Int}:0<=p->p<=63->M a->ZI M (.tup [.str "store",.int p,.int a])
 |put {p a c:Int}:0<=p->p<=63->M a->M c->ZI M (.tup [.str "put",.int p,.int a,.int c])
theorem CU(ns:List Int)(n:Nat)(made:List Int)(hl:ns.length<=63)(hn:n<800000)(hm:0<made.length)(s:Sl): ∃a b c,a∈made/\b∈made/\c∈made∧
  ZV 3 1 (gN 3) XY (f2 b5 (fV 2) (f2 oMax (fC (.int 0)) (f2 TD (f2 TD (f1 Z6 (fV 2)) (fC (.int 1))) (c9 3 [1] cG (aE (fV 0) (aO 1 (aE (fC (.int 6)) cW))))))) [.int 0,.int 1,.int 2] [] [.va (OF ns),.ow (OY n),.va (.lst (made.map .int))]=
   some ([.int a,.int b,.int c],[.va (OF ns),.ow (OY (n+3)),.va (.lst (made.map .int))]):=by
 have one: ∀m,∃a∈made,RK (made.map dM.int) (if(made.length:Int) - 1 - JE ns m 6>0 then(made.length:Int) - 1 - JE ns m 6 else 0)=some (.int a):=fun m=>by
  have:=Q7 ns m (b:=6) (by decide)
  exact MA (by split<;>omega) (by split<;>omega)
 obtain⟨a,ha,ea⟩:=one n
 obtain⟨b,hb,eb⟩:=one (n+1)
 obtain⟨c,hc,ec⟩:=one (n+2)
 refine⟨a,b,c,ha,hb,hc,?_⟩
 have d0:=YT ns n 6 hl (by omega) (by decide)
 have d1:=YT ns (n+1) 6 hl (by omega) (by decide)
 have d2:=YT ns (n+2) 6 hl (by omega) (by decide)
 simp only[gt_iff_lt,Int.sub_pos] at ea eb ec
 simp[d0,d1,d2,ea,eb,ec]
def JF(x:String):Prop:=x= "load" ∨x= "take" ∨x= "store" ∨x= "put"
def PlOK(au:Int)(row:dM):Prop:= ∀(x:String) (p:Int) (t:List dM),row= .tup (.str x:: .int p::t)->JF x->p<au
theorem TH{au p:Int}{x:String}{t:List dM}(h:p<au):PlOK au (.tup (.str x:: .int p::t)):=fun y q u e _=>by
 simp only[dM.tup.injEq,Gx,dM.int.injEq] at e
 omega
theorem II{au:Int}{x:String}{t:List dM}(h: ¬JF x):PlOK au (.tup (.str x::t)):=fun y q u e hy=>by
 simp only[dM.tup.injEq,Gx,dM.str.injEq,aI] at e
 rw[<- e.1] at hy
 exact absurd hy h
theorem HB{x:String}(hx:x∈["over","plus","minus","times","least","most","less"]): ¬JF x:=fun h=>by
 simp only[Ao,Bk,or_false] at hx
 rcases hx with rfl|rfl|rfl|rfl|rfl|rfl|rfl<;>rcases h with h|h|h|h<;>exact absurd h (by decide)
theorem zDM(ns:List Int)(n:Nat)(made:List Int)(sn:dM)(au:Int)(hl:ns.length<=63)(hn:n<700000)(hs:T6 n sn)(hr:0<au)(hr2:au<=64):
    ∃row n' sn',n<=n'/\n'<=n+10/\T6 n' sn'/\ZI (· ∈made) row/\PlOK au row/\YA [OF ns,OY n,.lst (made.map .int),sn,.int au]=some (row,[OY n',sn']):=by
  have d0:=GB ns n 13 hl (by omega) (by decide)
  have k0:=Q7 ns n (b:=13) (by decide)
  have k1:=PC ns n (b:=13) (by decide)
  generalize JE ns n 13=kd at*
  unfold YA
  rw[bV]
  unfold RS
  by_cases h0:made.isEmpty=true∨kd=0
  · have d1 := GB ns (n + 1) 2 hl (by omega) (by decide)
    have hor:made.isEmpty=true∨(made.isEmpty=false/\kd=0):=by
      cases hm:made.isEmpty with
      | true => exact .inl rfl
      | false => rcases h0 with h | h
                 · rw[hm] at h;cases h
                 · exact .inr ⟨rfl,h⟩
    by_cases h2:JE ns (n+1) 2=0
    · have d2 := GB ns (n + 2) 1000 hl (by omega) (by decide)
      obtain⟨y,hy,ey⟩:=XW ns (n+3) [.int 0,.int 1,.int 2,.int 5,.int 999,.int (JE ns (n+2) 1000)] hl (by omega) (by simp)
      obtain⟨b,rfl,hb0,hb1⟩: ∃b,y= .int b/\0<=b/\b<=999:=by
        have:=Q7 ns (n+2) (b:=1000) (by decide)
        have:=PC ns (n+2) (b:=1000) (by decide)
        simp only[Ao,Bk,or_false] at hy
        rcases hy with h|h|h|h|h|h<;>exact⟨_,h,by omega,by omega⟩
      refine⟨.tup [.str "number",.int b],n+4,sn,by omega,by omega,hs.mono (by omega),.number hb0 hb1,II (by unfold JF;decide),?_⟩
      rcases hor with h|⟨h,h'⟩
      · simp[bW,↓d0,YK,h,↓d1,h2,↓d2,ey]
      · simp[bW,↓d0,YK,h,h',↓d1,h2,↓d2,ey]
    · obtain ⟨p,sn',p0,p1,hs',ep⟩ := KQ ns (n + 2) sn "load" au hl (by omega) (hs.mono (by omega)) hr
      refine⟨.tup [.str "load",.int p],n+4,sn',by omega,by omega,hs',.load p0 (by omega),TH p1,?_⟩
      rcases hor with h|⟨h,h'⟩
      · simp[bW,↓d0,YK,h,↓d1,h2,ep]
      · simp[bW,↓d0,YK,h,h',↓d1,h2,ep]
  · obtain⟨hm,hkd⟩:=not_or.mp h0
    have hm':made.isEmpty=false:=by simpa using hm
    have i6:0<made.length:=by
      cases made with
      |nil=>cases hm'
      |cons=>simp
    obtain⟨a,b,c,ha,hb,hc,e3⟩:=CU ns (n+1) made hl (by omega) i6 .no
    have mm:(kd=1∨kd=2)∨kd=3∨(kd=4∨kd=5)∨kd=6∨kd=7∨(8<=kd/\kd<=12):=by omega
    have pl: ∀x:Str,∃p sn',0<=p/\p<=63/\p<au/\T6 (n+6) sn'/\ ∀s tl,c9 5 [1,2] bH (aE (fV 0) (aO 1 (aO 3 (aE (fC (.str x)) (aE (fV 4) cW))))) (.va (OF ns):: .ow (OY (n+4))::s:: .ow sn:: .va (.int au)::tl)=some (.int p,.va (OF ns):: .ow (OY (n+6))::s:: .ow sn':: .va (.int au)::tl):=fun x=>by
      obtain⟨p,sn',p0,p1,hs',ep⟩:=KQ ns (n+4) sn x au hl (by omega) (hs.mono (by omega)) hr
      exact⟨p,sn',p0,by omega,p1,hs',fun s tl=>by simp[ep]⟩
    rcases mm with h|h|h|h|h|h
    · have t12 : (decide (1 = kd) || decide (2 = kd)) = true := by rcases h with rfl | rfl <;> decide
      obtain⟨p,sn',p0,p1,p2,hs',ep⟩:=pl "load"
      exact⟨.tup [.str "load",.int p],n+6,sn',by omega,by omega,hs',.load p0 p1,TH p2,by simp[bW,↓d0,YK,hm',hkd,bI,e3,↓ep,t12]⟩
    · subst h
      obtain⟨p,sn',p0,p1,p2,hs',ep⟩:=pl "take"
      exact⟨.tup [.str "take",.int p,.int c,.int a],n+6,sn',by omega,by omega,hs',.take p0 p1 hc ha,TH p2,by simp[bW,↓d0,YK,hm',bI,e3,↓ep]⟩
    · have t45 : (decide (4 = kd) || decide (5 = kd)) = true := by rcases h with rfl | rfl <;> decide
      have n3: ¬kd=3:=by omega
      have m1: ¬1=kd:=by omega
      have m2: ¬2=kd:=by omega
      obtain⟨p,sn',p0,p1,p2,hs',ep⟩:=pl "store"
      exact⟨.tup [.str "store",.int p,.int a],n+6,sn',by omega,by omega,hs',.store p0 p1 ha,TH p2,by simp[bW,↓d0,YK,hm',hkd,bI,e3,↓ep,n3,m1,m2,t45]⟩
    · subst h
      obtain⟨p,sn',p0,p1,p2,hs',ep⟩:=pl "put"
      exact⟨.tup [.str "put",.int p,.int a,.int c],n+6,sn',by omega,by omega,hs',.put p0 p1 ha hc,TH p2,by simp[bW,↓d0,YK,hm',bI,e3,↓ep]⟩
    · subst h
      exact⟨.tup [.str "pick",.int c,.int a,.int b],n+4,sn,by omega,by omega,hs.mono (by omega),.pick hc ha hb,II (by unfold JF;decide),by simp[bW,↓d0,YK,hm',bI,e3]⟩
    · have d4 := GB ns (n + 4) 7 hl (by omega) (by decide)
      have q0:=Q7 ns (n+4) (b:=7) (by decide)
      have q1:=PC ns (n+4) (b:=7) (by decide)
      obtain⟨y,hy,ey⟩:=HK (xs:=["over","plus","minus","times","least","most","less"].map fun s:String=>dM.str (Az s)) q0 (by simpa using q1)
      obtain⟨x,hx,rfl⟩:=Hl.mp hy
      simp only[Cq,Hj] at ey
      have n1: ¬kd=1:=by omega
      have n2: ¬kd=2:=by omega
      have n3: ¬kd=3:=by omega
      have n4: ¬kd=4:=by omega
      have n5: ¬kd=5:=by omega
      have n6: ¬kd=6:=by omega
      have n7: ¬kd=7:=by omega
      have m1: ¬1=kd:=by omega
      have m2: ¬2=kd:=by omega
      have m4: ¬4=kd:=by omega
      have m5: ¬5=kd:=by omega
      exact⟨.tup [.str x,.int a,.int b],n+5,sn,by omega,by omega,hs.mono (by omega),.two hx ha hb,II (HB hx),by simp[bW,↓d0,YK,hm',hkd,bI,e3,n3,n6,n7,m1,m2,m4,m5,↓d4,ey]⟩
inductive Kd where
 |w|p|n
 deriving DecidableEq
def Nm(kds:List Kd)(k:Kd)(a:Int):Prop:=0<=a/\kds[a.toNat]? =some k
theorem Nm.lt{kds:List Kd}{k:Kd}{a:Int}(h:Nm kds k a):a<kds.length:=by
 have:=(Ah.mp h.2).1
 have:=h.1
 omega
theorem Nm.snoc{kds:List Kd}{k j:Kd}{a:Int}(h:Nm kds k a):Nm (kds++[j]) k a:=⟨h.1,by rw[Am (Ah.mp h.2).1];exact h.2⟩
theorem Nm.new{kds:List Kd}{k:Kd}:Nm (kds++[k]) k kds.length:=⟨by omega,by simp⟩
noncomputable def E3(k:Kd):dM->Kd
 | .tup (.str x::_)=>if x= "store" ∨x= "put" then .n else k
 |_=> .n
theorem ZI.imp{M M':Int->Prop}{row:dM}(h:ZI M row)(f: ∀a,M a->M' a):ZI M' row:=by
 cases h with
 |number a b=>exact .number a b
 |two a b c=>exact .two a (f _ b) (f _ c)
 |pick a b c=>exact .pick (f _ a) (f _ b) (f _ c)
 |load a b=>exact .load a b
 |take a b c d=>exact .take a b (f _ c) (f _ d)
 |store a b c=>exact .store a b (f _ c)
 |put a b c d=>exact .put a b (f _ c) (f _ d)
theorem ZI.hard{M:Int->Prop}{row:dM}(h:ZI M row):row.hard=true:=by
 cases h<;>simp[dM.hard,WJ]
@[simp] theorem zKI{i:Int}:IF (.int i)=some (.int (-i)):=(rfl)
theorem EF{ds:List dM}{k:Nat}(h:k<=ds.length):PB ds (some (k:Int)) none=ds.drop k:=by
 unfold PB
 rw[HT.zAG,HT.CB,Nat.min_eq_left h,Dt (by simp)]
@[simp] theorem zLI{d e:dM}{ds:List dM}:PB (d::e::ds) (some 2) none=ds:=EF (k:=2) (by simp)
@[simp] theorem zJ8{α:Type}{xs:List α}{x:α}:RK (xs++[x]) (-1)=some x:=by
 unfold RK LH
 rw[if_neg (by decide),if_pos (by simp;omega)]
 have e:(-1+((xs++[x]).length:Int)).toNat=xs.length:=by simp;omega
 show(xs++[x])[(-1+((xs++[x]).length:Int)).toNat]? =some x
 rw[e]
 simp
@[simp] theorem zNA{α:Type}{x:α}{xs:List α}:RK (x::xs) 0=some x:=by rw[RL (by decide) (by simp)];rfl
@[simp] theorem zN9{α:Type}{x y:α}{xs:List α}:RK (x::y::xs) 1=some y:=by rw[RL (by decide) (by simp;omega)];rfl
@[simp] theorem zN8{α:Type}{x y z:α}{xs:List α}:RK (x::y::z::xs) 2=some z:=by rw[RL (by decide) (by simp;omega)];rfl
theorem zHE{k:Kd}{x:String}{t:List dM}(hx:x∉["store","put"]):E3 k (.tup (.str x::t))=k:=by
 simp only[Ao,Bk,or_false,not_or] at hx
 simp[E3,aI,hx]
@[simp] theorem zFT(n lo hi:Int):cP [.int n,.int lo,.int hi]=some (.bl (decide (lo<=n) && decide (n<=hi)),[]):=by
 unfold cP
 rw[bV]
 unfold UC
 simp[bW]
 by_cases h:lo<=n<;>simp[h]
theorem FC{x:String}(h:x∈["over","plus","minus","times","least","most","less"]):bM [.str x]=some (.tup [.str "row",.str "row"],[]):=by
 simp only[Ao,Bk,or_false] at h
 rcases h with rfl|rfl|rfl|rfl|rfl|rfl|rfl<;>kernel_rfl
@[simp] theorem zIK:bM [.str "number"]=some (.tup [.str "word"],[]):=by kernel_rfl
@[simp] theorem zIJ:bM [.str "pick"]=some (.tup [.str "row",.str "row",.str "row"],[]):=by kernel_rfl
@[simp] theorem zII:bM [.str "load"]=some (.tup [.str "place"],[]):=by kernel_rfl
@[simp] theorem zIH:bM [.str "take"]=some (.tup [.str "place",.str "row",.str "row"],[]):=by kernel_rfl
@[simp] theorem zIG:bM [.str "store"]=some (.tup [.str "place",.str "row"],[]):=by kernel_rfl
@[simp] theorem zIF:bM [.str "put"]=some (.tup [.str "place",.str "row",.str "row"],[]):=by kernel_rfl
def Ab(able:List Bool)(a:Int):Prop:=0<=a/\able[a.toNat]? =some true
theorem zF0{able:List Bool}{a:Int}(h:Ab able a):YV [.int a,.lst (able.map .bl)]=some (.bl true,[]):=by
 have hlt:=(Ah.mp h.2).1
 have h0:=h.1
 have h1:a<=(able.length:Int) - 1:=by omega
 have h2:RK (able.map dM.bl) a=some (.bl true):=by
  rw[RL h0 (by simp;omega)]
  simp[h.2]
 unfold YV
 rw[bV]
 unfold UG
 simp[bW,h0,h1,h2]
theorem ZQ{able:List Bool}{a:Int}(h:Ab able a):XH [.str "row",.int a,.lst (able.map .bl)]=some (.bl true,[]):=by
 unfold XH
 rw[bV]
 unfold PH
 simp[bW,zF0 h]
theorem ER{d:dM}{a:Int}(h:0<=a)(h':a<=999):XH [.str "word",.int a,d]=some (.bl true,[]):=by
 unfold XH
 rw[bV]
 unfold PH
 simp[bW,Z2,h,h']
theorem WT{d:dM}{a:Int}(h:0<=a)(h':a<=63):XH [.str "place",.int a,d]=some (.bl true,[]):=by
 unfold XH
 rw[bV]
 unfold PH
 simp[bW,ZY,h,h']
@[simp] theorem zLJ:Q1 []=some []:=(rfl)
@[simp] theorem zLK{b:Bool}{ds:List dM}:Q1 (.bl b::ds)=(Q1 ds).map fun ks=>b::ks:=(rfl)
@[simp] theorem zIX{g:List Bool->Bool}{ds:List dM}:AU g (.lst ds)=(Q1 ds).map fun ks=> .bl (g ks):=(rfl)
@[simp] theorem zI8{ds:List dM}:U4 ds []=[]:=by cases ds<;>rfl
@[simp] theorem zJF{d e:dM}{ds es:List dM}:U4 (d::ds) (e::es)= .tup [d,e]::U4 ds es:=(rfl)
theorem J3{able:List Bool}{row:dM}(h:ZI (Ab able) row):X0 [row,.lst (able.map .bl)]=some (.bl true,[]):=by
 unfold X0
 rw[bV]
 unfold PL
 cases h with
 |number a b=>simp[bW,bI,ER a b]
 |two hx a b=>simp[bW,bI,FC hx,ZQ a,ZQ b]
 |pick a b c=>simp[bW,bI,ZQ a,ZQ b,ZQ c]
 |load a b=>simp[bW,bI,WT a b]
 |take a b c d=>simp[bW,bI,WT a b,ZQ c,ZQ d]
 |store a b c=>simp[bW,bI,WT a b,ZQ c]
 |put a b c d=>simp[bW,bI,WT a b,ZQ c,ZQ d]
theorem JN{α:Type}: ∀ds:List α,Q1 (ds.map fun _=> .bl true)=some (ds.map fun _=>true)
 |[]=>rfl
 |d::ds=>by simp[JN ds]
theorem B9(k:Nat):(V5 0 k).length=k:=by simp[V5]
def Wd(w:Int):Prop:=0<=w/\w<=999
theorem dne{x:String}(hx:x∈["over","plus","minus","times","least","most","less"]) {y:String} (hy:(["over","plus","minus","times","least","most","less"].contains y)=false):(¬x=y)/\¬y=x:=by
 have h: ¬x=y:=fun e=>by
  subst e
  rw[List.contains_iff_mem.mpr hx] at hy
  cases hy
 exact⟨h,fun e=>h e.symm⟩
inductive LR(T:Int)(M F:Int->Prop):dM->Prop
 |plain {x:String} {t:List dM}:ZI M (.tup (.str x::t))-> ¬JF x-> ¬x= "last" ->(x= "number" -> ∃n,t=[.int n]/\Wd n)->LR T M F (.tup (.str x::t))
 |cell {x:String} {b s:Int} {t:List dM}:JF x->0<=b->b<=63-> -9<=s->s<=9->0<=b+s*(T - 1)->b+s*(T - 1)<=63->t.length<=3->(∀p,0<=p->p<=63->ZI M (.tup (.str x:: .int p::t)))->LR T M F (.tup (.str x:: .tup [.int b,.int s]::t))
 |last {a w:Int}:F a->Wd w->LR T M F (.tup [.str "last",.int a,.int w])
inductive LG(T:Int)(F:Int->Prop):List Kd->List dM->List Kd->Prop
 |nil {kds:List Kd}:LG T F kds [] kds
 |cons {kds aw:List Kd} {row:dM} {rows:List dM}:LR T (Nm kds .w) F row->LG T F (kds++[E3 .w row]) rows aw->LG T F kds (row::rows) aw
theorem LG.snoc{T:Int}{F:Int->Prop}{kds aw:List Kd}{rows:List dM}{row:dM}(h:LG T F kds rows aw)(r:LR T (Nm aw .w) F row):LG T F kds (rows++[row]) (aw++[E3 .w row]):=by
 induction h with
 |nil=>exact .cons r .nil
 |cons a _ ih=>exact .cons a (ih r)
theorem LG.len{T:Int}{F:Int->Prop}{kds aw:List Kd}{rows:List dM}(h:LG T F kds rows aw):aw.length=kds.length+rows.length:=by
 induction h with
 |nil=>simp
 |cons a _ ih=>simp at ih⊢;omega
theorem LG.all{T:Int}{F:Int->Prop}: ∀{kds aw:List Kd} {rows:List dM},LG T F kds rows aw-> ∀d∈rows,∃k0,LR T (Nm k0 .w) F d
 |_,_,[],.nil=>fun _ h=>nomatch h
 |_,_,_::_,.cons r t=>fun d h=>by
  rcases Ao.mp h with z|z
  ·rw[z];exact⟨_,r⟩
  ·exact LG.all t d z
theorem LR.head{T:Int}{M F:Int->Prop}{row:dM}(h:LR T M F row): ∃(x:String) (t:List dM),row= .tup (.str x::t):=by
 cases h with
 |plain=>exact⟨_,_,rfl⟩
 |cell=>exact⟨_,_,rfl⟩
 |last=>exact⟨_,_,rfl⟩
theorem KR{M:Int->Prop}{row:dM}(h:ZI M row):(∃(x:String) (t:List dM),row= .tup (.str x::t)/\¬JF x/\¬x= "last" /\(x= "number" -> ∃n,t=[.int n]/\Wd n))∨
  ∃(x:String) (p:Int) (t:List dM),row= .tup (.str x:: .int p::t)/\JF x/\0<=p/\t.length<=3/\ ∀p',0<=p'->p'<=63->ZI M (.tup (.str x:: .int p'::t)):=by
 cases h with
 | @number n a b=>exact .inl ⟨"number",_,rfl,by unfold JF;decide,by decide,fun _=>⟨n,rfl,a,b⟩⟩
 | @two x a b hx _ _=>exact .inl ⟨x,_,rfl,HB hx,(dne hx (by decide)).1,fun z=>absurd z (dne hx (by decide)).1⟩
 |pick=>exact .inl ⟨"pick",_,rfl,by unfold JF;decide,by decide,fun z=>absurd z (by decide)⟩
 |load a b=>exact .inr ⟨"load",_,_,rfl,.inl rfl,a,by simp,fun p h0 h1=> .load h0 h1⟩
 |take a b c d=>exact .inr ⟨"take",_,_,rfl,.inr (.inl rfl),a,by simp,fun p h0 h1=> .take h0 h1 c d⟩
 |store a b c=>exact .inr ⟨"store",_,_,rfl,.inr (.inr (.inl rfl)),a,by simp,fun p h0 h1=> .store h0 h1 c⟩
 |put a b c d=>exact .inr ⟨"put",_,_,rfl,.inr (.inr (.inr rfl)),a,by simp,fun p h0 h1=> .put h0 h1 c d⟩
theorem A1{x:String}(h: ¬JF x):((¬ "load"=x)/\¬ "take"=x)/\(¬ "store"=x)/\¬ "put"=x:=by
 unfold JF at h
 simp only[not_or] at h
 exact⟨⟨fun z=>h.1 z.symm,fun z=>h.2.1 z.symm⟩,fun z=>h.2.2.1 z.symm,fun z=>h.2.2.2 z.symm⟩
theorem KL{x:String}(h:JF x):(¬x= "last")/\¬x= "number":=by
 rcases h with rfl|rfl|rfl|rfl<;>exact⟨by decide,by decide⟩
theorem BO{x:String}(h:JF x){d:dM}{t:List dM}:aG [.tup (.str x::d::t)]=some (d,[]):=by
 unfold aG;rw[bV];unfold UI
 rcases h with rfl|rfl|rfl|rfl<;>simp[bW,Y0,aX]
theorem PZ{b s j:Int}(hc:JP s j=true):a6 [.tup [.int b,.int s],.int j]=some (.int (b+s*j),[]):=by
 unfold a6;rw[bV];unfold UH
 simp[bW,hc]
theorem ET{x:String}(h:JF x){b s j:Int}{t:List dM}(hc:JP s j=true)(ht:t.length<=3):ZC [.tup (.str x:: .tup [.int b,.int s]::t),.int j]=some (.tup (.str x:: .int (b+s*j)::t),[]):=by
 have h2:2+t.length<=16777216:=by omega
 unfold ZC;rw[bV];unfold RO
 simp[bW,BO h,PZ hc,h2]
theorem R7{s j:Int}(h0: -9<=s)(h1:s<=9):JP s j=true:=by
 have: -18446744073709551616<s/\s<18446744073709551616:=by omega
 simp[JP,this]
theorem EK(i:Nat)(d:dM)(ds:List dM):W9 i (d::ds)= .tup [.int i,d]::W9 (i+1) ds:=rfl
noncomputable def HV:Kd->Bool
 | .w=>true
 |_=>false
theorem zA0{kds:List Kd}{a:Int}(h:Nm kds .w a):Ab (kds.map HV) a:=⟨h.1,by rw[Cw,h.2];rfl⟩
theorem mkw{x:String}{t:List dM}:ZX [.tup (.str x::t)]=some (.bl (HV (E3 .w (.tup (.str x::t)))),[]):=by
 unfold ZX;rw[bV];unfold WV
 by_cases h:x= "store"
 ·subst h
  simp[bW,aX,E3,aI,HV]
 ·by_cases h2:x= "put"
  ·subst h2
   simp[bW,aX,E3,aI,HV]
  ·have h3 : ¬ "store" = x := fun z => h z.symm
   have h4: ¬ "put"=x:=fun z=>h2 z.symm
   simp[bW,aX,E3,aI,HV,h,h2,h3,h4]
theorem FP{T b s:Int}(b0:0<=b)(b1:b<=63)(s0: -9<=s)(s1:s<=9)(e0:0<=b+s*(T - 1))(e1:b+s*(T - 1)<=63):ZD [.tup [.int b,.int s],.int T]=some (.bl true,[]):=by
 have e:=PZ (b:=b) (s:=s) (j:=T - 1) (R7 s0 s1)
 unfold ZD;rw[bV];unfold VU
 simp[bW,ZY,XT,b0,b1,s0,s1,e,e0,e1]
theorem HX{T:Int}{kds:List Kd}{F:Int->Prop}{row:dM}{many:Int}(h:LR T (Nm kds .w) F row)(hF: ∀a,F a->0<=a/\a<=many - 1):bA [row,.lst ((kds.map HV).map .bl),.int T,.int many]=some (.bl true,[]):=by
 cases h with
 | @last a w ha hw=>
  have:=hF a ha
  have e:X9 [.tup [.str "last",.int a,.int w],.int many]=some (.bl true,[]):=by
   unfold X9;rw[bV];unfold RP
   simp[bW,Z2,this.1,this.2,hw.1,hw.2]
  unfold bA;rw[bV];unfold ZR
  simp[bW,e]
 | @plain x t hr hx hl _=>
  have e:=J3 (hr.imp fun a=>zA0)
  simp only[Iz] at e
  obtain⟨⟨z1,z2⟩,z3,z4⟩:=A1 hx
  have hp: ¬(t.length:Int)+1=0:=by omega
  unfold bA;rw[bV];unfold ZR
  simp only[bW]
  simp[Y0,aX,hl,z1,z2,z3,z4,e,hp]
 | @cell x b s t hx b0 b1 s0 s1 e0 e1 ht hr=>
  have e:=J3 ((hr b b0 b1).imp fun a=>zA0)
  simp only[Iz] at e
  have es:=FP b0 b1 s0 s1 e0 e1
  have ei:=ET hx (b:=b) (s:=s) (j:=0) (t:=t) (R7 s0 s1) ht
  rw[Int.mul_zero,Int.add_zero] at ei
  have hp: ¬(t.length:Int)+1+1=0:=by omega
  have hp2:(1:Int)<(t.length:Int)+1+1:=by omega
  have hrw:(decide ("load"=x) || decide ("take"=x))=true∨(decide ("load"=x) || decide ("take"=x))=false/\(decide ("store"=x) || decide ("put"=x))=true:=by
   rcases hx with rfl|rfl|rfl|rfl<;>decide
  unfold bA;rw[bV];unfold ZR
  simp only[bW]
  rcases hrw with h1|⟨h1,h2⟩
  ·simp[Y0,aX,(KL hx).1,h1,es,ei,e,hp,hp2]
  ·simp[Y0,aX,(KL hx).1,h1,h2,es,ei,e,hp,hp2]
theorem LY(nn:Nat)(tb:VB)(p:dM->Bool)(fe:VF)(f:dM->dM)(δ:Ev)(hδ:δ.length=nn): ∀(ds acc:List dM),(∀d∈ds,tb (δ++[Sl.va d])=some (p d,δ++[Sl.va d])/\(p d=true->fe (δ++[Sl.va d])=some (f d,δ++[Sl.va d])))->acc.length+ds.length<16777216->ZV nn 1 (gN nn) tb fe ds acc δ=some (acc++(ds.filter p).map f,δ)
 | [],acc,_,_ => by simp
 | d :: ds,acc,h,hl => by
  have jf:(δ++[Sl.no]).set nn (.va d)=δ++[Sl.va d]:=by
   rw[La _ _ (by omega)]
   simp[hδ]
  have cu:(δ++[Sl.va d]).take nn=δ:=by rw[Ff (by omega),Dt (by omega)]
  have cx:acc.length<16777216:=by simp at hl;omega
  obtain⟨h1,h2⟩:=h d Bg
  cases hp:p d with
  |true=>
   have ih:=LY nn tb p fe f δ hδ ds (acc++[f d]) (fun e he=>h e (Av _ he)) (by simp at hl⊢;omega)
   have h2:=h2 hp
   rw[hp] at h1
   simp only[F9,zCD,AI,jf,zC7,h1,zGQ,h2,zGP,if_pos cx,cu,ih]
   simp[hp]
  |false=>
   have ih:=LY nn tb p fe f δ hδ ds acc (fun e he=>h e (Av _ he)) (by simp at hl⊢;omega)
   rw[hp] at h1
   simp only[F9,zCD,AI,jf,zC7,h1,zGR,cu,ih]
   simp[hp]
theorem M6{T:Int}{F:Int->Prop}{many:List dM}(hF: ∀a,F a->0<=a/\a<=(many.length:Int) - 1): ∀{kds aw:List Kd} {rows:List dM} (_:LG T F kds rows aw) (_:kds.length+rows.length<1000) (s:Sl),
  ∃s',XM (gN 3) Z7 rows [.va (.tup many),.va (.int T),.ow (.lst ((kds.map HV).map .bl)),s]=some (.nx [.va (.tup many),.va (.int T),.ow (.lst ((aw.map HV).map .bl)),s'])
 | kds,_,[],.nil,_,s => ⟨s,by simp⟩
 | kds,_,row :: rows,.cons r h,hk,s => by
  obtain⟨s',ih⟩:=M6 hF h (by simp at hk⊢;omega) (.va row)
  refine⟨s',?_⟩
  have e:=HX r hF
  obtain⟨x,t,rfl⟩:=r.head
  have hk':kds.length<16777216:=by simp at hk;omega
  rw[Pg,Pg] at ih
  simp only[Cq,Hj] at ih
  rw[L8,AI,BX]
  have b1:Z7 [.va (.tup many),.va (.int T),.ow (.lst ((kds.map HV).map .bl)),.va (.tup (.str x::t))]=some (.nx [.va (.tup many),.va (.int T),.ow (.lst ((kds.map HV).map .bl++[.bl (HV (E3 .w (.tup (.str x::t))))])),.va (.tup (.str x::t))]):=by
   unfold Z7
   simp only[Iz] at e
   simp[e,mkw,hk',dM.hard]
  have s1:([.va (.tup many),.va (.int T),.ow (.lst ((kds.map HV).map .bl)),s]:Ev).set 3 (.va (.tup (.str x::t)))=[.va (.tup many),.va (.int T),.ow (.lst ((kds.map HV).map .bl)),.va (.tup (.str x::t))]:=rfl
  rw[s1,b1,G1]
  exact ih
noncomputable def RT:dM->Bool
 | .tup (.str x::_)=>decide (x= "last")
 |_=>false
theorem EW{T sure:Int}{kds:List Kd}{rows:List dM}(h:LG T (Nm kds .w) [] rows kds)(s0:0<=sure)(s1:sure<=64)(T1:1<=T)(T8:T<=8)(r1:1<=rows.length)(r8:rows.length<=8):cE [.tup [.int sure,.int T,.tup rows]]=some (.bl true,[]):=by
 have ah:=h.len
 rw[Ia,Gg] at ah
 obtain⟨s',e1⟩:=M6 (many:=rows) (fun a ha=>⟨ha.1,by have:=ha.lt;omega⟩) h (by simp;omega) .no
 simp only[Hj] at e1
 have e2:=LY 1 (fB (f2 WK (f2 b5 (fV 1) (fC (.int 0))) (fC (.str "last")))) RT (f2 b5 (fO 0) (f2 b5 (fV 1) (fC (.int 1)))) (fun _=> .bl true) [.ow (.lst ((kds.map HV).map .bl))] rfl rows [] (fun d hd=>by
  obtain⟨k0,r⟩:=h.all d hd
  cases r with
  | @last a w ha hw=>
   have ab:=zA0 ha
   have hat:RK ((kds.map HV).map dM.bl) a=some (.bl true):=by
    have hlt:=ha.lt
    rw[RL ab.1 (by simpa using hlt),Cw,ab.2]
    rfl
   simp only[Iz] at hat
   exact⟨by simp[RT,aI],fun _=>by simp[hat]⟩
  |plain _ _ hl _=>exact⟨by simp[RT,aI,hl],fun z=>by simp[RT,aI,hl] at z⟩
  |cell hx=>exact⟨by simp[RT,aI,(KL hx).1],fun z=>by simp[RT,aI,(KL hx).1] at z⟩) (by simp;omega)
 simp only[Ky] at e2
 have e3:aV [.tup rows,.int T]=some (.bl true,[]):=by
  unfold aV
  rw[bV,YL.eq_1]
  simp only[Iz] at e1 e2
  simp[bW,e1,bI,e2,JN]
 have h1:(1:Int)<=rows.length:=by omega
 have h8:(rows.length:Int)<=8:=by omega
 unfold cE
 rw[bV]
 unfold RQ
 simp[bW,VQ,WQ,YZ,s0,s1,T1,T8,h1,h8,e3]
noncomputable def T4(ns:List Int)(n:Nat)(T:Int)(rows:List dM)(made:List Int)(sn:dM)(a b c d e:Sl):Ev:=
 [.va (OF ns),.ow (OY n),.va (.int T),.ow (.lst rows),.ow (.lst (made.map .int)),.ow sn,a,b,c,d,e]
noncomputable def QA:VS:=(YN (fB (f2 (X5 true) (f2 b5 (f2 b5 (fO 3) (f1 IF (fC (.int 1)))) (fC (.int 0))) (bZ (dN (fC (.str "store")) (dN (fC (.str "put")) cX)))))
   (XZ 4 SZ (dN (f2 TD (f1 Z6 (fO 3)) (fC (.int 1))) cX))
   a8)
noncomputable def mad(x:String)(made:List Int)(k:Nat):List Int:=if x= "store" ∨x= "put" then made else made++[(k:Int)]
theorem CT{x:String}{t:List dM}(ns:List Int)(n:Nat)(T:Int)(rows:List dM)(made:List Int)(sn:dM)(a b c d e:Sl)(hm:made.length<1000):
  QA (T4 ns n T (rows++[.tup (.str x::t)]) made sn a b c d e)=some (.nx (T4 ns n T (rows++[.tup (.str x::t)]) (mad x made rows.length) sn a b c d e)):=by
 have hm':made.length<16777216:=by omega
 unfold QA mad
 by_cases h:x= "store" ∨x= "put"
 ·rw[if_pos h]
  rcases h with rfl|rfl<;>simp[T4]
 ·rw[if_neg h]
  simp only[not_or] at h
  have h1: ¬ "store"=x:=fun z=>h.1 z.symm
  have h2: ¬ "put"=x:=fun z=>h.2 z.symm
  simp[T4,h1,h2,hm']
structure GL(T:Int)(rows:List dM)(made:List Int)(kds:List Kd):Prop where
 rs:LG T (fun a=>a=0) [] rows kds
 w: ∀a∈made,Nm kds .w a
 ne:rows=[]∨0<made.length
theorem GL.more{T:Int}{rows:List dM}{made:List Int}{kds:List Kd}{x:String}{t:List dM}(G:GL T rows made kds)(r:LR T (Nm kds .w) (fun a=>a=0) (.tup (.str x::t)))(hw:(x= "store" ∨x= "put")->0<made.length):
  GL T (rows++[.tup (.str x::t)]) (mad x made rows.length) (kds++[E3 .w (.tup (.str x::t))]):=by
 have hl:rows.length=kds.length:=by have:=G.rs.len;simp at this;omega
 refine⟨G.rs.snoc r,fun a ha=> ?_,.inr ?_⟩
 ·unfold mad at ha
  split at ha
  ·exact(G.w a ha).snoc
  ·rename_i h
   rcases Fa.mp ha with z|z
   ·exact(G.w a z).snoc
   ·rw [Ax.mp z,hl,zHE (by simpa using h)]
    exact Nm.new
 ·unfold mad
  split
  ·rename_i h
   exact hw h
  ·simp
theorem PR: ∀vs:List Int,WJ (vs.map dM.int)=true
 |[]=>rfl
 |v::vs=>by simp[WJ,dM.hard,PR vs]
theorem T6.kids{n:Nat}{sn:dM}(h:T6 n sn):VY sn=true:=by
 obtain⟨ks,vs,rfl,_⟩:=h
 exact PR vs
theorem ZI.made{made:List Int}{x:String}{t:List dM}{row:dM}(h:ZI (· ∈made) row)(e:row= .tup (.str x::t))(hx:x= "store" ∨x= "put"):0<made.length:=by
 have pos: ∀{a:Int},a∈made->0<made.length:=fun{a} h=>List.length_pos_of_mem h
 cases h with
 |store _ _ a=>exact pos a
 |put _ _ a _=>exact pos a
 |two hx' _ _=>
  simp only[dM.tup.injEq,Gx,dM.str.injEq,aI] at e
  rw[<- e.1] at hx
  rcases hx with h|h
  ·exact absurd h (dne hx' (by decide)).1
  ·exact absurd h (dne hx' (by decide)).1
 |_=>
  simp only[dM.tup.injEq,Gx,dM.str.injEq,aI] at e
  rw[<- e.1] at hx
  exact absurd hx (by decide)
theorem EI{T:Int}{rows:List dM}{made:List Int}{kds:List Kd}(G:GL T rows made kds)(ns:List Int)(n:Nat)(sn:dM)(it:dM)(b c d e:Sl)(hl:ns.length<=63)(hn:n<600000)(hs:T6 n sn)(T1:1<=T)(T8:T<=8)(hr:rows.length<900)(hm:made.length<900):
  ∃n' aj ay sn' aw b' c' d',n<=n'/\n'<=n+20/\T6 n' sn'/\aj.length=rows.length+1/\ay.length<=made.length+1/\GL T aj ay aw∧
   Y6 (T4 ns n T rows made sn (.va it) b c d e)=some (.nx (T4 ns n' T aj ay sn' (.va it) b' c' d' e)):=by
 have d0:=YT ns n 6 hl (by omega) (by decide)
 have hr':rows.length<16777216:=by omega
 have fin: ∀{x:String} {t:List dM} (m:Nat) (sn':dM) (b' c' d':Sl),LR T (Nm kds .w) (fun a=>a=0) (.tup (.str x::t))->((x= "store" ∨x= "put")->0<made.length)->n<=m->m<=n+20->T6 m sn'→
   Y6 (T4 ns n T rows made sn (.va it) b c d e)=QA (T4 ns m T (rows++[.tup (.str x::t)]) made sn' (.va it) b' c' d' e)→
   ∃n' aj ay sn' aw b' c' d',n<=n'/\n'<=n+20/\T6 n' sn'/\aj.length=rows.length+1/\ay.length<=made.length+1/\GL T aj ay aw∧
    Y6 (T4 ns n T rows made sn (.va it) b c d e)=some (.nx (T4 ns n' T aj ay sn' (.va it) b' c' d' e)):=fun{x t} m sn' b' c' d' r hw h1 h2 h3 h4=>
  ⟨m,_,_,sn',_,b',c',d',h1,h2,h3,by simp,by unfold mad;split <;> simp,G.more r hw,by rw [h4,CT _ _ _ _ _ _ _ _ _ _ _ (by omega)]⟩
 by_cases h0:JE ns n 6=0
 ·obtain ⟨y,hy,ey⟩ := XW ns (n + 1) [.int 3,.int 1000] hl (by omega) (by simp)
  obtain⟨bd,rfl,b0,b1⟩: ∃z:Int,y= .int z/\0<z/\z<=1000:=by
   simp only[Ao,Bk,or_false] at hy
   rcases hy with h|h<;>exact⟨_,h,by omega,by omega⟩
  have d2:=YT ns (n+2) bd hl (by omega) b0
  have w0:=Q7 ns (n+2) b0
  have w1:=PC ns (n+2) b0
  refine fin (x:= "last") (t:=[.int 0,.int (JE ns (n+2) bd)]) (n+3) sn b c d (.last rfl ⟨w0,by omega⟩) (fun h=>absurd h (by decide)) (by omega) (by omega) (hs.mono (by omega)) ?_
  show cS _ QA _=_
  simp[T4,d0,h0,ey,d2,hr']
 ·obtain ⟨row,n',sn',n0,n1,hs',ik,hpl,er⟩ := zDM ns (n + 1) made sn 9 hl (by omega) (hs.mono (by omega)) (by decide) (by decide)
  have hh:=ik.hard
  have hk:=hs'.kids
  rcases KR ik with⟨x,t,rfl,hx,gu,jx⟩|⟨x,p,t,rfl,hx,p0,ht,hp⟩
  ·obtain⟨⟨z1,z2⟩,z3,z4⟩:=A1 hx
   refine fin (x:=x) (t:=t) n' sn' (.va (.tup (.str x::t))) c d (.plain (ik.imp G.w) hx gu jx) (fun h=>ik.made rfl h) (by omega) (by omega) hs' ?_
   show cS _ QA _=_
   simp[T4,d0,h0,er,hh,hk,z1,z2,z3,z4,hr']
  ·have p1:=hpl x p t rfl hx
   have hin:(decide ("load"=x) || (decide ("take"=x) || (decide ("store"=x) || decide ("put"=x))))=true:=by
    rcases hx with rfl|rfl|rfl|rfl<;>decide
   obtain⟨y,hy,ey⟩:=XW ns n' [.int 1,.int 1,.int 1,.int 0,.int 2,.int (-1),.int 7] hl (by omega) (by simp)
   obtain⟨mo,rfl,m0,m1⟩: ∃z:Int,y= .int z/\ -1<=z/\z<=7:=by
    simp only[Ao,Bk,or_false] at hy
    rcases hy with h|h|h|h|h|h|h<;>exact⟨_,h,by omega,by omega⟩
   obtain⟨y,hy,ez⟩:=XW ns (n'+1) [.int 0,.int 0,.int 8,.int 20] hl (by omega) (by simp)
   obtain⟨ba,rfl,a0,a1⟩: ∃z:Int,y= .int z/\0<=z/\z<=20:=by
    simp only[Ao,Bk,or_false] at hy
    rcases hy with h|h|h|h<;>exact⟨_,h,by omega,by omega⟩
   have hc:=R7 (s:=mo) (j:=T - 1) (by omega) (by omega)
   have ht2:2+t.length<=16777216:=by omega
   have hw:(x= "store" ∨x= "put")->0<made.length:=fun h=>ik.made rfl h
   by_cases mh:0<=p+ba+mo*(T - 1)/\p+ba+mo*(T - 1)<=63
   ·obtain⟨i0,i1⟩:=mh
    refine fin (x:=x) (t:= .tup [.int (p+ba),.int mo]::t) (n'+2) sn' (.va (.tup (.str x:: .tup [.int (p+ba),.int mo]::t))) (.va (.int mo)) (.va (.int (p+ba))) (.cell hx (by omega) (by omega) (by omega) (by omega) i0 i1 ht fun q q0 q1=>(hp q q0 q1).imp G.w) hw (by omega) (by omega) (hs'.mono (by omega)) ?_
    show cS _ QA _=_
    simp[T4,d0,h0,er,hh,hk,hin,hr',ey,ez,hc,i0,i1,ht2]
   ·refine fin (x := x) (t := .tup [.int (p + ba),.int 1] :: t) (n' + 2) sn' (.va (.tup (.str x :: .tup [.int (p + ba),.int 1] :: t))) (.va (.int 1)) (.va (.int (p + ba))) (.cell hx (by omega) (by omega) (by omega) (by omega) (by omega) (by omega) ht fun q q0 q1 => (hp q q0 q1).imp G.w) hw (by omega) (by omega) (hs'.mono (by omega)) ?_
    show cS _ QA _=_
    by_cases i0:0<=p+ba+mo*(T - 1)
    ·have i1 : ¬ p + ba + mo * (T - 1) <= 63 := fun z => mh ⟨i0,z⟩
     simp[T4,d0,h0,er,hh,hk,hin,hr',ey,ez,hc,i0,i1,ht2]
    ·simp[T4,d0,h0,er,hh,hk,hin,hr',ey,ez,hc,i0,ht2]
theorem NJ{T:Int}(ns:List Int)(hl:ns.length<=63)(T1:1<=T)(T8:T<=8): ∀(ds:List dM) (n:Nat) (rows:List dM) (made:List Int) (kds:List Kd) (sn:dM) (a b c d e:Sl),GL T rows made kds->T6 n sn->n+20*ds.length<500000->rows.length+ds.length<900->made.length+ds.length<900→
  ∃n' aj ay sn' aw a' b' c' d',n'<=n+20*ds.length/\aj.length=rows.length+ds.length/\GL T aj ay aw/\XM (gN 6) Y6 ds (T4 ns n T rows made sn a b c d e)=some (.nx (T4 ns n' T aj ay sn' a' b' c' d' e))
 |[],n,rows,made,kds,sn,a,b,c,d,e,G,_,_,_,_=>⟨n,rows,made,sn,kds,a,b,c,d,by simp,by simp,G,by simp⟩
 |i::ds,n,rows,made,kds,sn,a,b,c,d,e,G,hs,hn,hr,hm=>by
  simp only[Dg] at hn hr hm
  obtain⟨n1,kr,m8,sn1,o0,b1,c1,d1,g1,g2,g3,g4,g5,g6,g7⟩:=EI G ns n sn i b c d e hl (by omega) hs T1 T8 (by omega) (by omega)
  obtain⟨n',aj,ay,sn',aw,a',b',c',d',h1,h2,h3,h4⟩:=NJ ns hl T1 T8 ds n1 kr m8 o0 sn1 (.va i) b1 c1 d1 e g6 g3 (by omega) (by omega) (by omega)
  refine⟨n',aj,ay,sn',aw,a',b',c',d',by simp only[Dg];omega,by simp only[Dg];omega,h3,?_⟩
  rw[L8,AI,BX]
  have s1:(T4 ns n T rows made sn a b c d e).set 6 (.va i)=T4 ns n T rows made sn (.va i) b c d e:=rfl
  rw[s1,g7,G1]
  exact h4
noncomputable abbrev G107:VG:=OU 2 (cM (gN 10) (cM (gN 7) ZK))
theorem NU{T:Int}(ns:List Int)(hl:ns.length<=63){made:List Int}{kds:List Kd}(hm:0<made.length)(hw: ∀a∈made,Nm kds .w a)(sn:dM): ∀(rest done:List dM) (ki:List Kd) (n:Nat) (a b c d e:Sl),LG T (Nm kds .w) [] done ki->LG T (fun a=>a=0) ki rest kds->n+rest.length<500000→
  ∃n' aj b' e',n'<=n+rest.length/\aj.length=done.length+rest.length/\LG T (Nm kds .w) [] aj kds/\XM G107 bD (W9 done.length rest) (T4 ns n T (done++rest) made sn a b c d e)=some (.nx (T4 ns n' T aj made sn a b' c d e'))
 | [],done,ki,n,a,b,c,d,e,h1,.nil,_ => ⟨n,done,b,e,by simp,by simp,h1,by simp [W9]⟩
 | row :: rest,done,ki,n,a,b,c,d,e,h1,.cons r h2,hn => by
  simp only[Dg] at hn
  rw[EK]
  have l0:XM G107 bD (.tup [.int done.length,row]::W9 (done.length+1) rest) (T4 ns n T (done++row::rest) made sn a b c d e)=qf2 G107 bD (W9 (done.length+1) rest) (bD (T4 ns n T (done++row::rest) made sn a (.va row) c d (.va (.int done.length)))):=by
   rw[L8]
   simp[T4]
  rw[l0]
  have key: ∃ii n1,n<=n1/\n1<=n+1/\LR T (Nm ki .w) (Nm kds .w) ii/\E3 .w ii=E3 .w row/\bD (T4 ns n T (done++row::rest) made sn a (.va row) c d (.va (.int done.length)))=some (.nx (T4 ns n1 T (done++ii::rest) made sn a (.va row) c d (.va (.int done.length)))):=by
   cases r with
   | plain hr hx gu jx => exact ⟨_,n,by omega,by omega,.plain hr hx gu jx,rfl,by unfold bD;simp [T4,gu]⟩
   | cell hx b0 b1 s0 s1 e0 e1 ht hr => exact ⟨_,n,by omega,by omega,.cell hx b0 b1 s0 s1 e0 e1 ht hr,rfl,by unfold bD;simp [T4,(KL hx).1]⟩
   | @last q w hq hw'=>
    obtain⟨y,hy,ey⟩:=XW ns n (made.map .int) hl (by omega) (by simpa using hm)
    obtain⟨z,hz,rfl⟩:=Hl.mp hy
    refine⟨.tup [.str "last",.int z,.int w],n+1,by omega,by omega,.last (hw z hz) hw',rfl,?_⟩
    have hix:LH (done++dM.tup [.str "last",.int q,.int w]::rest).length (done.length:Int)=some done.length:=by
     unfold LH
     rw[if_pos (by omega),if_pos (by simp;omega)]
     simp
    have jf:(done++dM.tup [.str "last",.int q,.int w]::rest).set done.length (.tup [.str "last",.int z,.int w])=done++ .tup [.str "last",.int z,.int w]::rest:=by
     rw[La _ _ (As _)]
     simp
    rw[Cg,Dg] at hix
    unfold bD
    simp[T4,ey,dM.hard,hix,jf]
  obtain⟨ii,n1,m0,m1,r',hmk,e1⟩:=key
  rw[e1,G1]
  have h1':=h1.snoc r'
  rw[hmk] at h1'
  obtain⟨n',aj,b',e',g1,g2,g3,g4⟩:=NU ns hl hm hw sn rest (done++[ii]) (ki++[E3 .w row]) n1 a (.va row) c d (.va (.int done.length)) h1' h2 (by omega)
  refine⟨n',aj,b',e',by simp only[Dg];omega,by rw[g2];simp;omega,g3,?_⟩
  rw[Cg,Kq,Fw,List.singleton_append] at g4
  exact g4
theorem HW(ns:List Int)(hl:ns.length<=63): ∃(n:Nat) (sure T:Int) (rows:List dM) (kds:List Kd),n<=200/\0<=sure/\sure<=64/\1<=T/\T<=8/\1<=rows.length/\rows.length<=5/\LG T (Nm kds .w) [] rows kds/\Z0 [OF ns,OY 0]=some (.tup [.int sure,.int T,.tup rows],[OY n]):=by
 have d0:=YT ns 0 8 hl (by decide) (by decide)
 have t0:=Q7 ns 0 (b:=8) (by decide)
 have t1:=PC ns 0 (b:=8) (by decide)
 have d1:=YT ns 1 5 hl (by decide) (by decide)
 have k0:=Q7 ns 1 (b:=5) (by decide)
 have k1:=PC ns 1 (b:=5) (by decide)
 generalize hT:1+JE ns 0 8=T at*
 generalize hK:1+JE ns 1 5=k at*
 have hkl:=B9 k.toNat
 have hkb:(-4611686018427387904:Int)<=k/\k<4611686018427387904:=by omega
 obtain⟨n',aj,ay,sn',aw,a',b',c',d',g1,g2,g3,g4⟩:=NJ (T:=T) ns hl (by omega) (by omega) (V5 0 k.toNat) 2 [] [] [] (.dct [] []) .no .no .no .no .no ⟨.nil,(fun _ h=>nomatch h),.inl rfl⟩ ⟨[],[],rfl,rfl,List.nodup_nil,by simp⟩ (by rw[hkl];omega) (by rw[hkl];simp;omega) (by rw[hkl];simp;omega)
 rw[hkl] at g1 g2
 simp only[Ia,Gg] at g2
 have mf:0<ay.length:=by
  rcases g3.ne with h|h
  ·rw[h] at g2;simp at g2;omega
  ·exact h
 obtain⟨n2,kq,b2,e2,h1,h2,h3,h4⟩:=NU (T:=T) ns hl mf g3.w sn' aj [] [] n' a' b' c' d' .no .nil g3.rs (by omega)
 obtain⟨y,hy,ey⟩:=XW ns n2 [.int 0,.int 9,.int 64,.int 40] hl (by omega) (by simp)
 obtain⟨sure,rfl,s0,s1⟩: ∃z:Int,y= .int z/\0<=z/\z<=64:=by
  simp only[Ao,Bk,or_false] at hy
  rcases hy with h|h|h|h<;>exact⟨_,h,by omega,by omega⟩
 simp only[Ia,Gg,Ky] at h2 h4
 refine⟨n2+1,sure,T,kq,aw,by omega,s0,s1,by omega,by omega,by omega,by omega,h3,?_⟩
 simp only[T4,Hj] at g4 h4
 unfold Z0
 rw[bV,UE.eq_1]
 simp[bW,d0,hT,d1,hK,hkb,g4,h4,ey]
noncomputable def EV(k:Int):Option (dM×List dM)->Bool
 |some (.tup [.str "refused",.int j],[])=>j==k
 |_=>false
theorem QS{k:Int}{r:Option (dM×List dM)}(h:EV k r=true):r=some (.tup [.str "refused",.int k],[]):=by
 unfold EV at h
 split at h
 ·rw[beq_iff_eq.mp h];rfl
 ·cases h
noncomputable def EU:Option (dM×List dM)->Bool
 |some (.bl false,[])=>true
 |_=>false
theorem QR{r:Option (dM×List dM)}(h:EU r=true):r=some (.bl false,[]):=by
 unfold EU at h
 split at h
 ·rfl
 ·cases h
noncomputable def DQ:dM:= .tup [.str "load",.tup [.int 0,.int 1]]
noncomputable def M8:List dM:=[.tup [.int 0,.int 0,.tup [DQ]],.tup [.int 0,.int 9,.tup [DQ]],.tup [.int 0,.int 1,.tup []],.tup [.int 0,.int 1,.tup (Ap 9 DQ)],.tup [.int 65,.int 1,.tup [DQ]],.tup [.bl true,.int 1,.tup [DQ]],.tup [.int 0,.int 8,.tup [.tup [.str "load",.tup [.int 60,.int 1]]]],.tup [.int 0,.int 8,.tup [.tup [.str "load",.tup [.int 6,.int (-1)]]]],.tup [.int 0,.int 2,.tup [.tup [.str "load",.int 5]]],.tup [.int 0,.int 2,.tup [.tup [.str "load",.tup [.int 0,.int 10]]]],.tup [.int 0,.int 1,.tup [.tup [.str "load",.tup [.int 64,.int 0]]]],.tup [.int 0,.int 1,.tup [.tup [.str "load",.lst [.int 0,.int 1]]]],.tup [.int 0,.int 1,.tup [.tup [.str "last",.int 0,.int 1000]]],.tup [.int 0,.int 1,.tup [.tup [.str "last",.int 1,.int 0]]],.tup [.int 0,.int 1,.tup [.tup [.str "plus",.int 0,.int 0]]],.tup [.int 0,.int 1,.tup [DQ,.tup [.str "store",.tup [.int 0,.int 1],.int 0],.tup [.str "last",.int 1,.int 0]]],.tup [.int 0,.int 1,.lst [DQ]],.tup [.int 0,.int 1,.tup [DQ,.int 5]],.non,.int 5,.tup [],.tup [.int 0,.int 1],.lst [.int 0,.int 1,.tup [DQ]],.tup [.int 0,.non,.tup [DQ]],.tup [.int 0,.int 1,.tup [.tup [.str "last",.int 0]]],.tup [.int 0,.int 1,.tup [DQ,.tup [.str "if",.int 0,.tup [],.tup []]]]]
theorem zBQ:aW []=some (.lst M8,[]):=by kernel_rfl
theorem D7:M8.all (fun x=>EU (cE [x]) && (EV 7 (cI [.int 0,x,.non]) && (EV 7 (cI [.int 1,x,.non]) && (EV 7 (cI [.int 2,x,.non]) && EV 7 (cI [.int 3,x,.non])))))=true:=by kernel_rfl
noncomputable def badL:List dM:=[.non,.tup [.int 0],.lst (Ap 65 (.int 0))]
noncomputable def badR:List (List dM):=[Ap 64 (.int 1000),Ap 64 (.str "0")]
theorem zBR:badR.all (fun ds=>EU (aQ [.lst ds,.int 64]))=true:=by kernel_rfl
theorem zBS:(Ay 65).all (fun s=>badL.all (fun x=>EU (aQ [x,.int s])))=true:=by kernel_rfl
theorem AQ:[.non,.int 1,.int 5,.str "2",.bl true].all (fun d=>EU (ZM [d]))=true:=by kernel_rfl
theorem zA4:ZG [.exn "NoCells"]=some (.tup [.str "refused",.int 1],[]):=by kernel_rfl
theorem zA3:ZG [.exn "NoLanes"]=some (.tup [.str "refused",.int 3],[]):=by kernel_rfl
theorem zCL{ds:List dM}(hd:ds∈badR){sure:Int}(s1:sure<=64):aQ [.lst ds,.int sure]=some (.bl false,[]):=by
 have e:=QR (Cu.mp zBR ds hd)
 have hl:ds.length=64:=by
  simp only[badR,Ao,Bk,or_false] at hd
  rcases hd with rfl|rfl<;>simp
 rw[<- e]
 unfold aQ
 rw[bV,bV]
 unfold UB
 simp[bW,WP,hl,s1]
 rw[show bI [] [Sl.va (dM.lst ds),Sl.va (dM.int sure)]=bI [] [Sl.va (dM.lst ds),Sl.va (dM.int 64)] from rfl]
 generalize ZV 0 1 (gN 0) XY (c9 3 [] cP (aE (fV 0) (aE (fC (dM.int 0)) (aE (fC Z2) cW)))) ds [] (bI [] [Sl.va (dM.lst ds),Sl.va (dM.int 64)])=c
 rcases c with _|⟨a,b⟩
 ·rfl
 ·show FH [] (BS ((ID (.lst a)).map fun z => (z,_))) = FH [] (BS ((ID (.lst a)).map fun z => (z,_)))
  cases ID (.lst a)<;>rfl
theorem HL{d:dM}(hd:d∈badL){sure:Int}(s0:0<=sure)(s1:sure<=64):aQ [d,.int sure]=some (.bl false,[]):=by
 have:=Cu.mp zBS sure.toNat (Dn.mpr (by omega))
 have:=Cu.mp this d hd
 rw[Lw s0] at this
 exact QR this
theorem BU:BS none=none:=(rfl)
theorem pl1{a:dM}:XX [.d a]=some [a]:=(rfl)
theorem pl2{a b:dM}:XX [.d a,.d b]=some [a,b]:=(rfl)
section
variable{d l:dM}(hb:cE [l]=some (.bl true,[]))
include hb
theorem JS:cC [l]=some (.non,[])/\bY [l]=none:=by
 constructor
 ·unfold cC
  rw[bV]
  unfold WU
  simp[bW,hb]
 ·unfold bY P4 W3
  simp[bW,hb,JD,zNo]
theorem D5(hc:ZM [d]=some (.bl false,[])):cI [.int 3,l,d]=some (.tup [.str "refused",.int 3],[]):=by
 obtain⟨h1,h2⟩:=JS hb
 have r:ZJ [l,d]=some ("NoLanes":Str):=by
  unfold ZJ P4 WA
  simp[bW,Q3,YI,pl1,h1,h2,WF,JD,hc]
 unfold cI
 rw[bV]
 unfold U8
 simp[bW,CC,Q3,WF,JD,zNo,YI,aI,r,zA3,BU,pl2]
end
theorem D4{d r t:dM}{sure:Int}(hb:cE [.tup [.int sure,t,r]]=some (.bl true,[]))(hc:aQ [d,.int sure]=some (.bl false,[])):cI [.int 2,.tup [.int sure,t,r],d]=some (.tup [.str "refused",.int 1],[]):=by
 obtain⟨h1,h2⟩:=JS hb
 have r:YX [.tup [.int sure,t,r],d]=some ("NoCells":Str):=by
  unfold YX P4 UT
  simp[bW,Q3,YI,pl1,h1,h2,WF,JD,hc]
 unfold cI
 rw[bV]
 unfold U8
 simp[bW,CC,Q3,WF,JD,zNo,YI,aI,r,zA4,BU,pl2]
noncomputable def gl1:VS:=(aZ 1 (xO (bE cX)))
noncomputable def gl2:VS:=(aZ 2 (xV (c9 2 [1] Z0 (aE (fV 0) (aO 1 cW)))))
noncomputable def gl3:VS:=(YN (fB (f2 WL (c9 1 [] cE (aE (fV 2) cW)) (fC (.bl true)))) (cB (fC (.bl false))) a8)
noncomputable def gl4:VS:=(aZ 3 (xV (c9 3 [1] b8 (aE (fV 0) (aO 1 (aE (c9 0 [] aW cW) cW))))))
noncomputable def gl5:VS:=(YN (Q5 (fB (f2 WL (c9 1 [] cE (aE (fV 3) cW)) (fC (.bl false)))) (fB (f2 KJ (aD [3] 1 (GF (fC (.int 4))) (gN 1) XY (c9 3 [] cI (aE (fV 1) (aE (fV 0) (aE (fC .non) cW))))) (f2 Z9 (fC (.lst [.tup [.str "refused",.int 7]])) (fC (.int 4)))))) (cB (fC (.bl false))) a8)
noncomputable def gl6:VS:=(TM (XB (bE (dN (fC .non) (dN (fC (.int 1)) (dN (fC (.int 5)) (dN (fC (.str "2")) (dN (fC (.bl true)) cX))))))) (gN 4) QN)
noncomputable def gl7:VS:=(TM (XB (bE (dN (fC .non) (dN (bZ (dN (fC (.int 0)) cX)) (dN (f2 Z9 (bE (dN (fC (.int 0)) cX)) (fC (.int 65))) (dN (f2 Z9 (bE (dN (fC (.int 1000)) cX)) (fC (.int 64))) (dN (f2 Z9 (bE (dN (fC (.str "0")) cX)) (fC (.int 64))) cX))))))) (gN 5) SM)
noncomputable def gl8:VS:=(aZ 6 (xV (bZ (dN (fC (.int 0)) (dN (fC (.int 8)) (dN (f2 Z9 (fC (.tup [.tup [.str "load",.tup [.int 0,.int 1]]])) (fC (.int 6))) cX))))))
noncomputable def gl9:VS:=(YN (Q5 (fB (f2 KJ (aD [6] 1 (XB (bZ (dN (fC (.int 0)) (dN (fC (.int 3)) cX)))) (gN 1) XY (c9 3 [] cI (aE (fV 1) (aE (fV 0) (aE (fC (.int 2)) cW))))) (f2 Z9 (fC (.lst [.tup [.str "refused",.int 11]])) (fC (.int 2))))) (fB (f2 TC (c9 3 [] cI (aE (fC (.int 1)) (aE (fV 6) (aE (fC .non) cW)))) (fC .non)))) (cB (fC (.bl false))) a8)
noncomputable def gl10:VS:=(YN (Q5 (fB (f2 WL (c9 1 [] cE (aE (fC (.tup [.int 0,.int 8,.tup [.tup [.str "load",.tup [.int 56,.int 1]]]])) cW)) (fC (.bl true)))) (fB (f2 WL (c9 1 [] cE (aE (bZ (dN (fC (.int 0)) (dN (fC (.int 1)) (dN (f2 Z9 (fC (.tup [.tup [.str "load",.tup [.int 63,.int 9]]])) (fC (.int 8))) cX)))) cW)) (fC (.bl true))))) (cB (fC (.bl false))) a8)
noncomputable def gl11:VS:=(cB (f2 WK (f1 Z6 (f2 b5 (f2 b5 (c9 3 [] cI (aE (fC (.int 0)) (aE (bZ (dN (fC (.int 0)) (dN (fC (.int 8)) (dN (f2 Z9 (fC (.tup [.tup [.str "load",.tup [.int 0,.int 1]]])) (fC (.int 5))) cX)))) (aE (fC .non) cW)))) (fC (.int 0))) (fC (.int 1)))) (fC (.int 40))))
theorem AK:AJ=cS gl1 (cS gl2 (cS gl3 (cS gl4 (cS gl5 (cS gl6 (cS gl7 (cS gl8 (cS gl9 (cS gl10 (gl11)))))))))):=rfl
noncomputable abbrev rf(k:Int):dM:= .tup [.str "refused",.int k]
noncomputable def QJ:dM:= .tup [.int 0,.int 8,.tup (Ap 6 DQ)]
noncomputable def JM:List dM:=[.non,.tup [.int 0],.lst (Ap 65 (.int 0)),.lst (Ap 64 (.int 1000)),.lst (Ap 64 (.str "0"))]
theorem zDO:KJ (rf 1) (rf 1)=some (.bl false):=by kernel_rfl
theorem zDN:KJ (rf 3) (rf 3)=some (.bl false):=by kernel_rfl
theorem nb_t:WL (.bl true) (.bl true)=some (.bl false):=(rfl)
theorem nb_f:WL (.bl false) (.bl false)=some (.bl false):=(rfl)
theorem zHZ(a:dM):gl1 [.va a,.no,.no,.no,.no,.no,.no]=some (.nx [.va a,.ow (.lst []),.no,.no,.no,.no,.no]):=rfl
theorem zHY{a b l b':dM}(h:Z0 [a,b]=some (l,[b'])):gl2 [.va a,.ow b,.no,.no,.no,.no,.no]=some (.nx [.va a,.ow b',.va l,.no,.no,.no,.no]):=by
 unfold gl2
 simp[h]
theorem zHX{a b l:dM}(h:cE [l]=some (.bl true,[])):gl3 [.va a,.ow b,.va l,.no,.no,.no,.no]=some (.nx [.va a,.ow b,.va l,.no,.no,.no,.no]):=by
 unfold gl3
 simp[h,nb_t]
theorem zHW{a b l x b':dM}(h:b8 [a,b,.lst M8]=some (x,[b'])):gl4 [.va a,.ow b,.va l,.no,.no,.no,.no]=some (.nx [.va a,.ow b',.va l,.va x,.no,.no,.no]):=by
 unfold gl4
 simp[h,zBQ]
theorem rep4:Z9 (.lst [rf 7]) (.int 4)=some (.lst [rf 7,rf 7,rf 7,rf 7]):=(rfl)
theorem ne4:KJ (.lst [rf 7,rf 7,rf 7,rf 7]) (.lst [rf 7,rf 7,rf 7,rf 7])=some (.bl false):=by kernel_rfl
theorem zHV{a b l x:dM}(hx:x∈M8):gl5 [.va a,.ow b,.va l,.va x,.no,.no,.no]=some (.nx [.va a,.ow b,.va l,.va x,.no,.no,.no]):=by
 have:=Cu.mp D7 x hx
 obtain⟨h1,this⟩:=(Ac _ _).mp this
 obtain⟨h2,this⟩:=(Ac _ _).mp this
 obtain⟨h3,this⟩:=(Ac _ _).mp this
 obtain⟨h4,h5⟩:=(Ac _ _).mp this
 have h1:=QR h1
 have h2:_=some (rf 7,[]):=QS h2
 have h3:_=some (rf 7,[]):=QS h3
 have h4:_=some (rf 7,[]):=QS h4
 have h5:_=some (rf 7,[]):=QS h5
 unfold gl5
 simp[h1,h2,h3,h4,h5,bI,rep4,ne4,nb_f]
theorem b2_e{a b l x d:dM}{u v:Sl}(h:cI [.int 3,l,d]=some (rf 3,[])):QN [.va a,.ow b,.va l,.va x,.va d,u,v]=some (.nx [.va a,.ow b,.va l,.va x,.va d,u,v]):=by
 unfold QN
 simp[h,zDN]
theorem zHU{a b l x:dM}(hb:cE [l]=some (.bl true,[])):gl6 [.va a,.ow b,.va l,.va x,.no,.no,.no]=some (.nx [.va a,.ow b,.va l,.va x,.va (.bl true),.no,.no]):=by
 have h: ∀d∈([.non,.int 1,.int 5,.str "2",.bl true]:List dM),cI [.int 3,l,d]=some (rf 3,[]):=fun d hd=>D5 hb (QR (Cu.mp AQ d hd))
 unfold gl6
 simp[b2_e (h .non (by simp)),b2_e (h (.int 1) (by simp)),b2_e (h (.int 5) (by simp)),b2_e (h (.str "2") (by simp)),b2_e (h (.bl true) (by simp))]
theorem b1_e{a b l x d:dM}{u v:Sl}(h:cI [.int 2,l,d]=some (rf 1,[])):SM [.va a,.ow b,.va l,.va x,u,.va d,v]=some (.nx [.va a,.ow b,.va l,.va x,u,.va d,v]):=by
 unfold SM
 simp[h,zDO]
theorem zBL{a b l x u v:Sl}:XB (bE (dN (fC .non) (dN (bZ (dN (fC (.int 0)) cX)) (dN (f2 Z9 (bE (dN (fC (.int 0)) cX)) (fC (.int 65))) (dN (f2 Z9 (bE (dN (fC (.int 1000)) cX)) (fC (.int 64))) (dN (f2 Z9 (bE (dN (fC (.str "0")) cX)) (fC (.int 64))) cX)))))) [a,b,l,x,u,v,.no]=some (JM,[a,b,l,x,u,v,.no]):=by kernel_rfl
theorem zHT{a b x t r:dM}{sure:Int}(s0:0<=sure)(s1:sure<=64)(hb:cE [.tup [.int sure,t,r]]=some (.bl true,[])): ∃d:Sl,gl7 [.va a,.ow b,.va (.tup [.int sure,t,r]),.va x,.va (.bl true),.no,.no]=some (.nx [.va a,.ow b,.va (.tup [.int sure,t,r]),.va x,.va (.bl true),d,.no]):=by
 have h: ∀d∈JM,cI [.int 2,.tup [.int sure,t,r],d]=some (rf 1,[]):=fun d hd=>D4 hb (by
  simp only[JM,Ao,Bk,or_false] at hd
  rcases hd with rfl|rfl|rfl|rfl|rfl
  ·exact HL (by simp [badL]) s0 s1
  ·exact HL (by simp [badL]) s0 s1
  ·exact HL (by simp [badL]) s0 s1
  ·exact zCL (by simp [badR]) s1
  ·exact zCL (by simp [badR]) s1)
 have run: ∀(ds:List dM) (u:Sl),(∀d∈ds,d∈JM)-> ∃u',XM (gN 5) SM ds [.va a,.ow b,.va (.tup [.int sure,t,r]),.va x,.va (.bl true),u,.no]=some (.nx [.va a,.ow b,.va (.tup [.int sure,t,r]),.va x,.va (.bl true),u',.no]):=by
  intro ds
  induction ds with
  |nil=>exact fun u _=>⟨u,by simp⟩
  |cons d ds ih=>
   intro u hd
   obtain⟨u',e⟩:=ih (.va d) fun e he=>hd e (Av _ he)
   refine⟨u',?_⟩
   have hs:([.va a,.ow b,.va (.tup [.int sure,t,r]),.va x,.va (.bl true),u,.no]:Ev).set 5 (.va d)=[.va a,.ow b,.va (.tup [.int sure,t,r]),.va x,.va (.bl true),.va d,.no]:=rfl
   rw[L8,AI,hs,BX,b1_e (h d (hd d Bg)),G1,e]
 obtain⟨u',e⟩:=run JM .no fun _ h=>h
 refine⟨u',?_⟩
 unfold gl7
 rw[zDL,zBL,qF_s,e]
theorem zHS{a b l x u v:Sl}:gl8 [a,b,l,x,u,v,.no]=some (.nx [a,b,l,x,u,v,.va QJ]):=by kernel_rfl
theorem zHR{a b l x u v:Sl}:gl9 [a,b,l,x,u,v,.va QJ]=some (.nx [a,b,l,x,u,v,.va QJ]):=by kernel_rfl
theorem zFG{a b l x u v:Sl}:gl10 [a,b,l,x,u,v,.va QJ]=some (.nx [a,b,l,x,u,v,.va QJ]):=by kernel_rfl
theorem zFF{a b l x u v:Sl}:gl11 [a,b,l,x,u,v,.va QJ]=some (.rt (.bl true) [a,b,l,x,u,v,.va QJ]):=by kernel_rfl
end L2
namespace RR
open PySem L2
theorem AS(ns:List Int)(hl:ns.length<=63):M3 [.lst (ns.map .int)]=some (.bl true,[]):=by
 obtain⟨n,sure,T,rows,kds,hn,s0,s1,T1,T8,r1,r5,hr,e2⟩:=HW ns hl
 have hb:=EW hr s0 s1 T1 T8 r1 (by omega)
 obtain⟨x,hx,e4⟩:=XW ns n M8 hl (by omega) (by simp[M8])
 obtain⟨d,e7⟩:=zHT (a:=OF ns) (b:=OY (n+1)) (x:=x) (t:= .int T) (r:= .tup rows) s0 s1 hb
 have ht0:dM.lst []=OY 0:=rfl
 have hS:dM.lst (ns.map .int)=OF ns:=rfl
 rw[hS]
 unfold M3
 rw[bV,AK,show bW [] 7 [OF ns]=[.va (OF ns),.no,.no,.no,.no,.no,.no] from rfl]
 rw[XR,zHZ,OP,ht0,XR,zHY e2,OP,XR,zHX hb,OP,XR,zHW e4,OP,XR,zHV hx,OP,XR,zHU hb,OP,XR,e7,OP,XR,zHS,OP,XR,zHR,OP,XR,zFG,OP,zFF]
 rfl
end RR
namespace KK
open PySem PySem.W
noncomputable abbrev g(a i:Nat)(n:Str)(d m:Value):Obj:=⟨.type "function",none,.func (fnOf n n (L2.Z8 (RR.top i)) (L2.bQ (RR.top i)) (L2.dH (RR.top i)) d .none .none m none (.ref (a - 1)) .none),#[]⟩
theorem p(P:Nf)(a i:Nat)(n:Str)(m:Value)(h1:nsIn (K P) mainGlobals n=some (some (.ref a)):=by kernel_rfl)(h2:(K P).lookup a=some (g a i n .none m):=by kernel_rfl)(h3:codeIn (K P) (.ref (a - 1)) n=true:=by kernel_rfl):L2.A4 (K P) n (RR.top i) a:=L2.a4 h1 h2 h3 (by unfold keepIn;simp only[h2])
noncomputable abbrev gk(a i:Nat)(n:Str)(k m:Value):Obj:=⟨.type "function",none,.func (fnOf n n (L2.Z8 (RR.top i)) (L2.bQ (RR.top i)) (L2.dH (RR.top i)) .none k .none m none (.ref (a - 1)) .none),#[]⟩
theorem pk(P:Nf)(a i:Nat)(n:Str)(k m:Value)(h1:nsIn (K P) mainGlobals n=some (some (.ref a)):=by kernel_rfl)(h2:(K P).lookup a=some (gk a i n k m):=by kernel_rfl)(h3:codeIn (K P) (.ref (a - 1)) n=true:=by kernel_rfl):L2.A4 (K P) n (RR.top i) a:=L2.a4 h1 h2 h3 (by unfold keepIn;simp only[h2])
end KK
namespace RR
open PySem L2
abbrev Zn(K:Ai)(x:Str):Prop:=Fq K mainGlobals x=some none
abbrev Gn(K:Ai)(x:Str)(v:Value):Prop:=Fq K mainGlobals x=some (some v)
theorem Len0{α:Type}{P:List α->Prop}(z:P []): ∀us:List α,us.length=0->P us
 |[],_=>z
theorem SH{α:Type}{P:List α->Prop}(z: ∀a,P [a]): ∀us:List α,us.length=1->P us
 |[a],_=>z a
theorem QX{α:Type}{P:List α->Prop}(z: ∀a b,P [a,b]): ∀us:List α,us.length=2->P us
 |[a,b],_=>z a b
theorem DW{α:Type}{P:List α->Prop}(z: ∀a b c,P [a,b,c]): ∀us:List α,us.length=3->P us
 |[a,b,c],_=>z a b c
theorem Len4{α:Type}{P:List α->Prop}(z: ∀a b c d,P [a,b,c,d]): ∀us:List α,us.length=4->P us
 |[a,b,c,d],_=>z a b c d
theorem Len5{α:Type}{P:List α->Prop}(z: ∀a b c d e,P [a,b,c,d,e]): ∀us:List α,us.length=5->P us
 |[a,b,c,d,e],_=>z a b c d e
theorem zFR{l:Qj}{w:World}{K:Ai}{h:Heap}{mg:Str->Option Value}{fa:Addr}(X:K.In h)(G:h.Ns mainGlobals mg)(hfa:mg "law"=some (.ref fa))
  {f_x0 f_x1 f_x2 f_x3 f_x4 f_x5 f_x6 f_x7 f_x8 f_x9 f_x10 f_x11 f_x12 f_x13 f_x14 f_x15 f_x16 f_x17 f_x18 f_x19 f_x20 f_x21 f_x22 f_x23 f_x24 f_x25 f_x26 f_x27 f_x28 f_x29 f_x30 f_x31 f_x32 f_x33 f_x34 f_x35:Addr}
  {kV_x35 dc_x35 pm_x35 cd_x35 ct_x35:Value}
  {t1 t2 t3 t4 t5 t6 t7 t8:Tok}
  {a9:Addr}
  {t10 t11 t12 t13 t14:Tok}
  {a15:Addr}
  {t16 t17 t18 t19 t20 t21 t22:Tok}
  {a23:Addr}
  {t24 t25 t26:Tok}
  {a27:Addr}
  {t28:Tok}
  {a29:Addr}
  {t30 t31 t32:Tok}
  {a33:Addr}
  {t34 t35:Tok}
  {a36:Addr}
  {t37 t38 t39:Tok}
  {a40 a41:Addr}
  {h42 h43 h44 h45 h46 h47:Int}
  {t48 t49:Tok}
  {a50:Addr}
  {t51 t52:Tok}
  {a53:Addr}
  {t54 t55 t56 t57 t58 t59:Tok}
  {a60 a61 a62 a63 a64 a65 a66 a67 a68 a69 a70 a71 a72 a73:Addr}
  (nr:A4 K "is_whole" (top 19) f_x0)
  (nq:A4 K "parts_of" (top 38) f_x1)
  (nk:A4 K "makes_word" (top 39) f_x2)
  (nj:A4 K "place_of" (top 40) f_x3)
  (ni:A4 K "names_of" (top 41) f_x4)
  (nh:A4 K "with_names" (top 42) f_x5)
  (ng:A4 K "may_name" (top 43) f_x6)
  (nb:A4 K "fits" (top 44) f_x7)
  (mz:A4 K "is_row" (top 45) f_x8)
  (my:A4 K "writes" (top 47) f_x9)
  (ln:A4 K "is_lanes" (top 56) f_x10)
  (lm:A4 K "is_cells" (top 68) f_x11)
  (ll:A4 K "place_in" (top 76) f_x12)
  (lj:A4 K "in_turn" (top 77) f_x13)
  (li:A4 K "is_stride" (top 78) f_x14)
  (lh:A4 K "is_last" (top 79) f_x15)
  (lg:A4 K "is_loop_row" (top 80) f_x16)
  (lf:A4 K "are_loop_rows" (top 81) f_x17)
  (lc:A4 K "is_loop" (top 82) f_x18)
  (jo:A4 K "check_loop" (top 83) f_x19)
  (lb:A4 K "run_loop" (top 85) f_x20)
  (la:A4 K "lay_turn" (top 86) f_x21)
  (gq:A4 K "unrolled" (top 87) f_x22)
  (l9:A4 K "turn_plan" (top 88) f_x23)
  (gp:A4 K "reach" (top 89) f_x24)
  (l8:A4 K "_law_cell_at" (top 91) f_x25)
  (l7:A4 K "_law_mixed" (top 92) f_x26)
  (l6:A4 K "_law_draw" (top 93) f_x27)
  (l5:A4 K "_law_pick" (top 94) f_x28)
  (l4:A4 K "_law_place" (top 95) f_x29)
  (l3:A4 K "_law_row" (top 96) f_x30)
  (kz:A4 K "_law_which" (top 97) f_x31)
  (ky:A4 K "_law_loop" (top 98) f_x32)
  (kx:A4 K "_law_ask" (top 99) f_x33)
  (ku:A4 K "_law_bad_loops" (top 100) f_x34)
  (mw:Fq K mainGlobals "law"=some (some (.ref f_x35)))
  (ma:K.lookup f_x35=some ⟨.type "function",none,.func (Ji "law" "law" (Z8 (top 101)) (bQ (top 101)) (dH (top 101)) .none kV_x35 dc_x35 pm_x35 none cd_x35 ct_x35),#[]⟩)
  (mv:Mc K cd_x35 "law"=true)
  (md:Fj K (.ref f_x35)=true)
  (km:Zn K "len")
  (jd:Zn K "range")
  (kj:Zn K "min")
  (kl:Zn K "max")
  (js:Zn K "list")
  (jc:Zn K "tuple")
  (dk:Zn K "isinstance")
  (jt:Zn K "bool")
  (kn:Zn K "int")
  (kh:Zn K "str")
  (en:Zn K "enumerate")
  (kg:Zn K "zip")
  (ko:Zn K "all")
  (dm:Zn K "ValueError")
  (fo:Gn K "MOST_WORD" (.int 999 t1))
  (nu:K.lookup a9=some ⟨.type "tuple",none,.seq #[.str "plus" t2,.str "minus" t3,.str "times" t4,.str "least" t5,.str "most" t6,.str "less" t7,.str "over" t8] 0,#[]⟩)
  (jg:Gn K "DEEDS" (.ref a9))
  (fw:Gn K "MOST_SURE" (.int 64 t10))
  (g8:Gn K "MOST_ROWS" (.int 40 t11))
  (dw:Gn K "MOST_PLACE" (.int 63 t12))
  (lz:K.lookup a15=some ⟨.type "tuple",none,.seq #[.str "row" t13,.str "row" t14] 0,#[]⟩)
  (ef:Gn K "DEED_PARTS" (.ref a15))
  (ly:K.lookup a23=some ⟨.type "tuple",none,.seq #[.str "word" t22] 0,#[]⟩)
  (lx:K.lookup a27=some ⟨.type "tuple",none,.seq #[.str "row" t24,.str "row" t25,.str "row" t26] 0,#[]⟩)
  (lw:K.lookup a29=some ⟨.type "tuple",none,.seq #[.str "place" t28] 0,#[]⟩)
  (lv:K.lookup a33=some ⟨.type "tuple",none,.seq #[.str "place" t30,.str "row" t31,.str "row" t32] 0,#[]⟩)
  (lu:K.lookup a36=some ⟨.type "tuple",none,.seq #[.str "place" t34,.str "row" t35] 0,#[]⟩)
  (ls:K.lookup a40=some ⟨.type "tuple",none,.seq #[.str "place" t37,.str "row" t38,.str "row" t39] 0,#[]⟩)
  (lr:K.lookup a41=some ⟨.type "dict",none,.dict #[⟨h42,.str "number" t16,.ref a23⟩,⟨h43,.str "pick" t17,.ref a27⟩,⟨h44,.str "load" t18,.ref a29⟩,⟨h45,.str "take" t19,.ref a33⟩,⟨h46,.str "store" t20,.ref a36⟩,⟨h47,.str "put" t21,.ref a40⟩] 6,#[]⟩)
  (m9:(a41==Ez)=false)
  (d8:Gn K "OTHER_PARTS" (.ref a41))
  (lq:K.lookup a50=some ⟨.type "tuple",none,.seq #[.str "load" t48,.str "take" t49] 0,#[]⟩)
  (i9:Gn K "READERS" (.ref a50))
  (lp:K.lookup a53=some ⟨.type "tuple",none,.seq #[.str "store" t51,.str "put" t52] 0,#[]⟩)
  (i8:Gn K "WRITERS" (.ref a53))
  (d9:Gn K "LEAST_LANES" (.int 2 t54))
  (dz:Gn K "MOST_LANES" (.int 4 t55))
  (ee:Gn K "MOST_CELLS" (.int 64 t56))
  (du:Gn K "MOST_TURNS" (.int 8 t57))
  (cj:Gn K "MOST_LOOP_ROWS" (.int 8 t58))
  (g0:Gn K "MOST_STEP" (.int 9 t59))
  (dc:Gn K "Nothing" (.ref a60))
  (cy:Gn K "NotValid" (.ref a61))
  (db:Gn K "TooLong" (.ref a62))
  (da:Gn K "TooMany" (.ref a63))
  (fj:Gn K "NoName" (.ref a64))
  (f8:Gn K "NoText" (.ref a65))
  (fm:Gn K "NoLoop" (.ref a66))
  (f7:Gn K "NoTree" (.ref a67))
  (cm:Gn K "NoProgram" (.ref a68))
  (f9:Gn K "NoPlan" (.ref a69))
  (de:Gn K "NoLanes" (.ref a70))
  (gv:Gn K "NoRow" (.ref a71))
  (df:Gn K "NoCells" (.ref a72))
  (dg:Gn K "NoBlock" (.ref a73))
  (bu:XC K "NoCells" a72)
  (br:XC K "NoLanes" a70)
  (cg:XC K "NoLoop" a66)
  (bq:XC K "TooLong" a62)
  (xk:xiOk K LB V9=true):
  ∃fd:Ck,(∀(s:Ad) (v:Value),Lo s fd ⟨[v],[]⟩ [("_law_script",v)])/\ ∀base:Heap,K.In base->base.Ns mainGlobals mg->bU l.prog w K mg base CX0 12 fa fd ["_law_script"] (spV K [] 1 M3):=by
 have e:=hfa.symm.trans (Ci X G mw)
 cases e
 have T:W5 K mg:=⟨fun _ _ e=>Ci X G e,
   Dm X G km,
   Dm X G jd,
   Dm X G kj,
   Dm X G kl,
   Dm X G js,
   Dm X G jc,
   Dm X G dk,
   Dm X G jt,
   Dm X G kn,
   Dm X G kh,
   Dm X G en,
   Dm X G kg,
   Dm X G ko,
   Dm X G dm,
   ⟨_,.ref a9,Ci X G jg,rfl,fun _ _ _=>(.tup (xs:=[.str "plus",.str "minus",.str "times",.str "least",.str "most",.str "less",.str "over"]) (.inr ⟨_,_,_,nu,rfl,rfl,(by show 7<=sizeLine;decide),(.cons ⟨_,rfl⟩ (.cons ⟨_,rfl⟩ (.cons ⟨_,rfl⟩ (.cons ⟨_,rfl⟩ (.cons ⟨_,rfl⟩ (.cons ⟨_,rfl⟩ (.cons ⟨_,rfl⟩ .nil)))))))⟩) (.cons (.str _) (.cons (.str _) (.cons (.str _) (.cons (.str _) (.cons (.str _) (.cons (.str _) (.cons (.str _) .nil))))))))⟩,
   ⟨_,.ref a15,Ci X G ef,rfl,fun _ _ _=>(.tup (xs:=[.str "row",.str "row"]) (.inr ⟨_,_,_,lz,rfl,rfl,(by show 2<=sizeLine;decide),(.cons ⟨_,rfl⟩ (.cons ⟨_,rfl⟩ .nil))⟩) (.cons (.str _) (.cons (.str _) .nil)))⟩,
   ⟨_,.int 2,Ci X G d9,⟨_,rfl⟩,fun _ _ _=>(.int _)⟩,
   ⟨_,.int 64,Ci X G ee,⟨_,rfl⟩,fun _ _ _=>(.int _)⟩,
   ⟨_,.int 4,Ci X G dz,⟨_,rfl⟩,fun _ _ _=>(.int _)⟩,
   ⟨_,.int 8,Ci X G cj,⟨_,rfl⟩,fun _ _ _=>(.int _)⟩,
   ⟨_,.int 63,Ci X G dw,⟨_,rfl⟩,fun _ _ _=>(.int _)⟩,
   ⟨_,.int 40,Ci X G g8,⟨_,rfl⟩,fun _ _ _=>(.int _)⟩,
   ⟨_,.int 9,Ci X G g0,⟨_,rfl⟩,fun _ _ _=>(.int _)⟩,
   ⟨_,.int 64,Ci X G fw,⟨_,rfl⟩,fun _ _ _=>(.int _)⟩,
   ⟨_,.int 8,Ci X G du,⟨_,rfl⟩,fun _ _ _=>(.int _)⟩,
   ⟨_,.int 999,Ci X G fo,⟨_,rfl⟩,fun _ _ _=>(.int _)⟩,
   ⟨_,.ref a41,Ci X G d8,rfl,fun _ _ _=>(.ktb (D:=[("number",.ref a23),("pick",.ref a27),("load",.ref a29),("take",.ref a33),("store",.ref a36),("put",.ref a40)]) ⟨m9,_,_,_,lr,⟨rfl,rfl,rfl⟩,rfl,(.cons rfl rfl (.cons rfl rfl (.cons rfl rfl (.cons rfl rfl (.cons rfl rfl (.cons rfl rfl .nil))))))⟩ (.cons (.tup (xs:=[.str "word"]) (.inr ⟨_,_,_,ly,rfl,rfl,(by show 1<=sizeLine;decide),(.cons ⟨_,rfl⟩ .nil)⟩) (.cons (.str _) .nil)) (.cons (.tup (xs:=[.str "row",.str "row",.str "row"]) (.inr ⟨_,_,_,lx,rfl,rfl,(by show 3<=sizeLine;decide),(.cons ⟨_,rfl⟩ (.cons ⟨_,rfl⟩ (.cons ⟨_,rfl⟩ .nil)))⟩) (.cons (.str _) (.cons (.str _) (.cons (.str _) .nil)))) (.cons (.tup (xs:=[.str "place"]) (.inr ⟨_,_,_,lw,rfl,rfl,(by show 1<=sizeLine;decide),(.cons ⟨_,rfl⟩ .nil)⟩) (.cons (.str _) .nil)) (.cons (.tup (xs:=[.str "place",.str "row",.str "row"]) (.inr ⟨_,_,_,lv,rfl,rfl,(by show 3<=sizeLine;decide),(.cons ⟨_,rfl⟩ (.cons ⟨_,rfl⟩ (.cons ⟨_,rfl⟩ .nil)))⟩) (.cons (.str _) (.cons (.str _) (.cons (.str _) .nil)))) (.cons (.tup (xs:=[.str "place",.str "row"]) (.inr ⟨_,_,_,lu,rfl,rfl,(by show 2<=sizeLine;decide),(.cons ⟨_,rfl⟩ (.cons ⟨_,rfl⟩ .nil))⟩) (.cons (.str _) (.cons (.str _) .nil))) (.cons (.tup (xs:=[.str "place",.str "row",.str "row"]) (.inr ⟨_,_,_,ls,rfl,rfl,(by show 3<=sizeLine;decide),(.cons ⟨_,rfl⟩ (.cons ⟨_,rfl⟩ (.cons ⟨_,rfl⟩ .nil)))⟩) (.cons (.str _) (.cons (.str _) (.cons (.str _) .nil)))) .nil)))))))⟩,
   ⟨_,.ref a50,Ci X G i9,rfl,fun _ _ _=>(.tup (xs:=[.str "load",.str "take"]) (.inr ⟨_,_,_,lq,rfl,rfl,(by show 2<=sizeLine;decide),(.cons ⟨_,rfl⟩ (.cons ⟨_,rfl⟩ .nil))⟩) (.cons (.str _) (.cons (.str _) .nil)))⟩,
   ⟨_,.ref a53,Ci X G i8,rfl,fun _ _ _=>(.tup (xs:=[.str "store",.str "put"]) (.inr ⟨_,_,_,lp,rfl,rfl,(by show 2<=sizeLine;decide),(.cons ⟨_,rfl⟩ (.cons ⟨_,rfl⟩ .nil))⟩) (.cons (.str _) (.cons (.str _) .nil)))⟩,
   ⟨_,.ref a60,Ci X G dc,rfl,fun _ _ _=> .fn dc⟩,
   ⟨_,.ref a61,Ci X G cy,rfl,fun _ _ _=> .fn cy⟩,
   ⟨_,.ref a62,Ci X G db,rfl,fun _ _ _=> .fn db⟩,
   ⟨_,.ref a63,Ci X G da,rfl,fun _ _ _=> .fn da⟩,
   ⟨_,.ref a64,Ci X G fj,rfl,fun _ _ _=> .fn fj⟩,
   ⟨_,.ref a65,Ci X G f8,rfl,fun _ _ _=> .fn f8⟩,
   ⟨_,.ref a66,Ci X G fm,rfl,fun _ _ _=> .fn fm⟩,
   ⟨_,.ref a67,Ci X G f7,rfl,fun _ _ _=> .fn f7⟩,
   ⟨_,.ref a68,Ci X G cm,rfl,fun _ _ _=> .fn cm⟩,
   ⟨_,.ref a69,Ci X G f9,rfl,fun _ _ _=> .fn f9⟩,
   ⟨_,.ref a70,Ci X G de,rfl,fun _ _ _=> .fn de⟩,
   ⟨_,.ref a71,Ci X G gv,rfl,fun _ _ _=> .fn gv⟩,
   ⟨_,.ref a72,Ci X G df,rfl,fun _ _ _=> .fn df⟩,
   ⟨_,.ref a73,Ci X G dg,rfl,fun _ _ _=> .fn dg⟩,
   ⟨_,.ref f_x24,Ci X G gp.ns,rfl,fun _ _ _=> .fn gp.ns⟩,
   ⟨_,.ref f_x22,Ci X G gq.ns,rfl,fun _ _ _=> .fn gq.ns⟩,
   ⟨_,bu,Ci X G bu.at_⟩,
   ⟨_,br,Ci X G br.at_⟩,
   ⟨_,cg,Ci X G cg.at_⟩,
   ⟨_,bq,Ci X G bq.at_⟩,
   XI.of (Fz.mpr ⟨⟨_,bu⟩,Fz.mpr ⟨⟨_,br⟩,Fz.mpr ⟨⟨_,cg⟩,Fz.mpr ⟨⟨_,bq⟩,nofun⟩⟩⟩⟩) xk⟩
 have mx:=PF (st:=top 101) ma mv md
 refine⟨Ji "law" "law" (Z8 (top 101)) (bQ (top 101)) (dH (top 101)) .none kV_x35 dc_x35 pm_x35 none cd_x35 ct_x35,fun s v=> .of_eq rfl,fun base _ _=> ?_⟩
 have ap:cL l.prog w K mg base "is_whole" 1 Qx0 [] cP f_x0:=ZT X G nr (fun U=>zH9 U T) (DW fun _ _ _=>rfl)
 have ig:cL l.prog w K mg base "parts_of" 1 Qx1 [] bM f_x1:=ZT X G nq (fun U=>zH8 U T) (SH fun _=>rfl)
 have kf:cL l.prog w K mg base "makes_word" 1 Qx2 [] ZX f_x2:=ZT X G nk (fun U=>zH7 U T) (SH fun _=>rfl)
 have gb:cL l.prog w K mg base "place_of" 1 Qx3 [] aG f_x3:=ZT X G nj (fun U=>zH6 U T) (SH fun _=>rfl)
 have kc:cL l.prog w K mg base "names_of" 2 Qx4 [] WN f_x4:=ZT X G ni (fun U=>zH5 U T ig) (SH fun _=>rfl)
 have ka:cL l.prog w K mg base "with_names" 1 Qx5 [] YC f_x5:=ZT X G nh (fun U=>zH4 U T) (QX fun _ _=>rfl)
 have k9:cL l.prog w K mg base "may_name" 2 Qx6 [] YV f_x6:=ZT X G ng (fun U=>zH3 U T ap) (QX fun _ _=>rfl)
 have k8:cL l.prog w K mg base "fits" 3 Qx7 [] XH f_x7:=ZT X G nb (fun U=>zH2 U T ap k9) (DW fun _ _ _=>rfl)
 have jk:cL l.prog w K mg base "is_row" 4 Qx8 [] X0 f_x8:=ZT X G mz (fun U=>zH1 U T ig k8) (QX fun _ _=>rfl)
 have iy:cL l.prog w K mg base "writes" 1 Qx9 [] VM f_x9:=ZT X G my (fun U=>zH0 U T) (SH fun _=>rfl)
 have i3:cL l.prog w K mg base "is_lanes" 2 Qx10 [] ZM f_x10:=ZT X G ln (fun U=>zEX U T ap) (SH fun _=>rfl)
 have jb:cL l.prog w K mg base "is_cells" 2 Qx11 [] aQ f_x11:=ZT X G lm (fun U=>zEW U T ap) (QX fun _ _=>rfl)
 have bp:cL l.prog w K mg base "place_in" 1 JG [] a6 f_x12:=ZT X G ll (fun U=>zEV U T) (QX fun _ _=>rfl)
 have dj:cL l.prog w K mg base "in_turn" 2 DX [] ZC f_x13:=ZT X G lj (fun U=>zEU U T gb bp) (QX fun _ _=>rfl)
 have ja:cL l.prog w K mg base "is_stride" 2 Qx14 [] ZD f_x14:=ZT X G li (fun U=>zET U T ap bp) (QX fun _ _=>rfl)
 have j9:cL l.prog w K mg base "is_last" 2 Qx15 [] X9 f_x15:=ZT X G lh (fun U=>zES U T ap) (QX fun _ _=>rfl)
 have j8:cL l.prog w K mg base "is_loop_row" 5 Qx16 [] bA f_x16:=ZT X G lg (fun U=>zER U T jk dj ja j9) (Len4 fun _ _ _ _=>rfl)
 have j7:cL l.prog w K mg base "are_loop_rows" 6 Qx17 [] aV f_x17:=ZT X G lf (fun U=>zEQ U T kf j8) (QX fun _ _=>rfl)
 have bo:cL l.prog w K mg base "is_loop" 7 HI [] cE f_x18:=ZT X G lc (fun U=>zEP U T ap j7) (SH fun _=>rfl)
 have aq:T5 l.prog w K mg base "check_loop" 8 VN bY f_x19:=GN X G jo (fun U=>zB7 U T bo) (SH fun _=>rfl)
 have ao:cL l.prog w K mg base "check_loop" 8 VN [] cC f_x19:=ZT X G jo (fun U=>zEO U T bo) (SH fun _=>rfl)
 have gl:T5 l.prog w K mg base "run_loop" 9 Qx20 YX f_x20:=GN X G lb (fun U=>zB6 U T jb ao aq) (QX fun _ _=>rfl)
 have di:cL l.prog w K mg base "lay_turn" 3 DY [3] YU f_x21:=ZT X G la (fun U=>zEN U T kc ka dj) (Len4 fun _ _ _ _=>rfl)
 have ck:T5 l.prog w K mg base "unrolled" 9 QY YY f_x22:=GN X G gq (fun U=>zB5 U T ao di aq) (SH fun _=>rfl)
 have dh:cL l.prog w K mg base "unrolled" 9 QY [] YW f_x22:=ZT X G gq (fun U=>zEM U T ao di) (SH fun _=>rfl)
 have eh:FY l.prog w K mg base "turn_plan" 10 "loop" "lanes" ZJ f_x23:=zEY X G l9 (fun U=>zB4 U T i3 ao dh aq ck) fun _ _=>rfl
 have gj:T5 l.prog w K mg base "reach" 9 OE QM f_x24:=GN X G gp (fun U=>zB3 U T gb iy bp ao aq) (SH fun _=>rfl)
 have gy:cL l.prog w K mg base "reach" 9 OE [] SG f_x24:=ZT X G gp (fun U=>zEL U T gb iy bp ao) (SH fun _=>rfl)
 have j6:cL l.prog w K mg base "_law_cell_at" 1 Qx25 [] bB f_x25:=ZT X G l8 (fun U=>zEK U T) (QX fun _ _=>rfl)
 have j5:cL l.prog w K mg base "_law_mixed" 2 Qx26 [] ZF f_x26:=ZT X G l7 (fun U=>zEJ U T j6) (DW fun _ _ _=>rfl)
 have al:cL l.prog w K mg base "_law_draw" 3 JH [1] cG f_x27:=ZT X G l6 (fun U=>zEI U T j5) (DW fun _ _ _=>rfl)
 have ar:cL l.prog w K mg base "_law_pick" 4 JI [1] b8 f_x28:=ZT X G l5 (fun U=>zEH U T al) (DW fun _ _ _=>rfl)
 have d7:cL l.prog w K mg base "_law_place" 5 Qx29 [1,2] bH f_x29:=ZT X G l4 (fun U=>zEG U T al ar) (Len5 fun _ _ _ _ _=>rfl)
 have j4:cL l.prog w K mg base "_law_row" 6 Qx30 [1,3] YA f_x30:=ZT X G l3 (fun U=>zEF U T al ar d7) (Len5 fun _ _ _ _ _=>rfl)
 have gm:DefH l.prog w K mg base "_law_which" 1 Qx31 (spV K [] 1 ZG) f_x31:=zHD X G kz (fun U=>zEE U T) (SH fun _=>rfl)
 have j3:cL l.prog w K mg base "_law_loop" 7 Qx32 [1] Z0 f_x32:=ZT X G ky (fun U=>zED U T al ar j4) (QX fun _ _=>rfl)
 have cn:cL l.prog w K mg base "_law_ask" 11 Qx33 [] cI f_x33:=ZT X G kx (fun U=>zEC U T dh gy gm gl ck eh gj) (DW fun _ _ _=>rfl)
 have iz:cL l.prog w K mg base "_law_bad_loops" 1 Qx34 [] aW f_x34:=ZT X G ku (fun U=>zEB U T) (Len0 rfl)
 exact zEA mx T bo ar j3 cn iz
theorem CO(K:Ai)(H:Hp)(a:Addr)(ns:List Int)(hl:ns.length<=63)(h:YO K H a (ns.map V.int)):spV K [] 1 M3 [.ref a] H (fun v _=>v= .bl true) fun _ _ _=>False:=by
 have hr:cU K (Zp (fun _=>False) [] [.ref a]) H (ns.map V.int) (ns.map dM.int):=by
  clear h hl
  induction ns with
  |nil=>exact .nil
  |cons n ns ih=>exact .cons (.int n) ih
 have hz: ∀b,¬Zp (fun _=>False) [] [V.ref a] b:=fun b h=>by
  rcases h with h|⟨i,h,_⟩
  ·exact h
  ·cases h
 refine⟨fun _=>False,[.lst (ns.map .int)],.bl true,[],rfl,⟨rfl,(fun i h=>nomatch h),fun i d hi e=> ?_,(fun i d h=>nomatch h),(fun i j b h=>nomatch h),fun a h=>h.elim⟩,AS ns hl,fun v H' _ _ r=>by cases r;rfl⟩
 cases i with
 |zero=>
  cases e
  refine⟨_,rfl,?_⟩
  rcases h with(h|⟨o,h⟩)|h
  ·exact .lst h (hz a) hr
  ·exact .fzl (.inl ⟨o,h⟩) hr
  ·exact .fzl (.inr h) hr
 |succ i=>cases i<;>cases e
end RR
open PySem PySem.W PyProof.Rows
set_option maxRecDepth 100000 in
set_option maxHeartbeats 0 in
theorem PySem.Challenge.cw_lanepacks_k32_loops_holds : PySem.Challenge.rw_lanepacks_k32_loops.Holds := by
 w_on;refine holds_law KK.said fun said=> ?_
 refine holds_open (q:=KK.view) (loose:=KK.lo) (Xt:=KK.X) (XP:=XL KK.view []) (Yf:=KK.H.obs) (Ya:=KK.H.val) (YP:=KK.H.says) (N:=11322) KK.hl (Hook.of _) (Hook.keeps _) (fun s e=>xl_of s (Lj.mp e).1) XL.keeps (by rfl) (by rfl) (by rfl) (fun s e=>recFacts_of (Lj.mp e).2) (by rfl) (by first|assumption|decide+kernel) (by decide+kernel) ⟨rfl,rfl,rfl,rfl,rfl,by decide+kernel⟩ ?hw ?hc
 case hw=>w_witness2
 refine L2.DI (l:=Lg) (n:=63) (k:=12) (x:= "_law_script") (CX:=L2.CX0) (sp:=fun K=>L2.spV K [] 1 L2.M3) rfl (by decide) rfl ⟨rfl,by decide,by decide⟩ (fun w h Y=>W.kIn_of (K:=KK.K) (as:=KK.A) (e:=KK.kA) Y) ?F (fun K H a ns hl _ hS=>RR.CO K H a ns hl hS) fun _ _ _ _ z=>z
 case F=>
  intro w mg fa h KX G hmg
  exact RR.zFR (K:=KK.K w.params) (f_x0:=224) (f_x1:=305) (f_x2:=312) (f_x3:=319) (f_x4:=324) (f_x5:=331) (f_x6:=338) (f_x7:=345) (f_x8:=350) (f_x9:=357) (f_x10:=397) (f_x11:=453) (f_x12:=482) (f_x13:=489) (f_x14:=496) (f_x15:=503) (f_x16:=510) (f_x17:=515) (f_x18:=522) (f_x19:=529) (f_x20:=541) (f_x21:=546) (f_x22:=551) (f_x23:=557) (f_x24:=562) (f_x25:=569) (f_x26:=576) (f_x27:=583) (f_x28:=590) (f_x29:=597) (f_x30:=602) (f_x31:=609) (f_x32:=616) (f_x33:=623) (f_x34:=630) (f_x35:=635) (kV_x35:= .none) (dc_x35:= .none) (pm_x35:= .str "law_lanepacks_k32_loops" 967) (cd_x35:= .ref 634) (ct_x35:= .none) (t1:=460) (t2:=462) (t3:=463) (t4:=464) (t5:=465) (t6:=466) (t7:=467) (t8:=468) (a9:=217) (t10:=570) (t11:=572) (t12:=574) (t13:=576) (t14:=577) (a15:=289) (t16:=579) (t17:=581) (t18:=585) (t19:=587) (t20:=591) (t21:=594) (t22:=580) (a23:=291) (t24:=582) (t25:=583) (t26:=584) (a27:=292) (t28:=586) (a29:=293) (t30:=588) (t31:=589) (t32:=590) (a33:=294) (t34:=592) (t35:=593) (a36:=295) (t37:=595) (t38:=596) (t39:=597) (a40:=296) (a41:=290) (h42:=Ec w.params "number") (h43:=Ec w.params "pick") (h44:=Ec w.params "load") (h45:=Ec w.params "take") (h46:=Ec w.params "store") (h47:=Ec w.params "put") (t48:=605) (t49:=606) (a50:=297) (t51:=608) (t52:=609) (a53:=298) (t54:=725) (t55:=727) (t56:=804) (t57:=846) (t58:=848) (t59:=850) (a60:=214) (a61:=202) (a62:=183) (a63:=171) (a64:=159) (a65:=140) (a66:=128) (a67:=116) (a68:=104) (a69:=92) (a70:=80) (a71:=68) (a72:=49) (a73:=37) KX G hmg
   (KK.p _ 224 19 "is_whole" (.str "lanepacks.words" 458))
   (KK.p _ 305 38 "parts_of" (.str "lanepacks.blocks" 568))
   (KK.p _ 312 39 "makes_word" (.str "lanepacks.blocks" 568))
   (KK.p _ 319 40 "place_of" (.str "lanepacks.blocks" 568))
   (KK.p _ 324 41 "names_of" (.str "lanepacks.blocks" 568))
   (KK.p _ 331 42 "with_names" (.str "lanepacks.blocks" 568))
   (KK.p _ 338 43 "may_name" (.str "lanepacks.blocks" 568))
   (KK.p _ 345 44 "fits" (.str "lanepacks.blocks" 568))
   (KK.p _ 350 45 "is_row" (.str "lanepacks.blocks" 568))
   (KK.p _ 357 47 "writes" (.str "lanepacks.orders" 669))
   (KK.p _ 397 56 "is_lanes" (.str "lanepacks.plans" 723))
   (KK.p _ 453 68 "is_cells" (.str "lanepacks.running" 802))
   (KK.p _ 482 76 "place_in" KK.m)
   (KK.p _ 489 77 "in_turn" KK.m)
   (KK.p _ 496 78 "is_stride" KK.m)
   (KK.p _ 503 79 "is_last" KK.m)
   (KK.p _ 510 80 "is_loop_row" KK.m)
   (KK.p _ 515 81 "are_loop_rows" KK.m)
   (KK.p _ 522 82 "is_loop" KK.m)
   (KK.p _ 529 83 "check_loop" KK.m)
   (KK.p _ 541 85 "run_loop" KK.m)
   (KK.p _ 546 86 "lay_turn" KK.m)
   (KK.p _ 551 87 "unrolled" KK.m)
   (KK.pk _ 557 88 "turn_plan" (.ref 552) (.str "lanepacks.loops" 844))
   (KK.p _ 562 89 "reach" KK.m)
   (KK.p _ 569 91 "_law_cell_at" (.str "law_lanepacks_k32_loops" 967))
   (KK.p _ 576 92 "_law_mixed" (.str "law_lanepacks_k32_loops" 967))
   (KK.p _ 583 93 "_law_draw" (.str "law_lanepacks_k32_loops" 967))
   (KK.p _ 590 94 "_law_pick" (.str "law_lanepacks_k32_loops" 967))
   (KK.p _ 597 95 "_law_place" (.str "law_lanepacks_k32_loops" 967))
   (KK.p _ 602 96 "_law_row" (.str "law_lanepacks_k32_loops" 967))
   (KK.p _ 609 97 "_law_which" (.str "law_lanepacks_k32_loops" 967))
   (KK.p _ 616 98 "_law_loop" (.str "law_lanepacks_k32_loops" 967))
   (KK.p _ 623 99 "_law_ask" (.str "law_lanepacks_k32_loops" 967))
   (KK.p _ 630 100 "_law_bad_loops" (.str "law_lanepacks_k32_loops" 967))
   (by kernel_rfl)
   (by kernel_rfl)
   (by kernel_rfl)
   (by kernel_rfl)
   (by kernel_rfl)
   (by kernel_rfl)
   (by kernel_rfl)
   (by kernel_rfl)
   (by kernel_rfl)
   (by kernel_rfl)
   (by kernel_rfl)
   (by kernel_rfl)
   (by kernel_rfl)
   (by kernel_rfl)
   (by kernel_rfl)
   (by kernel_rfl)
   (by kernel_rfl)
   (by kernel_rfl)
   (by kernel_rfl)
   (by kernel_rfl)
   (by kernel_rfl)
   (by kernel_rfl)
   (by kernel_rfl)
   (by kernel_rfl)
   (by kernel_rfl)
   (by kernel_rfl)
   (by kernel_rfl)
   (by kernel_rfl)
   (by kernel_rfl)
   (by kernel_rfl)
   (by kernel_rfl)
   (by kernel_rfl)
   (by kernel_rfl)
   (by decide)
   (by kernel_rfl)
   (by kernel_rfl)
   (by kernel_rfl)
   (by kernel_rfl)
   (by kernel_rfl)
   (by kernel_rfl)
   (by kernel_rfl)
   (by kernel_rfl)
   (by kernel_rfl)
   (by kernel_rfl)
   (by kernel_rfl)
   (by kernel_rfl)
   (by kernel_rfl)
   (by kernel_rfl)
   (by kernel_rfl)
   (by kernel_rfl)
   (by kernel_rfl)
   (by kernel_rfl)
   (by kernel_rfl)
   (by kernel_rfl)
   (by kernel_rfl)
   (by kernel_rfl)
   (by kernel_rfl)
   (by kernel_rfl)
   (by kernel_rfl)
   ⟨by kernel_rfl,by kernel_rfl,⟨by kernel_rfl,by kernel_rfl,by kernel_rfl,by kernel_rfl,by kernel_rfl,by kernel_rfl,by kernel_rfl⟩,by kernel_rfl,24,⟨by kernel_rfl,by kernel_rfl,by kernel_rfl,by kernel_rfl,by kernel_rfl⟩⟩
   ⟨by kernel_rfl,by kernel_rfl,⟨by kernel_rfl,by kernel_rfl,by kernel_rfl,by kernel_rfl,by kernel_rfl,by kernel_rfl,by kernel_rfl⟩,by kernel_rfl,24,⟨by kernel_rfl,by kernel_rfl,by kernel_rfl,by kernel_rfl,by kernel_rfl⟩⟩
   ⟨by kernel_rfl,by kernel_rfl,⟨by kernel_rfl,by kernel_rfl,by kernel_rfl,by kernel_rfl,by kernel_rfl,by kernel_rfl,by kernel_rfl⟩,by kernel_rfl,24,⟨by kernel_rfl,by kernel_rfl,by kernel_rfl,by kernel_rfl,by kernel_rfl⟩⟩
   ⟨by kernel_rfl,by kernel_rfl,⟨by kernel_rfl,by kernel_rfl,by kernel_rfl,by kernel_rfl,by kernel_rfl,by kernel_rfl,by kernel_rfl⟩,by kernel_rfl,24,⟨by kernel_rfl,by kernel_rfl,by kernel_rfl,by kernel_rfl,by kernel_rfl⟩⟩
   (by kernel_rfl)
end
