import PyProof.Rows.All
import KE.KFromBytes
import KE.KTab
import KE.KIsAll
import KE.KDictOf
import KE.KEqDeep
import KE.KItem
import KE.KUnpackStar
import Wide.FinOn
import Wide.Line
import OpenK.KOwn
import Open.TreeImp
import PySem.Challenge.RW_lanepacks_k59_whole_guarded
set_option Elab.async false
set_option linter.all false
set_option maxRecDepth 100000
set_option maxHeartbeats 4000000
set_option bootstrap.genMatcherCode false
set_option compiler.extract_closed false
open Option renaming bind_eq_some_iff→Aa,map_eq_some_iff→Ao,bind_some→Aq,isSome_some→La,getD_none→Mh
open PySem renaming wpAny_bind→Ac,starEach→Ae,Shared→Ag,wpAny_pure→As,Program→Ax,bootBuiltins→Bf,attributeBase→By,sizeLine_eq→Cb,wpAny_holding→Cc,mem_of_lookup→Cd,compareOp→Cg,wpAny_mono→Ch,Around→Cm,wpAny_callSpecial?_slot→Ct,FuncData→Cy,wpAny_field→De,backTo→Dh,wpAny_newObj_type→Dq,wpAny_Call_Name_kw→Dv,wpAny_call_entry→Dy,wpAny_truthy_bool→Eb,sysModules→Ei,swapsWith→El,wpAny_setField_rec→Em,wpAny_seqItems→Es,binaryOp→Et,keywordEach→Fe,wpAny_pyIter_list→Fk,Builtin→Fw,importedModules→Fx,wpAny_pyIter_tuple→Fy,wpAny_passesOwn→Fz,behindInMarks→Ga,wpAny_assign_Name→Gj,sliceBounds→Gk,Keyword→Gm,wpAny_updateSeq_pair→Gy,wpAny_standAt→Gz,backToKw→Hb,letOwnedTupleGo→Hi,Within→Ht,tupleKind_room_in1→Hy,holding→Ib,wpAny_sequenceKey→Ij,call_meets→Il,list_append→Im,wpAny_comprehension_free→Io,fenceModules?→Iu,swapsWithSole→Iv,swappedStores→Iw,getItem→Ix,wpAny_onRaise→Ja,noFill_tuple_add→Jb,wpAny_pyNext_list_item→Jf,DictEntry→Jk,wpAny_execs_nil→Jm,wpAny_pyNext_list_end→Jn,codeAny→Jp,codeAny_mono→Jq,concat_meets→Jt,Spec→Kc,ZipApart→Kd,PyData→Kf,newFunctionEnv→Kh,callerA→Km,unpackItems→Kn,Params→Kq,bltViewBooted→Kr,getMethod→Kx,seq_tuple_add→Ky,standAt→Lh,valueAt→Lk,wpAny_rule→Lo,wpAny_pyIter_enum→Lq,wpAny_typeOf→Lz,seqIndex_neg→Mc,lastMarks→Ms,BindsTo→Mu,seqIndex_of→Mv,wpAny_letGo→My,pushCells→Na,wpAny_Name→Nl,typeIs_int→Nm,call→No
open PySem.Heap renaming get?_push_of_some→Ad,lt_size→Ar,get?_push_size→At,get?_update_other→Cf,size_push→Cr,SameBut→Ek,ExtBut→Hl,get?_update_self→Ju,get?_push_ne→Lp
open Bool renaming and_eq_true→Af,and_eq_true_iff→Cu,false_ne_true→Du,or_eq_true→Hm,false_eq_true→Hz,beq_eq_decide_eq→Jz,false_or→Nw,true_and→Ny
open List renaming getElem?_append_left→Ah,mem_singleton→Aj,getElem?_eq_some_iff→Ak,length_append→Al,size_toArray→Am,getElem?_append_right→An,mem_cons→Ap,length_map→Av,mem_cons_of_mem→Aw,map_cons→Ay,length_cons→Az,mem_cons_self→Bg,replicate→Bh,lookup_cons→Bj,not_mem_nil→Bk,append_nil→Bm,mem_append_right→Bn,map_append→Bo,getElem?_set_ne→Bp,mem_append_left→Bv,append_assoc→Bw,length_singleton→Bx,mem_of_getElem?→Bz,cons_append→Ca,getElem?_set_self→Ce,getElem?_take_of_lt→Ci,mem_append→Cn,map_nil→Co,replicate_succ→Cp,range→Cs,lookup_cons_self→Db,getElem?_eq_none→Dc,getElem?_replicate→Dd,length_set→Df,nil_append→Dg,length_take→Di,take_of_length_le→Dk,getElem?_map→Dm,nodup_cons→Ed,mem_range→En,lookup→Eo,flatten_cons→Fa,mem_map→Fc,find?_cons→Fi,drop_eq_getElem_cons→Fp,any_cons→Gc,all_eq_true→Gu,take_append_of_le_length→Gv,filterMap_cons→Hh,forIn_cons→Hk,getElem?_eq_getElem→Ip,length_eq_zero_iff→Iz,drop_length→Je,range_succ_eq_map→Ji,of_mem_zip→Jr,length_replicate→Js,length_nil→Jv,mem_iff_getElem?→Jw,map_set→Kb,getElem?_mapIdx→Ke,forIn_nil→Kg,take_left→Ki,drop_left→Kj,mem_filterMap→Kv,set_cons_succ→Lc,set_cons_zero→Ld,nodup_append→Ls,getElem_inj→Md,length_drop→Mg,zipIdx_cons→Mi,getElem_mem→Mm,mem_filter→Mr,zipIdx_nil→Mx,drop_zero→Nf,mapM_cons→Ng,all_cons→Nx,all_map→Od
open PySem.W renaming Frag→Ai,mg_none_of→Cq,keepIn→Eg,kia_one→Ew,mg_of→Ez,nsIn→Fg,emptyDict→Fh,fnOf→Ge,findIn→Gq,instObj→Gr,codeIn→Ha,opening→Hf,makesIn→Jo,SharedT→Kk,kitx_list→Kl,plainGet_of→Kw,plainGet→Lj,callWith_K→Ly,cellsFrom_some→Mf,openEnds→Mn,methodObj→Mq,hasDictIn→Mt,looseW→Nh,absHeap→Np,lookIn→Nu,takerIn→Oa,OpenLaw→Ob
open Nat renaming le_refl→Au,lt_of_lt_of_le→Ba,ne_of_lt→Bl,lt_irrefl→Cw,zero_le→Dx,le_add_right→Dz,le_trans→Ea,le_succ→Ft,ne_of_gt→Fu,le_of_succ_le→Gp,zero_add→Jj,sub_self→Jy,le_of_lt→Lv,lt_succ_self→Me,succ_le_succ→Ml,min_le_left→Mz
open PySem.Str renaming ofString→Bb,ofString_eq_toList→Gi
open PySem.Value renaming ref→Be,type→Hd,int→Ks,str→Kt,bool→Lg,float→Mp,isStrOf→Nt,isInt→Of,bytes→Og
open PySem.NameKind renaming free→Bi,cell→Bu
open PySem.PyData renaming keyHash→Bq,depthAll→Ef,canLay0→Ff,canLayAll0→Go,depth→Gs,eqv→He,int→Ln,strOk→Oe
open PySem.Builtin.SmallTypes renaming nextOf→Br,ownedTupleIsFree→Cz,ownedTupleHandOut→Fq
open Option.some renaming inj→Bt
open PySem.F renaming slot_list_append→Cj,type_list_append→Ck,slot_tuple_iterator_next→Eh,slot_dict_get→Fj,args_tuple_add_2→Fv,entry_tuple_add→Gb,args_dict_get_2→Gd,slot_tuple_add→Gf,entry_dict_get→Gh,args_list_append_2→Gx,args_tuple_iterator_next_1→Hc,entry_list_append→Hj,entry_tuple_iterator_next→Hn,slot_zip_next→Ho,slot_list_append→Hx,slot_dict_getitem→Ic,slot_list_extend→Iq,type_list_extend→Ir,plainAttrs_list→Iy,args_zip_next_1→Lr,entry_zip_next→Mj,slot_int_rmul→Nb
open PySem.PassesOwn renaming never→Cv
open Ne renaming symm→Dj
open PyProof.Rows renaming slot_tuple_getitem→Dn,callWith_type1→Ec,assignInOrder_cons→Hu,envOfC→Hw,subscriptTail_builtinR→Jh,AllBare→Jl,assignInOrder_nil→Li,IntsAre→Ll,expectedOf→Ni,plainGoodE→Nj,plainGoodD→Nk,drecsOf→Nq,tail_any→Nv
open Prod renaming fst→Ds,snd→Eu
open PySem.SeqAt renaming shaped→Dt
open PySem.AutoSeq1 renaming wpAny_loadPart'→Dw
open ForInStep renaming yield→Ee
open False renaming elim→Ej
open PySem.Builtin.Slice renaming slicePlaces→Ep,sliceAdjust→Fm,sliceApplied→Hr,slicePartIndex→Mo,sliceFields→Nd
open PyProof.Rows.KTD renaming datumAt→Er
open PySem.Builtin.Tuple renaming tupleExact→Ex,tupleItemsOf→Hs,tupleIsExact→Nc
open PySem.Builtin.List renaming listTooLong→Ey
open Or renaming inr→Fb,inl→Fo
open PySem.Builtin.Range renaming rangeSize→Fd
open Array renaming length_toList→Fs,toList→Nz
open PySem.Calls renaming callWith_builtin→Gg,evalArgs_plain→Gw,Name_function_global→Hq,spliced_cons→Hv,spliced_nil→Ih
open Prod.mk renaming inj→Hg
open Int renaming emod_lt_of_pos→Ia,toNat_natCast→Ii,ediv_nonneg→Jx,emod_nonneg→Ka
open PySem.Challenge renaming pw_lanepacks_k59_whole_guarded→Ie,rw_lanepacks_k59_whole_guarded→Ig
open PySem.Obj renaming mapSeq→Ik,data_mapFields→Lb
open PySem.IsL renaming update→Jd
open PyProof renaming noPylong_small→Jg
open PySem.Heap.SameBut renaming update→Ko
open PySem.Builtin.Dict renaming missed→Kp
open PySem.Paired renaming length→Ku,snoc→Oi
open PyProof.Rows.IsTup renaming new→Kz
open Sum renaming inl→Le,inr→Lf
open List.Pairwise renaming nil→Lm
open Char renaming toNat→Lu
open PySem.Around renaming under→Lw
open PySem.Code renaming isFrame→Lx
open PySem.Shared renaming heap→Mw
open PySem.IsRange renaming new→Oh
open PySem.Heap.IsSliceOf renaming new→Oj
open PySem.W.WShape renaming has→Ol
noncomputable section
namespace KK
open PySem PySem.W
noncomputable def IQ:List Obj->Nat->BT->Option BT
 |[],_,t=>some t
 |o::l,n,t=>match((t.ins n o).get n).isSome with
  |true=>IQ l (n+1) (t.ins n o)
  |false=>none
theorem MM{life:Life}: ∀{l:List Obj} {n:Nat} {t t':BT},IQ l n t=some t'->Np t' (n+l.length) life=⟨(Np t n life).objs++l.toArray,life⟩
 |[],n,t,t',h=>by cases h;simp[Np]
 | o :: l,n,t,t',h => by
  unfold IQ at h;split at h
  ·rename_i g
   have ih:=MM (life:=life) h;rw[show n+(o::l).length=n+1+l.length by simp;lia,ih,absHeap_ins g];simp[Heap.push]
  ·cases h
noncomputable def toT(s:Ag):Option Kk:=(IQ s.heap.objs.toList 0 .nil).map fun t=>⟨t,s.heap.objs.size,s.heap.life,s.gens,s.drawn,s.toks,s.os⟩
theorem F1{s:Ag}{u:Kk}(h:toT s=some u):u.abs=s:=by
 unfold toT at h;cases e:IQ s.heap.objs.toList 0 .nil with
 |none=>rw[e] at h;cases h
 |some t=>
  rw[e] at h;cases h;have:=MM (life:=s.heap.life) e
  simp only[Jj,Fs] at this;obtain⟨⟨objs,life⟩,gens,drawn,toks,os⟩:=s;show(⟨Np t objs.size life,gens,drawn,toks,os⟩:Ag)=_;rw[this];simp[Np,BT.list]
noncomputable def WF(tb:String->Option Fw)(p:Ax)(w:World)(n₀:Nat)(ann:Option Value):Nat->Kk->Thread->Option Kk
 |0,_,_=>none
 | n + 1,s,t => match through t with
  |true=>some s
  | false => match stepOk n₀ ann t with
   |false=>none
   |true=>match stepT (denote tb) p w s t with
    |some (s',t')=>WF tb p w n₀ ann n s' t'
    |none=>none
theorem O4{tb:String->Option Fw}{p:Ax}{w:World}{n₀:Nat}{ann:Option Value}: ∀{n:Nat} {s s':Kk} {t:Thread},WF tb p w n₀ ann n s t=some s'->topRun tb p w n₀ ann n s.abs t=some s'.abs
 |0,_,_,_,h=>by cases h
 | n + 1,s,s',t,h => by
  unfold WF at h;unfold topRun;cases ht:through t with
  |true=>rw[ht] at h;cases h;rfl
  |false=>
   rw[ht] at h;cases hk:stepOk n₀ ann t with
   |false=>rw[hk] at h;cases h
   |true=>
    rw[hk] at h;cases hs:stepT (denote tb) p w s t with
    |none=>rw[hs] at h;cases h
    |some r=>obtain⟨s₂,t₂⟩:=r;rw[hs] at h;rw[stepT_spec hs];exact O4 h
noncomputable def G4(tb:String->Option Fw)(p:Ax)(w:World):Nat->Kk->Thread->Option Kk
 |0,_,_=>none
 | n + 1,s,t => match t.atExitBegin with
  |some []=>some s
  |some (_::_)=>none
  |none=>match stepT (denote tb) p w s t with
   |some (s',t')=>G4 tb p w n s' t'
   |none=>none
theorem FH{tb:String->Option Fw}{p:Ax}{w:World}: ∀{n:Nat} {s s':Kk} {t:Thread},G4 tb p w n s t=some s'->importEnds tb p w n s.abs t=some s'.abs
 |0,_,_,_,h=>by cases h
 | n + 1,s,s',t,h => by
  unfold G4 at h;unfold importEnds;cases he:t.atExitBegin with
  |some x=>
   rw[he] at h;cases x with
   |nil=>cases h;rfl
   |cons=>cases h
  |none=>
   rw[he] at h;cases hs:stepT (denote tb) p w s t with
   |none=>rw[hs] at h;cases h
   |some r=>obtain⟨s₂,t₂⟩:=r;rw[hs] at h;dsimp only;rw[stepT_spec hs];exact FH h
noncomputable def N5(tb:String->Option Fw)(p:Ax)(w:World)(N:Nat):Option Ag:=
 (toT (start (Hf p)).1).bind fun u=>(G4 tb (Hf p) w N u (start (Hf p)).2).bind fun u1=>(Iu p u1.abs).bind fun s₀=>
 match s₀.heap.isNs mainGlobals && s₀.gens.size==0 with
 | true => (toT s₀).bind fun v => (WF tb p w s₀.heap.objs.size (s₀.heap.nsMap mainGlobals "__annotations__") N v (topStub p)).bind fun v1 =>
  match staticsOk (Fx p.main.body) s₀.heap v1.abs.heap && namesBound p v1.abs.heap && gensDone v1.abs && laidKept s₀.heap v1.abs.heap with
   |true=>some v1.abs
   |false=>none
 |false=>none
theorem JE{tb:String->Option Fw}{p:Ax}{w:World}{N:Nat}{s:Ag}(h:N5 tb p w N=some s):Mn tb p w N=some s:=by
 unfold N5 at h;unfold Mn fencedOpening;cases e1:toT (start (Hf p)).1 with
 |none=>rw[e1] at h;cases h
 |some u=>
  rw[e1,Aq] at h;cases e2:G4 tb (Hf p) w N u (start (Hf p)).2 with
  |none=>rw[e2] at h;cases h
  |some u1=>
   rw[e2,Aq] at h;have e3:=FH e2;rw[F1 e1] at e3;rw[e3,Aq];cases e4:Iu p u1.abs with
   |none=>rw[e4] at h;cases h
   |some s₀=>
    rw[e4,Aq] at h;rw[Aq];unfold topFrom;cases e5:(s₀.heap.isNs mainGlobals && s₀.gens.size==0) with
    |false=>rw[e5] at h;cases h
    |true=>
     rw[e5] at h;dsimp only at h⊢;cases e6:toT s₀ with
     |none=>rw[e6] at h;cases h
     |some v=>
      rw[e6,Aq] at h;cases e7:WF tb p w s₀.heap.objs.size (s₀.heap.nsMap mainGlobals "__annotations__") N v (topStub p) with
      |none=>rw[e7] at h;cases h
      |some v1=>
       rw[e7,Aq] at h;have e8:=O4 e7;rw[F1 e6] at e8;rw[e8,Aq];exact h
theorem JV{α:Type}{tb:String->Option Fw}{p:Ax}{w:World}{N:Nat}{f:Ag->α}{v:α}(h:(N5 tb p w N).map f=some v):(Mn tb p w N).map f=some v:=by
 cases e:N5 tb p w N with
 |none=>rw[e] at h;cases h
 |some s=>
  rw[e] at h;rw[JE e];exact h
noncomputable def chkU(p:Ax)(s₀ s:Ag):Bool:=staticsOk (Fx p.main.body) s₀.heap s.heap && namesBound p s.heap && gensDone s && laidKept s₀.heap s.heap
noncomputable def JF(tb:String->Option Fw)(p:Ax)(w:World)(N:Nat):Option (Ag×Ag):=
 (toT (start (Hf p)).1).bind fun u=>(G4 tb (Hf p) w N u (start (Hf p)).2).bind fun u1=>(Iu p u1.abs).bind fun s₀=>
 match s₀.heap.isNs mainGlobals && s₀.gens.size==0 with
 |true=>(toT s₀).bind fun v=>(WF tb p w s₀.heap.objs.size (s₀.heap.nsMap mainGlobals "__annotations__") N v (topStub p)).bind fun v1=>some (s₀,v1.abs)
 |false=>none
theorem zCZ{tb:String->Option Fw}{p:Ax}{w:World}{N:Nat}{q:Ag×Ag}(h:JF tb p w N=some q)(hc:chkU p q.1 q.2=true):N5 tb p w N=some q.2:=by
 unfold JF at h;unfold N5;cases e1:toT (start (Hf p)).1 with
 |none=>rw[e1] at h;cases h
 |some u=>
  rw[e1,Aq] at h;rw[Aq];cases e2:G4 tb (Hf p) w N u (start (Hf p)).2 with
  |none=>rw[e2] at h;cases h
  |some u1=>
   rw[e2,Aq] at h;rw[Aq];cases e4:Iu p u1.abs with
   |none=>rw[e4] at h;cases h
   |some s₀=>
    rw[e4,Aq] at h;rw[Aq];cases e5:(s₀.heap.isNs mainGlobals && s₀.gens.size==0) with
    |false=>rw[e5] at h;cases h
    |true=>
     rw[e5] at h;dsimp only at h⊢;cases e6:toT s₀ with
     |none=>rw[e6] at h;cases h
     |some v=>
      rw[e6,Aq] at h;rw[Aq];cases e7:WF tb p w s₀.heap.objs.size (s₀.heap.nsMap mainGlobals "__annotations__") N v (topStub p) with
      |none=>rw[e7] at h;cases h
      |some v1=>
       rw[e7,Aq] at h;cases h;rw[Aq];unfold chkU at hc;rw[hc]
theorem mapU{α:Type}{tb:String->Option Fw}{p:Ax}{w:World}{N:Nat}{f:Ag->α}{v:α}(h:(JF tb p w N).map (fun q=>f q.2)=some v)(hc:(JF tb p w N).map (fun q=>chkU p q.1 q.2)=some true):(Mn tb p w N).map f=some v:=by
 cases e:JF tb p w N with
 |none=>rw[e] at h;cases h
 |some q=>
  rw[e] at h hc;rw[JE (zCZ e (Bt hc))];exact h
end KK
namespace RR
open PySem
def top(i:Nat):Stmt:=PySem.Challenge.pw_lanepacks_k59_whole_guarded.main.body.getD i (.Pass ⟨0,0,0,0⟩)
def mem(i j:Nat):Stmt:=match top i with
 | .ClassDef _ _ _ b _ _ _ _ _ _ _=>b.getD j (.Pass ⟨0,0,0,0⟩)
 |s=>s
end RR
namespace KK
open PySem PySem.W PySem.Calls PyProof.Rows
def dA(s:Stmt):Arguments:=match s with
 | .FunctionDef _ a _ _ _ _ _ _ _ _=>a
 |_=>⟨[],[],none,[],[],none,[]⟩
def dB(s:Stmt):List Stmt:=match s with
 | .FunctionDef _ _ b _ _ _ _ _ _ _=>b
 |_=>[]
def dS(s:Stmt):Scope:=match s with
 | .FunctionDef _ _ _ _ _ _ c _ _ _=>c
 |_=>{kind:= .function,names:=[],isGenerator:=false,isCoroutine:=false}
abbrev s(x:Str)(t:Nat):Value:= .str x t
abbrev e(P:Kq)(x:Str)(t:Nat)(v:Value):Jk:=⟨PyData.keyHash P x,s x t,v⟩
abbrev f(a i:Nat)(n:Str)(d m:Value):Nat×Obj:=(a,⟨.type "function",none,.func (fnOf n n (dA (RR.top i)) (dB (RR.top i)) (dS (RR.top i)) d .none .none m none (.ref (a - 1)) .none),#[]⟩)
abbrev fh(a i j:Nat)(n q:Str)(m:Value):Nat×Obj:=(a,⟨.type "function",none,.func (fnOf n q (dA (RR.mem i j)) (dB (RR.mem i j)) (dS (RR.mem i j)) .none .none .none m none (.ref (a - 1)) .none),#[]⟩)
abbrev fk(a i:Nat)(n:Str)(d k m:Value):Nat×Obj:=(a,⟨.type "function",none,.func (fnOf n n (dA (RR.top i)) (dB (RR.top i)) (dS (RR.top i)) d k .none m none (.ref (a - 1)) .none),#[]⟩)
abbrev co(a:Nat)(n:Str)(t:Nat)(l k:Int)(u:Nat)(x y z v:Value):Nat×Obj:=(a,⟨.type "code",none,.fields #[s n t,s n (t+1),s "/claim/cut.py" (t+2),.int l 0,.int k 0,.int 0 0,.int 0 0,.int 3 0,x,.bool true,.int 181 0,y,.none,z,v,.ref (a - 1),.int u 0,.int l 0,s "/claim/cut.py" (u+1)],#[]⟩)
abbrev c(a:Nat)(n:Str)(t:Nat)(l k:Int)(u:Nat):Nat×Obj:=co a n t l k u (.ref (a - 5)) (.ref (a - 4)) (.ref (a - 3)) (.ref (a - 2))
abbrev b(a:Nat)(n:Str)(t:Nat)(l k:Int)(u:Nat):Nat×Obj:=co a n t l k u (.ref (a - 3)) (.ref (a - 2)) .none .none
abbrev m:Value:=s "lanepacks.trees" 560
noncomputable def K(P:Kq):Frag:=[(3,⟨.type "dict",none,.dict #[e P "__name__" 165 (s "law_lanepacks_k59_whole_guarded" 711),e P "__doc__" 166 (.none),e P "__package__" 167 (.none),e P "__loader__" 168 (.builtin "__main__.__loader__#opaque"),e P "__spec__" 169 (.none),e P "__annotations__" 170 (.ref 6),e P "__builtins__" 171 (.ref 4),e P "__file__" 173 (s "/claim/cut.py" 172),e P "__cached__" 174 (.none),e P "PackError" 206 (.ref 24),e P "NoBlock" 222 (.ref 37),e P "NoCells" 238 (.ref 49),e P "NoTree" 254 (.ref 61),e P "TooLong" 270 (.ref 73),e P "MOST_WORD" 274 (.int 999 273),e P "DEEDS" 282 (.ref 76),e P "is_whole" 291 (.ref 83),e P "plus" 299 (.ref 90),e P "minus" 307 (.ref 97),e P "times" 315 (.ref 104),e P "least" 323 (.ref 111),e P "most" 331 (.ref 118),e P "less" 339 (.ref 125),e P "over" 347 (.ref 132),e P "pick" 356 (.ref 139),e P "MADE" 371 (.ref 140),e P "done" 380 (.ref 147),e P "MOST_SURE" 384 (.int 64 383),e P "MOST_ROWS" 386 (.int 40 385),e P "MOST_PLACE" 388 (.int 63 387),e P "DEED_PARTS" 391 (.ref 148),e P "OTHER_PARTS" 417 (.ref 149),e P "READERS" 420 (.ref 156),e P "WRITERS" 423 (.ref 157),e P "parts_of" 430 (.ref 164),e P "makes_word" 437 (.ref 171),e P "place_of" 444 (.ref 178),e P "names_of" 450 (.ref 183),e P "with_names" 458 (.ref 190),e P "may_name" 466 (.ref 197),e P "fits" 475 (.ref 204),e P "is_row" 481 (.ref 209),e P "is_block" 492 (.ref 216),e P "MOST_CELLS" 496 (.int 64 495),e P "is_cells" 502 (.ref 221),e P "touches" 510 (.ref 228),e P "do_on_cell" 520 (.ref 235),e P "do_row" 534 (.ref 243),e P "do_rows" 540 (.ref 248),e P "check_run" 548 (.ref 255),e P "run" 559 (.ref 262),e P "MOST_TREE_ROWS" 563 (.int 20 562),e P "MOST_DEEP" 565 (.int 3 564),e P "ZERO" 567 (.int 0 566),e P "ONE" 569 (.int 1 568),e P "is_if" 576 (.ref 269),e P "sight_behind_if" 588 (.ref 276),e P "sight_behind" 599 (.ref 283),e P "is_tree" 606 (.ref 290),e P "listed" 616 (.ref 297),e P "do_tree" 622 (.ref 302),e P "run_tree" 632 (.ref 309),e P "Flat" 704 (.ref 359),e P "flattened" 710 (.ref 368),e P "_law_cell_at" 722 (.ref 375),e P "_law_mixed" 732 (.ref 382),e P "_law_draw" 741 (.ref 389),e P "_law_pick" 750 (.ref 396),e P "_law_deed" 761 (.ref 403),e P "_law_step" 773 (.ref 410),e P "_law_names" 780 (.ref 417),e P "_law_many" 786 (.ref 422),e P "_law_tree_play" 792 (.ref 427),e P "_law_side" 798 (.ref 432),e P "law" 804 (.ref 437)] 75,#[]⟩),
 (76,⟨.type "tuple",none,.seq #[s "plus" 275,s "minus" 276,s "times" 277,s "least" 278,s "most" 279,s "less" 280,s "over" 281] 0,#[]⟩),
 f 83 9 "is_whole" (.none) (s "lanepacks.words" 271),
 c 82 "is_whole" 283 15 3 289,
 f 90 10 "plus" (.none) (s "lanepacks.words" 271),
 c 89 "plus" 292 19 2 297,
 f 97 11 "minus" (.none) (s "lanepacks.words" 271),
 c 96 "minus" 300 21 2 305,
 f 104 12 "times" (.none) (s "lanepacks.words" 271),
 c 103 "times" 308 23 2 313,
 f 111 13 "least" (.none) (s "lanepacks.words" 271),
 c 110 "least" 316 25 2 321,
 f 118 14 "most" (.none) (s "lanepacks.words" 271),
 c 117 "most" 324 27 2 329,
 f 125 15 "less" (.none) (s "lanepacks.words" 271),
 c 124 "less" 332 29 2 337,
 f 132 16 "over" (.none) (s "lanepacks.words" 271),
 c 131 "over" 340 31 2 345,
 f 139 17 "pick" (.none) (s "lanepacks.words" 271),
 c 138 "pick" 348 33 3 354,
 (140,⟨.type "dict",none,.dict #[e P "plus" 357 (.ref 90),e P "minus" 358 (.ref 97),e P "times" 359 (.ref 104),e P "least" 360 (.ref 111),e P "most" 361 (.ref 118),e P "less" 362 (.ref 125),e P "over" 363 (.ref 132)] 7,#[]⟩),
 f 147 19 "done" (.none) (s "lanepacks.words" 271),
 c 146 "done" 372 36 2 378,
 (148,⟨.type "tuple",none,.seq #[s "row" 389,s "row" 390] 0,#[]⟩),
 (149,⟨.type "dict",none,.dict #[e P "number" 392 (.ref 150),e P "pick" 394 (.ref 151),e P "load" 398 (.ref 152),e P "take" 400 (.ref 153),e P "store" 404 (.ref 154),e P "put" 407 (.ref 155)] 6,#[]⟩),
 (150,⟨.type "tuple",none,.seq #[s "word" 393] 0,#[]⟩),
 (151,⟨.type "tuple",none,.seq #[s "row" 395,s "row" 396,s "row" 397] 0,#[]⟩),
 (152,⟨.type "tuple",none,.seq #[s "place" 399] 0,#[]⟩),
 (153,⟨.type "tuple",none,.seq #[s "place" 401,s "row" 402,s "row" 403] 0,#[]⟩),
 (154,⟨.type "tuple",none,.seq #[s "place" 405,s "row" 406] 0,#[]⟩),
 (155,⟨.type "tuple",none,.seq #[s "place" 408,s "row" 409,s "row" 410] 0,#[]⟩),
 (156,⟨.type "tuple",none,.seq #[s "load" 418,s "take" 419] 0,#[]⟩),
 (157,⟨.type "tuple",none,.seq #[s "store" 421,s "put" 422] 0,#[]⟩),
 f 164 28 "parts_of" (.none) (s "lanepacks.blocks" 381),
 c 163 "parts_of" 424 49 1 428,
 f 171 29 "makes_word" (.none) (s "lanepacks.blocks" 381),
 c 170 "makes_word" 431 53 1 435,
 f 178 30 "place_of" (.none) (s "lanepacks.blocks" 381),
 c 177 "place_of" 438 55 1 442,
 f 183 31 "names_of" (.none) (s "lanepacks.blocks" 381),
 b 182 "names_of" 445 57 1 448,
 f 190 32 "with_names" (.none) (s "lanepacks.blocks" 381),
 c 189 "with_names" 451 60 2 456,
 f 197 33 "may_name" (.none) (s "lanepacks.blocks" 381),
 c 196 "may_name" 459 62 2 464,
 f 204 34 "fits" (.none) (s "lanepacks.blocks" 381),
 c 203 "fits" 467 64 3 473,
 f 209 35 "is_row" (.none) (s "lanepacks.blocks" 381),
 b 208 "is_row" 476 70 2 479,
 f 216 36 "is_block" (.none) (s "lanepacks.blocks" 381),
 c 215 "is_block" 482 78 1 490,
 f 221 39 "is_cells" (.none) (s "lanepacks.running" 493),
 b 220 "is_cells" 497 94 2 500,
 f 228 40 "touches" (.none) (s "lanepacks.running" 493),
 c 227 "touches" 503 98 2 508,
 f 235 41 "do_on_cell" (.none) (s "lanepacks.running" 493),
 c 234 "do_on_cell" 511 104 4 518,
 (236,⟨.type "tuple",none,.seq #[.int 0 521] 0,#[]⟩),
 f 243 42 "do_row" (.ref 236) (s "lanepacks.running" 493),
 c 242 "do_row" 522 113 4 532,
 f 248 43 "do_rows" (.none) (s "lanepacks.running" 493),
 b 247 "do_rows" 535 122 2 538,
 f 255 44 "check_run" (.none) (s "lanepacks.running" 493),
 c 254 "check_run" 541 130 2 546,
 f 262 45 "run" (.none) (s "lanepacks.running" 493),
 c 261 "run" 549 135 2 557,
 f 269 51 "is_if" (.none) m,
 c 268 "is_if" 570 145 1 574,
 f 276 52 "sight_behind_if" (.none) m,
 c 275 "sight_behind_if" 577 149 3 586,
 f 283 53 "sight_behind" (.none) m,
 c 282 "sight_behind" 589 159 3 597,
 f 290 54 "is_tree" (.none) m,
 c 289 "is_tree" 600 173 1 604,
 f 297 55 "listed" (.none) m,
 c 296 "listed" 607 177 2 614,
 f 302 56 "do_tree" (.none) m,
 b 301 "do_tree" 617 185 2 620,
 f 309 57 "run_tree" (.none) m,
 c 308 "run_tree" 623 195 2 630,
 fh 323 58 0 "__init__" "Flat.__init__" (s "lanepacks.trees" 560),
 (322,⟨.type "code",none,.fields #[s "__init__" 645,s "Flat.__init__" 646,s "/claim/cut.py" 647,.int 205 0,.int 1 0,.int 0 0,.int 0 0,.int 3 0,.ref 317,.bool true,.int 181 0,.ref 318,.none,.ref 319,.ref 320,.ref 321,.int 649 0,.int 205 0,s "/claim/cut.py" 650],#[]⟩),
 fh 330 58 1 "lay" "Flat.lay" (s "lanepacks.trees" 560),
 (329,⟨.type "code",none,.fields #[s "lay" 652,s "Flat.lay" 653,s "/claim/cut.py" 654,.int 209 0,.int 2 0,.int 0 0,.int 0 0,.int 3 0,.ref 324,.bool true,.int 181 0,.ref 325,.none,.ref 326,.ref 327,.ref 328,.int 657 0,.int 209 0,s "/claim/cut.py" 658],#[]⟩),
 fh 337 58 2 "both" "Flat.both" (s "lanepacks.trees" 560),
 (336,⟨.type "code",none,.fields #[s "both" 660,s "Flat.both" 661,s "/claim/cut.py" 662,.int 213 0,.int 3 0,.int 0 0,.int 0 0,.int 3 0,.ref 331,.bool true,.int 181 0,.ref 332,.none,.ref 333,.ref 334,.ref 335,.int 666 0,.int 213 0,s "/claim/cut.py" 667],#[]⟩),
 fh 342 58 3 "lay_rows" "Flat.lay_rows" (s "lanepacks.trees" 560),
 (341,⟨.type "code",none,.fields #[s "lay_rows" 669,s "Flat.lay_rows" 670,s "/claim/cut.py" 671,.int 216 0,.int 3 0,.int 0 0,.int 0 0,.int 3 0,.ref 338,.bool true,.int 181 0,.ref 339,.none,.none,.none,.ref 340,.int 672 0,.int 216 0,s "/claim/cut.py" 673],#[]⟩),
 fh 349 58 4 "lay_if" "Flat.lay_if" (s "lanepacks.trees" 560),
 (348,⟨.type "code",none,.fields #[s "lay_if" 675,s "Flat.lay_if" 676,s "/claim/cut.py" 677,.int 224 0,.int 3 0,.int 0 0,.int 0 0,.int 3 0,.ref 343,.bool true,.int 181 0,.ref 344,.none,.ref 345,.ref 346,.ref 347,.int 682 0,.int 224 0,s "/claim/cut.py" 683],#[]⟩),
 fh 356 58 5 "masked" "Flat.masked" (s "lanepacks.trees" 560),
 (355,⟨.type "code",none,.fields #[s "masked" 685,s "Flat.masked" 686,s "/claim/cut.py" 687,.int 230 0,.int 3 0,.int 0 0,.int 0 0,.int 3 0,.ref 350,.bool true,.int 181 0,.ref 351,.none,.ref 352,.ref 353,.ref 354,.int 692 0,.int 230 0,s "/claim/cut.py" 693],#[]⟩),
 (358,⟨.type "dict",none,.dict #[e P "__module__" 640 (s "lanepacks.trees" 560),e P "__firstlineno__" 644 (.int 203 643),e P "__init__" 651 (.ref 323),e P "lay" 659 (.ref 330),e P "both" 668 (.ref 337),e P "lay_rows" 674 (.ref 342),e P "lay_if" 684 (.ref 349),e P "masked" 694 (.ref 356),e P "__static_attributes__" 697 (.ref 357),e P "__dict__" 699 (.ref 360),e P "__weakref__" 701 (.ref 361),e P "__doc__" 702 (.none)] 4,#[]⟩),
 (359,⟨.type "type",none,.cls {name:= "Flat",bases:=[.type "object"],mro:=[.ref 359,.type "object"],ns:=358,qualname:= "Flat"},#[none,none,some (s "Flat" 633),some (s "Flat" 641),some (.builtin "object.__new__"),some (.bool true)]⟩),
 f 368 59 "flattened" (.none) m,
 b 367 "flattened" 705 243 1 708,
 f 375 61 "_law_cell_at" (.none) (s "law_lanepacks_k59_whole_guarded" 711),
 c 374 "_law_cell_at" 713 256 2 720,
 f 382 62 "_law_mixed" (.none) (s "law_lanepacks_k59_whole_guarded" 711),
 c 381 "_law_mixed" 723 265 3 730,
 f 389 63 "_law_draw" (.none) (s "law_lanepacks_k59_whole_guarded" 711),
 c 388 "_law_draw" 733 268 3 739,
 f 396 64 "_law_pick" (.none) (s "law_lanepacks_k59_whole_guarded" 711),
 c 395 "_law_pick" 742 271 3 748,
 f 403 65 "_law_deed" (.none) (s "law_lanepacks_k59_whole_guarded" 711),
 c 402 "_law_deed" 751 273 2 759,
 f 410 66 "_law_step" (.none) (s "law_lanepacks_k59_whole_guarded" 711),
 c 409 "_law_step" 762 285 4 771,
 f 417 67 "_law_names" (.none) (s "law_lanepacks_k59_whole_guarded" 711),
 c 416 "_law_names" 774 300 1 778,
 f 422 68 "_law_many" (.none) (s "law_lanepacks_k59_whole_guarded" 711),
 b 421 "_law_many" 781 304 1 784,
 f 427 69 "_law_tree_play" (.none) (s "law_lanepacks_k59_whole_guarded" 711),
 b 426 "_law_tree_play" 787 306 4 790,
 f 432 70 "_law_side" (.none) (s "law_lanepacks_k59_whole_guarded" 711),
 b 431 "_law_side" 793 325 5 796,
 f 437 71 "law" (.none) (s "law_lanepacks_k59_whole_guarded" 711),
 b 436 "law" 799 335 1 802]
noncomputable def A:List Nat:=[3,76,83,82,90,89,97,96,104,103,111,110,118,117,125,124,132,131,139,138,140,147,146,148,149,150,151,152,153,154,155,156,157,164,163,171,170,178,177,183,182,190,189,197,196,204,203,209,208,216,215,221,220,228,227,235,234,236,243,242,248,247,255,254,262,261,269,268,276,275,283,282,290,289,297,296,302,301,309,308,323,322,330,329,337,336,342,341,349,348,356,355,358,359,368,367,375,374,382,381,389,388,396,395,403,402,410,409,417,416,422,421,427,426,432,431,437,436]
noncomputable def view:Ax:={Ie with main:={PySem.Challenge.pw_lanepacks_k59_whole_guarded.main with body:=[1,2,3,4,5,7,8,9,10,11,12,13,14,15,16,17,18,19,21,22,23,24,25,26,27,28,29,30,31,32,33,34,35,36,38,39,40,41,43,44,45,47,48,49,50,51,52,53,54,55,56,57,58,59,61,62,63,64,65,66,67,68,69,70,71].map RR.top}}
abbrev lo:List Str:=["MADE","OTHER_PARTS","do_row"]
theorem kA(P:Kq):A=(K P).map (·.1):=by kernel_rfl
noncomputable def X(s:Ag):Bool:=xlAt view [] s && recOk (RowW.records (OpenRow.toRowW PySem.Challenge.rw_lanepacks_k59_whole_guarded.row)) s
noncomputable abbrev H:Hook:=kHook K A kA
abbrev pr:Ax:=PySem.Challenge.rw_lanepacks_k59_whole_guarded.row.prog
noncomputable abbrev go(w:World)(b:Bool):Option Ag:=N5 treeTable pr (w.withFollow "special-get-raises" b) 6520
noncomputable abbrev fA(s:Ag):=seen ((recsOf view).map (·.name)) (ownsOf view) [] {s with gens:= #[]}
noncomputable abbrev fB(s:Ag):=(s.heap.bltView,tabsOk view s)
noncomputable abbrev fC(s:Ag):Bool:=s.heap.keysOk (Nh view lo) ((recsOf view).map (·.name)) ((litsOf view).map (·.1)) ((clssOf view (Nh view lo)).map (·.name)) && s.heap.accountedOkI (Fx pr.main.body) && s.heap.isNs mainGlobals && s.heap.isNs builtinsNs && tablesOk view s.heap && X s && (if true then s.gens.size==0 else !leftWithCleanup s.gens)
noncomputable abbrev fD(s:Ag):=(pinSeenD view (Nq view) s,plainSeenE view (Nh view lo) s,plainSeenD view lo s,wideSeen view s,clsSeenW view lo s,H.obs s)
set_option maxRecDepth 100000 in
set_option maxHeartbeats 0 in
theorem rAf(w:World):(go w false).map fA=some (Ni view):=by kernel_rfl
set_option maxRecDepth 100000 in
set_option maxHeartbeats 0 in
theorem rBf(w:World):(go w false).map fB=some ((Kr,true)):=by kernel_rfl
set_option maxRecDepth 100000 in
set_option maxHeartbeats 0 in
theorem rCf(w:World):(go w false).map fC=some (true):=by kernel_rfl
set_option maxRecDepth 100000 in
set_option maxHeartbeats 0 in
theorem rDf(w:World):(go w false).map fD=some ((pinGoodD (Nq view),Nj view (Nh view lo),Nk view lo,wideGood view,clsGoodW view lo,H.val (w.withFollow "special-get-raises" false))):=by kernel_rfl
set_option maxRecDepth 100000 in
set_option maxHeartbeats 0 in
theorem rAt(w:World):(go w true).map fA=some (Ni view):=by kernel_rfl
set_option maxRecDepth 100000 in
set_option maxHeartbeats 0 in
theorem rBt(w:World):(go w true).map fB=some ((Kr,true)):=by kernel_rfl
set_option maxRecDepth 100000 in
set_option maxHeartbeats 0 in
theorem rCt(w:World):(go w true).map fC=some (true):=by kernel_rfl
set_option maxRecDepth 100000 in
set_option maxHeartbeats 0 in
theorem rDt(w:World):(go w true).map fD=some ((pinGoodD (Nq view),Nj view (Nh view lo),Nk view lo,wideGood view,clsGoodW view lo,H.val (w.withFollow "special-get-raises" true))):=by kernel_rfl
theorem jn{o:Option Ag}{v:H.α}(ha:o.map fA=some (Ni view))(hb:o.map fB=some (Kr,true))(hc:o.map fC=some true)(hd:o.map fD=some (pinGoodD (Nq view),Nj view (Nh view lo),Nk view lo,wideGood view,clsGoodW view lo,v)):
  o.map (fun s=>(openSeen view lo (Fx pr.main.body) X true s,H.obs s))=some (openGood view lo,v):=by
 cases o with
 |none=>cases ha
 |some s=>
  have ea:fA s=_:=Bt ha;have eb:fB s=_:=Bt hb;have ec:fC s=_:=Bt hc;have ed:fD s=_:=Bt hd;obtain⟨b1,b2⟩:=Hg eb;obtain⟨d1,ed⟩:=Hg ed;obtain⟨d2,ed⟩:=Hg ed;obtain⟨d3,ed⟩:=Hg ed;obtain⟨d4,ed⟩:=Hg ed;obtain⟨d5,d6⟩:=Hg ed;show some ((fA s,s.heap.bltView,fC s,tabsOk view s,pinSeenD view (Nq view) s,plainSeenE view (Nh view lo) s,plainSeenD view lo s,wideSeen view s,clsSeenW view lo s),H.obs s)=_;rw[ea,b1,ec,b2,d1,d2,d3,d4,d5,d6];rfl
theorem hl:LeftO pr view lo X H.obs H.val 6520:=fun w=>byRow2 "special-get-raises" (P:=fun w=>(Mn treeTable pr w 6520).map (fun s=>(openSeen view lo (Fx pr.main.body) X true s,H.obs s))=some (openGood view lo,H.val w)) (fun w=>jn (JV (rAf w)) (JV (rBf w)) (JV (rCf w)) (JV (rDf w))) (fun w=>jn (JV (rAt w)) (JV (rBt w)) (JV (rCt w)) (JV (rDt w))) w
set_option maxRecDepth 100000 in
set_option maxHeartbeats 0 in
theorem said:PySem.Challenge.rw_lanepacks_k59_whole_guarded.wellSaid=true:=by kernel_rfl
end KK
namespace L2
open PySem PySem.Spec PyProof.Rows
abbrev aY:=Sum Int Str
noncomputable def MX:aY->Value->Bool
 | .inl k,v=>Of k v
 | .inr x,v=>Nt x v
def keyH(w:World):aY->Int
 | .inl k=>hashInt k
 | .inr x=>hashStr w x
theorem aA: ∀{k:aY} {v:Value},MX k v=true->(∃i t,k=Le i/\v=Ks i t)∨(∃x t,k=Lf x/\v=Kt x t)
 | .inl i,v,h=>by
  obtain⟨t,e⟩:=Value.isInt_shape (k:=i) (v:=v) h;exact .inl ⟨i,t,rfl,e⟩
 | .inr x,v,h=>by
  obtain⟨t,e⟩:=Value.isStrOf_shape (x:=x) (v:=v) h;exact .inr ⟨x,t,rfl,e⟩
theorem D4(i:Int)(t:Tok):MX (.inl i) (.int i t)=true:=by simp[MX,Of]
theorem D5(x:Str)(t:Tok):MX (.inr x) (.str x t)=true:=by simp[MX,Nt]
theorem zH6(a b:Int):decide ((Le a:aY)=Le b)=(a==b):=by
 by_cases e:a=b
 ·subst e;simp
 ·have h : ¬ (Le a : aY) = Le b := fun q => e (Sum.inl.inj q)
  rw[decide_eq_false h];exact(beq_eq_false_iff_ne.mpr e).symm
theorem zH3(a b:Str):decide ((Lf a:aY)=Lf b)=decide (a=b):=by
 by_cases e:a=b
 ·subst e;simp
 ·have h : ¬ (Lf a : aY) = Lf b := fun q => e (Sum.inr.inj q)
  rw[decide_eq_false h,decide_eq_false e]
theorem zH5(a:Int)(b:Str):decide ((Le a:aY)=Lf b)=false:=decide_eq_false (fun q=>nomatch q)
theorem zH4(a:Str)(b:Int):decide ((Lf a:aY)=Le b)=false:=decide_eq_false (fun q=>nomatch q)
noncomputable def aB(prog:Ax)(w:World):PySem.KeyKind prog w aY where
 is:=MX
 hash:=keyH w
 inj:=fun v a b ha hb=>by
  rcases aA ha with⟨i,t,rfl,rfl⟩|⟨x,t,rfl,rfl⟩
  ·rcases aA hb with⟨j,u,rfl,e⟩|⟨y,u,rfl,e⟩
   ·injection e with e1 _;rw[e1]
   ·exact nomatch e
  ·rcases aA hb with⟨j,u,rfl,e⟩|⟨y,u,rfl,e⟩
   ·exact nomatch e
   ·injection e with e1 _;rw[e1]
 byValue:=fun k v h=>by
  rcases aA h with⟨i,t,rfl,rfl⟩|⟨x,t,rfl,rfl⟩<;>rfl
 pyHash:=fun hv h=>by
  rcases aA hv with⟨i,t,rfl,rfl⟩|⟨x,t,rfl,rfl⟩
  ·exact wpAny_pyHash_int h
  ·exact wpAny_pyHash_str h
 eqBool:=fun hu hv h=>by
  rcases aA hu with⟨i,t,rfl,rfl⟩|⟨x,t,rfl,rfl⟩
  ·rcases aA hv with⟨j,u,rfl,rfl⟩|⟨y,u,rfl,rfl⟩
   ·rw[zH6] at h;exact wpAny_eqBool_int h
   ·rw[zH5] at h;exact SeqAt.EqAt.int_str i t y u _ _ _ _ h
  ·rcases aA hv with⟨j,u,rfl,rfl⟩|⟨y,u,rfl,rfl⟩
   ·rw[zH4] at h;exact SeqAt.EqAt.str_int x t j u _ _ _ _ h
   ·rw[zH3] at h;exact wpAny_eqBool_str h
 «strs» :=fun k x t v h=>by
  rcases aA h with⟨i,u,rfl,e⟩|⟨y,u,rfl,e⟩
  ·exact nomatch e
  ·injection e with e1 _
   subst e1;cases v<;>rfl
theorem JW(prog:Ax)(w:World)(i:Int)(t:Tok):(aB prog w).is (.inl i) (.int i t)=true:=D4 i t
theorem JX(prog:Ax)(w:World)(x:Str)(t:Tok):(aB prog w).is (.inr x) (.str x t)=true:=D5 x t
inductive V where
 |non|bl (b:Bool)|int (i:Int)|str (x:Str)|byt (b:Array UInt8)|flt (b:UInt64)|ref (a:Addr)|ty (n:String)
 deriving DecidableEq
def b6:V->Value->Prop
 | .non,u=>u=Value.none
 | .bl b,u=>u=Lg b
 | .int i,u=> ∃t,u=Ks i t
 | .str x,u=> ∃t,u=Kt x t
 | .byt b,u=> ∃t,u=Og b t
 | .flt b,u=> ∃t,u=Mp b t
 | .ref a,u=>u=Be a
 | .ty n,u=>u=Hd n
abbrev bT:List V->List Value->Prop:=Paired b6
theorem bT.length{xs:List V}{us:List Value}(r:bT xs us):xs.length=us.length:=Ku r
theorem bT.get: ∀{xs:List V} {us:List Value} {i:Nat} {x:V},bT xs us->xs[i]? =some x-> ∃u,us[i]? =some u/\b6 x u
 |_,_,_,_,.nil,e=>by simp at e
 |_,_,0,_,.cons r _,e=>by simp at e;subst e;exact⟨_,rfl,r⟩
 |_,_,i+1,x,.cons _ t,e=>by
  obtain⟨u,h1,h2⟩:=bT.get (i:=i) (x:=x) t (by simpa using e);exact⟨u,by simpa using h1,h2⟩
theorem bT.set{x:V}{u:Value}(r:b6 x u): ∀{xs:List V} {us:List Value} (i:Nat),bT xs us->bT (xs.set i x) (us.set i u)
 |_,_,_,.nil=> .nil
 |_,_,0,.cons _ t=> .cons r t
 |_,_,i+1,.cons q t=> .cons q (bT.set r i t)
theorem bT.append: ∀{xs ys:List V} {us ws:List Value},bT xs us->bT ys ws->bT (xs++ys) (us++ws)
 |_,_,_,_,.nil,s=>s
 |_,_,_,_,.cons r t,s=> .cons r (bT.append t s)
theorem bT.take: ∀{xs:List V} {us:List Value} (n:Nat),bT xs us->bT (xs.take n) (us.take n)
 |_,_,0,_=> .nil
 |_,_,_+1,.nil=> .nil
 |_,_,n+1,.cons r t=> .cons r (bT.take n t)
theorem bT.drop: ∀{xs:List V} {us:List Value} (n:Nat),bT xs us->bT (xs.drop n) (us.drop n)
 |_,_,0,r=>r
 |_,_,_+1,.nil=> .nil
 |_,_,n+1,.cons _ t=>bT.drop n t
def WJ:Option V->Option Value->Prop
 |some v,some u=>b6 v u
 |none,none=>True
 |_,_=>False
def KV{κ:Type}:List (κ×V)->List (κ×Value)->Prop:=Paired fun(p:κ×V) (q:κ×Value)=>p.1=q.1/\b6 p.2 q.2
noncomputable def kV:aY->V
 | .inl i=> .int i
 | .inr x=> .str x
inductive HO where
 |lst (xs:List V)
 |tup (xs:List V)
 |dK (kvs:List (aY×V))|dT (kvs:List (List aY×V))
 |set (S:Int->Bool) (n:Nat)
 |ins (C dx:Addr) (fs:List (Str×V))
 |own (x:Addr)
 |xd (fs:List (Str×V))
 |met (f x:Addr)
 |flt (C dx:Addr) (f g:Str) (p q:Addr) (xs ys:List V)
 |rng (lo hi:Int)
 |frz (o:Obj) (u:HO)
 |tbl (ps:Array Value)
 |ext (φ:Heap->Prop)
abbrev Hp:=Addr->Option HO
noncomputable def upd(H:Hp)(a:Addr)(o:HO):Hp:=fun b=>if b=a then some o else H b
theorem cX{H:Hp}{a:Addr}{o:HO}:upd H a o a=some o:=by unfold upd;rw[if_pos rfl]
theorem cY{H:Hp}{a b:Addr}{o:HO}(h:b≠a):upd H a o b=H b:=by unfold upd;rw[if_neg h]
theorem XW{H:Hp}{a b:Addr}{o u:HO}(h:H a=some o)(h':H b=some u)(d:o≠u):a≠b:=by intro e;subst e;rw[h] at h';exact d (Bt h')
theorem bC{H:Hp}{a b:Addr}{o:HO}(h:H a=some o)(h':H b=none):a≠b:=by intro e;subst e;rw[h] at h';cases h'
section
variable(P:Ax)(w:World)
def aP(H:Hp)(h:Heap)(a:Addr):HO->Prop
 | .lst xs=>xs.length<=sizeLine/\ ∃(its:List Value) (n:Nat),bT xs its/\h.get? a=some {cls:= .type "list",data:= .seq its.toArray n}
 | .tup xs=>xs.length<=sizeLine/\ ∃its:List Value,bT xs its/\IsTup h a its.toArray
 | .dK kvs=>kvs.length<=sizeLine/\(a==Ei)=false/\ ∃vs,KV kvs vs/\h.DictOf (aB P w) a vs
 | .dT kvs => kvs.length <= sizeLine /\ (a == Ei) = false /\ ∃ xs : List (List aY × Addr × Value),
   Paired (fun(p:List aY×V) (q:List aY×Addr×Value)=>p.1=q.1/\H q.2.1=some (.tup (p.1.map kV))/\b6 p.2 q.2.2) kvs xs∧
   ∃o es ep,h.get? a=some o/\o.ExactDict/\o.data= .dict es ep/\es.toList=xs.map (entryOfKey (tupleKind (aB P w)))/\(xs.map (·.1)).Nodup
 | .set S n=>h.SetOf (intKind P w) a S n
 | .ins C dx fs => H dx = some (.own a) /\ fs.length <= 1000 /\ dx ≠ a /\ h.get? a = some (Gr C dx) ∧
   ∃mA,h.Ns1 dx mA/\(∀f,WJ (fs.lookup f) (mA f))/\Ht mA (fs.map (·.1))
 | .own _=> ∃o,h.get? a=some o
 | .xd fs=> ∃mA,h.Ns1 a mA/\ ∀f,WJ (fs.lookup f) (mA f)
 | .rng lo hi=> ∃t u v,h.get? a=some {cls:= .type "range",data:= .fields #[.int lo t,.int hi u,.int 1 v]}
 | .frz o u=>h.get? a=some o/\aP H h a u
 | .tbl ps=>h.get? a=some {cls:= .none,data:= .fields ps}
 | .met f x=>h.get? a=some (Mq (.ref f) (.ref x))
 | .flt C dx f g p q xs ys => (H dx = some (.own a) /\ H p = some (.own a) /\ H q = some (.own a)) /\ (dx ≠ a /\ p ≠ dx /\ q ≠ dx /\ p ≠ q /\ f ≠ g) /\ h.get? a = some (Gr C dx) ∧
   (∃mA,h.Ns1 dx mA/\(∀n,WJ (([(f,.ref p),(g,.ref q)]:List (Str×V)).lookup n) (mA n))/\Ht mA [f,g])∧
   (xs.length<=sizeLine/\ ∃(its:List Value) (n:Nat),bT xs its/\h.get? p=some {cls:= .type "list",data:= .seq its.toArray n})∧
   (ys.length<=sizeLine/\ ∃(its:List Value) (n:Nat),bT ys its/\h.get? q=some {cls:= .type "list",data:= .seq its.toArray n})
 | .ext φ=>φ h/\(∃o,h.get? a=some o)/\ ∀h1 h2:Heap,φ h1->(∀o,h1.get? a=some o->h2.get? a=some o)->φ h2
def T3(H:Hp)(h:Heap):Prop:= ∀a o,H a=some o->aP P w H h a o
end
section
variable{P:Ax}{w:World}{H H':Hp}{h h':Heap}{a:Addr}{o:HO}
theorem aP.lt(x:aP P w H h a o):a<h.objs.size:=by
 cases o with
 |lst xs=>obtain⟨_,_,_,_,e⟩:=x;exact Ar e
 |tup xs=>obtain⟨_,_,_,p⟩:=x;exact p.lt
 |dK kvs=>obtain⟨_,_,_,_,o,_,_,e,_⟩:=x;exact Ar e
 |dT kvs=>obtain⟨_,_,_,_,o,_,_,e,_⟩:=x;exact Ar e
 |set S n=>obtain⟨o,_,_,_,e,_⟩:=x;exact Ar e
 |ins C dx fs=>obtain⟨_,_,_,e,_⟩:=x;exact Ar e
 |own y=>obtain⟨_,e⟩:=x;exact Ar e
 |xd fs=>obtain⟨_,⟨_,_,_,e,_⟩,_⟩:=x;exact Ar e
 |rng lo hi=>obtain⟨_,_,_,e⟩:=x;exact Ar e
 |frz ob u=>obtain⟨e,_⟩:=x;exact Ar e
 |tbl ps=>exact Ar (show h.get? a=some _ from x)
 |met f y=>exact Ar (show h.get? a=some _ from x)
 |flt C dx f g p q xs ys=>obtain⟨_,_,e,_⟩:=x;exact Ar e
 |ext φ=>obtain⟨_,⟨_,e⟩,_⟩:=x;exact Ar e
theorem Paired.mapP{α β:Type}{F G:α->β->Prop}: ∀{l₁:List α} {l₂:List β},Paired F l₁ l₂->(∀a b,F a b->G a b)->Paired G l₁ l₂
 |_,_,.nil,_=> .nil
 |_,_,.cons r t,f=> .cons (f _ _ r) (Paired.mapP t f)
theorem aP.stay(x:aP P w H h a o)(k: ∀b u,(b=a∨H b=some (.own a))->h.get? b=some u->h'.get? b=some u)
  (ho: ∀b,H b=some (.own a)->H' b=some (.own a)) (ht: ∀b xs,H b=some (.tup xs)->H' b=some (.tup xs)):aP P w H' h' a o:=by
 induction o with
 |lst xs=>obtain⟨z,its,n,r,e⟩:=x;exact⟨z,its,n,r,k _ _ (.inl rfl) e⟩
 |tup xs=>obtain⟨z,its,r,ob,e,c⟩:=x;exact⟨z,its,r,ob,k _ _ (.inl rfl) e,c⟩
 |dK kvs=>obtain⟨z,y,vs,r,ob,es,ep,e,c⟩:=x;exact⟨z,y,vs,r,ob,es,ep,k _ _ (.inl rfl) e,c⟩
 |dT kvs=>
  obtain⟨z,y,xs,r,ob,es,ep,e,c⟩:=x;exact⟨z,y,xs,Paired.mapP r fun p q z=>⟨z.1,ht _ _ z.2.1,z.2.2⟩,ob,es,ep,k _ _ (.inl rfl) e,c⟩
 |set S n=>obtain⟨ob,es,ep,t,e,c⟩:=x;exact⟨ob,es,ep,t,k _ _ (.inl rfl) e,c⟩
 |ins C dx fs=>
  obtain⟨d,z,ne,e,mA,⟨od,es,ep,e2,c⟩,r⟩:=x;exact⟨ho _ d,z,ne,k _ _ (.inl rfl) e,mA,⟨od,es,ep,k _ _ (.inr d) e2,c⟩,r⟩
 |own y=>obtain⟨ob,e⟩:=x;exact⟨ob,k _ _ (.inl rfl) e⟩
 |xd fs=>obtain⟨mA,⟨od,es,ep,e,c⟩,r⟩:=x;exact⟨mA,⟨od,es,ep,k _ _ (.inl rfl) e,c⟩,r⟩
 |rng lo hi=>obtain⟨t,u,v,e⟩:=x;exact⟨t,u,v,k _ _ (.inl rfl) e⟩
 |frz ob u ih=>obtain⟨e,q⟩:=x;exact⟨k _ _ (.inl rfl) e,ih q⟩
 |tbl ps=>
  have e:h.get? a=some {cls:= .none,data:= .fields ps}:=x;show h'.get? a=some {cls:= .none,data:= .fields ps};exact k a _ (.inl rfl) e
 |met f y=>
  have e:h.get? a=some (Mq (.ref f) (.ref y)):=x;show h'.get? a=some (Mq (.ref f) (.ref y));exact k a _ (.inl rfl) e
 |flt C dx f g p q xs ys=>
  obtain⟨⟨d1,d2,d3⟩,ne,e,⟨mA,⟨od,es,ep,e2,c⟩,r⟩,⟨z1,i1,n1,v1,g1⟩,z2,i2,n2,v2,g2⟩:=x;exact⟨⟨ho _ d1,ho _ d2,ho _ d3⟩,ne,k _ _ (.inl rfl) e,⟨mA,⟨od,es,ep,k _ _ (.inr d1) e2,c⟩,r⟩,⟨z1,i1,n1,v1,k _ _ (.inr d2) g1⟩,z2,i2,n2,v2,k _ _ (.inr d3) g2⟩
 |ext φ=>obtain⟨p,⟨o,e⟩,st⟩:=x;exact⟨st _ _ p fun o q=>k _ _ (.inl rfl) q,⟨o,k _ _ (.inl rfl) e⟩,st⟩
theorem T3.lt(x:T3 P w H h)(e:H a=some o):a<h.objs.size:=(x a o e).lt
theorem T3.fresh(x:T3 P w H h)(e:h.objs.size<=a):H a=none:=by
 cases q:H a with
 |none=>rfl
 |some u=>exact absurd (Ba (x.lt q) e) (Cw _)
theorem T3.kept(x:T3 P w H h)(k: ∀b u,h.get? b=some u->h'.get? b=some u):T3 P w H h':=fun a o e=>
 (x a o e).stay (fun b u _ q=>k b u q) (fun _ q=>q) fun _ _ q=>q
theorem T3.laid(x:T3 P w H h)(k: ∀b u,h.get? b=some u->h'.get? b=some u)(hp:h.objs.size<=a)(new:aP P w (upd H a o) h' a o):T3 P w (upd H a o) h':=fun b u e=>by
 have hn:=x.fresh hp;by_cases hb:b=a
 ·subst hb;rw[cX] at e;cases e;exact new
 ·rw[cY hb] at e
  exact(x b u e).stay (fun c v _ q=>k c v q) (fun c q=>by rw[cY (bC q hn)];exact q) fun c xs q=>by rw[cY (bC q hn)];exact q
end
def Prt(H:Hp)(a:Addr)(u:HO):Prop:= ∃x C dx f g p q xs ys,H a=some (.own x)/\H x=some (.flt C dx f g p q xs ys)/\((a=p/\u= .lst xs)∨(a=q/\u= .lst ys))
def Rd(H:Hp)(a:Addr)(u:HO):Prop:=(H a=some u∨Prt H a u)∨ ∃o,H a=some (.frz o u)
theorem Rd.of{H:Hp}{a:Addr}{u:HO}(h:H a=some u):Rd H a u:= .inl (.inl h)
theorem Rd.ok{P:Ax}{w:World}{H:Hp}{h:Heap}{a:Addr}{u:HO}(r:Rd H a u)(x:T3 P w H h):aP P w H h a u:=by
 rcases r with(r|⟨y,C,dx,f,g,p,q,xs,ys,_,e,z⟩)|⟨o,r⟩
 ·exact x a u r
 ·obtain⟨_,_,_,_,l1,l2⟩:=x y _ e
  rcases z with⟨rfl,rfl⟩|⟨rfl,rfl⟩
  ·exact l1
  ·exact l2
 ·obtain⟨_,q⟩:=x a _ r
  exact q
def Mut:Option HO->Prop
 |some (.lst _)=>True
 |some (.dK _)=>True
 |some (.dT _)=>True
 |some (.set _ _)=>True
 |some (.ins _ _ _)=>True
 |some (.flt _ _ _ _ _ _ _ _)=>True
 |some (.ext _)=>True
 |_=>False
section
variable{P:Ax}{w:World}{H:Hp}{h h':Heap}{x e:Addr}{o':HO}
theorem T3.write(ok:T3 P w H h)(mu:Mut (H x))(he:e=x∨H e=some (.own x))(k: ∀b u,b≠e->h.get? b=some u->h'.get? b=some u)(heo: ∃u,h'.get? e=some u)
  (new:aP P w (upd H x o') h' x o'):T3 P w (upd H x o') h':=fun b u q=>by
 have lx: ∀c y,H c=some (.own y)->c≠x:=fun c y r z=>by subst z;rw[r] at mu;exact mu
 have o8: ∀c xs,H c=some (.tup xs)->c≠x:=fun c xs r z=>by subst z;rw[r] at mu;exact mu
 by_cases hb:b=x
 ·subst hb;rw[cX] at q;cases q;exact new
 ·rw[cY hb] at q
  by_cases hbe:b=e
  ·have q':H b=some (.own x):=by
    rcases he with z|z
    ·exact absurd (hbe.trans z) hb
    ·rw[hbe];exact z
   rw[q] at q';cases q';obtain⟨v,hv⟩:=heo;exact⟨v,by rw[hbe];exact hv⟩
  ·refine (ok b u q).stay (fun c v hc r => k c v ?_ r) (fun c r => by rw [cY (lx c b r)];exact r) fun c xs r => by rw [cY (o8 c xs r)];exact r
   rcases hc with rfl|hc
   ·exact hbe
   ·rintro rfl
    rcases he with z|z
    ·exact lx c b hc z
    ·rw[hc] at z;cases z;exact hb rfl
end
structure Un(fs ex:List Addr)(H H':Hp)(h h':Heap):Prop where
 keep: ∀b o,h.get? b=some o->H b=none->b∉fs->b∉ex->h'.get? b=some o
 slot: ∀b o,h.get? b=some o->H b=none->b∈fs->b∉ex-> ∃sl,h'.get? b=some {o with slots:=sl}
 free: ∀b o,h.get? b=some o->H b=none->b∉ex->H' b=none
 there: ∀b o,h.get? b=some o->b∉ex-> ∃o',h'.get? b=some o'
 tups: ∀b xs,H b=some (.tup xs)->H' b=some (.tup xs)
 frzs: ∀b o u,H b=some (.frz o u)->H' b=some (.frz o u)
 tbls: ∀b ps,H b=some (.tbl ps)-> ∃am,H' b=some (.tbl (ps++am))
section
variable{fs fs' ex ex':List Addr}{H H1 H2:Hp}{h h1 h2 h':Heap}{a x e:Addr}{o:HO}
theorem Un.any(u:Un fs ex H H1 h h1){b:Addr}{ob:Obj}(q:h.get? b=some ob)(n:H b=none)(hx:b∉ex): ∃sl,h1.get? b=some {ob with slots:=sl}:=by
 by_cases hb:b∈fs
 ·exact u.slot b ob q n hb hx
 ·exact⟨ob.slots,u.keep b ob q n hb hx⟩
theorem Un.kept(k: ∀b u,h.get? b=some u->h'.get? b=some u):Un fs ex H H h h':=
 ⟨fun b ob q _ _ _=>k b ob q,fun b ob q _ _ _=>⟨ob.slots,k b ob q⟩,fun _ _ _ n _=>n,fun b ob q _=>⟨ob,k b ob q⟩,fun _ _ q=>q,fun _ _ _ q=>q,fun _ ps q=>⟨#[],by rw[q];simp⟩⟩
theorem Un.refl:Un fs ex H H h h:=Un.kept fun _ _ q=>q
theorem Un.laid(k: ∀b u,h.get? b=some u->h'.get? b=some u)(hp:h.objs.size<=a)(hn:H a=none):Un fs ex H (upd H a o) h h' where
 keep:=fun b u q _ _ _=>k b u q
 slot:=fun b u q _ _ _=>⟨u.slots,k b u q⟩
 free:=fun b u q n _=>by rw[cY (Bl (Ba (Ar q) hp))];exact n
 there:=fun b u q _=>⟨u,k b u q⟩
 tups:=fun b xs q=>by rw[cY (bC q hn)];exact q
 frzs:=fun b u xs q=>by rw[cY (bC q hn)];exact q
 tbls:=fun b ps q=>⟨#[],by rw[cY (bC q hn),q];simp⟩
theorem Un.write(mu:Mut (H x))(he:e=x∨H e=some (.own x))(k: ∀b u,b≠e->h.get? b=some u->h'.get? b=some u)(heo: ∃u,h'.get? e=some u):Un fs ex H (upd H x o) h h':=by
 have hx: ∀b,H b=none->b≠x:=fun b n z=>by subst z;rw[n] at mu;exact mu
 have hb: ∀b,H b=none->b≠e:=fun b n z=>by
  subst z;rcases he with r|r
  ·exact hx b n r
  ·rw[n] at r;cases r
 have hm: ∀b u,H b=some u-> ¬Mut (some u)->b≠x:=fun b u q nm z=>by subst z;rw[q] at mu;exact nm mu
 refine⟨fun b u q n _ _=>k b u (hb b n) q,fun b u q n _ _=>⟨u.slots,k b u (hb b n) q⟩,fun b u q n _=>by rw[cY (hx b n)];exact n,fun b u q _=> ?_,
  fun b xs q=>by rw[cY (hm b _ q fun z=>z)];exact q,fun b u xs q=>by rw[cY (hm b _ q fun z=>z)];exact q,fun b ps q=>⟨#[],by rw[cY (hm b _ q fun z=>z),q];simp⟩⟩
 by_cases hbe:b=e
 ·subst hbe;exact heo
 ·exact⟨u,k b u hbe q⟩
end
noncomputable def trk(h:Heap)(H:Hp):List Addr:=(Cs h.objs.size).filter fun a=>(H a).isSome
def LK(h:Heap)(H:Hp):Heap:=W.hideAll h (trk h H)
theorem DZ(h:Heap)(H:Hp):(LK h H).objs.size=h.objs.size:=W.hideAll_size _ _
theorem zAL{h:Heap}{H:Hp}{b:Addr}{o:Obj}(e:h.get? b=some o)(n:H b=none):(LK h H).get? b=some o:=
 W.hideAll_get _ e fun hm=>by
  have q:(H b).isSome=true:=(Mr.mp hm).2;rw[n] at q;simp at q
theorem zCG{h:Heap}{H:Hp}{b:Addr}{o:Obj}(e:(LK h H).get? b=some o):h.get? b=some o/\H b=none:=by
 have e':h.get? b=some o:=W.of_hideAll (trk h H) e;refine⟨e',?_⟩;cases q:H b with
 |none=>rfl
 |some x=>
  have hm:b∈trk h H:=Mr.mpr ⟨En.mpr (Ar e'),by simp[q]⟩;have z:(LK h H).get? b=none:=W.hideAll_none (trk h H) hm;rw[z] at e;cases e
structure Mod(K:Ai)(mg:Str->Option Value)(base:Heap):Prop where
 kin:K.In base
 glob:base.Ns mainGlobals mg
 blt: ∃mb,base.Ns builtinsNs mb/\ ∀x:Str,x≠ "__name__" ->mb x=Bf x
 nolimit:base.NoLimit
structure Cx where
 prog:Ax
 w:World
 K:Ai
 mg:Str->Option Value
 base:Heap
 A:Cm
 N:List Str
 s₀:Ag
 H₀:Hp
 env:Env
 outer:List Env
 stack:List Env
 ex:List Addr
 fn:Str->Bool
 calm:Bool
 pn:List (Addr×Obj)
 xe:Value->Ag->Prop
def CT(l:List Env):List Addr:=l.filterMap (·.frame)
abbrev Cx.fs(X:Cx):List Addr:=CT X.outer
def Vis(sc:Scope)(x:Str):Prop:=sc.names.lookup x=some .local∨sc.names.lookup x=some .cell∨sc.names.lookup x=some .free
def Loc(sc:Scope)(x:Str):Prop:=sc.names.lookup x=some .local∨sc.names.lookup x=some .cell
def Look(env:Env)(h:Heap)(m:Str->Option Value)(x:Str)(u:Value):Prop:=
 (env.kindOf x=some .local/\m x=some u)∨((env.kindOf x=some .cell∨env.kindOf x=some .free)/\ ∃c,env.cells.lookup x=some c/\h.IsCell c (some u))
structure Cx.Ok(X:Cx):Prop where
 mod:Mod X.K X.mg X.base
 kind:X.env.scope.kind= .function
 glob:X.env.globals=mainGlobals
 blt:X.env.builtins=builtinsNs
 above:X.s₀.heap.objs.size<=X.env.locals
 inj: ∀x y c,X.env.cells.lookup x=some c->X.env.cells.lookup y=some c->x=y
 has: ∀x,(X.env.kindOf x=some .cell∨X.env.kindOf x=some .free)-> ∃c,X.env.cells.lookup x=some c
 cab: ∀x c,X.fn x=true->X.env.cells.lookup x=some c->X.s₀.heap.objs.size<=c
 hd:X.calm=true->X.A.handled=none
 frames:X.A.frames=some X.stack
 stk:X.stack=X.outer∨(X.stack=X.env::X.outer/\X.env.frame=some X.env.locals)
 exf: ∀b∈X.ex,b≠X.env.locals/\ ∀x c,X.env.cells.lookup x=some c->c≠b
 bs: ∀b o,X.base.get? b=some o->X.s₀.heap.get? b=some o/\X.H₀ b=none
 bsz:X.base.objs.size<=X.s₀.heap.objs.size
 noex: ∀b o,X.base.get? b=some o->b∉X.ex
 exfs: ∀b∈X.ex,b∉X.fs
 funs:X.s₀.heap.FunFrames X.base X.outer
 frf: ∀b∈X.fs,X.H₀ b=none
structure cM(X:Cx)(aa:List (Addr×Obj))(σ:List (Option V))(H:Hp)(s:Ag):Prop where
 ok:X.Ok
 os:s.os=X.s₀.os
 bare:Jl s.gens
 base:Un X.fs X.ex X.H₀ H X.s₀.heap s.heap
 loc: ∃m,s.heap.Ns X.env.locals m/\ ∀(i:Nat) (x:Str) (v:V),X.N[i]? =some x->σ[i]? =some (some v)->Vis X.env.scope x-> ∃u,b6 v u/\Look X.env s.heap m x u
 cell: ∀x c,X.env.cells.lookup x=some c-> ∃v,s.heap.IsCell c v
 free:H X.env.locals=none
 freeC: ∀x c,X.env.cells.lookup x=some c->H c=none
 pin: ∀p∈X.pn++aa,s.heap.get? p.1=some p.2/\H p.1=none/\p.1≠X.env.locals/\p.1∉X.fs/\ ∀v,p.2.data≠ .cell v
 hok:T3 X.prog X.w H s.heap
 len:σ.length=X.N.length
section
variable{X:Cx}{aa:List (Addr×Obj)}{σ:List (Option V)}{H H':Hp}{s:Ag}{h':Heap}
theorem Cx.Ok.nofr(ok:X.Ok){b:Addr}{o:Obj}(e:X.base.get? b=some o):b∉X.fs:=fun hb=>by
 have:=(ok.funs.mem hb).1
 rw[e] at this;cases this
theorem cM.bs(I:cM X aa σ H s): ∀b o,X.base.get? b=some o->s.heap.get? b=some o/\H b=none:=fun b o e=>
 ⟨I.base.keep b o (I.ok.bs b o e).1 (I.ok.bs b o e).2 (I.ok.nofr e) (I.ok.noex b o e),I.base.free b o (I.ok.bs b o e).1 (I.ok.bs b o e).2 (I.ok.noex b o e)⟩
theorem cM.bk(I:cM X aa σ H s): ∀b o,X.base.get? b=some o->s.heap.get? b=some o:=fun b o e=>(I.bs b o e).1
theorem cM.mod(I:cM X aa σ H s):Mod X.K X.mg X.base:=I.ok.mod
theorem cM.kIn(I:cM X aa σ H s):X.K.In s.heap:=I.ok.mod.kin.keeps I.bk
theorem cM.lt(I:cM X aa σ H s):X.env.locals<s.heap.objs.size:=let ⟨_,hn,_⟩:=I.loc;hn.lt
theorem cM.sz(I:cM X aa σ H s):X.s₀.heap.objs.size<=s.heap.objs.size:=Ea I.ok.above (Lv I.lt)
theorem cM.nofs(I:cM X aa σ H s){a:Addr}(h:s.heap.objs.size<=a):a∉X.fs:=fun hb=>by
 obtain⟨_,o,ho,_⟩:=I.ok.funs.mem hb;exact absurd (Ba (Ar ho) (Ea I.sz h)) (Cw _)
theorem cM.cne(I:cM X aa σ H s): ∀x c,X.env.cells.lookup x=some c->c≠X.env.locals:=fun x c e z=>by
 obtain⟨v,o,ho,hd⟩:=I.cell x c e;obtain⟨m,⟨o',es,ep,ho',hd',_⟩,_⟩:=I.loc;rw[z,ho'] at ho;cases ho;rw[hd'] at hd;cases hd
theorem cM.funs(I:cM X aa σ H s):s.heap.FunFrames X.base X.outer:=by
 have all: ∀(l:List Env),(∀b∈CT l,b∈X.fs)->X.s₀.heap.FunFrames X.base l->s.heap.FunFrames X.base l:=by
  intro l;induction l with
  |nil=>intro _ _;trivial
  |cons env r ih=>
   intro hs hl;obtain⟨hk,⟨L,o,hf,hn,ho,hd⟩,hr⟩:=hl;have hL:L∈X.fs:=hs L (by unfold CT;rw[Hh,hf];exact Bg);obtain⟨sl,e⟩:=I.base.slot L o ho (I.ok.frf L hL) hL fun z=>I.ok.exfs L z hL;exact⟨hk,⟨L,_,hf,hn,e,hd⟩,ih (fun b hb=>hs b (by unfold CT;rw[Hh,hf];exact Aw _ hb)) hr⟩
 exact all X.outer (fun _ hb=>hb) I.ok.funs
theorem cM.stack(I:cM X aa σ H s):s.heap.FunFrames X.base X.stack:=by
 rcases I.ok.stk with e|⟨e,hf⟩
 ·rw[e];exact I.funs
 ·rw[e]
  obtain⟨m,hn,_⟩:=I.loc;refine .cons (by rw[I.ok.kind];decide) hf hn ?_ I.funs;exact Heap.get?_none_of_le (Ea I.ok.bsz I.ok.above)
theorem cM.stkSub(I:cM X aa σ H s): ∀b∈CT X.stack,b∈X.env.locals::X.fs:=fun b hb=>by
 rcases I.ok.stk with e|⟨e,hf⟩
 ·rw[e] at hb;exact Aw _ hb
 ·rw[e] at hb
  unfold CT at hb;rw[Hh,hf] at hb;exact hb
theorem cM.stkFree(I:cM X aa σ H s): ∀b∈CT X.stack,H b=none:=fun b hb=>by
 rcases Ap.mp (I.stkSub b hb) with e|hb
 ·rw[e];exact I.free
 ·obtain⟨_,o,ho,_⟩:=I.ok.funs.mem hb
  exact I.base.free b o ho (I.ok.frf b hb) fun z=>I.ok.exfs b z hb
theorem cM.step{g':Array GenState}{t':Nat}{d':Drawn}{ch:List Addr}(I:cM X aa σ H s)
  (hch: ∀b∈ch,(b∈X.ex∨X.s₀.heap.objs.size<=b)/\b≠X.env.locals/\(∀x c,X.env.cells.lookup x=some c->c≠b)/\ ∀p∈X.pn++aa,p.1≠b)
  (keep: ∀b o,b≠X.env.locals->b∉X.fs->b∉ch->s.heap.get? b=some o->H b=none->h'.get? b=some o)
  (slot: ∀b o,b≠X.env.locals->b∈X.fs->b∉ch->s.heap.get? b=some o->H b=none-> ∃sl,h'.get? b=some {o with slots:=sl}) (free: ∀b o,b∉ch->s.heap.get? b=some o->H b=none->H' b=none)
  (there: ∀b o,b∉ch->s.heap.get? b=some o-> ∃o',h'.get? b=some o')
  (tups: ∀b xs,H b=some (.tup xs)->H' b=some (.tup xs)) (frzs: ∀b o u,H b=some (.frz o u)->H' b=some (.frz o u)) (tbls: ∀b ps,H b=some (.tbl ps)-> ∃am,H' b=some (.tbl (ps++am)))
  (ns: ∀m,s.heap.Ns X.env.locals m->h'.Ns X.env.locals m) (hok:T3 X.prog X.w H' h') (hg:Jl g'):
  cM X aa σ H' {s with heap:=h',gens:=g',drawn:=d',toks:=t'}:=by
 have neL: ∀b o,X.s₀.heap.get? b=some o->b≠X.env.locals:=fun b o e=>Bl (Ba (Ar e) I.ok.above);have neC: ∀b o,X.s₀.heap.get? b=some o->b∉X.ex->b∉ch:=fun b o e hx hb=>by
  rcases(hch b hb).1 with z|z
  ·exact hx z
  ·exact absurd (Ba (Ar e) z) (Cw _)
 have il: ∀x c,X.env.cells.lookup x=some c-> ∀v,s.heap.IsCell c v->h'.IsCell c v:=fun x c e v q0=>by
  obtain⟨o,ho,hd⟩:=q0;have nch:c∉ch:=fun z=>(hch c z).2.2.1 x c e rfl;by_cases hc:c∈X.fs
  ·obtain⟨sl,q⟩:=slot c o (I.cne x c e) hc nch ho (I.freeC x c e)
   exact⟨_,q,hd⟩
  ·exact⟨o,keep c o (I.cne x c e) hc nch ho (I.freeC x c e),hd⟩
 refine⟨I.ok,I.os,hg,⟨fun b o e n hb hx=> ?_,fun b o e n hb hx=> ?_,fun b o e n hx=> ?_,fun b o e hx=> ?_,fun b xs e=>tups b xs (I.base.tups b xs e),fun b o xs e=>frzs b o xs (I.base.frzs b o xs e),fun b ps e=> ?_⟩,?_,fun x c e=> ?_,?_,fun x c e=> ?_,fun p hp=> ?_,hok,I.len⟩
 ·exact keep b o (neL b o e) hb (neC b o e hx) (I.base.keep b o e n hb hx) (I.base.free b o e n hx)
 ·obtain⟨sl,e1⟩:=I.base.slot b o e n hb hx
  obtain⟨sl',e2⟩:=slot b _ (neL b o e) hb (neC b o e hx) e1 (I.base.free b o e n hx);exact⟨sl',e2⟩
 ·obtain⟨o',e1⟩:=I.base.there b o e hx
  exact free b o' (neC b o e hx) e1 (I.base.free b o e n hx)
 ·obtain⟨o',e1⟩:=I.base.there b o e hx
  exact there b o' (neC b o e hx) e1
 ·obtain⟨m1,e1⟩:=I.base.tbls b ps e
  obtain⟨m2,e2⟩:=tbls b _ e1;exact⟨m1++m2,by rw[e2,Array.append_assoc]⟩
 ·obtain⟨m,hn,hl⟩:=I.loc
  refine⟨m,ns m hn,fun i x v e1 e2 e3=> ?_⟩;obtain⟨u,r,l⟩:=hl i x v e1 e2 e3;refine⟨u,r,?_⟩;rcases l with l|⟨k,c,e,z⟩
  ·exact .inl l
  ·exact .inr ⟨k,c,e,il x c e _ z⟩
 ·obtain⟨v,z⟩:=I.cell x c e
  exact⟨v,il x c e v z⟩
 ·obtain⟨m,⟨o,_,_,ho,_⟩,_⟩:=I.loc
  exact free _ o (fun z=>(hch _ z).2.1 rfl) ho I.free
 ·obtain⟨v,o,ho,hd⟩:=I.cell x c e
  exact free c o (fun z=>(hch c z).2.2.1 x c e rfl) ho (I.freeC x c e)
 ·obtain⟨e,n,ne,nf,d⟩:=I.pin p hp
  have nch:p.1∉ch:=fun z=>(hch p.1 z).2.2.2 p hp rfl;exact⟨keep p.1 p.2 ne nf nch e n,free p.1 p.2 nch e n,ne,nf,d⟩
theorem cM.un{t':Nat}(I:cM X aa σ H s)(u:Un X.fs [] H H' s.heap h')(hok:T3 X.prog X.w H' h'):cM X aa σ H' {s with heap:=h',toks:=t'}:=by
 obtain⟨m,⟨o,es,ep,ho,r⟩,_⟩:=id I.loc;obtain⟨sl,hL⟩:=u.any ho I.free (by simp);exact I.step (g':=s.gens) (d':=s.drawn) (ch:=[]) (fun _ z=>nomatch z) (fun b o _ hb _ e n=>u.keep b o e n hb (by simp)) (fun b o _ hb _ e n=>u.slot b o e n hb (by simp)) (fun b o _ e n=>u.free b o e n (by simp)) (fun b o _ e=>u.there b o e (by simp)) u.tups u.frzs u.tbls (fun m' hm=>by
  obtain⟨o',es',ep',ho',r'⟩:=hm;rw[ho] at ho';cases ho';exact⟨_,es',ep',hL,r'⟩) hok I.bare
theorem cM.call{g':Array GenState}{t':Nat}{d':Drawn}{ch:List Addr}(I:cM X aa σ H s)(u:Un (CT X.stack) ch H H' s.heap h')(hok:T3 X.prog X.w H' h')(hg:Jl g')
  (hch: ∀b∈ch,(b∈X.ex∨X.s₀.heap.objs.size<=b)/\b≠X.env.locals/\(∀x c,X.env.cells.lookup x=some c->c≠b)/\ ∀p∈X.pn++aa,p.1≠b):
  cM X aa σ H' {s with heap:=h',gens:=g',drawn:=d',toks:=t'}:=by
 obtain⟨m,⟨o,es,ep,ho,r⟩,_⟩:=id I.loc;obtain⟨sl,hL⟩:=u.any ho I.free fun z=>(hch _ z).2.1 rfl;exact I.step (ch:=ch) hch (fun b o hL hb hc e n=>u.keep b o e n (fun z=>(Ap.mp (I.stkSub b z)).elim hL hb) hc) (fun b o _ _ hc e n=>u.any e n hc) (fun b o hc e n=>u.free b o e n hc) (fun b o hc e=>u.there b o e hc) u.tups u.frzs u.tbls (fun m' hm=>by
  obtain⟨o',es',ep',ho',r'⟩:=hm;rw[ho] at ho';cases ho';exact⟨_,es',ep',hL,r'⟩) hok hg
theorem cM.turned{t':Nat}{it:Addr}(I:cM X aa σ H s)(k: ∀b o,b≠it->s.heap.get? b=some o->h'.get? b=some o)(hn:H it=none)(hL:it≠X.env.locals)
  (h1:it∈X.ex∨X.s₀.heap.objs.size<=it) (h2: ∀x c,X.env.cells.lookup x=some c->c≠it) (h3: ∀p∈X.pn++aa,p.1≠it):cM X aa σ H {s with heap:=h',toks:=t'}:=by
 have nit: ∀b u,H b=some u->b≠it:=fun b u e z=>by rw[z,hn] at e;cases e
 refine I.step (g':=s.gens) (d':=s.drawn) (ch:=[it]) (fun b hb=> ?_) (fun b o _ _ hc e _=>k b o (fun z=>hc (by simp[z])) e) (fun b o _ _ hc e _=>⟨o.slots,k b o (fun z=>hc (by simp[z])) e⟩) (fun _ _ _ _ n=>n)
  (fun b o hc e=>⟨o,k b o (fun z=>hc (by simp[z])) e⟩) (fun _ _ e=>e) (fun _ _ _ e=>e) (fun b ps e=>⟨#[],by rw[e];simp⟩) (fun m hm=> ?_) (fun b u e=> ?_) I.bare
 ·have e : b = it := by simpa using hb
  subst e;exact⟨h1,hL,h2,h3⟩
 ·obtain⟨o,es,ep,ho,r⟩:=hm
  exact⟨o,es,ep,k _ o (Dj hL) ho,r⟩
 ·refine (I.hok b u e).stay (fun c v hc q => k c v ?_ q) (fun _ q => q) fun _ _ q => q
  rcases hc with z|z
  ·rw[z];exact nit b u e
  ·exact nit c _ z
theorem cM.tok(I:cM X aa σ H s)(t:Nat):cM X aa σ H {s with toks:=t}:=I.un (h':=s.heap) (t':=t) Un.refl I.hok
theorem cM.kept{t':Nat}(I:cM X aa σ H s)(k: ∀b u,s.heap.get? b=some u->h'.get? b=some u):cM X aa σ H {s with heap:=h',toks:=t'}:=I.un (Un.kept k) (I.hok.kept k)
theorem cM.laid{a:Addr}{o:HO}{t':Nat}(I:cM X aa σ H s)(k: ∀b u,s.heap.get? b=some u->h'.get? b=some u)(hp:s.heap.objs.size<=a)(new:aP X.prog X.w (upd H a o) h' a o):
  cM X aa σ (upd H a o) {s with heap:=h',toks:=t'}:=I.un (Un.laid k hp (I.hok.fresh hp)) (I.hok.laid k hp new)
theorem cM.write{x e:Addr}{o:HO}{t':Nat}(I:cM X aa σ H s)(mu:Mut (H x))(he:e=x∨H e=some (.own x))(k: ∀b u,b≠e->s.heap.get? b=some u->h'.get? b=some u)(heo: ∃u,h'.get? e=some u)
  (new:aP X.prog X.w (upd H x o) h' x o):cM X aa σ (upd H x o) {s with heap:=h',toks:=t'}:=I.un (Un.write mu he k heo) (I.hok.write mu he k heo new)
theorem cM.weak{σ':List (Option V)}(I:cM X aa σ H s)(hl:σ'.length=σ.length)(w: ∀(i:Nat) v,σ'[i]? =some (some v)->σ[i]? =some (some v)):cM X aa σ' H s:=
 ⟨I.ok,I.os,I.bare,I.base,let ⟨m,hn,hl'⟩:=I.loc;⟨m,hn,fun i x v e1 e2 e3=>hl' i x v e1 (w i v e2) e3⟩,I.cell,I.free,I.freeC,I.pin,I.hok,hl.trans I.len⟩
theorem cM.pins_of{i6:List (Addr×Obj)}(I:cM X aa σ H s)(h: ∀p∈i6,s.heap.get? p.1=some p.2/\H p.1=none/\p.1≠X.env.locals/\p.1∉X.fs/\ ∀v,p.2.data≠ .cell v):cM X i6 σ H s:=
 ⟨I.ok,I.os,I.bare,I.base,I.loc,I.cell,I.free,I.freeC,fun p hp=>(Cn.mp hp).elim (fun z=>I.pin p (Bv _ z)) (h p),I.hok,I.len⟩
theorem J1{N:List Str}(hN:N.Nodup){i j:Nat}{x:Str}(a:N[i]? =some x)(b:N[j]? =some x):i=j:=by
 obtain⟨h1,e1⟩:=Ak.mp a;obtain⟨h2,e2⟩:=Ak.mp b;exact(Md hN).mp (e1.trans e2.symm)
theorem NB{M:Model}{A:Cm}{E:Value->Ag->Prop}{i:Nat}{x:Str}{v:V}{u:Value}{Q:Unit->Ag->Prop}(I:cM X aa σ H s)(hN:X.N.Nodup)(hi:X.N[i]? =some x)(hx:Loc X.env.scope x)(r:b6 v u)
  (h: ∀s',cM X aa (σ.set i (some v)) H s'->(∃a,Ek a s.heap s'.heap/\(a=X.env.locals∨X.env.cells.lookup x=some a))->Q () s') (hf:X.fn x=true∨X.env.scope.names.lookup x=some .local:=by first|exact .inl rfl|exact .inr rfl|assumption):wpAny M A (storeName X.env x u) Q E s:=by
 obtain⟨m,hn,hl⟩:=id I.loc;have pk:(X.env.scope.kind== .class || (X.env.scope.kind== .module && X.env.locals !=X.env.globals))=false:=by rw[I.ok.kind];rfl
 have hiσ:i<σ.length:=by rw[I.len];exact(Ak.mp hi).1
 have cne:=I.cne;have dj: ∀{a:Addr} {h':Heap},(∃o,s.heap.get? a=some o/\H a=none)->Ek a s.heap h'->T3 X.prog X.w H h':=fun{a h'} ha hs b ob e=>by
  obtain⟨_,_,bh⟩:=ha;refine(I.hok b ob e).stay (fun c w' hc q=>(hs.2 c ?_).trans q) (fun _ q=>q) fun _ _ q=>q;rintro rfl;rcases hc with rfl|hc
  ·rw[bh] at e;cases e
  ·rw[bh] at hc;cases hc
 rcases hx with hk|hk
 ·refine wpAny_storeName_local hk hn (fun h' hn' hs => ?_) pk
  obtain⟨oL,_,_,hoL,_⟩:=id hn;refine h _ ⟨I.ok,I.os,I.bare,⟨fun b o e n hb hx=> ?_,fun b o e n hb hx=> ?_,I.base.free,fun b o e hx=> ?_,I.base.tups,I.base.frzs,I.base.tbls⟩,⟨_,hn',fun j y v' e1 e2 e3=> ?_⟩,fun y c e=> ?_,I.free,I.freeC,fun p hp=> ?_,dj ⟨oL,hoL,I.free⟩ hs,by simpa using I.len⟩ ⟨_,hs,.inl rfl⟩
  ·exact(hs.2 b (Bl (Ba (Ar e) I.ok.above))).trans (I.base.keep b o e n hb hx)
  ·obtain⟨sl,e1⟩:=I.base.slot b o e n hb hx
   exact⟨sl,(hs.2 b (Bl (Ba (Ar e) I.ok.above))).trans e1⟩
  ·obtain⟨o',e1⟩:=I.base.there b o e hx
   exact⟨o',(hs.2 b (Bl (Ba (Ar e) I.ok.above))).trans e1⟩
  ·by_cases hj:j=i
   ·subst hj
    rw[hi] at e1;cases e1;rw[Ce hiσ] at e2;cases e2;exact⟨u,r,.inl ⟨hk,by simp⟩⟩
   ·rw[Bp (Dj hj)] at e2
    obtain⟨u',r',q⟩:=hl j y v' e1 e2 e3;refine⟨u',r',?_⟩;rcases q with⟨k,e⟩|⟨k,c,e,z⟩
    ·refine .inl ⟨k,?_⟩
     have:y≠x:=fun e=>hj (J1 hN e1 (e▸hi))
     simp[this,e]
    ·exact .inr ⟨k,c,e,z.sameBut hs (cne y c e)⟩
  ·obtain⟨w',z⟩:=I.cell y c e
   exact⟨w',z.sameBut hs (cne y c e)⟩
  ·obtain⟨e,n,ne,nf,d⟩:=I.pin p hp
   exact⟨(hs.2 p.1 ne).trans e,n,ne,nf,d⟩
 ·have hfn:X.fn x=true:=by
   rcases hf with z|z
   ·exact z
   ·rw[z] at hk;cases hk
  obtain⟨c,hc⟩:=I.ok.has x (.inl hk);obtain⟨w',z⟩:=I.cell x c hc;refine wpAny_storeName_cell I.ok.kind hk hc z (fun h' hc' hs=> ?_);obtain⟨oc,hoc,ou⟩:=id z;refine h {s with heap:=h'} ⟨I.ok,I.os,I.bare,⟨fun b o e n hb hx=> ?_,fun b o e n hb hx=> ?_,I.base.free,fun b o e hx=> ?_,I.base.tups,I.base.frzs,I.base.tbls⟩,⟨m,hn.sameBut hs (Dj (cne x c hc)),fun j y v' e1 e2 e3=> ?_⟩,fun y c' e=> ?_,I.free,I.freeC,fun p hp=> ?_,dj ⟨oc,hoc,I.freeC x c hc⟩ hs,by simpa using I.len⟩ ⟨c,hs,.inr hc⟩
  ·exact(hs.2 b (Bl (Ba (Ar e) (I.ok.cab x c hfn hc)))).trans (I.base.keep b o e n hb hx)
  ·obtain⟨sl,e1⟩:=I.base.slot b o e n hb hx
   exact⟨sl,(hs.2 b (Bl (Ba (Ar e) (I.ok.cab x c hfn hc)))).trans e1⟩
  ·obtain⟨o',e1⟩:=I.base.there b o e hx
   exact⟨o',(hs.2 b (Bl (Ba (Ar e) (I.ok.cab x c hfn hc)))).trans e1⟩
  ·by_cases hj:j=i
   ·subst hj
    rw[hi] at e1;cases e1;rw[Ce hiσ] at e2;cases e2;exact⟨u,r,.inr ⟨.inl hk,c,hc,hc'⟩⟩
   ·rw[Bp (Dj hj)] at e2
    obtain⟨u',r',q⟩:=hl j y v' e1 e2 e3;refine⟨u',r',?_⟩;rcases q with q|⟨k,c',e,z'⟩
    ·exact .inl q
    ·refine .inr ⟨k,c',e,z'.sameBut hs ?_⟩
     rintro rfl;exact hj (J1 hN e1 (I.ok.inj _ _ _ e hc▸hi))
  ·by_cases hcc:c'=c
   ·subst hcc;exact⟨_,hc'⟩
   ·obtain⟨w2,z2⟩:=I.cell y c' e
    exact⟨w2,z2.sameBut hs hcc⟩
  ·obtain⟨e,n,ne,nf,d⟩:=I.pin p hp
   refine⟨(hs.2 p.1 ?_).trans e,n,ne,nf,d⟩;intro q;rw[q,hoc] at e;have q':oc=p.2:=Bt e;exact d w' (by rw[<- q'];exact ou)
theorem R0{M:Model}{A:Cm}{E:Value->Ag->Prop}{i:Nat}{x:Str}{v:V}{u:Value}{Q:Unit->Ag->Prop}(I:cM X aa σ H s)(hN:X.N.Nodup)(hi:X.N[i]? =some x)(hx:Loc X.env.scope x)(r:b6 v u)
  (h: ∀s',cM X aa (σ.set i (some v)) H s'->Q () s') (hf:X.fn x=true∨X.env.scope.names.lookup x=some .local:=by first|exact .inl rfl|exact .inr rfl|assumption):wpAny M A (storeName X.env x u) Q E s:=
 NB I hN hi hx r (fun s' I' _=>h s' I') hf
theorem cM.call'{s':Ag}{ch:List Addr}(I:cM X aa σ H s)(ho:s'.os=s.os)(u:Un (CT X.stack) ch H H' s.heap s'.heap)(hok:T3 X.prog X.w H' s'.heap)(hg:Jl s'.gens)
  (hch: ∀b∈ch,(b∈X.ex∨X.s₀.heap.objs.size<=b)/\b≠X.env.locals/\(∀x c,X.env.cells.lookup x=some c->c≠b)/\ ∀p∈X.pn++aa,p.1≠b):cM X aa σ H' s':=by
 obtain⟨h',g',d',t',o'⟩:=s';have e:o'=s.os:=ho;subst e;exact I.call (g':=g') (t':=t') (d':=d') u hok hg hch
end
abbrev XK:=Value->Option Addr->Hp->Prop
abbrev St:=List (Option V)
abbrev VK:=V->Hp->Prop
abbrev TE:=St->Hp->VK->Prop
abbrev TT:=St->Hp->(Bool->Hp->Prop)->Prop
abbrev TA:=St->Hp->(List V->Hp->Prop)->Prop
structure GF where
 nx:St->Hp->Prop
 rt:VK
 bk:St->Hp->Prop:=fun _ _=>False
 ct:St->Hp->Prop:=fun _ _=>False
abbrev TS:=GF->St->Hp->Prop
def EP(X:Cx)(aa:List (Addr×Obj))(σ:St)(Q:VK)(u:Value)(s':Ag):Prop:= ∃v H',cM X aa σ H' s'/\b6 v u/\Q v H'
def TP(X:Cx)(aa:List (Addr×Obj))(σ:St)(Q:Bool->Hp->Prop)(b:Bool)(s':Ag):Prop:= ∃H',cM X aa σ H' s'/\Q b H'
def AP(X:Cx)(aa:List (Addr×Obj))(σ:St)(Q:List V->Hp->Prop)(us:List Value)(s':Ag):Prop:= ∃vs H',cM X aa σ H' s'/\bT vs us/\Q vs H'
def SP(X:Cx)(aa:List (Addr×Obj))(D:GF)(f:Flow)(s':Ag):Prop:=
 match f with
 | .next=> ∃σ' H',cM X aa σ' H' s'/\D.nx σ' H'
 | .brk=> ∃σ' H',cM X aa σ' H' s'/\D.bk σ' H'
 | .cont=> ∃σ' H',cM X aa σ' H' s'/\D.ct σ' H'
 | .ret u=> ∃v σ' H',cM X aa σ' H' s'/\b6 v u/\D.rt v H'
def PE(X:Cx)(e:Expr)(t:TE):Prop:=
 ∀(aa:List (Addr×Obj)) (s:Ag) (σ:St) (H:Hp) (Q:VK),cM X aa σ H s->t σ H Q->wpAny (model X.prog X.w) X.A (eval e X.env) (EP X aa σ Q) X.xe s
def PT(X:Cx)(e:Expr)(t:TT):Prop:=
 ∀(aa:List (Addr×Obj)) (s:Ag) (σ:St) (H:Hp) (Q:Bool->Hp->Prop),cM X aa σ H s->t σ H Q->wpAny (model X.prog X.w) X.A (isTrue e X.env (eval e X.env)) (TP X aa σ Q) X.xe s
def PW(X:Cx)(e:Expr)(t:TT):Prop:=
 ∀(az:Sem Value) (aa:List (Addr×Obj)) (s:Ag) (σ:St) (H:Hp) (Q:Bool->Hp->Prop),cM X aa σ H s->t σ H Q->wpAny (model X.prog X.w) X.A (isTrue e X.env az) (TP X aa σ Q) X.xe s
theorem PW.pt{X:Cx}{e:Expr}{t:TT}(h:PW X e t):PT X e t:=h _
def PA(X:Cx)(es:List Expr)(t:TA):Prop:=
 ∀(pos:Pos) (aa:List (Addr×Obj)) (s:Ag) (σ:St) (H:Hp) (Q:List V->Hp->Prop),cM X aa σ H s->t σ H Q->wpAny (model X.prog X.w) X.A (spliced (Dh pos (Ae es X.env))) (AP X aa σ Q) X.xe s
def PS(X:Cx)(st:Stmt)(t:TS):Prop:=
 ∀(aa:List (Addr×Obj)) (s:Ag) (σ:St) (H:Hp) (D:GF),cM X aa σ H s->t D σ H->wpAny (model X.prog X.w) X.A (exec st X.env) (SP X aa D) X.xe s
def QJ(X:Cx)(st:List Stmt)(t:TS):Prop:=
 ∀(aa:List (Addr×Obj)) (s:Ag) (σ:St) (H:Hp) (D:GF),cM X aa σ H s->t D σ H->wpAny (model X.prog X.w) X.A (execs st X.env) (SP X aa D) X.xe s
theorem ZX{α:Type}{t:Sem α}{Q Q':α->Ag->Prop}{M:Model}{A:Cm}{E:Value->Ag->Prop}{s:Ag}(h:wpAny M A t Q E s)(hQ: ∀a s,Q a s->Q' a s):wpAny M A t Q' E s:=Ch h hQ fun _ _ x=>x
section
variable{X:Cx}
def YT(i:Nat):TE:=fun σ H Q=> ∃v,σ[i]? =some (some v)/\Q v H
def tC(v:V):TE:=fun _ H Q=>Q v H
theorem HK{i:Nat}{x:Str}{pos:Pos}(hN:X.N[i]? =some x)(hv:Vis X.env.scope x)(hd:(x==("__debug__":Str))=false:=by decide) (hcd:(x==("__classdict__":Str))=false:=by decide):PE X (.Name x pos) (YT i):=by
 intro aa s σ H Q I h;obtain⟨v,e,h⟩:=h;obtain⟨m,hn,hl⟩:=I.loc;obtain⟨u,r,l⟩:=hl i x v hN e hv;have fin:EP X aa σ Q u s:=⟨v,H,I,r,h⟩;rcases l with⟨hk,hm⟩|⟨hk,c,hc,ik⟩
 ·exact Nl (wpAny_loadName_local I.ok.kind hk hn hm fin) hd
 ·rcases hk with hk|hk
  ·exact Nl (wpAny_loadName_cell I.ok.kind hk hc ik fin) hd
  ·exact Nl (wpAny_loadName_free I.ok.kind hk hc ik fin hcd) hd
theorem zFM{i j pos}:PE X (.Constant (.int i) j pos) (tC (.int i)):=fun _ _ _ H _ I h=>wpAny_Constant_int ⟨.int i,H,I.tok _,⟨_,rfl⟩,h⟩
theorem zJ7{b j pos}:PE X (.Constant (.bool b) j pos) (tC (.bl b)):=fun _ _ _ H _ I h=>Constant_bool ⟨.bl b,H,I,rfl,h⟩
theorem zFL{j pos}:PE X (.Constant .none j pos) (tC .non):=fun _ _ _ H _ I h=>Constant_none ⟨.non,H,I,rfl,h⟩
theorem zFJ{x j pos}:PE X (.Constant (.str x) j pos) (tC (.str x)):=fun _ _ _ H _ I h=>Calls.Constant_str ⟨.str x,H,I.tok _,⟨_,rfl⟩,h⟩
def Gl(X:Cx)(x:Str):Prop:=X.env.kindOf x=some .globalImplicit
theorem LO{E:Value->Ag->Prop}{aa:List (Addr×Obj)}{s:Ag}{σ:St}{H:Hp}{x:Str}{u:Value}{pos:Pos}{Q:Value->Ag->Prop}(I:cM X aa σ H s)(hg:Gl X x)(hm:X.mg x=some u)(h:Q u s)
  (hd:(x==("__debug__":Str))=false:=by decide):wpAny (model X.prog X.w) X.A (eval (.Name x pos) X.env) Q E s:=
 Hq I.ok.kind hg (Calls.loadGlobal_global (by rw[I.ok.glob];exact I.mod.glob.keeps I.bk) hm h) hd
theorem QX{E:Value->Ag->Prop}{aa:List (Addr×Obj)}{s:Ag}{σ:St}{H:Hp}{x:Str}{u:Value}{pos:Pos}{Q:Value->Ag->Prop}(I:cM X aa σ H s)(hg:Gl X x)(hm:X.mg x=none)(hv:Bf x=some u)(h:Q u s)
  (hn:x≠ "__name__":=by decide) (hd:(x==("__debug__":Str))=false:=by decide):wpAny (model X.prog X.w) X.A (eval (.Name x pos) X.env) Q E s:=by
 obtain⟨mb,h1,h2⟩:=I.mod.blt;exact Hq I.ok.kind hg (Calls.loadGlobal_builtin (by rw[I.ok.glob];exact I.mod.glob.keeps I.bk) hm (by rw[I.ok.blt];exact h1.keeps I.bk) ((h2 x hn).trans hv) h) hd
theorem zC7{x:Str}{v:V}{u:Value}{pos:Pos}(hg:Gl X x)(hm:X.mg x=some u)(r:b6 v u)(hd:(x==("__debug__":Str))=false:=by decide):PE X (.Name x pos) (tC v):=
 fun _ _ _ H _ I h=>LO I hg hm ⟨v,H,I,r,h⟩ hd
theorem zCA{x:Str}{v:V}{u:Value}{pos:Pos}(hg:Gl X x)(hm:X.mg x=none)(hv:Bf x=some u)(r:b6 v u)(hn:x≠ "__name__":=by decide) (hd:(x==("__debug__":Str))=false:=by decide):PE X (.Name x pos) (tC v):=
 fun _ _ _ H _ I h=>QX I hg hm hv ⟨v,H,I,r,h⟩ hn hd
variable{a b:Expr}{ta tb:TE}{pos:Pos}
def tB(t:TE):TT:=fun σ H Q=>t σ H fun x H1=> ∃c,x= .bl c/\Q c H1
theorem zF9{e:Expr}{t:TE}(h:PE X e t)(he: ∀az,isTrue e X.env az=(do let v<- az;Lh e.pos;Ib [v] (truthy v)):=by intro _;rfl):PT X e (tB t):=by
 intro aa s σ H Q I hw;refine isTrue_plain (ZX (h aa s σ H _ I hw) fun v s1 ⟨x,H1,I1,r1,q1⟩=> ?_) (he _);obtain⟨d,rfl,q⟩:=q1;cases r1;exact Eb ⟨H1,I1,q⟩
variable{tA tB':TT}{rest:List Expr}
def tAnd(t u:TT):TT:=fun σ H Q=>t σ H fun c H1=>if c=true then u σ H1 Q else Q false H1
def tOr(t u:TT):TT:=fun σ H Q=>t σ H fun c H1=>if c=true then Q true H1 else u σ H1 Q
def tNot(t:TT):TT:=fun σ H Q=>t σ H fun c H1=>Q (!c) H1
theorem zBQ(ha:PT X a tA):PW X (.BoolOp .And [a] pos) tA:=by
 intro wh aa s σ H Q I h;refine isTrue_and (ZX (ha aa s σ H Q I h) fun c s1 e=> ?_);cases c with
 |true=>exact isTrue_and_nil e
 |false=>exact e
theorem zF7(ha:PT X a tA):PW X (.BoolOp .Or [a] pos) tA:=by
 intro wh aa s σ H Q I h;refine isTrue_or (ZX (ha aa s σ H Q I h) fun c s1 e=> ?_);cases c with
 |false=>exact isTrue_or_nil e
 |true=>exact e
theorem zF8(ha:PT X a tA)(hb:PW X (.BoolOp .And (b::rest) pos) tB'):PW X (.BoolOp .And (a::b::rest) pos) (tAnd tA tB'):=by
 intro wh aa s σ H Q I h;refine isTrue_and (ZX (ha aa s σ H _ I h) fun c s1 ⟨H1,I1,q1⟩=> ?_);cases c with
 |true=>exact hb wh aa s1 σ H1 Q I1 q1
 |false=>exact⟨H1,I1,q1⟩
theorem zJ1(ha:PT X a tA)(hb:PW X (.BoolOp .Or (b::rest) pos) tB'):PW X (.BoolOp .Or (a::b::rest) pos) (tOr tA tB'):=by
 intro wh aa s σ H Q I h;refine isTrue_or (ZX (ha aa s σ H _ I h) fun c s1 ⟨H1,I1,q1⟩=> ?_);cases c with
 |true=>exact⟨H1,I1,q1⟩
 |false=>exact hb wh aa s1 σ H1 Q I1 q1
theorem zFA(ha:PT X a tA):PT X (.UnaryOp .Not a pos) (tNot tA):=by
 intro aa s σ H Q I h;exact isTrue_not (ha aa s σ H (fun c H1=>Q (!c) H1) I h)
def zI7(ta tb:TE):TE:=fun σ H Q=>ta σ H fun x H1=> ∃c,x= .bl c/\if c=true then tb σ H1 Q else Q (.bl false) H1
theorem zFK{op}{t:TE}(h:PE X a t):PE X (.BoolOp op [a] pos) t:=fun aa s σ H Q I hw=>BoolOp_one (h aa s σ H Q I hw)
theorem zFN(ha:PE X a ta)(hb:PE X (.BoolOp .And (b::rest) pos) tb):PE X (.BoolOp .And (a::b::rest) pos) (zI7 ta tb):=by
 intro aa s σ H Q I h;refine BoolOp_and (ZX (ha aa s σ H _ I h) fun v s1 ⟨x,H1,I1,r1,q1⟩=> ?_);obtain⟨c,rfl,q1⟩:=q1;cases r1;refine Eb ?_;cases c with
 |true=>exact hb aa s1 σ H1 Q I1 q1
 |false=>exact⟨.bl false,H1,I1,rfl,q1⟩
def tIf(t:TT)(ta tb:TE):TE:=fun σ H Q=>t σ H fun c H1=>if c=true then ta σ H1 Q else tb σ H1 Q
theorem AF{c:Expr}(hc:PT X c tA)(ha:PE X a ta)(hb:PE X b tb):PE X (.IfExp c a b pos) (tIf tA ta tb):=by
 intro aa s σ H Q I h;refine wpAny_IfExp (ZX (hc aa s σ H _ I h) fun d s1 ⟨H1,I1,q1⟩=> ?_);cases d with
 |true=>exact ha aa s1 σ H1 Q I1 q1
 |false=>exact hb aa s1 σ H1 Q I1 q1
end
def XZ(K:Ai)(H:Hp)(a:Addr)(xs:List V):Prop:=
 Rd H a (.lst xs)∨
  ∃(o:Obj) (its:Array Value) (n:Nat),K.lookup a=some o/\o.cls= .type "list" /\o.dict=none/\o.data= .seq its n/\its.size<=sizeLine/\bT xs its.toList
def VC(K:Ai)(H:Hp)(a:Addr)(xs:List V):Prop:=
 Rd H a (.tup xs)∨
  ∃(o:Obj) (its:Array Value) (n:Nat),K.lookup a=some o/\o.cls= .type "tuple" /\o.data= .seq its n/\its.size<=sizeLine/\bT xs its.toList
noncomputable def absV:Value->Option V
 | .none=>some .non
 | .bool b=>some (.bl b)
 | .int i _=>some (.int i)
 | .str x _=>some (.str x)
 | .bytes b _=>some (.byt b)
 | .float b _=>some (.flt b)
 | .ref a=>some (.ref a)
 | .type n=>some (.ty n)
 |_=>none
theorem b6.abs{x:V}{u:Value}(r:b6 x u):absV u=some x:=by
 cases x with
 |non=>cases r;rfl
 |bl _=>cases r;rfl
 |int _=>obtain⟨t,rfl⟩:=r;rfl
 |str _=>obtain⟨t,rfl⟩:=r;rfl
 |byt _=>obtain⟨t,rfl⟩:=r;rfl
 |flt _=>obtain⟨t,rfl⟩:=r;rfl
 |ref _=>cases r;rfl
 |ty _=>cases r;rfl
theorem b6.inj{x y:V}{u:Value}(r:b6 x u)(q:b6 y u):x=y:=Bt (r.abs.symm.trans q.abs)
theorem bT.inj: ∀{xs ys:List V} {us:List Value},bT xs us->bT ys us->xs=ys
 |_,_,_,.nil,.nil=>rfl
 |_,_,_,.cons r t,.cons r' t'=>by rw[r.inj r',bT.inj t t']
section
variable{X:Cx}{aa:List (Addr×Obj)}{σ:St}{H:Hp}{s:Ag}{a:Addr}{xs ys:List V}
theorem XZ.of{K:Ai}(h:H a=some (.lst xs)):XZ K H a xs:= .inl (.inl (.inl h))
theorem VC.of{K:Ai}(h:H a=some (.tup xs)):VC K H a xs:= .inl (.inl (.inl h))
theorem cM.list(I:cM X aa σ H s)(h:XZ X.K H a xs): ∃its:List Value,bT xs its/\PlainL s.heap a its.toArray/\xs.length<=sizeLine:=by
 rcases h with h|⟨o,its,n,hk,hc,hd,hs,hz,r⟩
 ·obtain⟨z,its,n,r,e⟩:=h.ok I.hok
  exact⟨its,r,⟨_,n,e,rfl,rfl,rfl⟩,z⟩
 ·refine ⟨its.toList,r,⟨o,n,I.kIn a o hk,hc,hd,by simpa using hs⟩,?_⟩
  have e:=r.length;simp only[Fs] at e;lia
theorem cM.tuple(I:cM X aa σ H s)(h:VC X.K H a xs): ∃its:List Value,bT xs its/\IsTup s.heap a its.toArray/\xs.length<=sizeLine:=by
 rcases h with h|⟨o,its,n,hk,hc,hs,hz,r⟩
 ·obtain⟨z,its,r,p⟩:=h.ok I.hok
  exact⟨its,r,p,z⟩
 ·refine ⟨its.toList,r,⟨o,I.kIn a o hk,hc,n,by simpa using hs⟩,?_⟩
  have e:=r.length;simp only[Fs] at e;lia
theorem cM.list_inj(I:cM X aa σ H s)(h:XZ X.K H a xs)(h':XZ X.K H a ys):xs=ys:=by
 obtain⟨its,r,⟨o,n,e,_,_,d⟩,_⟩:=I.list h;obtain⟨its',r',⟨o',n',e',_,_,d'⟩,_⟩:=I.list h';rw[e] at e';cases e';rw[d] at d';injection d' with d1 _;have:its=its':=by simpa using congrArg Nz d1
 subst this;exact r.inj r'
theorem cM.tuple_inj(I:cM X aa σ H s)(h:VC X.K H a xs)(h':VC X.K H a ys):xs=ys:=by
 obtain⟨its,r,⟨o,e,_,n,d⟩,_⟩:=I.tuple h;obtain⟨its',r',⟨o',e',_,n',d'⟩,_⟩:=I.tuple h';rw[e] at e';cases e';rw[d] at d';injection d' with d1 _;have:its=its':=by simpa using congrArg Nz d1
 subst this;exact r.inj r'
end
abbrev Cx.wish(X:Cx)(E:Value->Ag->Prop):Cx:={X with xe:=E}
abbrev Cx.nox(X:Cx):Cx:=X.wish fun _ _=>False
theorem Cx.Ok.wish{X:Cx}(ok:X.Ok)(E:Value->Ag->Prop):(X.wish E).Ok:=
 ⟨ok.mod,ok.kind,ok.glob,ok.blt,ok.above,ok.inj,ok.has,ok.cab,ok.hd,ok.frames,ok.stk,ok.exf,ok.bs,ok.bsz,ok.noex,ok.exfs,ok.funs,ok.frf⟩
theorem Cx.Ok.unwish{X:Cx}{E:Value->Ag->Prop}(ok:(X.wish E).Ok):X.Ok:=
 ⟨ok.mod,ok.kind,ok.glob,ok.blt,ok.above,ok.inj,ok.has,ok.cab,ok.hd,ok.frames,ok.stk,ok.exf,ok.bs,ok.bsz,ok.noex,ok.exfs,ok.funs,ok.frf⟩
section
variable{X:Cx}{aa:List (Addr×Obj)}{σ:St}{H:Hp}{s:Ag}{E:Value->Ag->Prop}
theorem cM.wish(I:cM X aa σ H s)(E:Value->Ag->Prop):cM (X.wish E) aa σ H s:=⟨I.ok.wish E,I.os,I.bare,I.base,I.loc,I.cell,I.free,I.freeC,I.pin,I.hok,I.len⟩
theorem cM.unwish(I:cM (X.wish E) aa σ H s):cM X aa σ H s:=⟨I.ok.unwish,I.os,I.bare,I.base,I.loc,I.cell,I.free,I.freeC,I.pin,I.hok,I.len⟩
theorem SP.unwish{D:GF}{f:Flow}{s':Ag}(h:SP (X.wish E) aa D f s'):SP X aa D f s':=by
 cases f with
 |next=>obtain⟨σ',H',I,q⟩:=h;exact⟨σ',H',I.unwish,q⟩
 |brk=>obtain⟨σ',H',I,q⟩:=h;exact⟨σ',H',I.unwish,q⟩
 |cont=>obtain⟨σ',H',I,q⟩:=h;exact⟨σ',H',I.unwish,q⟩
 |ret u=>obtain⟨v,σ',H',I,r,q⟩:=h;exact⟨v,σ',H',I.unwish,r,q⟩
theorem QJ.nox{st:List Stmt}{t:TS}(h:QJ X.nox st t):QJ X st t:=fun aa s σ H D I hw=>
 Ch (h aa s σ H D (I.wish _) hw) (fun _ _ q=>q.unwish) fun _ _ z=>Ej z
end
section
variable{X:Cx}{st:Stmt}{rest:List Stmt}{t u:TS}{e:Expr}{te:TE}{pos:Pos}
def zI1:TS:=fun D σ H=>D.nx σ H
def tSeq(t u:TS):TS:=fun D σ H=>t {D with nx:=u D} σ H
theorem FU:QJ X [] zI1:=fun _ _ σ H _ I h=>Jm ⟨σ,H,I,h⟩
theorem OQ(h1:PS X st t)(h2:QJ X rest u):QJ X (st::rest) (tSeq t u):=by
 intro aa s σ H D I h;refine wpAny_execs_cons (ZX (h1 aa s σ H {D with nx:=u D} I h) fun f s1 q=> ?_);cases f with
 |next=>
  obtain⟨σ',H',I',q⟩:=q;exact h2 aa s1 σ' H' D I' q
 |ret v=>exact q
 |brk=>exact q
 |cont=>exact q
theorem zBU(h1:PS X st t):QJ X [st] t:=by
 intro aa s σ H D I h;refine wpAny_execs_cons (ZX (h1 aa s σ H D I h) fun f s1 q=> ?_);cases f with
 |next=>exact Jm q
 |ret v=>exact q
 |brk=>exact q
 |cont=>exact q
theorem cM.quiet{aa:List (Addr×Obj)}{σ:St}{H:Hp}{s:Ag}(I:cM X aa σ H s):interactive X.env=false:=by simp[interactive,I.ok.kind]
def zI5(te:TE):TS:=fun D σ H=>te σ H fun _ H1=>D.nx σ H1
theorem LV(he:PE X e te)(hs:El e none pos.line X.env=pure false:=by rfl):PS X (.Expr e pos) (zI5 te):=by
 intro aa s σ H D I h;exact wpAny_Expr_any (ZX (he aa s σ H _ I h) fun v s1 ⟨x,H1,I1,r1,q1⟩=>⟨σ,H1,I1,q1⟩) I.quiet hs
def tRet(te:TE):TS:=fun D σ H=>te σ H D.rt
theorem AS(he:PE X e te):PS X (.Return (some e) pos) (tRet te):=by
 intro aa s σ H D I h;exact wpAny_Return_some (ZX (he aa s σ H _ I h) fun v s1 ⟨x,H1,I1,r1,q1⟩=>⟨x,σ,H1,I1,r1,q1⟩)
def tIfS(c:TT)(t u:TS):TS:=fun D σ H=>c σ H fun b H1=>if b=true then t D σ H1 else u D σ H1
theorem zJ2{c:Expr}{a b:List Stmt}{tc:TT}(hc:PT X c tc)(ha:QJ X a t)(hb:QJ X b u):PS X (.If c a b pos) (tIfS tc t u):=by
 intro aa s σ H D I h;refine wpAny_If (ZX (hc aa s σ H _ I h) fun d s1 ⟨H1,I1,q1⟩=> ?_);cases d with
 |true=>exact ha aa s1 σ H1 D I1 q1
 |false=>exact hb aa s1 σ H1 D I1 q1
end
abbrev TG:=V->St->Hp->(St->Hp->Prop)->Prop
abbrev DF:=List V->St->Hp->(St->Hp->Prop)->Prop
def PG(X:Cx)(bn:Expr)(t:TG):Prop:=
 ∀(aa:List (Addr×Obj)) (s:Ag) (σ:St) (H:Hp) (v:V) (u:Value) (Q:St->Hp->Prop),cM X aa σ H s->b6 v u->t v σ H Q→
  wpAny (model X.prog X.w) X.A (assign bn X.env u) (fun _ s'=> ∃σ' H',cM X aa σ' H' s'/\Q σ' H') X.xe s
def E1(X:Cx)(ts:List Expr)(t:DF):Prop:=
 ∀(aa:List (Addr×Obj)) (s:Ag) (σ:St) (H:Hp) (vs:List V) (us:List Value) (Q:St->Hp->Prop),cM X aa σ H s->bT vs us->t vs σ H Q→
  wpAny (model X.prog X.w) X.A (assignInOrder ((assignEach ts X.env).map (·.2)) us) (fun _ s'=> ∃σ' H',cM X aa σ' H' s'/\Q σ' H') X.xe s
abbrev TSet:=V->V->V->Hp->(Hp->Prop)->Prop
def PSet(X:Cx)(t:TSet):Prop:=
 ∀(aa:List (Addr×Obj)) (s:Ag) (σ:St) (H:Hp) (o i v:V) (ov iv u:Value) (Q:Hp->Prop),cM X aa σ H s->b6 o ov->b6 i iv->b6 v u->t o i v H Q→
  wpAny (model X.prog X.w) X.A (setItem ov iv u) (fun _ s'=> ∃H',cM X aa σ H' s'/\Q H') X.xe s
section
variable{X:Cx}{pos:Pos}
def FF(i:Nat):TG:=fun v σ H Q=>Q (σ.set i (some v)) H
theorem zC5{i:Nat}{x:Str}(hN:X.N.Nodup)(hi:X.N[i]? =some x)(hx:Loc X.env.scope x)(hf:X.fn x=true∨X.env.scope.names.lookup x=some .local:=by first|exact .inl rfl|exact .inr rfl|assumption):PG X (.Name x pos) (FF i):=by
 intro aa s σ H v u Q I r h;exact Gj (R0 I hN hi hx r (fun s' I'=>⟨_,H,I',h⟩) hf)
def gNil:DF:=fun vs σ H Q=>vs=[]/\Q σ H
def zK4(t:TG)(u:DF):DF:=fun vs σ H Q=> ∃v r,vs=v::r/\t v σ H fun σ' H'=>u r σ' H' Q
theorem zC3:E1 X [] gNil:=by
 intro aa s σ H vs us Q I r h;obtain⟨e,h⟩:=h;subst e;cases r;exact Li ⟨σ,H,I,h⟩
theorem AJ{e:Expr}{es:List Expr}{t:TG}{u:DF}(h1:PG X e t)(h2:E1 X es u)
  (hs:(assignEach (e::es) X.env).map (·.2)=assign e X.env::(assignEach es X.env).map (·.2):=by rfl):E1 X (e::es) (zK4 t u):=by
 intro aa s σ H vs us Q I r h;obtain⟨v,vr,e1,h⟩:=h;subst e1;cases r with
 |cons r rr=>
  rw[hs];refine Hu (ZX (h1 aa s σ H _ _ _ I r h) fun _ s1 ⟨σ1,H1,I1,q1⟩=> ?_);exact h2 aa s1 σ1 H1 _ _ Q I1 rr q1
def gTup(K:Ai)(n:Nat)(t:DF):TG:=fun v σ H Q=> ∃a xs,v= .ref a/\VC K H a xs/\xs.length=n/\t xs σ H Q
theorem zFF{es:List Expr}{k:Nat}{t:DF}{n:Nat}(hc:X.calm=true)(h:E1 X es t)
  (hn:(assignEach es X.env).length=n:=by rfl) (hst:(assignEach es X.env).findIdx? (·.1)=none:=by rfl):PG X (.Tuple es k pos) (gTup X.K n t):=by
 intro aa s σ H v u Q I r hw;obtain⟨a,xs,e1,hq,hl,hw⟩:=hw;subst e1;cases r;obtain⟨its,rv,ht,hz⟩:=I.tuple hq;refine assign_Tuple_tuple (I.ok.hd hc) ht (by simp[hn,<- hl,rv.length]) hst fun h' hx=> ?_;have I1:cM X aa σ H {s with heap:=h'}:=I.kept (t':=s.toks) fun b o e=>hx b o (Bl (Ar e)) e;exact h aa _ σ H xs _ Q I1 (by simpa using rv) hw
def gSub(to ti:TE)(t:TSet):TG:=fun v σ H Q=>to σ H fun o H1=>ti σ H1 fun i H2=>t o i v H2 fun H3=>Q σ H3
theorem zFG{o i:Expr}{to ti:TE}{t:TSet}(ho:PE X o to)(hi:PE X i ti)(hs:PSet X t)
  (ha: ∀v,assign (.Subscript o i pos) X.env v=(do
   let ov<- Ib [v] (eval o X.env)
   let iv<- Ib [v,ov] (eval i X.env)
   Lh pos
   Ib [v,ov,iv] (setItem ov iv v)
   release [v,ov,iv] []):=by intro _;rfl):PG X (.Subscript o i pos) (gSub to ti t):=by
 intro aa s σ H v u Q I r h;rw[ha];refine Ac (Cc (ZX (ho aa s σ H _ I h) fun ov s1 ⟨x,H1,I1,r1,q1⟩=> ?_));refine Ac (Cc (ZX (hi aa s1 σ H1 _ I1 q1) fun iv s2 ⟨y,H2,I2,r2,q2⟩=> ?_));refine Ac (Gz (Ac (Cc (ZX (hs aa s2 σ H2 x y v ov iv u _ I2 r1 r2 r q2) fun _ s3 ⟨H3,I3,q3⟩=> ?_))));exact wpAny_release ⟨σ,H3,I3,q3⟩
def tAsg(te:TE)(g:TG):TS:=fun D σ H=>te σ H fun x H1=>g x σ H1 D.nx
theorem HM{tg e:Expr}{te:TE}{g:TG}(he:PE X e te)(hg:PG X tg g)(hs:Iv [tg] e pos.line X.env=pure false:=by rfl)(hw:Iw [tg] e X.env=pure none:=by rfl)
  (h1:(assignEach [tg] X.env).map (·.2)=[assign tg X.env]:=by rfl):PS X (.Assign [tg] e pos) (tAsg te g):=by
 intro aa s σ H D I h;refine wpAny_Assign_stores (ZX (he aa s σ H _ I h) fun v s1 ⟨x,H1,I1,r1,q1⟩=> ?_) hs hw;rw[h1];exact ZX (hg aa s1 σ H1 x v _ I1 r1 q1) fun _ s2 q=>q
theorem zFB{i:Nat}{x:Str}{e:Expr}{te:TE}{al:Pos}(hN:X.N.Nodup)(hi:X.N[i]? =some x)(hx:Loc X.env.scope x)(he:PE X e te)(hs:El e (some (.Name x al)) pos.line X.env=pure false:=by rfl)(hf:X.fn x=true∨X.env.scope.names.lookup x=some .local:=by first|exact .inl rfl|exact .inr rfl|assumption):
  PS X (.Assign [.Name x al] e pos) (tAsg te (FF i)):=by
 intro aa s σ H D I h;refine wpAny_Assign_Name (ZX (he aa s σ H _ I h) fun v s1 ⟨y,H1,I1,r1,q1⟩=> ?_) hs;exact R0 I1 hN hi hx r1 (fun s2 I2=>⟨_,H1,I2,q1⟩) hf
end
structure It where
 go:Nat->Hp->Prop
 yld:Nat->Hp->V->Hp->Prop
 stop:Nat->Hp->Prop
def NI(X:Cx)(aa:List (Addr×Obj))(H:Hp)(b:Addr):Prop:=
 H b=none/\b≠X.env.locals/\b∉X.fs/\(b∈X.ex∨X.s₀.heap.objs.size<=b)/\(∀x c,X.env.cells.lookup x=some c->c≠b)/\ ∀p∈X.pn++aa,p.1≠b
theorem cM.fpOk{X:Cx}{aa:List (Addr×Obj)}{σ:St}{H H':Hp}{s:Ag}{b:Addr}(I:cM X aa σ H s)(hb:s.heap.objs.size<=b)(hn:H' b=none):NI X aa H' b:=by
 refine⟨hn,Fu (Ba I.lt hb),I.nofs hb,.inr (Ea I.sz hb),fun x c e z=> ?_,fun p hp z=> ?_⟩
 ·obtain⟨v,q⟩:=I.cell x c e
  exact absurd (Ba q.lt (by rw[z];exact hb)) (Cw _)
 ·exact absurd (Ba (Ar (I.pin p hp).1) (by rw[z];exact hb)) (Cw _)
structure GK(P:Ax)(w:World)(K:Ai)(tg:Expr)(J:It)(fp:List Addr)(it:Addr)(tn:Nat->Heap->Prop):Prop where
 mem:it∈fp
 obj: ∀i h,tn i h-> ∀b∈fp,∃o,h.get? b=some o/\ ∀v,o.data≠ .cell v
 keep: ∀i h h',tn i h->(∀b∈fp,∀o,h.get? b=some o->h'.get? b=some o)->tn i h'
 item: ∀(X:Cx),X.prog=P->X.w=w->X.K=K->X.calm=true-> ∀(i:Nat) (aa:List (Addr×Obj)) (s:Ag) (σ:St) (H:Hp) (E:Value->Ag->Prop),cM X aa σ H s->(∀b∈fp,NI X aa H b)->tn i s.heap->J.go i H→
  wpAny (model P w) X.A (pyNext (.ref it)) (fun r s1=> ∃u,r=some u∧
   wpAny (model P w) X.A (Hi tg (.ref it) u) (fun _ s2=> ∃x H',cM X aa σ H' s2/\b6 x u/\J.yld i H x H'/\tn (i+1) s2.heap/\ ∀b∈fp,H' b=none) E s1) E s
 done: ∀(X:Cx),X.prog=P->X.w=w->X.K=K->X.calm=true-> ∀(i:Nat) (aa:List (Addr×Obj)) (s:Ag) (σ:St) (H:Hp) (E:Value->Ag->Prop),cM X aa σ H s->(∀b∈fp,NI X aa H b)->tn i s.heap->J.stop i H→
  wpAny (model P w) X.A (pyNext (.ref it)) (fun r s1=>r=none/\cM X aa σ H s1) E s
 self: ∀(A:Cm) (i:Nat) (s:Ag) (Q:Value->Ag->Prop) (E:Value->Ag->Prop),tn i s.heap->Q (.ref it) s->wpAny (model P w) A (pyIter (.ref it)) Q E s
abbrev TI:=St->Hp->(It->Hp->Prop)->Prop
def PIE(X:Cx)(aa:List (Addr×Obj))(σ:St)(tg:Expr)(R:It->Hp->Prop)(itv:Value)(s2:Ag):Prop:=
 ∃(it:Addr) (fp:List Addr) (tn:Nat->Heap->Prop) (J:It) (H':Hp),itv= .ref it/\cM X aa σ H' s2/\GK X.prog X.w X.K tg J fp it tn/\tn 0 s2.heap/\(∀b∈fp,NI X aa H' b)/\R J H'
def PI(X:Cx)(tg iter:Expr)(wi:TI):Prop:=
 ∀(aa:List (Addr×Obj)) (s:Ag) (σ:St) (H:Hp) (R:It->Hp->Prop),cM X aa σ H s->wi σ H R→
  wpAny (model X.prog X.w) X.A (eval iter X.env) (fun v s1=>wpAny (model X.prog X.w) X.A (pyIter v) (PIE X aa σ tg R) X.xe s1) X.xe s
theorem zAN{M:Model}{A:Cm}{E:Value->Ag->Prop}{s:Ag}{tg:Expr}{it:Addr}{u:Value}{o:Obj}{n:String}{vs:Array Value}{Q:Unit->Ag->Prop}(ho:s.heap.get? it=some o)(hc:o.cls= .type n)(hd:o.data= .fields vs)
    (hn:["enumerate","zip","dict_itemiterator","dict_reverseitemiterator","odict_iterator","itertools.zip_longest","itertools.pairwise"].contains n=false) (hQ:Q () s):wpAny M A (Hi tg (.ref it) u) Q E s:=by
  unfold Hi;cases tg<;>first
    |exact As hQ
    |(cases u<;>first
        |exact As hQ
        | (refine Ac (wpAny_load ho ?_)
           rw[hc,hd];show wpAny M A (if(["enumerate","zip","dict_itemiterator","dict_reverseitemiterator","odict_iterator","itertools.zip_longest","itertools.pairwise"].contains n && vs[0]? ==some (rawInt _))=true then _ else _) Q E s;rw[if_neg (by intro h;rw[hn,Bool.false_and] at h;cases h)];exact As hQ))
def Itl(K:Ai)(a:Addr):It:=
 ⟨fun i H=> ∃xs x,XZ K H a xs/\xs[i]? =some x,fun i H x H'=>H'=H/\ ∀xs,XZ K H a xs->xs[i]? =some x,fun i H=> ∃xs,XZ K H a xs/\xs.length<=i⟩
def Itt(K:Ai)(a:Addr):It:=
 ⟨fun i H=> ∃xs x,VC K H a xs/\xs[i]? =some x,fun i H x H'=>H'=H/\ ∀xs,VC K H a xs->xs[i]? =some x,fun i H=> ∃xs,VC K H a xs/\xs.length<=i⟩
def Itr(lo:Int)(n:Nat):It:=⟨fun i _=>i<n,fun i H x H'=>H'=H/\x= .int (lo+i),fun i _=>n<=i⟩
theorem ET{P:Ax}{w:World}{K:Ai}{tg:Expr}(a it:Addr):GK P w K tg (Itl K a) [it] it (fun i h=>h.IsListIter it a i) where
 mem:=by simp
 obj:=fun i h st b hb=>by
  have e:b=it:=by simpa using hb
  subst e;obtain⟨o,e,c,d⟩:=st;exact⟨o,e,fun v z=>by rw[d] at z;cases z⟩
 keep:=fun i h h' st k=>st.at fun o e=>k it (by simp) o e
 item:=by
  intro X hP hw hK hc i aa s σ H E I hf st hg;subst hP hw hK;obtain⟨xs,x,hq,hx⟩:=hg;obtain⟨its,rv,p,hz⟩:=I.list hq;obtain⟨u,hu,ru⟩:=rv.get hx;obtain⟨f0,f1,f2,f3,f4,f5⟩:=hf it (by simp);refine Jf st p.isList (x:=u) (by simpa using hu) fun h' st' sb=> ?_;have I1:cM X aa σ H {s with heap:=h'}:=I.turned (t':=s.toks) (fun b o hb e=>(sb.2 b hb).trans e) f0 f1 f3 f4 f5;obtain⟨o,e,c,d⟩:=id st';exact⟨u,rfl,zAN (s:={s with heap:=h'}) e c d (by decide) ⟨x,H,I1,ru,⟨rfl,fun ys hy=>by rw[I.list_inj hy hq];exact hx⟩,st',fun b hb=>(hf b hb).1⟩⟩
 done:=by
  intro X hP hw hK hc i aa s σ H E I hf st hg;subst hP hw hK;obtain⟨xs,hq,hx⟩:=hg;obtain⟨its,rv,p,hz⟩:=I.list hq;obtain⟨f0,f1,f2,f3,f4,f5⟩:=hf it (by simp);have hl:=rv.length;exact Jn (I.ok.hd hc) st p.isList (by simp;lia) fun h' eb=>⟨rfl,I.turned (t':=s.toks) (fun b o hb e=>eb b o hb e) f0 f1 f3 f4 f5⟩
 self:=fun _ _ _ _ _ st h=>wpAny_pyIter_listiter st h
theorem IA{P:Ax}{w:World}{K:Ai}{tg:Expr}(a it:Addr):GK P w K tg (Itt K a) [it] it (fun i h=>h.IsTupleIter it a i) where
 mem:=by simp
 obj:=fun i h st b hb=>by
  have e:b=it:=by simpa using hb
  subst e;obtain⟨o,e,c,d⟩:=st;exact⟨o,e,fun v z=>by rw[d] at z;cases z⟩
 keep:=fun i h h' st k=>st.at fun o e=>k it (by simp) o e
 item:=by
  intro X hP hw hK hc i aa s σ H E I hf st hg;subst hP hw hK;obtain⟨xs,x,hq,hx⟩:=hg;obtain⟨its,rv,p,hz⟩:=I.tuple hq;obtain⟨u,hu,ru⟩:=rv.get hx;obtain⟨f0,f1,f2,f3,f4,f5⟩:=hf it (by simp);refine wpAny_pyNext_tuple_item st (show s.heap.IsTuple a its.toArray from p) (x:=u) (by simpa using hu) fun h' st' sb=> ?_;have I1:cM X aa σ H {s with heap:=h'}:=I.turned (t':=s.toks) (fun b o hb e=>(sb.2 b hb).trans e) f0 f1 f3 f4 f5;obtain⟨o,e,c,d⟩:=id st';exact⟨u,rfl,zAN (s:={s with heap:=h'}) e c d (by decide) ⟨x,H,I1,ru,⟨rfl,fun ys hy=>by rw[I.tuple_inj hy hq];exact hx⟩,st',fun b hb=>(hf b hb).1⟩⟩
 done:=by
  intro X hP hw hK hc i aa s σ H E I hf st hg;subst hP hw hK;obtain⟨xs,hq,hx⟩:=hg;obtain⟨its,rv,p,hz⟩:=I.tuple hq;obtain⟨f0,f1,f2,f3,f4,f5⟩:=hf it (by simp);have hl:=rv.length;exact wpAny_pyNext_tuple_end (I.ok.hd hc) st (show s.heap.IsTuple a its.toArray from p) (by simp;lia) fun h' eb=>⟨rfl,I.turned (t':=s.toks) (fun b o hb e=>eb b o hb e) f0 f1 f3 f4 f5⟩
 self:=fun _ _ _ _ _ st h=>wpAny_pyIter_tupleiter st h
theorem HZ{P:Ax}{w:World}{K:PySem.W.Frag}{tg:Expr}(it:Addr)(lo:Int)(n:Nat):GK P w K tg (Itr lo n) [it] it (fun i h=>IsRangeIter h it (lo+(i:Nat)*1) ((n:Int) - (i:Nat)) 1) where
 mem:=by simp
 obj:=fun i h st b hb=>by
  have e:b=it:=by simpa using hb
  subst e;exact⟨_,st,fun v z=>by
   have z':Data.fields _=Data.cell v:=z;cases z'⟩
 keep:=fun i h h' st k=>k it (by simp) _ st
 item:=by
  intro X hP hw hK hc i aa s σ H E I hf st hg;subst hP hw hK;obtain⟨f0,f1,f2,f3,f4,f5⟩:=hf it (by simp);have W:=Walks.range (prog:=X.prog) (w:=X.w) (I.ok.hd hc) it lo 1 n;refine W.item i s _ _ hg st fun v h' tk hv st' kk=> ?_;obtain⟨t,rfl⟩:=hv;have I1:cM X aa σ H {s with heap:=h',toks:=tk}:=I.turned (fun b o hb e=>kk b o (by simpa using hb) e) f0 f1 f3 f4 f5;refine⟨_,rfl,zAN (s:={s with heap:=h',toks:=tk}) (n:= "range_iterator") st' rfl rfl (by decide) ⟨.int (lo+i),H,I1,⟨t,?_⟩,⟨rfl,rfl⟩,st',fun b hb=>(hf b hb).1⟩⟩;rw[Int.mul_one]
 done:=by
  intro X hP hw hK hc i aa s σ H E I hf st hg;subst hP hw hK;obtain⟨f0,f1,f2,f3,f4,f5⟩:=hf it (by simp);exact wpAny_pyNext_range_end (I.ok.hd hc) st (by have:n<=i:=hg;lia) fun h' eb=>⟨rfl,I.turned (t':=s.toks) (fun b o hb e=>eb b o hb e) f0 f1 f3 f4 f5⟩
 self:=fun _ _ _ _ _ st h=>wpAny_pyIter_rangeiter st h
section
variable{X:Cx}{tg:Expr}
def zDW(K:Ai)(tl:TE):TI:=fun σ H R=>tl σ H fun x H1=> ∃a,x= .ref a/\(∃xs,XZ K H1 a xs)/\R (Itl K a) H1
def iTup(K:Ai)(tl:TE):TI:=fun σ H R=>tl σ H fun x H1=> ∃a,x= .ref a/\(∃xs,VC K H1 a xs)/\R (Itt K a) H1
theorem zC1{l:Expr}{tl:TE}(hl:PE X l tl):PI X tg l (zDW X.K tl):=by
 intro aa s σ H R I h;refine ZX (hl aa s σ H _ I h) fun v s1 ⟨x,H1,I1,r1,q1⟩=> ?_;obtain⟨a,e,⟨xs,hq⟩,q⟩:=q1;subst e;cases r1;obtain⟨its,rv,p,hz⟩:=I1.list hq;refine Fk p.isList ?_;refine⟨s1.heap.objs.size,[s1.heap.objs.size],_,_,H1,rfl,I1.kept (t':=s1.toks) fun b o e=>Ad _ e,ET a _,⟨_,At _ rfl,rfl,rfl⟩,fun b hb=> ?_,q⟩;have e:b=s1.heap.objs.size:=by simpa using hb
 subst e;exact I1.fpOk (Au _) (I1.hok.fresh (Au _))
theorem zFE{l:Expr}{tl:TE}(hl:PE X l tl):PI X tg l (iTup X.K tl):=by
 intro aa s σ H R I h;refine ZX (hl aa s σ H _ I h) fun v s1 ⟨x,H1,I1,r1,q1⟩=> ?_;obtain⟨a,e,⟨xs,hq⟩,q⟩:=q1;subst e;cases r1;obtain⟨its,rv,p,hz⟩:=I1.tuple hq;refine Fy (show s1.heap.IsTuple a its.toArray from p) ?_;refine⟨s1.heap.objs.size,[s1.heap.objs.size],_,_,H1,rfl,I1.kept (t':=s1.toks) fun b o e=>Ad _ e,IA a _,⟨_,At _ rfl,rfl,rfl⟩,fun b hb=> ?_,q⟩;have e:b=s1.heap.objs.size:=by simpa using hb
 subst e;exact I1.fpOk (Au _) (I1.hok.fresh (Au _))
theorem A9{aa:List (Addr×Obj)}{σ:St}{H:Hp}{s:Ag}{R:It->Hp->Prop}{E:Value->Ag->Prop}{lo hi:Int}{t u v:Tok}{tk:Nat}(I:cM X aa σ H s)(h1: -(2 ^ 62)<=lo)(h2:lo<2 ^ 62)(h3: -(2 ^ 62)<=hi)(h4:hi<2 ^ 62)
  (q:R (Itr lo (hi - lo).toNat) H):wpAny (model X.prog X.w) X.A (pyIter (.ref s.heap.objs.size)) (PIE X aa σ tg R) E {s with heap:=s.heap.push {cls:= .type "range",data:= .fields #[.int lo t,.int hi u,.int 1 v]},toks:=tk}:=by
 refine wpAny_pyIter_range (Oh ..) (small_one h1 h2 h3 h4) ?_;have I1:cM X aa σ H {s with heap:=s.heap.push {cls:= .type "range",data:= .fields #[.int lo t,.int hi u,.int 1 v]},toks:=tk}:=I.kept fun b o e=>Ad _ e;refine⟨(s.heap.push {cls:= .type "range",data:= .fields #[.int lo t,.int hi u,.int 1 v]}).objs.size,[(s.heap.push {cls:= .type "range",data:= .fields #[.int lo t,.int hi u,.int 1 v]}).objs.size],_,_,H,rfl,
  I1.kept (t':=tk) fun b o e=>Ad _ e,HZ _ lo (hi - lo).toNat,?_,fun b hb=> ?_,q⟩
 ·have e1 : lo + ((0 : Nat) : Int) * 1 = lo := by simp
  have e2:(((hi - lo).toNat:Nat):Int) - ((0:Nat):Int)=Fd lo hi 1:=by rw[rangeSize_one];split<;>lia
  show IsRangeIter _ _ (lo+((0:Nat):Int)*1) ((((hi - lo).toNat:Nat):Int) - ((0:Nat):Int)) 1;rw[e1,e2];exact At _ rfl
 ·have e : b = (s.heap.push { cls := .type "range",data := .fields #[.int lo t,.int hi u,.int 1 v] }).objs.size := by simpa using hb
  subst e;exact I1.fpOk (Au _) (I1.hok.fresh (Au _))
def zK0(ta:TA):TI:=fun σ H R=>ta σ H fun vs H1=> ∃j:Int,vs=[.int j]/\ -(2 ^ 62)<=j/\j<2 ^ 62/\R (Itr 0 j.toNat) H1
theorem EE{a:Expr}{ta:TA}{p pos:Pos}(hg:Gl X "range") (hm:X.mg "range"=none) (ha:PA X [a] ta) (hs:Ae [a] X.env=[(false,eval a X.env)]:=by rfl):PI X tg (.Call (.Name "range" p) [a] [] pos) (zK0 ta):=by
 intro aa s σ H R I h;refine Call_ (QX I hg hm boot_range (Ec (ZX (ha pos aa s σ H _ I h) fun us s1 ⟨vs,H1,I1,r1,q1⟩=> ?_) hs rfl));obtain⟨j,e,q1,q2,q⟩:=q1;subst e;cases r1 with
 |cons r rr=>
  cases rr;obtain⟨t,rfl⟩:=r;exact call_range_1 (A9 I1 (by lia) (by lia) q1 q2 (by simpa using q))
def tFor(wi:TI)(g:TG)(tb:TS):TS:=fun D σ H=>wi σ H fun J H1=> ∃W:Nat->Nat->St->Hp->Prop,(∃m,W 0 m σ H1)/\ ∀i m σ H,W i m σ H→
 (J.stop i H/\D.nx σ H)∨(J.go i H/\ ∃N:St->Hp->Prop,(∀σ' H',N σ' H'-> ∃m',m'<m/\W (i+1) m' σ' H')/\ ∀x H',J.yld i H x H'->g x σ H' fun σ2 H2=>tb {D with nx:=N,ct:=N,bk:=D.nx} σ2 H2)
noncomputable def OP(fp:List Addr)(h:Heap):List (Addr×Obj):=fp.filterMap fun b=>(h.get? b).map fun o=>(b,o)
theorem V7{fp:List Addr}{h:Heap}{b:Addr}{o:Obj}(hb:b∈fp)(e:h.get? b=some o):(b,o)∈OP fp h:=Kv.mpr ⟨b,hb,by rw[e];rfl⟩
theorem EC{fp:List Addr}{h:Heap}{p:Addr×Obj}(hp:p∈OP fp h):p.1∈fp/\h.get? p.1=some p.2:=by
 obtain⟨b,hb,e⟩:=Kv.mp hp;cases q:h.get? b with
 |none=>rw[q] at e;cases e
 |some o=>
  rw[q] at e;have e':(b,o)=p:=Bt e;subst e';exact⟨hb,q⟩
theorem cM.pinned{aa:List (Addr×Obj)}{σ:St}{H:Hp}{s:Ag}{fp:List Addr}(I:cM X aa σ H s)(hf: ∀b∈fp,NI X aa H b)(ho: ∀b∈fp,∃o,s.heap.get? b=some o/\ ∀v,o.data≠ .cell v):cM X (aa++OP fp s.heap) σ H s:=
 I.pins_of fun p hp=>(Cn.mp hp).elim (fun z=>I.pin p (Bn _ z)) fun z=>by
  obtain⟨hb,e⟩:=EC z;obtain⟨f0,f1,f2,_⟩:=hf p.1 hb;obtain⟨o,e',d⟩:=ho p.1 hb;rw[e] at e';cases e';exact⟨e,f0,f1,f2,d⟩
theorem cM.unpinned{aa pl:List (Addr×Obj)}{σ:St}{H:Hp}{s:Ag}(I:cM X (aa++pl) σ H s):cM X aa σ H s:=I.pins_of fun p hp=>I.pin p (Bn _ (Bv _ hp))
theorem zFC{iter:Expr}{body:List Stmt}{wi:TI}{g:TG}{tb:TS}{pos:Pos}(hp:PassesOwn (model X.prog X.w) X.A X.env X.xe)(hc:X.calm=true)(hi:PI X tg iter wi)(hg:PG X tg g)(hb:QJ X body tb)
  (hs: ∀x,foldedSetIterable iter X.env x=pure x:=by intro _;rfl):PS X (.For tg iter body [] pos) (tFor wi g tb):=by
 intro aa s σ H D I h;refine wpAny_For (ZX (hi aa s σ H _ I h) fun v s1 h1=>ZX h1 fun itv s2 h2=> ?_) hs;obtain⟨it,fp,tn,J,H2,e,I2,T,st2,f2,W,⟨m0,w0⟩,turn⟩:=h2;subst e;have stat: ∀{H':Hp},(∀b∈fp,H' b=none)-> ∀b∈fp,NI X aa H' b:=fun hn b hb=>⟨hn b hb,(f2 b hb).2⟩;refine codeAny_forLoop_any (fun n s'=> ∃i σ' H',cM X aa σ' H' s'/\tn i s'.heap/\(∀b∈fp,H' b=none)/\W i n σ' H') ?_ m0 ⟨0,σ,H2,I2,st2,fun b hb=>(f2 b hb).1,w0⟩;rintro n s3 ⟨i,σ3,H3,I3,st3,fr3,w3⟩;rcases turn i n σ3 H3 w3 with⟨stop,qn⟩|⟨go,N,hN,step⟩
 ·refine Fz hp (ZX (T.done X rfl rfl rfl hc i aa s3 σ3 H3 X.xe I3 (stat fr3) st3 stop) fun r s4 ⟨hr,I4⟩ => ?_)
  subst hr;exact Jm ⟨σ3,H3,I4,qn⟩
 ·refine Fz hp (ZX (T.item X rfl rfl rfl hc i aa s3 σ3 H3 X.xe I3 (stat fr3) st3 go) fun r s4 ⟨u,hr,h4⟩ => ?_)
  subst hr;refine Fz hp (ZX h4 fun _ s5 ⟨x,H5,I5,r5,y5,st5,fr5⟩=> ?_);have I5':=I5.pinned (stat fr5) (T.obj _ _ st5);refine Fz hp (ZX (hg _ s5 σ3 H5 x u _ I5' r5 (step x H5 y5)) fun _ s6 ⟨σ6,H6,I6,q6⟩=> ?_);refine Fz hp (ZX (hb _ s6 σ6 H6 _ I6 q6) fun f s7 q7=> ?_);have UM: ∀{σ7:St} {H7:Hp},cM X (aa++OP fp s5.heap) σ7 H7 s7->N σ7 H7-> ∃m,m<n/\ ∃i σ' H',cM X aa σ' H' s7/\tn i s7.heap/\(∀b∈fp,H' b=none)/\W i m σ' H':=fun{σ7 H7} I7 n7=>by
   obtain⟨m',hm,w7⟩:=hN σ7 H7 n7;refine⟨m',hm,i+1,σ7,H7,I7.unpinned,T.keep _ _ _ st5 fun b hb o e=>(I7.pin (b,o) (Bn _ (Bn _ (V7 hb e)))).1,fun b hb=> ?_,w7⟩;obtain⟨o,e,d⟩:=T.obj _ _ st5 b hb;exact(I7.pin (b,o) (Bn _ (Bn _ (V7 hb e)))).2.1
  cases f with
  |next=>obtain⟨σ7,H7,I7,n7⟩:=q7;exact UM I7 n7
  |cont=>obtain⟨σ7,H7,I7,n7⟩:=q7;exact UM I7 n7
  |brk=>obtain⟨σ7,H7,I7,q7⟩:=q7;exact⟨σ7,H7,I7.unpinned,q7⟩
  |ret v=>obtain⟨x7,σ7,H7,I7,r7,q7⟩:=q7;exact⟨x7,σ7,H7,I7.unpinned,r7,q7⟩
end
abbrev R2:=V->V->Hp->VK->Prop
def XS(X:Cx)(f:Value->Value->Sem Value)(r:R2):Prop:=
 ∀(aa:List (Addr×Obj)) (s:Ag) (σ:St) (H:Hp) (x y:V) (v u:Value) (Q:VK),cM X aa σ H s->b6 x v->b6 y u->r x y H Q→
  wpAny (model X.prog X.w) X.A (f v u) (EP X aa σ Q) X.xe s
def UnR(X:Cx)(f:Value->Sem Value)(r:V->Hp->VK->Prop):Prop:=
 ∀(aa:List (Addr×Obj)) (s:Ag) (σ:St) (H:Hp) (x:V) (v:Value) (Q:VK),cM X aa σ H s->b6 x v->r x H Q→
  wpAny (model X.prog X.w) X.A (f v) (EP X aa σ Q) X.xe s
def aW(X:Cx)(f:Value)(r:List V->Hp->VK->Prop):Prop:=
 ∀(aa:List (Addr×Obj)) (s:Ag) (σ:St) (H:Hp) (xs:List V) (us:List Value) (Q:VK),cM X aa σ H s->bT xs us->r xs H Q→
  wpAny (model X.prog X.w) X.A (call f us) (EP X aa σ Q) X.xe s
def tOp(r:R2)(ta tb:TE):TE:=fun σ H Q=>ta σ H fun x H1=>tb σ H1 fun y H2=>r x y H2 Q
def tUn(r:V->Hp->VK->Prop)(ta:TE):TE:=fun σ H Q=>ta σ H fun x H1=>r x H1 Q
def rI(C:Int->Int->Prop)(g:Int->Int->V):R2:=fun x y H Q=> ∃i j,x= .int i/\y= .int j/\C i j/\Q (g i j) H
def HN(g:Int->Int->V):R2:=fun x y H Q=> ∃i j,x= .int i/\y= .int j/\Q (g i j) H
def rU(g:Int->V):V->Hp->VK->Prop:=fun x H Q=> ∃i,x= .int i/\Q (g i) H
section
variable{X:Cx}{a b c:Expr}{ta tb tc:TE}{pos:Pos}
theorem binT(ha:PE X a ta)(hb:PE X b tb){aa:List (Addr×Obj)}{s:Ag}{σ:St}{H:Hp}{R:V->V->Hp->Prop}(I:cM X aa σ H s)
  (h:ta σ H fun x H1=>tb σ H1 fun y H2=>R x y H2) {Q:Value->Ag->Prop} {f:Value->Value->Sem Value}
  (hf: ∀v u s2 x y H2,cM X aa σ H2 s2->b6 x v->b6 y u->R x y H2->wpAny (model X.prog X.w) X.A (f v u) Q X.xe s2):
  wpAny (model X.prog X.w) X.A (eval a X.env) (fun v s₁=>wpAny (model X.prog X.w) X.A (eval b X.env) (fun u s₂=>wpAny (model X.prog X.w) X.A (f v u) Q X.xe s₂) X.xe s₁) X.xe s:=by
 refine ZX (ha aa s σ H _ I h) fun v s1 ⟨x,H1,I1,r1,q1⟩=> ?_;refine ZX (hb aa s1 σ H1 _ I1 q1) fun u s2 ⟨y,H2,I2,r2,q2⟩=> ?_;exact hf v u s2 x y H2 I2 r1 r2 q2
theorem zDP{op:Operator}{r:R2}(ho:XS X (Et op) r)(ha:PE X a ta)(hb:PE X b tb):PE X (.BinOp a op b pos) (tOp r ta tb):=by
 intro aa s σ H Q I h;exact wpAny_BinOp (binT ha hb I h fun v u s2 x y H2 I2 rx ry q=>ho aa s2 σ H2 x y v u Q I2 rx ry q)
theorem zJ4{op:UnaryOp}{r:V->Hp->VK->Prop}(ho:UnR X (unaryOp op) r)(ha:PE X a ta):PE X (.UnaryOp op a pos) (tUn r ta):=by
 intro aa s σ H Q I h;exact UnaryOp_ (ZX (ha aa s σ H _ I h) fun v s1 ⟨x,H1,I1,r1,q1⟩=>ho aa s1 σ H1 x v Q I1 r1 q1)
theorem opI{f:Value->Value->Sem Value}{C:Int->Int->Prop}{g:Int->Int->Int}
  (rule: ∀(i j:Int) (t u:Tok) (s:Ag) (Q:Value->Ag->Prop) (E:Value->Ag->Prop),C i j->Q (.int (g i j) s.toks) {s with toks:=s.toks+1}->wpAny (model X.prog X.w) X.A (f (.int i t) (.int j u)) Q E s):
  XS X f (rI C fun i j=> .int (g i j)):=by
 intro aa s σ H x y v u Q I rx ry h;obtain⟨i,j,rfl,rfl,hc,q⟩:=h;obtain⟨t,rfl⟩:=rx;obtain⟨t',rfl⟩:=ry;exact rule i j t t' s _ _ hc ⟨.int (g i j),H,I.tok _,⟨_,rfl⟩,q⟩
theorem opI0{f:Value->Value->Sem Value}{g:Int->Int->Int}
  (rule: ∀(i j:Int) (t u:Tok) (s:Ag) (Q:Value->Ag->Prop) (E:Value->Ag->Prop),Q (.int (g i j) s.toks) {s with toks:=s.toks+1}->wpAny (model X.prog X.w) X.A (f (.int i t) (.int j u)) Q E s):
  XS X f (HN fun i j=> .int (g i j)):=by
 intro aa s σ H x y v u Q I rx ry h;obtain⟨i,j,rfl,rfl,q⟩:=h;obtain⟨t,rfl⟩:=rx;obtain⟨t',rfl⟩:=ry;exact rule i j t t' s _ _ ⟨.int (g i j),H,I.tok _,⟨_,rfl⟩,q⟩
theorem opB0{f:Value->Value->Sem Value}{g:Int->Int->Bool}
  (rule: ∀(i j:Int) (t u:Tok) (s:Ag) (Q:Value->Ag->Prop) (E:Value->Ag->Prop),Q (.bool (g i j)) s->wpAny (model X.prog X.w) X.A (f (.int i t) (.int j u)) Q E s):
  XS X f (HN fun i j=> .bl (g i j)):=by
 intro aa s σ H x y v u Q I rx ry h;obtain⟨i,j,rfl,rfl,q⟩:=h;obtain⟨t,rfl⟩:=rx;obtain⟨t',rfl⟩:=ry;exact rule i j t t' s _ _ ⟨.bl (g i j),H,I,rfl,q⟩
def CDiv(i j:Int):Prop:=0<j/\j<1073741824
def CPow(i j:Int):Prop:=0<=j/\j<=1000000/\i.natAbs<2 ^ 64
def CW(i j:Int):Prop:=(-(2 ^ 64)<i/\i<2 ^ 64)∨(-(2 ^ 64)<j/\j<2 ^ 64)
theorem CW.ok{i j:Int}(h:CW i j):IntMulOk i j:=by
 rcases h with⟨h1,h2⟩|⟨h1,h2⟩
 ·exact .of_left (intBits_le_64 h1 h2)
 ·exact .of_right (intBits_le_64 h1 h2)
theorem zFS:XS X (Et .Add) (HN fun i j=> .int (i+j)):=opI0 fun _ _ _ _ _ _ _ q=>add_int q
theorem U1:XS X (Et .Sub) (HN fun i j=> .int (i - j)):=opI0 fun _ _ _ _ _ _ _ q=>sub_int q
theorem zFQ:XS X (Et .Mult) (rI CW fun i j=> .int (i*j)):=opI fun _ _ _ _ _ _ _ hc q=>mul_int q hc.ok
theorem PM:XS X (Et .FloorDiv) (rI CDiv fun i j=> .int (i/j)):=opI fun i j _ _ _ _ _ hc q=>by
 have h1:(0:Int)<j:=hc.1;have h2:j<1073741824:=hc.2;exact floordiv_int (by lia) (by rw[Int.fdiv_eq_ediv_of_nonneg i (by lia)];exact q) (.inl (Jg (by lia)))
theorem WA:XS X (Et .Mod) (rI (fun _ j=>0<j) fun i j=> .int (i % j)):=opI fun i j _ _ _ _ _ hc q=>by
 have h1:(0:Int)<j:=hc;exact mod_int' (by lia) (by rw[Int.fmod_eq_emod_of_nonneg i (by lia)];exact q)
theorem zFO:XS X (Et .Pow) (rI CPow fun i j=> .int (i ^ j.toNat)):=opI fun _ _ _ _ _ _ _ hc q=>pow_int_small hc.1 hc.2.1 hc.2.2 q
theorem unI{f:Value->Sem Value}{g:Int->Int}
  (rule: ∀(i:Int) (t:Tok) (s:Ag) (Q:Value->Ag->Prop) (E:Value->Ag->Prop),Q (.int (g i) s.toks) {s with toks:=s.toks+1}->wpAny (model X.prog X.w) X.A (f (.int i t)) Q E s):
  UnR X f (rU fun i=> .int (g i)):=by
 intro aa s σ H x v Q I rx h;obtain⟨i,rfl,q⟩:=h;obtain⟨t,rfl⟩:=rx;exact rule i t s _ _ ⟨.int (g i),H,I.tok _,⟨_,rfl⟩,q⟩
theorem zEB:UnR X (unaryOp .USub) (rU fun i=> .int (-i)):=unI fun _ _ _ _ _ q=>neg_int q
end
section
variable{X:Cx}{a b c:Expr}{ta tb tc:TE}{pos:Pos}
theorem LD{aa:List (Addr×Obj)}{σ:St}{H:Hp}{s:Ag}{Q:VK}{k k':Bool}(I:cM X aa σ H s)(q:Q (.bl k) H)(e:k=k'):EP X aa σ Q (.bool k') s:=by
 subst e;exact⟨.bl k,H,I,rfl,q⟩
theorem zDQ:XS X (Cg .Lt) (HN fun i j=> .bl (decide (i<j))):=opB0 fun _ _ _ _ _ _ _ q=>lt_int q
theorem FR:XS X (Cg .LtE) (HN fun i j=> .bl (decide (i<=j))):=opB0 fun _ _ _ _ _ _ _ q=>le_int q
theorem FQ:XS X (Cg .Gt) (HN fun i j=> .bl (decide (j<i))):=opB0 fun _ _ _ _ _ _ _ q=>gt_int q
theorem zDR:XS X (Cg .GtE) (HN fun i j=> .bl (decide (j<=i))):=opB0 fun _ _ _ _ _ _ _ q=>ge_int q
theorem U0:XS X (Cg .Is) (fun x y H Q=>y= .non/\Q (.bl (decide (x= .non))) H):=by
 intro aa s σ H x y v u Q I rx ry h;obtain⟨rfl,q⟩:=h;cases ry;refine is_none_gen (LD I q ?_);cases x<;>first
  |(cases rx;rfl)
  |(obtain⟨t,rfl⟩:=rx;rfl)
theorem UF:XS X (Cg .IsNot) (fun x y H Q=>y= .non/\Q (.bl (!decide (x= .non))) H):=by
 intro aa s σ H x y v u Q I rx ry h;obtain⟨rfl,q⟩:=h;cases ry;refine isnot_none_gen (LD I q ?_);cases x<;>first
  |(cases rx;rfl)
  |(obtain⟨t,rfl⟩:=rx;rfl)
theorem XS.or{f:Value->Value->Sem Value}{r r':R2}(h:XS X f r)(h':XS X f r'):XS X f (fun x y H Q=>r x y H Q∨r' x y H Q):=by
 intro aa s σ H x y v u Q I rx ry q;rcases q with q|q
 ·exact h aa s σ H x y v u Q I rx ry q
 ·exact h' aa s σ H x y v u Q I rx ry q
theorem bS(b:Expr){op:CmpOp}(h:op≠ .In:=by decide)(h2:op≠ .NotIn:=by decide):Ga op b=false:=by
 have e1:(op==CmpOp.In)=false:=by cases op<;>first|rfl|exact absurd rfl h
 have e2:(op==CmpOp.NotIn)=false:=by cases op<;>first|rfl|exact absurd rfl h2
 cases b<;>simp[Ga,e1,e2]
theorem zC9{op:CmpOp}{r:R2}(ho:XS X (Cg op) r)(ha:PE X a ta)(hb:PE X b tb)(hm:Ga op b=false):PE X (.Compare a [op] [b] pos) (tOp r ta tb):=by
 intro aa s σ H Q I h;exact wpAny_Compare1 (binT ha hb I h fun v u s2 x y H2 I2 rx ry q=>ho aa s2 σ H2 x y v u Q I2 rx ry q) hm
def zDD(t:TE):TT:=fun σ H Q=>t σ H fun x H'=> ∃k,x= .bl k/\Q k H'
theorem zBT{op:CmpOp}{r:R2}(ho:XS X (Cg op) r)(ha:PE X a ta)(hb:PE X b tb)(hm:Ga op b=false):PT X (.Compare a [op] [b] pos) (zDD (tOp r ta tb)):=by
 intro aa s σ H Q I h;refine wpAny_isTrue_Compare1 (ZX (ha aa s σ H _ I h) fun v s1 ⟨x,H1,I1,r1,q1⟩=>ZX (hb aa s1 σ H1 _ I1 q1) fun u s2 ⟨y,H2,I2,r2,q2⟩=>
  ZX (ho aa s2 σ H2 x y v u _ I2 r1 r2 q2) fun c s3 ⟨z,H3,I3,r3,k,e,q3⟩=> ?_) hm
 subst e;cases r3;exact Eb ⟨H3,I3,q3⟩
def HY(r r':R2)(ta tb tc:TE):TE:=fun σ H Q=>ta σ H fun x H1=>tb σ H1 fun y H2=>r x y H2 fun z H3=> ∃k,z= .bl k∧
 (if k=true then tc σ H3 fun w' H4=>r' y w' H4 Q else Q (.bl false) H3)
theorem AA{op op':CmpOp}{r r':R2}(ho:XS X (Cg op) r)(ho':XS X (Cg op') r')(ha:PE X a ta)(hb:PE X b tb)(hc:PE X c tc)
  (hm:Ms [op,op'] [b,c]=false:=by with_unfolding_all rfl):PE X (.Compare a [op,op'] [b,c] pos) (HY r r' ta tb tc):=by
 intro aa s σ H Q I h;refine Compare_chain (ZX (ha aa s σ H _ I h) fun v s1 ⟨x,H1,I1,r1,q1⟩=>chain_link (ZX (hb aa s1 σ H1 _ I1 q1) fun u s2 ⟨y,H2,I2,r2,q2⟩=>
  ZX (ho aa s2 σ H2 x y v u _ I2 r1 r2 q2) fun d s3 ⟨z,H3,I3,r3,k,e,q3⟩=> ?_)) hm
 subst e;cases r3;refine Eb ?_;cases k with
 |false=>exact ite_ff ⟨.bl false,H3,I3,rfl,q3⟩
 |true=>exact ite_tt (chain_last (ZX (hc aa s3 σ H3 _ I3 q3) fun w' s4 ⟨z',H4,I4,r4,q4⟩=>ho' aa s4 σ H4 y z' u w' Q I4 r2 r4 q4))
theorem AU{op op':CmpOp}{r r':R2}(ho:XS X (Cg op) r)(ho':XS X (Cg op') r')(ha:PE X a ta)(hb:PE X b tb)(hc:PE X c tc)
  (hm:Ms [op,op'] [b,c]=false:=by with_unfolding_all rfl):PT X (.Compare a [op,op'] [b,c] pos) (zDD (HY r r' ta tb tc)):=by
 intro aa s σ H Q I h;refine isTrue_chain (ZX (ha aa s σ H _ I h) fun v s1 ⟨x,H1,I1,r1,q1⟩=>test_link (ZX (hb aa s1 σ H1 _ I1 q1) fun u s2 ⟨y,H2,I2,r2,q2⟩=>
  ZX (ho aa s2 σ H2 x y v u _ I2 r1 r2 q2) fun d s3 ⟨z,H3,I3,r3,k,e,q3⟩=> ?_)) hm
 subst e;cases r3;refine Eb ?_;cases k with
 |false=>
  obtain⟨k',e',q'⟩:=q3;cases e';exact ite_ff ⟨H3,I3,q'⟩
 |true=>
  refine ite_tt (test_last (ZX (hc aa s3 σ H3 _ I3 q3) fun w' s4 ⟨z',H4,I4,r4,q4⟩=>ZX (ho' aa s4 σ H4 y z' u w' _ I4 r2 r4 q4) fun d' s5 ⟨z2,H5,I5,r5,k2,e2,q5⟩=> ?_));subst e2;cases r5;exact Eb ⟨H5,I5,q5⟩
theorem QY:(sizeLine:Nat)<2 ^ 63:=by rw[Cb];decide
theorem HH:XS X (Et .Add) (fun x y H Q=> ∃i j,x= .str i/\y= .str j/\i.length+j.length<=sizeLine/\Q (.str (i++j)) H):=by
 intro aa s σ H x y v u Q I rx ry h;obtain⟨i,j,rfl,rfl,hz,q⟩:=h;obtain⟨t,rfl⟩:=rx;obtain⟨t',rfl⟩:=ry;exact add_str (fun t' tk=>⟨.str (i++j),H,I.tok _,⟨_,rfl⟩,q⟩) hz
theorem TM{x:V}{us:List Value}(r:bT [x] us): ∃u,us=[u]/\b6 x u:=by
 cases r with
 |cons r1 r2=>cases r2;exact⟨_,rfl,r1⟩
theorem F4{x y:V}{us:List Value}(r:bT [x,y] us): ∃u w',us=[u,w']/\b6 x u/\b6 y w':=by
 cases r with
 |cons r1 r2=>
  cases r2 with
  |cons r3 r4=>cases r4;exact⟨_,_,rfl,r1,r3⟩
theorem MN(hc:X.calm=true):aW X (.builtin "max") (fun xs H Q=> ∃i j,xs=[.int i,.int j]/\Q (.int (if j>i then j else i)) H):=by
 intro aa s σ H xs us Q I r h;obtain⟨i,j,rfl,q⟩:=h;obtain⟨u,w',rfl,⟨t,rfl⟩,⟨t',rfl⟩⟩:=F4 r;refine max_two_ints (I.ok.hd hc) fun h' tk k=>⟨_,H,I.kept k,?_,q⟩;by_cases hj:j>i
 ·rw[if_pos hj,if_pos hj];exact⟨_,rfl⟩
 ·rw[if_neg hj,if_neg hj];exact⟨_,rfl⟩
theorem MO(hc:X.calm=true):aW X (.builtin "min") (fun xs H Q=> ∃i j,xs=[.int i,.int j]/\Q (.int (if j<i then j else i)) H):=by
 intro aa s σ H xs us Q I r h;obtain⟨i,j,rfl,q⟩:=h;obtain⟨u,w',rfl,⟨t,rfl⟩,⟨t',rfl⟩⟩:=F4 r;refine min_two_ints (I.ok.hd hc) fun h' tk k=>⟨_,H,I.kept k,?_,q⟩;by_cases hj:j<i
 ·rw[if_pos hj,if_pos hj];exact⟨_,rfl⟩
 ·rw[if_neg hj,if_neg hj];exact⟨_,rfl⟩
end
structure IJ(h:Heap)(x dx C:Addr)(mA:Str->Option Value):Prop where
 obj:h.get? x=some (Gr C dx)
 ns:h.Ns1 dx mA
 ne:dx≠x
theorem D8{h:Heap}{dx:Addr}{mA:Str->Option Value}(n:h.Ns1 dx mA): ∃od,h.get? dx=some od/\ ∀name,Nu name od=some (mA name):=by
 obtain⟨o,es,ep,ho,hd,hk,_,hm⟩:=n;refine⟨o,ho,fun name=> ?_⟩;have e:=hm name;unfold nsFind findBy at e;rw[<- Array.find?_toList] at e;unfold Nu;rw[hd];dsimp only;split
 ·rename_i y q
  rw[q] at e;exact congrArg some e
 ·rename_i q
  rw[q] at e;have a:es.toList.any (·.refKey)=false:=by
   rw[List.any_eq_false];intro y hy;obtain⟨z,t,pf⟩:=hk y (Array.mem_toList_iff.mp hy);simp[DictEntry.refKey,pf]
  have a': ¬es.toList.any (·.refKey)=true:=by rw[a];exact Du
  rw[if_neg a'];exact congrArg some e
theorem IJ.look{h:Heap}{x dx C:Addr}{mA:Str->Option Value}(I:IJ h x dx C mA): ∃od,W.InstAt h x (Gr C dx) C (some od)/\ ∀name,Nu name od=some (mA name):=
 let ⟨od,ho,hl⟩:=D8 I.ns
 ⟨od,⟨I.obj,rfl,rfl,ho⟩,hl⟩
section
variable{prog:Ax}{w:World}{A:Cm}{E:Value->Ag->Prop}{s:Ag}{K:Ai}{x dx C f:Addr}{mA:Str->Option Value}{name:Str}{v:Value}
theorem zCV{pw:Bool}{Q:Value->Ag->Prop}(X:K.In s.heap)(I:IJ s.heap x dx C mA)(hg:Lj K C name=true)(hh:Mt K C=true)
  (ha:Gq K (.ref C) name=some none) (hv:mA name=some v) (hv':W.handedIn v=true) (h:Q v {s with toks:=s.toks+1}):
  wpAny (model prog w) A (getAttr (.ref x) name pw) Q E s:=by
 obtain⟨od,J,hl⟩:=I.look;exact W.get_value X J (Kw hg).1 (W.findObj_own hh ha rfl (by rw[hl,hv])) hv' h
theorem zAO{pl:Sem Bool}{Q:Value×List Value->Ag->Prop}(X:K.In s.heap)(I:IJ s.heap x dx C mA)(hg:Lj K C name=true)
  (hf:Gq K (.ref C) name=some (some (.ref f))) (ht:W.isFn K (.ref f)=true) (hv:mA name=none) (h:Q (.ref f,[.ref x]) s):
  wpAny (model prog w) A (Kx (.ref x) name pl) Q E s:=by
 obtain⟨od,J,hl⟩:=I.look;exact W.method_fn X J (Kw hg).1 (Kw hg).2 hf (beq_iff_eq.mp ht) (by show(Nu name od).map (·.isSome)=some false;rw[hl,hv];rfl) h
theorem zBN{ns:List Str}{Q:Unit->Ag->Prop}(X:K.In s.heap)(I:IJ s.heap x dx C mA)
  (hs:Gq K (.ref C) "__setattr__"=some (some (.builtin "object.__setattr__"))) (hp:W.plainOver K C=true) (ht:Oa K C name=some none) (hh:Mt K C=true)
  (hw:Ht mA ns) (hsz:ns.length<=sizeLine)
  (h: ∀h',IJ h' x dx C (fun y=>if y=name then some v else mA y)->Ek dx s.heap h'->Q () {s with heap:=h',toks:=s.toks+2}):
  wpAny (model prog w) A (setAttr (.ref x) name v) Q E s:=by
 obtain⟨od,J,hl⟩:=I.look;refine W.set_plain X J hs (W.osa_open (s:={s with toks:=s.toks+1}) (r:=none) X J hp ht fun b=> ?_);obtain⟨cd,hc,hd'⟩:=W.any_some hh;have hx:s.heap.get? x=some ⟨.ref C,some dx,.plain,#[]⟩:=I.obj;refine Ac (As (Ac (Ac (wpAny_loadPart hx (Ac (W.Looks.here (s:={s with toks:=s.toks+1}) (W.looks_clsIn X hc) ?_))))));rw[hd'];refine As (a:=some dx) (Ac (As (Ac ?_)));refine wpAny_nsSet1 (s:={s with toks:=s.toks+1}) I.ns fun h' hn2 hs2=> ?_;obtain⟨oD,esD,epD,hoD,hdD,hcD⟩:=hn2.count (PySem.Within.cons name v hw);refine Ac (wpAny_lookBehind hoD (by rw[hdD];exact pastItsLine_dict (Ea hcD (by rw[Az];lia))) ?_);exact As (h _ ⟨(hs2.2 _ (Dj I.ne)).trans I.obj,hn2,I.ne⟩ hs2)
theorem zAF{R:Result->Ag->Prop}{vs:List Value}{kw:List (Str×Value)}(X:K.In s.heap)(hm:Jo K C=true)
  (hi:Gq K (.ref C) "__init__"=some (some (.ref f))) (hf:W.typeIn K (.ref f)=some (.type "function"))
  (h:Jp (model prog w) (A.under (.builtin "type.__call__" ⟨.ref C::vs,kw⟩)) (.call (.ref f) ⟨.ref (s.heap.objs.size+1)::vs,kw⟩) (W.InitBack (s.heap.objs.size+1) R)
   {s with heap:=(s.heap.push Fh).push (Gr C s.heap.objs.size)}):
  Jp (model prog w) A (.call (.ref C) ⟨vs,kw⟩) R s:=by
 obtain⟨hh,g,d,t,os⟩:=s;exact W.make_core (W.makes_of X hm) (W.looks_findIn X hi) (fun self=>W.bind_fn X self hf) (.inl rfl) h
end
noncomputable def WB(f:Str)(v:V):List (Str×V)->List (Str×V)
 |[]=>[(f,v)]
 |(g,x)::r=>if g=f then(g,v)::r else(g,x)::WB f v r
theorem P7(f g:Str)(v:V): ∀fs:List (Str×V),(WB f v fs).lookup g=if g=f then some v else fs.lookup g
 | [] => by
  show Eo g [(f,v)]=_;by_cases h:g=f
  ·have hb:(g==f)=true:=beq_iff_eq.mpr h
   simp only[Eo,hb,if_pos h]
  ·have hb:(g==f)=false:=beq_eq_false_iff_ne.mpr h
   simp only[Eo,hb,if_neg h]
 | (k,x) :: r => by
  have ih:=P7 f g v r;rw[show WB f v ((k,x)::r)=(if k=f then(k,v)::r else(k,x)::WB f v r) from rfl];by_cases hk:k=f
  ·rw[if_pos hk]
   by_cases h:g=k
   ·have hb:(g==k)=true:=beq_iff_eq.mpr h
    simp only[Eo,hb,if_pos (h.trans hk)]
   ·have hb:(g==k)=false:=beq_eq_false_iff_ne.mpr h
    simp only[Eo,hb,if_neg (fun e:g=f=>h (e.trans hk.symm))]
  ·rw[if_neg hk]
   by_cases h:g=k
   ·have hb:(g==k)=true:=beq_iff_eq.mpr h
    simp only[Eo,hb,if_neg (fun e:g=f=>hk (h.symm.trans e))]
   ·have hb:(g==k)=false:=beq_eq_false_iff_ne.mpr h
    simp only[Eo,hb];exact ih
theorem QW(f:Str)(v:V): ∀fs:List (Str×V),f∈(WB f v fs).map (·.1)/\ ∀g,g∈fs.map (·.1)->g∈(WB f v fs).map (·.1)
 |[]=>⟨by simp[WB],fun g h=>by simp at h⟩
 | (k,x) :: r => by
  obtain⟨i1,i2⟩:=QW f v r;rw[show WB f v ((k,x)::r)=(if k=f then(k,v)::r else(k,x)::WB f v r) from rfl];by_cases hk:k=f
  ·rw[if_pos hk]
   subst hk;exact⟨by simp,fun g h=>by simpa using h⟩
  ·rw[if_neg hk]
   refine⟨?_,fun g h=> ?_⟩
   ·rw[Ay]
    exact Aw _ i1
   ·rw[Ay] at h⊢
    rcases Ap.mp h with e|e
    ·exact Ap.mpr (.inl e)
    ·exact Aw _ (i2 g e)
theorem P6(f:Str)(v:V): ∀fs:List (Str×V),(WB f v fs).length<=fs.length+1
 |[]=>by simp[WB]
 |(k,x)::r=>by
  have ih:=P6 f v r;rw[show WB f v ((k,x)::r)=(if k=f then(k,v)::r else(k,x)::WB f v r) from rfl];by_cases hk:k=f
  ·rw[if_pos hk,Az,Az];lia
  ·rw[if_neg hk,Az,Az];lia
theorem WJ.some_of{v:V}{o:Option Value}(r:WJ (some v) o): ∃u,o=some u/\b6 v u:=by
 cases o with
 |none=>exact(show False from r).elim
 |some u=>exact⟨u,rfl,r⟩
theorem WJ.none_of{o:Option Value}(r:WJ none o):o=none:=by
 cases o with
 |none=>rfl
 |some u=>exact(show False from r).elim
theorem DY{v:V}{u:Value}(r:b6 v u):W.handedIn u=true:=by
 cases v with
 |non=>cases (show u=Value.none from r);rfl
 |bl b=>cases (show u=Lg b from r);rfl
 |int i=>obtain⟨t,e⟩:=(show∃t,u=Ks i t from r);cases e;rfl
 |str x=>obtain⟨t,e⟩:=(show∃t,u=Kt x t from r);cases e;rfl
 |byt b=>obtain⟨t,e⟩:=(show∃t,u=Og b t from r);cases e;rfl
 |flt b=>obtain⟨t,e⟩:=(show∃t,u=Mp b t from r);cases e;rfl
 |ref a=>cases (show u=Be a from r);rfl
 |ty n=>cases (show u=Hd n from r);rfl
section
variable{P:Ax}{w:World}{H H':Hp}{h h':Heap}{a C dx:Addr}{fs fs':List (Str×V)}
theorem FI(hok:T3 P w H h)(e:H a=some (.ins C dx fs)): ∃mA,IJ h a dx C mA/\(∀f,WJ (fs.lookup f) (mA f))/\Ht mA (fs.map (·.1))/\fs.length<=1000/\H dx=some (.own a):=by
 obtain⟨d,z,ne,ob,mA,n,r,q⟩:=(show aP P w H h a (.ins C dx fs) from hok a _ e);exact⟨mA,⟨ob,n,ne⟩,r,q,z,d⟩
end
structure Cls(K:Ai)(C:Addr):Prop where
 pg:Lj K C Str.empty=true
 hd:Mt K C=true
 po:W.plainOver K C=true
 sa:Gq K (.ref C) "__setattr__"=some (some (.builtin "object.__setattr__"))
theorem Cls.get{K:Ai}{C:Addr}(c:Cls K C)(f:Str):Lj K C f=true:=c.pg
def Z4(K:Ai)(C:Addr)(f:Str):Prop:=Gq K (.ref C) f=some none
theorem Z4.taker{K:Ai}{C:Addr}{f:Str}(n:Z4 K C f):Oa K C f=some none:=by
 unfold Oa;rw[show Gq K (.ref C) f=some none from n];rfl
structure Meth(K:Ai)(C:Addr)(m:Str)(f:Addr):Prop where
 at_:Gq K (.ref C) m=some (some (.ref f))
 fn:W.isFn K (.ref f)=true
 kp:Eg K (.ref f)=true
section
variable{X:Cx}{aa:List (Addr×Obj)}{σ:St}{H:Hp}{s:Ag}{a C dx:Addr}{fs:List (Str×V)}{f:Str}{v:V}{A:Cm}{E:Value->Ag->Prop}
theorem HW{y:V}{u:Value}{Q:Unit->Ag->Prop}(I:cM X aa σ H s)(e:H a=some (.ins C dx fs))(c:Cls X.K C)(n:Z4 X.K C f)(hl:fs.length<1000)(ry:b6 y u)
  (h: ∀s',cM X aa σ (upd H a (.ins C dx (WB f y fs))) s'->Q () s'):wpAny (model X.prog X.w) A (setAttr (.ref a) f u) Q E s:=by
 obtain⟨mA,O,r,wi,_,ho⟩:=FI I.hok e;have hz:(fs.map (·.1)).length<=sizeLine:=by rw[Av,Cb];lia
 refine zBN I.kIn O c.sa c.po n.taker c.hd wi hz fun h' O' sb=>h _ ?_;have hd: ∃o,h'.get? dx=some o:=let ⟨o,_,_,e',_⟩:=O'.ns;⟨o,e'⟩
 refine I.write (x:=a) (e:=dx) (by rw[e];exact True.intro) (.inr ho) (fun b q hb z=>(sb.2 b hb).trans z) hd ?_;refine⟨by rw[cY O.ne];exact ho,?_,O.ne,O'.obj,_,O'.ns,fun g=> ?_,fun g hg=> ?_⟩
 ·have:=P6 f y fs;lia
 ·show WJ ((WB f y fs).lookup g) (if g=f then some u else mA g)
  rw[P7];by_cases q:g=f
  ·rw[if_pos q,if_pos q];exact ry
  ·rw[if_neg q,if_neg q];exact r g
 ·by_cases q:g=f
  ·rw[q];exact(QW f y fs).1
  ·refine (QW f y fs).2 g (wi g fun z => hg ?_)
   show(if g=f then some u else mA g)=none;rw[if_neg q];exact z
theorem cM.made(I:cM X aa σ H s):cM X aa σ (upd (upd H s.heap.objs.size (.own (s.heap.objs.size+1))) (s.heap.objs.size+1) (.ins C s.heap.objs.size []))
  {s with heap:=(s.heap.push Fh).push (Gr C s.heap.objs.size)}:=by
 have e1:(s.heap.push Fh).get? s.heap.objs.size=some Fh:=At s.heap rfl;have e2:((s.heap.push Fh).push (Gr C s.heap.objs.size)).get? (s.heap.objs.size+1)=some (Gr C s.heap.objs.size):=by
  have:=At (s.heap.push Fh) (o:=Gr C s.heap.objs.size) rfl
  rwa[Cr] at this
 have e3:(s.heap.push Fh).Ns s.heap.objs.size (fun _=>none):=⟨Fh,#[],_,e1,rfl,(fun e he=>absurd he (by simp)),fun _=>rfl⟩;have I1:=I.laid (a:=s.heap.objs.size) (o:= .own (s.heap.objs.size+1)) (h':=s.heap.push Fh) (t':=s.toks) (fun b u q=>Ad _ q) (Au _) ⟨_,e1⟩;refine I1.laid (a:=s.heap.objs.size+1) (o:= .ins C s.heap.objs.size []) (t':=s.toks) (fun b u q=>Ad _ q) (Nat.le_of_eq (Cr _ _)) ?_;have ne:s.heap.objs.size≠s.heap.objs.size+1:=Bl (Me _);refine⟨by rw[cY ne,cX],Dx _,ne,e2,fun _=>none,(Heap.Ns1.of_empty e3).at fun o q=>Ad _ q,fun _=>True.intro,fun y hy=>absurd rfl hy⟩
theorem zD6{prog:Ax}{w:World}{env:Env}{e:Expr}{f:Str}{pos:Pos}{s:Ag}{Q:Value->Ag->Prop}(hb:By e f env (eval e env)=eval e env)
  (h:wpAny (model prog w) A (eval e env) (fun o s₁=>wpAny (model prog w) A (getAttr o f true) Q E s₁) E s):wpAny (model prog w) A (eval (.Attribute e f pos) env) Q E s:=
 Attribute_any_ h (by rw[arm_eval_Attribute,hb])
end
def BF(K:Ai)(ta tv:TE)(f:Str):TS:=fun D σ H=>tv σ H fun y H1=>ta σ H1 fun x H2=> ∃a C dx fs,x= .ref a/\H2 a=some (.ins C dx fs)/\Cls K C/\Z4 K C f/\fs.length<1000∧
 D.nx σ (upd H2 a (.ins C dx (WB f y fs)))
section
variable{X:Cx}{o e value:Expr}{f:Str}{pos al cv:Pos}{ta tv:TE}
theorem AR(ha:PE X o ta)(hv:PE X value tv)(hs:El value (some (.Attribute o f al)) pos.line X.env=pure false):PS X (.Assign [.Attribute o f al] value pos) (BF X.K ta tv f):=by
 intro aa s σ H D I h;refine plainObj_wpAny_Assign_Attribute (ZX (hv aa s σ H _ I h) fun u s1 ⟨y,H1,I1,ry,q⟩=>ZX (ha aa s1 σ H1 _ I1 q) fun ov s2 ⟨x,H2,I2,rx,a,C,dx,fs,ex,ea,c,n,l,q2⟩=> ?_) hs;subst ex;obtain rfl:ov=Be a:=rx;exact HW I2 ea c n l ry fun s3 I3=>⟨σ,_,I3,q2⟩
end
section
variable{X:Cx}{aa:List (Addr×Obj)}{σ:St}{H:Hp}{s:Ag}{A:Cm}{E:Value->Ag->Prop}{Q:Value->Ag->Prop}{c:Value}{b:Bool}
inductive PU(K:Ai)(H:Hp):V->Value->Prop where
 |non:PU K H .non (.type "NoneType")
 |bl (x:Bool):PU K H (.bl x) (.type "bool")
 |int (i:Int):PU K H (.int i) (.type "int")
 |str (x:Str):PU K H (.str x) (.type "str")
 |flt (x:UInt64):PU K H (.flt x) (.type "float")
 |lst {a:Addr} {xs:List V} (e:H a=some (.lst xs)):PU K H (.ref a) (.type "list")
 |frz {a:Addr} {o:Obj} {xs:List V} (e:H a=some (.frz o (.lst xs))):PU K H (.ref a) (.type "list")
 |tup {a:Addr} {xs:List V} (e:H a=some (.tup xs)):PU K H (.ref a) (.type "tuple")
 |dK {a:Addr} {kvs:List (aY×V)} (e:H a=some (.dK kvs)):PU K H (.ref a) (.type "dict")
 |dT {a:Addr} {kvs:List (List aY×V)} (e:H a=some (.dT kvs)):PU K H (.ref a) (.type "dict")
 |ins {a C dx:Addr} {fs:List (Str×V)} (e:H a=some (.ins C dx fs)) (cl:Cls K C) (ha:Gq K (.ref C) "__class__"=some (some (.builtin "object.__class__")))
   (hn:W.specialIn K (.builtin "object.__class__") "__get__"=some (some (.builtin "getset_descriptor.__get__"))) (htk:W.takesIn K (.builtin "object.__class__")=some true)
   (hm:W.mroIn K C (.type "object")=some true):PU K H (.ref a) (.ref C)
theorem UD{x:V}{u t:Value}(I:cM X aa σ H s)(rx:b6 x u)(ty:PU X.K H x t)(e:W.kitOne X.K t c=some b)(h: ∀tk,Q (.bool b) {s with toks:=tk}):
  wpAny (model X.prog X.w) A (call (.builtin "isinstance") [u,c]) Q E s:=by
 cases ty with
 |non=>cases (show u=Value.none from rx);exact Ew W.kitx_none I.kIn True.intro e (fun z=>nomatch z) h
 |bl y=>cases (show u=Lg y from rx);exact Ew W.kitx_bool I.kIn True.intro e (fun z=>nomatch z) h
 |int i=>obtain⟨t,q⟩:=(show∃t,u=Ks i t from rx);cases q;exact Ew W.kitx_int I.kIn True.intro e (fun z=>nomatch z) h
 |str y=>obtain⟨t,q⟩:=(show∃t,u=Kt y t from rx);cases q;exact Ew W.kitx_str I.kIn True.intro e (fun z=>nomatch z) h
 |flt y=>obtain⟨t,q⟩:=(show∃t,u=Mp y t from rx);cases q;exact Ew W.kitx_float I.kIn True.intro e (fun z=>nomatch z) h
 | @lst a xs ea=>
  cases (show u=Be a from rx);obtain⟨_,_,n,_,h1⟩:=(show aP X.prog X.w H s.heap a (.lst xs) from I.hok a _ ea);exact Ew Kl I.kIn ⟨_,h1,rfl⟩ e (fun z=>nomatch z) h
 | @frz a ob xs ea=>
  cases (show u=Be a from rx);obtain⟨_,_,_,n,_,h1⟩:=(show aP X.prog X.w H s.heap a (.frz ob (.lst xs)) from I.hok a _ ea);exact Ew Kl I.kIn ⟨_,h1,rfl⟩ e (fun z=>nomatch z) h
 | @tup a xs ea=>
  cases (show u=Be a from rx);obtain⟨_,_,_,p⟩:=(show aP X.prog X.w H s.heap a (.tup xs) from I.hok a _ ea);obtain⟨o,h1,h2,_⟩:=p;exact Ew W.kitx_tuple I.kIn ⟨o,h1,h2⟩ e (fun z=>nomatch z) h
 | @dK a kvs ea=>
  cases (show u=Be a from rx);obtain⟨_,_,vs,_,p⟩:=(show aP X.prog X.w H s.heap a (.dK kvs) from I.hok a _ ea);obtain⟨o,es,ep,h1,h2,_⟩:=p;exact Ew W.kitx_dict I.kIn ⟨o,h1,h2.1⟩ e (fun z=>nomatch z) h
 | @dT a kvs ea=>
  cases (show u=Be a from rx);obtain⟨_,_,xs,_,o,es,ep,h1,h2,_⟩:=(show aP X.prog X.w H s.heap a (.dT kvs) from I.hok a _ ea);exact Ew W.kitx_dict I.kIn ⟨o,h1,h2.1⟩ e (fun z=>nomatch z) h
 | @ins a C dx fs ea cl ha hn htk hm=>
  cases (show u=Be a from rx);obtain⟨mA,O,_⟩:=FI I.hok ea;obtain⟨od,J,_⟩:=O.look;exact Ew (W.kitx_own (cl.get _) cl.hd ha hn htk hm) I.kIn J e (fun z=>nomatch z) h
end
structure Z6(k:Nat)(A:Cm):Prop where
 hd:A.handled=none
 dp:A.depth+3*k+5<recursionLimit
 un:A.units+16*k+200<cLine
theorem Z6.mono{j k:Nat}{A:Cm}(r:Z6 k A)(h:j<=k):Z6 j A:=⟨r.hd,by have:=r.dp;lia,by have:=r.un;lia⟩
theorem Z6.deeper{k:Nat}{A:Cm}(r:Z6 (k+1) A)(env:Env):Z6 k (A.deeper env):=
 ⟨r.hd,by have:=r.dp;show A.depth+1+3*k+5<_;lia,by have:=r.un;show A.units+3+16*k+200<_;lia⟩
theorem HB{A:Cm}{C:Addr}{us:List Value}{kw:List (Str×Value)}:(A.under (.builtin "type.__call__" ⟨.ref C::us,kw⟩)).depth=A.depth+1:=by
 first|rfl|simp[Lw,Code.weight,Code.isCreation,Code.isGuard,Code.isCaller,Code.frames,Lx,guardIds]
theorem HC{A:Cm}{C:Addr}{us:List Value}{kw:List (Str×Value)}:(A.under (.builtin "type.__call__" ⟨.ref C::us,kw⟩)).units=A.units+1:=by
 first|rfl|simp[Lw,Code.cUnits,Code.frames,Lx]
theorem Z6.make{k:Nat}{A:Cm}(r:Z6 (k+1) A)(C:Addr)(us:List Value)(kw:List (Str×Value)):Z6 k (A.under (.builtin "type.__call__" ⟨.ref C::us,kw⟩)):=
 ⟨r.hd,by have:=r.dp;rw[HB];lia,by have:=r.un;rw[HC];lia⟩
theorem Z6.depth{k:Nat}{A:Cm}(r:Z6 k A):A.depth<recursionLimit:=by have:=r.dp;lia
theorem Z6.units{k:Nat}{A:Cm}(r:Z6 k A):A.units+64<cLine:=by have:=r.un;lia
def NT:TA:=fun _ H Q=>Q [] H
def NC(ta:TE)(tr:TA):TA:=fun σ H Q=>ta σ H fun x H1=>tr σ H1 fun xs H2=>Q (x::xs) H2
section
variable{X:Cx}{e:Expr}{es:List Expr}{te:TE}{t:TA}{pos:Pos}
theorem Y7:PA X [] NT:=fun _ _ _ _ H Q I h=>Ih ⟨[],H,I,.nil,h⟩
theorem a9(ha:PE X e te)(hr:PA X es t)(hs:Ae (e::es) X.env=(false,eval e X.env)::Ae es X.env:=by rfl):PA X (e::es) (NC te t):=by
 intro pos aa s σ H Q I h;rw[hs];show wpAny _ _ (spliced ((false,eval e X.env)::Dh pos (Ae es X.env))) _ _ s;refine Hv (ZX (ha aa s σ H _ I h) fun u s1 ⟨x,H1,I1,r1,q1⟩=> ?_);exact ZX (hr pos aa s1 σ H1 _ I1 q1) fun us s2 ⟨xs,H2,I2,r2,q2⟩=>⟨x::xs,H2,I2,.cons r1 r2,q2⟩
def tTup(t:TA):TE:=fun σ H Q=>t σ H fun xs H1=>xs.length<=sizeLine/\ ∀p,H1 p=none->Q (.ref p) (upd H1 p (.tup xs))
def BW(t:TA):TE:=fun σ H Q=>t σ H fun xs H1=>xs.length<=sizeLine/\ ∀p,H1 p=none->Q (.ref p) (upd H1 p (.lst xs))
theorem zFI{x1}(h:PA X es t):PE X (.Tuple es x1 pos) (tTup t):=by
 intro aa s σ H Q I hq;refine wpAny_Tuple_spliced (ZX (h pos aa s σ H _ I hq) fun us s1 ⟨xs,H1,I1,r,z,q⟩=>⟨by rw[<- r.length];exact z,?_⟩);have hf:H1 s1.heap.objs.size=none:=I1.hok.fresh (Au _);refine⟨.ref s1.heap.objs.size,upd H1 s1.heap.objs.size (.tup xs),I1.laid (t':=s1.toks) (fun b u e=>Ad _ e) (Au _) ?_,rfl,q _ hf⟩;exact⟨z,us,r,⟨_,At _ rfl,rfl,_,rfl⟩⟩
theorem HI(h:PA X es t):PE X (.List es pos) (BW t):=by
 intro aa s σ H Q I hq;refine wpAny_List_spliced (ZX (h pos aa s σ H _ I hq) fun us s1 ⟨xs,H1,I1,r,z,q⟩=>⟨by rw[<- r.length];exact z,?_⟩);have hf:H1 s1.heap.objs.size=none:=I1.hok.fresh (Au _);refine⟨.ref s1.heap.objs.size,upd H1 s1.heap.objs.size (.lst xs),I1.laid (t':=s1.toks) (fun b u e=>Ad _ e) (Au _) ?_,rfl,q _ hf⟩;exact⟨z,us,0,r,At _ rfl⟩
end
abbrev Sp:=List V->Hp->VK->XK->Prop
abbrev CY:=List Env->Hp->Ag->XK->Value->Ag->Prop
structure GG(P:Ax)(w:World)(K:Ai)(mg:Str->Option Value)(base:Heap)(A:Cm)(outer:List Env)(s:Ag)(H:Hp):Prop where
 frames:A.frames=some outer
 mod:Mod K mg base
 bs: ∀b o,base.get? b=some o->s.heap.get? b=some o/\H b=none
 bsz:base.objs.size<=s.heap.objs.size
 funs:s.heap.FunFrames base outer
 frf: ∀b∈CT outer,H b=none
 hok:T3 P w H s.heap
 bare:Jl s.gens
def CE(outer:List Env)(P:Ax)(w:World)(H:Hp)(s:Ag)(Q:VK)(u:Value)(s':Ag):Prop:=
 ∃v H',s'.os=s.os/\Jl s'.gens/\Un (CT outer) [] H H' s.heap s'.heap/\T3 P w H' s'.heap/\b6 v u/\Q v H'
def CR(CX:CY)(outer:List Env)(P:Ax)(w:World)(H:Hp)(s:Ag)(Q:VK)(E:XK)(r:Result)(s':Ag):Prop:=
 match r with
 | .ok (.ret u)=>CE outer P w H s Q u s'
 | .ok _=>False
 | .error e=>CX outer H s E e s'
structure bX(P:Ax)(w:World)(K:Ai)(mg:Str->Option Value)(base:Heap)(CX:CY)(k:Nat)(f:Addr)(fd:Cy)(ps:List Str)(sp:Sp):Prop where
 len: ∀vs H Q E,sp vs H Q E->vs.length=ps.length
 run: ∀(A:Cm) (outer:List Env) (s:Ag) (H:Hp) (args:Args) (us:List Value) (vs:List V) (Q:VK) (E:XK),Z6 k A->GG P w K mg base A outer s H->Mu s fd args (ps.zip us)->bT vs us->sp vs H Q E→
  Jp (model P w) A (.call (.ref f) args) (CR CX outer P w H s Q E) s
theorem GG.make{P:Ax}{w:World}{K:Ai}{mg:Str->Option Value}{base:Heap}{A:Cm}{outer:List Env}{s:Ag}{H:Hp}(e:GG P w K mg base A outer s H)(C:Addr)(us:List Value)(kw:List (Str×Value)):
  GG P w K mg base (A.under (.builtin "type.__call__" ⟨.ref C::us,kw⟩)) outer s H:=⟨by first|exact e.frames|(simpa[Lw,Code.envs,Lx,pushEnvs] using e.frames),e.mod,e.bs,e.bsz,e.funs,e.frf,e.hok,e.bare⟩
section
variable{X:Cx}{aa:List (Addr×Obj)}{σ:St}{H:Hp}{s s':Ag}
theorem cM.env0(I:cM X aa σ H s):GG X.prog X.w X.K X.mg X.base X.A X.stack s H:=
 ⟨I.ok.frames,I.ok.mod,I.bs,Ea I.ok.bsz I.sz,I.stack,I.stkFree,I.hok,I.bare⟩
theorem cM.after{Q:VK}{u:Value}(I:cM X aa σ H s)(h:CE X.stack X.prog X.w H s Q u s'):EP X aa σ Q u s':=by
 obtain⟨v,H',os,bare,un,hok,r,q⟩:=h;obtain⟨hh,g,d,t,os'⟩:=s';obtain rfl:os'=s.os:=os;exact⟨v,H',I.call (h':=hh) (g':=g) (d':=d) (t':=t) (ch:=[]) un hok bare (fun b z=>absurd z (by simp)),r,q⟩
end
def BU(sp:Sp)(dvs:List V)(E:XK)(t:TA):TE:=fun σ H Q=>t σ H fun vs H1=>sp (vs++dvs) H1 Q E
def zI3(C:Addr)(sp:Sp)(dvs:List V)(E:XK)(t:TA):TE:=fun σ H Q=>t σ H fun vs H1=> ∀x dx,H1 x=none->H1 dx=none->dx≠x→
 sp (.ref x::(vs++dvs)) (upd (upd H1 dx (.own x)) x (.ins C dx [])) (fun v H2=>v= .non/\Q (.ref x) H2) E
def XV(K:Ai)(fd:Cy)(ps:List Str)(ds:List Value):Prop:=
 ∀(s:Ag) (us:List Value),K.In s.heap->(us++ds).length=ps.length->Mu s fd ⟨us,[]⟩ (ps.zip (us++ds))
theorem XV.all{K:Ai}{fd:Cy}{ps:List Str}(h: ∀us:List Value,us.length=ps.length->bindArgs fd ⟨us,[]⟩=pure (ps.zip us)):XV K fd ps []:=fun s us _ hl=>by
 rw[Bm] at hl⊢;exact .of_eq (h us hl)
def QK(CX:CY)(X:Cx)(E:XK):Prop:= ∀(aa:List (Addr×Obj)) (σ:St) (H:Hp) (s:Ag) (e:Value) (s':Ag),cM X aa σ H s->CX X.stack H s E e s'->X.xe e s'
section
variable{X:Cx}{CX:CY}{k:Nat}{f C:Addr}{fd:Cy}{ps:List Str}{sp:Sp}{dvs:List V}{ds:List Value}{E:XK}{x m:Str}{p pos ah:Pos}{e o:Expr}{es:List Expr}{ta:TE}{t:TA}
theorem HP{aa:List (Addr×Obj)}{σ:St}{H:Hp}{s:Ag}{Q:VK}{us:List Value}{vs:List V}(F:bX X.prog X.w X.K X.mg X.base CX k f fd ps sp)(hr:Z6 k X.A)(hb:XV X.K fd ps ds)(hd:bT dvs ds)(hx:QK CX X E)
  (I:cM X aa σ H s) (r:bT vs us) (h:sp (vs++dvs) H Q E):wpAny (model X.prog X.w) X.A (call (.ref f) us) (EP X aa σ Q) X.xe s:=by
 have r2:bT (vs++dvs) (us++ds):=r.append hd;have hl:(us++ds).length=ps.length:=by rw[<- r2.length];exact F.len _ _ _ _ h
 refine wpAny_call (Jq (F.run X.A X.stack s H ⟨us,[]⟩ (us++ds) (vs++dvs) Q E hr I.env0 (hb s us I.kIn hl) r2 h) fun r s' hq=> ?_);cases r with
 |error e=>exact hx aa σ H s e s' I hq
 |ok fl=>
  cases fl with
  |ret u=>exact I.after hq
  |next=>exact Ej hq
  |brk=>exact Ej hq
  |cont=>exact Ej hq
theorem FT(F:bX X.prog X.w X.K X.mg X.base CX k f fd ps sp)(hr:Z6 k X.A)(hg:Gl X x)(hm:X.mg x=some (.ref f))(hk:Eg X.K (.ref f)=true)(hb:XV X.K fd ps ds)(hd:bT dvs ds)(hx:QK CX X E)
  (ha:PA X (e::es) t) (hdb:(x==("__debug__":Str))=false:=by decide) (he:Ae (e::es) X.env=(false,eval e X.env)::Ae es X.env:=by rfl) (hpl:(Dh pos (Ae es X.env)).any (·.1)=false:=by rfl):
  PE X (.Call (.Name x p) (e::es) [] pos) (BU sp dvs E t):=by
 intro aa s σ H Q I h;refine Dv (LO I hg hm ?_ hdb);refine Ly (h₀:=X.base) I.ok.mod.kin hk (ZX (ha pos aa s σ H _ I h) fun us s1 ⟨vs,H1,I1,r,q⟩=>⟨I1.kIn,?_⟩) he hpl;exact HP F hr hb hd hx I1 r q
structure Mk(K:Ai)(C f:Addr):Prop where
 makes:Jo K C=true
 init:Gq K (.ref C) "__init__"=some (some (.ref f))
 fn:W.isFn K (.ref f)=true
 kp:Eg K (.ref C)=true
theorem BD{aa:List (Addr×Obj)}{σ:St}{H:Hp}{s:Ag}{Q:VK}{us:List Value}{vs:List V}(M:Mk X.K C f)(F:bX X.prog X.w X.K X.mg X.base CX k f fd ps sp)(hr:Z6 (k+1) X.A)(hb:XV X.K fd ps ds)(hd:bT dvs ds)
  (hx:QK CX X E) (I:cM X aa σ H s) (r:bT vs us)
  (h: ∀x dx,H x=none->H dx=none->dx≠x->sp (.ref x::(vs++dvs)) (upd (upd H dx (.own x)) x (.ins C dx [])) (fun v H2=>v= .non/\Q (.ref x) H2) E):
  wpAny (model X.prog X.w) X.A (call (.ref C) us) (EP X aa σ Q) X.xe s:=by
 have hq:=h (s.heap.objs.size+1) s.heap.objs.size (I.hok.fresh (Ft _)) (I.hok.fresh (Au _)) (Bl (Me _));have I2:=cM.made (C:=C) I;have r2:bT (V.ref (s.heap.objs.size+1)::(vs++dvs)) (Be (s.heap.objs.size+1)::(us++ds)):= .cons rfl (r.append hd);have hl:(Be (s.heap.objs.size+1)::us++ds).length=ps.length:=by
  have e:=r2.length;rw[F.len _ _ _ _ hq] at e;exact e.symm
 refine wpAny_call (zAF (f:=f) I.kIn M.makes M.init (beq_iff_eq.mp M.fn) (Jq (F.run _ X.stack _ _ ⟨Be (s.heap.objs.size+1)::us,[]⟩ (Be (s.heap.objs.size+1)::(us++ds)) _ _ E (hr.make C us [])
  (I2.env0.make C us []) (hb _ (Be (s.heap.objs.size+1)::us) I2.kIn hl) r2 hq) fun r s' hq'=> ?_))
 cases r with
 |error e=>exact hx aa σ _ _ e s' I2 hq'
 |ok fl=>
  cases fl with
  |ret u=>
   obtain⟨v,H',I3,rv,ev,q3⟩:=I2.after hq';subst ev;exact⟨rv,⟨V.ref (s.heap.objs.size+1),H',I3,rfl,q3⟩⟩
  |next=>exact Ej hq'
  |brk=>exact Ej hq'
  |cont=>exact Ej hq'
theorem AG(M:Mk X.K C f)(F:bX X.prog X.w X.K X.mg X.base CX k f fd ps sp)(hr:Z6 (k+1) X.A)(hg:Gl X x)(hm:X.mg x=some (.ref C))(hb:XV X.K fd ps ds)(hd:bT dvs ds)(hx:QK CX X E)
  (hdb:(x==("__debug__":Str))=false:=by decide):PE X (.Call (.Name x p) [] [] pos) (zI3 C sp dvs E NT):=by
 intro aa s σ H Q I h;refine Dv (LO I hg hm ?_ hdb);exact W.callWith_K0 I.kIn M.kp (BD (us:=[]) M F hr hb hd hx I .nil h)
end
structure cV(N P:List Str)(sc:Scope):Prop where
 kind:sc.kind= .function
 co:sc.isCoroutine=false
 gen:sc.isGenerator=false
 nd:N.Nodup
 pre:N.take P.length=P
 par: ∀x∈P,sc.names.lookup x=some .local∨sc.names.lookup x=some .cell
 nofree: ∀y∈sc.names,y.2≠ .free
theorem ML{kindOf:Str->Option NameKind}{x:Str}: ∀{binds:List (Str×Value)} {m:Str->Option Value},(∀v,(x,v)∉binds)->bindL kindOf binds m x=m x
 |[],_,_=>rfl
 | (n,v) :: r,m,h => by
  unfold bindL;rw[ML fun w hw=>h w (Aw _ hw)];split
  ·have : x ≠ n := by rintro rfl;exact h v Bg
   simp[this]
  ·rfl
theorem MJ{kindOf:Str->Option NameKind}{x:Str}: ∀{binds:List (Str×Value)} {m:Str->Option Value},(∀v,(x,v)∉binds)->bindC kindOf binds m x=m x
 |[],_,_=>rfl
 | (n,v) :: r,m,h => by
  unfold bindC;rw[MJ fun w hw=>h w (Aw _ hw)];split
  ·rfl
  ·have : x ≠ n := by rintro rfl;exact h v Bg
   simp[this]
theorem MK{kindOf:Str->Option NameKind}{x:Str}{v:Value}: ∀{P:List Str} {vs:List Value} {i:Nat} {m:Str->Option Value},P.Nodup->P[i]? =some x->vs[i]? =some v->kindOf x=some .local→
  bindL kindOf (P.zip vs) m x=some v
 |[],_,_,_,_,h,_,_=>by simp at h
 |_::_,[],_,_,_,_,h,_=>by simp at h
 |p::P,w::vs,0,m,nd,h1,h2,hk=>by
  simp at h1 h2;subst h1;subst h2;show bindL kindOf ((p,w)::P.zip vs) m p=_;unfold bindL;rw[ML fun v hv=>(Ed.mp nd).1 (Jr hv).1,if_pos hk];simp
 |p::P,w::vs,i+1,m,nd,h1,h2,hk=>by
  show bindL kindOf ((p,w)::P.zip vs) m x=_;unfold bindL;exact MK (i:=i) (Ed.mp nd).2 (by simpa using h1) (by simpa using h2) hk
theorem MI{kindOf:Str->Option NameKind}{x:Str}{v:Value}: ∀{P:List Str} {vs:List Value} {i:Nat} {m:Str->Option Value},P.Nodup->P[i]? =some x->vs[i]? =some v->kindOf x≠some .local→
  bindC kindOf (P.zip vs) m x=some v
 |[],_,_,_,_,h,_,_=>by simp at h
 |_::_,[],_,_,_,_,h,_=>by simp at h
 |p::P,w::vs,0,m,nd,h1,h2,hk=>by
  simp at h1 h2;subst h1;subst h2;show bindC kindOf ((p,w)::P.zip vs) m p=_;unfold bindC;rw[MJ fun v hv=>(Ed.mp nd).1 (Jr hv).1,if_neg hk];simp
 |p::P,w::vs,i+1,m,nd,h1,h2,hk=>by
  show bindC kindOf ((p,w)::P.zip vs) m x=_;unfold bindC;exact MI (i:=i) (Ed.mp nd).2 (by simpa using h1) (by simpa using h2) hk
noncomputable def start(N:List Str)(vs:List V):St:=vs.map some++Bh (N.length - vs.length) none
noncomputable def NM(CX:CY)(P:Ax)(w:World)(K:Ai)(mg:Str->Option Value)(base:Heap)(N:List Str)(qual:Str)(scope:Scope)(f:Addr)(cd:Value)(A:Cm)(outer:List Env)(s:Ag)(H:Hp)(E:XK):Cx where
 prog:=P
 w:=w
 K:=K
 mg:=mg
 base:=base
 A:=A.deeper (Hw qual scope s.heap.objs.size f cd)
 N:=N
 s₀:=s
 H₀:=H
 env:=Hw qual scope s.heap.objs.size f cd
 outer:=outer
 stack:=Hw qual scope s.heap.objs.size f cd::outer
 ex:=[]
 calm:=true
 fn:=fun _=>true
 pn:=[]
 xe:=fun e s'=>wpAny (model P w) (A.deeper (Hw qual scope s.heap.objs.size f cd)) (leaving (Hw qual scope s.heap.objs.size f cd) e) (fun _ s''=>CX outer H s E e s'') (fun e' s''=>CX outer H s E e' s'') s'
theorem IV{sc:Scope}{n:Nat}{x:Str}(h:sc.names.lookup x=some .cell): ∃c,(cellsFrom n sc.names []).lookup x=some c:=by
 have q:=Mf sc.names n [] (.inl h);exact Option.isSome_iff_exists.mp q
theorem D3{CX:CY}{P:Ax}{w:World}{K:Ai}{mg:Str->Option Value}{base:Heap}{N ps:List Str}{qual:Str}{scope:Scope}{f:Addr}{cd:Value}{A:Cm}{outer:List Env}{s s1:Ag}{H:Hp}{E:XK}{us:List Value}{vs:List V}
  (S:cV N ps scope) (hd:A.handled=none) (e0:GG P w K mg base A outer s H) (hl:vs.length=ps.length) (r:bT vs us)
  (x:InCallC s s.heap.objs.size (bindL (Hw qual scope s.heap.objs.size f cd).kindOf (ps.zip us) fun _=>none) (cellsFrom (s.heap.objs.size+1) scope.names []) (bindC (Hw qual scope s.heap.objs.size f cd).kindOf (ps.zip us) fun _=>none) s1):
  cM (NM CX P w K mg base N qual scope f cd A outer s H E) [] (start N vs) H s1:=by
 have hpl:ps.length<=N.length:=by have:=congrArg List.length S.pre;rw[Di] at this;lia
 obtain⟨h1,tk,rfl,hk⟩:=x.done;have noA: ∀b:Addr,b∉(NM CX P w K mg base N qual scope f cd A outer s H E).ex:=fun b z=>absurd (show b∈([]:List Addr) from z) (by simp);refine⟨⟨e0.mod,S.kind,rfl,rfl,Au _,fun y z c h1 h2=> ?_,fun y hy=> ?_,fun y c _ h=> ?_,fun _=>hd,Around.frames_deeper e0.frames,.inr ⟨rfl,rfl⟩,fun b z=>absurd z (noA b),e0.bs,e0.bsz,fun b _ _=>noA b,fun b z=>absurd z (noA b),e0.funs,e0.frf⟩,
  rfl,e0.bare,Un.kept hk,⟨_,x.toInCall.ns,fun i y v h1 h2 h3=> ?_⟩,fun y c h=>⟨_,x.cell y c h⟩,e0.hok.fresh (Au _),fun y c h=> ?_,fun p hp=>absurd (show p∈([]:List (Addr×Obj)) from hp) (by simp),e0.hok.kept hk,?_⟩
 ·exact name_of_addr x.apart (Cd h1) (Cd h2)
 ·have hy:scope.names.lookup y=some .cell∨scope.names.lookup y=some .free:=hy
  rcases hy with hy|hy
  ·exact IV hy
  ·exact absurd rfl (S.nofree _ (Cd hy))
 ·exact Lv (x.above y c (Cd h))
 ·have hi:i<vs.length:=by
   unfold start at h2;by_cases hi:i<vs.length
   ·exact hi
   ·rw [An (by simpa using hi)] at h2
    rw[Dd] at h2;split at h2<;>cases h2
  have ha:vs[i]? =some v:=by
   unfold start at h2;rw[Ah (by simpa using hi),Dm] at h2;cases e:vs[i]? with
   |none=>rw[e] at h2;cases h2
   |some a=>rw[e] at h2;cases h2;rfl
  obtain⟨u,hu,rv⟩:=r.get ha;have hp:ps[i]? =some y:=by rw[<- S.pre,Ci (by lia)];exact h1
  have ndP:ps.Nodup:=by rw[<- S.pre];exact S.nd.sublist (List.take_sublist _ _)
  refine⟨u,rv,?_⟩;rcases S.par y (Bz hp) with k|k
  ·exact .inl ⟨k,MK ndP hp hu k⟩
  ·obtain⟨c,e⟩:=IV (n:=s.heap.objs.size+1) k
   refine .inr ⟨.inl k,c,e,?_⟩;have q:=x.cell y c e;rw[MI ndP hp hu (by show scope.names.lookup y≠_;rw[k];decide)] at q;exact q
 ·exact e0.hok.fresh (Lv (x.above y c (Cd h)))
 ·unfold start
  show _=N.length;rw[Al,Av,Js];lia
theorem zDY{CX:CY}{P:Ax}{w:World}{K:Ai}{mg:Str->Option Value}{base:Heap}{k:Nat}{f:Addr}{name qual:Str}{params:Arguments}{body:List Stmt}{scope:Scope}{dV kV doc pm cdv ct oc:Value}{an od:Option Addr}
  {osl:Array (Option Value)} {N ps:List Str} {sp:Sp} (lk:K.lookup f=some ⟨oc,od,.func (Ge name qual params body scope dV kV doc pm an cdv ct),osl⟩) (hcd:Ha K cdv qual=true) (S:cV N ps scope)
  (len: ∀vs H Q E,sp vs H Q E->vs.length=ps.length)
  (aq: ∀(A:Cm) (outer:List Env) (s:Ag) (H:Hp) (vs:List V) (Q:VK) (E:XK),Z6 k (A.deeper (Hw qual scope s.heap.objs.size f cdv))->sp vs H Q E→
   ∃t,QJ (NM CX P w K mg base N qual scope f cdv A outer s H E) body t/\t {nx:=fun _ H'=>Q .non H',rt:=Q} (start N vs) H):
  bX P w K mg base CX (k+1) f (Ge name qual params body scope dV kV doc pm an cdv ct) ps sp:=by
 refine⟨len,fun A outer s H args us vs Q E hr e0 hb r hsp=> ?_⟩;have hl:=len _ _ _ _ hsp;have KX:K.In s.heap:=e0.mod.kin.keeps fun b o e=>(e0.bs b o e).1;have lim:s.heap.NoLimit:=e0.mod.nolimit.keeps fun b o e=>(e0.bs b o e).1;have mj: ∀y∈ps.zip us,scope.names.lookup y.1=some .local∨(scope.names.lookup y.1=some .cell/\((cellsFrom (s.heap.objs.size+1) scope.names []).lookup y.1).isSome=true):=fun⟨n,v⟩ hy=>by
  rcases S.par n (Jr hy).1 with q|q
  ·exact .inl q
  ·exact .inr ⟨q,Mf _ _ _ (.inl q)⟩
 refine codeAny_call_function hr.depth (KX _ _ lk) rfl S.co S.gen rfl (W.codeRec_of KX hcd) (hb _ _ _ _ ?_);refine wpAny_newFunctionEnv_cells S.kind mj fun env he s1 x=> ?_;subst he;refine⟨lim.keeps x.toInCall.keep,codeAny_func ?_⟩;obtain⟨t,ht,hq⟩:=aq A outer s H vs Q E (hr.deeper _) hsp;have I:cM (NM CX P w K mg base N qual scope f cdv A outer s H E) [] (start N vs) H s1:=D3 S hr.hd e0 hl r x;refine Ch (ht [] s1 (start N vs) H _ I hq) (fun fl s' hs=> ?_) fun e s' hs=>hs;have fin: ∀{σ':St} {H':Hp} {v:V} {u:Value},cM (NM CX P w K mg base N qual scope f cdv A outer s H E) [] σ' H' s'->b6 v u->Q v H'->CE outer P w H s Q u s':=
  fun{σ' H' v u} J rv q=>⟨v,H',J.os,J.bare,J.base,J.hok,rv,q⟩
 cases fl with
 |ret u=>
  obtain⟨v,σ',H',J,rv,q⟩:=hs;exact fin J rv q
 |next=>
  obtain⟨σ',H',J,q⟩:=hs;exact fin (v:=V.non) (u:=Value.none) J rfl q
 |brk=>
  obtain⟨_,_,_,q⟩:=hs;exact Ej q
 |cont=>
  obtain⟨_,_,_,q⟩:=hs;exact Ej q
section
variable{X:Cx}{x:Str}{p pos:Pos}{e:Expr}{es:List Expr}{t:TA}{id T:String}{r:List V->Hp->VK->Prop}
def tCB(r:List V->Hp->VK->Prop)(t:TA):TE:=fun σ H Q=>t σ H fun vs H1=>r vs H1 Q
theorem RT(hc:aW X (.builtin id) r)(hg:Gl X x)(hm:X.mg x=none)(hv:Bf x=some (.builtin id))(ha:PA X (e::es) t)(hn:x≠ "__name__":=by decide) (hdb:(x==("__debug__":Str))=false:=by decide)
  (he:Ae (e::es) X.env=(false,eval e X.env)::Ae es X.env:=by rfl) (hpl:(Dh pos (Ae es X.env)).any (·.1)=false:=by rfl):PE X (.Call (.Name x p) (e::es) [] pos) (tCB r t):=by
 intro aa s σ H Q I h;refine Dv (QX I hg hm hv ?_ hn hdb);exact PyProof.Rows.callWith_builtin1 (ZX (ha pos aa s σ H _ I h) fun us s1 ⟨vs,H1,I1,r1,q1⟩=>hc aa s1 σ H1 vs us Q I1 r1 q1) he hpl
theorem Q4(hc:aW X (.type T) r)(hg:Gl X x)(hm:X.mg x=none)(hv:Bf x=some (.type T))(ha:PA X (e::es) t)(hn:x≠ "__name__":=by decide) (hdb:(x==("__debug__":Str))=false:=by decide)
  (he:Ae (e::es) X.env=(false,eval e X.env)::Ae es X.env:=by rfl) (hpl:(Dh pos (Ae es X.env)).any (·.1)=false:=by rfl):PE X (.Call (.Name x p) (e::es) [] pos) (tCB r t):=by
 intro aa s σ H Q I h;refine Dv (QX I hg hm hv ?_ hn hdb);exact Ec (ZX (ha pos aa s σ H _ I h) fun us s1 ⟨vs,H1,I1,r1,q1⟩=>hc aa s1 σ H1 vs us Q I1 r1 q1) he hpl
end
end L2
namespace HT
open PySem PyProof.Rows
section
variable{prog:Ax}{w:World}{A:Cm}{E:Value->Ag->Prop}{s:Ag}
theorem zD2{t b:Addr}{vs ws:List Value}{Q:Value->Ag->Prop}(ht:IsTup s.heap t vs.toArray)(hb:IsTup s.heap b ws.toArray)(hv:vs≠[])
  (h1:ws=[]->Q (.ref t) s) (h2:ws≠[]->Q (.ref s.heap.objs.size) {s with heap:=s.heap.push {cls:= .type "tuple",data:= .seq (vs++ws).toArray}})
  (hsz:vs.length+ws.length<=sizeLine):wpAny (model prog w) A (Et .Add (.ref t) (.ref b)) Q E s:=by
 obtain⟨⟨cls,dd,data,sl⟩,ho,hc,n,hd⟩:=id ht;obtain⟨⟨mv,dd2,data2,sl2⟩,ho2,hc2,n2,hd2⟩:=id hb;simp only at hc hd hc2 hd2;subst hc hd hc2 hd2;have e:vs.toArray++ws.toArray=(vs++ws).toArray:=by simp
 by_cases hw:ws=[]
 ·exact Jt ⟨_,ho,rfl⟩ ⟨_,ho2,rfl⟩ Jb Ky Gf Gb (Fv _ _)
   (tuple_addW1 t b vs.toArray ws.toArray n n2 dd dd2 sl sl2 (by simpa using hv) (by simp[hw])) ⟨ho,ho2,h1 hw⟩
 ·refine Jt ⟨_,ho,rfl⟩ ⟨_,ho2,rfl⟩ Jb Ky Gf Gb (Fv _ _)
   (tuple_addW2 t b vs.toArray ws.toArray n n2 dd dd2 sl sl2 (by simpa using hv) (by simpa using hw) (by rw[Am,Am];exact hsz)) ⟨ho,ho2,?_⟩
  rw[e];exact h2 hw
noncomputable def sIx(n d:Nat):Option Int->Nat
 |none=>d
 |some v=>if v<0 then(v+(n:Int)).toNat else min v.toNat n
theorem BG(n d:Nat):sIx n d none=d:=rfl
theorem zBO(n d k:Nat):sIx n d (some (k:Int))=min k n:=by
 show(if(k:Int)<0 then((k:Int)+(n:Int)).toNat else min (k:Int).toNat n)=min k n;rw[if_neg (by lia),Ii]
theorem zF3(n d:Nat)(hd:d<=n)(o:Option Int):sIx n d o<=n:=by
 cases o with
 |none=>exact hd
 |some v=>
  show(if v<0 then(v+(n:Int)).toNat else min v.toNat n)<=n;by_cases hv:v<0
  ·rw[if_pos hv];lia
  ·rw[if_neg hv];exact Nat.min_le_right _ _
theorem E6(v:Int)(n d:Nat):(if v<0 then max (v+(n:Int)) 0 else min v (n:Int))=((sIx n d (some v):Nat):Int):=by
 show(if v<0 then max (v+(n:Int)) 0 else min v (n:Int))=(((if v<0 then(v+(n:Int)).toNat else min v.toNat n):Nat):Int);by_cases hv:v<0
 ·simp only[if_pos hv];lia
 ·simp only[if_neg hv];lia
theorem GL(lo hi:Option Int)(n:Nat):Fm lo hi 1 (n:Int)=(((sIx n 0 lo:Nat):Int),((sIx n n hi:Nat):Int)):=by
 have h1: ¬((1:Int)<0):=by lia
 unfold Fm;simp only[h1,if_false];refine Prod.ext ?_ ?_
 ·cases lo with
  |none=>rfl
  |some v=>exact E6 v n 0
 ·cases hi with
  |none=>rfl
  |some v=>exact E6 v n n
theorem HL(i j:Nat):Ep (i:Int) (j:Int) 1=j - i:=by
 unfold Ep;have h1:(1:Int)>0:=by lia
 simp only[h1,if_true,Int.ediv_one];split<;>lia
theorem OZ{v:Value}{o:Option Int}{Q:Option Int->Ag->Prop}(p:IsPart v o)(h:Q o s):wpAny (model prog w) A (Mo v) Q E s:=by
 cases p with
 |none=>exact slicePart_none h
 |int i t=>exact slicePart_int h
theorem WP{sl:Addr}{vl vu:Value}{lo hi:Option Int}{n:Nat}{Q:Int×Int×Nat->Ag->Prop}(hs:s.heap.IsSliceOf sl vl vu .none)(pl:IsPart vl lo)(pu:IsPart vu hi)
  (h:Q (((sIx n 0 lo:Nat):Int),1,sIx n n hi - sIx n 0 lo) s):wpAny (model prog w) A (Hr (.ref sl) (pure (n:Int))) Q E s:=by
 obtain⟨os,hos,hcs,hds⟩:=id hs;unfold Hr Nd;refine Ac (Ac (De hos hds (x:=vl) rfl (Ac (De hos hds (x:=vu) rfl (Ac (De hos hds (x:= .none) rfl (As ?_)))))));refine Ac (slicePart_none ?_);show wpAny _ _ (if((1:Int)==0)=true then _ else _) _ _ s;rw[if_neg (by decide)];refine Ac (OZ pl (Ac (OZ pu (Ac (As ?_)))));show wpAny _ _ (match Fm lo hi 1 (n:Int) with|(lo,hi)=>pure (lo,(1:Int),Ep lo hi 1)) _ _ s;rw[GL lo hi n];show wpAny _ _ (pure (((sIx n 0 lo:Nat):Int),(1:Int),Ep ((sIx n 0 lo:Nat):Int) ((sIx n n hi:Nat):Int) 1)) _ _ s;rw[HL];exact As h
theorem AK(xs:Array Value)(i k:Nat):((Cs k).filterMap fun(m:Nat)=>xs[((i:Int)+(m:Int)*1).toNat]?).toArray=((xs.toList.drop i).take k).toArray:=by
 have e:(fun(m:Nat)=>xs[((i:Int)+(m:Int)*1).toNat]?)=fun m=>xs[i+m]? :=by
  funext m;have:((i:Int)+(m:Int)*1).toNat=i+m:=by lia
  rw[this]
 rw[e];have:=pick_run xs i k
 rw[List.filterMap_map] at this;have e2:((fun x=>xs[x]?)∘fun x=>i+x)=fun m=>xs[i+m]? :=rfl;rw[e2] at this;rw[this]
theorem RM{t sl:Addr}{items:Array Value}{vl vu:Value}{lo hi:Option Int}{Q:Value->Ag->Prop}(ht:IsTup s.heap t items)(hs:s.heap.IsSliceOf sl vl vu .none)(pl:IsPart vl lo)(pu:IsPart vu hi)
  (hw: ¬(sIx items.size 0 lo=0/\sIx items.size items.size hi=items.size))
  (h:Q (.ref s.heap.objs.size) {s with heap:=s.heap.push {cls:= .type "tuple",data:= .seq ((items.toList.drop (sIx items.size 0 lo)).take (sIx items.size items.size hi - sIx items.size 0 lo)).toArray}})
  (hsz:items.size<=sizeLine):wpAny (model prog w) A (Ix (.ref t) (.ref sl)) Q E s:=by
 have ci:sizeOk (.seq ((items.toList.drop (sIx items.size 0 lo)).take (sIx items.size items.size hi - sIx items.size 0 lo)).toArray):=by
  show((items.toList.drop (sIx items.size 0 lo)).take (sIx items.size items.size hi - sIx items.size 0 lo)).toArray.size<=sizeLine;rw[Am,Di,Mg,Fs];lia
 have hj:sIx items.size items.size hi<=items.size:=zF3 _ _ (Au _) hi;obtain⟨os,hos,hcs,hds⟩:=id hs;have hTs:s.TypeIs (.ref sl) "slice":=⟨os,hos,hcs⟩;unfold Ix;try with_reducible refine Cc ?_
 first|refine Ac (As ?_)|skip
 refine Ac (Ij ht.typeIs (by decide) ?_);refine Ac (Ct (name:=Bb "__getitem__") ht.typeIs Dn
  (Dy Dn ht.typeIs entry_tuple_getitem ?_ (args_tuple_getitem _ _)))
 show wpAny _ _ (Hs (.ref t)>>=_) _ _ s;refine Ac (tupleItemsOf_ ht ?_);refine Ac (Lz hTs ?_);rw[if_pos (by decide)];refine Ac (WP hs pl pu ?_);have hno: ¬((((sIx items.size 0 lo:Nat):Int)==0 && (1:Int)==1 && (sIx items.size items.size hi - sIx items.size 0 lo)==items.size)=true):=by
  intro q;rw[Af,Af] at q;have q1:((sIx items.size 0 lo:Nat):Int)=0:=eq_of_beq q.1.1;have q2:sIx items.size items.size hi - sIx items.size 0 lo=items.size:=eq_of_beq q.2;exact hw ⟨by lia,by lia⟩
 show wpAny _ _ (if(((sIx items.size 0 lo:Nat):Int)==0 && (1:Int)==1 && (sIx items.size items.size hi - sIx items.size 0 lo)==items.size)=true then _ else _) _ _ s;rw[if_neg hno,AK]
 first
  |exact Ac (m:=Ex _) (Dq (As ⟨_,rfl,As h⟩) ci)
  |exact Ac (m:=Ex _) (Dq (Ac (As (As ⟨_,rfl,As h⟩))) ci)
  |exact Ac (Ac (m:=Ex _) (Dq (As (As ⟨_,rfl,As h⟩)) ci))
  |exact Ac (Ac (m:=Ex _) (Dq (As ⟨_,rfl,As h⟩) ci))
end
end HT
namespace L2
open PySem PySem.Spec PyProof.Rows
abbrev TO:=St->Hp->(Option Int->Hp->Prop)->Prop
def PO(X:Cx)(e:Option Expr)(t:TO):Prop:=
 ∀(aa:List (Addr×Obj)) (s:Ag) (σ:St) (H:Hp) (Q:Option Int->Hp->Prop),cM X aa σ H s->t σ H Q→
  wpAny (model X.prog X.w) X.A (evalPart e X.env) (fun u s'=> ∃o H',cM X aa σ H' s'/\IsPart u o/\Q o H') X.xe s
def zBJ:TO:=fun _ H Q=>Q none H
def zI0(t:TE):TO:=fun σ H Q=>t σ H fun x H1=> ∃i,x= .int i/\Q (some i) H1
section
variable{X:Cx}{e:Expr}{te:TE}{lo hi:Option Expr}{tl th:TO}{pos p2:Pos}
theorem zBY:PO X none zBJ:=by
 intro aa s σ H Q I h;rw[evalPart_none];exact As ⟨none,H,I,.none,h⟩
theorem zBX(h:PE X e te):PO X (some e) (zI0 te):=by
 intro aa s σ H Q I hw;rw[evalPart_some];refine ZX (h aa s σ H _ I hw) fun u s1 ⟨x,H1,I1,r1,q1⟩=> ?_;obtain⟨i,rfl,q⟩:=q1;obtain⟨t,rfl⟩:=r1;exact⟨some i,H1,I1,.int i t,q⟩
def SlR(X:Cx)(r:V->Option Int->Option Int->Hp->VK->Prop):Prop:=
 ∀(aa:List (Addr×Obj)) (s:Ag) (σ:St) (H:Hp) (x:V) (v vl vu:Value) (lo hi:Option Int) (sl:Addr) (Q:VK),cM X aa σ H s->b6 x v->s.heap.IsSliceOf sl vl vu .none->IsPart vl lo->IsPart vu hi->r x lo hi H Q→
  ∃T id,typeLookup (.type T) "__getitem__"=pure (some (.builtin id))/\s.TypeIs v T/\wpAny (model X.prog X.w) X.A (Ix v (.ref sl)) (EP X aa σ Q) X.xe s
theorem SlR.or{r r':V->Option Int->Option Int->Hp->VK->Prop}(h:SlR X r)(h':SlR X r'):SlR X (fun x lo hi H Q=>r x lo hi H Q∨r' x lo hi H Q):=by
 intro aa s σ H x v vl vu lo hi sl Q I rx hs pl pu q;rcases q with q|q
 ·exact h aa s σ H x v vl vu lo hi sl Q I rx hs pl pu q
 ·exact h' aa s σ H x v vl vu lo hi sl Q I rx hs pl pu q
def tSl(r:V->Option Int->Option Int->Hp->VK->Prop)(te:TE)(tl th:TO):TE:=fun σ H Q=>te σ H fun x H1=>tl σ H1 fun l H2=>th σ H2 fun u H3=>r x l u H3 Q
theorem AI{r:V->Option Int->Option Int->Hp->VK->Prop}(hr:SlR X r)(he:PE X e te)(hl:PO X lo tl)(hu:PO X hi th):PE X (.Subscript e (.Slice lo hi none p2) pos) (tSl r te tl th):=by
 intro aa s σ H Q I h;refine Subscript_ (ZX (he aa s σ H _ I h) fun v s1 ⟨x,H1,I1,r1,q1⟩=> ?_);refine wpAny_Slice (ZX (hl aa s1 σ H1 _ I1 q1) fun vl s2 ⟨l,H2,I2,pl,q2⟩=>ZX (hu aa s2 σ H2 _ I2 q2) fun vu s3 ⟨u,H3,I3,pu,q3⟩=> ?_);rw[evalPart_none];refine As ?_;have I4:cM X aa σ H3 {s3 with heap:=s3.heap.push {cls:= .type "slice",data:= .fields #[vl,vu,.none]}}:=I3.kept (t':=s3.toks) fun b ob q=>Ad _ q;obtain⟨T,id,hT,ht,hg⟩:=hr aa {s3 with heap:=s3.heap.push {cls:= .type "slice",data:= .fields #[vl,vu,.none]}} σ H3 x v vl vu l u s3.heap.objs.size Q I4 r1 (Oj ..) pl pu q3;show wpAny (model X.prog X.w) X.A (subscriptTail e (.Slice lo hi none p2) v (.ref s3.heap.objs.size)) (EP X aa σ Q) X.xe {s3 with heap:=s3.heap.push {cls:= .type "slice",data:= .fields #[vl,vu,.none]}};exact Nv (ops:=[.ref s3.heap.objs.size,v]) ht hT hg (by with_unfolding_all rfl)
noncomputable def IZ(xs:List V)(lo hi:Option Int):List V:=(xs.drop (HT.sIx xs.length 0 lo)).take (HT.sIx xs.length xs.length hi - HT.sIx xs.length 0 lo)
theorem P2(xs:List V)(lo hi:Option Int):(IZ xs lo hi).length<=xs.length:=by
 unfold IZ;rw[Di,Mg];lia
def rSlT(K:Ai):V->Option Int->Option Int->Hp->VK->Prop:=fun x lo hi H Q=> ∃a xs,x= .ref a/\VC K H a xs∧
 ¬(HT.sIx xs.length 0 lo=0/\HT.sIx xs.length xs.length hi=xs.length)/\ ∀p,H p=none->Q (.ref p) (upd H p (.tup (IZ xs lo hi)))
theorem zEK:SlR X (rSlT X.K):=by
 intro aa s σ H x v vl vu lo hi sl Q I rx hs pl pu h;obtain⟨a,xs,rfl,hx,hw,q⟩:=h;cases rx;obtain⟨its,r,ht,hz⟩:=I.tuple hx;have ag:its.toArray.size=xs.length:=by rw[Am];exact r.length.symm
 refine⟨"tuple",_,PyProof.Rows.slot_tuple_getitem.lookup,ht.typeIs,?_⟩;refine HT.RM ht hs pl pu (by rw[ag];exact hw) ?_ (by rw[ag];exact hz);rw[ag];refine⟨.ref s.heap.objs.size,_,I.laid (t':=s.toks) (o:= .tup (IZ xs lo hi)) (fun b ob q=>Ad _ q) (Au _) ?_,rfl,q _ (I.hok.fresh (Au _))⟩;exact⟨Ea (P2 xs lo hi) hz,_,(r.drop (HT.sIx xs.length 0 lo)).take (HT.sIx xs.length xs.length hi - HT.sIx xs.length 0 lo),Kz _ _⟩
theorem bT.nil_iff{xs:List V}{us:List Value}(r:bT xs us):us=[]↔xs=[]:=by
 cases r with
 |nil=>simp
 |cons _ _=>simp
end
noncomputable def KP(n:Nat)(i:Int):Option Nat:=if 0<=i then(if i<n then some i.toNat else none) else if -(n:Int)<=i then some (i+n).toNat else none
noncomputable def WI{α:Type}(xs:List α)(i:Int):Option α:=(KP xs.length i).bind fun j=>xs[j]?
theorem FK{n:Nat}{i:Int}{j:Nat}(h:KP n i=some j):seqIndex? i n=some j/\j<n/\ -(n:Int)<=i/\i<n:=by
 unfold KP at h;by_cases h0:0<=i
 ·rw[if_pos h0] at h
  by_cases h1:i<n
  ·rw[if_pos h1] at h
   have e:i.toNat=j:=Bt h;exact⟨by rw[Mv h0 h1,e],by lia,by lia,h1⟩
  ·rw[if_neg h1] at h;cases h
 ·rw[if_neg h0] at h
  by_cases h1: -(n:Int)<=i
  ·rw[if_pos h1] at h
   have e:(i+n).toNat=j:=Bt h;exact⟨by rw[Mc (by lia) h1,e],by lia,h1,by lia⟩
  ·rw[if_neg h1] at h;cases h
theorem KS{α:Type}{xs:List α}{i:Int}{v:α}(h:WI xs i=some v): ∃j,seqIndex? i xs.length=some j/\xs[j]? =some v/\j<xs.length/\ -(xs.length:Int)<=i/\i<xs.length:=by
 unfold WI at h;cases e:KP xs.length i with
 |none=>rw[e] at h;cases h
 |some j=>
  rw[e] at h;obtain⟨h1,h2,h3,h4⟩:=FK e;exact⟨j,h1,h,h2,h3,h4⟩
def KQ(b:Expr):Prop:= ∀o i,subscripted b false o i=operate [o,i] (Ix o i)
def CZ(X:Cx)(r:R2):Prop:=
 ∀(value slice:Expr) (aa:List (Addr×Obj)) (s:Ag) (σ:St) (H:Hp) (x y:V) (v u:Value) (Q:VK),cM X aa σ H s->b6 x v->b6 y u->r x y H Q→
  subscripted slice false v u=operate [v,u] (Ix v u)->wpAny (model X.prog X.w) X.A (subscriptTail value slice v u) (EP X aa σ Q) X.xe s
def MtR(X:Cx)(id:String)(r:V->List V->Hp->VK->Prop):Prop:=
 ∀(aa:List (Addr×Obj)) (s:Ag) (σ:St) (H:Hp) (x:V) (xs:List V) (v:Value) (us:List Value) (Q:VK),cM X aa σ H s->b6 x v->bT xs us->r x xs H Q→
  wpAny (model X.prog X.w) X.A (call (.builtin id) (v::us)) (EP X aa σ Q) X.xe s
section
variable{X:Cx}{a b:Expr}{ta tb:TE}{pos:Pos}
theorem CZ.or{r r':R2}(h:CZ X r)(h':CZ X r'):CZ X (fun x y H Q=>r x y H Q∨r' x y H Q):=by
 intro value slice aa s σ H x y v u Q I rx ry q hs;rcases q with q|q
 ·exact h value slice aa s σ H x y v u Q I rx ry q hs
 ·exact h' value slice aa s σ H x y v u Q I rx ry q hs
theorem zJ5{r:R2}(hr:CZ X r)(ha:PE X a ta)(hb:PE X b tb)(hs:KQ b):PE X (.Subscript a b pos) (tOp r ta tb):=by
 intro aa s σ H Q I h;exact Subscript_ (binT ha hb I h fun v u s2 x y H2 I2 rx ry q=>hr a b aa s2 σ H2 x y v u Q I2 rx ry q (hs _ _))
def rIxL(K:Ai):R2:=fun x y H Q=> ∃p xs i v,x= .ref p/\y= .int i/\XZ K H p xs/\WI xs i=some v/\Q v H
def rIxT(K:Ai):R2:=fun x y H Q=> ∃p xs i v,x= .ref p/\y= .int i/\VC K H p xs/\WI xs i=some v/\Q v H
def rIxS:R2:=fun x y H Q=> ∃z i c,x= .str z/\y= .int i/\z.length<=sizeLine/\WI z.cps.toList i=some c/\Q (.str ⟨#[c]⟩) H
theorem zCR:CZ X (rIxL X.K):=by
 intro value slice aa s σ H x y v u Q I rx ry h hs;obtain⟨p,xs,i,z,rfl,rfl,hq,he,q⟩:=h;cases rx;obtain⟨t,rfl⟩:=ry;obtain⟨its,r,pl,hz⟩:=I.list hq;obtain⟨j,h1,h2,h3,h4,h5⟩:=KS he;obtain⟨w,ew,rw'⟩:=r.get h2;have hl:=r.length;have hn:=QY;have fin:EP X aa σ Q w s:=⟨z,H,I,rw',q⟩;by_cases h0:0<=i
 ·have hj:i.toNat=j:=by
   rw[Mv h0 h5] at h1;exact Bt h1
  exact item_listR pl.isList h0 (by lia) (by rw[hj];simpa using ew) fin hs
 ·have hj:(i+(its.toArray.size:Int)).toNat=j:=by
   rw[Mc (by lia) h4] at h1;rw[Am,<- hl];exact Bt h1
  exact Jh (x:=w) pl.isList.typeIs slot_list_getitem.lookup
   (wpAny_getItem_list_neg (Q:=fun r s'=>r=w/\EP X aa σ Q r s') pl.isList (by lia) (by rw[Am]<;>lia) (by lia) (by rw[hj];simpa using ew) ⟨rfl,fin⟩) hs
theorem zH9:CZ X (rIxT X.K):=by
 intro value slice aa s σ H x y v u Q I rx ry h hs;obtain⟨p,xs,i,z,rfl,rfl,hq,he,q⟩:=h;cases rx;obtain⟨t,rfl⟩:=ry;obtain⟨its,r,pl,hz⟩:=I.tuple hq;obtain⟨j,h1,h2,h3,h4,h5⟩:=KS he;obtain⟨w,ew,rw'⟩:=r.get h2;have hl:=r.length;have hn:=QY;have fin:EP X aa σ Q w s:=⟨z,H,I,rw',q⟩;exact Jh (x:=w) pl.typeIs slot_tuple_getitem.lookup
  (getItem_tuple (j:=j) (Q:=fun r s'=>r=w/\EP X aa σ Q r s') pl (by lia) (by lia) (by rw[Am,<- hl];exact h1) (by simpa using ew) ⟨rfl,fin⟩) hs
theorem zHA:CZ X rIxS:=by
 intro value slice aa s σ H x y v u Q I rx ry h hs;obtain⟨z,i,c,rfl,rfl,hz,he,q⟩:=h;obtain⟨t,rfl⟩:=rx;obtain⟨t',rfl⟩:=ry;obtain⟨j,h1,h2,h3,h4,h5⟩:=KS he;have hl:z.cps.toList.length=z.length:=by simp[Str.length]
 rw[hl] at h1 h4 h5;have hn:=QY;exact Nv (typeIs_str s z t) slot_str_getitem.lookup (getItem_str (c:=c) (by
  have e1:decide (i< -(2 ^ 63:Int))=false:=decide_eq_false (by lia);have e2:decide (i≥2 ^ 63)=false:=decide_eq_false (by lia);rw[e1,e2,Bool.or_false]) (by rw[h1];simpa using h2) ⟨.str ⟨#[c]⟩,H,I.tok _,⟨_,rfl⟩,q⟩) hs
def rIx(K:Ai):R2:=fun x y H Q=>rIxL K x y H Q∨rIxT K x y H Q∨rIxS x y H Q
theorem zHB:CZ X (rIx X.K):=zCR.or (zH9.or zHA)
theorem HD(its:List Value)(n j:Nat)(u:Value):Ik (·.setIfInBounds j u) {cls:= .type "list",data:= .seq its.toArray n}={cls:= .type "list",data:= .seq (its.set j u).toArray n}:=by simp[Ik]
theorem cM.lst{aa:List (Addr×Obj)}{σ:St}{H:Hp}{s:Ag}{p:Addr}{xs:List V}(I:cM X aa σ H s)(h:H p=some (.lst xs)):
  ∃(its:List Value) (n:Nat),bT xs its/\s.heap.get? p=some {cls:= .type "list",data:= .seq its.toArray n}/\xs.length<=sizeLine:=by
 obtain⟨z,its,n,r,e⟩:=I.hok p _ h;exact⟨its,n,r,e,z⟩
theorem cM.lstUpd{aa:List (Addr×Obj)}{σ:St}{H:Hp}{s:Ag}{p:Addr}{xs ys:List V}{its its':List Value}{n n':Nat}{f:Obj->Obj}(I:cM X aa σ H s)(h:H p=some (.lst xs))
  (ho:s.heap.get? p=some {cls:= .type "list",data:= .seq its.toArray n}) (hf:f {cls:= .type "list",data:= .seq its.toArray n}={cls:= .type "list",data:= .seq its'.toArray n'}) (r:bT ys its') (hz:ys.length<=sizeLine) (t:Nat):
  cM X aa σ (upd H p (.lst ys)) {s with heap:=s.heap.update p f,toks:=t}:=by
 have e:(s.heap.update p f).get? p=some {cls:= .type "list",data:= .seq its'.toArray n'}:=by rw[Ju f ho (by rw[hf]<;>rfl),hf]
 refine I.write (x:=p) (e:=p) (by rw[h];trivial) (.inl rfl) (fun b u hb q=>(Cf _ _ (Dj hb)).trans q) ⟨_,e⟩ ?_;exact⟨hz,its',n',r,e⟩
def zIP:V->V->V->Hp->(Hp->Prop)->Prop:=fun o i v H Q=> ∃p xs k j,o= .ref p/\i= .int k/\H p=some (.lst xs)/\KP xs.length k=some j/\Q (upd H p (.lst (xs.set j v)))
theorem BN:PSet X zIP:=by
 intro aa s σ H o i v ov iv u Q I ro ri rv h;obtain⟨p,xs,k,j,rfl,rfl,hp,hj,q⟩:=h;cases ro;obtain⟨t,rfl⟩:=ri;obtain⟨its,n,r,ho,hz⟩:=I.lst hp;obtain⟨h1,h2,h3,h4⟩:=FK hj;have hl:=r.length;have hn:=QY;have I':cM X aa σ (upd H p (.lst (xs.set j v))) {s with heap:=s.heap.update p (Ik (·.setIfInBounds j u))}:=
  I.lstUpd hp ho (HD its n j u) (r.set rv j) (by rw[Df];exact hz) s.toks
 by_cases h0:0<=k
 ·have hk:k.toNat=j:=by
   rw[Mv h0 h4] at h1;exact Bt h1
  exact W.ki_setAt ho h0 (by lia) (by rw[Am,<- hl];exact h4) (by rw[hk];exact⟨_,I',q⟩)
 ·have hk:(k+(its.toArray.size:Int)).toNat=j:=by
   rw[Mc (by lia) h3] at h1;rw[Am,<- hl];exact Bt h1
  exact W.ki_setBack ho (by lia) (by rw[Am,<- hl];exact h3) (by lia) (by rw[hk];exact⟨_,I',q⟩)
theorem L8(lo hi:Option Int)(n:Nat):(Gk lo hi none n).1=((HT.sIx n 0 lo:Nat):Int)/\(Gk lo hi none n).2.1=((HT.sIx n n hi:Nat):Int)/\(Gk lo hi none n).2.2=1:=by
 refine⟨?_,?_,rfl⟩
 ·cases lo with
  |none=>simp[Gk,HT.sIx]
  |some i=>
   simp only[Gk,HT.sIx,Mh,show(1:Int)>0 by decide,if_true];by_cases h:i<0
   ·simp only[h,if_true]<;>lia
   ·simp only[h,if_false]<;>lia
 ·cases hi with
  |none=>simp[Gk,HT.sIx]
  |some i=>
   simp only[Gk,HT.sIx,Mh,show(1:Int)>0 by decide,if_true];by_cases h:i<0
   ·simp only[h,if_true]<;>lia
   ·simp only[h,if_false]<;>lia
theorem NS(its:List Value)(lo hi:Option Int):slicePick its.toArray lo hi none=((its.drop (HT.sIx its.length 0 lo)).take (HT.sIx its.length its.length hi - HT.sIx its.length 0 lo)).toArray:=by
 obtain⟨h1,h2,h3⟩:=L8 lo hi its.toArray.size;unfold slicePick;rw[h1,h2,h3];simp only[sliceRange_one,pick_run,Am]<;>rfl
def rSlL(K:Ai):V->Option Int->Option Int->Hp->VK->Prop:=fun x lo hi H Q=> ∃a xs,x= .ref a/\XZ K H a xs/\ ∀p,H p=none->Q (.ref p) (upd H p (.lst (IZ xs lo hi)))
theorem zBM:SlR X (rSlL X.K):=by
 intro aa s σ H x v vl vu lo hi sl Q I rx hs pl pu h;obtain⟨a,xs,rfl,hx,q⟩:=h;cases rx;obtain⟨its,r,ht,hz⟩:=I.list hx;have ag:=r.length;refine⟨"list",_,slot_list_getitem.lookup,ht.isList.typeIs,?_⟩;refine wpAny_getItem_list_slice ht.isList hs pl pu .none (by simp) ?_ (by rw[Am]<;>lia);rw[NS,<- ag];refine⟨.ref s.heap.objs.size,_,I.laid (t':=s.toks) (o:= .lst (IZ xs lo hi)) (fun b ob q=>Ad _ q) (Au _) ?_,rfl,q _ (I.hok.fresh (Au _))⟩;exact⟨Ea (P2 xs lo hi) hz,_,0,(r.drop (HT.sIx xs.length 0 lo)).take (HT.sIx xs.length xs.length hi - HT.sIx xs.length 0 lo),At _ rfl⟩
theorem K2:aW X (.builtin "len") (fun xs H Q=> ∃p ys,xs=[.ref p]/\(XZ X.K H p ys∨VC X.K H p ys)/\Q (.int ys.length) H):=by
 intro aa s σ H xs us Q I r h;obtain⟨p,ys,rfl,hq,q⟩:=h;obtain⟨u,rfl,rx⟩:=TM r;cases rx;have hn:=QY;rcases hq with hq|hq
 ·obtain⟨its,r',pl,hz⟩:=I.list hq
  have ag:=r'.length;exact Calls.call_len_list pl.isList (by simp only[Am]<;>lia) ⟨.int ys.length,H,I.tok _,⟨s.toks+1,by rw[Am,ag]⟩,q⟩
 ·obtain⟨its,r',pl,hz⟩:=I.tuple hq
  have ag:=r'.length;exact len_tuple pl (by simp only[Am]<;>lia) ⟨.int ys.length,H,I.tok _,⟨s.toks+1,by rw[Am,ag]⟩,q⟩
theorem K3:aW X (.builtin "len") (fun xs H Q=> ∃z,xs=[.str z]/\z.length<=sizeLine/\Q (.int z.length) H):=by
 intro aa s σ H xs us Q I r h;obtain⟨z,rfl,hz,q⟩:=h;obtain⟨u,rfl,t,rfl⟩:=TM r;have hn:=QY;exact len_str (by lia) ⟨.int z.length,H,I.tok _,⟨_,rfl⟩,q⟩
theorem aW.or{f:Value}{r r':List V->Hp->VK->Prop}(h:aW X f r)(h':aW X f r'):aW X f (fun xs H Q=>r xs H Q∨r' xs H Q):=by
 intro aa s σ H xs us Q I rs q;rcases q with q|q
 ·exact h aa s σ H xs us Q I rs q
 ·exact h' aa s σ H xs us Q I rs q
theorem K4:aW X (.type "list") (fun xs H Q=> ∃p ys,xs=[.ref p]/\(XZ X.K H p ys∨VC X.K H p ys)/\ ∀l,H l=none->Q (.ref l) (upd H l (.lst ys))):=by
 intro aa s σ H xs us Q I r h;obtain⟨p,ys,rfl,hq,q⟩:=h;obtain⟨u,rfl,rx⟩:=TM r;cases rx;have fin: ∀(its:List Value),bT ys its->ys.length<=sizeLine-> ∀(h':Heap) (c':Nat),(∀b o',s.heap.get? b=some o'->h'.get? b=some o')→
   h'.get? s.heap.objs.size=some {cls:= .type "list",dict:=none,data:= .seq its.toArray c',slots:= #[]}->EP X aa σ Q (.ref s.heap.objs.size) {s with heap:=h'}:=fun its r' hz h' c' kp e=>
  ⟨.ref s.heap.objs.size,_,I.laid (t':=s.toks) kp (Au _) (show aP X.prog X.w _ h' _ (.lst ys) from⟨hz,its,c',r',e⟩),rfl,q _ (I.hok.fresh (Au _))⟩
 rcases hq with hq|hq
 ·obtain⟨its,r',pl,hz⟩:=I.list hq
  have ag:=r'.length;obtain⟨o,ho,hc,n,hd⟩:=pl.isList;exact call_list_seq p (.inl rfl) ho hc hd (fun h' c' kp e=>fin its r' hz h' c' kp e) (by simp only[Am]<;>lia)
 ·obtain⟨its,r',pl,hz⟩:=I.tuple hq
  have ag:=r'.length;obtain⟨o,ho,hc,n,hd⟩:=pl;exact call_list_seq p (.inr rfl) ho hc hd (fun h' c' kp e=>fin its r' hz h' c' kp e) (by simp only[Am]<;>lia)
theorem NL:aW X (.type "tuple") (fun xs H Q=> ∃p ys,xs=[.ref p]/\((XZ X.K H p ys/\ ∀l,H l=none->Q (.ref l) (upd H l (.tup ys)))∨(VC X.K H p ys/\Q (.ref p) H))):=by
 intro aa s σ H xs us Q I r h;obtain⟨p,ys,rfl,h⟩:=h;obtain⟨u,rfl,rx⟩:=TM r;cases rx;rcases h with⟨hq,q⟩|⟨hq,q⟩
 ·obtain⟨its,r',pl,hz⟩:=I.list hq
  have ag:=r'.length;refine call_tuple_list pl.isList (fun h' kp=> ?_) (by simp only[Am]<;>lia);have I1:cM X aa σ H {s with heap:=h'}:=I.kept (t':=s.toks) kp;have I2:cM X aa σ (upd H h'.objs.size (.tup ys)) {s with heap:=h'.push {cls:= .type "tuple",data:= .seq its.toArray}}:=
   I1.laid (t':=s.toks) (fun b o e=>Ad _ e) (Au _) (show aP X.prog X.w _ _ _ (.tup ys) from⟨hz,its,r',Kz _ _⟩)
  exact⟨.ref h'.objs.size,_,I2,rfl,q _ (I1.hok.fresh (Au _))⟩
 ·obtain⟨its,r',pl,hz⟩:=I.tuple hq
  exact call_tuple_same pl ⟨.ref p,H,I,rfl,q⟩
def tyV(K:Ai)(T:String)(x:V)(H:Hp):Prop:=match x with
 | .str _=>T= "str"
 | .int _=>T= "int"
 | .ref p => (T = "list" /\ ∃ xs,XZ K H p xs) ∨ (T = "tuple" /\ ∃ o,K.lookup p = some o /\ o.cls = .type "tuple" /\ o.dict = none) ∨
   (T= "dict" /\((∃kvs,H p=some (.dK kvs))∨ ∃kvs,H p=some (.dT kvs)))∨(T= "set" /\ ∃S n,H p=some (.set S n))
 |_=>False
theorem zEC{aa:List (Addr×Obj)}{σ:St}{H:Hp}{s:Ag}{T:String}{x:V}{v:Value}(I:cM X aa σ H s)(r:b6 x v)(ty:tyV X.K T x H):
  s.TypeIs v T/\ ∀a,v= .ref a-> ∃ob,s.heap.get? a=some ob/\ob.dict=none:=by
 cases x with
 |str z=>
  obtain⟨t,rfl⟩:=r;cases (show T= "str" from ty);exact⟨typeIs_str s z t,fun _ e=>nomatch e⟩
 |int i=>
  obtain⟨t,rfl⟩:=r;cases (show T= "int" from ty);exact⟨Nm s i t,fun _ e=>nomatch e⟩
 |ref p=>
  cases r;rcases ty with⟨rfl,xs,hq⟩|⟨rfl,o,hk,hc,hd⟩|⟨rfl,hk⟩|⟨rfl,S,n,hk⟩
  ·obtain⟨its,_,pl,_⟩:=I.list hq
   refine⟨pl.isList.typeIs,fun a e=> ?_⟩;cases e;obtain⟨o,n,e,c,hd,_⟩:=pl;exact⟨o,e,hd⟩
  ·refine ⟨⟨o,I.kIn p o hk,hc⟩,fun a e => ?_⟩
   cases e;exact⟨o,I.kIn _ o hk,hd⟩
  ·have z: ∃o,s.heap.get? p=some o/\o.ExactDict:=by
    rcases hk with⟨kvs,hk⟩|⟨kvs,hk⟩
    ·obtain⟨_,_,_,_,o,_,_,e,ex,_⟩:=I.hok p _ hk
     exact⟨o,e,ex⟩
    ·obtain⟨_,_,_,_,o,_,_,e,ex,_⟩:=I.hok p _ hk
     exact⟨o,e,ex⟩
   obtain⟨o,e,ex⟩:=z;refine⟨⟨o,e,ex.1⟩,fun a e2=> ?_⟩;cases e2;exact⟨o,e,ex.2.1⟩
  ·obtain⟨o,_,_,_,e,ex,_⟩:=I.hok p _ hk
   refine⟨⟨o,e,ex.1⟩,fun a e2=> ?_⟩;cases e2;exact⟨o,e,ex.2.1⟩
 |_=>exact Ej ty
def tBM(K:Ai)(T:String)(r:V->List V->Hp->VK->Prop)(to:TE)(t:TA):TE:=fun σ H Q=>to σ H fun x H1=>tyV K T x H1/\t σ H1 fun xs H2=>r x xs H2 Q
variable{o e:Expr}{es:List Expr}{to:TE}{t:TA}{name:Str}{ah ae:Pos}{T id:String}{r:V->List V->Hp->VK->Prop}
theorem zJ6(pa:PlainAttrs T)(slot:Slot T name id)(hty:typeOf (.builtin id)=pure (.type "method_descriptor")) (hm:MtR X id r) (ho:PE X o to) (ha:PA X (e::es) t)
  (ar:By o name X.env (eval o X.env)=eval o X.env:=by rfl)
  (ca : ((Dh ae (Ae (e :: es) X.env)).all (fun x => !x.1) && (Hb ae (Fe [] X.env)).all (fun x => x.1.isSome)
   && decide ((e::es).length+([]:List Gm).length+(if([]:List Gm).isEmpty then 0 else 1)<30))=true:=by rfl)
  (ao:(ah.endLine==ae.line)=true:=by rfl) (hs:Ae (e::es) X.env=(false,eval e X.env)::Ae es X.env:=by rfl) (ak:(Dh ae (Ae es X.env)).any (·.1)=false:=by rfl):
  PE X (.Call (.Attribute o name ah) (e::es) [] ae) (tBM X.K T r to t):=by
 intro aa s σ H Q I h;refine wpAny_Call_method_late ar ca ao rfl (ZX (ho aa s σ H _ I h) fun v s1 ⟨x,H1,I1,r1,ty,q1⟩=> ?_);obtain⟨h1,h2⟩:=zEC I1 r1 ty;refine⟨T,id,pa,slot,hty,h1,h2,?_⟩;have hA:=ha ae aa s1 σ H1 _ I1 q1;rw[hs] at hA⊢;refine Gg (by show(false || (Dh ae (Ae es X.env)).any (·.1))=false;rw[ak]<;>rfl) (Gw ?_);exact ZX hA fun us s2 ⟨vs,H2,I2,r2,q2⟩=>hm aa s2 σ H2 x vs v us Q I2 r1 r2 q2
end
def MtM(X:Cx)(id:String)(r:V->List V->Hp->VK->Prop):Prop:=
 ∀(aa:List (Addr×Obj)) (s:Ag) (σ:St) (H:Hp) (x:V) (xs:List V) (v:Value) (us:List Value) (Q:VK),cM X aa σ H s->b6 x v->bT xs us->r x xs H Q→
  wpAny (model X.prog X.w) X.A (call (.builtin id) (v::us)) (EP X aa σ Q) X.xe s
theorem bT.one: ∀{x:V} {us:List Value},bT [x] us-> ∃u,us=[u]/\b6 x u
 |_,_,.cons r .nil=>⟨_,rfl,r⟩
section
variable{X:Cx}{aa:List (Addr×Obj)}{σ:St}{H:Hp}{s:Ag}{l b:Addr}{xs ys zs:List V}
theorem cM.lset{its its':List Value}{n:Nat}{f:Array Value->Array Value}{t':Nat}(I:cM X aa σ H s)(hH:H l=some (.lst xs))
  (e:s.heap.get? l=some {cls:= .type "list",data:= .seq its.toArray n}) (hf:f its.toArray=its'.toArray) (hv:bT ys its') (hz:ys.length<=sizeLine):
  cM X aa σ (upd H l (.lst ys)) {s with heap:=s.heap.update l (Ik f),toks:=t'}:=by
 have q:=Jd e f;rw[hf] at q;refine I.write (x:=l) (e:=l) (by rw[hH];exact trivial) (.inl rfl) (fun b' u hb hu=>(Cf s.heap (Ik f) (Dj hb)).trans hu) ⟨_,q⟩ ?_;exact⟨hz,its',_,hv,q⟩
theorem cM.lnew{its:List Value}{t':Nat}(I:cM X aa σ H s)(hv:bT ys its)(hz:ys.length<=sizeLine):
  cM X aa σ (upd H s.heap.objs.size (.lst ys)) {s with heap:=s.heap.push {cls:= .type "list",data:= .seq its.toArray},toks:=t'}:=
 I.laid (fun _ _ q=>Ad _ q) (Au _) ⟨hz,its,0,hv,At _ rfl⟩
theorem cM.fresh(I:cM X aa σ H s):H s.heap.objs.size=none:=I.hok.fresh (Au _)
theorem cM.lstM(I:cM X aa σ H s)(hH:H l=some (.lst xs)):xs.length<=sizeLine/\ ∃(its:List Value) (n:Nat),bT xs its/\xs.length=its.length/\s.heap.get? l=some {cls:= .type "list",data:= .seq its.toArray n}:=by
 obtain⟨z,its,n,r,e⟩:=I.hok l _ hH;exact⟨z,its,n,r,r.length,e⟩
theorem zA8{n:Nat}(h:n<=sizeLine):Ey n=false:=by
 unfold Ey;exact decide_eq_false (by lia)
end
section
variable{X:Cx}
def FW:V->List V->Hp->VK->Prop:=fun x vs H Q=> ∃l xs y,x= .ref l/\vs=[y]/\H l=some (.lst xs)/\xs.length<sizeLine/\Q .non (upd H l (.lst (xs++[y])))
theorem YI:MtM X "list.append" FW:=by
 intro aa s σ H x vs v us Q I rx rv h;obtain⟨l,xs,y,rfl,rfl,hH,hz,q⟩:=h;cases rx;obtain⟨u,rfl,ru⟩:=rv.one;obtain⟨z,its,n,r,hl,e⟩:=I.lstM hH;refine Il Hx ⟨_,e,rfl⟩ Hj (Gx _ _) (Im l its.toArray n u (by rw[Am];lia)) ⟨e,?_⟩;refine⟨.non,_,I.lset (its':=its++[u]) hH e (by simp) (r.append (.cons ru .nil)) ?_,rfl,q⟩;rw[Al,Bx];lia
end
section
variable{prog:Ax}{w:World}{A:Cm}{E:Value->Ag->Prop}{s:Ag}
set_option maxRecDepth 100000 in
end
section
variable{κ:Type}[DecidableEq κ]
noncomputable def TW(kvs:List (κ×V))(k:κ):Option V:=(kvs.find? fun kv=>decide (kv.1=k)).map (·.2)
noncomputable def YJ(kvs:List (κ×V))(k:κ)(v:V):List (κ×V):=
 if(kvs.any fun kv=>decide (kv.1=k))=true then kvs.map (fun kv=>if kv.1=k then(kv.1,v) else kv) else kvs++[(k,v)]
theorem R7{p:κ×V}{r:List (κ×V)}{k:κ}(e:p.1=k):TW (p::r) k=some p.2:=by simp[TW,Fi,e]
theorem U5{p:κ×V}{r:List (κ×V)}{k:κ}(e: ¬p.1=k):TW (p::r) k=TW r k:=by simp[TW,Fi,e]
theorem O5(k:κ): ∀kvs:List (κ×V),(kvs.any fun kv=>decide (kv.1=k))=(TW kvs k).isSome
 |[]=>rfl
 |p::r=>by
  rw[Gc];by_cases e:p.1=k
  ·simp only[R7 e,decide_eq_true e,Bool.true_or,La]
  ·rw[U5 e,decide_eq_false e,Nw];exact O5 k r
theorem UW(kvs:List (κ×V))(k:κ)(v:V):(YJ kvs k v).length<=kvs.length+1:=by
 unfold YJ;split
 ·rw[Av];lia
 ·rw[Al,Az,Jv];lia
theorem AW{kvs:List (κ×V)}{k:κ}(v:V)(h:TW kvs k=none):YJ kvs k v=kvs++[(k,v)]:=by
 unfold YJ;rw[O5,h];exact if_neg (by decide)
theorem WJ.isSome_eq{o:Option V}{u:Option Value}(r:WJ o u):o.isSome=u.isSome:=by
 cases o with
 |none=>cases u with
  |none=>rfl
  |some _=>exact(show False from r).elim
 |some _=>cases u with
  |none=>exact(show False from r).elim
  |some _=>rfl
theorem WJ.getD{o:Option V}{u:Option Value}{d:V}{d':Value}(r:WJ o u)(rd:b6 d d'):b6 (o.getD d) (u.getD d'):=by
 cases o with
 |none=>cases u with
  |none=>exact rd
  |some _=>exact(show False from r).elim
 |some _=>cases u with
  |none=>exact(show False from r).elim
  |some _=>exact r
theorem KV.val{kvs:List (κ×V)}{vs:List (κ×Value)}(r:KV kvs vs)(k:κ):WJ (TW kvs k) (Lk vs k):=by
 unfold KV at r;induction r with
 |nil=>exact True.intro
 | @cons p q ps qs h t ih=>
  obtain⟨h1,h2⟩:=h;by_cases e:p.1=k
  ·have e':q.1=k:=h1.symm.trans e
   have b:Lk (q::qs) k=some q.2:=by simp[Lk,Fi,e']
   rw[R7 e,b];exact h2
  ·have e' : ¬ q.1 = k := fun z => e (h1.trans z)
   have b:Lk (q::qs) k=Lk qs k:=by simp[Lk,Fi,e']
   rw[U5 e,b];exact ih
theorem KV.any{kvs:List (κ×V)}{vs:List (κ×Value)}(r:KV kvs vs)(k:κ):(kvs.any fun kv=>decide (kv.1=k))=vs.any fun kv=>decide (kv.1=k):=by
 unfold KV at r;induction r with
 |nil=>rfl
 |cons h t ih=>rw[Gc,Gc,ih,h.1]
theorem KV.repl{kvs:List (κ×V)}{vs:List (κ×Value)}(r:KV kvs vs)(k:κ){y:V}{u:Value}(ry:b6 y u):
  KV (kvs.map fun kv=>if kv.1=k then(kv.1,y) else kv) (vs.map fun kv=>if kv.1=k then(kv.1,u) else kv):=by
 unfold KV at r⊢;induction r with
 |nil=>exact .nil
 | @cons p q ps qs h t ih=>
  rw[Ay,Ay];refine .cons ?_ ih;obtain⟨h1,h2⟩:=h;by_cases e:p.1=k
  ·rw[if_pos e,if_pos (h1.symm.trans e)];exact⟨h1,ry⟩
  ·rw[if_neg e,if_neg (fun z=>e (h1.trans z))];exact⟨h1,h2⟩
theorem KV.put{kvs:List (κ×V)}{vs:List (κ×Value)}(r:KV kvs vs)(k:κ){y:V}{u:Value}(ry:b6 y u):KV (YJ kvs k y) (stored vs k u):=by
 unfold YJ stored;rw[r.any k];by_cases e:(vs.any fun kv=>decide (kv.1=k))=true
 ·rw[if_pos e,if_pos e];exact r.repl k ry
 ·rw[if_neg e,if_neg e];exact Oi r ⟨rfl,ry⟩
theorem KV.length{kvs:List (κ×V)}{vs:List (κ×Value)}(r:KV kvs vs):kvs.length=vs.length:=Ku r
end
theorem JP{P:Ax}{w:World}{k:aY}{u:Value}(r:b6 (kV k) u):(aB P w).is k u=true:=by
 cases k with
 |inl i=>obtain⟨t,e⟩:=(show∃t,u=Ks i t from r);subst e;exact JW P w i t
 |inr x=>obtain⟨t,e⟩:=(show∃t,u=Kt x t from r);subst e;exact JX P w x t
theorem MW{P:Ax}{w:World}: ∀{ks:List aY} {us:List Value},bT (ks.map kV) us->ItemsAre (aB P w) ks us
 |[],_,r=>by rw[Co] at r;cases r;exact .nil
 |k::ks,_,r=>by
  rw[Ay] at r;cases r with
  |cons h t=>exact .cons (JP h) (MW t)
abbrev KT(H:Hp):List (List aY×V)->List (List aY×Addr×Value)->Prop:=Paired fun p q=>p.1=q.1/\H q.2.1=some (.tup (p.1.map kV))/\b6 p.2 q.2.2
theorem KT.val{H:Hp}{kvs:List (List aY×V)}{xs:List (List aY×Addr×Value)}(r:KT H kvs xs)(k:List aY):WJ (TW kvs k) ((atKey xs k).map (·.2)):=by
 induction r with
 |nil=>exact True.intro
 | @cons p q ps qs h t ih=>
  obtain⟨h1,_,h2⟩:=h;by_cases e:p.1=k
  ·have e':q.1=k:=h1.symm.trans e
   have b:atKey (q::qs) k=some q.2:=by simp[atKey,Fi,e']
   rw[R7 e,b];exact h2
  ·have e' : ¬ q.1 = k := fun z => e (h1.trans z)
   have b:atKey (q::qs) k=atKey qs k:=by simp[atKey,Fi,e']
   rw[U5 e,b];exact ih
theorem KT.repl{H:Hp}{kvs:List (List aY×V)}{xs:List (List aY×Addr×Value)}(r:KT H kvs xs)(k:List aY){y:V}{u:Value}(ry:b6 y u):
  KT H (kvs.map fun kv=>if kv.1=k then(kv.1,y) else kv) (xs.map (putAt k u)):=by
 induction r with
 |nil=>exact .nil
 | @cons p q ps qs h t ih=>
  rw[Ay,Ay];refine .cons ?_ ih;obtain⟨h1,h2,h3⟩:=h;unfold putAt;by_cases e:p.1=k
  ·rw[if_pos e,if_pos (h1.symm.trans e)];exact⟨h1,h2,ry⟩
  ·rw[if_neg e,if_neg (fun z=>e (h1.trans z))];exact⟨h1,h2,h3⟩
theorem KT.put{H:Hp}{kvs:List (List aY×V)}{xs:List (List aY×Addr×Value)}(r:KT H kvs xs)(k:List aY){b:Addr}{y:V}{u:Value}(hb:H b=some (.tup (k.map kV)))(ry:b6 y u):
  KT H (YJ kvs k y) (storedH xs k b u):=by
 have e:(kvs.any fun kv=>decide (kv.1=k))=(atKey xs k).isSome:=by rw[O5,(r.val k).isSome_eq,Option.isSome_map]
 unfold YJ storedH;rw[e];by_cases q:(atKey xs k).isSome=true
 ·rw[if_pos q,if_pos q];exact r.repl k ry
 ·rw[if_neg q,if_neg q];exact Oi r ⟨rfl,hb,ry⟩
theorem KT.keeps{H H':Hp}{kvs:List (List aY×V)}{xs:List (List aY×Addr×Value)}(r:KT H kvs xs)(ht: ∀b ys,H b=some (.tup ys)->H' b=some (.tup ys)):KT H' kvs xs:=
 Paired.mapP r fun _ _ z=>⟨z.1,ht _ _ z.2.1,z.2.2⟩
section
variable{P:Ax}{w:World}{H:Hp}{h:Heap}{a:Addr}
theorem zDJ{u:HO}(ok:T3 P w H h)(e:Rd H a u):aP P w H h a u:=e.ok ok
theorem JC{kvs:List (aY×V)}(ok:T3 P w H h)(e:Rd H a (.dK kvs)):kvs.length<=sizeLine/\(a==Ei)=false/\ ∃vs,KV kvs vs/\h.DictOf (aB P w) a vs:=
 show aP P w H h a (.dK kvs) from zDJ ok e
theorem zE0{kvs:List (aY×V)}(ok:T3 P w H h)(e:H a=some (.dK kvs)):kvs.length<=sizeLine/\(a==Ei)=false/\ ∃vs,KV kvs vs/\h.DictOf (aB P w) a vs:=JC ok (Rd.of e)
theorem LN{ks:List aY}(ok:T3 P w H h)(e:H a=some (.tup (ks.map kV))):(tupleKind (aB P w)).is h ks a:=by
 obtain⟨_,its,r,o,h1,h2,n,h3⟩:=(show aP P w H h a (.tup (ks.map kV)) from ok a _ e);exact⟨o,its.toArray,n,h1,h2,h3,by simpa using MW r⟩
theorem JD{kvs:List (List aY×V)}(ok:T3 P w H h)(e:Rd H a (.dT kvs)):kvs.length<=sizeLine/\(a==Ei)=false∧
  ∃xs,KT H kvs xs/\h.DictOfH (tupleKind (aB P w)) a xs:=by
 obtain⟨z,y,xs,r,o,es,ep,h1,h2,h3,h4,h5⟩:=(show aP P w H h a (.dT kvs) from zDJ ok e);refine⟨z,y,xs,r,o,es,ep,h1,h2,h3,h4,fun x hx=> ?_,h5⟩;have all: ∀{l:List (List aY×V)} {m:List (List aY×Addr×Value)},KT H l m-> ∀x∈m,(tupleKind (aB P w)).is h x.1 x.2.1:=by
  intro l m q;induction q with
  |nil=>intro x hx;exact nomatch hx
  | @cons p q ps qs hq t ih=>
   intro x hx;rcases Ap.mp hx with e|hx
   ·subst e
    exact LN ok (by rw[<- hq.1];exact hq.2.1)
   ·exact ih x hx
 exact all r x hx
theorem zK8{kvs:List (List aY×V)}(ok:T3 P w H h)(e:H a=some (.dT kvs)):kvs.length<=sizeLine/\(a==Ei)=false∧
  ∃xs,KT H kvs xs/\h.DictOfH (tupleKind (aB P w)) a xs:=JD ok (Rd.of e)
end
def NH(H:Hp)(a:Addr)(y:V)(r:Option V):Prop:=
 (∃kvs k,Rd H a (.dK kvs)/\y=kV k/\r=TW kvs k)∨ ∃kvs k b,Rd H a (.dT kvs)/\y= .ref b/\H b=some (.tup (k.map kV))/\r=TW kvs k
def DPut(H:Hp)(a:Addr)(y v:V)(H':Hp):Prop:=
 (∃kvs k,H a=some (.dK kvs)/\y=kV k/\kvs.length<sizeLine/\H'=upd H a (.dK (YJ kvs k v)))∨
 ∃kvs k b,H a=some (.dT kvs)/\y= .ref b/\H b=some (.tup (k.map kV))/\kvs.length<sizeLine/\H'=upd H a (.dT (YJ kvs k v))
theorem NH.k{H:Hp}{a:Addr}{kvs:List (aY×V)}{k:aY}(e:H a=some (.dK kvs)):NH H a (kV k) (TW kvs k):= .inl ⟨kvs,k,Rd.of e,rfl,rfl⟩
theorem DPut.k{H:Hp}{a:Addr}{kvs:List (aY×V)}{k:aY}{v:V}(e:H a=some (.dK kvs))(hl:kvs.length<sizeLine):DPut H a (kV k) v (upd H a (.dK (YJ kvs k v))):= .inl ⟨kvs,k,e,rfl,hl,rfl⟩
section
variable{X:Cx}{aa:List (Addr×Obj)}{σ:St}{H:Hp}{s:Ag}{a:Addr}{y v:V}{u r:Value}{o:Option V}{A:Cm}{E:Value->Ag->Prop}
theorem cM.big(I:cM X aa σ H s):Ei<s.heap.objs.size:=by
 have h:mainGlobals<s.heap.objs.size:=(I.mod.glob.keeps I.bk).lt;exact Nat.lt_trans (by decide) h
theorem DP{Q:Value->Ag->Prop}(hu:A.units+1<cLine)(I:cM X aa σ H s)(g:NH H a y (some v))(ry:b6 y u)(h: ∀w' s',cM X aa σ H s'->b6 v w'->Q w' s'):
  wpAny (model X.prog X.w) A (Ix (.ref a) u) Q E s:=by
 rcases g with⟨kvs,k,e,ey,l⟩|⟨kvs,k,b,e,ey,eb,l⟩
 ·subst ey
  obtain⟨z,hd,vs,rel,dd⟩:=JC I.hok e;obtain⟨w',hw,rw'⟩:=WJ.some_of (v:=v) (o:=Lk vs k) (by rw[l];exact rel.val k);exact wpAny_getItem_of (JP ry) dd.mapOf hw (h w' _ (I.tok _) rw')
 ·subst ey
  cases (show u=Be b from ry);obtain⟨z,hd,xs,rel,dd⟩:=JD I.hok e;obtain⟨w',hw,rw'⟩:=WJ.some_of (v:=v) (o:=(atKey xs k).map (·.2)) (by rw[l];exact rel.val k);obtain⟨p,hp,hp2⟩:=Ao.mp hw;refine wpAny_getItem_heap (Hy hu) (LN I.hok eb) dd hp ?_;rw[hp2];exact h w' _ (I.tok _) rw'
theorem K9{h':Heap}{t':Nat}{ob:HO}(I:cM X aa σ H s)(mu:Mut (H a))(hs:Ek a s.heap h')(he: ∃q,h'.get? a=some q)(new:aP X.prog X.w (upd H a ob) h' a ob):
  cM X aa σ (upd H a ob) {s with heap:=h',toks:=t'}:=
 I.write (x:=a) (e:=a) mu (.inl rfl) (fun b q hb z=>(hs.2 b hb).trans z) he new
theorem zAY{P:Ax}{w:World}{H':Hp}{h':Heap}{kvs:List (aY×V)}{vs:List (aY×Value)}(z:kvs.length<=sizeLine)(hd:(a==Ei)=false)(rel:KV kvs vs)(dd:h'.DictOf (aB P w) a vs):
  aP P w H' h' a (.dK kvs):=⟨z,hd,vs,rel,dd⟩
theorem DQ{H':Hp}{Q:Unit->Ag->Prop}(hu:A.units+1<cLine)(I:cM X aa σ H s)(g:DPut H a y v H')(ry:b6 y u)(rv:b6 v r)(h: ∀s',cM X aa σ H' s'->Q () s'):
  wpAny (model X.prog X.w) A (setItem (.ref a) u r) Q E s:=by
 rcases g with⟨kvs,k,e,ey,l,eH⟩|⟨kvs,k,b,e,ey,eb,l,eH⟩
 ·subst ey eH
  obtain⟨z,hd,vs,rel,dd⟩:=zE0 I.hok e;have hz:vs.length<=sizeLine:=by rw[<- rel.length];exact z
  have hl:(YJ kvs k v).length<=sizeLine:=by have:=UW kvs k v;lia
  refine wpAny_setItem_pairs (hsz:=hz) (JP ry) dd fun h' dd' hs=>h _ ?_;have he: ∃q,h'.get? a=some q:=let ⟨q,_,_,hq,_⟩:=dd';⟨q,hq⟩
  exact K9 I (by rw[e];exact True.intro) hs he (zAY hl hd (rel.put k rv) dd')
 ·subst ey eH
  cases (show u=Be b from ry);obtain⟨z,hd,xs,rel,dd⟩:=zK8 I.hok e;have hz:xs.length<=sizeLine:=by rw[<- Ku rel];exact z
  have hl:(YJ kvs k v).length<=sizeLine:=by have:=UW kvs k v;lia
  refine wpAny_setItem_heap (hsz:=hz) (Hy hu) (LN I.hok eb) dd fun h' dd' hs=>h _ ?_;obtain⟨q,es,ep,hq,h2,h3,h4,_,h5⟩:=dd';refine K9 I (by rw[e];exact True.intro) hs ⟨q,hq⟩ ⟨hl,hd,_,(rel.put k eb rv).keeps fun c ys ec=> ?_,q,es,ep,hq,h2,h3,h4,h5⟩;rw[cY (XW ec e (fun z=>nomatch z))];exact ec
end
theorem JA{X:Cx}{aa:List (Addr×Obj)}{σ:St}{H:Hp}{s:Ag}{a:Addr}{y:V}{o:Option V}(I:cM X aa σ H s)(g:NH H a y o):s.TypeIs (.ref a) "dict":=by
 rcases g with⟨kvs,k,e,_,_⟩|⟨kvs,k,b,e,_,_,_⟩
 ·obtain⟨_,_,vs,_,dd⟩:=JC I.hok e
  exact dd.typeIs
 ·obtain⟨_,_,xs,_,dd⟩:=JD I.hok e
  exact dd.typeIs
def zIO(td ty tv:TE):TS:=fun D σ H=>tv σ H fun v H1=>td σ H1 fun x H2=>ty σ H2 fun y H3=> ∃a H4,x= .ref a/\DPut H3 a y v H4/\D.nx σ H4
section
variable{X:Cx}{o i e value:Expr}{pos al cv:Pos}{td ty tv:TE}
theorem zBV(hu:X.A.units+1<cLine)(ho:PE X o td)(hi:PE X i ty)(hv:PE X value tv)(hs:El value (some (.Subscript o i al)) pos.line X.env=pure false):
  PS X (.Assign [.Subscript o i al] value pos) (zIO td ty tv):=by
 intro aa s σ H D I h;refine wpAny_Assign_Subscript (ZX (hv aa s σ H _ I h) fun r s1 ⟨v,H1,I1,rv,q1⟩=>ZX (ho aa s1 σ H1 _ I1 q1) fun u s2 ⟨x,H2,I2,rx,q2⟩=>ZX (hi aa s2 σ H2 _ I2 q2) fun iv s3 ⟨y,H3,I3,ry,a,H4,ex,g,q3⟩=> ?_) hs;subst ex;obtain rfl:u=Be a:=rx;exact DQ hu I3 g ry rv fun s4 I4=>⟨σ,H4,I4,q3⟩
end
theorem JB{P:Ax}{w:World}{H:Hp}(h:Heap)(hb:Ei<h.objs.size):aP P w H (h.push {cls:= .type "dict",data:= .dict #[]}) h.objs.size (.dK []):=
 ⟨Dx _,beq_eq_false_iff_ne.mpr (Dj (Bl hb)),[],.nil,Heap.DictOf.new h⟩
def zEI:TE:=fun _ H Q=> ∀p,H p=none->Q (.ref p) (upd H p (.dK []))
section
variable{X:Cx}{pos:Pos}
theorem AD:PE X (.Dict [] [] pos) zEI:=fun aa s σ H Q I h=>
 wpAny_Dict_empty ⟨.ref s.heap.objs.size,_,I.laid (a:=s.heap.objs.size) (o:= .dK []) (t':=s.toks) (fun _ _ q=>Ad _ q) (Au _) (JB s.heap I.big),rfl,h _ (I.hok.fresh (Au _))⟩
end
def L9:List (TE×TE)->St->Hp->(List (V×V)->Hp->Prop)->Prop
 |[],_,H,Q=>Q [] H
 |(tk,tv)::r,σ,H,Q=>tk σ H fun x H1=>tv σ H1 fun y H2=>L9 r σ H2 fun ps H3=>Q ((x,y)::ps) H3
abbrev VV:List (V×V)->List (Value×Value)->Prop:=Paired fun p q=>b6 p.1 q.1/\b6 p.2 q.2
def PPs(X:Cx)(pos:Pos)(da:List (Option Expr))(bz:List Expr)(trs:List (TE×TE)):Prop:=
 ∀(aa:List (Addr×Obj)) (s:Ag) (σ:St) (H:Hp) (Q:List (V×V)->Hp->Prop),cM X aa σ H s->L9 trs σ H Q→
  wpAny (model X.prog X.w) X.A (evalPairs (pairTrees da bz X.env pos)) (fun vs s'=> ∃ps H',cM X aa σ H' s'/\VV ps vs/\Q ps H') X.xe s
theorem zBW{X:Cx}{pos:Pos}:PPs X pos [] [] []:=fun aa s σ H Q I h=>pairTrees_nil_walk ⟨[],H,I,.nil,h⟩
theorem AO{X:Cx}{pos:Pos}{k v:Expr}{ks:List (Option Expr)}{vs:List Expr}{tk tv:TE}{trs:List (TE×TE)}(hk:PE X k tk)(hv:PE X v tv)(hr:PPs X pos ks vs trs):
  PPs X pos (some k::ks) (v::vs) ((tk,tv)::trs):=fun aa s σ H Q I h=>
 pairTrees_cons_walk (ZX (hk aa s σ H _ I h) fun u s1 ⟨x,H1,I1,rx,q1⟩=>ZX (hv aa s1 σ H1 _ I1 q1) fun w2 s2 ⟨y,H2,I2,ry,q2⟩=>
  ZX (hr aa s2 σ H2 _ I2 q2) fun ws s3 ⟨ps,H3,I3,rel,q3⟩=>⟨(x,y)::ps,H3,I3,.cons ⟨rx,ry⟩ rel,q3⟩)
def V8(kvs am:List (aY×V)):List (aY×V):=am.foldl (fun acc kv=>YJ acc kv.1 kv.2) kvs
theorem KV.merge: ∀{am:List (aY×V)} {rs:List (aY×Value)} {kvs:List (aY×V)} {vs:List (aY×Value)},KV am rs->KV kvs vs->KV (V8 kvs am) (merged vs rs):=by
 intro am rs kvs vs r;unfold KV at r;induction r generalizing kvs vs with
 |nil=>intro q;exact q
 | @cons p q ps qs h t ih=>
  intro r0;have e:KV (YJ kvs p.1 p.2) (stored vs q.1 q.2):=by
   have:=r0.put p.1 h.2
   rw[<- h.1];exact this
  exact ih e
theorem TF: ∀(am kvs:List (aY×V)),(V8 kvs am).length<=kvs.length+am.length
 |[],kvs=>by show kvs.length<=kvs.length+0;lia
 |p::r,kvs=>by
  have h1:=TF r (YJ kvs p.1 p.2);have h2:=UW kvs p.1 p.2;show(V8 (YJ kvs p.1 p.2) r).length<=_;rw[Az];lia
theorem NY{P:Ax}{w:World}: ∀{kvs:List (aY×V)} {ws:List (Value×Value)},VV (kvs.map fun kv=>(kV kv.1,kv.2)) ws-> ∃rs,Carries (aB P w) ws rs/\KV kvs rs
 |[],_,r=>by rw[Co] at r;cases r;exact⟨[],True.intro,.nil⟩
 | p :: kvs,_,r => by
  rw[Ay] at r;cases r with
  | @cons a b as bs h t=>
   obtain⟨rs,c,q⟩:=NY (P:=P) (w:=w) t;obtain⟨b1,b2⟩:=b;exact⟨(p.1,b2)::rs,⟨JP h.1,rfl,c⟩,.cons ⟨rfl,h.2⟩ q⟩
def zI6(trs:List (TE×TE)):TE:=fun σ H Q=> ∀p,H p=none->L9 trs σ (upd H p (.dK [])) fun ps H2=>H2 p=some (.dK [])/\ ∃kvs:List (aY×V),ps=kvs.map (fun kv=>(kV kv.1,kv.2))/\kvs.length<=15/\Q (.ref p) (upd H2 p (.dK (V8 [] kvs)))
theorem zC8{X:Cx}{pos:Pos}{da:List (Option Expr)}{bz:List Expr}{trs:List (TE×TE)}(h:PPs X pos da bz trs)(dh:da.all (·.isSome)=true)(hl:da.length=bz.length)(h0:da≠[])
  (h15:da.length<=15):PE X (.Dict da bz pos) (zI6 trs):=by
 intro aa s σ H Q I q;have hn:=I.hok.fresh (Au s.heap.objs.size);have I1:=I.laid (a:=s.heap.objs.size) (o:= .dK []) (h':=s.heap.push {cls:= .type "dict",data:= .dict #[]}) (t':=s.toks) (fun _ _ q=>Ad _ q) (Au _) (JB s.heap I.big);refine wpAny_Dict_walk (knd:=aB X.prog X.w) dh hl h0 h15 (ZX (h aa _ σ _ _ I1 (q _ hn)) fun ws s2 ⟨ps,H2,I2,rel,e,kvs,ep,lk,q2⟩=> ?_);subst ep;obtain⟨rs,c,rk⟩:=NY (P:=X.prog) (w:=X.w) rel;obtain⟨z,hd,vs0,r0,dd⟩:=zE0 I2.hok e;cases r0;refine⟨rs,c,dd,fun h' dd' hs=>⟨.ref s.heap.objs.size,_,?_,rfl,q2⟩⟩;have hz:(V8 [] kvs).length<=sizeLine:=by
  have h1:=TF kvs [];rw[Jv] at h1;rw[Cb];lia
 have he: ∃q,h'.get? s.heap.objs.size=some q:=let ⟨q,_,_,hq,_⟩:=dd';⟨q,hq⟩
 exact K9 I2 (by rw[e];exact True.intro) hs he (zAY hz hd (rk.merge .nil) dd')
structure M1(X:Cx)(o:Expr)(m:Str)(ah:Pos)(e:Expr)(ae:Pos):Prop where
 base:By o m X.env (eval o X.env)=eval o X.env
 few:((Dh ae (Ae [e] X.env)).all (fun x=> !x.1) && (Hb ae (Fe [] X.env)).all (fun x=>x.1.isSome)
  && decide (([e]:List Expr).length+([]:List Gm).length+(if([]:List Gm).isEmpty then 0 else 1)<30))=true
 line:(ah.endLine==ae.line)=true
 trees:Dh ae (Ae [e] X.env)=[(false,eval e X.env)]
def IsD(H:Hp)(a:Addr):Prop:=(∃kvs,Rd H a (.dK kvs))∨ ∃kvs,Rd H a (.dT kvs)
theorem zHC{X:Cx}{aa:List (Addr×Obj)}{σ:St}{H:Hp}{s:Ag}{a:Addr}(I:cM X aa σ H s)(d:IsD H a):
  s.TypeIs (.ref a) "dict" /\(∀b,Be a= .ref b-> ∃ob,s.heap.get? b=some ob/\ob.dict=none)/\(a==Ei)=false:=by
 rcases d with⟨kvs,e⟩|⟨kvs,e⟩
 ·obtain⟨_,hd,vs,_,dd⟩:=JC I.hok e
  refine⟨dd.typeIs,fun b q=> ?_,hd⟩;cases q;obtain⟨ob,_,_,h1,h2,_⟩:=dd;exact⟨ob,h1,h2.2.1⟩
 ·obtain⟨_,hd,xs,_,dd⟩:=JD I.hok e
  refine⟨dd.typeIs,fun b q=> ?_,hd⟩;cases q;obtain⟨ob,_,_,h1,h2,_⟩:=dd;exact⟨ob,h1,h2.2.1⟩
section
variable{X:Cx}{aa:List (Addr×Obj)}{σ:St}{H:Hp}{s:Ag}{a:Addr}{y d:V}{u r:Value}{o:Option V}{A:Cm}{E:Value->Ag->Prop}
theorem zHF{Q:Value->Ag->Prop}(hu:A.units+1<cLine)(I:cM X aa σ H s)(g:NH H a y o)(ry:b6 y u)(h: ∀w' s',cM X aa σ H s'->b6 (o.getD .non) w'->Q w' s'):
  wpAny (model X.prog X.w) A (call (.builtin "dict.get") [.ref a,u]) Q E s:=by
 rcases g with⟨kvs,k,e,ey,l⟩|⟨kvs,k,b,e,ey,eb,l⟩
 ·subst ey
  obtain⟨z,hd,vs,rel,dd⟩:=JC I.hok e;refine call_meetsIn Fj dd.typeIs Gh (Gd _ _) (meets_dict_get (aB X.prog X.w) a (JP ry) hd) ⟨_,dd.mapOf,h _ _ (I.tok _) ?_⟩;rw[l];exact(rel.val k).getD rfl
 ·subst ey
  cases (show u=Be b from ry);obtain⟨z,hd,xs,rel,dd⟩:=JD I.hok e;refine call_meetsIn Fj dd.typeIs Gh (Gd _ _) (meetsH_dict_get (tupleKind (aB X.prog X.w)) a b hd) ⟨Hy hu,k,xs,LN I.hok eb,dd,h _ _ (I.tok _) ?_⟩;rw[l];exact(rel.val k).getD rfl
end
end L2
namespace Att
open PySem PySem.W PySem.Calls PyProof.Rows
theorem PV{P:Kq}{h:Heap}: ∀(ns:List Int) (vs:List Value),WellAll P h vs (ns.map WData.int)->Ll vs ns:=by
 intro ns;induction ns with
 |nil=>
  intro vs w;rw[Co] at w;cases w;exact .nil
 |cons n ns ih=>
  intro vs w;rw[Ay] at w;cases w with
  |cons a b=>
   cases a;exact .cons _ _ (ih _ b)
theorem EL{l:OpenLaw}{n:Nat}(hn:l.most=some n){P:Kq}{h:Heap}{args:List WData}{vals:List Value}
  (hpre:l.row.toRowW.claim.pre args=true) (hwl:WellAll P h vals args):
  ∃a vs ns,vals=[Be a]/\args=[WData.list (ns.map WData.int)]/\h.get? a=some {cls:= .type "list",data:= .seq vs.toArray}/\Ll vs ns/\ns.length<=n:=by
 have hsh:WShape.hasAll [] args [.list .int]=true:=(pre_splitW hpre).1;have hc:l.pre.holds [] {args:=args}=true:=(pre_splitW hpre).2;obtain⟨d,r,rfl,h1,h2⟩:=hasAllW_cons hsh;obtain rfl:=hasAllW_nil h2;obtain⟨xs,rfl,h3⟩:=hasW_list h1;obtain⟨ns,rfl⟩:=items_int h3;have ag:ns.length<=n:=by
  unfold OpenLaw.pre at hc;have h4:(WTm.not (.lt (.lit (.int (n:Int))) (.len (.arg 0)))).holds [] {args:=[.list (ns.map .int)]}=true:=by
   have h4:=(holds_andW hc).1;rw[hn] at h4;exact h4
  have h5:=condW_of h4 (w_not (w_lt w_lit (w_len_list (w_arg rfl))));rw[Av] at h5;refine Nat.le_of_not_lt fun q=> ?_;have q':(n:Int)<((ns.length:Nat):Int):=by lia
  first
   |(rw[decide_eq_true q'] at h5;exact absurd h5 (by decide))
   |(simp at h5;lia)
 cases hwl with
 |cons w1 w2=>
  cases w2;cases w1 with
  |list ho dh=>exact⟨_,_,ns,rfl,rfl,ho,PV ns _ dh,ag⟩
theorem EF(l:OpenLaw)(args:List WData):l.row.toRowW.claim.post args (.bool true) args=true:=
 postW_of (r:=l.row.toRowW) (X:=(true==true))
  (show Ol [] (.bool true) .bool=true by first|rfl|decide|simp[Ol,WShape.arms,WShape.armsAll])
  (show(WTm.eq .res (.lit (.bool true))).value [] {args:=args,res:=some (.bool true),after:=args}=some (.bool (true==true)) from w_eq_bool (w_res rfl) w_lit) rfl
theorem IM{l:OpenLaw}{n:Nat}{q:Ax}{loose:List Str}{XP:(Str->Option Value)->Heap->Prop}{YP:World->Heap->Prop}{d:DefRec}
  (hn:l.most=some n) (hdf:d.params.defaults=[])
  (call: ∀(w:World) (s₀ s₁:Ag) (mg mb:Str->Option Value) (fa:Addr) (o:Obj) (pm cd doc:Value) (a:Addr) (vs:List Value) (ns:List Int),
   Ground q loose [] XP w s₀ mg mb s₁.heap->YP w s₁.heap→
   s₁.heap.get? fa=some o->o.data= .func (docDef d.name d.params d.body d.scope pm cd doc)->s₁.heap.CodeRec cd d.name->mg d.name=some (.ref fa)→
   s₁.heap.get? a=some {cls:= .type "list",data:= .seq vs.toArray}->Ll vs ns->ns.length<=n->s₁.gens= #[]→
   Jp (model l.prog w) Km (.call (.ref fa) ⟨[.ref a],[]⟩) (fun r s'=>r= .ok (.ret (.bool true))/\OldK s₁.heap s'.heap/\s'.os=s₁.os/\Jl s'.gens) s₁):
  WalkO q loose XP YP l.row.toRowW d [] (fun f vs=>No f vs):=by
 intro w s₀ s₁ mg mb G Y fa o pm cd doc dV kV ho hd hcd hD hmg hg args vals as hpre hlay hrd hwl hlo;obtain rfl:dV= .none:=Dflts.none hD hdf;obtain rfl:kV= .none:=Dflts.noKw hD;obtain⟨a,vs,ns,rfl,rfl,hobj,hints,ag⟩:=EL hn hpre hwl;refine enter_call (Jq (call w s₀ s₁ mg mb fa o pm cd doc a vs ns G Y ho (fd_plain hd) hcd hmg hobj hints ag hg) fun r s' hq=> ?_);obtain⟨rfl,h2,h3,h4⟩:=hq;exact⟨.inl ⟨.bool true,.bool true,[],rfl,fun _=>rfl,.bool true,EF l _,fun _=>⟨Lm,fun _ hm=>(nomatch hm)⟩⟩,h2,h3,h4⟩
end Att
namespace L2
open PySem PySem.Spec PyProof.Rows
theorem NE: ∀{vs:List Value} {ns:List Int},Ll vs ns->bT (ns.map V.int) vs
 |_,_,.nil=> .nil
 |_,_,.cons n t h=> .cons ⟨t,rfl⟩ (NE h)
def Only(H:Hp):Prop:= ∀b,H b=none∨ ∃o xs,H b=some (.frz o (.lst xs))
theorem zAI{P:Ax}{w:World}{K:Ai}{mg mb:Str->Option Value}{CX:CY}{k:Nat}{fa a:Addr}{fd:Cy}{x:Str}{sp:Sp}{s₁:Ag}{vs:List Value}{ns:List Int}
  (KX:K.In s₁.heap) (hns:s₁.heap.Ns mainGlobals mg) (hb:s₁.heap.Ns builtinsNs mb) (hbb: ∀x:Str,x≠ "__name__" ->mb x=Bf x) (oz:s₁.heap.NoLimit) (hg:s₁.gens= #[])
  (ha:s₁.heap.get? a=some {cls:= .type "list",data:= .seq vs.toArray}) (hi:Ll vs ns) (hl:ns.length<=sizeLine) (hr:Z6 k Km)
  (F: ∀base:Heap,K.In base->base.Ns mainGlobals mg->bX P w K mg base CX k fa fd [x] sp) (mn: ∀(s:Ag) (u:Value),Mu s fd ⟨[u],[]⟩ [(x,u)])
  (hsp: ∀H:Hp,Only H->XZ K H a (ns.map V.int)->sp [.ref a] H (fun v _=>v= .bl true) fun _ _ _=>False)
  (hCX: ∀H e s',CX [] H s₁ (fun _ _ _=>False) e s'->False):
  Jp (model P w) Km (.call (.ref fa) ⟨[.ref a],[]⟩) (fun r s'=>r= .ok (.ret (.bool true))/\OldK s₁.heap s'.heap/\s'.os=s₁.os/\Jl s'.gens) s₁:=by
 have rv:=NE hi;have o9:=hi.length;have mr: ∀H:Hp,Only H->XZ K H a (ns.map V.int)->T3 P w H s₁.heap->(∀b,H b≠none->b=a)->(H a≠none->K.lookup a=none)→
   Jp (model P w) Km (.call (.ref fa) ⟨[.ref a],[]⟩) (fun r s'=>r= .ok (.ret (.bool true))/\OldK s₁.heap s'.heap/\s'.os=s₁.os/\Jl s'.gens) s₁:=by
  intro H hO hS hok hA hK;have dn: ∀{b:Addr} {o:Obj},s₁.heap.get? b=some o->H b=none->(LK s₁.heap H).get? b=some o:=fun e n=>zAL e n;have noA: ∀{b:Addr} {o:Obj} {es:Array Jk} {ep:Nat},s₁.heap.get? b=some o->o.data= .dict es ep->H b=none:=fun{b o es ep} e d=>by
   cases q:H b with
   |none=>rfl
   |some u=>
    have e':b=a:=hA b (by rw[q];simp);subst e';rw[ha] at e;cases e;have d':Data.seq vs.toArray _=Data.dict es ep:=d;cases d'
  have nsK: ∀{b:Addr} {m:Str->Option Value},s₁.heap.Ns b m->(LK s₁.heap H).Ns b m:=fun{b m} ⟨o,es,ep,e,d,r⟩=>⟨o,es,ep,dn e (noA e d),d,r⟩;have hKb:K.In (LK s₁.heap H):=fun b o e=>dn (KX b o e) (by
   cases q:H b with
   |none=>rfl
   |some u=>
    have e':b=a:=hA b (by rw[q];simp);subst e';rw[hK (by rw[q];simp)] at e;cases e)
  have hM:Mod K mg (LK s₁.heap H):=⟨hKb,nsK hns,⟨mb,nsK hb,hbb⟩,let ⟨mc,h1,h2⟩:=oz;⟨mc,nsK h1,h2⟩⟩;have e0:GG P w K mg (LK s₁.heap H) Km [] s₁ H:=⟨rfl,hM,fun b o e=>zCG e,Nat.le_of_eq (DZ _ _),trivial,fun b hb=>absurd (show b∈([]:List Addr) from hb) (by simp),hok,.of_eq hg⟩;refine Jq ((F _ hKb (nsK hns)).run Km [] s₁ H ⟨[.ref a],[]⟩ [.ref a] [.ref a] _ _ hr e0 (mn s₁ (.ref a)) (.cons rfl .nil) (hsp H hO hS)) fun r s' h=> ?_;cases r with
  |error e=>exact(hCX H e s' h).elim
  |ok fl=>
   cases fl with
   |next=>exact Ej h
   |brk=>exact Ej h
   |cont=>exact Ej h
   |ret u=>
    obtain⟨v,H',os,bare,un,oq,r',q⟩:=h;have q':v= .bl true:=q;subst q';obtain rfl:u=Lg true:=r';refine⟨rfl,OldK.of_keep fun b o e=> ?_,os,bare⟩;cases q:H b with
    |none=>exact un.keep b o e q (by intro z;exact absurd (show b∈([]:List Addr) from z) (by simp)) (by simp)
    |some u=>
     rcases hO b with z|⟨ob,xs,z⟩
     ·rw[q] at z;cases z
     ·have z2:=un.frzs b ob _ z
      obtain⟨e1,_⟩:=hok b _ z;obtain⟨e2,_⟩:=oq b _ z2;rw[e] at e1;cases e1;exact e2
 cases hk:K.lookup a with
 |some o=>
  have e:=KX a o hk;rw[ha] at e;cases e;refine mr (fun _=>none) (fun _=> .inl rfl) (.inr ⟨_,vs.toArray,_,hk,rfl,rfl,rfl,by rw[Am,o9];exact hl,by simpa using rv⟩) (fun b u z=>by have z':(none:Option HO)=some u:=z;cases z') (fun b z=>absurd rfl z) fun z=>absurd rfl z
 |none=>
  refine mr (fun b=>if b=a then some (.frz {cls:= .type "list",data:= .seq vs.toArray} (.lst (ns.map V.int))) else none) (fun b=> ?_) (.inl (.inr ⟨{cls:= .type "list",data:= .seq vs.toArray},if_pos rfl⟩)) (fun b u z=> ?_) (fun b z=> ?_) fun _=>hk
  ·by_cases hb:b=a
   ·exact .inr ⟨_,_,if_pos hb⟩
   ·exact .inl (if_neg hb)
  ·by_cases hb:b=a
   ·have z':=(if_pos hb).symm.trans z
    cases z';subst hb;exact⟨ha,by rw[Av];exact hl,vs,_,rv,ha⟩
   ·have z':=(if_neg hb).symm.trans z
    cases z'
  ·by_cases hb:b=a
   ·exact hb
   ·exact absurd (if_neg hb) z
theorem zB8{l:Ob}{n k:Nat}{q:Ax}{loose:List Str}{XP:(Str->Option Value)->Heap->Prop}{YP:World->Heap->Prop}{d:DefRec}{K:Kq->Ai}{CX:World->CY}{sp:World->Sp}{x:Str}
  (hn:l.most=some n) (hn2:n<=sizeLine) (hdf:d.params.defaults=[]) (hr:Z6 k Km)
  (hY: ∀(w:World) (h:Heap),YP w h->(K w.params).In h)
  (F: ∀(w:World) (mg:Str->Option Value) (fa:Addr) (h:Heap),(K w.params).In h->h.Ns mainGlobals mg->mg d.name=some (.ref fa)→
   ∃fd:Cy,(∀(s:Ag) (u:Value),Mu s fd ⟨[u],[]⟩ [(x,u)])∧
    ∀base:Heap,(K w.params).In base->base.Ns mainGlobals mg->bX l.prog w (K w.params) mg base (CX w) k fa fd [x] (sp w))
  (hsp: ∀(w:World) (H:Hp) (a:Addr) (ns:List Int),ns.length<=n->Only H->XZ (K w.params) H a (ns.map V.int)->sp w [.ref a] H (fun v _=>v= .bl true) fun _ _ _=>False)
  (hCX: ∀(w:World) (H:Hp) (s:Ag) (e:Value) (s':Ag),CX w [] H s (fun _ _ _=>False) e s'->False):
  W.WalkO q loose XP YP l.row.toRowW d [] (fun f vs=>No f vs):=by
 refine Att.IM hn hdf fun w s₀ s₁ mg mb fa o pm cd doc a vs ns G Y ho hd hcd hmg hobj hints ag hg=> ?_;have KX:=hY w _ Y;obtain⟨fd,hb,hF⟩:=F w mg fa _ KX G.T.g hmg;exact zAI KX G.T.g G.T.b G.T.builtins G.T.nolimit hg hobj hints (Ea ag hn2) hr hF hb (fun H hO hS=>hsp w H a ns ag hO hS) fun H e s'=>hCX w H s₁ e s'
theorem CL{l:Ob}{n k:Nat}{q:Ax}{loose:List Str}{XP:(Str->Option Value)->Heap->Prop}{YP:World->Heap->Prop}{d:DefRec}{K:Kq->Ai}{CX:CY}{sp:Ai->Sp}{x:Str}
  (hn:l.most=some n) (hn2:n<=sizeLine) (hdf:d.params.defaults=[]) (hr:Z6 k Km)
  (hY: ∀(w:World) (h:Heap),YP w h->(K w.params).In h)
  (F: ∀(w:World) (mg:Str->Option Value) (fa:Addr) (h:Heap),(K w.params).In h->h.Ns mainGlobals mg->mg d.name=some (.ref fa)→
   ∃fd:Cy,(∀(s:Ag) (u:Value),Mu s fd ⟨[u],[]⟩ [(x,u)])∧
    ∀base:Heap,(K w.params).In base->base.Ns mainGlobals mg->bX l.prog w (K w.params) mg base CX k fa fd [x] (sp (K w.params)))
  (hsp: ∀(K:Ai) (H:Hp) (a:Addr) (ns:List Int),ns.length<=n->Only H->XZ K H a (ns.map V.int)->sp K [.ref a] H (fun v _=>v= .bl true) fun _ _ _=>False)
  (hCX: ∀(H:Hp) (s:Ag) (e:Value) (s':Ag),CX [] H s (fun _ _ _=>False) e s'->False):
  W.WalkO q loose XP YP l.row.toRowW d [] (fun f vs=>No f vs):=
 zB8 (K:=K) (CX:=fun _=>CX) (sp:=fun w=>sp (K w.params)) hn hn2 hdf hr hY F (fun w H a ns h1 h2 h3=>hsp (K w.params) H a ns h1 h2 h3) fun _ H s e s'=>hCX H s e s'
noncomputable def aQ(s:Stmt):Arguments:=match s with
 | .FunctionDef _ a _ _ _ _ _ _ _ _=>a
 |_=>{posonlyargs:=[],args:=[],vararg:=none,kwonlyargs:=[],kw_defaults:=[],kwarg:=none,defaults:=[]}
def bE(s:Stmt):List Stmt:=match s with
 | .FunctionDef _ _ b _ _ _ _ _ _ _=>b
 |_=>[]
noncomputable def c9(s:Stmt):Scope:=match s with
 | .FunctionDef _ _ _ _ _ _ sc _ _ _=>sc
 |_=>{kind:= .function,names:=[],isGenerator:=false,isCoroutine:=false}
abbrev CX0:CY:=fun _ _ _ _ _ _=>False
abbrev E0:XK:=fun _ _ _=>False
theorem J4{X:Cx}:QK CX0 X E0:=fun _ _ _ _ _ _ _ h=>h.elim
structure Y3(K:Ai)(x qual:Str)(st:Stmt)(f:Addr)(fd:Cy):Prop where
 ex: ∃(oc:Value) (od:Option Addr) (kV doc pm:Value) (an:Option Addr) (cdv ct:Value) (osl:Array (Option Value)),
  fd=Ge x qual (aQ st) (bE st) (c9 st) .none kV doc pm an cdv ct/\K.lookup f=some ⟨oc,od,.func fd,osl⟩/\Ha K cdv qual=true
 kp:Eg K (.ref f)=true
section
variable{P:Ax}{w:World}{K:Ai}{mg:Str->Option Value}{base:Heap}
theorem Y3.ok{x qual:Str}{st:Stmt}{f:Addr}{fd:Cy}{N ps:List Str}{k:Nat}{sp:Sp}(F:Y3 K x qual st f fd)(S:cV N ps (c9 st))(len: ∀vs H Q E,sp vs H Q E->vs.length=ps.length)
  (aq: ∀(cdv:Value) (A:Cm) (outer:List Env) (s:Ag) (H:Hp) (vs:List V) (Q:VK) (E:XK),Z6 k (A.deeper (Hw qual (c9 st) s.heap.objs.size f cdv))->sp vs H Q E→
   ∃t,QJ (NM CX0 P w K mg base N qual (c9 st) f cdv A outer s H E).nox (bE st) t/\t {nx:=fun _ H'=>Q .non H',rt:=Q} (start N vs) H):bX P w K mg base CX0 (k+1) f fd ps sp:=by
 obtain⟨oc,od,kV,doc,pm,an,cdv,ct,osl,rfl,lk,hcd⟩:=F.ex;refine zDY lk hcd S len fun A outer s H vs Q E hr hsp=> ?_;obtain⟨t,h,q⟩:=aq cdv A outer s H vs Q E hr hsp;exact⟨t,h.nox,q⟩
theorem Y3.binds{x qual:Str}{st:Stmt}{f:Addr}{fd:Cy}{ps:List Str}(F:Y3 K x qual st f fd)
  (h: ∀(kV doc pm:Value) (an:Option Addr) (cdv ct:Value) (us:List Value),us.length=ps.length->bindArgs (Ge x qual (aQ st) (bE st) (c9 st) .none kV doc pm an cdv ct) ⟨us,[]⟩=pure (ps.zip us)):XV K fd ps []:=by
 obtain⟨oc,od,kV,doc,pm,an,cdv,ct,osl,rfl,lk,hcd⟩:=F.ex;exact .all (h kV doc pm an cdv ct)
theorem LG{x qual:Str}{st:Stmt}{f:Addr}{oc:Value}{od an:Option Addr}{osl:Array (Option Value)}{kV doc pm cdv ct:Value}(l:K.lookup f=some ⟨oc,od,.func (Ge x qual (aQ st) (bE st) (c9 st) .none kV doc pm an cdv ct),osl⟩)
  (c:Ha K cdv qual=true) (k:Eg K (.ref f)=true):Y3 K x qual st f (Ge x qual (aQ st) (bE st) (c9 st) .none kV doc pm an cdv ct):=⟨⟨oc,od,kV,doc,pm,an,cdv,ct,osl,rfl,l,c⟩,k⟩
end
theorem zDX{A:Cm}{k:Nat}(hr:Z6 k A):A.units+1<cLine:=Nat.lt_of_le_of_lt (Nat.add_le_add_left (by decide:1<=64) _) hr.units
section
variable{X:Cx}
theorem pv(i:Nat){x:Str}{pos:Pos}(hN:X.N[i]? =some x:=by rfl)(hv:Vis X.env.scope x:=by first|exact Fo rfl|exact Fb (Fo rfl)|exact Fb (Fb rfl))(hd:(x==("__debug__":Str))=false:=by decide)
  (hcd:(x==("__classdict__":Str))=false:=by decide):PE X (.Name x pos) (YT i):=HK hN hv hd hcd
end
theorem G6{A B:Prop}(h:B):if false=true then A else B:=by
 rw[if_neg Du];exact h
theorem G7{A B:Prop}(h:A):if true=true then A else B:=by
 rw[if_pos rfl];exact h
def aG(H H':Hp):Prop:= ∀b o,H b=some o->H' b=some o
theorem aG.refl(H:Hp):aG H H:=fun _ _ h=>h
theorem aG.trans{H H1 H2:Hp}(a:aG H H1)(b:aG H1 H2):aG H H2:=fun c o h=>b c o (a c o h)
theorem K7{env:Env}{f:Str×NameKind->List (Str×Addr)->Sem (ForInStep (List (Str×Addr)))}
  (hf: ∀n k r,f (n,k) r=if(k==Bi)=true then(cellOf env n>>=fun c=>pure (Ee ((n,c)::r))) else pure (Ee r)):
  ∀(names:List (Str×NameKind)) (cs:List (Str×Addr)),(∀y∈names,y.2= .free-> ∃c,env.cells.lookup y.1=some c)→
   ∃cl,forIn names cs f=(pure cl:Sem (List (Str×Addr)))/\(∀x c,cl.lookup x=some c->cs.lookup x=some c∨env.cells.lookup x=some c)∧
    (∀x c,cs.lookup x=some c-> ∃c',cl.lookup x=some c')/\ ∀x,(x,Bi)∈names-> ∃c,cl.lookup x=some c
 |[],cs,_=>⟨cs,rfl,fun _ _ e=> .inl e,fun _ c e=>⟨c,e⟩,fun _ h=>nomatch h⟩
 | (n,k) :: r,cs,h => by
  have hr: ∀y∈r,y.2= .free-> ∃c,env.cells.lookup y.1=some c:=fun y hy=>h y (Aw _ hy);by_cases hk:k= .free
  ·subst hk
   obtain⟨c,hc⟩:=h (n,.free) Bg rfl;have hc:env.cells.lookup n=some c:=hc;obtain⟨cl,e1,e2,e3,e4⟩:=K7 hf r ((n,c)::cs) hr;refine⟨cl,?_,fun x c' e=> ?_,fun x c' e=> ?_,fun x hx=> ?_⟩
   ·rw [Hk,hf,if_pos (show (Bi == Bi) = true by decide)]
    have ec:cellOf env n=pure c:=by unfold cellOf;rw[hc]
    rw[ec,pure_bind,pure_bind];exact e1
   ·rcases e2 x c' e with q|q
    ·by_cases hx:x=n
     ·subst hx
      rw[Db] at q;cases q;exact .inr hc
     ·rw[Bj,beq_eq_false_iff_ne.mpr hx] at q
      exact .inl q
    ·exact .inr q
   ·by_cases hx:x=n
    ·subst hx
     exact e3 x c (Db ..)
    ·refine e3 x c' ?_
     rw[Bj,beq_eq_false_iff_ne.mpr hx];exact e
   ·rcases Ap.mp hx with q|q
    ·cases q
     exact e3 n c (Db ..)
    ·exact e4 x q
  ·obtain⟨cl,e1,e2,e3,e4⟩:=K7 hf r cs hr
   refine⟨cl,?_,e2,e3,fun x hx=> ?_⟩
   ·have hb : ¬ (k == Bi) = true := by simpa using hk
    rw[Hk,hf,if_neg hb,pure_bind];exact e1
   ·rcases Ap.mp hx with q|q
    ·cases q
     exact absurd rfl hk
    ·exact e4 x q
theorem E7{env:Env}{scope:Scope}(h: ∀y∈scope.names,y.2= .free-> ∃c,env.cells.lookup y.1=some c):
  ∃cl,closureFor scope env=pure cl/\(∀x c,cl.lookup x=some c->env.cells.lookup x=some c)/\ ∀x,(x,Bi)∈scope.names-> ∃c,cl.lookup x=some c:=by
 simp only[closureFor];obtain⟨cl,e1,e2,_,e4⟩:=K7 (env:=env) (f:=fun x r=>match x with
  |(name,kind)=>if(kind==Bi)=true then(cellOf env name>>=fun c=>pure (Ee ((name,c)::r))) else pure (Ee r)) (fun _ _ _=>rfl) scope.names [] h
 refine⟨cl,?_,fun x c e=> ?_,e4⟩
 ·first
   |exact e1
   |(refine Eq.trans (congrArg (fun m=>m>>=pure) e1) ?_;exact pure_bind _ _)
 ·rcases e2 x c e with q|q
  ·cases q
  ·exact q
def YX(ix:List Nat)(σ:St):St:=ix.map fun i=>(σ[i]?).join
def PTs(Y:Cx)(ifs:List Expr)(tt:TT):Prop:=
 ∀(aa:List (Addr×Obj)) (s:Ag) (σ:St) (H:Hp) (Q:Bool->Hp->Prop),cM Y aa σ H s->tt σ H Q→
  wpAny (model Y.prog Y.w) Y.A (forIn ifs true fun c r=>if r=true then do let ok<- isTrue c Y.env (eval c Y.env);pure (Ee ok) else pure (Ee r)) (TP Y aa σ Q) Y.xe s
def tYes:TT:=fun _ H Q=>Q true H
theorem zBS{Y:Cx}:PTs Y [] tYes:=fun _ _ _ H _ I h=>wpAny_tests_nil ⟨H,I,h⟩
theorem zBR{Y:Cx}{c:Expr}{tt:TT}(h:PT Y c tt):PTs Y [c] tt:=fun aa s σ H Q I hw=>wpAny_tests_one (h aa s σ H Q I hw)
structure Blk(Y:Cx)(tg:Expr)(ifs:List Expr)(elt:Expr)(g:TG)(tt:TT)(te:TE):Prop where
 tg:PG Y tg g
 ts:PTs Y ifs tt
 el:PE Y elt te
theorem DN{prog:Ax}{w:World}{A:Cm}{s:Ag}{elt bn iter:Expr}{ifs:List Expr}{scope:Scope}{pos:Pos}{it acc:Value}{env:Env}{R:Result->Ag->Prop}(I:Nat->Ag->Prop)
  (turn : ∀ n s,I n s -> wpAny (model prog w) A (pyNext it) (fun r s₁ => match r with
   |none=>R (.ok .next) s₁
   | some v => wpAny (model prog w) A (Hi bn it v) (fun _ s₀ => wpAny (model prog w) A (assign bn env v) (fun _ s₂ =>
     wpAny (model prog w) A (forIn ifs true fun c r=>if r=true then do let ok<- isTrue c env (eval c env);pure (Ee ok) else pure (Ee r)) (fun ok s₃=>if ok=true then wpAny (model prog w) A (eval elt env) (fun x s₄=>
      wpAny (model prog w) A (call (.builtin "list.append") [acc,x]) (fun _ s₅=> ∃m,m<n/\I m s₅) (fun _ _=>False) s₄) (fun _ _=>False) s₃
      else∃m,m<n/\I m s₃) (fun _ _=>False) s₂)
     (fun _ _=>False) s₀) (fun _ _=>False) s₁) (fun _ _=>False) s)
  (n:Nat) (h:I n s):Jp (model prog w) A (.compLoop (.ListComp elt [⟨bn,iter,ifs,0⟩] scope pos) 0 it acc env) R s:=by
 refine codeAny_loop rfl I (fun n s hI=> ?_) n h;show wpAny _ A ((compTurn (.ListComp elt [⟨bn,iter,ifs,0⟩] scope pos) 0 it acc env).onRaise (fun x=>do noteFrame x env;theTreesLotGoes x)) _ _ s;refine wpAny_noted ?_;rw[compTurn_list];refine Ac (Gz (Ac (Ch (turn n s hI) (fun r s₁ h₁=> ?_) fun _ _ h'=>h'.elim)));cases r with
 |none=>exact As h₁
 |some v=>
  refine Ac (Ch h₁ (fun _ s₀ h₀'=> ?_) fun _ _ h'=>h'.elim);refine Ac (Ch h₀' (fun _ s₂ h₂=> ?_) fun _ _ h'=>h'.elim);refine Ac (Ch h₂ (fun okb s₃ h₃=> ?_) fun _ _ h'=>h'.elim);cases okb with
  |false=>exact As ⟨rfl,h₃⟩
  |true=>exact Ac (Ac (Ch h₃ (fun x s₄ h₄=>Ac (Ch h₄ (fun _ s₅ h₅=>As (As ⟨rfl,h₅⟩)) fun _ _ h'=>h'.elim)) fun _ _ h'=>h'.elim))
section
variable{X:Cx}{aa:List (Addr×Obj)}{σ:St}{H H':Hp}{s s1 s':Ag}{h'':Heap}
theorem cM.offNew{σ':St}{H1:Hp}(I1:cM X aa σ H1 s1)(I':cM X aa σ' H' s')(hn:H' s1.heap.objs.size=none)(sb: ∀b o,b≠s1.heap.objs.size->s'.heap.get? b=some o->h''.get? b=some o):
  cM X aa σ' H' {s' with heap:=h''}:=
 I'.turned (t':=s'.toks) (it:=s1.heap.objs.size) sb hn (Fu I1.lt) (.inr I1.sz)
  (fun x c e z => by
   obtain⟨v,q⟩:=I1.cell x c e;have:=q.lt
   rw[z] at this;exact Cw _ this)
  fun p hp z=>by
   have:=Ar (I1.pin p hp).1
   rw[z] at this;exact Cw _ this
end
def zE3(D:Addr)(ix:List Nat)(nl:Nat)(J:It)(g:TG)(tt:TT)(te:TE)(σ:St)(H0:Hp)(Q:Hp->Prop):Prop:=
 ∃W:Nat->Nat->List V->Hp->Prop,(∃m,W 0 m [] (upd H0 D (.lst [])))/\ ∀i m acc H1,W i m acc H1→
  (J.stop i H1/\Q H1)∨
  (J.go i H1/\ ∃N:List V->Hp->Prop,(∀bx H',N bx H'-> ∃m',m'<m/\W (i+1) m' bx H')∧
   ∀x H2,J.yld i H1 x H2->g x (YX ix σ++Bh nl none) H2 fun σ2 H3=>σ2.take ix.length=YX ix σ∧
    tt σ2 H3 fun b H4=>if b=true then te σ2 H4 fun v H5=>H5 D=some (.lst acc)/\acc.length<sizeLine/\N (acc++[v]) (upd H5 D (.lst (acc++[v]))) else N acc H4)
theorem RV{env:Env}{x:Str}: ∀{l:List (Str×NameKind)},l.lookup x=some .free→
  (l.map fun(n,k)=>if(k==Bi && env.scope.kind== .function && env.kindOf n==some .cell) then(n,Bu) else(n,k)).lookup x=some .cell∨
  (l.map fun(n,k)=>if(k==Bi && env.scope.kind== .function && env.kindOf n==some .cell) then(n,Bu) else(n,k)).lookup x=some .free
 |[],h=>by cases h
 | (n,k) :: r,h => by
  show Eo x ((if(k==Bi && env.scope.kind== .function && env.kindOf n==some .cell)=true then(n,Bu) else(n,k))::_)=some .cell∨Eo x ((if(k==Bi && env.scope.kind== .function && env.kindOf n==some .cell)=true then(n,Bu) else(n,k))::_)=some .free;by_cases hx:x=n
  ·subst hx
   rw[Db] at h;cases h;by_cases hc:(Bi==Bi && env.scope.kind== .function && env.kindOf x==some .cell)=true
   ·left
    rw[if_pos hc,Db]
   ·right
    rw[if_neg hc,Db]
  ·have hb:(x==n)=false:=beq_eq_false_iff_ne.mpr hx
   simp only[Bj,hb] at h;have ih:=RV (env:=env) h;by_cases hc:(k==Bi && env.scope.kind== .function && env.kindOf n==some .cell)=true
   ·rw[if_pos hc]
    simp only[Bj,hb];exact ih
   ·rw[if_neg hc]
    simp only[Bj,hb];exact ih
def BV(ix:List Nat)(nl:Nat)(wi:TI)(g:TG)(tt:TT)(te:TE):TE:=fun σ H Q=>wi σ H fun J H0=> ∀D,H0 D=none->zE3 D ix nl J g tt te σ H0 fun H'=>Q (.ref D) H'
mutual
inductive Dp(K:Ai)(H:Hp):V->Kf->Prop
 |non:Dp K H .non .none
 |bl (b:Bool):Dp K H (.bl b) (.bool b)
 |int (i:Int):Dp K H (.int i) (.int i)
 |str (x:Str):Dp K H (.str x) (.str x)
 |lst {a:Addr} {xs:List V} {ds:List Kf}:XZ K H a xs->NV K H xs ds->Dp K H (.ref a) (.list ds)
 |tup {a:Addr} {xs:List V} {ds:List Kf}:VC K H a xs->NV K H xs ds->Dp K H (.ref a) (.tuple ds)
inductive NV(K:Ai)(H:Hp):List V->List Kf->Prop
 |nil:NV K H [] []
 |cons {v:V} {vs:List V} {d:Kf} {ds:List Kf}:Dp K H v d->NV K H vs ds->NV K H (v::vs) (d::ds)
end
section
variable{X:Cx}{aa:List (Addr×Obj)}{σ:St}{H:Hp}{s:Ag}
mutual
theorem cM.reads(I:cM X aa σ H s): ∀{v:V} {d:Kf} {u:Value},Dp X.K H v d->b6 v u-> ∃as,Reads s.heap u d as
 |_,_,_,.non,r=>by cases r;exact⟨_,.none⟩
 |_,_,_,.bl b,r=>by cases r;exact⟨_,.bool b⟩
 |_,_,_,.int i,r=>by obtain⟨t,rfl⟩:=r;exact⟨_,.int i t⟩
 |_,_,_,.str x,r=>by obtain⟨t,rfl⟩:=r;exact⟨_,.str x t⟩
 |_,_,_,.lst q all,r=>by
  cases r;obtain⟨its,rv,⟨o,n,e,c,_,d⟩,_⟩:=I.list q;obtain⟨as,h⟩:=cM.readsAll I all rv;exact⟨_,.list e c d (by simpa using h)⟩
 |_,_,_,.tup q all,r=>by
  cases r;obtain⟨its,rv,⟨o,e,c,n,d⟩,_⟩:=I.tuple q;obtain⟨as,h⟩:=cM.readsAll I all rv;exact⟨_,.tuple e c d (by simpa using h)⟩
theorem cM.readsAll(I:cM X aa σ H s): ∀{vs:List V} {ds:List Kf} {us:List Value},NV X.K H vs ds->bT vs us-> ∃as,ReadsAll s.heap us ds as
 |_,_,_,.nil,r=>by cases r;exact⟨_,.nil⟩
 | _,_,_,.cons h t,r => by
  cases r with
  |cons r1 r2=>
   obtain⟨as,h1⟩:=cM.reads I h r1;obtain⟨bs,h2⟩:=cM.readsAll I t r2;exact⟨_,.cons h1 h2⟩
end
end
def rEqD(K:Ai):R2:=fun x y H Q=> ∃d e,Dp K H x d/\Dp K H y e/\Dt d=true/\Dt e=true/\Q (.bl (He d e)) H
def rNeD(K:Ai):R2:=fun x y H Q=> ∃d e,Dp K H x d/\Dp K H y e/\Dt d=true/\Dt e=true/\Q (.bl (!PyData.eqv d e)) H
section
variable{X:Cx}
theorem zFR(hu:X.A.units+64<cLine):XS X (Cg .Eq) (rEqD X.K):=by
 intro aa s σ H x y v u Q I rx ry h;obtain⟨d,e,hd,he,sd,se,q⟩:=h;obtain⟨as,h1⟩:=I.reads hd rx;obtain⟨bs,h2⟩:=I.reads he ry;exact eq_dataH h1 h2 sd se hu (LD I q rfl)
theorem zFP(hu:X.A.units+64<cLine):XS X (Cg .NotEq) (rNeD X.K):=by
 intro aa s σ H x y v u Q I rx ry h;obtain⟨d,e,hd,he,sd,se,q⟩:=h;obtain⟨as,h1⟩:=I.reads hd rx;obtain⟨bs,h2⟩:=I.reads he ry;exact ne_dataH h1 h2 sd se hu (LD I q rfl)
theorem R8: ∀{us:List Value} {ns:List Int},Ll us ns->bT (ns.map V.int) us
 |_,_,.nil=> .nil
 |_,_,.cons i t h=> .cons ⟨t,rfl⟩ (R8 h)
theorem V6: ∀{ns:List Int} {us:List Value},bT (ns.map V.int) us->Ll us ns
 |[],_,.nil=> .nil
 |i::ns,_,.cons r t=>by
  obtain⟨k,rfl⟩:=r;exact .cons i k (V6 t)
theorem QN:aW X (.builtin "sorted") (fun xs H Q=> ∃(p:Addr) (ns:List Int),xs=[.ref p]/\XZ X.K H p (ns.map V.int)/\ns.length<64∧
  ∀(l:Addr) (ms:List Int),H l=none->ms.Perm ns->ms.Pairwise (· <= ·)->Q (.ref l) (upd H l (.lst (ms.map V.int)))):=by
 intro aa s σ H xs us Q I r h;obtain⟨p,ns,rfl,hq,hl,q⟩:=h;obtain⟨u,rfl,rx⟩:=TM r;cases rx;obtain⟨its,rv,pl,hz⟩:=I.list hq;have ag:=rv.length;rw[Av] at ag;refine sorted_ints pl.isList (V6 rv) (by lia) fun out ms a1 a2 a3=> ?_;obtain⟨e,he⟩:=sortedAll_at s.heap its out;have hml:ms.length=ns.length:=a2.length_eq;have hn:H (s.heap.objs.size+1)=none:=I.hok.fresh (Ft _);refine⟨.ref (s.heap.objs.size+1),_,I.laid (a:=s.heap.objs.size+1) (o:= .lst (ms.map V.int)) (t':=s.toks) (fun b o=>sortedAll_old) (Ft _) ?_,rfl,q _ ms hn a2 a3⟩;refine⟨by rw[Av,Cb];lia,out.toList,e,R8 a1,?_⟩;rw[he]
def rngP(p:Addr)(a b c:Int):Heap->Prop:=fun h=> ∃t u v,IsRange h p a b c t u v
theorem IT:aW X (.type "range") (fun xs H Q=> ∃a b c,xs=[.int a,.int b,.int c]/\0<c/\c<1073741824/\ ∀p,H p=none->Q (.ref p) (upd H p (.ext (rngP p a b c)))):=by
 intro aa s σ H xs us Q I r h;obtain⟨a,b,c,rfl,hc,hc2,q⟩:=h;cases r with
 |cons r1 r=>
  cases r with
  |cons r2 r=>
   cases r with
   |cons r3 r=>
    cases r;obtain⟨t,rfl⟩:=r1;obtain⟨u,rfl⟩:=r2;obtain⟨v,rfl⟩:=r3;refine call_range_3 (by lia) ?_ (.inl (Jg (by lia)));have hn:=I.hok.fresh (Au s.heap.objs.size);refine⟨.ref s.heap.objs.size,_,I.laid (a:=s.heap.objs.size) (o:= .ext (rngP s.heap.objs.size a b c)) (t':=s.toks) (fun _ _ z=>Ad _ z) (Au _) ?_,rfl,q _ hn⟩;refine⟨⟨t,u,v,Oh ..⟩,⟨_,At _ rfl⟩,fun h1 h2 ⟨t,u,v,z⟩ k=>⟨t,u,v,k _ z⟩⟩
theorem K1:aW X (.builtin "len") (fun xs H Q=> ∃p a b c,∃n:Nat,xs=[.ref p]/\H p=some (.ext (rngP p a b c))/\Fd a b c=n/\(n:Int)<2 ^ 63/\Q (.int n) H):=by
 intro aa s σ H xs us Q I r h;obtain⟨p,a,b,c,n,rfl,hp,hn,hz,q⟩:=h;obtain⟨u,rfl,rx⟩:=TM r;cases rx;obtain⟨⟨t,u,v,z⟩,_⟩:=I.hok p _ hp;exact call_len_range z hn hz ⟨.int n,H,I.tok _,⟨_,rfl⟩,q⟩
inductive MF:List Jk->List (Str×V)->Prop
 |nil:MF [] []
 |cons {e:Jk} {es:List Jk} {x:Str} {t:Tok} {v:V} {D:List (Str×V)}:e.key= .str x t->b6 v e.val->MF es D->MF (e::es) ((x,v)::D)
def KTab(K:Ai)(a:Addr)(D:List (Str×V)):Prop:=
 (a==Ei)=false/\ ∃o es ep,K.lookup a=some o/\o.ExactDict/\o.data= .dict es ep/\MF es.toList D
theorem MF.rows{es:List Jk}{D:List (Str×V)}(h:MF es D):KTD.Rows b6 es D:=by
 induction h with
 |nil=>exact .nil
 |cons h1 h2 _ ih=>exact .cons h1 h2 ih
theorem JQ{A:Cm}{E:Value->Ag->Prop}{s:Ag}{K:Ai}{prog:Ax}{w:World}{a:Addr}{D:List (Str×V)}{k:Str}{tk:Tok}{Q:Option Value->Ag->Prop}(hK:K.In s.heap)(T:KTab K a D)
  (h1: ∀d v,Er k D=some d->b6 d v->Q (some v) {s with toks:=s.toks+1}) (h2:Er k D=none->Q none {s with toks:=s.toks+1}):
  wpAny (model prog w) A (dictGet a (.str k tk)) Q E s:=by
 obtain⟨_,o,es,ep,ho,hc,hd,hr⟩:=T;have ho:=hK _ _ ho;have hr:=hr.rows;unfold dictGet;try with_reducible refine Cc ?_
 refine Ac (wpAny_pyHash_str (Ac (KTD.kt_dictFind_strs (s:={s with toks:=s.toks+1}) ho hd (by obtain⟨l⟩:=es;simpa using hr.exact) ?_)));have hq:Q (findBy (fun k v=>v.isStr k) es k) {s with toks:=s.toks+1}:=by
  have hf:findBy (fun k v=>v.isStr k) es k=(es.toList.find? fun e=>e.key.isStr k).map (·.val):=by
   obtain⟨l⟩:=es;simp[findBy]
  rw[hf];cases hat:Er k D with
  |some d=>obtain⟨v,hv,hfl⟩:=hr.find_some hat;rw[hv];exact h1 d v hat hfl
  |none=>rw[hr.find_none hat];exact h2 hat
 rw[findBy_of_findIdx?] at hq;cases hi:es.findIdx? fun e=>e.key.isStr k with
 |none=>rw[hi] at hq;exact As hq
 |some i=>rw[hi] at hq;exact Ac (wpAny_dictEntries (s:={s with toks:=s.toks+1}) ho hd (As hq))
theorem zCS:CZ X (fun x y H Q=> ∃a k D v,x= .ref a/\y= .str k/\KTab X.K a D/\Er k D=some v/\Q v H):=by
 intro value slice aa s σ H x y v u Q I rx ry h hs;obtain⟨a,k,D,d,rfl,rfl,T,hk,q⟩:=h;cases rx;obtain⟨t,rfl⟩:=ry;have hT:s.TypeIs (.ref a) "dict":=by
  obtain⟨_,o,es,ep,ho,hc,_⟩:=T;exact⟨o,I.kIn _ _ ho,hc.1⟩
 have main:wpAny (model X.prog X.w) X.A (Ix (.ref a) (.str k t)) (EP X aa σ Q) X.xe s:=by
  unfold Ix;try with_reducible refine Cc ?_
  refine Ac (Ij hT (by decide) ?_);refine Ac (Ct (name:=Bb "__getitem__") hT Ic
   (Dy Ic hT PySem.F.entry_dict_getitem ?_ (PySem.F.args_dict_getitem_2 _ _)))
  show wpAny _ _ (dictGet a (.str k t)>>=_) _ _ s;exact Ac (JQ I.kIn T (fun d' v' ha hv=>As ⟨v',rfl,As (by
   rw[hk] at ha;cases ha;exact⟨d,H,I.tok _,hv,q⟩)⟩) fun hn=>by rw[hk] at hn;cases hn)
 exact Nv hT PySem.F.slot_dict_getitem.lookup main hs
end
section
variable{prog:Ax}{w:World}{A:Cm}{E:Value->Ag->Prop}{s:Ag}
theorem MR{it t:Addr}{items:Array Value}(hne:t≠it): ∀(n i:Nat) (s:Ag) (Q:List Value->Ag->Prop),s.heap.IsListIter it t i->s.heap.IsList t items->i+n<=items.size→
  (∀h',h'.IsListIter it t (i+n)->Ek it s.heap h'->Q ((items.toList.drop i).take n) {s with heap:=h'})->wpAny (model prog w) A (draw (.ref it) n) Q E s
 |0,i,s,Q,hit,_,_,hQ=>by
  show wpAny _ _ (pure []) Q E s;exact As (by simpa using hQ s.heap hit (Heap.SameBut.refl ..))
 |n+1,i,s,Q,hit,ht,hle,hQ=>by
  have hlt:i<items.size:=by lia
  show wpAny _ _ (pyNext (.ref it)>>=_) Q E s;refine Ac (Jf hit ht (x:=items[i]) (by simp[hlt]) fun h₁ hit₁ hs₁=> ?_);refine Ac (Cc (MR hne n (i+1) _ _ hit₁ (ht.extBut hs₁.extBut hne) (by lia) fun h₂ hit₂ hs₂=>As ?_));have hd:items.toList.drop i=items[i]::items.toList.drop (i+1):=by simp[Fp,hlt]
  have:=hQ h₂ (by rw[show i+(n+1)=i+1+n by lia];exact hit₂) (hs₁.trans hs₂)
  rw[hd,List.take_succ_cons] at this;exact this
theorem RA{t:Addr}{items:Array Value}{Q:List Value->Ag->Prop}(hh:A.handled=none)(ht:s.heap.IsList t items)
  (hQ: ∀h',Hl s.heap.objs.size s.heap h'->Q items.toList {s with heap:=h'}):wpAny (model prog w) A (Kn (.ref t) items.size none) Q E s:=by
 have hlt:t≠s.heap.objs.size:=by obtain⟨o,ho,_⟩:=ht;exact Bl (Ar ho)
 unfold Kn;refine Ac ?_
 ·unfold notIterableAtAll
  refine Ac (wpAny_specialOf ht.typeIs PySem.F.slot_list_iter.lookup ?_);refine As ?_;simp only[Hz,if_false];refine Ac (Cc (Fk ht ?_));have htp:(s.heap.push {cls:= .type "list_iterator",data:= .fields #[.ref t,.int 0 0]}).IsList t items:=by
   obtain⟨o,ho,r⟩:=ht;exact⟨o,Ad _ ho,r⟩
  refine Ac (Cc (MR hlt items.size 0 _ _ ⟨_,At _ rfl,rfl,rfl⟩ htp (by lia) fun h₁ hit₁ hs₁=> ?_));have dh:List.take items.size (List.drop 0 items.toList)=items.toList:=by rw[Nf];exact Dk (by simp)
  rw[dh];rw[if_neg (by simp)];have ht₁:h₁.IsList t items:=htp.extBut hs₁.extBut hlt;refine Ac (Cc (Jn hh hit₁ ht₁ (by simp) fun h₂ he₂=> ?_));simp only[Option.isSome_none,Hz,if_false];refine As (hQ h₂ fun b o hb e=>he₂ b o hb (hs₁.extBut b o hb (Ad _ e)))
theorem RI{env:Env}{i4:List Expr}{x1}{pos:Pos}{t:Addr}{items:Array Value}{Q:Unit->Ag->Prop}(hh:A.handled=none)(ht:s.heap.IsList t items)
  (hn:(assignEach i4 env).length=items.size) (md:(assignEach i4 env).findIdx? (·.1)=none)
  (h: ∀h',Hl s.heap.objs.size s.heap h'->wpAny (model prog w) A (assignInOrder ((assignEach i4 env).map (·.2)) items.toList) Q E {s with heap:=h'}):
  wpAny (model prog w) A (assign (.Tuple i4 x1 pos) env (.ref t)) Q E s:=by
 rw[assign_Tuple];refine Ac (Gz ?_);unfold unpack;rw[hn,md];exact Ac (Cc (RA hh ht h))
end
section
variable{X:Cx}{pos:Pos}
def gLst(K:Ai)(n:Nat)(t:DF):TG:=fun v σ H Q=> ∃a xs,v= .ref a/\XZ K H a xs/\xs.length=n/\t xs σ H Q
theorem zFH{es:List Expr}{k:Nat}{t:DF}{n:Nat}(hc:X.calm=true)(h:E1 X es t)
  (hn:(assignEach es X.env).length=n:=by rfl) (hst:(assignEach es X.env).findIdx? (·.1)=none:=by rfl):PG X (.Tuple es k pos) (gLst X.K n t):=by
 intro aa s σ H v u Q I r hw;obtain⟨a,xs,e1,hq,hl,hw⟩:=hw;subst e1;cases r;obtain⟨its,rv,ht,hz⟩:=I.list hq;refine RI (I.ok.hd hc) ht.isList (by simp[hn,<- hl,rv.length]) hst fun h' hx=> ?_;have I1:cM X aa σ H {s with heap:=h'}:=I.kept (t':=s.toks) fun b o e=>hx b o (Bl (Ar e)) e;exact h aa _ σ H xs _ Q I1 (by simpa using rv) hw
def FnAt(X:Cx)(f:Addr)(sp:Sp):Prop:= ∃(k:Nat) (fd:Cy) (ps:List Str),bX X.prog X.w X.K X.mg X.base CX0 k f fd ps sp/\Z6 k X.A/\Eg X.K (.ref f)=true/\XV X.K fd ps []
def zEJ(X:Cx)(tf:TE)(t:TA):TE:=fun σ H Q=>tf σ H fun x H1=> ∃f sp,x= .ref f/\FnAt X f sp/\t σ H1 fun vs H2=>sp vs H2 Q E0
theorem zA0{x:Str}{p pos:Pos}{e:Expr}{es:List Expr}{tf:TE}{t:TA}(hf:PE X (.Name x p) tf)(ha:PA X (e::es) t)
  (he:Ae (e::es) X.env=(false,eval e X.env)::Ae es X.env:=by rfl) (hpl:(Dh pos (Ae es X.env)).any (·.1)=false:=by rfl):
  PE X (.Call (.Name x p) (e::es) [] pos) (zEJ X tf t):=by
 intro aa s σ H Q I h;refine Dv (ZX (hf aa s σ H _ I h) fun u s1 ⟨x,H1,I1,rx,f,sp,ex,F,q⟩=> ?_);subst ex;obtain rfl:u=Be f:=rx;obtain⟨k,fd,ps,F,hr,hk,hb⟩:=F;refine Ly (h₀:=X.base) I.ok.mod.kin hk (ZX (ha pos aa s1 σ H1 _ I1 q) fun us s2 ⟨vs,H2,I2,r,q2⟩=>⟨I2.kIn,?_⟩) he hpl;refine HP (dvs:=[]) (ds:=[]) F hr hb .nil J4 I2 r ?_;rw[Bm];exact q2
end
section
variable{X:Cx}{K:Ai}
theorem zJU(h:X.K=K):aW X (.type "list") (fun xs H Q=> ∃p ys,xs=[.ref p]/\(XZ K H p ys∨VC K H p ys)/\ ∀l,H l=none->Q (.ref l) (upd H l (.lst ys))):=by subst h;exact K4
theorem zH7(h:X.K=K):aW X (.type "tuple") (fun xs H Q=> ∃p ys,xs=[.ref p]/\((XZ K H p ys/\ ∀l,H l=none->Q (.ref l) (upd H l (.tup ys)))∨(VC K H p ys/\Q (.ref p) H))):=by subst h;exact NL
theorem zCQ(h:X.K=K):aW X (.builtin "sorted") (fun xs H Q=> ∃(p:Addr) (ns:List Int),xs=[.ref p]/\XZ K H p (ns.map V.int)/\ns.length<64∧
  ∀(l:Addr) (ms:List Int),H l=none->ms.Perm ns->ms.Pairwise (· <= ·)->Q (.ref l) (upd H l (.lst (ms.map V.int)))):=by subst h;exact QN
theorem kEqD(h:X.K=K)(hu:X.A.units+64<cLine):XS X (Cg .Eq) (rEqD K):=by subst h;exact zFR hu
theorem PX(h:X.K=K)(hu:X.A.units+64<cLine):XS X (Cg .NotEq) (rNeD K):=by subst h;exact zFP hu
theorem zJR(h:X.K=K){es:List Expr}{k:Nat}{t:DF}{n:Nat}{pos:Pos}(hc:X.calm=true)(hg:E1 X es t)(hn:(assignEach es X.env).length=n:=by rfl)(hst:(assignEach es X.env).findIdx? (·.1)=none:=by rfl):PG X (.Tuple es k pos) (gTup K n t):=by subst h;exact zFF hc hg hn hst
theorem zJS(h:X.K=K){es:List Expr}{k:Nat}{t:DF}{n:Nat}{pos:Pos}(hc:X.calm=true)(hg:E1 X es t)(hn:(assignEach es X.env).length=n:=by rfl)(hst:(assignEach es X.env).findIdx? (·.1)=none:=by rfl):PG X (.Tuple es k pos) (gLst K n t):=by subst h;exact zFH hc hg hn hst
theorem zH1(h:X.K=K){tg l:Expr}{tl:TE}(hl:PE X l tl):PI X tg l (zDW K tl):=by subst h;exact zC1 hl
theorem zJQ(h:X.K=K){tg l:Expr}{tl:TE}(hl:PE X l tl):PI X tg l (iTup K tl):=by subst h;exact zFE hl
theorem kBm(h:X.K=K){o e:Expr}{es:List Expr}{to:TE}{t:TA}{name:Str}{ah ae:Pos}{T id:String}{r:V->List V->Hp->VK->Prop}(pa:PlainAttrs T)(slot:Slot T name id)(hty:typeOf (.builtin id)=pure (.type "method_descriptor")) (hm:MtR X id r) (ho:PE X o to) (ha:PA X (e::es) t)
  (ar:By o name X.env (eval o X.env)=eval o X.env:=by rfl)
  (ca : ((Dh ae (Ae (e :: es) X.env)).all (fun x => !x.1) && (Hb ae (Fe [] X.env)).all (fun x => x.1.isSome)
   && decide ((e::es).length+([]:List Gm).length+(if([]:List Gm).isEmpty then 0 else 1)<30))=true:=by rfl)
  (ao:(ah.endLine==ae.line)=true:=by rfl) (hs:Ae (e::es) X.env=(false,eval e X.env)::Ae es X.env:=by rfl) (ak:(Dh ae (Ae es X.env)).any (·.1)=false:=by rfl):
  PE X (.Call (.Attribute o name ah) (e::es) [] ae) (tBM K T r to t):=by
 subst h;exact zJ6 pa slot hty hm ho ha ar ca ao hs ak
end
theorem zB4:Bf "len"=some (.builtin "len"):=by decide+kernel
theorem zB2:Bf "min"=some (.builtin "min"):=by decide+kernel
theorem zB3:Bf "max"=some (.builtin "max"):=by decide+kernel
theorem DH:Bf "sorted"=some (.builtin "sorted"):=by decide+kernel
theorem NK:Bf "isinstance"=some (.builtin "isinstance"):=by decide+kernel
theorem T6:Bf "list"=some (.type "list"):=by decide+kernel
theorem ZA:Bf "tuple"=some (.type "tuple"):=by decide+kernel
theorem zB1:Bf "range"=some (.type "range"):=by decide+kernel
theorem zD4:Bf "bool"=some (.type "bool"):=by decide+kernel
theorem zHJ:Bf "int"=some (.type "int"):=by decide+kernel
theorem zB0:Bf "str"=some (.type "str"):=by decide+kernel
structure Def(P:Ax)(w:World)(K:Ai)(mg:Str->Option Value)(base:Heap)(x:Str)(k:Nat)(ps:List Str)(sp:Sp)(f:Addr):Prop where
 at_:mg x=some (.ref f)
 ok: ∃fd,bX P w K mg base CX0 k f fd ps sp/\XV K fd ps []
 kp:Eg K (.ref f)=true
section
variable{X:Cx}{x:Str}{k j:Nat}{ps:List Str}{sp:Sp}{f:Addr}{p pos:Pos}{e:Expr}{es:List Expr}{t:TA}
theorem J6(D:Def X.prog X.w X.K X.mg X.base x k ps sp f)(hr:Z6 j X.A)(hk:k<=j)(hg:Gl X x)(ha:PA X (e::es) t)(hdb:(x==("__debug__":Str))=false:=by decide)
  (he:Ae (e::es) X.env=(false,eval e X.env)::Ae es X.env:=by rfl) (hpl:(Dh pos (Ae es X.env)).any (·.1)=false:=by rfl):
  PE X (.Call (.Name x p) (e::es) [] pos) (BU sp [] E0 t):=by
 obtain⟨fd,F,B⟩:=D.ok;exact FT F (hr.mono hk) hg D.at_ D.kp B .nil J4 ha hdb he hpl
theorem Def.fnAt(D:Def X.prog X.w X.K X.mg X.base x k ps sp f)(hr:Z6 j X.A)(hk:k<=j):FnAt X f sp:=by
 obtain⟨fd,F,B⟩:=D.ok;exact⟨k,fd,ps,F,hr.mono hk,D.kp,B⟩
end
theorem c7{H:Hp}{p:Addr}{o:HO}(hp:H p=none):aG H (upd H p o):=fun b o' e=>by
 rw[cY (bC e hp)];exact e
theorem KC(ns:List Int):Dt (.list (ns.map Ln))=true:=by
 have h1:Ff (.list (ns.map Ln))=true:=by simp only[Ff,canLayAll_ints]
 have h2:Gs (.list (ns.map Ln))<=64:=by
  simp only[Gs,depthAll_ints];decide
 unfold Dt;rw[h1,decide_eq_true h2];rfl
inductive dH where
 |non|bl (b:Bool)|int (i:Int)|str (x:Str)|ty (n:String)|fn (x:Str)|tup (ds:List dH)|lst (ds:List dH)|dct (ks:List aY) (ds:List dH)|exn (x:Str)|exr (x n:Str) (d:dH)|flt (x f g:Str) (k:Nat) (ds:List dH)
def FzL(K:Ai)(H:Hp)(a:Addr)(xs:List V):Prop:=
 (∃o,H a=some (.frz o (.lst xs)))∨
  ∃(o:Obj) (its:Array Value) (n:Nat),K.lookup a=some o/\o.cls= .type "list" /\o.dict=none/\o.data= .seq its n/\its.size<=sizeLine/\bT xs its.toList
theorem FzL.sq{K:Ai}{H:Hp}{a:Addr}{xs:List V}(h:FzL K H a xs):XZ K H a xs:=by
 rcases h with⟨o,h⟩|h
 ·exact .inl (.inr ⟨o,h⟩)
 ·exact .inr h
def FzM(K:Ai)(H:Hp)(M:Addr->Prop)(a:Addr)(xs:List V):Prop:=FzL K H a xs∨ ∃x C dx f g p q us ws,H a=some (.own x)/\H x=some (.flt C dx f g p q us ws)/\¬M x/\((a=p/\xs=us)∨(a=q/\xs=ws))
theorem FzM.sq{K:Ai}{H:Hp}{M:Addr->Prop}{a:Addr}{xs:List V}(h:FzM K H M a xs):XZ K H a xs:=by
 rcases h with h|⟨x,C,dx,f,g,p,q,us,ws,h1,h2,_,z⟩
 ·exact h.sq
 ·refine .inl (.inl (.inr ⟨x,C,dx,f,g,p,q,us,ws,h1,h2,?_⟩))
  rcases z with⟨z,rfl⟩|⟨z,rfl⟩
  ·exact .inl ⟨z,rfl⟩
  ·exact .inr ⟨z,rfl⟩
def UL(K:Ai)(H:Hp)(a:Addr)(x f g:Str)(xs ys:List V):Prop:= ∃C dx p q,H a=some (.flt C dx f g p q xs ys)/\(H p=some (.own a)/\H q=some (.own a))/\Fg K mainGlobals x=some (some (.ref C))
def zKD(h:Heap)(a C:Addr):Prop:= ∃o vs,h.get? a=some o/\o.cls= .ref C/\o.data= .fields vs
def zHQ(h:Heap)(a C D:Addr):Prop:= ∃o vs,h.get? a=some o/\o.cls= .ref C/\o.data= .fields vs/\o.dict=some D
mutual
inductive bQ(K:Ai)(N:Addr->Prop)(H:Hp):(Addr->Prop)->V->dH->Prop
 |non {M:Addr->Prop}:bQ K N H M .non .non
 |bl {M:Addr->Prop} (b:Bool):bQ K N H M (.bl b) (.bl b)
 |int {M:Addr->Prop} (i:Int):bQ K N H M (.int i) (.int i)
 |str {M:Addr->Prop} (x:Str):bQ K N H M (.str x) (.str x)
 |ty {M:Addr->Prop} (n:String):bQ K N H M (.ty n) (.ty n)
 |fn {M:Addr->Prop} {a:Addr} {x:Str}:Fg K mainGlobals x=some (some (.ref a))->bQ K N H M (.ref a) (.fn x)
 |tup {M:Addr->Prop} {a:Addr} {xs:List V} {ds:List dH}:VC K H a xs->cJ K N H xs ds->bQ K N H M (.ref a) (.tup ds)
 |lst {M:Addr->Prop} {a:Addr} {xs:List V} {ds:List dH}:H a=some (.lst xs)-> ¬M a->cJ K N H xs ds->bQ K N H M (.ref a) (.lst ds)
 |fzm {M:Addr->Prop} {a:Addr} {xs:List V} {ds:List dH}:FzM K H M a xs->cJ K N H xs ds->bQ K N H M (.ref a) (.lst ds)
 |dct {M:Addr->Prop} {a:Addr} {kvs:List (aY×V)} {ds:List dH}:H a=some (.dK kvs)-> ¬M a->cJ K N H (kvs.map Eu) ds->bQ K N H M (.ref a) (.dct (kvs.map Ds) ds)
 |ktb {M:Addr->Prop} {a:Addr} {D:List (Str×V)} {ds:List dH}:KTab K a D->cJ K N H (D.map Eu) ds->bQ K N H M (.ref a) (.dct (D.map fun p=> .inr p.1) ds)
 |exn {M:Addr->Prop} {a C:Addr} {x:Str} {φ:Heap->Prop}:Fg K mainGlobals x=some (some (.ref C))->H a=some (.ext φ)->(∀h,φ h->zKD h a C)->bQ K N H M (.ref a) (.exn x)
 |exr {M:Addr->Prop} {a C D:Addr} {x n:Str} {φ:Heap->Prop} {v:V} {d:dH}:Fg K mainGlobals x=some (some (.ref C))->H a=some (.ext φ)->(∀h,φ h->zHQ h a C D)->H D=some (.xd [(n,v)])->bQ K N H N v d->bQ K N H M (.ref a) (.exr x n d)
 |flt {M:Addr->Prop} {a:Addr} {x f g:Str} {xs ys:List V} {ds:List dH}:UL K H a x f g xs ys-> ¬M a->cJ K N H (xs++ys) ds->bQ K N H M (.ref a) (.flt x f g xs.length ds)
inductive cJ(K:Ai)(N:Addr->Prop)(H:Hp):List V->List dH->Prop
 |nil:cJ K N H [] []
 |cons {v:V} {vs:List V} {d:dH} {ds:List dH}:bQ K N H N v d->cJ K N H vs ds->cJ K N H (v::vs) (d::ds)
end
theorem bQ.fzl{K:Ai}{N:Addr->Prop}{H:Hp}{M:Addr->Prop}{a:Addr}{xs:List V}{ds:List dH}(q:FzL K H a xs)(r:cJ K N H xs ds):bQ K N H M (.ref a) (.lst ds):= .fzm (.inl q) r
def Hard:HO->Prop
 | .tup _=>True
 | .frz _ _=>True
 | .ext _=>True
 | .xd _=>True
 | .own _=>True
 |_=>False
structure Fr(P:Addr->Prop)(H H':Hp):Prop where
 kp: ∀b o,H b=some o->(P b->Hard o)->H' b=some o
 ft: ∀b C dx f g p q xs ys,H b=some (.flt C dx f g p q xs ys)-> ∃us ws,H' b=some (.flt C dx f g p q us ws)
instance frCoe {P:Addr->Prop} {H H':Hp}:CoeFun (Fr P H H') (fun _=> ∀b o,H b=some o->(P b->Hard o)->H' b=some o):=⟨Fr.kp⟩
def PQ(H:Hp)(a:Addr)(o:HO):Prop:= ∀C dx f g p q xs ys,H a=some (.flt C dx f g p q xs ys)-> ∃us ws,o= .flt C dx f g p q us ws
theorem PQ.upd{H:Hp}{a:Addr}{o:HO}(h:PQ H a o)(b:Addr)(C dx:Addr)(f g:Str)(p q:Addr)(xs ys:List V)(e:H b=some (.flt C dx f g p q xs ys)): ∃us ws,upd H a o b=some (.flt C dx f g p q us ws):=by
 by_cases hb:b=a
 ·subst hb
  obtain⟨us,ws,rfl⟩:=h _ _ _ _ _ _ _ _ e;exact⟨us,ws,cX⟩
 ·exact⟨xs,ys,by rw[cY hb];exact e⟩
theorem PQ.of{H:Hp}{a:Addr}{o o0:HO}(h:H a=some o0)(n: ∀C dx f g p q xs ys,o0≠ .flt C dx f g p q xs ys:=by exact fun _ _ _ _ _ _ _ _ z=>nomatch z):PQ H a o:=fun C dx f g p q xs ys e=>by
 rw[h] at e;exact absurd (Bt e) (n _ _ _ _ _ _ _ _)
theorem Fr.refl(P:Addr->Prop)(H:Hp):Fr P H H:=⟨fun _ _ h _=>h,fun _ _ _ _ _ _ _ xs ys h=>⟨xs,ys,h⟩⟩
theorem Fr.trans{P:Addr->Prop}{H H1 H2:Hp}(a:Fr P H H1)(b:Fr P H1 H2):Fr P H H2:=⟨fun c o h n=>b c o (a c o h n) n,fun _ _ _ _ _ _ _ _ _ h=>let ⟨_,_,e⟩:=a.ft _ _ _ _ _ _ _ _ _ h;b.ft _ _ _ _ _ _ _ _ _ e⟩
theorem Fr.mono{P P':Addr->Prop}{H H':Hp}(a:Fr P H H')(h: ∀b,P b->P' b):Fr P' H H':=⟨fun c o e n=>a c o e fun z=>n (h c z),a.ft⟩
theorem aG.fr{P:Addr->Prop}{H H':Hp}(a:aG H H'):Fr P H H':=⟨fun c o h _=>a c o h,fun _ _ _ _ _ _ _ xs ys h=>⟨xs,ys,a _ _ h⟩⟩
section
variable{K:Ai}{N N' M M' P:Addr->Prop}{H H':Hp}
theorem Fr.tup(f:Fr P H H'){a:Addr}{xs:List V}(h:VC K H a xs):VC K H' a xs:=by
 rcases h with((h|⟨_,_,_,_,_,_,_,_,_,_,_,z⟩)|⟨o,h⟩)|h
 ·exact .inl (.inl (.inl (f _ _ h fun _=>trivial)))
 ·rcases z with⟨_,z⟩|⟨_,z⟩<;>cases z
 ·exact .inl (.inr ⟨o,f _ _ h fun _=>trivial⟩)
 ·exact .inr h
theorem Fr.fzl(f:Fr P H H'){a:Addr}{xs:List V}(h:FzL K H a xs):FzL K H' a xs:=by
 rcases h with⟨o,h⟩|h
 ·exact .inl ⟨o,f _ _ h fun _=>trivial⟩
 ·exact .inr h
theorem Fr.fzm(f:Fr P H H'){M:Addr->Prop}{a:Addr}{xs:List V}(h:FzM K H M a xs)(hM: ∀a,P a->M a):FzM K H' M a xs:=by
 rcases h with h|⟨x,C,dx,f',g,p,q,us,ws,h1,h2,n,z⟩
 ·exact .inl (f.fzl h)
 ·exact .inr ⟨x,C,dx,f',g,p,q,us,ws,f _ _ h1 fun _=>trivial,f _ _ h2 fun z=>absurd (hM _ z) n,n,z⟩
theorem UL.fr{a:Addr}{x n m:Str}{xs ys:List V}(h:UL K H a x n m xs ys)(f:Fr P H H')(ha: ¬P a):UL K H' a x n m xs ys:=let ⟨C,dx,p,q,e,⟨z1,z2⟩,z⟩:=h;⟨C,dx,p,q,f _ _ e fun w=>absurd w ha,⟨f _ _ z1 fun _=>trivial,f _ _ z2 fun _=>trivial⟩,z⟩
theorem UL.same{a:Addr}{x n m:Str}{xs ys:List V}(h:UL K H a x n m xs ys)(f:aG H H'):UL K H' a x n m xs ys:=let ⟨C,dx,p,q,e,⟨z1,z2⟩,z⟩:=h;⟨C,dx,p,q,f _ _ e,⟨f _ _ z1,f _ _ z2⟩,z⟩
theorem UL.there{a:Addr}{x n m:Str}{xs ys:List V}(h:UL K H a x n m xs ys): ∃o,H a=some o/\¬Hard o:=let ⟨_,_,_,_,e,_⟩:=h;⟨_,e,fun z=>z⟩
theorem bQ.fr(f:Fr P H H')(hN: ∀a,P a->N a){M:Addr->Prop}{v:V}{d:dH}(hM: ∀a,P a->M a)(h:bQ K N H M v d):bQ K N H' M v d:=
 bQ.rec (motive_1:=fun M v d _=>(∀a,P a->M a)->bQ K N H' M v d) (motive_2:=fun vs ds _=>cJ K N H' vs ds) (fun _=> .non) (fun b _=> .bl b) (fun i _=> .int i) (fun x _=> .str x) (fun n _=> .ty n) (fun q _=> .fn q) (fun q _ r _=> .tup (f.tup q) r)
  (fun q n _ r hM=> .lst (f _ _ q fun z=>absurd (hM _ z) n) n r) (fun q _ r hM=> .fzm (f.fzm q hM) r) (fun q n _ r hM=> .dct (f _ _ q fun z=>absurd (hM _ z) n) n r) (fun q _ r _=> .ktb q r) (fun p q r _=> .exn p (f _ _ q fun _=>trivial) r)
  (fun p q r s _ t _=> .exr p (f _ _ q fun _=>trivial) r (f _ _ s fun _=>trivial) (t hN)) (fun q n _ r hM=> .flt (q.fr f fun z=>n (hM _ z)) n r) .nil (fun _ _ a b=> .cons (a hN) b) h hM
theorem cJ.map{K':Ai}{N':Addr->Prop}{H':Hp}(g: ∀{v d},bQ K N H N v d->bQ K' N' H' N' v d): ∀{vs:List V} {ds:List dH},cJ K N H vs ds->cJ K' N' H' vs ds:=by
 intro vs;induction vs with
 |nil=>intro ds h;cases h;exact .nil
 |cons v vs ih=>intro ds h;cases h with|cons a b=>exact .cons (g a) (ih b)
theorem cJ.fr(f:Fr P H H')(hN: ∀a,P a->N a){vs:List V}{ds:List dH}(h:cJ K N H vs ds):cJ K N H' vs ds:=h.map fun r=>r.fr f hN hN
theorem bQ.mono(hN: ∀a,N' a->N a){M M':Addr->Prop}{v:V}{d:dH}(hM: ∀a,M' a->M a)(h:bQ K N H M v d):bQ K N' H M' v d:=
 bQ.rec (motive_1:=fun M v d _=> ∀M',(∀a,M' a->M a)->bQ K N' H M' v d) (motive_2:=fun vs ds _=>cJ K N' H vs ds) (fun _ _=> .non) (fun b _ _=> .bl b) (fun i _ _=> .int i) (fun x _ _=> .str x) (fun n _ _=> .ty n) (fun q _ _=> .fn q) (fun q _ r _ _=> .tup q r)
  (fun q n _ r _ hM=> .lst q (fun z=>n (hM _ z)) r) (fun q _ r _ hM=> .fzm (q.imp id fun⟨x,C,dx,f,g,p,q,us,ws,h1,h2,n,z⟩=>⟨x,C,dx,f,g,p,q,us,ws,h1,h2,fun w=>n (hM _ w),z⟩) r) (fun q n _ r _ hM=> .dct q (fun z=>n (hM _ z)) r) (fun q _ r _ _=> .ktb q r) (fun p q r _ _=> .exn p q r) (fun p q r s _ t _ _=> .exr p q r s (t _ hN)) (fun q n _ r _ hM=> .flt q (fun z=>n (hM _ z)) r) .nil (fun _ _ a b=> .cons (a _ hN) b) h M' hM
theorem cJ.mono(hN: ∀a,N' a->N a){vs:List V}{ds:List dH}(h:cJ K N H vs ds):cJ K N' H vs ds:=h.map fun r=>r.mono hN hN
theorem bQ.same(f:aG H H'){v:V}{d:dH}(h:bQ K N H M v d):bQ K N H' M v d:=h.fr f.fr (fun _ z=>z.elim) (P:=fun _=>False) fun _ z=>z.elim
theorem cJ.same(f:aG H H'){vs:List V}{ds:List dH}(h:cJ K N H vs ds):cJ K N H' vs ds:=h.fr f.fr (P:=fun _=>False) fun _ z=>z.elim
theorem cJ.length: ∀{vs:List V} {ds:List dH},cJ K N H vs ds->vs.length=ds.length
 |_,_,.nil=>rfl
 |_,_,.cons _ t=>congrArg (· +1) (cJ.length t)
theorem cJ.append: ∀{vs ws:List V} {ds es:List dH},cJ K N H vs ds->cJ K N H ws es->cJ K N H (vs++ws) (ds++es)
 |_,_,_,_,.nil,s=>s
 |_,_,_,_,.cons h t,s=> .cons h (cJ.append t s)
theorem cJ.get: ∀{vs:List V} {ds:List dH} {i:Nat} {d:dH},cJ K N H vs ds->ds[i]? =some d-> ∃v,vs[i]? =some v/\bQ K N H N v d
 |_,_,_,_,.nil,e=>by simp at e
 |_,_,0,_,.cons r _,e=>by simp at e;subst e;exact⟨_,rfl,r⟩
 |_,_,i+1,x,.cons _ t,e=>by
  obtain⟨u,h1,h2⟩:=cJ.get (i:=i) (d:=x) t (by simpa using e);exact⟨u,by simpa using h1,h2⟩
theorem cJ.take: ∀{vs:List V} {ds:List dH} (n:Nat),cJ K N H vs ds->cJ K N H (vs.take n) (ds.take n)
 |_,_,0,_=> .nil
 |_,_,_+1,.nil=> .nil
 |_,_,n+1,.cons r t=> .cons r (cJ.take n t)
theorem cJ.drop: ∀{vs:List V} {ds:List dH} (n:Nat),cJ K N H vs ds->cJ K N H (vs.drop n) (ds.drop n)
 |_,_,0,r=>r
 |_,_,_+1,.nil=> .nil
 |_,_,n+1,.cons _ t=>cJ.drop n t
theorem cJ.set{v:V}{d:dH}(h:bQ K N H N v d): ∀{vs:List V} {ds:List dH} (i:Nat),cJ K N H vs ds->cJ K N H (vs.set i v) (ds.set i d)
 |_,_,_,.nil=> .nil
 |_,_,0,.cons _ t=> .cons h t
 |_,_,i+1,.cons q t=> .cons q (cJ.set h i t)
theorem cJ.snoc{vs:List V}{ds:List dH}{v:V}{d:dH}(r:cJ K N H vs ds)(h:bQ K N H N v d):cJ K N H (vs++[v]) (ds++[d]):=r.append (.cons h .nil)
end
mutual
def dH.isD:dH->Bool
 | .non=>true
 | .bl _=>true
 | .int _=>true
 | .str _=>true
 | .ty _=>false
 | .fn _=>false
 | .tup ds=>JN ds
 | .lst ds=>JN ds
 | .dct _ _=>false
 | .exn _=>false
 | .exr _ _ _=>false
 | .flt _ _ _ _ _=>false
def JN:List dH->Bool
 |[]=>true
 |d::ds=>d.isD && JN ds
end
mutual
def dH.pd:dH->Kf
 | .non=> .none
 | .bl b=> .bool b
 | .int i=> .int i
 | .str x=> .str x
 | .ty _=> .none
 | .fn _=> .none
 | .tup ds=> .tuple (CU ds)
 | .lst ds=> .list (CU ds)
 | .dct _ _=> .none
 | .exn _=> .none
 | .exr _ _ _=> .none
 | .flt _ _ _ _ _=> .none
def CU:List dH->List Kf
 |[]=>[]
 |d::ds=>d.pd::CU ds
end
mutual
def dH.hard:dH->Bool
 | .tup ds=>RN ds
 | .lst _=>false
 | .dct _ _=>false
 | .exr _ _ _=>false
 | .flt _ _ _ _ _=>false
 |_=>true
def RN:List dH->Bool
 |[]=>true
 |d::ds=>d.hard && RN ds
end
section
variable{K:Ai}{N:Addr->Prop}{H:Hp}
theorem bQ.dp{M:Addr->Prop}{v:V}{d:dH}(h:bQ K N H M v d)(e:d.isD=true):Dp K H v d.pd:=
 bQ.rec (motive_1:=fun M v d _=>d.isD=true->Dp K H v d.pd) (motive_2:=fun vs ds _=>JN ds=true->NV K H vs (CU ds)) (fun _=> .non) (fun b _=> .bl b) (fun i _=> .int i) (fun x _=> .str x) (fun _ h=>nomatch h) (fun _ h=>nomatch h) (fun q _ r h=> .tup q (r h))
  (fun q _ _ r h=> .lst (XZ.of q) (r h)) (fun q _ r h=> .lst q.sq (r h)) (fun _ _ _ _ h=>nomatch h) (fun _ _ _ h=>nomatch h) (fun _ _ _ h=>nomatch h) (fun _ _ _ _ _ _ h=>nomatch h) (fun _ _ _ _ h=>nomatch h) (fun _=> .nil) (fun _ _ a b e=> .cons (a (Cu.mp e).1) (b (Cu.mp e).2)) h e
theorem bQ.hard{N':Addr->Prop}{M M':Addr->Prop}{v:V}{d:dH}(h:bQ K N H M v d)(e:d.hard=true):bQ K N' H M' v d:=
 bQ.rec (motive_1:=fun M v d _=> ∀M',d.hard=true->bQ K N' H M' v d) (motive_2:=fun vs ds _=>RN ds=true->cJ K N' H vs ds) (fun _ _=> .non) (fun b _ _=> .bl b) (fun i _ _=> .int i) (fun x _ _=> .str x) (fun n _ _=> .ty n) (fun q _ _=> .fn q) (fun q _ r _ h=> .tup q (r h))
  (fun _ _ _ _ _ h=>nomatch h) (fun _ _ _ _ h=>nomatch h) (fun _ _ _ _ _ h=>nomatch h) (fun _ _ _ _ h=>nomatch h) (fun p q r _ _=> .exn p q r) (fun _ _ _ _ _ _ _ h=>nomatch h) (fun _ _ _ _ _ h=>nomatch h) (fun _=> .nil) (fun _ _ a b e=> .cons (a _ (Cu.mp e).1) (b (Cu.mp e).2)) h M' e
theorem cJ.hard{N':Addr->Prop}: ∀{vs:List V} {ds:List dH},cJ K N H vs ds->RN ds=true->cJ K N' H vs ds:=by
 intro vs;induction vs with
 |nil=>intro ds h _;cases h;exact .nil
 |cons v vs ih=>intro ds h e;cases h with|cons a b=>exact .cons (a.hard (Cu.mp e).1) (ih b (Cu.mp e).2)
end
inductive Sl where
 |no|va (d:dH)|ow (d:dH)
abbrev Ev:=List Sl
structure Bs where
 Z:Addr->Prop
 P:Addr->Prop
 H0:Hp
 mu:Nat->Option Addr
 kp:List (V×dH)
def Nn(B:Bs)(O:Nat->Option Addr):Addr->Prop:=fun a=>B.Z a∨ ∃i,O i=some a
def OA(O:Nat->Option Addr):Addr->Prop:=fun a=> ∃i,O i=some a
inductive SA(K:Ai)(N:Addr->Prop)(H:Hp)(a:Addr):dH->Prop
 |lst {xs:List V} {ds:List dH}:H a=some (.lst xs)->cJ K N H xs ds->SA K N H a (.lst ds)
 |dct {kvs:List (aY×V)} {ds:List dH}:H a=some (.dK kvs)->cJ K N H (kvs.map Eu) ds->SA K N H a (.dct (kvs.map Ds) ds)
 |flt {x f g:Str} {xs ys:List V} {ds:List dH}:UL K H a x f g xs ys->cJ K N H (xs++ys) ds->SA K N H a (.flt x f g xs.length ds)
theorem SA.fr{K:Ai}{N P:Addr->Prop}{H H':Hp}{a:Addr}{d:dH}(f:Fr P H H')(hN: ∀a,P a->N a)(ha: ¬P a):SA K N H a d->SA K N H' a d
 | .lst q r=> .lst (f _ _ q fun z=>absurd z ha) (r.fr f hN)
 | .dct q r=> .dct (f _ _ q fun z=>absurd z ha) (r.fr f hN)
 | .flt q r=> .flt (q.fr f ha) (r.fr f hN)
theorem SA.mono{K:Ai}{N N':Addr->Prop}{H:Hp}{a:Addr}{d:dH}(h: ∀b,N' b->N b):SA K N H a d->SA K N' H a d
 | .lst q r=> .lst q (r.mono h)
 | .dct q r=> .dct q (r.mono h)
 | .flt q r=> .flt q (r.mono h)
theorem SA.soft{K:Ai}{N:Addr->Prop}{H:Hp}{a:Addr}{d:dH}(h:SA K N H a d): ∃o,H a=some o/\¬Hard o:=by
 cases h with
 |lst q _=>exact⟨_,q,fun z=>z⟩
 |dct q _=>exact⟨_,q,fun z=>z⟩
 |flt q _=>exact q.there
theorem SA.rep{K:Ai}{N M:Addr->Prop}{H:Hp}{a:Addr}{d:dH}(h:SA K N H a d)(hM: ¬M a):bQ K N H M (.ref a) d:=by
 cases h with
 |lst q r=>exact .lst q hM r
 |dct q r=>exact .dct q hM r
 |flt q r=>exact .flt q hM r
structure aR(K:Ai)(ml:List Nat)(B:Bs)(O:Nat->Option Addr)(H:Hp)(σ:St)(δ:Ev):Prop where
 len:σ.length=δ.length
 va: ∀(i:Nat) (d:dH),δ[i]? =some (Sl.va d)-> ∃v,σ[i]? =some (some v)/\bQ K (Nn B O) H (Nn B O) v d
 ow: ∀(i:Nat) (d:dH),δ[i]? =some (Sl.ow d)-> ∃a,O i=some a/\σ[i]? =some (some (.ref a))/\SA K (Nn B O) H a d
 dom: ∀(i:Nat) a,O i=some a-> ∃d,δ[i]? =some (Sl.ow d)
 inj: ∀i j a,O i=some a->O j=some a->i=j
 old: ∀i a,O i=some a-> ¬B.Z a/\(B.P a∨B.H0 a=none)
 zin: ∀a,B.Z a-> ∃o,H a=some o
 frm:Fr B.P B.H0 H
 par:(∀i a,B.mu i=some a->i∈ml)/\ ∀i∈ml,O i=B.mu i
 pin: ∀a,B.P a-> ∃o,H a=some o
 kep: ∀p∈B.kp,bQ K (Nn B O) H (Nn B O) p.1 p.2
section
variable{K:Ai}{ml:List Nat}{B:Bs}{O:Nat->Option Addr}{H H':Hp}{σ:St}{δ δ':Ev}
theorem aR.nin(S:aR K ml B O H σ δ){a:Addr}(h:Nn B O a): ∃o,H a=some o:=by
 rcases h with h|⟨i,h⟩
 ·exact S.zin a h
 ·obtain⟨d,e⟩:=S.dom i a h
  obtain⟨a',e1,_,w⟩:=S.ow i d e;rw[h] at e1;cases e1;obtain⟨o,q,_⟩:=w.soft;exact⟨o,q⟩
theorem aR.new(S:aR K ml B O H σ δ){a:Addr}(h:H a=none): ¬Nn B O a:=fun z=>by
 obtain⟨o,q⟩:=S.nin z;rw[h] at q;cases q
theorem aR.same(S:aR K ml B O H σ δ)(f:aG H H'):aR K ml B O H' σ δ where
 len:=S.len
 va:=fun i d e=>let ⟨v,a,b⟩:=S.va i d e;⟨v,a,b.same f⟩
 ow:=fun i d e=>let ⟨a,b,c,w⟩:=S.ow i d e;⟨a,b,c,w.fr (P:=fun _=>False) f.fr (fun _ z=>z.elim) fun z=>z⟩
 dom:=S.dom
 inj:=S.inj
 old:=S.old
 zin:=fun a h=>let ⟨o,q⟩:=S.zin a h;⟨o,f _ _ q⟩
 frm:=S.frm.trans f.fr
 par:=S.par
 pin:=fun a h=>let ⟨o,q⟩:=S.pin a h;⟨o,f _ _ q⟩
 kep:=fun p h=>(S.kep p h).same f
theorem aR.fresh(S:aR K ml B O H σ δ){a:Addr}(h:H a=none):B.H0 a=none:=by
 cases q:B.H0 a with
 |none=>rfl
 |some o=>
  by_cases hp:B.P a
  ·obtain⟨o',e⟩:=S.pin a hp
   rw[h] at e;cases e
  ·have := S.frm a o q fun z => absurd z hp
   rw[h] at this;cases this
def Bs.add(B:Bs)(p:Addr):Bs:={B with Z:=fun a=>B.Z a∨a=p}
theorem SY{p:Addr}: ∀a,Nn B O a->Nn (B.add p) O a:=fun a h=>by
 rcases h with h|h
 ·exact .inl (.inl h)
 ·exact .inr h
theorem bQ.away{p:Addr}(hp:H p=none)(N N':Addr->Prop)(hN: ∀a,N' a->N a∨a=p){M M':Addr->Prop}{v:V}{d:dH}(hM: ∀a,M' a->M a∨a=p)(h:bQ K N H M v d):bQ K N' H M' v d:=
 have no: ∀{a:Addr} {o:HO} {M M':Addr->Prop},H a=some o-> ¬M a->(∀a,M' a->M a∨a=p)-> ¬M' a:=fun q n hM z=>(hM _ z).elim n fun e=>by rw[e,hp] at q;cases q
 bQ.rec (motive_1:=fun M v d _=> ∀M',(∀a,M' a->M a∨a=p)->bQ K N' H M' v d) (motive_2:=fun vs ds _=>cJ K N' H vs ds) (fun _ _=> .non) (fun b _ _=> .bl b) (fun i _ _=> .int i) (fun x _ _=> .str x) (fun n _ _=> .ty n) (fun q _ _=> .fn q) (fun q _ r _ _=> .tup q r)
  (fun q n _ r _ hM=> .lst q (no q n hM) r) (fun q _ r _ hM=> .fzm (q.imp id fun⟨x,C,dx,f,g,p,q,us,ws,h1,h2,n,z⟩=>⟨x,C,dx,f,g,p,q,us,ws,h1,h2,no h2 n hM,z⟩) r) (fun q n _ r _ hM=> .dct q (no q n hM) r) (fun q _ r _ _=> .ktb q r) (fun p q r _ _=> .exn p q r) (fun p q r s _ t _ _=> .exr p q r s (t _ hN)) (fun q n _ r _ hM=> .flt q (let ⟨_,e,_⟩:=q.there;no e n hM) r) .nil (fun _ _ a b=> .cons (a _ hN) b) h M' hM
theorem cJ.away{p:Addr}(hp:H p=none)(N N':Addr->Prop)(hN: ∀a,N' a->N a∨a=p){vs:List V}{ds:List dH}(h:cJ K N H vs ds):cJ K N' H vs ds:=h.map fun r=>r.away hp N N' hN hN
theorem W7{p:Addr}: ∀a,Nn (B.add p) O a->Nn B O a∨a=p:=fun a h=>by
 rcases h with(h|h)|h
 ·exact .inl (.inl h)
 ·exact .inr h
 ·exact .inl (.inr h)
theorem aR.laid(S:aR K ml B O H σ δ){p:Addr}{o:HO}(hp:H p=none):aR K ml (B.add p) O (upd H p o) σ δ where
 len:=S.len
 va:=fun i d e=>let ⟨v,a,b⟩:=S.va i d e;⟨v,a,(b.away hp _ _ W7 W7).same (c7 hp)⟩
 ow:=fun i d e=>by
  obtain⟨a,b,c,w⟩:=S.ow i d e;refine⟨a,b,c,?_⟩;have hne: ∀o,H a=some o->upd H p o=upd H p o:=fun _ _=>rfl;cases w with
  |lst q r=>exact .lst (c7 hp _ _ q) ((r.away hp _ _ W7).same (c7 hp))
  |dct q r=>exact .dct (c7 hp _ _ q) ((r.away hp _ _ W7).same (c7 hp))
  |flt q r=>exact .flt (q.same (c7 hp)) ((r.away hp _ _ W7).same (c7 hp))
 dom:=S.dom
 inj:=S.inj
 old:=fun i a h=>by
  refine⟨fun z=> ?_,(S.old i a h).2⟩;rcases z with z|z
  ·exact(S.old i a h).1 z
  ·obtain⟨o,q⟩:=S.nin (.inr ⟨i,h⟩)
   rw[z,hp] at q;cases q
 zin:=fun a h=>by
  rcases h with h|h
  ·obtain⟨o,q⟩:=S.zin a h
   exact⟨o,c7 hp _ _ q⟩
  ·exact⟨_,by rw[h];exact cX⟩
 frm:=S.frm.trans (c7 hp).fr
 par:=S.par
 pin:=fun a h=>let ⟨o,q⟩:=S.pin a h;⟨o,c7 hp _ _ q⟩
 kep:=fun p h=>((S.kep p h).away hp _ _ W7 W7).same (c7 hp)
theorem P8{i:Nat}{o:Option Addr}: ∀a,Nn B (fun j=>if j=i then none else O j) a->Nn B O a:=fun a h=>by
 rcases h with h|⟨j,h⟩
 ·exact .inl h
 ·refine .inr ⟨j,?_⟩
  by_cases hj:j=i
  ·simp[hj] at h
  ·simpa[hj] using h
theorem UK{α:Type}{l:List α}{i j:Nat}{x y:α}(h:(l.set i x)[j]? =some y):(j=i/\y=x/\i<l.length)∨(j≠i/\l[j]? =some y):=by
 by_cases hj:j=i
 ·subst hj
  rw[List.getElem?_set_self'] at h;obtain⟨z,q,h⟩:=Ao.mp h;cases h;exact .inl ⟨rfl,rfl,(Ak.mp q).1⟩
 ·rw[Bp (Dj hj)] at h
  exact .inr ⟨hj,h⟩
theorem aR.setVa(S:aR K ml B O H σ δ){i:Nat}{v:V}{d:dH}(hm:i∉ml)(h:bQ K (Nn B O) H (Nn B O) v d):aR K ml B (fun j=>if j=i then none else O j) H (σ.set i (some v)) (δ.set i (.va d)) where
 len:=by rw[Df,Df,S.len]
 va:=fun j e q=>by
  rcases UK q with⟨rfl,z,hl⟩|⟨hj,q⟩
  ·cases z
   exact⟨v,by rw[Ce (by rw[S.len];exact hl)],h.mono (P8 (o:=none)) (P8 (o:=none))⟩
  ·obtain⟨u,e1,r⟩:=S.va j e q
   exact⟨u,by rw[Bp (Dj hj)];exact e1,r.mono (P8 (o:=none)) (P8 (o:=none))⟩
 ow:=fun j e q=>by
  rcases UK q with⟨rfl,z,hl⟩|⟨hj,q⟩
  ·cases z
  ·obtain⟨a,e1,e2,w⟩:=S.ow j e q
   exact⟨a,by simpa[hj] using e1,by rw[Bp (Dj hj)];exact e2,w.mono (P8 (o:=none))⟩
 dom:=fun j a e=>by
  by_cases hj:j=i
  ·simp[hj] at e
  ·obtain ⟨d,q⟩ := S.dom j a (by simpa [hj] using e)
   exact⟨d,by rw[Bp (Dj hj)];exact q⟩
 inj:=fun j k a e1 e2=>by
  by_cases hj:j=i
  ·simp[hj] at e1
  ·by_cases hk:k=i
   ·simp[hk] at e2
   ·exact S.inj j k a (by simpa[hj] using e1) (by simpa[hk] using e2)
 old:=fun j a e=>by
  by_cases hj:j=i
  ·simp[hj] at e
  ·exact S.old j a (by simpa[hj] using e)
 zin:=S.zin
 frm:=S.frm
 par:=⟨S.par.1,fun j hj=>by
  have hne:j≠i:=fun z=>hm (z▸hj);have h2:O j=B.mu j:=S.par.2 j hj;simpa[hne] using h2⟩
 pin:=S.pin
 kep:=fun p hp=>(S.kep p hp).mono (P8 (o:=none)) (P8 (o:=none))
theorem Q1{i:Nat}{p:Addr}: ∀a,Nn B (fun j=>if j=i then some p else O j) a->Nn (B.add p) O a:=fun a h=>by
 rcases h with h|⟨j,h⟩
 ·exact .inl (.inl h)
 ·by_cases hj:j=i
  ·simp[hj] at h
   exact .inl (.inr h.symm)
  ·exact .inr ⟨j,by simpa[hj] using h⟩
theorem aR.setOw{p:Addr}(S:aR K ml (B.add p) O H σ δ){i:Nat}{d:dH}(hm:i∉ml)(hl:i<δ.length)(hz: ¬B.Z p)(h0:B.H0 p=none)(h:SA K (Nn (B.add p) O) H p d):
  aR K ml B (fun j=>if j=i then some p else O j) H (σ.set i (some (.ref p))) (δ.set i (.ow d)) where
 len:=by rw[Df,Df,S.len]
 va:=fun j e q=>by
  rcases UK q with⟨rfl,z,_⟩|⟨hj,q⟩
  ·cases z
  ·obtain⟨u,e1,r⟩:=S.va j e q
   exact⟨u,by rw[Bp (Dj hj)];exact e1,r.mono Q1 Q1⟩
 ow:=fun j e q=>by
  rcases UK q with⟨rfl,z,hl⟩|⟨hj,q⟩
  ·cases z
   exact⟨p,by simp,by rw[Ce (by rw[S.len];exact hl)],h.mono Q1⟩
  ·obtain⟨a,e1,e2,w⟩:=S.ow j e q
   exact⟨a,by simpa[hj] using e1,by rw[Bp (Dj hj)];exact e2,w.mono Q1⟩
 dom:=fun j a e=>by
  by_cases hj:j=i
  ·subst hj
   exact⟨d,by rw[Ce hl]⟩
  ·obtain ⟨d,q⟩ := S.dom j a (by simpa [hj] using e)
   exact⟨d,by rw[Bp (Dj hj)];exact q⟩
 inj:=fun j k a e1 e2=>by
  by_cases hj:j=i
  ·by_cases hk:k=i
   ·rw[hj,hk]
   ·simp[hj] at e1
    simp[hk] at e2;exact absurd (.inr e1.symm) (S.old k a e2).1
  ·by_cases hk:k=i
   ·simp[hk] at e2
    simp[hj] at e1;exact absurd (.inr e2.symm) (S.old j a e1).1
   ·exact S.inj j k a (by simpa[hj] using e1) (by simpa[hk] using e2)
 old:=fun j a e=>by
  by_cases hj:j=i
  ·simp[hj] at e
   subst e;exact⟨hz,.inr h0⟩
  ·have := S.old j a (by simpa [hj] using e)
   exact⟨fun z=>this.1 (.inl z),this.2⟩
 zin:=fun a h=>S.zin a (.inl h)
 frm:=S.frm
 par:=⟨S.par.1,fun j hj=>by
  have hne:j≠i:=fun z=>hm (z▸hj);have h2:O j=B.mu j:=S.par.2 j hj;simpa[hne] using h2⟩
 pin:=S.pin
 kep:=fun p hp=>(S.kep p hp).mono Q1 Q1
theorem aR.wrote(S:aR K ml B O H σ δ){i:Nat}{a:Addr}{d:dH}{o:HO}(e:O i=some a)(ho: ¬Hard o)(hft:PQ H a o)(h:SA K (Nn B O) (upd H a o) a d):aR K ml B O (upd H a o) σ (δ.set i (.ow d)):=by
 have hf:Fr (fun b=>b=a) H (upd H a o):=⟨fun b u q n=>by
  by_cases hb:b=a
  ·subst hb
   obtain⟨d',q'⟩:=S.dom i b e;obtain⟨a',e1,_,w⟩:=S.ow i d' q';rw[e] at e1;cases e1;obtain⟨u',q1,hh⟩:=w.soft;rw[q] at q1;cases q1;exact absurd (n rfl) hh
  ·rw[cY hb]
   exact q,hft.upd⟩
 have hN: ∀b,b=a->Nn B O b:=fun b z=> .inr ⟨i,z▸e⟩;have hin: ∀b,(∃u,H b=some u)-> ∃u,upd H a o b=some u:=fun b q0=>by
  obtain⟨u,q⟩:=q0;by_cases hb:b=a
  ·exact⟨o,by rw[hb];exact cX⟩
  ·exact⟨u,by rw[cY hb];exact q⟩
 refine⟨by rw[Df,S.len],fun j d' q=> ?_,fun j d' q=> ?_,fun j b q=> ?_,S.inj,S.old,fun b h=>hin b (S.zin b h),?_,S.par,fun b h=>hin b (S.pin b h),fun p hp=>(S.kep p hp).fr hf hN hN⟩
 ·rcases UK q with⟨_,z,_⟩|⟨hj,q⟩
  ·cases z
  ·obtain⟨v,e1,r⟩:=S.va j d' q
   exact⟨v,e1,r.fr hf hN hN⟩
 ·rcases UK q with⟨rfl,z,hl⟩|⟨hj,q⟩
  ·cases z
   obtain⟨d0,q0⟩:=S.dom j a e;obtain⟨a',e1,e2,_⟩:=S.ow j d0 q0;rw[e] at e1;cases e1;exact⟨a,e,e2,h⟩
  ·obtain⟨a',e1,e2,w⟩:=S.ow j d' q
   exact⟨a',e1,e2,w.fr hf hN fun z=>hj (S.inj j i a (z▸e1) e)⟩
 ·by_cases hj:j=i
  ·subst hj
   obtain⟨d0,q0⟩:=S.dom j b q;exact⟨d,by rw[Ce (Ak.mp q0).1]⟩
  ·obtain⟨d0,q0⟩:=S.dom j b q
   exact⟨d0,by rw[Bp (Dj hj)];exact q0⟩
 ·refine ⟨fun b u q n => ?_,fun b _ _ _ _ _ _ _ _ h => let ⟨_,_,e⟩ := S.frm.ft _ _ _ _ _ _ _ _ _ h;hft.upd _ _ _ _ _ _ _ _ _ e⟩
  have h1:=S.frm b u q n;by_cases hb:b=a
  ·subst hb
   rcases(S.old i b e).2 with z|z
   ·obtain⟨d',q'⟩:=S.dom i b e
    obtain⟨a',e1,_,w⟩:=S.ow i d' q';rw[e] at e1;cases e1;obtain⟨u',q1,hh⟩:=w.soft;rw[h1] at q1;cases q1;exact absurd (n z) hh
   ·rw[q] at z
    cases z
  ·rw[cY hb]
   exact h1
theorem aR.keepV(S:aR K ml B O H σ δ){ps:List (V×dH)}(h: ∀p∈ps,bQ K (Nn B O) H (Nn B O) p.1 p.2):aR K ml {B with kp:=ps++B.kp} O H σ δ:=
 ⟨S.len,S.va,S.ow,S.dom,S.inj,S.old,S.zin,S.frm,S.par,S.pin,fun p hp=>(Cn.mp hp).elim (h p) (S.kep p)⟩
theorem aR.unkeep{ps:List (V×dH)}(S:aR K ml {B with kp:=ps++B.kp} O H σ δ):aR K ml B O H σ δ:=
 ⟨S.len,S.va,S.ow,S.dom,S.inj,S.old,S.zin,S.frm,S.par,S.pin,fun p hp=>S.kep p (Bn _ hp)⟩
end
def rz(B:Bs):Addr->Prop:=fun a=>B.Z a∨ ∃i,B.mu i=some a
def av(B:Bs)(O:Nat->Option Addr)(b:Bool):Addr->Prop:=if b then Nn B O else fun a=>Nn B O a/\rz B a
def at_(B:Bs)(O:Nat->Option Addr)(b:Bool):Addr->Prop:=if b then Nn B O else fun _=>False
theorem zE2{B:Bs}{O:Nat->Option Addr}{b:Bool}: ∀a,at_ B O b a->av B O b a:=fun a h=>by
 cases b with
 |true=>exact h
 |false=>exact h.elim
theorem zD7{B:Bs}{O:Nat->Option Addr}{b c:Bool}(h:b=true->c=true): ∀a,at_ B O b a->at_ B O c a:=fun a z=>by
 cases b with
 |true=>rw[h rfl];exact z
 |false=>exact z.elim
theorem aR.rzn{K:Ai}{ml:List Nat}{B:Bs}{O:Nat->Option Addr}{H:Hp}{σ:St}{δ:Ev}(S:aR K ml B O H σ δ): ∀a,rz B a->Nn B O a:=fun a h=>by
 rcases h with h|⟨i,h⟩
 ·exact .inl h
 ·exact .inr ⟨i,(S.par.2 i (S.par.1 i a h)).trans h⟩
theorem aR.rza{K:Ai}{ml:List Nat}{B:Bs}{O:Nat->Option Addr}{H:Hp}{σ:St}{δ:Ev}(S:aR K ml B O H σ δ){b:Bool}: ∀a,rz B a->av B O b a:=fun a h=>by
 cases b with
 |true=>exact S.rzn a h
 |false=>exact⟨S.rzn a h,h⟩
theorem VO{B:Bs}{O:Nat->Option Addr}{b c:Bool}(h:b=true->c=true): ∀a,av B O b a->av B O c a:=fun a z=>by
 cases b with
 |true=>rw[h rfl];exact z
 |false=>cases c with
  |true=>exact z.1
  |false=>exact z
structure CQ(K:Ai)(ml:List Nat)(B:Bs)(O:Nat->Option Addr)(H:Hp)(σ:St)(pu bt bi:Bool)(H':Hp)(δ':Ev)(v:V)(d:dH):Prop where
 sta:aR K ml B O H' σ δ'
 frm:Fr (OA O) H H'
 pur:pu=true->aG H H'
 rep:bQ K (av B O bi) H' (at_ B O bt) v d
abbrev VF:=Ev->Option (dH×Ev)
def TV(K:Ai)(ml:List Nat)(pu bt bi:Bool)(f:VF):TE:=fun σ H Q=> ∃B O δ d δ',aR K ml B O H σ δ/\f δ=some (d,δ')/\ ∀v H',CQ K ml B O H σ pu bt bi H' δ' v d->Q v H'
theorem PE.imp{X:Cx}{e:Expr}{t u:TE}(h:PE X e t)(k: ∀σ H Q,u σ H Q->t σ H Q):PE X e u:=fun aa s σ H Q I w=>h aa s σ H Q I (k σ H Q w)
theorem PT.imp{X:Cx}{e:Expr}{t u:TT}(h:PT X e t)(k: ∀σ H Q,u σ H Q->t σ H Q):PT X e u:=fun aa s σ H Q I w=>h aa s σ H Q I (k σ H Q w)
theorem PW.imp{X:Cx}{e:Expr}{t u:TT}(h:PW X e t)(k: ∀σ H Q,u σ H Q->t σ H Q):PW X e u:=fun az aa s σ H Q I w=>h az aa s σ H Q I (k σ H Q w)
theorem PA.imp{X:Cx}{e:List Expr}{t u:TA}(h:PA X e t)(k: ∀σ H Q,u σ H Q->t σ H Q):PA X e u:=fun pos aa s σ H Q I w=>h pos aa s σ H Q I (k σ H Q w)
theorem PS.imp{X:Cx}{e:Stmt}{t u:TS}(h:PS X e t)(k: ∀D σ H,u D σ H->t D σ H):PS X e u:=fun aa s σ H D I w=>h aa s σ H D I (k D σ H w)
theorem QJ.imp{X:Cx}{e:List Stmt}{t u:TS}(h:QJ X e t)(k: ∀D σ H,u D σ H->t D σ H):QJ X e u:=fun aa s σ H D I w=>h aa s σ H D I (k D σ H w)
section
variable{X:Cx}{K:Ai}{ml:List Nat}{e a b c:Expr}{pa ta ia pb tb ib pc tc ic:Bool}{fa fb fc:VF}{r:R2}{o:dH->dH->Option dH}{B:Bs}{O:Nat->Option Addr}{H H1 H':Hp}{σ:St}{δ δ':Ev}{v:V}{d:dH}
def fC(d:dH):VF:=fun δ=>some (d,δ)
theorem CQ.refl{pu bt bi:Bool}(S:aR K ml B O H σ δ)(h:bQ K (av B O bi) H (at_ B O bt) v d):CQ K ml B O H σ pu bt bi H δ v d:=⟨S,Fr.refl _ _,fun _=>aG.refl _,h⟩
theorem EX(h:PE X e (tC v))(hr: ∀N H M,bQ K N H M v d):PE X e (TV K ml true true true (fC d)):=h.imp fun σ H Q hq0=>by
 obtain⟨B,O,δ,d',δ',S,q,k⟩:=hq0;cases q;exact k v H (CQ.refl S (hr _ _ _))
theorem dF{i j pos}:PE X (.Constant (.int i) j pos) (TV K ml true true true (fC (.int i))):=EX zFM fun _ _ _=> .int i
theorem YU{i j pos}:PE X (.Constant (.bool i) j pos) (TV K ml true true true (fC (.bl i))):=EX zJ7 fun _ _ _=> .bl i
theorem cG{j pos}:PE X (.Constant .none j pos) (TV K ml true true true (fC .non)):=EX zFL fun _ _ _=> .non
theorem cT{i j pos}:PE X (.Constant (.str i) j pos) (TV K ml true true true (fC (.str i))):=EX zFJ fun _ _ _=> .str i
noncomputable def fV(i:Nat):VF:=fun δ=>match δ[i]? with
 |some (.va d)=>some (d,δ)
 |_=>none
noncomputable def fO(i:Nat):VF:=fun δ=>match δ[i]? with
 |some (.va d)=>some (d,δ)
 |some (.ow d)=>some (d,δ)
 |_=>none
theorem zE7{i:Nat}(h:PE X e (YT i)):PE X e (TV K ml true true true (fV i)):=h.imp fun σ H Q hq0=>by
 obtain⟨B,O,δ,d',δ',S,q,k⟩:=hq0;unfold fV at q;split at q
 ·rename_i d hd
  cases q;obtain⟨v,e1,r⟩:=S.va i _ hd;exact⟨v,e1,k v H (CQ.refl S r)⟩
 ·cases q
theorem zE8{i:Nat}(h:PE X e (YT i)):PE X e (TV K ml true false true (fO i)):=h.imp fun σ H Q hq0=>by
 obtain⟨B,O,δ,d',δ',S,q,k⟩:=hq0;unfold fO at q;split at q
 ·rename_i d hd
  cases q;obtain⟨v,e1,r⟩:=S.va i _ hd;exact⟨v,e1,k v H (CQ.refl S (r.mono (fun _ z=>z) fun a z=>z.elim))⟩
 ·rename_i d hd
  cases q;obtain⟨a,e1,e2,w⟩:=S.ow i _ hd;exact⟨.ref a,e2,k _ H (CQ.refl S (w.rep fun z=>z))⟩
 ·cases q
theorem CQ.live{H2:Hp}{v2:V}{d2:dH}(R2:CQ K ml B O H1 σ pb tb ib H2 δ' v2 d2)(hs:(pb || (ta && ia))=true)(h:bQ K (av B O ia) H1 (at_ B O ta) v d):bQ K (av B O ia) H2 (at_ B O ta) v d:=by
 cases pb with
 |true=>exact h.same (R2.pur rfl)
 |false=>
  have hs:(ta && ia)=true:=by simpa using hs
  obtain⟨h1,h2⟩:=(Af _ _).mp hs;subst h1 h2;exact h.fr R2.frm (fun a z=> .inr z) fun a z=> .inr z
noncomputable def f2(o:dH->dH->Option dH)(fa fb:VF):VF:=fun δ=>(fa δ).bind fun p=>(fb p.2).bind fun q=>(o p.1 q.1).map fun c=>(c,q.2)
theorem N6{δ2:Ev}(h:f2 o fa fb δ=some (d,δ2)): ∃x δ1 y,fa δ=some (x,δ1)/\fb δ1=some (y,δ2)/\o x y=some d:=by
 unfold f2 at h;cases h1:fa δ with
 |none=>rw[h1] at h;cases h
 |some p=>
  rw[h1] at h;cases h2:fb p.2 with
  |none=>simp[h2] at h
  |some q=>
   simp only[Aq,h2] at h;obtain⟨c,h3,h⟩:=Ao.mp h;cases h;exact⟨p.1,p.2,q.1,rfl,h2,h3⟩
def P0(K:Ai)(r:R2)(o:dH->dH->Option dH):Prop:= ∀(H:Hp) (N N' M M':Addr->Prop) (x y:V) (d e c:dH) (Q:VK),bQ K N H M x d->bQ K N' H M' y e->o d e=some c->(∀v,(∀H' N M,bQ K N H' M v c)->Q v H)->r x y H Q
def OpC(K:Ai)(r:R2)(o:dH->dH->Option dH):Prop:= ∀(H:Hp) (N M M':Addr->Prop) (x y:V) (d e c:dH) (Q:VK),bQ K N H M x d->bQ K N H M' y e->o d e=some c→
 (∀v H',aG H H'->(∀M,(∀a,M a-> ∃o,H a=some o)->bQ K N H' M v c)->Q v H')->r x y H Q
def OpI(K:Ai)(r:R2)(o:dH->dH->Option dH):Prop:= ∀(H:Hp) (N N' M M':Addr->Prop) (x y:V) (d e c:dH) (Q:VK),bQ K N H M x d->bQ K N' H M' y e->o d e=some c->(∀v,bQ K N H N v c->Q v H)->r x y H Q
theorem IB(ho:P0 K r o)(hs:(pb || (ta && ia))=true){Q:VK}(h:TV K ml (pa && pb) true true (f2 o fa fb) σ H Q):tOp r (TV K ml pa ta ia fa) (TV K ml pb tb ib fb) σ H Q:=by
 obtain⟨B,O,δ,d,δ2,S,q,k⟩:=h;obtain⟨x,δ1,y,h1,h2,h3⟩:=N6 q;refine⟨B,O,δ,x,δ1,S,h1,fun v1 H1 R1=>⟨B,O,δ1,y,δ2,R1.sta,h2,fun v2 H2 R2=> ?_⟩⟩;exact ho H2 _ _ _ _ v1 v2 x y d Q (R2.live hs R1.rep) R2.rep h3 fun v hv=>k v H2 ⟨R2.sta,R1.frm.trans R2.frm,fun z=>by
  obtain⟨z1,z2⟩:=(Af _ _).mp z;exact(R1.pur z1).trans (R2.pur z2),hv _ _ _⟩
theorem zEE(ho:OpC K r o)(hs:(pb || (ta && ia))=true){Q:VK}(h:TV K ml (pa && pb) true (ia && ib) (f2 o fa fb) σ H Q):tOp r (TV K ml pa ta ia fa) (TV K ml pb tb ib fb) σ H Q:=by
 obtain⟨B,O,δ,d,δ2,S,q,k⟩:=h;obtain⟨x,δ1,y,h1,h2,h3⟩:=N6 q;refine⟨B,O,δ,x,δ1,S,h1,fun v1 H1 R1=>⟨B,O,δ1,y,δ2,R1.sta,h2,fun v2 H2 R2=> ?_⟩⟩;have g1: ∀a,av B O (ia && ib) a->av B O ia a:=VO fun z=>((Af _ _).mp z).1;have g2: ∀a,av B O (ia && ib) a->av B O ib a:=VO fun z=>((Af _ _).mp z).2;refine ho H2 (av B O (ia && ib)) _ _ v1 v2 x y d Q ((R2.live hs R1.rep).mono g1 fun _ z=>z) (R2.rep.mono g2 fun _ z=>z) h3 fun v H3 s3 hv=>k v H3 ⟨R2.sta.same s3,(R1.frm.trans R2.frm).trans s3.fr,fun z=> ?_,hv _ fun a z=>R2.sta.nin z⟩;obtain⟨z1,z2⟩:=(Af _ _).mp z;exact((R1.pur z1).trans (R2.pur z2)).trans s3
theorem zED(ho:OpI K r o)(hs:(pb || (ta && ia))=true){Q:VK}(h:TV K ml (pa && pb) ia ia (f2 o fa fb) σ H Q):tOp r (TV K ml pa ta ia fa) (TV K ml pb tb ib fb) σ H Q:=by
 obtain⟨B,O,δ,d,δ2,S,q,k⟩:=h;obtain⟨x,δ1,y,h1,h2,h3⟩:=N6 q;refine⟨B,O,δ,x,δ1,S,h1,fun v1 H1 R1=>⟨B,O,δ1,y,δ2,R1.sta,h2,fun v2 H2 R2=> ?_⟩⟩;exact ho H2 _ _ _ _ v1 v2 x y d Q (R2.live hs R1.rep) R2.rep h3 fun v hv=>k v H2 ⟨R2.sta,R1.frm.trans R2.frm,fun z=>by
  obtain⟨z1,z2⟩:=(Af _ _).mp z;exact(R1.pur z1).trans (R2.pur z2),hv.mono (fun _ z=>z) zE2⟩
theorem ZH{op:Operator}{pos:Pos}(ho:XS X (Et op) r)(hv:P0 K r o)(ha:PE X a (TV K ml pa ta ia fa))(hb:PE X b (TV K ml pb tb ib fb))(hs:(pb || (ta && ia))=true:=by rfl):PE X (.BinOp a op b pos) (TV K ml (pa && pb) true true (f2 o fa fb)):=
 (zDP ho ha hb).imp fun _ _ _ h=>IB hv hs h
theorem b8{op:Operator}{pos:Pos}(ho:XS X (Et op) r)(hv:OpC K r o)(ha:PE X a (TV K ml pa ta ia fa))(hb:PE X b (TV K ml pb tb ib fb))(hs:(pb || (ta && ia))=true:=by rfl):PE X (.BinOp a op b pos) (TV K ml (pa && pb) true (ia && ib) (f2 o fa fb)):=
 (zDP ho ha hb).imp fun _ _ _ h=>zEE hv hs h
theorem RB{op:CmpOp}{pos:Pos}(ho:XS X (Cg op) r)(hv:P0 K r o)(ha:PE X a (TV K ml pa ta ia fa))(hb:PE X b (TV K ml pb tb ib fb))(hm:Ga op b=false)(hs:(pb || (ta && ia))=true:=by rfl):PE X (.Compare a [op] [b] pos) (TV K ml (pa && pb) true true (f2 o fa fb)):=
 (zC9 ho ha hb hm).imp fun _ _ _ h=>IB hv hs h
theorem zHU{pos:Pos}(ho:CZ X r)(hv:OpI K r o)(ha:PE X a (TV K ml pa ta ia fa))(hb:PE X b (TV K ml pb tb ib fb))(hx:KQ b)(hs:(pb || (ta && ia))=true:=by rfl):PE X (.Subscript a b pos) (TV K ml (pa && pb) ia ia (f2 o fa fb)):=
 (zJ5 ho ha hb hx).imp fun _ _ _ h=>zED hv hs h
noncomputable def oI(C:Int->Int->Bool)(g:Int->Int->dH):dH->dH->Option dH
 | .int i,.int j=>if C i j=true then some (g i j) else none
 |_,_=>none
theorem zA7{C:Int->Int->Bool}{g:Int->Int->dH}{d e c:dH}(h:oI C g d e=some c): ∃i j,d= .int i/\e= .int j/\C i j=true/\c=g i j:=by
 unfold oI at h;split at h
 ·split at h
  ·rename_i hc
   cases h;exact⟨_,_,rfl,rfl,hc,rfl⟩
  ·cases h
 ·cases h
theorem FS{C:Int->Int->Prop}{C':Int->Int->Bool}{g:Int->Int->V}{g':Int->Int->dH}(hC: ∀i j,C' i j=true->C i j)(hg: ∀i j N H M,bQ K N H M (g i j) (g' i j)):P0 K (rI C g) (oI C' g'):=by
 intro H N N' M M' x y d e c Q hx hy h k;obtain⟨i,j,rfl,rfl,hc,rfl⟩:=zA7 h;cases hx;cases hy;exact⟨_,_,rfl,rfl,hC _ _ hc,k _ fun _ _ _=>hg ..⟩
theorem OO{g:Int->Int->V}{g':Int->Int->dH}(hg: ∀i j N H M,bQ K N H M (g i j) (g' i j)):P0 K (HN g) (oI (fun _ _=>true) g'):=by
 intro H N N' M M' x y d e c Q hx hy h k;obtain⟨i,j,rfl,rfl,hc,rfl⟩:=zA7 h;cases hx;cases hy;exact⟨_,_,rfl,rfl,k _ fun _ _ _=>hg ..⟩
noncomputable def K0(i j:Int):Bool:=(decide (-18446744073709551616<i) && decide (i<18446744073709551616)) || (decide (-18446744073709551616<j) && decide (j<18446744073709551616))
noncomputable def KZ(i j:Int):Bool:=decide (0<j) && decide (j<1073741824)
noncomputable def cPow(i j:Int):Bool:=decide (0<=j) && decide (j<=1000000) && decide (i.natAbs<18446744073709551616)
noncomputable abbrev LQ:=oI (fun _ _=>true) fun i j=> .int (i - j)
noncomputable abbrev oMul:=oI K0 fun i j=> .int (i*j)
noncomputable abbrev M4:=oI KZ fun i j=> .int (i/j)
noncomputable abbrev NQ:=oI (fun _ j=>decide (0<j)) fun i j=> .int (i % j)
noncomputable abbrev oPow:=oI cPow fun i j=> .int (i ^ j.toNat)
noncomputable abbrev oLt:=oI (fun _ _=>true) fun i j=> .bl (decide (i<j))
noncomputable abbrev oLe:=oI (fun _ _=>true) fun i j=> .bl (decide (i<=j))
noncomputable abbrev oGt:=oI (fun _ _=>true) fun i j=> .bl (decide (j<i))
noncomputable abbrev oGe:=oI (fun _ _=>true) fun i j=> .bl (decide (j<=i))
theorem QD:P0 K (HN fun i j=> .int (i - j)) LQ:=OO fun i j _ _ _=> .int _
theorem zIK:P0 K (rI CW fun i j=> .int (i*j)) oMul:=FS (fun i j h=>by
 have p:(2:Int) ^ 64=18446744073709551616:=by decide
 unfold CW;rw[p];simpa[K0] using h) fun i j _ _ _=> .int _
theorem LX:P0 K (rI CDiv fun i j=> .int (i/j)) M4:=FS (fun i j h=>by show 0<j/\j<1073741824;simpa[KZ] using h) fun i j _ _ _=> .int _
theorem RX:P0 K (rI (fun _ j=>0<j) fun i j=> .int (i % j)) NQ:=FS (fun i j h=>by simpa using h) fun i j _ _ _=> .int _
theorem zIJ:P0 K (rI CPow fun i j=> .int (i ^ j.toNat)) oPow:=FS (fun i j h=>by
 have p:(2:Nat) ^ 64=18446744073709551616:=by decide
 unfold CPow;rw[p];simpa[cPow,and_assoc] using h) fun i j _ _ _=> .int _
theorem s_lt:P0 K (HN fun i j=> .bl (decide (i<j))) oLt:=OO fun i j _ _ _=> .bl _
theorem s_le:P0 K (HN fun i j=> .bl (decide (i<=j))) oLe:=OO fun i j _ _ _=> .bl _
theorem s_gt:P0 K (HN fun i j=> .bl (decide (j<i))) oGt:=OO fun i j _ _ _=> .bl _
theorem s_ge:P0 K (HN fun i j=> .bl (decide (j<=i))) oGe:=OO fun i j _ _ _=> .bl _
noncomputable def M5(d:dH):Bool:=d.isD && Dt d.pd
def eqD(d e:dH):Bool:=He d.pd e.pd
noncomputable def XX(d e:dH):Option dH:=if(M5 d && M5 e)=true then some (.bl (eqD d e)) else none
noncomputable def ON(d e:dH):Option dH:=if(M5 d && M5 e)=true then some (.bl (!eqD d e)) else none
theorem s_eq:P0 K (rEqD K) XX:=by
 intro H N N' M M' x y d e c Q hx hy h k;unfold XX at h;split at h
 ·rename_i hh
  cases h;simp only[M5,Af] at hh;exact⟨d.pd,e.pd,hx.dp hh.1.1,hy.dp hh.2.1,hh.1.2,hh.2.2,k _ fun _ _ _=> .bl _⟩
 ·cases h
theorem PY:P0 K (rNeD K) ON:=by
 intro H N N' M M' x y d e c Q hx hy h k;unfold ON at h;split at h
 ·rename_i hh
  cases h;simp only[M5,Af] at hh;exact⟨d.pd,e.pd,hx.dp hh.1.1,hy.dp hh.2.1,hh.1.2,hh.2.2,k _ fun _ _ _=> .bl _⟩
 ·cases h
noncomputable def isN:dH->Bool
 | .non=>true
 |_=>false
noncomputable def SZ:dH->dH->Option dH
 |d,.non=>some (.bl (isN d))
 |_,_=>none
noncomputable def WM:dH->dH->Option dH
 |d,.non=>some (.bl (!isN d))
 |_,_=>none
theorem FY{N M:Addr->Prop}(h:bQ K N H M v d):decide (v=V.non)=isN d:=by
 cases h<;>simp[isN]
theorem QC:P0 K (fun x y H Q=>y= .non/\Q (.bl (decide (x= .non))) H) SZ:=by
  intro H N N' M M' x y d e c Q hx hy h k;cases hy<;>first
    | (cases h
       refine⟨rfl,?_⟩;rw[FY hx];exact k _ fun _ _ _=> .bl _)
    |(simp[SZ] at h)
theorem Q7:P0 K (fun x y H Q=>y= .non/\Q (.bl (!decide (x= .non))) H) WM:=by
  intro H N N' M M' x y d e c Q hx hy h k;cases hy<;>first
    | (cases h
       refine⟨rfl,?_⟩;rw[FY hx];exact k _ fun _ _ _=> .bl _)
    |(simp[WM] at h)
noncomputable def X2:dH->Option (List dH)
 | .tup ds=>some ds
 | .lst ds=>some ds
 |_=>none
theorem bQ.seq{N M:Addr->Prop}{ds:List dH}(h:bQ K N H M v d)(e:X2 d=some ds): ∃a xs,v= .ref a/\(XZ K H a xs∨VC K H a xs)/\cJ K N H xs ds:=by
 cases h<;>first
  |(cases e;rename_i q r;exact⟨_,_,rfl,.inr q,r⟩)
  |(cases e;rename_i q n r;exact⟨_,_,rfl,.inl (XZ.of q),r⟩)
  |(cases e;rename_i q r;exact⟨_,_,rfl,.inl q.sq,r⟩)
  |cases e
theorem zD8{N:Addr->Prop}{xs:List V}{ds:List dH}{i:Int}(r:cJ K N H xs ds)(h:WI ds i=some d): ∃v,WI xs i=some v/\bQ K N H N v d:=by
 unfold WI at h⊢;rw[r.length];cases hi:KP ds.length i with
 |none=>rw[hi] at h;cases h
 |some j=>
  rw[hi] at h;exact r.get h
end
section
variable{X:Cx}{K:Ai}{ml:List Nat}{e a b c:Expr}{es:List Expr}{pa ta ia pb tb ib pc tc ic pu bt bi ps bs:Bool}{fa fb fc:VF}{r r':R2}{o o':dH->dH->Option dH}{B:Bs}{O:Nat->Option Addr}{H H1 H':Hp}{σ:St}{δ δ':Ev}{v:V}{d:dH}{p:Addr}{pos:Pos}
theorem aR.unadd(S:aR K ml (B.add p) O H σ δ):aR K ml B O H σ δ where
 len:=S.len
 va:=fun i d e=>let ⟨v,a,b⟩:=S.va i d e;⟨v,a,b.mono SY SY⟩
 ow:=fun i d e=>let ⟨a,b,c,w⟩:=S.ow i d e;⟨a,b,c,w.mono SY⟩
 dom:=S.dom
 inj:=S.inj
 old:=fun i a h=>⟨fun z=>(S.old i a h).1 (.inl z),(S.old i a h).2⟩
 zin:=fun a h=>S.zin a (.inl h)
 frm:=S.frm
 par:=S.par
 pin:=S.pin
 kep:=fun p h=>(S.kep p h).mono SY SY
structure ResN(K:Ai)(ml:List Nat)(B:Bs)(O:Nat->Option Addr)(H:Hp)(σ:St)(pu:Bool)(H':Hp)(δ':Ev)(p:Addr)(d:dH):Prop where
 sta:aR K ml (B.add p) O H' σ δ'
 frm:Fr (OA O) H H'
 pur:pu=true->aG H H'
 own:SA K (Nn (B.add p) O) H' p d
 nz: ¬Nn B O p
 h0:B.H0 p=none
def TN(K:Ai)(ml:List Nat)(pu:Bool)(f:VF):TE:=fun σ H Q=> ∃B O δ d δ',aR K ml B O H σ δ/\f δ=some (d,δ')/\ ∀p H',ResN K ml B O H σ pu H' δ' p d->Q (.ref p) H'
theorem bJ{f:VF}(h:PE X e (TN K ml pu f)):PE X e (TV K ml pu true true f):=h.imp fun σ H Q ⟨B,O,δ,d,δ',S,q,k⟩=>
 ⟨B,O,δ,d,δ',S,q,fun p H' R=>k _ H' ⟨R.sta.unadd,R.frm,R.pur,(R.own.mono SY).rep R.nz⟩⟩
theorem mkN{xs:List V}{ds:List dH}(S:aR K ml B O H1 σ δ')(f:Fr (OA O) H H1)(s:pu=true->aG H H1)(hp:H1 p=none)(r:cJ K (Nn B O) H1 xs ds):ResN K ml B O H σ pu (upd H1 p (.lst xs)) δ' p (.lst ds):=
 ⟨S.laid hp,f.trans (c7 hp).fr,fun z=>(s z).trans (c7 hp),.lst cX ((r.away hp _ _ W7).same (c7 hp)),S.new hp,S.fresh hp⟩
abbrev RH:=Ev->Option (List dH×Ev)
structure ResA(K:Ai)(ml:List Nat)(B:Bs)(O:Nat->Option Addr)(H:Hp)(σ:St)(pu b:Bool)(H':Hp)(δ':Ev)(vs:List V)(ds:List dH):Prop where
 sta:aR K ml B O H' σ δ'
 frm:Fr (OA O) H H'
 pur:pu=true->aG H H'
 rep:cJ K (av B O b) H' vs ds
def IK(K:Ai)(ml:List Nat)(pu b:Bool)(f:RH):TA:=fun σ H Q=> ∃B O δ d δ',aR K ml B O H σ δ/\f δ=some (d,δ')/\ ∀vs H',ResA K ml B O H σ pu b H' δ' vs d->Q vs H'
def cE:RH:=fun δ=>some ([],δ)
noncomputable def dD(fa:VF)(fs:RH):RH:=fun δ=>(fa δ).bind fun p=>(fs p.2).map fun q=>(p.1::q.1,q.2)
theorem QP{fs:RH}{ds:List dH}(h:dD fa fs δ=some (ds,δ')): ∃x δ1 xs,fa δ=some (x,δ1)/\fs δ1=some (xs,δ')/\ds=x::xs:=by
 unfold dD at h;cases h1:fa δ with
 |none=>rw[h1] at h;cases h
 |some p=>
  rw[h1] at h;cases h2:fs p.2 with
  |none=>simp[h2] at h
  |some q=>
   simp only[Aq,h2] at h;cases h;exact⟨p.1,p.2,q.1,rfl,h2,rfl⟩
theorem cZ:PA X [] (IK K ml true true cE):=Y7.imp fun σ H Q hq0=>by
 obtain⟨B,O,δ,d,δ',S,q,k⟩:=hq0;cases q;exact k [] H ⟨S,Fr.refl _ _,fun _=>aG.refl _,.nil⟩
theorem dI{fs:RH}(ha:PE X a (TV K ml pa ta ia fa))(hr:PA X es (IK K ml ps bs fs))(hs:Ae (a::es) X.env=(false,eval a X.env)::Ae es X.env:=by rfl)(hl:(ps || (ta && ia))=true:=by rfl)(ht:ta=true:=by rfl):
  PA X (a::es) (IK K ml (pa && ps) (ta && ia && bs) (dD fa fs)):=(a9 ha hr hs).imp fun σ H Q hq0=>by
 obtain⟨B,O,δ,d,δ2,S,q,k⟩:=hq0;obtain⟨x,δ1,xs,h1,h2,rfl⟩:=QP q;refine⟨B,O,δ,x,δ1,S,h1,fun v1 H1 R1=>⟨B,O,δ1,xs,δ2,R1.sta,h2,fun vs H2 R2=>k _ H2 ⟨R2.sta,R1.frm.trans R2.frm,fun z=> ?_,?_⟩⟩⟩
 ·obtain⟨z1,z2⟩:=(Af _ _).mp z
  exact(R1.pur z1).trans (R2.pur z2)
 ·have g : ∀ c,((ta && ia && bs) = true -> c = true) -> ∀ a,av B O (ta && ia && bs) a -> av B O c a := fun c h => VO h
  have g1:=g ta fun z=>by simp only[Af] at z;exact z.1.1
  have g2:=g ia fun z=>by simp only[Af] at z;exact z.1.2
  have g3:=g bs fun z=>by simp only[Af] at z;exact z.2
  refine .cons ?_ (R2.rep.mono g3);have h:bQ K (av B O ia) H2 (at_ B O ta) v1 x:=by
   cases ps with
   |true=>exact R1.rep.same (R2.pur rfl)
   |false=>
    have hs:(ta && ia)=true:=by simpa using hl
    obtain⟨h1,h2⟩:=(Af _ _).mp hs;subst h1 h2;exact R1.rep.fr R2.frm (fun a z=> .inr z) fun a z=> .inr z
  subst ht;exact h.mono g2 g1
theorem aR.lone(S:aR K ml B O H σ δ){i:Nat}{x:dH}(hm:i∉ml)(h:fO i δ=some (x,δ')):δ'=δ/\ ∃v,σ[i]? =some (some v)/\bQ K (av B O false) H (av B O false) v x:=by
 unfold fO at h;split at h
 ·rename_i d hd
  cases h;obtain⟨v,e1,r⟩:=S.va i _ hd;exact⟨rfl,v,e1,r.mono (fun a z=>z.1) fun a z=>z.1⟩
 ·rename_i d hd
  cases h;obtain⟨a,e1,e2,w⟩:=S.ow i _ hd;refine⟨rfl,.ref a,e2,(w.mono fun a z=>z.1).rep fun z=> ?_⟩;rcases z.2 with z|⟨j,z⟩
  ·exact(S.old i a e1).1 z
  ·have hj:=S.par.1 j a z
   have:i=j:=S.inj i j a e1 ((S.par.2 j hj).trans z)
   exact hm (this▸hj)
 ·cases h
theorem WQ{i:Nat}{fs:RH}(ha:PE X a (YT i))(hr:PA X es (IK K ml ps bs fs))(hs:Ae (a::es) X.env=(false,eval a X.env)::Ae es X.env:=by rfl)(hl:ps=true:=by rfl)(hm:i∉ml:=by decide):
  PA X (a::es) (IK K ml ps false (dD (fO i) fs)):=(a9 ha hr hs).imp fun σ H Q hq0=>by
 obtain⟨B,O,δ,d,δ2,S,q,k⟩:=hq0;obtain⟨x,δ1,xs,h1,h2,rfl⟩:=QP q;obtain⟨rfl,v,e1,r⟩:=S.lone hm h1;exact⟨v,e1,B,O,δ1,xs,δ2,S,h2,fun vs H2 R2=>k _ H2 ⟨R2.sta,R2.frm,R2.pur,.cons (r.same (R2.pur hl)) (R2.rep.mono (VO (b:=false) fun z=>nomatch z))⟩⟩
noncomputable def bI(fs:RH):VF:=fun δ=>(fs δ).bind fun p=>if p.1.length<=16777216 then some (.tup p.1,p.2) else none
noncomputable def X0(fs:RH):VF:=fun δ=>(fs δ).bind fun p=>if p.1.length<=16777216 then some (.lst p.1,p.2) else none
theorem JI{fs:RH}{g:List dH->dH}(h:((fs δ).bind fun p=>if p.1.length<=16777216 then some (g p.1,p.2) else none)=some (d,δ')): ∃ds,fs δ=some (ds,δ')/\ds.length<=16777216/\d=g ds:=by
 cases h1:fs δ with
 |none=>rw[h1] at h;cases h
 |some p=>
  rw[h1] at h;have h:(if p.1.length<=16777216 then some (g p.1,p.2) else none)=some (d,δ'):=h;split at h
  ·cases h
   exact⟨p.1,rfl,by assumption,rfl⟩
  ·cases h
theorem cN{x1}{fs:RH}(h:PA X es (IK K ml pu bs fs)):PE X (.Tuple es x1 pos) (TV K ml pu true bs (bI fs)):=(zFI h).imp fun σ H Q hq0=>by
 obtain⟨B,O,δ,d,δ',S,q,k⟩:=hq0;obtain⟨ds,h1,hl,rfl⟩:=JI (g:=dH.tup) q;refine⟨B,O,δ,ds,δ',S,h1,fun vs H1 R=>⟨by rw[R.rep.length,Cb];exact hl,fun p hp=>k _ _ ⟨R.sta.same (c7 hp),R.frm.trans (c7 hp).fr,fun z=>(R.pur z).trans (c7 hp),.tup (VC.of cX) (R.rep.same (c7 hp))⟩⟩⟩
theorem aC{fs:RH}(h:PA X es (IK K ml pu true fs)):PE X (.List es pos) (TN K ml pu (X0 fs)):=(HI h).imp fun σ H Q hq0=>by
 obtain⟨B,O,δ,d,δ',S,q,k⟩:=hq0;obtain⟨ds,h1,hl,rfl⟩:=JI (g:=dH.lst) q;exact⟨B,O,δ,ds,δ',S,h1,fun vs H1 R=>⟨by rw[R.rep.length,Cb];exact hl,fun p hp=>k p _ (mkN R.sta R.frm R.pur hp R.rep)⟩⟩
abbrev VB:=Ev->Option (Bool×Ev)
structure DE(K:Ai)(ml:List Nat)(B:Bs)(O:Nat->Option Addr)(H:Hp)(σ:St)(pu:Bool)(H':Hp)(δ':Ev):Prop where
 sta:aR K ml B O H' σ δ'
 frm:Fr (OA O) H H'
 pur:pu=true->aG H H'
def TB(K:Ai)(ml:List Nat)(pu:Bool)(f:VB):TT:=fun σ H Q=> ∃B O δ k δ',aR K ml B O H σ δ/\f δ=some (k,δ')/\ ∀H',DE K ml B O H σ pu H' δ'->Q k H'
noncomputable def fB(f:VF):VB:=fun δ=>(f δ).bind fun p=>match p.1 with
 | .bl k=>some (k,p.2)
 |_=>none
theorem zHD{f:VF}{k:Bool}(h:fB f δ=some (k,δ')):f δ=some (.bl k,δ'):=by
 unfold fB at h;cases h1:f δ with
 |none=>rw[h1] at h;cases h
 |some p=>
  obtain⟨x,δ1⟩:=p;rw[h1] at h;cases x<;>first
   |(cases h;rfl)
   |cases h
theorem MA{f:VF}{t:TE}(ht: ∀σ H Q,TV K ml pu bt bi f σ H Q->t σ H Q){Q:Bool->Hp->Prop}(h:TB K ml pu (fB f) σ H Q):t σ H fun x H'=> ∃k,x= .bl k/\Q k H':=by
 obtain⟨B,O,δ,k,δ',S,q,w⟩:=h;refine ht σ H _ ⟨B,O,δ,.bl k,δ',S,zHD q,fun v H' R=>⟨k,?_,w H' ⟨R.sta,R.frm,R.pur⟩⟩⟩;cases R.rep;rfl
theorem b5{op:CmpOp}(ho:XS X (Cg op) r)(hv:P0 K r o)(ha:PE X a (TV K ml pa ta ia fa))(hb:PE X b (TV K ml pb tb ib fb))(hm:Ga op b=false)(hs:(pb || (ta && ia))=true:=by rfl):PT X (.Compare a [op] [b] pos) (TB K ml (pa && pb) (fB (f2 o fa fb))):=
 (zBT ho ha hb hm).imp fun _ _ _ h=>MA (fun _ _ _=>IB hv hs) h
theorem aK{f:VF}(h:PE X e (TV K ml pu bt bi f))(he: ∀az,isTrue e X.env az=(do let v<- az;Lh e.pos;Ib [v] (truthy v)):=by intro _;rfl):PT X e (TB K ml pu (fB f)):=
 (zF9 h he).imp fun _ _ _ h=>MA (fun _ _ _ z=>z) h
noncomputable def GN(x y:VB):VB:=fun δ=>(x δ).bind fun p=>if p.1=true then y p.2 else some (false,p.2)
noncomputable def GO(x y:VB):VB:=fun δ=>(x δ).bind fun p=>if p.1=true then some (true,p.2) else y p.2
noncomputable def WW(x:VB):VB:=fun δ=>(x δ).map fun p=>(!p.1,p.2)
theorem DE.refl(S:aR K ml B O H σ δ):DE K ml B O H σ pu H δ:=⟨S,Fr.refl _ _,fun _=>aG.refl _⟩
theorem zEH{x y:VB}{Q:Bool->Hp->Prop}(h:TB K ml (pa && pb) (GN x y) σ H Q):tAnd (TB K ml pa x) (TB K ml pb y) σ H Q:=by
 obtain⟨B,O,δ,k,δ',S,q,w⟩:=h;unfold GN at q;obtain⟨⟨kk,δ1⟩,h1,q⟩:=Aa.mp q;refine⟨B,O,δ,kk,δ1,S,h1,fun H1 R1=> ?_⟩;cases kk with
 |true=>
  have q:y δ1=some (k,δ'):=q;exact G7 ⟨B,O,δ1,k,δ',R1.sta,q,fun H2 R2=>w H2 ⟨R2.sta,R1.frm.trans R2.frm,fun z=>by
   obtain⟨z1,z2⟩:=(Af _ _).mp z;exact(R1.pur z1).trans (R2.pur z2)⟩⟩
 |false=>
  have q:some (false,δ1)=some (k,δ'):=q;cases q;exact G6 (w H1 ⟨R1.sta,R1.frm,fun z=>R1.pur ((Af _ _).mp z).1⟩)
theorem zHY{x y:VB}{Q:Bool->Hp->Prop}(h:TB K ml (pa && pb) (GO x y) σ H Q):tOr (TB K ml pa x) (TB K ml pb y) σ H Q:=by
 obtain⟨B,O,δ,k,δ',S,q,w⟩:=h;unfold GO at q;obtain⟨⟨kk,δ1⟩,h1,q⟩:=Aa.mp q;refine⟨B,O,δ,kk,δ1,S,h1,fun H1 R1=> ?_⟩;cases kk with
 |false=>
  have q:y δ1=some (k,δ'):=q;exact G6 ⟨B,O,δ1,k,δ',R1.sta,q,fun H2 R2=>w H2 ⟨R2.sta,R1.frm.trans R2.frm,fun z=>by
   obtain⟨z1,z2⟩:=(Af _ _).mp z;exact(R1.pur z1).trans (R2.pur z2)⟩⟩
 |true=>
  have q:some (true,δ1)=some (k,δ'):=q;cases q;exact G7 (w H1 ⟨R1.sta,R1.frm,fun z=>R1.pur ((Af _ _).mp z).1⟩)
theorem ZT{x:VB}(h:PT X a (TB K ml pu x)):PT X (.UnaryOp .Not a pos) (TB K ml pu (WW x)):=(zFA h).imp fun σ H Q hq0=>by
 obtain⟨B,O,δ,k,δ',S,q,w⟩:=hq0;unfold WW at q;obtain⟨p,h1,q⟩:=Ao.mp q;cases q;exact⟨B,O,δ,p.1,p.2,S,h1,w⟩
theorem MB{x:VB}(h:PT X a (TB K ml pu x)):PW X (.BoolOp .And [a] pos) (TB K ml pu x):=zBQ h
theorem XO{x:VB}(h:PT X a (TB K ml pu x)):PW X (.BoolOp .Or [a] pos) (TB K ml pu x):=zF7 h
theorem IE{x y:VB}(ha:PT X a (TB K ml pa x))(hb:PW X (.BoolOp .And (b::es) pos) (TB K ml pb y)):PW X (.BoolOp .And (a::b::es) pos) (TB K ml (pa && pb) (GN x y)):=(zF8 ha hb).imp fun _ _ _ h=>zEH h
theorem U7{x y:VB}(ha:PT X a (TB K ml pa x))(hb:PW X (.BoolOp .Or (b::es) pos) (TB K ml pb y)):PW X (.BoolOp .Or (a::b::es) pos) (TB K ml (pa && pb) (GO x y)):=(zJ1 ha hb).imp fun _ _ _ h=>zHY h
theorem R9{x:VB}(h:PW X e (TB K ml pu x)):PT X e (TB K ml pu x):=h.pt
noncomputable def DW(x y:VF):VF:=fun δ=>(x δ).bind fun p=>match p.1 with
 | .bl true=>y p.2
 | .bl false=>some (.bl false,p.2)
 |_=>none
theorem ID{op}{f:VF}(h:PE X a (TV K ml pu bt bi f)):PE X (.BoolOp op [a] pos) (TV K ml pu bt bi f):=zFK h
theorem IC(ha:PE X a (TV K ml pa ta ia fa))(hb:PE X (.BoolOp .And (b::es) pos) (TV K ml pb tb ib fb)):PE X (.BoolOp .And (a::b::es) pos) (TV K ml (pa && pb) tb ib (DW fa fb)):=(zFN ha hb).imp fun σ H Q hq0=>by
 obtain⟨B,O,δ,d,δ',S,q,k⟩:=hq0;unfold DW at q;obtain⟨⟨x,δ1⟩,h1,q⟩:=Aa.mp q;refine⟨B,O,δ,x,δ1,S,h1,fun v1 H1 R1=> ?_⟩;cases x with
 |bl kk=>
  have e1:v1= .bl kk:=by cases R1.rep;rfl
  refine⟨kk,e1,?_⟩;cases kk with
  |true=>
   exact G7 ⟨B,O,δ1,d,δ',R1.sta,q,fun v2 H2 R2=>k v2 H2 ⟨R2.sta,R1.frm.trans R2.frm,fun z=>by
    obtain⟨z1,z2⟩:=(Af _ _).mp z;exact(R1.pur z1).trans (R2.pur z2),R2.rep⟩⟩
  |false=>
   cases q;exact G6 (k _ H1 ⟨R1.sta,R1.frm,fun z=>R1.pur ((Af _ _).mp z).1,.bl _⟩)
 |_=>cases q
noncomputable def NU(t:VB)(x y:VF):VF:=fun δ=>(t δ).bind fun p=>if p.1=true then x p.2 else y p.2
theorem YO{t:VB}(ht:PT X c (TB K ml pc t))(ha:PE X a (TV K ml pa ta ia fa))(hb:PE X b (TV K ml pb tb ib fb)):PE X (.IfExp c a b pos) (TV K ml (pc && pa && pb) (ta && tb) (ia && ib) (NU t fa fb)):=(AF ht ha hb).imp fun σ H Q hq0=>by
 obtain⟨B,O,δ,d,δ',S,q,k⟩:=hq0;unfold NU at q;obtain⟨⟨kk,δ1⟩,h1,q⟩:=Aa.mp q;refine⟨B,O,δ,kk,δ1,S,h1,fun H1 R1=> ?_⟩;have g1: ∀c,((ta && tb)=true->c=true)-> ∀a,at_ B O (ta && tb) a->at_ B O c a:=fun c h=>zD7 h;have g2: ∀c,((ia && ib)=true->c=true)-> ∀a,av B O (ia && ib) a->av B O c a:=fun c h=>VO h;cases kk with
 |true=>
  exact G7 ⟨B,O,δ1,d,δ',R1.sta,q,fun v2 H2 R2=>k v2 H2 ⟨R2.sta,R1.frm.trans R2.frm,fun z=>by
   simp only[Af] at z;exact(R1.pur z.1.1).trans (R2.pur z.1.2),R2.rep.mono (g2 _ fun z=>((Af _ _).mp z).1) (g1 _ fun z=>((Af _ _).mp z).1)⟩⟩
 |false=>
  exact G6 ⟨B,O,δ1,d,δ',R1.sta,q,fun v2 H2 R2=>k v2 H2 ⟨R2.sta,R1.frm.trans R2.frm,fun z=>by
   simp only[Af] at z;exact(R1.pur z.1.1).trans (R2.pur z.2),R2.rep.mono (g2 _ fun z=>((Af _ _).mp z).2) (g1 _ fun z=>((Af _ _).mp z).2)⟩⟩
noncomputable def f3(o o':dH->dH->Option dH)(fa fb fc:VF):VF:=fun δ=>(fa δ).bind fun p=>(fb p.2).bind fun q=>(o p.1 q.1).bind fun z=>match z with
 | .bl true=>(fc q.2).bind fun s=>(o' q.1 s.1).map fun u=>(u,s.2)
 | .bl false=>some (.bl false,q.2)
 |_=>none
theorem KI(ho:P0 K r o)(ho':P0 K r' o')(hs:(pb || (ta && ia))=true)(hs':(pc || (tb && ib))=true){Q:VK}(h:TV K ml (pa && pb && pc) true true (f3 o o' fa fb fc) σ H Q):HY r r' (TV K ml pa ta ia fa) (TV K ml pb tb ib fb) (TV K ml pc tc ic fc) σ H Q:=by
 obtain⟨B,O,δ,d,δ3,S,q,k⟩:=h;unfold f3 at q;obtain⟨⟨x,δ1⟩,h1,q⟩:=Aa.mp q;cases h2:fb δ1 with
 |none=>simp[h2] at q
 |some p2=>
  obtain⟨y,δ2⟩:=p2;simp only[Aq,h2] at q;refine⟨B,O,δ,x,δ1,S,h1,fun v1 H1 R1=>⟨B,O,δ1,y,δ2,R1.sta,h2,fun v2 H2 R2=> ?_⟩⟩;obtain⟨z,h3,q⟩:=Aa.mp q;refine ho H2 _ _ _ _ v1 v2 x y z _ (R2.live hs R1.rep) R2.rep h3 fun v hv=> ?_;have hv:=hv (fun _=>none) (fun _=>True) fun _=>True;cases z with
  |bl kk=>
   have e1:v= .bl kk:=by cases hv;rfl
   refine⟨kk,e1,?_⟩;cases kk with
   |false=>
    cases q;exact G6 (k _ H2 ⟨R2.sta,R1.frm.trans R2.frm,fun z=>by
     simp only[Af] at z;exact(R1.pur z.1.1).trans (R2.pur z.1.2),.bl _⟩)
   |true=>
    have q:((fc δ2).bind fun s=>(o' y s.1).map fun u=>(u,s.2))=some (d,δ3):=q;obtain⟨⟨z4,δ4⟩,h4,q⟩:=Aa.mp q;have q:((o' y z4).map fun u=>(u,δ4))=some (d,δ3):=q;obtain⟨u,h5,q⟩:=Ao.mp q;cases q;refine G7 ⟨B,O,δ2,z4,_,R2.sta,h4,fun v4 H4 R4=> ?_⟩;exact ho' H4 _ _ _ _ v2 v4 y z4 d Q (R4.live hs' R2.rep) R4.rep h5 fun v hv=>k v H4 ⟨R4.sta,(R1.frm.trans R2.frm).trans R4.frm,fun z=>by
     simp only[Af] at z;exact((R1.pur z.1.1).trans (R2.pur z.1.2)).trans (R4.pur z.2),hv _ _ _⟩
  |_=>cases q
theorem B9{op op':CmpOp}(ho:XS X (Cg op) r)(ho':XS X (Cg op') r')(hv:P0 K r o)(hv':P0 K r' o')(ha:PE X a (TV K ml pa ta ia fa))(hb:PE X b (TV K ml pb tb ib fb))(hc:PE X c (TV K ml pc tc ic fc))
  (hm:Ms [op,op'] [b,c]=false:=by with_unfolding_all rfl) (hs:(pb || (ta && ia))=true:=by rfl) (hs':(pc || (tb && ib))=true:=by rfl):PE X (.Compare a [op,op'] [b,c] pos) (TV K ml (pa && pb && pc) true true (f3 o o' fa fb fc)):=
 (AA ho ho' ha hb hc hm).imp fun _ _ _ h=>KI hv hv' hs hs' h
theorem CI{op op':CmpOp}(ho:XS X (Cg op) r)(ho':XS X (Cg op') r')(hv:P0 K r o)(hv':P0 K r' o')(ha:PE X a (TV K ml pa ta ia fa))(hb:PE X b (TV K ml pb tb ib fb))(hc:PE X c (TV K ml pc tc ic fc))
  (hm:Ms [op,op'] [b,c]=false:=by with_unfolding_all rfl) (hs:(pb || (ta && ia))=true:=by rfl) (hs':(pc || (tb && ib))=true:=by rfl):PT X (.Compare a [op,op'] [b,c] pos) (TB K ml (pa && pb && pc) (fB (f3 o o' fa fb fc))):=
 (AU ho ho' ha hb hc hm).imp fun _ _ _ h=>MA (fun _ _ _=>KI hv hv' hs hs') h
end
section
variable{X:Cx}{K:Ai}{ml:List Nat}{e a b c:Expr}{es:List Expr}{pa ta ia pb tb ib pc tc ic pu bt bi ps bs:Bool}{fa fb fc:VF}{B:Bs}{O:Nat->Option Addr}{H H1 H':Hp}{σ:St}{δ δ':Ev}{v:V}{d:dH}{p:Addr}{pos:Pos}
noncomputable def f1(o:dH->Option dH)(fa:VF):VF:=fun δ=>(fa δ).bind fun p=>(o p.1).map fun c=>(c,p.2)
theorem LB{o:dH->Option dH}(h:f1 o fa δ=some (d,δ')): ∃x,fa δ=some (x,δ')/\o x=some d:=by
 unfold f1 at h;cases h1:fa δ with
 |none=>rw[h1] at h;cases h
 |some p=>
  rw[h1] at h;have h:((o p.1).map fun c=>(c,p.2))=some (d,δ'):=h;obtain⟨c,h3,h⟩:=Ao.mp h;cases h;exact⟨p.1,rfl,h3⟩
abbrev RC:=List V->Hp->VK->Prop
def GD(K:Ai)(r:RC)(o:dH->Option dH):Prop:= ∀(H:Hp) (N M:Addr->Prop) (x:V) (d c:dH) (Q:VK),bQ K N H M x d->o d=some c->(∀v,(∀H' N M,bQ K N H' M v c)->Q v H)->r [x] H Q
def CalC(K:Ai)(r:RC)(o:dH->Option dH):Prop:= ∀(H:Hp) (N M:Addr->Prop) (x:V) (d c:dH) (Q:VK),bQ K N H M x d->o d=some c→
 (∀v H',aG H H'->(∀M,(∀a,M a-> ∃o,H a=some o)->bQ K N H' M v c)->Q v H')->r [x] H Q
def CalN(K:Ai)(r:RC)(o:dH->Option dH):Prop:= ∀(H:Hp) (N M:Addr->Prop) (x:V) (d c:dH) (Q:VK),bQ K N H M x d->o d=some c→
 (∀p xs ds,H p=none->cJ K N H xs ds->c= .lst ds->Q (.ref p) (upd H p (.lst xs)))->r [x] H Q
def MC(K:Ai)(r:RC)(o:dH->dH->Option dH):Prop:= ∀(H:Hp) (N N' M M':Addr->Prop) (x y:V) (d e c:dH) (Q:VK),bQ K N H M x d->bQ K N' H M' y e->o d e=some c->(∀v,(∀H' N M,bQ K N H' M v c)->Q v H)->r [x,y] H Q
theorem EV{r:RC}{o:dH->Option dH}(ho:GD K r o){Q:VK}(h:TV K ml pa true true (f1 o fa) σ H Q):tCB r (NC (TV K ml pa ta ia fa) NT) σ H Q:=by
 obtain⟨B,O,δ,d,δ',S,q,k⟩:=h;obtain⟨x,h1,h2⟩:=LB q;exact⟨B,O,δ,x,δ',S,h1,fun v1 H1 R1=>ho H1 _ _ v1 x d Q R1.rep h2 fun v hv=>k v H1 ⟨R1.sta,R1.frm,R1.pur,hv _ _ _⟩⟩
theorem EU{r:RC}{o:dH->Option dH}(ho:CalC K r o){Q:VK}(h:TV K ml pa true ia (f1 o fa) σ H Q):tCB r (NC (TV K ml pa ta ia fa) NT) σ H Q:=by
 obtain⟨B,O,δ,d,δ',S,q,k⟩:=h;obtain⟨x,h1,h2⟩:=LB q;exact⟨B,O,δ,x,δ',S,h1,fun v1 H1 R1=>ho H1 _ _ v1 x d Q R1.rep h2 fun v H2 s2 hv=>k v H2 ⟨R1.sta.same s2,R1.frm.trans s2.fr,fun z=>(R1.pur z).trans s2,hv _ fun a z=>R1.sta.nin z⟩⟩
theorem ND{r:RC}{o:dH->Option dH}(ho:CalN K r o){Q:VK}(h:TN K ml pa (f1 o fa) σ H Q):tCB r (NC (TV K ml pa ta true fa) NT) σ H Q:=by
 obtain⟨B,O,δ,d,δ',S,q,k⟩:=h;obtain⟨x,h1,h2⟩:=LB q;refine⟨B,O,δ,x,δ',S,h1,fun v1 H1 R1=>ho H1 _ _ v1 x d Q R1.rep h2 fun p xs ds hp hr he=> ?_⟩;subst he;exact k p _ (mkN R1.sta R1.frm R1.pur hp hr)
theorem EW{r:RC}{o:dH->dH->Option dH}(ho:MC K r o)(hs:(pb || (ta && ia))=true){Q:VK}(h:TV K ml (pa && pb) true true (f2 o fa fb) σ H Q):tCB r (NC (TV K ml pa ta ia fa) (NC (TV K ml pb tb ib fb) NT)) σ H Q:=by
 obtain⟨B,O,δ,d,δ2,S,q,k⟩:=h;obtain⟨x,δ1,y,h1,h2,h3⟩:=N6 q;refine⟨B,O,δ,x,δ1,S,h1,fun v1 H1 R1=>⟨B,O,δ1,y,δ2,R1.sta,h2,fun v2 H2 R2=> ?_⟩⟩;exact ho H2 _ _ _ _ v1 v2 x y d Q (R2.live hs R1.rep) R2.rep h3 fun v hv=>k v H2 ⟨R2.sta,R1.frm.trans R2.frm,fun z=>by
  obtain⟨z1,z2⟩:=(Af _ _).mp z;exact(R1.pur z1).trans (R2.pur z2),hv _ _ _⟩
section
variable{x:Str}{p':Pos}{id T:String}{r:RC}
theorem NF{o:dH->Option dH}(hc:aW X (.builtin id) r)(ho:GD K r o)(hg:Gl X x)(hm:X.mg x=none)(hv:Bf x=some (.builtin id))(ha:PE X a (TV K ml pa ta ia fa))(hn:x≠ "__name__":=by decide) (hdb:(x==("__debug__":Str))=false:=by decide)
  (he:Ae (a::[]) X.env=(false,eval a X.env)::Ae [] X.env:=by rfl):PE X (.Call (.Name x p') [a] [] pos) (TV K ml pa true true (f1 o fa)):=
 (RT hc hg hm hv (a9 ha Y7 he) hn hdb he).imp fun _ _ _ h=>EV ho h
theorem KJ{o:dH->dH->Option dH}(hc:aW X (.builtin id) r)(ho:MC K r o)(hg:Gl X x)(hm:X.mg x=none)(hv:Bf x=some (.builtin id))(ha:PE X a (TV K ml pa ta ia fa))(hb:PE X b (TV K ml pb tb ib fb))(hn:x≠ "__name__":=by decide) (hdb:(x==("__debug__":Str))=false:=by decide)
  (he:Ae (a::[b]) X.env=(false,eval a X.env)::Ae [b] X.env:=by rfl) (he2:Ae (b::[]) X.env=(false,eval b X.env)::Ae [] X.env:=by rfl) (hpl:(Dh pos (Ae [b] X.env)).any (·.1)=false:=by rfl) (hs:(pb || (ta && ia))=true:=by rfl):
  PE X (.Call (.Name x p') [a,b] [] pos) (TV K ml (pa && pb) true true (f2 o fa fb)):=
 (RT hc hg hm hv (a9 ha (a9 hb Y7 he2) he) hn hdb he hpl).imp fun _ _ _ h=>EW ho hs h
theorem F5{o:dH->Option dH}(hc:aW X (.type T) r)(ho:CalC K r o)(hg:Gl X x)(hm:X.mg x=none)(hv:Bf x=some (.type T))(ha:PE X a (TV K ml pa ta ia fa))(hn:x≠ "__name__":=by decide) (hdb:(x==("__debug__":Str))=false:=by decide)
  (he:Ae (a::[]) X.env=(false,eval a X.env)::Ae [] X.env:=by rfl):PE X (.Call (.Name x p') [a] [] pos) (TV K ml pa true ia (f1 o fa)):=
 (Q4 hc hg hm hv (a9 ha Y7 he) hn hdb he).imp fun _ _ _ h=>EU ho h
theorem KM{o:dH->Option dH}(hc:aW X (.type T) r)(ho:CalN K r o)(hg:Gl X x)(hm:X.mg x=none)(hv:Bf x=some (.type T))(ha:PE X a (TV K ml pa ta true fa))(hn:x≠ "__name__":=by decide) (hdb:(x==("__debug__":Str))=false:=by decide)
  (he:Ae (a::[]) X.env=(false,eval a X.env)::Ae [] X.env:=by rfl):PE X (.Call (.Name x p') [a] [] pos) (TN K ml pa (f1 o fa)):=
 (Q4 hc hg hm hv (a9 ha Y7 he) hn hdb he).imp fun _ _ _ h=>ND ho h
theorem zHT{o:dH->Option dH}(hc:aW X (.builtin id) r)(ho:CalN K r o)(hg:Gl X x)(hm:X.mg x=none)(hv:Bf x=some (.builtin id))(ha:PE X a (TV K ml pa ta true fa))(hn:x≠ "__name__":=by decide) (hdb:(x==("__debug__":Str))=false:=by decide)
  (he:Ae (a::[]) X.env=(false,eval a X.env)::Ae [] X.env:=by rfl):PE X (.Call (.Name x p') [a] [] pos) (TN K ml pa (f1 o fa)):=
 (RT hc hg hm hv (a9 ha Y7 he) hn hdb he).imp fun _ _ _ h=>ND ho h
end
noncomputable def Y6:dH->Option dH
 | .tup ds=>some (.int ds.length)
 | .lst ds=>some (.int ds.length)
 | .str z=>if z.length<=16777216 then some (.int z.length) else none
 |_=>none
def rLen(K:Ai):RC:=fun xs H Q=>(∃p ys,xs=[.ref p]/\(XZ K H p ys∨VC K H p ys)/\Q (.int ys.length) H)∨ ∃z,xs=[.str z]/\z.length<=sizeLine/\Q (.int z.length) H
theorem zJV(h:X.K=K):aW X (.builtin "len") (rLen K):=by subst h;exact K2.or K3
theorem zIL:GD K (rLen K) Y6:=by
  intro H N M x d c Q hx h k;cases d<;>first
    | (rename_i ds
       obtain⟨a,xs,rfl,sq,r⟩:=hx.seq rfl;cases h;refine .inl ⟨a,xs,rfl,sq,?_⟩;rw[r.length];exact k _ fun _ _ _=> .int _)
    | (cases hx
       simp only[Y6] at h;split at h
       · cases h
         exact .inr ⟨_,rfl,by rw[Cb];assumption,k _ fun _ _ _=> .int _⟩
       · cases h)
    |cases h
noncomputable def P9(d:dH):Option dH:=(X2 d).map dH.lst
noncomputable def S4(d:dH):Option dH:=(X2 d).map dH.tup
def A5(K:Ai):RC:=fun xs H Q=> ∃p ys,xs=[.ref p]/\(XZ K H p ys∨VC K H p ys)/\ ∀l,H l=none->Q (.ref l) (upd H l (.lst ys))
def FX(K:Ai):RC:=fun xs H Q=> ∃p ys,xs=[.ref p]/\((XZ K H p ys/\ ∀l,H l=none->Q (.ref l) (upd H l (.tup ys)))∨(VC K H p ys/\Q (.ref p) H))
theorem OI(h:X.K=K):aW X (.type "list") (A5 K):=zJU h
theorem PJ(h:X.K=K):aW X (.type "tuple") (FX K):=zH7 h
theorem KB{d:dH}{g:List dH->dH}{c:dH}(h:(X2 d).map g=some c): ∃ds,X2 d=some ds/\c=g ds:=by
 cases h1:X2 d with
 |none=>rw[h1] at h;cases h
 |some ds=>rw[h1] at h;cases h;exact⟨ds,rfl,rfl⟩
theorem X1:CalN K (A5 K) P9:=by
 intro H N M x d c Q hx h k;obtain⟨ds,h1,rfl⟩:=KB h;obtain⟨a,xs,rfl,sq,r⟩:=hx.seq h1;exact⟨a,xs,rfl,sq,fun l hl=>k l xs ds hl r rfl⟩
theorem PB:CalC K (FX K) S4:=by
 intro H N M x d c Q hx h k;obtain⟨ds,h1,rfl⟩:=KB h;obtain⟨a,xs,rfl,sq,r⟩:=hx.seq h1;rcases sq with sq|sq
 ·exact⟨a,xs,rfl,.inl ⟨sq,fun l hl=>k _ _ (c7 hl) fun M hM=> .tup (VC.of cX) (r.same (c7 hl))⟩⟩
 ·exact⟨a,xs,rfl,.inr ⟨sq,k _ _ (aG.refl _) fun M hM=> .tup sq r⟩⟩
noncomputable def o2I(g:Int->Int->Int):dH->dH->Option dH
 | .int i,.int j=>some (.int (g i j))
 |_,_=>none
theorem BE{g:Int->Int->Int}:MC K (fun xs H Q=> ∃i j,xs=[.int i,.int j]/\Q (.int (g i j)) H) (o2I g):=by
 intro H N N' M M' x y d e c Q hx hy h k;unfold o2I at h;split at h
 ·cases h
  cases hx;cases hy;exact⟨_,_,rfl,k _ fun _ _ _=> .int _⟩
 ·cases h
noncomputable abbrev oMax:=o2I fun i j=>if j>i then j else i
noncomputable abbrev oMin:=o2I fun i j=>if j<i then j else i
theorem zDI:MC K (fun xs H Q=> ∃i j,xs=[.int i,.int j]/\Q (.int (if j>i then j else i)) H) oMax:=BE
theorem zDH:MC K (fun xs H Q=> ∃i j,xs=[.int i,.int j]/\Q (.int (if j<i then j else i)) H) oMin:=BE
noncomputable def tyD:dH->Option String
 | .non=>some "NoneType"
 | .bl _=>some "bool"
 | .int _=>some "int"
 | .str _=>some "str"
 | .tup _=>some "tuple"
 | .lst _=>some "list"
 |_=>none
noncomputable def QU(t n:String):Option Bool:=if((Hd t)==(Hd n))=true then some true else if W.kitMeta n=true then(PySem.fastBuiltinMro t).map (·.contains (.type n)) else none
theorem zCT{t n:String}{k:Bool}(h:QU t n=some k):W.kitOne K (.type t) (.type n)=some k:=h
noncomputable def VJ:dH->dH->Option dH
 |d,.ty n=>(tyD d).bind fun t=>(QU t n).map dH.bl
 |_,_=>none
def rIsi(K:Ai):RC:=fun xs H Q=> ∃x n d N M t k,xs=[x,.ty n]/\bQ K N H M x d/\tyD d=some t/\QU t n=some k/\Q (.bl k) H
theorem DK:aW X (.builtin "isinstance") (rIsi X.K):=by
 intro aa s σ H xs us Q I r h;obtain⟨x,n,d,N,M,t,k,rfl,hx,ht,hk,q⟩:=h;obtain⟨u,c,rfl,rx,rc⟩:=F4 r;cases (show c=Hd n from rc);have e:=zCT (K:=X.K) hk;have fin: ∀tk,EP X aa σ Q (.bool k) {s with toks:=tk}:=fun tk=>⟨.bl k,H,I.tok tk,rfl,q⟩;cases hx with
 |non=>cases ht;exact UD I rx (.non) e fin
 |bl y=>cases ht;exact UD I rx (.bl y) e fin
 |int i=>cases ht;exact UD I rx (.int i) e fin
 |str y=>cases ht;exact UD I rx (.str y) e fin
 |ty n=>cases ht
 |fn _=>cases ht
 |dct _ _ _=>cases ht
 |flt _ _ _=>cases ht
 |ktb _ _=>cases ht
 |exn _ _ _=>cases ht
 |exr _ _ _ _ _=>cases ht
 |tup q _=>
  cases ht;cases rx;obtain⟨its,_,⟨o,h1,h2,_⟩,_⟩:=I.tuple q;exact Ew W.kitx_tuple I.kIn ⟨o,h1,h2⟩ e (fun z=>nomatch z) fin
 |lst q _ _=>
  cases ht;cases rx;obtain⟨its,_,⟨o,n,h1,h2,_⟩,_⟩:=I.list (XZ.of q);exact Ew Kl I.kIn ⟨o,h1,h2⟩ e (fun z=>nomatch z) fin
 |fzm q _=>
  cases ht;cases rx;obtain⟨its,_,⟨o,n,h1,h2,_⟩,_⟩:=I.list q.sq;exact Ew Kl I.kIn ⟨o,h1,h2⟩ e (fun z=>nomatch z) fin
theorem kIsi(h:X.K=K):aW X (.builtin "isinstance") (rIsi K):=by subst h;exact DK
theorem zIM:MC K (rIsi K) VJ:=by
  intro H N N' M M' x y d e c Q hx hy h k;cases hy<;>first
    | (simp only [VJ] at h
       cases h1:tyD d with
       |none=>rw[h1] at h;cases h
       |some t=>
         rw[h1] at h;rename_i n;have h:(QU t n).map dH.bl=some c:=h;obtain⟨kk,h2,h⟩:=Ao.mp h;cases h;exact⟨x,n,d,N,M,t,kk,rfl,hx,h1,h2,k _ fun _ _ _=> .bl _⟩)
    |cases h
noncomputable def oNeg:dH->Option dH
 | .int i=>some (.int (-i))
 |_=>none
theorem zE9(ha:PE X a (TV K ml pa ta ia fa)):PE X (.UnaryOp .USub a pos) (TV K ml pa true true (f1 oNeg fa)):=(zJ4 zEB ha).imp fun σ H Q hq0=>by
 obtain⟨B,O,δ,d,δ',S,q,k⟩:=hq0;obtain⟨x,h1,h2⟩:=LB q;refine⟨B,O,δ,x,δ',S,h1,fun v1 H1 R1=> ?_⟩;cases x with
 |int i=>
  cases h2;have e1:v1= .int i:=by cases R1.rep;rfl
  exact⟨i,e1,k _ H1 ⟨R1.sta,R1.frm,R1.pur,.int _⟩⟩
 |_=>cases h2
abbrev VP:=Ev->Option (Option Int×Ev)
def TPO(K:Ai)(ml:List Nat)(pu:Bool)(f:VP):TO:=fun σ H Q=> ∃B O δ k δ',aR K ml B O H σ δ/\f δ=some (k,δ')/\ ∀H',DE K ml B O H σ pu H' δ'->Q k H'
def pNo:VP:=fun δ=>some (none,δ)
noncomputable def pSo(f:VF):VP:=fun δ=>(f δ).bind fun p=>match p.1 with
 | .int i=>some (some i,p.2)
 |_=>none
theorem PO.imp{e:Option Expr}{t u:TO}(h:PO X e t)(k: ∀σ H Q,u σ H Q->t σ H Q):PO X e u:=fun aa s σ H Q I w=>h aa s σ H Q I (k σ H Q w)
theorem F8:PO X none (TPO K ml true pNo):=zBY.imp fun σ H Q hq0=>by
 obtain⟨B,O,δ,d,δ',S,q,k⟩:=hq0;cases q;exact k H (DE.refl S)
theorem F9(h:PE X a (TV K ml pa ta ia fa)):PO X (some a) (TPO K ml pa (pSo fa)):=(zBX h).imp fun σ H Q hq0=>by
 obtain⟨B,O,δ,d,δ',S,q,k⟩:=hq0;unfold pSo at q;obtain⟨⟨x,δ1⟩,h1,q⟩:=Aa.mp q;refine⟨B,O,δ,x,δ1,S,h1,fun v1 H1 R1=> ?_⟩;cases x with
 |int i=>
  have e1:v1= .int i:=by cases R1.rep;rfl
  cases q;exact⟨i,e1,k H1 ⟨R1.sta,R1.frm,R1.pur⟩⟩
 |_=>cases q
noncomputable def N3(ds:List dH)(lo hi:Option Int):List dH:=(ds.drop (HT.sIx ds.length 0 lo)).take (HT.sIx ds.length ds.length hi - HT.sIx ds.length 0 lo)
theorem PD{N:Addr->Prop}{xs:List V}{ds:List dH}(r:cJ K N H xs ds)(lo hi:Option Int):cJ K N H (IZ xs lo hi) (N3 ds lo hi):=by
 unfold IZ N3;rw[r.length];exact(r.drop _).take _
noncomputable def oSl(d:dH)(lo hi:Option Int):Option dH:=match d with
 | .lst ds=>some (.lst (N3 ds lo hi))
 | .tup ds=>some (.tup (N3 ds lo hi))
 |_=>none
noncomputable def fSl(fa:VF)(fl fh:VP):VF:=fun δ=>(fa δ).bind fun p=>(fl p.2).bind fun l=>(fh l.2).bind fun u=>(oSl p.1 l.1 u.1).map fun c=>(c,u.2)
theorem ER{prog:Ax}{w:World}{A:Cm}{E:Value->Ag->Prop}{s:Ag}{t sl:Addr}{items:Array Value}{vl vu:Value}{lo hi:Option Int}{Q:Value->Ag->Prop}(ht:IsTup s.heap t items)(hs:s.heap.IsSliceOf sl vl vu .none)(pl:IsPart vl lo)
  (pu:IsPart vu hi) (h1:HT.sIx items.size 0 lo=0) (h2:HT.sIx items.size items.size hi=items.size) (h:Q (.ref t) s):wpAny (model prog w) A (Ix (.ref t) (.ref sl)) Q E s:=by
 obtain⟨os,hos,hcs,hds⟩:=id hs;have hT:s.TypeIs (.ref sl) "slice":=⟨os,hos,hcs⟩;unfold Ix;try with_reducible refine Cc ?_
 first|refine Ac (As ?_)|skip
 refine Ac (Ij ht.typeIs (by decide) ?_);refine Ac (Ct (name:=Bb "__getitem__") ht.typeIs Dn
  (Dy Dn ht.typeIs PyProof.Rows.entry_tuple_getitem ?_ (PyProof.Rows.args_tuple_getitem _ _)))
 show wpAny _ _ (Hs (.ref t)>>=_) _ _ s;refine Ac (PyProof.Rows.tupleItemsOf_ ht ?_);refine Ac (Lz hT ?_);rw[if_pos (by decide)];refine Ac (HT.WP hs pl pu ?_);rw[h1,h2];show wpAny _ _ (if((((0:Nat):Int)==0 && (1:Int)==1 && (items.size - 0)==items.size)=true) then _ else _) _ _ s;rw[if_pos (by simp)];refine Ac (m:=Nc _) (Ac (Lz ht.typeIs (As ?_)));rw[if_pos (by decide)];exact Ac (Lo (As ⟨_,rfl,As h⟩))
def rSlW(K:Ai):V->Option Int->Option Int->Hp->VK->Prop:=fun x lo hi H Q=> ∃a xs,x= .ref a/\VC K H a xs/\(HT.sIx xs.length 0 lo=0/\HT.sIx xs.length xs.length hi=xs.length)/\Q (.ref a) H
theorem zBL:SlR X (rSlW X.K):=by
 intro aa s σ H x v vl vu lo hi sl Q I rx hs pl pu h;obtain⟨a,xs,rfl,hx,hw,q⟩:=h;cases rx;obtain⟨its,r,ht,hz⟩:=I.tuple hx;have ag:its.toArray.size=xs.length:=by rw[Am];exact r.length.symm
 refine⟨"tuple",_,PyProof.Rows.slot_tuple_getitem.lookup,ht.typeIs,?_⟩;exact ER ht hs pl pu (by rw[ag];exact hw.1) (by rw[ag];exact hw.2) ⟨.ref a,H,I,rfl,q⟩
def rSl(K:Ai):V->Option Int->Option Int->Hp->VK->Prop:=fun x lo hi H Q=>(rSlT K x lo hi H Q∨rSlL K x lo hi H Q)∨rSlW K x lo hi H Q
theorem kSl(h:X.K=K):SlR X (rSl K):=by subst h;exact(zEK.or zBM).or zBL
theorem zCY{fl fh:VP}(h:fSl fa fl fh δ=some (d,δ')): ∃x δ1 l δ2 u,fa δ=some (x,δ1)/\fl δ1=some (l,δ2)/\fh δ2=some (u,δ')/\oSl x l u=some d:=by
 unfold fSl at h;cases h1:fa δ with
 |none=>rw[h1] at h;cases h
 |some p=>
  rw[h1] at h;cases h2:fl p.2 with
  |none=>simp[h2] at h
  |some q=>
   simp only[Aq,h2] at h;cases h3:fh q.2 with
   |none=>simp[h3] at h
   |some s=>
    simp only[Aq,h3] at h;obtain⟨c,h4,h⟩:=Ao.mp h;cases h;exact⟨p.1,p.2,q.1,q.2,s.1,rfl,h2,h3,h4⟩
theorem F6{lo hi:Option Expr}{p2:Pos}{fl fh:VP}(hK:X.K=K)(ha:PE X a (TV K ml pa ta ia fa))(hl:PO X lo (TPO K ml pb fl))(hh:PO X hi (TPO K ml pc fh))(hs:(pb && pc || (ta && ia))=true:=by rfl):
  PE X (.Subscript a (.Slice lo hi none p2) pos) (TV K ml (pa && pb && pc) true ia (fSl fa fl fh)):=(AI (kSl hK) ha hl hh).imp fun σ H Q hq0=>by
 obtain⟨B,O,δ,d,δ3,S,q,k⟩:=hq0;obtain⟨x,δ1,l,δ2,u,h1,h2,h3,h4⟩:=zCY q;refine⟨B,O,δ,x,δ1,S,h1,fun v1 H1 R1=>⟨B,O,δ1,l,δ2,R1.sta,h2,fun H2 R2=>⟨B,O,δ2,u,δ3,R2.sta,h3,fun H3 R3=> ?_⟩⟩⟩;have hx:bQ K (av B O ia) H3 (at_ B O ta) v1 x:=by
  rcases(Hm _ _).mp hs with z|z
  ·obtain⟨z1,z2⟩:=(Af _ _).mp z
   exact(R1.rep.same (R2.pur z1)).same (R3.pur z2)
  ·obtain⟨z1,z2⟩:=(Af _ _).mp z
   subst z1 z2;exact(R1.rep.fr R2.frm (fun a z=> .inr z) fun a z=> .inr z).fr R3.frm (fun a z=> .inr z) fun a z=> .inr z
 have f8:(pa && pb && pc)=true->aG H H3:=fun z=>by
  simp only[Af] at z;exact((R1.pur z.1.1).trans (R2.pur z.1.2)).trans (R3.pur z.2)
 have hfr:=(R1.frm.trans R2.frm).trans R3.frm;cases x with
 |lst ds=>
  cases h4;obtain⟨a,xs,rfl,sq,r⟩:=hx.seq rfl;rcases sq with sq|sq
  ·exact .inl (.inr ⟨a,xs,rfl,sq,fun p hp=>k _ _ ⟨R3.sta.same (c7 hp),hfr.trans (c7 hp).fr,fun z=>(f8 z).trans (c7 hp),.lst cX (R3.sta.new hp) ((PD r l u).same (c7 hp))⟩⟩)
  ·cases hx with
   |lst q n r'=>exact .inl (.inr ⟨a,_,rfl,XZ.of q,fun p hp=>k _ _ ⟨R3.sta.same (c7 hp),hfr.trans (c7 hp).fr,fun z=>(f8 z).trans (c7 hp),.lst cX (R3.sta.new hp) ((PD r' l u).same (c7 hp))⟩⟩)
   |fzm q r'=>exact .inl (.inr ⟨a,_,rfl,q.sq,fun p hp=>k _ _ ⟨R3.sta.same (c7 hp),hfr.trans (c7 hp).fr,fun z=>(f8 z).trans (c7 hp),.lst cX (R3.sta.new hp) ((PD r' l u).same (c7 hp))⟩⟩)
 |tup ds=>
  cases h4;cases hx with
  |tup q r'=>
   by_cases hw:HT.sIx ds.length 0 l=0/\HT.sIx ds.length ds.length u=ds.length
   ·refine .inr ⟨_,_,rfl,q,by rw [r'.length];exact hw,k _ _ ⟨R3.sta,hfr,f8,?_⟩⟩
    have e:N3 ds l u=ds:=by
     unfold N3;rw[hw.1,hw.2];simp
    rw[e];exact .tup q r'
   ·exact .inl (.inl ⟨_,_,rfl,q,by rw[r'.length];exact hw,fun p hp=>k _ _ ⟨R3.sta.same (c7 hp),hfr.trans (c7 hp).fr,fun z=>(f8 z).trans (c7 hp),.tup (VC.of cX) ((PD r' l u).same (c7 hp))⟩⟩)
 |_=>cases h4
end
inductive Ou where
 |nx (δ:Ev)|rt (d:dH) (δ:Ev)|bk (δ:Ev)|ct (δ:Ev)
abbrev VS:=Ev->Option Ou
def Post(K:Ai)(ml:List Nat)(B:Bs)(D:GF):Ou->Prop
 | .nx δ'=> ∀σ' H' O',aR K ml B O' H' σ' δ'->D.nx σ' H'
 | .rt d δ'=> ∀v σ' H' O',aR K ml B O' H' σ' δ'->bQ K (rz B) H' (rz B) v d->D.rt v H'
 | .bk δ'=> ∀σ' H' O',aR K ml B O' H' σ' δ'->D.bk σ' H'
 | .ct δ'=> ∀σ' H' O',aR K ml B O' H' σ' δ'->D.ct σ' H'
def SD(K:Ai)(ml:List Nat)(g:VS):TS:=fun D σ H=> ∃B O δ o,aR K ml B O H σ δ/\g δ=some o/\Post K ml B D o
section
variable{X:Cx}{K:Ai}{ml:List Nat}{e a b c:Expr}{es:List Expr}{pa ta ia pb tb ib pc tc ic pu bt bi ps bs:Bool}{fa fb fc f:VF}{B B':Bs}{O:Nat->Option Addr}{H H1 H':Hp}{σ:St}{δ δ':Ev}{v:V}{d:dH}{p:Addr}{pos:Pos}{st:Stmt}{rest:List Stmt}{g g':VS}
def bD:VS:=fun δ=>some (.nx δ)
noncomputable def cQ(g g':VS):VS:=fun δ=>(g δ).bind fun o=>match o with
 | .nx δ'=>g' δ'
 |o=>some o
theorem cU:QJ X [] (SD K ml bD):=FU.imp fun D σ H hq0=>by
 obtain⟨B,O,δ,o,S,q,k⟩:=hq0;cases q;exact k σ H O S
theorem dG(h1:PS X st (SD K ml g))(h2:QJ X rest (SD K ml g')):QJ X (st::rest) (SD K ml (cQ g g')):=(OQ h1 h2).imp fun D σ H hq0=>by
 obtain⟨B,O,δ,o,S,q,k⟩:=hq0;unfold cQ at q;obtain⟨z,h1,q⟩:=Aa.mp q;refine⟨B,O,δ,z,S,h1,?_⟩;cases z with
 |nx δ1=>exact fun σ' H' O' S'=>⟨B,O',δ1,o,S',q,k⟩
 |rt d δ1=>cases q;exact k
 |bk δ1=>cases q;exact k
 |ct δ1=>cases q;exact k
theorem dE(h1:PS X st (SD K ml g)):QJ X [st] (SD K ml g):=(OQ h1 FU).imp fun D σ H ⟨B,O,δ,o,S,q,k⟩=>⟨B,O,δ,o,S,q,by cases o<;>exact k⟩
noncomputable def cH(f:VF):VS:=fun δ=>(f δ).map fun p=> .rt p.1 p.2
theorem c5(h:PE X e (TV K ml pu bt bi f))(ht:bt=true:=by rfl):PS X (.Return (some e) pos) (SD K ml (cH f)):=(AS h).imp fun D σ H hq0=>by
 obtain⟨B,O,δ,o,S,q,k⟩:=hq0;unfold cH at q;obtain⟨p,h1,q⟩:=Ao.mp q;cases q;subst ht;exact⟨B,O,δ,p.1,p.2,S,h1,fun v H' R=>k v σ H' O R.sta (R.rep.mono R.sta.rza R.sta.rzn)⟩
theorem zB9{i:Nat}(h:PE X e (YT i))(hm:i∉ml:=by decide):PS X (.Return (some e) pos) (SD K ml (cH (fO i))):=(AS h).imp fun D σ H hq0=>by
 obtain⟨B,O,δ,o,S,q,k⟩:=hq0;unfold cH at q;obtain⟨⟨x,δ1⟩,h1,q⟩:=Ao.mp q;cases q;obtain⟨rfl,v,e1,r⟩:=S.lone hm h1;exact⟨v,e1,k v σ H O S (r.mono S.rza S.rza)⟩
noncomputable def TK(f:VF):VS:=fun δ=>(f δ).map fun p=> .nx p.2
theorem WG(h:PE X e (TV K ml pu bt bi f))(hs:El e none pos.line X.env=pure false:=by rfl):PS X (.Expr e pos) (SD K ml (TK f)):=(LV h hs).imp fun D σ H hq0=>by
 obtain⟨B,O,δ,o,S,q,k⟩:=hq0;unfold TK at q;obtain⟨p,h1,q⟩:=Ao.mp q;cases q;exact⟨B,O,δ,p.1,p.2,S,h1,fun v H' R=>k σ H' O R.sta⟩
noncomputable def ZD(t:VB)(g g':VS):VS:=fun δ=>(t δ).bind fun p=>if p.1=true then g p.2 else g' p.2
theorem cD{x y:List Stmt}{t:VB}(ht:PT X c (TB K ml pc t))(ha:QJ X x (SD K ml g))(hb:QJ X y (SD K ml g')):PS X (.If c x y pos) (SD K ml (ZD t g g')):=(zJ2 ht ha hb).imp fun D σ H hq0=>by
 obtain⟨B,O,δ,o,S,q,k⟩:=hq0;unfold ZD at q;obtain⟨⟨kk,δ1⟩,h1,q⟩:=Aa.mp q;refine⟨B,O,δ,kk,δ1,S,h1,fun H1 R1=> ?_⟩;cases kk with
 |true=>exact G7 ⟨B,O,δ1,o,R1.sta,q,k⟩
 |false=>exact G6 ⟨B,O,δ1,o,R1.sta,q,k⟩
abbrev VX:=Ev->Option (Sl×Ev)
inductive St1(K:Ai)(B:Bs)(O:Nat->Option Addr)(H:Hp):Bs->V->Sl->Prop
 |va {v:V} {d:dH}:St1 K B O H {B with kp:=[(v,d)]++B.kp} v (.va d)
 |ol {p:Addr} {xs:List V} {ds:List dH}:H p=some (.lst xs)->xs.length=ds.length-> ¬Nn B O p->B.H0 p=none->St1 K B O H {B.add p with kp:=xs.zip ds++B.kp} (.ref p) (.ow (.lst ds))
 |od {p:Addr} {kvs:List (aY×V)} {ds:List dH}:H p=some (.dK kvs)->kvs.length=ds.length-> ¬Nn B O p->B.H0 p=none->St1 K B O H {B.add p with kp:=(kvs.map Eu).zip ds++B.kp} (.ref p) (.ow (.dct (kvs.map Ds) ds))
 |of {p:Addr} {x f g:Str} {xs ys:List V} {ds:List dH}:UL K H p x f g xs ys->(xs++ys).length=ds.length-> ¬Nn B O p->B.H0 p=none->St1 K B O H {B.add p with kp:=(xs++ys).zip ds++B.kp} (.ref p) (.ow (.flt x f g xs.length ds))
def TX(K:Ai)(ml:List Nat)(f:VX):TE:=fun σ H Q=> ∃B O δ s δ',aR K ml B O H σ δ/\f δ=some (s,δ')/\ ∀v H' B',aR K ml B' O H' σ δ'->St1 K B O H' B' v s->Fr (OA O) H H'->Q v H'
noncomputable def xV(f:VF):VX:=fun δ=>(f δ).map fun p=>(.va p.1,p.2)
noncomputable def xO(f:VF):VX:=fun δ=>(f δ).map fun p=>(.ow p.1,p.2)
theorem a5(h:PE X e (TV K ml pu true true f)):PE X e (TX K ml (xV f)):=h.imp fun σ H Q hq0=>by
 obtain⟨B,O,δ,o,δ',S,q,k⟩:=hq0;unfold xV at q;obtain⟨p,h1,q⟩:=Ao.mp q;cases q;exact⟨B,O,δ,p.1,p.2,S,h1,fun v H' R=>k v H' _ (R.sta.keepV (ps:=[(v,p.1)]) fun z hz=>by
  rw[Aj.mp hz];exact R.rep) .va R.frm⟩
theorem W9{N:Addr->Prop}: ∀{xs:List V} {ds:List dH},cJ K N H xs ds-> ∀z∈xs.zip ds,bQ K N H N z.1 z.2
 |_,_,.nil,z,hz=>nomatch hz
 |_,_,.cons h t,z,hz=>by
  rcases Ap.mp hz with e|e
  ·rw[e];exact h
  ·exact W9 t z e
theorem UJ{N:Addr->Prop}: ∀{xs:List V} {ds:List dH},xs.length=ds.length->(∀z∈xs.zip ds,bQ K N H N z.1 z.2)->cJ K N H xs ds
 |[],[],_,_=> .nil
 |x::xs,d::ds,hl,h=> .cons (h (x,d) (Bg ..)) (UJ (by simpa using hl) fun z hz=>h z (Aw _ hz))
theorem TQ(h:PE X e (TN K ml pu f)):PE X e (TX K ml (xO f)):=h.imp fun σ H Q hq0=>by
 obtain⟨B,O,δ,o,δ',S,q,k⟩:=hq0;unfold xO at q;cases h1:f δ with
 |none=>rw[h1] at q;cases q
 |some p=>
  obtain⟨d,δ1⟩:=p;rw[h1] at q;cases q;refine⟨B,O,δ,d,δ1,S,h1,fun p H' R=> ?_⟩;have w:=R.own;cases w with
  |lst q r=>exact k _ H' _ (R.sta.keepV (W9 r)) (.ol q r.length R.nz R.h0) R.frm
  |dct q r=>exact k _ H' _ (R.sta.keepV (W9 r)) (.od q (by simpa using r.length) R.nz R.h0) R.frm
  |flt q r=>exact k _ H' _ (R.sta.keepV (W9 r)) (.of q r.length R.nz R.h0) R.frm
theorem St1.bind{O':Nat->Option Addr}{s:Sl}{i:Nat}(h:St1 K B O H' B' v s)(S:aR K ml B' O' H' σ δ)(hm:i∉ml)(hl:i<δ.length): ∃O'',aR K ml B O'' H' (σ.set i (some v)) (δ.set i s):=by
 cases h with
 |va=>
  refine⟨_,aR.unkeep (ps:=_) (S.setVa hm (S.kep _ (Bv _ (Aj.mpr rfl))))⟩
 |ol q l n z=>
  refine⟨_,aR.setOw (aR.unkeep (B:=B.add _) S) hm hl (fun w=>n (.inl w)) z (.lst q (UJ l fun z hz=>S.kep z (Bv _ hz)))⟩
 |od q l n z=>
  refine⟨_,aR.setOw (aR.unkeep (B:=B.add _) S) hm hl (fun w=>n (.inl w)) z (.dct q (UJ (by simpa using l) fun z hz=>S.kep z (Bv _ hz)))⟩
 |of q l n z=>
  refine⟨_,aR.setOw (aR.unkeep (B:=B.add _) S) hm hl (fun w=>n (.inl w)) z (.flt q (UJ l fun z hz=>S.kep z (Bv _ hz)))⟩
noncomputable def aZ(i:Nat)(x:VX):VS:=fun δ=>(x δ).bind fun p=>if i<p.2.length then some (.nx (p.2.set i p.1)) else none
theorem cC{i:Nat}{y:Str}{x:VX}{al:Pos}(hN:X.N.Nodup)(he:PE X e (TX K ml x))(hi:X.N[i]? =some y:=by rfl)(hx:Loc X.env.scope y:=by first|exact .inl rfl|exact .inr rfl)(hm:i∉ml:=by decide)(hs:El e (some (.Name y al)) pos.line X.env=pure false:=by rfl)
  (hf:X.fn y=true∨X.env.scope.names.lookup y=some .local:=by first|exact .inl rfl|exact .inr rfl|assumption):PS X (.Assign [.Name y al] e pos) (SD K ml (aZ i x)):=(zFB hN hi hx he hs hf).imp fun D σ H hq0=>by
 obtain⟨B,O,δ,o,S,q,k⟩:=hq0;unfold aZ at q;obtain⟨⟨s,δ1⟩,h1,q⟩:=Aa.mp q;have q:(if i<δ1.length then some (Ou.nx (δ1.set i s)) else none)=some o:=q;split at q
 ·rename_i hl
  cases q;refine⟨B,O,δ,s,δ1,S,h1,fun v H' B' S' h' f'=> ?_⟩;obtain⟨O'',S''⟩:=h'.bind S' hm hl;exact k _ _ _ S''
 ·cases q
abbrev VG:=dH->Ev->Option Ev
def TGV(K:Ai)(ml:List Nat)(h:VG):TG:=fun v σ H Q=> ∃B O δ d δ',aR K ml B O H σ δ/\bQ K (Nn B O) H (Nn B O) v d/\h d δ=some δ'/\ ∀σ' O',aR K ml B O' H σ' δ'->(∀i∈ml,σ'[i]? =σ[i]?)->Q σ' H
theorem PG.imp{t u:TG}(h:PG X e t)(k: ∀v σ H Q,u v σ H Q->t v σ H Q):PG X e u:=fun aa s σ H v w Q I r z=>h aa s σ H v w Q I r (k v σ H Q z)
theorem E1.imp{t u:DF}(h:E1 X es t)(k: ∀v σ H Q,u v σ H Q->t v σ H Q):E1 X es u:=fun aa s σ H v w Q I r z=>h aa s σ H v w Q I r (k v σ H Q z)
theorem PG.or{t u:TG}(h:PG X e t)(h':PG X e u):PG X e (fun v σ H Q=>t v σ H Q∨u v σ H Q):=fun aa s σ H v w Q I r z=>by
 rcases z with z|z
 ·exact h aa s σ H v w Q I r z
 ·exact h' aa s σ H v w Q I r z
def gN(i:Nat):VG:=fun d δ=>some (δ.set i (.va d))
theorem cP{i:Nat}{x:Str}(hN:X.N.Nodup)(hi:X.N[i]? =some x:=by rfl)(hx:Loc X.env.scope x:=by first|exact .inl rfl|exact .inr rfl)(hm:i∉ml:=by decide)(hf:X.fn x=true∨X.env.scope.names.lookup x=some .local:=by first|exact .inl rfl|exact .inr rfl|assumption):PG X (.Name x pos) (TGV K ml (gN i)):=
 (zC5 hN hi hx hf).imp fun v σ H Q hq0 => by
  obtain⟨B,O,δ,d,δ',S,r,q,k⟩:=hq0;cases q;exact k _ _ (S.setVa hm r) fun j hj=>Bp fun(z:i=j)=>hm (z▸hj)
abbrev CS:=List dH->Ev->Option Ev
def TGVs(K:Ai)(ml:List Nat)(h:CS):DF:=fun vs σ H Q=> ∃B O δ ds δ',aR K ml B O H σ δ/\cJ K (Nn B O) H vs ds/\h ds δ=some δ'/\ ∀σ' O',aR K ml B O' H σ' δ'->(∀i∈ml,σ'[i]? =σ[i]?)->Q σ' H
def ZC:CS:=fun ds δ=>match ds with
 |[]=>some δ
 |_=>none
noncomputable def b7(g:VG)(gs:CS):CS:=fun ds δ=>match ds with
 |d::r=>(g d δ).bind fun δ1=>gs r δ1
 |[]=>none
theorem Z5:E1 X [] (TGVs K ml ZC):=zC3.imp fun vs σ H Q hq0=>by
 obtain⟨B,O,δ,ds,δ',S,r,q,k⟩:=hq0;cases r with
 |nil=>cases q;exact⟨rfl,k _ _ S fun _ _=>rfl⟩
 |cons _ _=>cases q
theorem cI{g:VG}{gs:CS}(h1:PG X e (TGV K ml g))(h2:E1 X es (TGVs K ml gs))(hs:(assignEach (e::es) X.env).map (·.2)=assign e X.env::(assignEach es X.env).map (·.2):=by rfl):E1 X (e::es) (TGVs K ml (b7 g gs)):=
 (AJ h1 h2 hs).imp fun vs σ H Q hq0 => by
  obtain⟨B,O,δ,ds,δ',S,r,q,k⟩:=hq0;cases r with
  |nil=>cases q
  | @cons v vs d ds h t=>
   have q:((g d δ).bind fun δ1=>gs ds δ1)=some δ':=q;obtain⟨δ1,h1,q⟩:=Aa.mp q;have S0:=S.keepV (W9 t);exact⟨v,vs,rfl,_,O,δ,d,δ1,S0,h,h1,fun σ1 O1 S1 m1=>⟨B,O1,δ1,ds,δ',S1.unkeep,UJ t.length fun z hz=>S1.kep z (Bv _ hz),q,fun σ2 O2 S2 m2=>k σ2 O2 S2 fun i hi=>(m2 i hi).trans (m1 i hi)⟩⟩
noncomputable def N8(n:Nat)(gs:CS):VG:=fun d δ=>(X2 d).bind fun ds=>if ds.length=n then gs ds δ else none
theorem ZF{gs:CS}{k n:Nat}(hK:X.K=K)(hc:X.calm=true)(h:E1 X es (TGVs K ml gs))(hn:(assignEach es X.env).length=n:=by rfl)(hst:(assignEach es X.env).findIdx? (·.1)=none:=by rfl):PG X (.Tuple es k pos) (TGV K ml (N8 n gs)):=
 ((zJR (K := K) hK hc h hn hst).or (zJS (K := K) hK hc h hn hst)).imp fun v σ H Q hq0 => by
  obtain⟨B,O,δ,d,δ',S,r,q,k⟩:=hq0;unfold N8 at q;obtain⟨ds,h1,q⟩:=Aa.mp q;have q:(if ds.length=n then gs ds δ else none)=some δ':=q;split at q
  ·rename_i hl
   obtain⟨a,xs,rfl,sq,ra⟩:=r.seq h1;have fin:TGVs K ml gs xs σ H Q:=⟨B,O,δ,ds,δ',S,ra,q,k⟩;rcases sq with sq|sq
   ·exact .inr ⟨a,xs,rfl,sq,ra.length.trans hl,fin⟩
   ·exact .inl ⟨a,xs,rfl,sq,ra.length.trans hl,fin⟩
  ·cases q
noncomputable def Q6(f:VF)(g:VG):VS:=fun δ=>(f δ).bind fun p=>(g p.1 p.2).map Ou.nx
theorem W3{tg:Expr}{gg:VG}(he:PE X e (TV K ml pu true true f))(hg:PG X tg (TGV K ml gg))(hs:Iv [tg] e pos.line X.env=pure false:=by rfl)(hw:Iw [tg] e X.env=pure none:=by rfl)
  (h1:(assignEach [tg] X.env).map (·.2)=[assign tg X.env]:=by rfl):PS X (.Assign [tg] e pos) (SD K ml (Q6 f gg)):=(HM he hg hs hw h1).imp fun D σ H hq0=>by
 obtain⟨B,O,δ,o,S,q,k⟩:=hq0;unfold Q6 at q;obtain⟨⟨d,δ1⟩,h1,q⟩:=Aa.mp q;have q:(gg d δ1).map Ou.nx=some o:=q;obtain⟨δ2,h2,q⟩:=Ao.mp q;cases q;exact⟨B,O,δ,d,δ1,S,h1,fun v H' R=>⟨B,O,δ1,d,δ2,R.sta,R.rep,h2,fun σ' O' S' _=>k σ' H' O' S'⟩⟩
def MuV(K:Ai)(r:V->List V->Hp->VK->Prop)(m:List dH->List dH->Option (List dH)):Prop:= ∀(H:Hp) (N:Addr->Prop) (l:Addr) (xs vs:List V) (ds es ds':List dH) (Q:VK),
 H l=some (.lst xs)->N l->cJ K N H xs ds->cJ K N H vs es->m ds es=some ds'->(∀v xs',cJ K N H xs' ds'->Q v (upd H l (.lst xs')))->r (.ref l) vs H Q
noncomputable def XB(δ:Ev)(i:Nat):Option (List dH):=match δ[i]? with
 |some (.ow (.lst ds))=>some ds
 |_=>none
noncomputable def OT(i:Nat)(m:List dH->List dH->Option (List dH))(fs:RH):VS:=fun δ=>(XB δ i).bind fun _=>(fs δ).bind fun p=>(XB p.2 i).bind fun ds=>(m ds p.1).map fun ds'=> .nx (p.2.set i (.ow (.lst ds')))
theorem UG{i:Nat}{ds:List dH}(h:XB δ i=some ds):δ[i]? =some (.ow (.lst ds)):=by
 unfold XB at h;split at h
 ·cases h;assumption
 ·cases h
theorem QA{N:Addr->Prop}{l:Addr}{o:HO}{xs:List V}{ds ys:List dH}{zs:List V}(ho:H l=some (.lst zs))(hN:N l)(h:cJ K N H xs ds):cJ K N (upd H l o) xs ds:=
 h.fr (P:=fun b=>b=l) ⟨fun b u q n=>by
  by_cases hb:b=l
  ·subst hb
   rw[ho] at q;cases q;exact absurd (n rfl) fun z=>z
  ·rw[cY hb]
   exact q,(PQ.of ho).upd⟩ fun a z=>z▸hN
theorem U6{i:Nat}{x:Str}{name:Str}{ah ae af:Pos}{id:String}{r:V->List V->Hp->VK->Prop}{m:List dH->List dH->Option (List dH)}{fs:RH}(hK:X.K=K)(slot:Slot "list" name id) (hty:typeOf (.builtin id)=pure (.type "method_descriptor")) (hm:MtR X id r) (hmu:MuV K r m)
  (ho:PE X (.Name x af) (YT i)) (ha:PA X (e::es) (IK K ml pu true fs))
  (ar:By (.Name x af) name X.env (eval (.Name x af) X.env)=eval (.Name x af) X.env:=by rfl)
  (ca : ((Dh ae (Ae (e :: es) X.env)).all (fun x => !x.1) && (Hb ae (Fe [] X.env)).all (fun x => x.1.isSome)
   && decide ((e::es).length+([]:List Gm).length+(if([]:List Gm).isEmpty then 0 else 1)<30))=true:=by rfl)
  (ao:(ah.endLine==ae.line)=true:=by rfl) (hs:Ae (e::es) X.env=(false,eval e X.env)::Ae es X.env:=by rfl) (ak:(Dh ae (Ae es X.env)).any (·.1)=false:=by rfl)
  (hsw:El (.Call (.Attribute (.Name x af) name ah) (e::es) [] ae) none pos.line X.env=pure false:=by rfl):
  PS X (.Expr (.Call (.Attribute (.Name x af) name ah) (e::es) [] ae) pos) (SD K ml (OT i m fs)):=
 (LV (kBm (K := K) hK Iy slot hty hm ho ha ar ca ao hs ak) hsw).imp fun D σ H hq0 => by
  obtain⟨B,O,δ,o,S,q,k⟩:=hq0;unfold OT at q;obtain⟨ds0,h0,q⟩:=Aa.mp q;have q:((fs δ).bind fun p=>(XB p.2 i).bind fun ds=>(m ds p.1).map fun ds'=>Ou.nx (p.2.set i (.ow (.lst ds'))))=some o:=q;obtain⟨⟨es',δ1⟩,h1,q⟩:=Aa.mp q;have q:((XB δ1 i).bind fun ds=>(m ds es').map fun ds'=>Ou.nx (δ1.set i (.ow (.lst ds'))))=some o:=q;obtain⟨ds,h2,q⟩:=Aa.mp q;have q:((m ds es').map fun ds'=>Ou.nx (δ1.set i (.ow (.lst ds'))))=some o:=q;cases h3:m ds es' with
  |none=>rw[h3] at q;cases q
  |some ds'=>
   rw[h3] at q;cases q;obtain⟨l,e1,e2,w⟩:=S.ow i _ (UG h0);cases w with
   |lst hl0 _=>
    refine⟨.ref l,e2,.inl ⟨rfl,_,XZ.of hl0⟩,B,O,δ,es',δ1,S,h1,fun vs H1 R=> ?_⟩;obtain⟨l',e3,_,w1⟩:=R.sta.ow i _ (UG h2);rw[e1] at e3;cases e3;cases w1 with
    |lst hl1 r1=>
     refine hmu H1 (Nn B O) l _ vs ds es' ds' _ hl1 (.inr ⟨i,e1⟩) r1 R.rep h3 fun v xs' r2=> ?_;exact k σ _ O (R.sta.wrote e1 (fun z=>z) (.of hl1) (.lst cX (QA (ys:=[]) hl1 (.inr ⟨i,e1⟩) r2)))
noncomputable def LP:List dH->List dH->Option (List dH)
 |ds,[d]=>if ds.length<16777216 then some (ds++[d]) else none
 |_,_=>none
theorem Q0:MuV K FW LP:=by
 intro H N l xs vs ds es ds' Q hl hN rx re h k;cases re with
 |nil=>cases h
 | @cons v vs d es hd t=>
  cases t with
  |cons _ _=>cases h
  |nil=>
   simp only[LP] at h;split at h
   ·rename_i hz
    cases h;exact⟨l,xs,v,rfl,rfl,hl,by rw[rx.length,Cb];exact hz,k _ _ (rx.snoc hd)⟩
   ·cases h
end
section
variable{X:Cx}{K:Ai}{ml:List Nat}{e a b c:Expr}{es:List Expr}{pa ta ia pb tb ib pc tc ic pu bt bi ps bs:Bool}{fa fb fc f:VF}{B B':Bs}{O:Nat->Option Addr}{H H1 H':Hp}{σ:St}{δ δ':Ev}{v:V}{d:dH}{p:Addr}{pos:Pos}{st:Stmt}{rest:List Stmt}{g g':VS}
noncomputable def UM(nxt:VS):Ou->Option Ou
 | .nx δ=>nxt δ
 | .ct δ=>nxt δ
 | .bk δ=>some (.nx δ)
 | .rt d δ=>some (.rt d δ)
open Classical in
def Walk(K:Ai)(J:It)(kps:List (V×dH))(ds:List dH):Prop:= ∀(N:Addr->Prop) (H:Hp),(∀p∈kps,bQ K N H N p.1 p.2)→
 (∀(i:Nat) (d:dH),ds[i]? =some d->J.go i H/\ ∀x H',J.yld i H x H'->aG H H'/\bQ K N H' N x d)/\J.stop ds.length H
abbrev VI:=Ev->Option (List dH×Ev)
def TIV(K:Ai)(ml:List Nat)(pu:Bool)(f:VI):TI:=fun σ H R=> ∃B O δ ds δ',aR K ml B O H σ δ/\f δ=some (ds,δ')∧
 ∀J kps H',aR K ml {B with kp:=kps++B.kp} O H' σ δ'->Fr (OA O) H H'->(pu=true->aG H H')->Walk K J kps ds->R J H'
theorem PI.imp{tg:Expr}{t u:TI}(h:PI X tg e t)(k: ∀σ H R,u σ H R->t σ H R):PI X tg e u:=fun aa s σ H R I w=>h aa s σ H R I (k σ H R w)
theorem PI.or{tg:Expr}{t u:TI}(h:PI X tg e t)(h':PI X tg e u):PI X tg e (fun σ H R=>t σ H R∨u σ H R):=fun aa s σ H R I z=>by
 rcases z with z|z
 ·exact h aa s σ H R I z
 ·exact h' aa s σ H R I z
noncomputable def UU(f:VF):VI:=fun δ=>(f δ).bind fun p=>(X2 p.1).map fun ds=>(ds,p.2)
theorem CK{a:Addr}{ds:List dH}:Walk K (Itl K a) [(.ref a,.lst ds)] ds:=by
 intro N H h;have r:=h _ (Aj.mpr rfl);have fin: ∀xs,XZ K H a xs->cJ K N H xs ds->(∀(i:Nat) (d:dH),ds[i]? =some d->(Itl K a).go i H/\ ∀x H',(Itl K a).yld i H x H'->aG H H'/\bQ K N H' N x d)/\(Itl K a).stop ds.length H:=fun xs sq r=>by
  refine⟨fun i d e=> ?_,xs,sq,by rw[r.length];exact Au _⟩;obtain⟨x,e1,r1⟩:=r.get e;refine⟨⟨xs,x,sq,e1⟩,fun y H' hy=> ?_⟩;obtain⟨e2,e3⟩:=hy;subst e2;have:=e3 xs sq
  rw[e1] at this;cases this;exact⟨aG.refl _,r1⟩
 cases r with
 |lst q n r=>exact fin _ (XZ.of q) r
 |fzm q r=>exact fin _ q.sq r
theorem CN{a:Addr}{ds:List dH}:Walk K (Itt K a) [(.ref a,.tup ds)] ds:=by
 intro N H h;have r:=h _ (Aj.mpr rfl);cases r with
 |tup sq r=>
  refine⟨fun i d e=> ?_,_,sq,by rw[r.length];exact Au _⟩;obtain⟨x,e1,r1⟩:=r.get e;refine⟨⟨_,x,sq,e1⟩,fun y H' hy=> ?_⟩;obtain⟨e2,e3⟩:=hy;subst e2;have:=e3 _ sq
  rw[e1] at this;cases this;exact⟨aG.refl _,r1⟩
theorem YV{tg:Expr}(hK:X.K=K)(h:PE X e (TV K ml pu true true f)):PI X tg e (TIV K ml pu (UU f)):=((zH1 (K:=K) hK h).or (zJQ (K:=K) hK h)).imp fun σ H R hq0=>by
 obtain⟨B,O,δ,ds,δ',S,q,k⟩:=hq0;unfold UU at q;obtain⟨⟨x,δ1⟩,h1,q⟩:=Aa.mp q;cases x with
 |lst ds'=>
  cases q;refine .inl ⟨B,O,δ,_,δ1,S,h1,fun v H1 R1=> ?_⟩;obtain⟨a,xs,rfl,sq,r⟩:=R1.rep.seq rfl;refine⟨a,rfl,?_,k _ [(.ref a,.lst ds)] H1 (R1.sta.keepV fun p hp=>by rw[Aj.mp hp];exact R1.rep) R1.frm R1.pur CK⟩;have r:=R1.rep;cases r with
  |lst q _ _=>exact⟨_,XZ.of q⟩
  |fzm q _=>exact⟨_,q.sq⟩
 |tup ds'=>
  cases q;refine .inr ⟨B,O,δ,_,δ1,S,h1,fun v H1 R1=> ?_⟩;obtain⟨a,xs,rfl,sq,r⟩:=R1.rep.seq rfl;refine⟨a,rfl,?_,k _ [(.ref a,.tup ds)] H1 (R1.sta.keepV fun p hp=>by rw[Aj.mp hp];exact R1.rep) R1.frm R1.pur CN⟩;have r:=R1.rep;cases r with
  |tup q _=>exact⟨_,q⟩
 |_=>cases q
def VL(lo:Int)(n:Nat):List dH:=(Cs n).map fun k:Nat=> .int (lo+k)
noncomputable def iR1(f:VF):VI:=fun δ=>(f δ).bind fun p=>match p.1 with
 | .int j=>if -4611686018427387904<=j/\j<4611686018427387904 then some (VL 0 j.toNat,p.2) else none
 |_=>none
theorem BB{lo:Int}{n i:Nat}{d:dH}(h:(VL lo n)[i]? =some d):i<n/\d= .int (lo+i):=by
 unfold VL at h;rw[Dm] at h;obtain⟨k,h1,h⟩:=Ao.mp h;cases h;have:=Ak.mp h1
 obtain⟨hl,e⟩:=this;rw[List.length_range] at hl;rw[List.getElem_range] at e;subst e;exact⟨hl,rfl⟩
theorem CM{lo:Int}{n:Nat}:Walk K (Itr lo n) [] (VL lo n):=by
 intro N H _;refine⟨fun i d e=> ?_,by simp[Itr,VL]⟩;obtain⟨hl,rfl⟩:=BB e;refine⟨hl,fun x H' hy=> ?_⟩;obtain⟨rfl,rfl⟩:=hy;exact⟨aG.refl _,.int _⟩
theorem WR{tg:Expr}{p':Pos}(hg:Gl X "range") (hm:X.mg "range"=none) (h:PE X a (TV K ml pa ta ia fa)) (hs:Ae [a] X.env=[(false,eval a X.env)]:=by rfl) (hs1:Ae (a::[]) X.env=(false,eval a X.env)::Ae [] X.env:=by rfl):
  PI X tg (.Call (.Name "range" p') [a] [] pos) (TIV K ml pa (iR1 fa)):=(EE hg hm (a9 h Y7 hs1) hs).imp fun σ H R hq0=>by
 obtain⟨B,O,δ,ds,δ',S,q,k⟩:=hq0;unfold iR1 at q;obtain⟨⟨x,δ1⟩,h1,q⟩:=Aa.mp q;cases x with
 |int j=>
  have q:(if -4611686018427387904<=j/\j<4611686018427387904 then some (VL 0 j.toNat,δ1) else none)=some (ds,δ'):=q;split at q
  ·rename_i hj
   cases q;have p62:(2:Int) ^ 62=4611686018427387904:=by decide
   refine⟨B,O,δ,_,_,S,h1,fun v H1 R1=>⟨j,?_,by rw[p62];exact hj.1,by rw[p62];exact hj.2,k _ [] H1 (R1.sta.keepV fun _ z=>nomatch z) R1.frm R1.pur CM⟩⟩;have r:=R1.rep;cases r;rfl
  ·cases q
 |_=>cases q
noncomputable def ZJ(gg:VG)(s:VS):List dH->VS
 |[]=>fun δ=>some (.nx δ)
 |d::r=>fun δ=>(gg d δ).bind fun δ1=>(s δ1).bind (UM (ZJ gg s r))
noncomputable def RW(fi:VI)(gg:VG)(s:VS):VS:=fun δ=>(fi δ).bind fun p=>ZJ gg s p.1 p.2
theorem XN{tg iter:Expr}{body:List Stmt}{fi:VI}{gg:VG}(hp:PassesOwn (model X.prog X.w) X.A X.env X.xe)(hc:X.calm=true)(hi:PI X tg iter (TIV K ml pu fi))(hg:PG X tg (TGV K ml gg))(hb:QJ X body (SD K ml g))
  (hs: ∀x,foldedSetIterable iter X.env x=pure x:=by intro _;rfl):PS X (.For tg iter body [] pos) (SD K ml (RW fi gg g)):=(zFC hp hc hi hg hb hs).imp fun D σ H hq0=>by
 obtain⟨B,O,δ,o,S,q,k⟩:=hq0;unfold RW at q;obtain⟨⟨ds,δ1⟩,h1,q⟩:=Aa.mp q;have q:ZJ gg g ds δ1=some o:=q;refine⟨B,O,δ,ds,δ1,S,h1,fun J kps H1 S1 _ _ wk=> ?_⟩;refine⟨fun i m σ H=>m=ds.length - i/\i<=ds.length/\ ∃O δ,aR K ml {B with kp:=kps++B.kp} O H σ δ/\ZJ gg g (ds.drop i) δ=some o,⟨ds.length,rfl,Dx _,O,δ1,S1,q⟩,?_⟩;rintro i m σ H ⟨rfl,hi,O,δ,S,hf⟩;have w:=wk (Nn B O) H fun p hp=>S.kep p (Bv _ hp);by_cases hlt:i<ds.length
 ·obtain ⟨go,yl⟩ := w.1 i ds[i] (by simp [hlt])
  rw[Fp hlt] at hf;refine .inr ⟨go,fun σ' H'=> ∃O δ,aR K ml {B with kp:=kps++B.kp} O H' σ' δ/\ZJ gg g (ds.drop (i+1)) δ=some o,fun σ' H' w'=>⟨ds.length - (i+1),by lia,rfl,hlt,w'⟩,fun x H' hy=> ?_⟩;obtain⟨sm,rx⟩:=yl x H' hy;have hf:((gg ds[i] δ).bind fun δ1=>(g δ1).bind (UM (ZJ gg g (ds.drop (i+1)))))=some o:=hf;obtain⟨δ2,h2,hf⟩:=Aa.mp hf;have hf:(g δ2).bind (UM (ZJ gg g (ds.drop (i+1))))=some o:=hf;refine⟨_,O,δ,ds[i],δ2,S.same sm,rx,h2,fun σ2 O2 S2 _=> ?_⟩;obtain⟨z,h3,hf⟩:=Aa.mp hf;refine⟨_,O2,δ2,z,S2,h3,?_⟩;cases z with
  |nx δ3=>exact fun σ' H' O' S'=>⟨O',δ3,S',hf⟩
  |ct δ3=>exact fun σ' H' O' S'=>⟨O',δ3,S',hf⟩
  |bk δ3=>cases hf;exact fun σ' H' O' S'=>k σ' H' O' S'.unkeep
  |rt d δ3=>cases hf;exact fun v σ' H' O' S' r=>k v σ' H' O' S'.unkeep r
 ·have e : i = ds.length := by lia
  subst e;rw[Je] at hf;cases hf;exact .inl ⟨w.2,k σ H O S.unkeep⟩
end
section
variable{X:Cx}{K:Ai}{ml:List Nat}{e a b c:Expr}{es:List Expr}{pa ta ia pb tb ib pc tc ic pu bt bi ps bs:Bool}{fa fb fc f:VF}{B B':Bs}{O:Nat->Option Addr}{H H1 H':Hp}{σ:St}{δ δ':Ev}{v:V}{d:dH}{p:Addr}{pos:Pos}{st:Stmt}{rest:List Stmt}{g g':VS}
theorem aR.call{P:Addr->Prop}(S:aR K ml B O H σ δ)(hl:δ'.length=δ.length)(h: ∀i:Nat,(δ'[i]? =δ[i]? /\ ∀a,O i=some a-> ¬P a)∨ ∃a d',O i=some a/\δ'[i]? =some (Sl.ow d')/\SA K (Nn B O) H' a d')
  (f:Fr P H H') (hP: ∀a,P a->OA O a):aR K ml B O H' σ δ' where
 len:=by rw[hl,S.len]
 va:=fun i d e=>by
  rcases h i with⟨e1,_⟩|⟨a,d',_,e1,_⟩
  ·rw[e1] at e
   obtain⟨v,e2,r⟩:=S.va i d e;exact⟨v,e2,r.fr f (fun a z=> .inr (hP a z)) fun a z=> .inr (hP a z)⟩
  ·rw[e1] at e
   cases e
 ow:=fun i d e=>by
  rcases h i with⟨e1,n⟩|⟨a,d',e2,e1,w⟩
  ·rw[e1] at e
   obtain⟨a,e2,e3,w⟩:=S.ow i d e;exact⟨a,e2,e3,w.fr f (fun a z=> .inr (hP a z)) (n a e2)⟩
  ·rw[e1] at e
   cases e;obtain⟨d0,q0⟩:=S.dom i a e2;obtain⟨a',e3,e4,_⟩:=S.ow i d0 q0;rw[e2] at e3;cases e3;exact⟨a,e2,e4,w⟩
 dom:=fun i a e=>by
  rcases h i with⟨e1,n⟩|⟨a,d',e2,e1,w⟩
  ·obtain⟨d0,q0⟩:=S.dom i a e
   exact⟨d0,e1.trans q0⟩
  ·exact⟨d',e1⟩
 inj:=S.inj
 old:=S.old
 zin:=fun a h'=>by
  obtain⟨o,q⟩:=S.zin a h';exact⟨o,f a o q fun z=>by
   obtain⟨i,e⟩:=hP a z;exact absurd h' (S.old i a e).1⟩
 frm:=by
  refine⟨fun b o q n=> ?_,fun _ _ _ _ _ _ _ _ _ h=> ?_⟩
  ·have h1:=S.frm b o q n
   refine f b o h1 fun z=> ?_;obtain⟨i,e⟩:=hP b z;rcases(S.old i b e).2 with w|w
   ·exact n w
   ·rw[q] at w;cases w
  ·obtain⟨_,_,e⟩:=S.frm.ft _ _ _ _ _ _ _ _ _ h
   exact f.ft _ _ _ _ _ _ _ _ _ e
 par:=S.par
 pin:=fun a h'=>by
  obtain⟨o,q⟩:=S.pin a h';by_cases z:P a
  ·obtain⟨i,e⟩:=hP a z
   rcases h i with⟨_,n⟩|⟨a',d',e2,e1,w⟩
   ·exact absurd z (n a e)
   ·rw[e] at e2
    cases e2;obtain⟨o,q,_⟩:=w.soft;exact⟨o,q⟩
  ·exact⟨o,f a o q fun y=>absurd y z⟩
 kep:=fun p hp=>(S.kep p hp).fr f (fun a z=> .inr (hP a z)) fun a z=> .inr (hP a z)
abbrev cO:=List dH->Option (dH×List dH)
def VD(ml:List Nat)(vs:List V):Addr->Prop:=fun a=> ∃i∈ml,vs[i]? =some (.ref a)
def Zp(Z:Addr->Prop)(ml:List Nat)(vs:List V):Addr->Prop:=fun a=>Z a∨VD ml vs a
structure zE4(K:Ai)(ml:List Nat)(Z:Addr->Prop)(H:Hp)(vs:List V)(ds:List dH):Prop where
 len:vs.length=ds.length
 mem: ∀i∈ml,i<ds.length
 va: ∀(i:Nat) (d:dH),i∉ml->ds[i]? =some d-> ∃v,vs[i]? =some v/\bQ K (Zp Z ml vs) H (Zp Z ml vs) v d
 ow: ∀(i:Nat) (d:dH),i∈ml->ds[i]? =some d-> ∃a,vs[i]? =some (.ref a)/\SA K (Zp Z ml vs) H a d/\¬Z a
 inj: ∀(i j:Nat) (a:Addr),i∈ml->j∈ml->vs[i]? =some (.ref a)->vs[j]? =some (.ref a)->i=j
 zin: ∀a,Z a-> ∃o,H a=some o
def spV(K:Ai)(ml:List Nat)(n:Nat)(F:cO):Sp:=fun vs H Q _=> ∃(Z:Addr->Prop) (ds:List dH) (r:dH) (os:List dH),ds.length=n/\zE4 K ml Z H vs ds/\F ds=some (r,os)∧
 ∀v H',Fr (VD ml vs) H H'->(∀(k i:Nat) (a:Addr) (o:dH),ml[k]? =some i->vs[i]? =some (.ref a)->os[k]? =some o->SA K (Zp Z ml vs) H' a o)->bQ K (Zp Z ml vs) H' (Zp Z ml vs) v r->Q v H'
noncomputable def cR(ml:List Nat)(n:Nat)(ds:List dH):Ev:=ds.mapIdx (fun i d=>if i∈ml then Sl.ow d else Sl.va d)++Bh (n - ds.length) Sl.no
noncomputable def U2(ml:List Nat)(δ:Ev):Option (List dH):=ml.mapM fun(i:Nat)=>match(δ[i]? :Option Sl) with
 |some (Sl.ow d)=>some d
 |_=>none
noncomputable def bU(n:Nat)(ml:List Nat)(g:VS):cO:=fun ds=>(g (cR ml n ds)).bind fun o=>match o with
 | .rt d δ=>(U2 ml δ).map fun os=>(d,os)
 | .nx δ=>(U2 ml δ).map fun os=>(.non,os)
 |_=>none
theorem J3: ∀{ml:List Nat} {δ:Ev} {os:List dH},U2 ml δ=some os-> ∀(k i:Nat) (o:dH),ml[k]? =some i->os[k]? =some o->δ[i]? =some (.ow o)
 |[],_,_,h,k,i,o,e1,e2=>by simp at e1
 | j :: ml,δ,os,h,k,i,o,e1,e2 => by
  unfold U2 at h;rw[Ng] at h;split at h
  ·rename_i d hd
   cases h2:(ml.mapM fun(i:Nat)=>match(δ[i]? :Option Sl) with
    |some (Sl.ow d)=>some d
    |_=>none:Option (List dH)) with
   |none=>rw[h2] at h;cases h
   |some os2=>
    rw[h2] at h;cases h;cases k with
    |zero=>
     cases e1;cases e2;exact hd
    |succ k=>exact J3 (ml:=ml) h2 k i o (by simpa using e1) (by simpa using e2)
  ·cases h
theorem EM{N:List Str}{Z:Addr->Prop}{vs:List V}{ds:List dH}(A:zE4 K ml Z H vs ds)(hn:ds.length<=N.length):
  ∃mu:Nat->Option Addr,(∀i a,mu i=some a↔i∈ml/\vs[i]? =some (.ref a))/\aR K ml ⟨Z,VD ml vs,H,mu,[]⟩ mu H (start N vs) (cR ml N.length ds):=by
 classical
 let mu:Nat->Option Addr:=fun i=>if i∈ml then(match vs[i]? with
  |some (.ref a)=>some a
  |_=>none) else none
 have hmu: ∀i a,mu i=some a↔i∈ml/\vs[i]? =some (.ref a):=fun i a=>by
  show(if i∈ml then(match vs[i]? with
   |some (.ref a)=>some a
   |_=>none) else none)=some a↔_
  by_cases hi:i∈ml
  ·rw[if_pos hi]
   constructor
   ·intro h
    split at h
    ·rename_i b hb
     cases h;exact⟨hi,hb⟩
    ·cases h
   ·rintro ⟨_,h⟩
    rw[h]
  ·rw[if_neg hi]
   exact⟨(fun h=>nomatch h),fun h=>absurd h.1 hi⟩
 have hN: ∀a,Nn ⟨Z,VD ml vs,H,mu,[]⟩ mu a->Zp Z ml vs a:=fun a h=>by
  rcases h with h|⟨i,h⟩
  ·exact .inl h
  ·exact .inr ⟨i,(hmu i a).mp h⟩
 have eg: ∀(i:Nat) (s:Sl),(cR ml N.length ds)[i]? =some s->(∃d,ds[i]? =some d/\s=if i∈ml then .ow d else .va d)∨s= .no:=fun i s h=>by
  unfold cR at h;by_cases hi:i<ds.length
  ·rw [Ah (by simpa using hi),Ke] at h
   cases q:ds[i]? with
   |none=>rw[q] at h;cases h
   |some d=>rw[q] at h;cases h;exact .inl ⟨d,rfl,rfl⟩
  ·rw [An (by simpa using hi),Dd] at h
   split at h
   ·cases h;exact .inr rfl
   ·cases h
 have hst: ∀(i:Nat) (v:V),vs[i]? =some v->(start N vs)[i]? =some (some v):=fun i v h=>by
  unfold start;have hi:i<vs.length:=(Ak.mp h).1;rw[Ah (by simpa using hi),Dm,h];rfl
 refine⟨mu,hmu,?_,fun i d q=> ?_,fun i d q=> ?_,fun i a q=> ?_,fun i j a q1 q2=> ?_,fun i a q=> ?_,A.zin,Fr.refl _ _,⟨fun i a q=>((hmu i a).mp q).1,fun i _=>rfl⟩,fun a q=> ?_,fun p hp=>nomatch hp⟩
 ·unfold start cR
  have:=A.len
  simp;lia
 ·rcases eg i _ q with⟨e,h1,h2⟩|h
  ·by_cases hi:i∈ml
   ·rw[if_pos hi] at h2;cases h2
   ·rw[if_neg hi] at h2
    cases h2;obtain⟨v,e1,r⟩:=A.va i d hi h1;exact⟨v,hst i v e1,r.mono hN hN⟩
  ·cases h
 ·rcases eg i _ q with⟨e,h1,h2⟩|h
  ·by_cases hi:i∈ml
   ·rw[if_pos hi] at h2
    cases h2;obtain⟨a,e1,w,_⟩:=A.ow i d hi h1;exact⟨a,(hmu i a).mpr ⟨hi,e1⟩,hst i _ e1,w.mono hN⟩
   ·rw[if_neg hi] at h2;cases h2
  ·cases h
 ·obtain⟨hi,e1⟩:=(hmu i a).mp q
  have hl:=A.mem i hi;refine⟨ds[i],?_⟩;unfold cR;rw[Ah (by simpa using hl),Ke];simp[hl,hi]
 ·exact A.inj i j a ((hmu i a).mp q1).1 ((hmu j a).mp q2).1 ((hmu i a).mp q1).2 ((hmu j a).mp q2).2
 ·obtain⟨hi,e1⟩:=(hmu i a).mp q
  refine⟨fun z=> ?_,.inl ⟨i,hi,e1⟩⟩;obtain⟨a',e2,_,n⟩:=A.ow i (ds[i]'(A.mem i hi)) hi (by simp[A.mem i hi]);rw[e1] at e2;cases e2;exact n z
 ·obtain⟨i,hi,e1⟩:=q
  obtain⟨a',e2,w,n⟩:=A.ow i (ds[i]'(A.mem i hi)) hi (by simp[A.mem i hi]);rw[e1] at e2;cases e2;obtain⟨o,q,_⟩:=w.soft;exact⟨o,q⟩
theorem zE1{N ps:List Str}{vs:List V}{Q:VK}{E:XK}(hps:ps.length<=N.length)(h:spV K ml ps.length (bU N.length ml g) vs H Q E):SD K ml g {nx:=fun _ H'=>Q .non H',rt:=Q} (start N vs) H:=by
 obtain⟨Z,ds,r,os,hn,AV,hF,k⟩:=h;obtain⟨mu,hmu,S0⟩:=EM (N:=N) AV (by rw[hn];exact hps);unfold bU at hF;obtain⟨o,h1,hF⟩:=Aa.mp hF;refine⟨_,mu,_,o,S0,h1,?_⟩;have fin: ∀(δ':Ev) (v:V) (σ':St) (H':Hp) (O':Nat->Option Addr),U2 ml δ'=some os->aR K ml ⟨Z,VD ml vs,H,mu,[]⟩ O' H' σ' δ'->bQ K (rz ⟨Z,VD ml vs,H,mu,[]⟩) H' (rz ⟨Z,VD ml vs,H,mu,[]⟩) v r->Q v H':=fun δ' v σ' H' O' ho S' hr'=>by
  have hz: ∀a,Zp Z ml vs a->rz ⟨Z,VD ml vs,H,mu,[]⟩ a:=fun a h=>by
   rcases h with h|⟨i,hi,e⟩
   ·exact .inl h
   ·exact .inr ⟨i,(hmu i a).mpr ⟨hi,e⟩⟩
  refine k v H' S'.frm (fun kk i a o e1 e2 e3=> ?_) (hr'.mono hz hz);have hd:=J3 ho kk i o e1 e3;obtain⟨a',e4,_,w⟩:=S'.ow i o hd;have hi:i∈ml:=Bz e1;have:=(S'.par.2 i hi).trans ((hmu i a).mpr ⟨hi,e2⟩)
  rw[this] at e4;cases e4;refine w.mono fun b hb=> ?_;rcases hb with hb|⟨j,hj,e5⟩
  ·exact .inl hb
  ·exact .inr ⟨j,(S'.par.2 j hj).trans ((hmu j b).mpr ⟨hj,e5⟩)⟩
 cases o with
 |rt d δ'=>
  have hF:(U2 ml δ').map (fun os=>(d,os))=some (r,os):=hF;cases h2:U2 ml δ' with
  |none=>rw[h2] at hF;cases hF
  |some os'=>
   rw[h2] at hF;cases hF;exact fun v σ' H' O' S' hr'=>fin δ' v σ' H' O' h2 S' hr'
 |nx δ'=>
  have hF:(U2 ml δ').map (fun os=>(dH.non,os))=some (r,os):=hF;cases h2:U2 ml δ' with
  |none=>rw[h2] at hF;cases hF
  |some os'=>
   rw[h2] at hF;cases hF;exact fun σ' H' O' S'=>fin δ' .non σ' H' O' h2 S' .non
 |bk δ'=>cases hF
 |ct δ'=>cases hF
theorem Y3.okV{P:Ax}{w:World}{mg:Str->Option Value}{base:Heap}{x qual:Str}{st:Stmt}{f:Addr}{fd:Cy}{N ps:List Str}{k:Nat}(F:Y3 K x qual st f fd)(S:cV N ps (c9 st))(hps:ps.length<=N.length)
  (aq: ∀(cdv:Value) (A:Cm) (outer:List Env) (s:Ag) (H:Hp) (E:XK),Z6 k (A.deeper (Hw qual (c9 st) s.heap.objs.size f cdv))→
   QJ (NM CX0 P w K mg base N qual (c9 st) f cdv A outer s H E).nox (bE st) (SD K ml g)):bX P w K mg base CX0 (k+1) f fd ps (spV K ml ps.length (bU N.length ml g)):=by
 refine F.ok S (fun vs H Q E h=> ?_) (fun cdv A outer s H vs Q E hr h=>⟨_,aq cdv A outer s H E hr,zE1 hps h⟩);obtain⟨Z,ds,r,os,hn,AV,_⟩:=h;rw[AV.len,hn]
inductive AV where
 |d (d:dH)|o (j:Nat)
inductive VA(K:Ai)(N:Addr->Prop)(H:Hp)(σ:St):List V->List AV->Prop
 |nil:VA K N H σ [] []
 |d {v:V} {vs:List V} {d:dH} {as:List AV}:bQ K N H N v d->VA K N H σ vs as->VA K N H σ (v::vs) (.d d::as)
 |o {v:V} {vs:List V} {j:Nat} {as:List AV}:σ[j]? =some (some v)->VA K N H σ vs as->VA K N H σ (v::vs) (.o j::as)
abbrev SE:=Ev->Option (List AV×Ev)
structure ResG(K:Ai)(ml:List Nat)(B:Bs)(O:Nat->Option Addr)(H:Hp)(σ:St)(pu:Bool)(H':Hp)(δ':Ev)(vs:List V)(as:List AV):Prop where
 sta:aR K ml B O H' σ δ'
 frm:Fr (OA O) H H'
 pur:pu=true->aG H H'
 rep:VA K (Nn B O) H' σ vs as
def GJ(K:Ai)(ml:List Nat)(pu:Bool)(f:SE):TA:=fun σ H Q=> ∃B O δ as δ',aR K ml B O H σ δ/\f δ=some (as,δ')/\ ∀vs H',ResG K ml B O H σ pu H' δ' vs as->Q vs H'
def cF:SE:=fun δ=>some ([],δ)
noncomputable def aE(f:VF)(fs:SE):SE:=fun δ=>(f δ).bind fun p=>(fs p.2).map fun q=>(.d p.1::q.1,q.2)
noncomputable def slot(δ:Ev)(j:Nat):Option dH:=match δ[j]? with
 |some (.va d)=>some d
 |some (.ow d)=>some d
 |_=>none
noncomputable def aO(j:Nat)(fs:SE):SE:=fun δ=>(slot δ j).bind fun _=>(fs δ).map fun q=>(.o j::q.1,q.2)
theorem c6:PA X [] (GJ K ml true cF):=Y7.imp fun σ H Q hq0=>by
 obtain⟨B,O,δ,d,δ',S,q,k⟩:=hq0;cases q;exact k [] H ⟨S,Fr.refl _ _,fun _=>aG.refl _,.nil⟩
theorem c8{fs:SE}(ha:PE X a (TV K ml pa true true fa))(hr:PA X es (GJ K ml ps fs))(hs:Ae (a::es) X.env=(false,eval a X.env)::Ae es X.env:=by rfl):PA X (a::es) (GJ K ml (pa && ps) (aE fa fs)):=(a9 ha hr hs).imp fun σ H Q hq0=>by
 obtain⟨B,O,δ,as,δ2,S,q,k⟩:=hq0;unfold aE at q;obtain⟨⟨x,δ1⟩,h1,q⟩:=Aa.mp q;have q:((fs δ1).map fun q=>(AV.d x::q.1,q.2))=some (as,δ2):=q;obtain⟨p2,h2,q⟩:=Ao.mp q;cases q;refine⟨B,O,δ,x,δ1,S,h1,fun v1 H1 R1=>⟨B,O,δ1,_,_,R1.sta,h2,fun vs H2 R2=>k _ H2 ⟨R2.sta,R1.frm.trans R2.frm,fun z=> ?_,.d (R1.rep.fr R2.frm (fun a z=> .inr z) fun a z=> .inr z) R2.rep⟩⟩⟩;obtain⟨z1,z2⟩:=(Af _ _).mp z;exact(R1.pur z1).trans (R2.pur z2)
theorem NA{j:Nat}{d:dH}(h:slot δ j=some d):δ[j]? =some (.va d)∨δ[j]? =some (.ow d):=by
 unfold slot at h;split at h
 ·cases h;exact .inl (by assumption)
 ·cases h;exact .inr (by assumption)
 ·cases h
theorem aR.slot(S:aR K ml B O H σ δ){j:Nat}{d:dH}(h:slot δ j=some d): ∃v,σ[j]? =some (some v):=by
 rcases NA h with h|h
 ·obtain⟨v,e,_⟩:=S.va j d h
  exact⟨v,e⟩
 ·obtain⟨a,_,e,_⟩:=S.ow j d h
  exact⟨_,e⟩
theorem ZY{fs:SE}{j:Nat}(ha:PE X a (YT j))(hr:PA X es (GJ K ml ps fs))(hs:Ae (a::es) X.env=(false,eval a X.env)::Ae es X.env:=by rfl):PA X (a::es) (GJ K ml ps (aO j fs)):=(a9 ha hr hs).imp fun σ H Q hq0=>by
 obtain⟨B,O,δ,as,δ2,S,q,k⟩:=hq0;unfold aO at q;obtain⟨d,h1,q⟩:=Aa.mp q;have q:((fs δ).map fun q=>(AV.o j::q.1,q.2))=some (as,δ2):=q;obtain⟨p2,h2,q⟩:=Ao.mp q;cases q;obtain⟨v,e⟩:=S.slot h1;exact⟨v,e,B,O,δ,_,_,S,h2,fun vs H2 R2=>k _ H2 ⟨R2.sta,R2.frm,R2.pur,.o e R2.rep⟩⟩
theorem VA.length: ∀{N:Addr->Prop} {vs:List V} {as:List AV},VA K N H σ vs as->vs.length=as.length
 |_,_,_,.nil=>rfl
 |_,_,_,.d _ t=>congrArg (· +1) (VA.length t)
 |_,_,_,.o _ t=>congrArg (· +1) (VA.length t)
theorem VA.getD: ∀{N:Addr->Prop} {vs:List V} {as:List AV} {i:Nat} {d:dH},VA K N H σ vs as->as[i]? =some (.d d)-> ∃v,vs[i]? =some v/\bQ K N H N v d
 |_,_,_,_,_,.nil,e=>by simp at e
 |_,_,_,0,_,.d h _,e=>by simp at e;subst e;exact⟨_,rfl,h⟩
 |_,_,_,0,_,.o h _,e=>by simp at e
 |_,_,_,i+1,_,.d _ t,e=>by
  obtain⟨u,h1,h2⟩:=VA.getD (i:=i) t (by simpa using e);exact⟨u,by simpa using h1,h2⟩
 |_,_,_,i+1,_,.o _ t,e=>by
  obtain⟨u,h1,h2⟩:=VA.getD (i:=i) t (by simpa using e);exact⟨u,by simpa using h1,h2⟩
theorem VA.getO: ∀{N:Addr->Prop} {vs:List V} {as:List AV} {i j:Nat},VA K N H σ vs as->as[i]? =some (.o j)-> ∃v,vs[i]? =some v/\σ[j]? =some (some v)
 |_,_,_,_,_,.nil,e=>by simp at e
 |_,_,_,0,_,.d h _,e=>by simp at e
 |_,_,_,0,_,.o h _,e=>by simp at e;subst e;exact⟨_,rfl,h⟩
 |_,_,_,i+1,_,.d _ t,e=>by
  obtain⟨u,h1,h2⟩:=VA.getO (i:=i) t (by simpa using e);exact⟨u,by simpa using h1,h2⟩
 |_,_,_,i+1,_,.o _ t,e=>by
  obtain⟨u,h1,h2⟩:=VA.getO (i:=i) t (by simpa using e);exact⟨u,by simpa using h1,h2⟩
noncomputable def argD(δ:Ev):AV->Option dH
 | .d d=>some d
 | .o j=>slot δ j
noncomputable def W4(δ:Ev):List AV->Option (List dH)
 |[]=>some []
 |a::as=>(argD δ a).bind fun d=>(W4 δ as).map fun ds=>d::ds
theorem MH: ∀{as:List AV} {ds:List dH},W4 δ as=some ds->as.length=ds.length/\ ∀(i:Nat) (d:dH),ds[i]? =some d-> ∃a,as[i]? =some a/\argD δ a=some d
 |[],ds,h=>by cases h;exact⟨rfl,fun i d e=>by simp at e⟩
 | a :: as,ds,h => by
  unfold W4 at h;obtain⟨d,h1,h⟩:=Aa.mp h;cases h2:W4 δ as with
  |none=>simp[h2] at h
  |some ds'=>
   simp only[Aq,h2] at h;cases h;obtain⟨l,g⟩:=MH h2;refine⟨by simp[l],fun i e he=> ?_⟩;cases i with
   |zero=>cases he;exact⟨a,rfl,h1⟩
   |succ i=>
    obtain⟨b,e1,e2⟩:=g i e (by simpa using he);exact⟨b,by simpa using e1,e2⟩
noncomputable def VH:List AV->List Nat
 |[]=>[]
 | .d _::as=>VH as
 | .o j::as=>j::VH as
theorem QV: ∀{as:List AV} {i j:Nat},as[i]? =some (.o j)->j∈VH as
 |[],_,_,e=>by simp at e
 | .d _::as,0,j,e=>by simp at e
 | .o k::as,0,j,e=>by simp at e;subst e;exact Bg
 | .d _::as,i+1,j,e=>QV (as:=as) (i:=i) (by simpa using e)
 | .o k::as,i+1,j,e=>Aw _ (QV (as:=as) (i:=i) (by simpa using e))
theorem FL: ∀{as:List AV} {j:Nat},j∈VH as-> ∃i:Nat,as[i]? =some (AV.o j)
 |[],_,h=>nomatch h
 | .d _::as,j,h=>by
  obtain⟨i,e⟩:=FL (as:=as) h;exact⟨i+1,by simpa using e⟩
 | .o k :: as,j,h => by
  rcases Ap.mp h with e|e
  ·exact⟨0,by rw[e];rfl⟩
  ·obtain⟨i,e⟩:=FL (as:=as) e
   exact⟨i+1,by simpa using e⟩
theorem LL: ∀{as:List AV} {i k j:Nat},(VH as).Nodup->as[i]? =some (.o j)->as[k]? =some (.o j)->i=k
 |[],_,_,_,_,e,_=>by simp at e
 | .d _::as,0,_,j,_,e,_=>by simp at e
 | .d _::as,_+1,0,j,_,_,e=>by simp at e
 | .d _::as,i+1,k+1,j,n,e1,e2=>congrArg (· +1) (LL (as:=as) n (by simpa using e1) (by simpa using e2))
 | .o x::as,0,0,j,_,_,_=>rfl
 | .o x::as,0,k+1,j,n,e1,e2=>by
  simp at e1;subst e1;have h:as[k]? =some (.o x):=by simpa using e2
  exact absurd (QV h) (Ed.mp n).1
 | .o x::as,i+1,0,j,n,e1,e2=>by
  simp at e2;subst e2;have h:as[i]? =some (.o x):=by simpa using e1
  exact absurd (QV h) (Ed.mp n).1
 | .o x::as,i+1,k+1,j,n,e1,e2=>congrArg (· +1) (LL (as:=as) (Ed.mp n).2 (by simpa using e1) (by simpa using e2))
noncomputable def FM(δ:Ev)(as:List AV)(i:Nat):Bool:=match as[i]? with
 |some (.o j)=>match δ[j]? with
  |some (.ow _)=>true
  |_=>false
 |_=>false
noncomputable def XD(mF:List Nat):List AV->Nat->Bool
 |[],_=>true
 | .d _::as,i=>XD mF as (i+1)
 | .o _::as,i=>decide (i∈mF) && XD mF as (i+1)
theorem T4{mF:List Nat}: ∀{as:List AV} {k i j:Nat},XD mF as k=true->as[i]? =some (.o j)->k+i∈mF
 |[],_,_,_,_,e=>by simp at e
 | .d _::as,k,0,j,h,e=>by simp at e
 | .o _::as,k,0,j,h,e=>by
  simp only[XD,Af,decide_eq_true_eq] at h;exact h.1
 | .d _::as,k,i+1,j,h,e=>by
  have:=T4 (as:=as) (k:=k+1) (i:=i) (j:=j) h (by simpa using e)
  rwa[show k+(i+1)=k+1+i by lia]
 | .o _::as,k,i+1,j,h,e=>by
  simp only[XD,Af] at h;have:=T4 (as:=as) (k:=k+1) (i:=i) (j:=j) h.2 (by simpa using e)
  rwa[show k+(i+1)=k+1+i by lia]
noncomputable def RO:dH->Bool
 | .lst ds=>RN ds
 | .dct _ ds=>RN ds
 | .flt _ _ _ _ ds=>RN ds
 |_=>false
theorem SA.kids{N N':Addr->Prop}{a:Addr}(w:SA K N H a d)(h:RO d=true):SA K N' H a d:=by
 cases w with
 |lst q r=>exact .lst q (r.hard h)
 |dct q r=>exact .dct q (r.hard h)
 |flt q r=>exact .flt q (r.hard h)
noncomputable def WO(as:List AV):List Nat->List dH->Ev->Ev
 |i::is,o::os,δ=>match as[i]? with
  |some (.o j)=>WO as is os (δ.set j (.ow o))
  |_=>WO as is os δ
 |_,_,δ=>δ
theorem RU{as:List AV}: ∀{is:List Nat} {os:List dH} {δ:Ev},(WO as is os δ).length=δ.length
 |[],_,_=>rfl
 |_::_,[],_=>rfl
 |i::is,o::os,δ=>by
  unfold WO;split
  ·rw[RU,Df]
  ·rw[RU]
theorem OR{as:List AV}: ∀{is:List Nat} {os:List dH} {δ:Ev} (j:Nat),is.length=os.length->j<δ.length→
  (∃(k i:Nat) (o:dH),is[k]? =some i/\os[k]? =some o/\as[i]? =some (AV.o j)/\(WO as is os δ)[j]? =some (Sl.ow o))∨((∀i∈is,as[i]? ≠some (AV.o j))/\(WO as is os δ)[j]? =δ[j]?)
 |[],[],δ,j,_,_=> .inr ⟨(fun i h=>nomatch h),rfl⟩
 | i :: is,o :: os,δ,j,hl,hj => by
  unfold WO;split
  ·rename_i j0 e0
   rcases OR (is:=is) (os:=os) (δ:=δ.set j0 (.ow o)) j (by simpa using hl) (by rw[Df];exact hj) with⟨k,i',o',h1,h2,h3,h4⟩|⟨h1,h2⟩
   ·exact .inl ⟨k+1,i',o',by simpa using h1,by simpa using h2,h3,h4⟩
   ·by_cases hjj:j=j0
    ·subst hjj
     rw[Ce hj] at h2;exact .inl ⟨0,i,o,rfl,rfl,e0,h2⟩
    ·rw[Bp (Dj hjj)] at h2
     refine .inr ⟨fun i' hi'=> ?_,h2⟩;rcases Ap.mp hi' with z|z
     ·rw[z,e0]
      intro w;cases w;exact hjj rfl
     ·exact h1 i' z
  ·rename_i hn
   rcases OR (is:=is) (os:=os) (δ:=δ) j (by simpa using hl) hj with⟨k,i',o',h1,h2,h3,h4⟩|⟨h1,h2⟩
   ·exact .inl ⟨k+1,i',o',by simpa using h1,by simpa using h2,h3,h4⟩
   ·refine .inr ⟨fun i' hi' => ?_,h2⟩
    rcases Ap.mp hi' with z|z
    ·rw[z]
     exact fun w=>hn j w
    ·exact h1 i' z
noncomputable def VY(mF:List Nat)(as:List AV)(δ:Ev):Bool:=mF.all (FM δ as) && decide (VH as).Nodup
noncomputable def WX(mF:List Nat)(as:List AV)(r:dH)(os:List dH):Bool:=(XD mF as 0 || r.hard) && (XD mF as 0 || os.all RO) && decide (mF.length=os.length)
noncomputable def cS(n:Nat)(mF:List Nat)(F:cO)(fs:SE):VF:=fun δ=>(fs δ).bind fun p=>(W4 p.2 p.1).bind fun ds=>if ds.length=n/\VY mF p.1 p.2=true then(F ds).bind fun q=>if WX mF p.1 q.1 q.2=true then some (q.1,WO p.1 mF q.2 p.2) else none else none
theorem R6{n:Nat}{mF:List Nat}{F:cO}{fs:SE}{Q:VK}(h:TV K ml (ps && mF.isEmpty) true true (cS n mF F fs) σ H Q):BU (spV K mF n F) [] E0 (GJ K ml ps fs) σ H Q:=by
 obtain⟨B,O,δ,d,δ2,S,q,k⟩:=h;unfold cS at q;obtain⟨⟨as,δ1⟩,h1,q⟩:=Aa.mp q;have q:((W4 δ1 as).bind fun ds=>if ds.length=n/\VY mF as δ1=true then(F ds).bind fun q=>if WX mF as q.1 q.2=true then some (q.1,WO as mF q.2 δ1) else none else none)=some (d,δ2):=q;obtain⟨ds,h2,q⟩:=Aa.mp q;have q:(if ds.length=n/\VY mF as δ1=true then(F ds).bind fun q=>if WX mF as q.1 q.2=true then some (q.1,WO as mF q.2 δ1) else none else none)=some (d,δ2):=q;split at q
 ·rename_i hc
  obtain⟨⟨r,os⟩,h3,q⟩:=Aa.mp q;have q:(if WX mF as r os=true then some (r,WO as mF os δ1) else none)=some (d,δ2):=q;split at q
  ·rename_i hb
   cases q;obtain⟨hn,hc⟩:=hc;simp only[VY,Af,decide_eq_true_eq,Gu] at hc;simp only[WX,Af,decide_eq_true_eq] at hb;obtain⟨hmu,hnd⟩:=hc;obtain⟨⟨oo,p9⟩,ag⟩:=hb;refine⟨B,O,δ,as,δ1,S,h1,fun vs H1 R=> ?_⟩;show spV K mF n F (vs++[]) H1 Q E0;rw[Bm];obtain⟨hal,hag⟩:=MH h2;have hm: ∀i∈mF,∃j a x,as[i]? =some (.o j)/\δ1[j]? =some (.ow x)/\O j=some a/\vs[i]? =some (.ref a)/\SA K (Nn B O) H1 a x:=fun i hi=>by
    have:=hmu i hi
    unfold FM at this;split at this
    ·rename_i j ej
     split at this
     ·rename_i x ex
      obtain⟨a,e1,e2,w⟩:=R.sta.ow j x ex;obtain⟨v,e3,e4⟩:=R.rep.getO ej;rw[e2] at e4;cases e4;exact⟨j,a,x,ej,ex,e1,e3,w⟩
     ·cases this
    ·cases this
   have hP: ∀a,VD mF vs a-> ∃i j,i∈mF/\as[i]? =some (.o j)/\O j=some a:=fun a q0=>by
    obtain⟨i,hi,e⟩:=q0;obtain⟨j,a',x,e1,_,e2,e3,_⟩:=hm i hi;rw[e] at e3;cases e3;exact⟨i,j,hi,e1,e2⟩
   have hPO: ∀a,VD mF vs a->OA O a:=fun a h=>by
    obtain⟨i,j,_,_,e⟩:=hP a h;exact⟨j,e⟩
   have hZp: ∀a,Zp (fun a=>Nn B O a/\ ∀j∈VH as,O j≠some a) mF vs a->Nn B O a:=fun a h=>by
    rcases h with h|h
    ·exact h.1
    ·exact .inr (hPO a h)
   refine⟨fun a=>Nn B O a/\ ∀j∈VH as,O j≠some a,ds,_,os,hn,⟨by rw[<- hal,R.rep.length],fun i hi=> ?_,fun i x hi e=> ?_,fun i x hi e=> ?_,fun i j a hi hj e1 e2=> ?_,fun a h=>R.sta.nin h.1⟩,h3,fun v H2 f2 w2 r2=> ?_⟩
   ·obtain⟨j,a,x,e1,_⟩:=hm i hi
    rw[<- hal];exact(Ak.mp e1).1
   ·obtain⟨a,e1,e2⟩:=hag i x e
    cases a with
    |d y=>
     cases e2;obtain⟨v,e3,r⟩:=R.rep.getD e1;exact⟨v,e3,r.mono hZp hZp⟩
    |o j=>
     obtain⟨v,e3,e4⟩:=R.rep.getO e1;refine⟨v,e3,?_⟩;rcases NA e2 with e5|e5
     ·obtain⟨v',e6,r⟩:=R.sta.va j x e5
      rw[e4] at e6;cases e6;exact r.mono hZp hZp
     ·obtain⟨a,e7,e6,w⟩:=R.sta.ow j x e5
      rw[e4] at e6;cases e6;refine(w.mono hZp).rep fun z=> ?_;rcases z with z|z
      ·exact z.2 j (QV e1) e7
      ·obtain⟨i',j',hi',e8,e9⟩:=hP a z
       have:j=j':=R.sta.inj j j' a e7 e9
       subst this;have:=LL hnd e1 e8
       subst this;exact hi hi'
   ·obtain⟨a,e1,e2⟩:=hag i x e
    obtain⟨j,b,y,e3,e4,e5,e6,w⟩:=hm i hi;rw[e3] at e1;cases e1;have e7:slot δ1 j=some y:=by unfold slot;rw[e4]
    have e2:slot δ1 j=some x:=e2;rw[e7] at e2;cases e2;exact⟨b,e6,w.mono hZp,fun z=>z.2 j (QV e3) e5⟩
   ·obtain⟨j1,b1,_,e3,_,e4,e5,_⟩:=hm i hi
    obtain⟨j2,b2,_,e6,_,e7,e8,_⟩:=hm j hj;rw[e1] at e5;cases e5;rw[e2] at e8;cases e8;have:j1=j2:=R.sta.inj j1 j2 a e4 e7
    subst this;exact LL hnd e3 e6
   ·have S2:aR K ml B O H2 σ (WO as mF os δ1):=by
     refine R.sta.call RU (fun j=> ?_) f2 hPO;by_cases hj:j<δ1.length
     ·rcases OR (as:=as) (is:=mF) (os:=os) (δ:=δ1) j ag hj with⟨kk,i,o,e1,e2,e3,e4⟩|⟨e1,e2⟩
      ·obtain⟨j',a,x,e5,_,e6,e7,_⟩:=hm i (Bz e1)
       rw[e3] at e5;cases e5;have w:=w2 kk i a o e1 e7 e2;refine .inr ⟨a,o,e6,e4,?_⟩;rcases(Hm _ _).mp p9 with z|z
       ·refine w.mono fun b hb => ?_
        by_cases hjs: ∃j'∈VH as,O j'=some b
        ·obtain⟨j',hj',e8⟩:=hjs
         obtain⟨i',e9⟩:=FL hj';have hi':=T4 z e9;rw[Jj] at hi';obtain⟨j'',a'',_,e10,_,e11,e12,_⟩:=hm i' hi';rw[e9] at e10;cases e10;rw[e8] at e11;cases e11;exact .inr ⟨i',hi',e12⟩
        ·exact .inl ⟨hb,fun j' hj' e=>hjs ⟨j',hj',e⟩⟩
       ·exact w.kids (Gu.mp z o (Bz e2))
      ·refine .inl ⟨e2,fun a ea hPa => ?_⟩
       obtain⟨i,j',hi,e3,e4⟩:=hP a hPa;have:j=j':=R.sta.inj j j' a ea e4
       subst this;exact e1 i hi e3
     ·refine .inl ⟨?_,fun a ea => ?_⟩
      ·rw[Dc (by rw[RU];lia),Dc (by lia)]
      ·obtain⟨x,ex⟩:=R.sta.dom j a ea
       exact absurd (Ak.mp ex).1 hj
    refine k v H2 ⟨S2,R.frm.trans (f2.mono hPO),fun z=> ?_,?_⟩
    ·obtain⟨z1,z2⟩:=(Af _ _).mp z
     refine(R.pur z1).trans fun b o e=>f2 b o e fun w=> ?_;obtain⟨i,hi,_⟩:=w;rw[List.isEmpty_iff.mp z2] at hi;cases hi
    ·rcases(Hm _ _).mp oo with z|z
     ·have hN : ∀ a,Nn B O a -> Zp (fun a => Nn B O a /\ ∀ j ∈ VH as,O j ≠ some a) mF vs a := fun b hb => by
       by_cases hjs: ∃j'∈VH as,O j'=some b
       ·obtain⟨j',hj',e8⟩:=hjs
        obtain⟨i',e9⟩:=FL hj';have hi':=T4 z e9;rw[Jj] at hi';obtain⟨j'',a'',_,e10,_,e11,e12,_⟩:=hm i' hi';rw[e9] at e10;cases e10;rw[e8] at e11;cases e11;exact .inr ⟨i',hi',e12⟩
       ·exact .inl ⟨hb,fun j' hj' e=>hjs ⟨j',hj',e⟩⟩
      exact r2.mono hN hN
     ·exact r2.hard z
  ·cases q
 ·cases q
theorem zBE{x:Str}{kk j n:Nat}{qs:List Str}{mF:List Nat}{F:cO}{ff:Addr}{p':Pos}{fs:SE}(hK:X.K=K)(D:Def X.prog X.w K X.mg X.base x kk qs (spV K mF n F) ff)(hr:Z6 j X.A)(hk:kk<=j)(hg:Gl X x)(ha:PA X (e::es) (GJ K ml ps fs))(hdb:(x==("__debug__":Str))=false:=by decide)
  (he:Ae (e::es) X.env=(false,eval e X.env)::Ae es X.env:=by rfl) (hpl:(Dh pos (Ae es X.env)).any (·.1)=false:=by rfl):
  PE X (.Call (.Name x p') (e::es) [] pos) (TV K ml (ps && mF.isEmpty) true true (cS n mF F fs)):=by
 subst hK;exact(J6 D hr hk hg ha hdb he hpl).imp fun _ _ _ h=>R6 h
end
section
variable{X:Cx}{K:Ai}{ml:List Nat}{e a b c:Expr}{es:List Expr}{pi pt pe pu bt bi ps bs:Bool}{f:VF}{B B':Bs}{O:Nat->Option Addr}{H H0 H1 H':Hp}{σ:St}{δ δ':Ev}{v:V}{d:dH}{p:Addr}{pos:Pos}{ix:List Nat}{nl:Nat}
def a8(ix:List Nat)(δ:Ev):Ev:=ix.map fun i=>(δ[i]?).getD .no
def II(nl:Nat):Ev:=Bh nl Sl.no
noncomputable def ZN(n nl:Nat)(gg:VG)(tb:VB)(fe:VF):List dH->List dH->Ev->Option (List dH×Ev)
 |[],acc,δ=>some (acc,δ)
 |d::r,acc,δ=>(gg d (δ++II nl)).bind fun δ1=>(tb δ1).bind fun p=>if p.1=true then(fe p.2).bind fun q=>if acc.length<16777216 then ZN n nl gg tb fe r (acc++[q.1]) (q.2.take n) else none else ZN n nl gg tb fe r acc (p.2.take n)
noncomputable def Y9:List Nat->Ev->Ev->Ev
 |i::is,s::ss,δ=>match s with
  | .ow d=>Y9 is ss (δ.set i (.ow d))
  |_=>Y9 is ss δ
 |_,_,δ=>δ
noncomputable def YM(ix:List Nat)(nl:Nat)(fi:VI)(gg:VG)(tb:VB)(fe:VF):VF:=fun δ=>(fi δ).bind fun p=>(ZN ix.length nl gg tb fe p.1 [] (a8 ix p.2)).map fun q=>(.lst q.1,Y9 ix q.2 p.2)
def VQ:VB:=fun δ=>some (true,δ)
theorem QL: ∀{ix:List Nat} {ss δ:Ev},(Y9 ix ss δ).length=δ.length
 |[],_,_=>rfl
 |_::_,[],_=>rfl
 |i::is,s::ss,δ=>by
  cases s<;>simp only[Y9]<;>rw[QL]<;>try rw[Df]
theorem T5: ∀{ix:List Nat} {ss δ:Ev} (i:Nat),i<δ.length->ix.length=ss.length→
  (∃(j:Nat) (d:dH),ix[j]? =some i/\ss[j]? =some (Sl.ow d)/\(Y9 ix ss δ)[i]? =some (Sl.ow d))∨((∀(j:Nat) (d:dH),ix[j]? =some i->ss[j]? ≠some (Sl.ow d))/\(Y9 ix ss δ)[i]? =δ[i]?)
 |[],ss,δ,i,hi,hl=> .inr ⟨(fun j d h=>by simp at h),rfl⟩
 |k::is,[],δ,i,hi,hl=>by cases hl
 | k :: is,s :: ss,δ,i,hi,hl => by
  have hl2:is.length=ss.length:=by simpa using hl
  cases s with
  |ow d=>
   simp only[Y9];rcases T5 (ix:=is) (ss:=ss) (δ:=δ.set k (.ow d)) i (by rw[Df];exact hi) hl2 with⟨j,d',h1,h2,h3⟩|⟨h1,h2⟩
   ·exact .inl ⟨j+1,d',by simpa using h1,by simpa using h2,h3⟩
   ·by_cases hk:i=k
    ·subst hk
     rw[Ce hi] at h2;exact .inl ⟨0,d,rfl,rfl,h2⟩
    ·rw[Bp (Dj hk)] at h2
     refine .inr ⟨fun j d' e=> ?_,h2⟩;cases j with
     |zero=>cases e;exact absurd rfl hk
     |succ j=>simpa using h1 j d' (by simpa using e)
  |va d=>
   simp only[Y9];rcases T5 (ix:=is) (ss:=ss) (δ:=δ) i hi hl2 with⟨j,d',h1,h2,h3⟩|⟨h1,h2⟩
   ·exact .inl ⟨j+1,d',by simpa using h1,by simpa using h2,h3⟩
   ·refine .inr ⟨fun j d' e => ?_,h2⟩
    cases j with
    |zero=>simp
    |succ j=>simpa using h1 j d' (by simpa using e)
  |no=>
   simp only[Y9];rcases T5 (ix:=is) (ss:=ss) (δ:=δ) i hi hl2 with⟨j,d',h1,h2,h3⟩|⟨h1,h2⟩
   ·exact .inl ⟨j+1,d',by simpa using h1,by simpa using h2,h3⟩
   ·refine .inr ⟨fun j d' e => ?_,h2⟩
    cases j with
    |zero=>simp
    |succ j=>simpa using h1 j d' (by simpa using e)
noncomputable def Oc(ix:List Nat)(O:Nat->Option Addr):Nat->Option Addr:=fun j=>(ix[j]?).bind O
noncomputable def Bc(ix:List Nat)(B:Bs)(O:Nat->Option Addr)(H0:Hp)(D:Addr)(kp:List (V×dH)):Bs:=
 ⟨fun a=>(B.Z a∨a=D)∨ ∃i,O i=some a/\i∉ix,OA (Oc ix O),H0,Oc ix O,kp⟩
theorem OM{D:Addr}{kp:List (V×dH)}: ∀a,Nn (Bc ix B O H0 D kp) (Oc ix O) a->Nn B O a∨a=D:=fun a h=>by
 rcases h with((h|h)|⟨i,h,_⟩)|⟨j,h⟩
 ·exact .inl (.inl h)
 ·exact .inr h
 ·exact .inl (.inr ⟨i,h⟩)
 ·unfold Oc at h
  cases q:ix[j]? with
  |none=>rw[q] at h;cases h
  |some i=>rw[q] at h;exact .inl (.inr ⟨i,h⟩)
theorem HF{D:Addr}{kp:List (V×dH)}: ∀a,Nn (B.add D) O a->Nn (Bc ix B O H0 D kp) (Oc ix O) a:=fun a h=>by
 rcases h with h|⟨i,h⟩
 ·exact .inl (.inl h)
 ·by_cases hi:i∈ix
  ·obtain⟨j,hj⟩:=Jw.mp hi
   exact .inr ⟨j,by unfold Oc;rw[hj];exact h⟩
  ·exact .inl (.inr ⟨i,h,hi⟩)
theorem aR.withKp{kp:List (V×dH)}(S:aR K ml B O H σ δ)(h: ∀p∈kp,bQ K (Nn B O) H (Nn B O) p.1 p.2):aR K ml {B with kp:=kp} O H σ δ:=
 ⟨S.len,S.va,S.ow,S.dom,S.inj,S.old,S.zin,S.frm,S.par,S.pin,h⟩
theorem aR.writeZ{D:Addr}{o:HO}{acc:List V}(S:aR K ml B O H σ δ)(hD:B.Z D)(hl:H D=some (.lst acc))(h0:B.H0 D=none):aR K ml B O (upd H D o) σ δ:=by
 have hf:Fr (fun b=>b=D) H (upd H D o):=⟨fun b u q n=>by
  by_cases hb:b=D
  ·subst hb
   rw[hl] at q;cases q;exact absurd (n rfl) fun z=>z
  ·rw[cY hb]
   exact q,(PQ.of hl).upd⟩
 have hN: ∀b,b=D->Nn B O b:=fun b z=> .inl (z▸hD);have hin: ∀b,(∃u,H b=some u)-> ∃u,upd H D o b=some u:=fun b q0=>by
  obtain⟨u,q⟩:=q0;by_cases hb:b=D
  ·exact⟨o,by rw[hb];exact cX⟩
  ·exact⟨u,by rw[cY hb];exact q⟩
 refine⟨S.len,fun i d q=> ?_,fun i d q=> ?_,S.dom,S.inj,S.old,fun b h=>hin b (S.zin b h),⟨fun b u q n=> ?_,fun b _ _ _ _ _ _ _ _ h=>let ⟨_,_,e⟩:=S.frm.ft _ _ _ _ _ _ _ _ _ h;(PQ.of hl).upd _ _ _ _ _ _ _ _ _ e⟩,S.par,fun b h=>hin b (S.pin b h),fun p hp=>(S.kep p hp).fr hf hN hN⟩
 ·obtain⟨v,e,r⟩:=S.va i d q
  exact⟨v,e,r.fr hf hN hN⟩
 ·obtain⟨a,e,e2,w⟩:=S.ow i d q
  exact⟨a,e,e2,w.fr hf hN fun z=>(S.old i a e).1 (z▸hD)⟩
 ·have hb : b ≠ D := fun z => by rw [z,h0] at q;cases q
  rw[cY hb];exact S.frm b u q n
theorem MP{j:Nat}{s:Sl}(h:(a8 ix δ++II nl)[j]? =some s):(∃i,ix[j]? =some i/\s=(δ[i]?).getD .no)∨s= .no:=by
 unfold a8 II at h;by_cases hj:j<ix.length
 ·rw [Ah (by simpa using hj),Dm] at h
  cases q:ix[j]? with
  |none=>rw[q] at h;cases h
  |some i=>rw[q] at h;cases h;exact .inl ⟨i,rfl,rfl⟩
 ·rw [An (by simpa using hj),Dd] at h
  split at h
  ·cases h;exact .inr rfl
  ·cases h
theorem IU{i j:Nat}{v:V}(hi:ix[j]? =some i)(h:σ[i]? =some (some v)):(YX ix σ++Bh nl none)[j]? =some (some v):=by
 have hj:j<ix.length:=(Ak.mp hi).1;unfold YX;rw[Ah (by simpa using hj),Dm,hi];show some ((σ[i]?).join)=_;rw[h];rfl
theorem aR.inner{D:Addr}(S:aR K ml B O H0 σ δ)(hD:H0 D=none)(hnd:ix.Nodup){kps:List (V×dH)}(hk: ∀p∈kps,bQ K (Nn B O) H0 (Nn B O) p.1 p.2):
  aR K (Cs ix.length) (Bc ix B O H0 D kps) (Oc ix O) (upd H0 D (.lst [])) (YX ix σ++Bh nl none) (a8 ix δ++II nl) where
 len:=by simp[YX,a8,II]
 va := fun j d e => by
  rcases MP e with⟨i,hi,q⟩|q
  ·have q:δ[i]? =some (.va d):=by
    cases w:δ[i]? with
    |none=>rw[w] at q;cases q
    |some s=>rw[w] at q;rw[show s= .va d from q.symm]
   obtain⟨v,e1,r⟩:=S.va i d q;exact⟨v,IU hi e1,(r.away hD _ _ OM OM).same (c7 hD)⟩
  ·cases q
 ow := fun j d e => by
  rcases MP e with⟨i,hi,q⟩|q
  ·have q:δ[i]? =some (.ow d):=by
    cases w:δ[i]? with
    |none=>rw[w] at q;cases q
    |some s=>rw[w] at q;rw[show s= .ow d from q.symm]
   obtain⟨a,e1,e2,w⟩:=S.ow i d q;refine⟨a,by unfold Oc;rw[hi];exact e1,IU hi e2,?_⟩;cases w with
   |lst q' r=>exact .lst (c7 hD _ _ q') ((r.away hD _ _ OM).same (c7 hD))
   |dct q' r=>exact .dct (c7 hD _ _ q') ((r.away hD _ _ OM).same (c7 hD))
   |flt q' r=>exact .flt (q'.same (c7 hD)) ((r.away hD _ _ OM).same (c7 hD))
  ·cases q
 dom:=fun j a e=>by
  unfold Oc at e;obtain⟨i,hi,e⟩:=Aa.mp e;obtain⟨d,q⟩:=S.dom i a e;refine⟨d,?_⟩;have hj:j<ix.length:=(Ak.mp hi).1;unfold a8;rw[Ah (by simpa using hj),Dm,hi];show some ((δ[i]?).getD .no)=_;rw[q];rfl
 inj:=fun j k a e1 e2=>by
  unfold Oc at e1 e2;cases hi:ix[j]? with
  |none=>rw[hi] at e1;cases e1
  |some i=>
   cases hk:ix[k]? with
   |none=>rw[hk] at e2;cases e2
   |some i'=>
    rw[hi] at e1;rw[hk] at e2;have:i=i':=S.inj i i' a e1 e2
    subst this;obtain⟨l1,q1⟩:=Ak.mp hi;obtain⟨l2,q2⟩:=Ak.mp hk;exact(Md hnd).mp (q1.trans q2.symm)
 old:=fun j a e=>by
  have e':=e;unfold Oc at e';cases hi:ix[j]? with
  |none=>rw[hi] at e';cases e'
  |some i=>
   rw[hi] at e';refine⟨fun z=> ?_,.inl ⟨j,e⟩⟩;rcases z with(z|z)|⟨i',z,n⟩
   ·exact(S.old i a e').1 z
   ·obtain⟨o,q⟩:=S.nin (.inr ⟨i,e'⟩)
    rw[z,hD] at q;cases q
   ·have:i=i':=S.inj i i' a e' z
    subst this;exact n (Bz hi)
 zin:=fun a h=>by
  rcases h with(h|h)|⟨i,h,_⟩
  ·obtain⟨o,q⟩:=S.zin a h
   exact⟨o,c7 hD _ _ q⟩
  ·exact⟨_,by rw[h];exact cX⟩
  ·obtain⟨o,q⟩:=S.nin (.inr ⟨i,h⟩)
   exact⟨o,c7 hD _ _ q⟩
 frm:=(c7 hD).fr
 par:=⟨fun j a e=>by
  have e:(ix[j]?).bind O=some a:=e;cases hi:ix[j]? with
  |none=>rw[hi] at e;cases e
  |some i=>exact En.mpr (Ak.mp hi).1,fun j _=>rfl⟩
 pin:=fun a q0=>by
  obtain⟨j,e⟩:=q0;unfold Oc at e;obtain⟨i,hi,e⟩:=Aa.mp e;obtain⟨o,q⟩:=S.nin (.inr ⟨i,e⟩);exact⟨o,c7 hD _ _ q⟩
 kep:=fun p hp=>((hk p hp).away hD _ _ OM OM).same (c7 hD)
theorem aR.turn{O':Nat->Option Addr}{σ':St}{n:Nat}{m:St}(S:aR K (Cs n) B O' H σ' δ)(hmu: ∀j,n<=j->B.mu j=none)(hm:m.length=n)(hσ:σ'.take n=m)(hn:n<=δ.length):aR K (Cs n) B B.mu H (m++Bh nl none) (δ.take n++II nl):=by
 have hO: ∀j,j<n->O' j=B.mu j:=fun j hj=>S.par.2 j (En.mpr hj);have hle: ∀j a,B.mu j=some a->O' j=some a:=fun j a e=>by rw[hO j (En.mp (S.par.1 j a e))];exact e
 have hN: ∀a,Nn B B.mu a->Nn B O' a:=fun a h=>by
  rcases h with h|⟨j,h⟩
  ·exact .inl h
  ·exact .inr ⟨j,hle j a h⟩
 have hg: ∀(j:Nat) (s:Sl),(δ.take n++II nl)[j]? =some s->(j<n/\δ[j]? =some s)∨s= .no:=fun j s h=>by
  have hl:(δ.take n).length=n:=by rw[Di];lia
  by_cases hj:j<n
  ·rw [Ah (by rw [hl];exact hj),Ci hj] at h
   exact .inl ⟨hj,h⟩
  ·unfold II at h
   rw[An (by rw[hl];lia),Dd] at h;split at h
   ·cases h;exact .inr rfl
   ·cases h
 have hs: ∀(j:Nat) (v:V),j<n->σ'[j]? =some (some v)->(m++Bh nl none)[j]? =some (some v):=fun j v hj e=>by
  rw[Ah (by rw[hm];exact hj),<- hσ,Ci hj];exact e
 refine⟨?_,fun j d e=> ?_,fun j d e=> ?_,fun j a e=> ?_,fun j k a e1 e2=>S.inj j k a (hle j a e1) (hle k a e2),fun j a e=>S.old j a (hle j a e),S.zin,S.frm,⟨S.par.1,fun j _=>rfl⟩,S.pin,fun p hp=>(S.kep p hp).mono hN hN⟩
 ·simp[hm,II,Di]
  lia
 ·rcases hg j _ e with⟨hj,e⟩|e
  ·obtain⟨v,e1,r⟩:=S.va j d e
   exact⟨v,hs j v hj e1,r.mono hN hN⟩
  ·cases e
 ·rcases hg j _ e with⟨hj,e⟩|e
  ·obtain⟨a,e1,e2,w⟩:=S.ow j d e
   exact⟨a,(hO j hj)▸e1,hs j _ hj e2,w.mono hN⟩
  ·cases e
 ·have hj:=En.mp (S.par.1 j a e)
  obtain⟨d,q⟩:=S.dom j a (hle j a e);refine⟨d,?_⟩;rw[Ah (by rw[Di];lia),Ci hj];exact q
theorem UO(ix:List Nat)(σ:St):(YX ix σ).length=ix.length:=by simp[YX]
theorem EQ{σ':St}(hl:ix.length<=σ'.length)(h: ∀i∈Cs ix.length,σ'[i]? =(YX ix σ++Bh nl none)[i]?):σ'.take ix.length=YX ix σ:=by
 refine List.ext_getElem? fun j=> ?_;by_cases hj:j<ix.length
 ·rw[Ci hj,h j (En.mpr hj),Ah (by rw[UO];exact hj)]
 ·rw[Dc (by rw[Di];lia),Dc (by rw[UO];lia)]
theorem zD3{σ3:St}(m3: ∀i∈Cs ix.length,σ3[i]? =(YX ix σ++Bh nl none)[i]?):ix.length<=σ3.length:=by
 by_cases hz:ix.length=0
 ·lia
 ·have hj : ix.length - 1 < ix.length := by lia
  have:=m3 (ix.length - 1) (En.mpr hj)
  have hs:(YX ix σ++Bh nl none)[ix.length - 1]? ≠none:=by
   rw[Ah (by rw[UO];exact hj)];simp[YX,hj]
  rw[<- this] at hs;have qb:ix.length - 1<σ3.length:=Nat.lt_of_not_le fun z=>hs (List.getElem?_eq_none_iff.mpr z);lia
theorem F3{fi:VI}{gg:VG}{tb:VB}{fe:VF}(hnd:ix.Nodup){Q:VK}(h:TN K ml (pi && pt && pe) (YM ix nl fi gg tb fe) σ H Q):
  BV ix nl (TIV K ml pi fi) (TGV K (Cs ix.length) gg) (TB K (Cs ix.length) pt tb) (TV K (Cs ix.length) pe true true fe) σ H Q:=by
 obtain⟨B,O,δ,d,δ2,S,q,k⟩:=h;unfold YM at q;obtain⟨⟨ds,δ1⟩,h1,q⟩:=Aa.mp q;have q:((ZN ix.length nl gg tb fe ds [] (a8 ix δ1)).map fun q=>(dH.lst q.1,Y9 ix q.2 δ1))=some (d,δ2):=q;obtain⟨⟨res,δf⟩,h2,q⟩:=Ao.mp q;cases q;refine⟨B,O,δ,ds,δ1,S,h1,fun J kps H0 S0 f0 p0 wk D hD=> ?_⟩;have hDO: ∀j,Oc ix O j≠some D:=fun j e=>by
  unfold Oc at e;obtain⟨i,hi,e⟩:=Aa.mp e;obtain⟨o,q⟩:=S0.nin (.inr ⟨i,e⟩);rw[hD] at q;cases q
 have mf: ∀kp j,ix.length<=j->(Bc ix B O H0 D kp).mu j=none:=fun kp j hj=>by
  show(ix[j]?).bind O=none;rw[Dc hj];rfl
 refine⟨fun i m acc H1=>m=ds.length - i/\i<=ds.length/\ ∃(au:List dH) (δc:Ev),δc.length=ix.length/\acc.length=au.length∧
   aR K (Cs ix.length) (Bc ix B O H0 D (kps++acc.zip au)) (Oc ix O) H1 (YX ix σ++Bh nl none) (δc++II nl)/\H1 D=some (.lst acc)/\((pt && pe)=true->aG H0 H1)∧
   ZN ix.length nl gg tb fe (ds.drop i) au δc=some (res,δf),
  ⟨ds.length,rfl,Dx _,[],a8 ix δ1,by simp [a8],rfl,by
   rw[List.zip_nil_left,Bm];exact S0.unkeep.inner hD hnd fun p hp=>S0.kep p (Bv _ hp),cX,fun _=>c7 hD,h2⟩,?_⟩
 rintro i m acc H1 ⟨rfl,hi,au,δc,hlc,cx,S1,hD1,iq,hc⟩;have w:=wk (Nn (Bc ix B O H0 D (kps++acc.zip au)) (Oc ix O)) H1 fun p hp=>S1.kep p (Bv _ hp);by_cases hlt:i<ds.length
 ·obtain ⟨go,yl⟩ := w.1 i ds[i] (by simp [hlt])
  rw[Fp hlt] at hc;simp only[ZN] at hc;obtain⟨δ3,g1,hc⟩:=Aa.mp hc;obtain⟨⟨kk,δ4⟩,g2,hc⟩:=Aa.mp hc;refine .inr ⟨go,fun bx H'=> ∃(au:List dH) (δc:Ev),δc.length=ix.length/\bx.length=au.length∧
   aR K (Cs ix.length) (Bc ix B O H0 D (kps++bx.zip au)) (Oc ix O) H' (YX ix σ++Bh nl none) (δc++II nl)/\H' D=some (.lst bx)/\((pt && pe)=true->aG H0 H')∧
   ZN ix.length nl gg tb fe (ds.drop (i+1)) au δc=some (res,δf),fun bx H' w'=>⟨ds.length - (i+1),by lia,rfl,hlt,w'⟩,fun x H2 hy=> ?_⟩
  obtain⟨sm,rx⟩:=yl x H2 hy;refine⟨_,_,_,ds[i],δ3,S1.same sm,rx,g1,fun σ3 O3 S3 m3=> ?_⟩;have ln3:=zD3 m3;have hσ3:=EQ ln3 m3;refine⟨hσ3,_,_,δ3,kk,δ4,S3,g2,fun H4 R4=> ?_⟩;have hD4:H4 D=some (.lst acc):=R4.frm _ _ (sm _ _ hD1) fun z=>by
   obtain⟨j,e⟩:=z;have:=(R4.sta.old j D e).1
   exact absurd (.inl (.inr rfl)) this
  have ln4:ix.length<=δ4.length:=by rw[<- R4.sta.len];exact ln3
  cases kk with
  |false=>
   rw[if_neg Du] at hc;refine G6 ⟨au,δ4.take ix.length,by rw[Di];lia,cx,R4.sta.turn (mf _) (UO ix σ) hσ3 ln4,hD4,fun z=> ?_,hc⟩;exact((iq z).trans sm).trans (R4.pur ((Af _ _).mp z).1)
  |true=>
   rw[if_pos rfl] at hc;obtain⟨⟨dv,δ5⟩,g3,hc⟩:=Aa.mp hc;split at hc
   ·rename_i hz
    refine G7 ⟨_,_,δ4,dv,δ5,R4.sta,g3,fun v H5 R5=> ?_⟩;have hD5:H5 D=some (.lst acc):=R5.frm _ _ hD4 fun z=>by
     obtain⟨j,e⟩:=z;have:=(R5.sta.old j D e).1
     exact absurd (.inl (.inr rfl)) this
    have ln5:ix.length<=δ5.length:=by rw[<- R5.sta.len];exact ln3
    have S6:=R5.sta.turn (nl:=nl) (mf _) (UO ix σ) hσ3 ln5;have hv:bQ K (Nn (Bc ix B O H0 D (kps++acc.zip au)) (Oc ix O)) H5 (Nn (Bc ix B O H0 D (kps++acc.zip au)) (Oc ix O)) v dv:=by
     have hN: ∀a,Nn (Bc ix B O H0 D (kps++acc.zip au)) (Oc ix O) a->av (Bc ix B O H0 D (kps++acc.zip au)) O3 true a:=fun a h=>by
      rcases h with h|⟨j,h⟩
      ·exact .inl h
      ·refine .inr ⟨j,?_⟩
       have hj:j∈Cs ix.length:=R5.sta.par.1 j a h;rw[R5.sta.par.2 j hj];exact h
     exact R5.rep.mono hN hN
    have S7:=S6.withKp (kp:=kps++(acc++[v]).zip (au++[dv])) fun p hp=>by
     rw[List.zip_append cx,<- Bw] at hp;rcases Cn.mp hp with z|z
     ·exact S6.kep p z
     ·rw[Aj.mp (show p∈[(v,dv)] from z)]
      exact hv
    refine⟨hD5,by rw[cx,Cb];exact hz,au++[dv],δ5.take ix.length,by rw[Di];lia,by simp[cx],?_,cX,fun z=> ?_,hc⟩
    ·exact S7.writeZ (.inl (.inr rfl)) hD5 hD
    ·intro b o e
     have hb:b≠D:=fun z=>by rw[z,hD] at e;cases e
     rw[cY hb];obtain⟨z1,z2⟩:=(Af _ _).mp z;exact(((iq z).trans sm).trans ((R4.pur z1).trans (R5.pur z2))) b o e
   ·cases hc
 ·have e : i = ds.length := by lia
  subst e;rw[Je] at hc;cases hc;refine .inl ⟨w.2,k D H1 ?_⟩;have fP:Fr (OA (Oc ix O)) H0 H1:=S1.frm;have hPO: ∀a,OA (Oc ix O) a->OA O a:=fun a q0=>by
   obtain⟨j,e⟩:=q0;unfold Oc at e;cases hi:ix[j]? with
   |none=>rw[hi] at e;cases e
   |some i=>rw[hi] at e;exact⟨i,e⟩
  have SL:=S0.unkeep.laid (o:= .lst acc) hD;have fL:Fr (OA (Oc ix O)) (upd H0 D (.lst acc)) H1:=⟨fun b o e n=>by
   by_cases hb:b=D
   ·subst hb
    rw[cX] at e;cases e;exact hD1
   ·rw[cY hb] at e
    exact fP b o e n,fun b _ _ _ _ _ _ _ _ e=>by
   by_cases hb:b=D
   ·subst hb
    rw[cX] at e;cases e
   ·rw[cY hb] at e
    exact fP.ft _ _ _ _ _ _ _ _ _ e⟩
  refine⟨SL.call (QL) (fun i=> ?_) fL hPO,f0.trans (fP.mono hPO),fun z=> ?_,.lst hD1 (UJ cx fun p hp=>(S1.kep p (Bn _ hp)).mono HF HF),S0.unkeep.new hD,S0.fresh hD⟩
  ·by_cases mi:i<δ1.length
   ·rcases T5 (ix:=ix) (ss:=δf) (δ:=δ1) i mi hlc.symm with⟨j,x,e1,e2,e3⟩|⟨e1,e2⟩
    ·have e4:(δf++II nl)[j]? =some (.ow x):=by
      rw[Ah (Ak.mp e2).1];exact e2
     obtain⟨a,e5,_,w⟩:=S1.ow j x e4;refine .inr ⟨a,x,?_,e3,w.mono HF⟩;unfold Oc at e5;rw[e1] at e5;exact e5
    ·refine .inl ⟨e2,fun a ea ⟨j,ej⟩ => ?_⟩
     obtain⟨x,ex⟩:=S1.dom j a ej;unfold Oc at ej;cases hi:ix[j]? with
     |none=>rw[hi] at ej;cases ej
     |some i'=>
      rw[hi] at ej;have:i=i':=S0.inj i i' a ea ej
      subst this;have hj:j<δf.length:=by rw[hlc];exact(Ak.mp hi).1
      rw[Ah hj] at ex;exact e1 j x hi ex
   ·refine .inl ⟨?_,fun a ea => ?_⟩
    ·rw[Dc (by rw[QL];lia),Dc (by lia)]
    ·obtain⟨x,ex⟩:=S0.dom i a ea
     exact absurd (Ak.mp ex).1 mi
  ·simp only[Af] at z
   exact(p0 z.1.1).trans (iq (by simp[z.1.2,z.2]))
theorem zEG{Q:Bool->Hp->Prop}(h:TB K ml true VQ σ H Q):tYes σ H Q:=by
 obtain⟨B,O,δ,k,δ',S,q,w⟩:=h;cases q;exact w H (DE.refl S)
theorem zEA{Y:Cx}{t:VB}(h:PT Y c (TB K ml pt t)):PTs Y [c] (TB K ml pt t):=zBR h
theorem XM{Y:Cx}:PTs Y [] (TB K ml true VQ):=fun aa s σ H Q I hw=>zBS aa s σ H Q I (zEG hw)
theorem zHX{Q:VK}{o:Bool}(h:TX K ml (if o then xO f else xV f) σ H Q):TN K ml pu f σ H Q:=by
 obtain⟨B,O,δ,s,δ',S,q,k⟩:=h;have e: ∃d,f δ=some (d,δ')/\s=if o then .ow d else .va d:=by
  cases o with
  |true=>
   have q:(f δ).map (fun p=>(Sl.ow p.1,p.2))=some (s,δ'):=q;cases h1:f δ with
   |none=>rw[h1] at q;cases q
   |some p=>rw[h1] at q;cases q;exact⟨p.1,rfl,rfl⟩
  |false=>
   have q:(f δ).map (fun p=>(Sl.va p.1,p.2))=some (s,δ'):=q;cases h1:f δ with
   |none=>rw[h1] at q;cases q
   |some p=>rw[h1] at q;cases q;exact⟨p.1,rfl,rfl⟩
 obtain⟨d,h1,hs⟩:=e;refine⟨B,O,δ,d,δ',S,h1,fun p H' R=> ?_⟩;cases o with
 |true=>
  cases hs;have w:=R.own;cases w with
  |lst q1 r=>exact k _ H' _ (R.sta.keepV (W9 r)) (.ol q1 r.length R.nz R.h0) R.frm
  |dct q1 r=>exact k _ H' _ (R.sta.keepV (W9 r)) (.od q1 (by simpa using r.length) R.nz R.h0) R.frm
  |flt q1 r=>exact k _ H' _ (R.sta.keepV (W9 r)) (.of q1 r.length R.nz R.h0) R.frm
 |false=>
  cases hs;exact k _ H' _ (R.sta.unadd.keepV (ps:=[(.ref p,d)]) fun z hz=>by
   rw[Aj.mp hz];exact(R.own.mono SY).rep R.nz) .va R.frm
theorem zEF{i:Nat}{x:VX}{te:TE}(hte: ∀σ H Q,TX K ml x σ H Q->te σ H Q)(hm:i∉ml){D:GF}(h:SD K ml (aZ i x) D σ H):tAsg te (FF i) D σ H:=by
 obtain⟨B,O,δ,o,S,q,k⟩:=h;unfold aZ at q;obtain⟨⟨s,δ1⟩,h1,q⟩:=Aa.mp q;have q:(if i<δ1.length then some (Ou.nx (δ1.set i s)) else none)=some o:=q;split at q
 ·rename_i hl
  cases q;refine hte _ _ _ ⟨B,O,δ,s,δ1,S,h1,fun v H' B' S' h' f'=> ?_⟩;obtain⟨O'',S''⟩:=h'.bind S' hm hl;exact k _ _ _ S''
 ·cases q
end
abbrev cK(P:Ax)(w:World)(K:Ai)(mg:Str->Option Value)(base:Heap)(x:Str)(k:Nat)(ps:List Str)(mF:List Nat)(F:cO)(f:Addr):Prop:=Def P w K mg base x k ps (spV K mF ps.length F) f
section
variable{X:Cx}{K:Ai}{ml:List Nat}{e a b c:Expr}{es:List Expr}{pa ta ia pb tb ib pc tc ic pu bt bi ps bs:Bool}{fa fb fc f:VF}{B B':Bs}{O:Nat->Option Addr}{H H0 H1 H':Hp}{σ:St}{δ δ':Ev}{v:V}{d:dH}{p:Addr}{pos:Pos}
theorem bZ{x:Str}(hg:Gl X x)(h: ∃u v,X.mg x=some u/\b6 v u/\ ∀N H M,bQ K N H M v d)(hd:(x==("__debug__":Str))=false:=by decide):PE X (.Name x pos) (TV K ml true true true (fC d)):=by
 obtain⟨u,v,h1,h2,h3⟩:=h;exact EX (zC7 hg h1 h2 hd) h3
def zDM(K:Ai):R2:=fun x y H Q=> ∃a b xs ys,x= .ref a/\y= .ref b/\VC K H a xs/\VC K H b ys/\xs.length+ys.length<=sizeLine∧
 (xs=[]->Q (.ref b) H)/\(xs≠[]->ys=[]->Q (.ref a) H)/\(xs≠[]->ys≠[]-> ∀p,H p=none->Q (.ref p) (upd H p (.tup (xs++ys))))
theorem zCD:XS X (Et .Add) (zDM X.K):=by
 intro aa s σ H x y v u Q I rx ry h;obtain⟨a,b,xs,ys,rfl,rfl,ha,hb,hz,q0,q1,q2⟩:=h;cases rx;cases ry;obtain⟨its,r1,p1,_⟩:=I.tuple ha;obtain⟨cw,r2,p2,_⟩:=I.tuple hb;by_cases hx:xs=[]
 ·subst hx
  have e0:its=[]:=r1.nil_iff.mpr rfl;subst e0;obtain⟨⟨cls,dd,data,sl⟩,ho,hc,n,hd⟩:=id p1;obtain⟨⟨mv,dd2,data2,sl2⟩,ho2,hc2,n2,hd2⟩:=id p2;simp only at hc hd hc2 hd2;subst hc hd hc2 hd2;exact Jt ⟨_,ho,rfl⟩ ⟨_,ho2,rfl⟩ Jb Ky Gf Gb (Fv _ _)
   (tuple_addW0 a b _ cw.toArray n n2 dd dd2 sl sl2 (by simp)) ⟨ho,ho2,⟨.ref b,H,I,rfl,q0 rfl⟩⟩
 ·refine HT.zD2 p1 p2 (fun z => hx (r1.nil_iff.mp z)) (fun z => ⟨.ref a,H,I,rfl,q1 hx (r2.nil_iff.mp z)⟩) (fun z => ?_) (by rw [<- r1.length,<- r2.length];exact hz)
  refine⟨.ref s.heap.objs.size,_,I.laid (t':=s.toks) (o:= .tup (xs++ys)) (fun b ob q=>Ad _ q) (Au _) ?_,rfl,q2 hx (fun w=>z (r2.nil_iff.mpr w)) _ (I.hok.fresh (Au _))⟩;exact⟨by rw[Al];exact hz,_,r1.append r2,Kz _ _⟩
def zDL(K:Ai):R2:=fun x y H Q=> ∃l b xs zs,x= .ref l/\y= .ref b/\XZ K H l xs/\XZ K H b zs/\xs.length+zs.length<=sizeLine/\ ∀p,H p=none->Q (.ref p) (upd H p (.lst (xs++zs)))
theorem zCC:XS X (Et .Add) (zDL X.K):=by
 intro aa s σ H x y v u Q I rx ry h;obtain⟨l,b,xs,zs,rfl,rfl,hH,hB,hz,q⟩:=h;cases rx;cases ry;obtain⟨its,r,p1,_⟩:=I.list hH;obtain⟨cw,r2,p2,_⟩:=I.list hB;obtain⟨⟨cls,dd,data,sl⟩,n,ho,hc,_,hd⟩:=id p1;obtain⟨⟨mv,dd2,data2,sl2⟩,n2,ho2,hc2,_,hd2⟩:=id p2;simp only at hc hd hc2 hd2;subst hc hd hc2 hd2;have ea:its.toArray++cw.toArray=(its++cw).toArray:=by simp
 have hl:=r.length;have hl2:=r2.length;refine Jt ⟨_,ho,rfl⟩ ⟨_,ho2,rfl⟩ noFill_list_add seq_list_add PySem.F.slot_list_add PySem.F.entry_list_add (PySem.F.args_list_add_2 _ _) (list_addW l b its.toArray cw.toArray n n2 dd dd2 sl sl2 (by rw[Am,Am,<- hl,<- hl2];exact hz)) ⟨ho,ho2,?_⟩;rw[ea];exact⟨.ref _,_,I.lnew (t':=s.toks) (r.append r2) (by rw[Al];lia),rfl,q _ I.fresh⟩
def zDK(K:Ai):R2:=fun x y H Q=>((HN (fun i j=> .int (i+j)) x y H Q∨zDM K x y H Q)∨zDL K x y H Q)∨ ∃i j,x= .str i/\y= .str j/\i.length+j.length<=sizeLine/\Q (.str (i++j)) H
theorem aS(h:X.K=K):XS X (Et .Add) (zDK K):=by subst h;exact((zFS.or zCD).or zCC).or HH
noncomputable def bK:dH->dH->Option dH
 | .int i,.int j=>some (.int (i+j))
 | .tup ds,.tup es=>if ds.length+es.length<=16777216 then some (.tup (ds++es)) else none
 | .lst ds,.lst es=>if ds.length+es.length<=16777216 then some (.lst (ds++es)) else none
 | .str x,.str y=>if x.length+y.length<=16777216 then some (.str (x++y)) else none
 |_,_=>none
theorem bQ.tupE{N M:Addr->Prop}{ds:List dH}(h:bQ K N H M v (.tup ds)): ∃a xs,v= .ref a/\VC K H a xs/\cJ K N H xs ds:=by
 cases h with
 |tup q r=>exact⟨_,_,rfl,q,r⟩
theorem bQ.lstE{N M:Addr->Prop}{ds:List dH}(h:bQ K N H M v (.lst ds)): ∃a xs,v= .ref a/\XZ K H a xs/\cJ K N H xs ds:=by
 cases h with
 |lst q n r=>exact⟨_,_,rfl,XZ.of q,r⟩
 |fzm q r=>exact⟨_,_,rfl,q.sq,r⟩
theorem bO:OpC K (zDK K) bK:=by
 intro H N M M' x y d e c Q hx hy h k;cases d with
 |int i=>
  cases e with
  |int j=>
   cases h;cases hx;cases hy;exact .inl (.inl (.inl ⟨_,_,rfl,rfl,k _ _ (aG.refl _) fun _ _=> .int _⟩))
  |_=>cases h
 |str i=>
  cases e with
  |str j=>
   simp only[bK] at h;split at h
   ·cases h
    cases hx;cases hy;exact .inr ⟨_,_,rfl,rfl,by rw[Cb];assumption,k _ _ (aG.refl _) fun _ _=> .str _⟩
   ·cases h
  |_=>cases h
 |tup ds=>
  cases e with
  |tup es=>
   simp only[bK] at h;split at h
   ·rename_i hz
    cases h;obtain⟨a,xs,rfl,q1,r1⟩:=hx.tupE;obtain⟨b,ys,rfl,q2,r2⟩:=hy.tupE;refine .inl (.inl (.inr ⟨a,b,xs,ys,rfl,rfl,q1,q2,by rw[r1.length,r2.length,Cb];exact hz,fun z=> ?_,fun z1 z2=> ?_,fun z1 z2 p hp=> ?_⟩))
    ·subst z
     have:ds=[]:=Iz.mp r1.length.symm
     subst this;exact k _ _ (aG.refl _) fun M hM=> .tup q2 r2
    ·subst z2
     have:es=[]:=Iz.mp r2.length.symm
     subst this;rw[Bm] at k;exact k _ _ (aG.refl _) fun M hM=> .tup q1 r1
    ·exact k _ _ (c7 hp) fun M hM=> .tup (VC.of cX) ((r1.append r2).same (c7 hp))
   ·cases h
  |_=>cases h
 |lst ds=>
  cases e with
  |lst es=>
   simp only[bK] at h;split at h
   ·rename_i hz
    cases h;obtain⟨a,xs,rfl,q1,r1⟩:=hx.lstE;obtain⟨b,ys,rfl,q2,r2⟩:=hy.lstE;exact .inl (.inr ⟨a,b,xs,ys,rfl,rfl,q1,q2,by rw[r1.length,r2.length,Cb];exact hz,fun p hp=>k _ _ (c7 hp) fun M hM=> .lst cX (fun z=>by
     obtain⟨o,q⟩:=hM _ z;rw[hp] at q;cases q) ((r1.append r2).same (c7 hp))⟩)
   ·cases h
  |_=>cases h
 |_=>cases h
def A8:Ai->R2:=fun _=>rI CW fun i j=> .int (i*j)
theorem SU(h:X.K=K):XS X (Et .Mult) (A8 K):=zFQ
noncomputable abbrev UZ:=oMul
theorem VW:OpC K (A8 K) UZ:=by
 intro H N M M' x y d e c Q hx hy h k;exact zIK H N N M M' x y d e c Q hx hy h fun v hv=>k v H (aG.refl _) fun M _=>hv _ _ _
noncomputable def SV:dH->Option aY
 | .int i=>some (.inl i)
 | .str x=>some (.inr x)
 |_=>none
theorem bQ.key{N M:Addr->Prop}{k:aY}(h:bQ K N H M v d)(e:SV d=some k):v=kV k:=by
 cases h<;>first
  |(cases e;rfl)
  |cases e
noncomputable def bM(ks:List aY)(ds:List dH)(k:aY):Option dH:=match ks,ds with
 |k'::ks,d::ds=>if k'=k then some d else bM ks ds k
 |_,_=>none
theorem OJ{N:Addr->Prop}{k:aY}: ∀{kvs:List (aY×V)} {ds:List dH},cJ K N H (kvs.map Eu) ds→
  (∃v d,TW kvs k=some v/\bM (kvs.map Ds) ds k=some d/\bQ K N H N v d)∨(TW kvs k=none/\bM (kvs.map Ds) ds k=none)
 |[],_,.nil=> .inr ⟨rfl,rfl⟩
 | (k',v) :: kvs,_,.cons h t => by
  by_cases hk:k'=k
  ·refine .inl ⟨v,_,R7 (p:=(k',v)) hk,?_,h⟩
   simp[bM,hk]
  ·rcases OJ (k:=k) t with⟨v',d',h1,h2,h3⟩|⟨h1,h2⟩
   ·exact .inl ⟨v',d',(U5 (p:=(k',v)) hk).trans h1,by simpa[bM,hk] using h2,h3⟩
   ·exact .inr ⟨(U5 (p:=(k',v)) hk).trans h1,by simpa[bM,hk] using h2⟩
theorem zJW(hu:X.A.units+1<cLine):CZ X (fun x y H Q=> ∃a v,x= .ref a/\NH H a y (some v)/\Q v H):=by
 intro value slice aa s σ H x y v u Q I rx ry h hs;obtain⟨a,w,rfl,g,q⟩:=h;cases rx;exact Nv (JA I g) PySem.F.slot_dict_getitem.lookup (DP hu I g ry fun w' s3 I3 rw'=>⟨w,H,I3,rw',q⟩) hs
def rIxA(K:Ai):R2:=fun x y H Q=>(rIx K x y H Q∨ ∃a v,x= .ref a/\NH H a y (some v)/\Q v H)∨ ∃a k D v,x= .ref a/\y= .str k/\KTab K a D/\Er k D=some v/\Q v H
theorem kIxA(h:X.K=K)(hu:X.A.units+1<cLine):CZ X (rIxA K):=by subst h;exact(zHB.or (zJW hu)).or zCS
noncomputable def cL:dH->dH->Option dH
 | .tup ds,.int i=>WI ds i
 | .lst ds,.int i=>WI ds i
 | .dct ks ds,e=>(SV e).bind (bM ks ds)
 | .str z,.int i=>if z.length<=16777216 then(WI z.cps.toList i).map fun c=> .str ⟨#[c]⟩ else none
 |_,_=>none
theorem QO{N:Addr->Prop}{k:Str}: ∀{D:List (Str×V)} {ds:List dH},cJ K N H (D.map Eu) ds→
  (∃v d,Er k D=some v/\bM (D.map fun p=> .inr p.1) ds (.inr k)=some d/\bQ K N H N v d)∨(Er k D=none/\bM (D.map fun p=> .inr p.1) ds (.inr k)=none)
 |[],_,.nil=> .inr ⟨rfl,rfl⟩
 | (k',v) :: D,_,.cons h t => by
  by_cases hk:k'=k
  ·subst hk
   exact .inl ⟨v,_,by simp[Er],by simp[bM],h⟩
  ·have hk2 : ¬ k = k' := fun z => hk z.symm
   rcases QO (k:=k) t with⟨v',d',h1,h2,h3⟩|⟨h1,h2⟩
   ·exact .inl ⟨v',d',by simpa[Er,hk,hk2] using h1,by simpa[bM,hk] using h2,h3⟩
   ·exact .inr ⟨by simpa[Er,hk,hk2] using h1,by simpa[bM,hk] using h2⟩
theorem JS{i:Int}: ∀{D:List (Str×V)} {ds:List dH},bM (D.map fun p=> .inr p.1) ds (.inl i)=none
 |[],_=>by simp[bM]
 |_::_,[]=>by simp[bM]
 |p::D,d::ds=>by simpa[bM] using JS (D:=D) (ds:=ds)
theorem zJZ:OpI K (rIxA K) cL:=by
 intro H N N' M M' x y d e c Q hx hy h k;have seq: ∀ds i,X2 d=some ds->e= .int i->WI ds i=some c->rIxA K x y H Q:=fun ds i h1 h2 h3=>by
  subst h2;cases hy;obtain⟨a,xs,rfl,sq,r⟩:=hx.seq h1;obtain⟨v,hv,rv⟩:=zD8 r h3;rcases sq with sq|sq
  ·exact .inl (.inl (.inl ⟨a,xs,i,v,rfl,rfl,sq,hv,k v rv⟩))
  ·exact .inl (.inl (.inr (.inl ⟨a,xs,i,v,rfl,rfl,sq,hv,k v rv⟩)))
 cases d with
 |tup ds=>
  cases e with
  |int i=>exact seq ds i rfl rfl h
  |_=>cases h
 |lst ds=>
  cases e with
  |int i=>exact seq ds i rfl rfl h
  |_=>cases h
 |str z=>
  cases e with
  |int i=>
   simp only[cL] at h;split at h
   ·obtain⟨ch,hc,h⟩:=Ao.mp h
    cases h;cases hx;cases hy;exact .inl (.inl (.inr (.inr ⟨z,i,ch,rfl,rfl,by rw[Cb];assumption,hc,k _ (.str _)⟩)))
   ·cases h
  |_=>cases h
 |dct ks ds=>
  simp only[cL] at h;obtain⟨kk,hk,h⟩:=Aa.mp h;have h:bM ks ds kk=some c:=h;have ey:=hy.key hk;subst ey;cases hx with
  |dct q n r=>
   rcases OJ (k:=kk) r with⟨v,d',h1,h2,h3⟩|⟨h1,h2⟩
   ·rw[h] at h2
    cases h2;exact .inl (.inr ⟨_,v,rfl,h1▸NH.k q,k v h3⟩)
   ·rw[h] at h2;cases h2
  |ktb T r=>
   cases kk with
   |inl i=>rw[JS] at h;cases h
   |inr x=>
    rcases QO (k:=x) r with⟨v,d',h1,h2,h3⟩|⟨h1,h2⟩
    ·rw[h] at h2
     cases h2;exact .inr ⟨_,x,_,v,rfl,rfl,T,h1,k v h3⟩
    ·rw[h] at h2;cases h2
 |_=>cases h
noncomputable def TU(δ:Ev)(i:Nat):Option (List aY×List dH):=match δ[i]? with
 |some (.ow (.dct ks ds))=>some (ks,ds)
 |_=>none
theorem M6{i:Nat}{ks:List aY}{ds:List dH}(h:TU δ i=some (ks,ds)):δ[i]? =some (.ow (.dct ks ds)):=by
 unfold TU at h;split at h
 ·cases h;assumption
 ·cases h
noncomputable def YN:List aY->List dH->aY->dH->List aY×List dH
 |k'::ks,d::ds,k,v=>if k'=k then(k'::ks,v::ds) else let r:=YN ks ds k v;(k'::r.1,d::r.2)
 |_,_,k,v=>([k],[v])
noncomputable def J9(i:Nat)(fk fv:VF):VS:=fun δ=>(fv δ).bind fun p=>(TU p.2 i).bind fun _=>(fk p.2).bind fun q=>(SV q.1).bind fun k=>(TU q.2 i).bind fun z=>if z.1.length<16777216/\z.1.Nodup then some (.nx (q.2.set i (.ow (let r:=YN z.1 z.2 k p.1;.dct r.1 r.2)))) else none
theorem M8{N:Addr->Prop}{k:aY}{v:V}(h:bQ K N H N v d): ∀{kvs:List (aY×V)} {ds:List dH},(kvs.map Ds).Nodup->cJ K N H (kvs.map Eu) ds→
  (YJ kvs k v).map Ds=(YN (kvs.map Ds) ds k d).1/\cJ K N H ((YJ kvs k v).map Eu) (YN (kvs.map Ds) ds k d).2
 |[],_,_,.nil=>⟨rfl,.cons h .nil⟩
 | (k',u) :: kvs,_,nd,.cons hu t => by
  obtain⟨n1,n2⟩:=Ed.mp nd;by_cases hk:k'=k
  ·subst hk
   have e:YJ ((k',u)::kvs) k' v=(k',v)::kvs:=by
    unfold YJ;rw[if_pos (by simp)];simp only[Ay,if_true];congr 1;refine(List.map_congr_left fun p hp=> ?_).trans (List.map_id _);have:p.1≠k':=fun z=>n1 (Fc.mpr ⟨p,hp,z⟩)
    simp[this]
   rw[e];exact⟨by simp[YN],by simpa[YN] using cJ.cons h t⟩
  ·obtain⟨h1,h2⟩:=M8 (k:=k) h n2 t
   have e:YJ ((k',u)::kvs) k v=(k',u)::YJ kvs k v:=by
    unfold YJ;simp only[Gc,hk,decide_false,Nw];split
    ·simp[hk]
    ·rfl
   rw[e];exact⟨by simpa[YN,hk] using h1,by simpa[YN,hk] using cJ.cons hu h2⟩
theorem LW{N:Addr->Prop}{l:Addr}{o:HO}{xs:List V}{ds:List dH}{kvs:List (aY×V)}(ho:H l=some (.dK kvs))(hN:N l)(h:cJ K N H xs ds):cJ K N (upd H l o) xs ds:=
 h.fr (P:=fun b=>b=l) ⟨fun b u q n=>by
  by_cases hb:b=l
  ·subst hb
   rw[ho] at q;cases q;exact absurd (n rfl) fun z=>z
  ·rw[cY hb]
   exact q,(PQ.of ho).upd⟩ fun a z=>z▸hN
theorem GB{i:Nat}{fk fv:VF}{al:Pos}(hu:X.A.units+1<cLine)(ho:PE X a (YT i))(hk:PE X b (TV K ml pa ta ia fk))(hv:PE X c (TV K ml pb true true fv))(hs:El c (some (.Subscript a b al)) pos.line X.env=pure false):
  PS X (.Assign [.Subscript a b al] c pos) (SD K ml (J9 i fk fv)):=(zBV hu ho hk hv hs).imp fun D σ H hq0=>by
 obtain⟨B,O,δ,o,S,q,k⟩:=hq0;unfold J9 at q;obtain⟨⟨z,δ1⟩,h1,q⟩:=Aa.mp q;have q:((TU δ1 i).bind fun _=>(fk δ1).bind fun q=>(SV q.1).bind fun k=>(TU q.2 i).bind fun z_1=>if z_1.1.length<16777216/\z_1.1.Nodup then some (Ou.nx (q.2.set i (.ow (let r:=YN z_1.1 z_1.2 k z;.dct r.1 r.2)))) else none)=some o:=q;cases h0:TU δ1 i with
 |none=>rw[h0] at q;cases q
 |some z0=>
 obtain⟨ks0,ds0⟩:=z0;rw[h0] at q;cases h2:fk δ1 with
 |none=>simp[h2] at q
 |some p2=>
  obtain⟨y,δ2⟩:=p2;simp only[Aq,h2] at q;cases h3:SV y with
  |none=>simp[h3] at q
  |some kk=>
   simp only[Aq,h3] at q;cases h4:TU δ2 i with
   |none=>simp[h4] at q
   |some zz=>
    obtain⟨ks,ds⟩:=zz;simp only[h4,Aq] at q;split at q
    ·rename_i hz
     cases q;refine⟨B,O,δ,z,δ1,S,h1,fun v1 H1 R1=> ?_⟩;obtain⟨l,e1,e2,_⟩:=R1.sta.ow i _ (M6 h0);refine⟨.ref l,e2,B,O,δ1,y,δ2,R1.sta,h2,fun v2 H2 R2=> ?_⟩;have ey:=R2.rep.key h3;subst ey;obtain⟨l',e3,_,w2⟩:=R2.sta.ow i _ (M6 h4);rw[e1] at e3;cases e3;generalize hw:dH.dct ks ds=dd at w2;cases w2 with
     |lst _ _=>cases hw
     |flt _ _=>cases hw
     |dct qd r=>
      cases hw;have rv:=R1.rep.fr R2.frm (fun a z=> .inr z) fun a z=> .inr z;obtain⟨g1,g2⟩:=M8 (k:=kk) rv hz.2 r;refine⟨l,_,rfl,DPut.k qd (by rw[Cb];simpa using hz.1),k σ _ O (R2.sta.wrote e1 (fun z=>z) (.of qd) ?_)⟩;have w:SA K (Nn B O) (upd H2 l (.dK (YJ _ kk v1))) l (.dct ((YJ _ kk v1).map Ds) _):= .dct cX (LW qd (.inr ⟨i,e1⟩) g2);rw[g1] at w;exact w
    ·cases q
end
section
variable{X:Cx}{K:Ai}{ml:List Nat}{e a b c:Expr}{es:List Expr}{pa ta ia pb tb ib pc tc ic pu bt bi ps bs:Bool}{fa fb fc f:VF}{B B':Bs}{O:Nat->Option Addr}{H H0 H1 H':Hp}{σ:St}{δ δ':Ev}{v:V}{d:dH}{p:Addr}{pos:Pos}
noncomputable def KA(i:Nat)(fi fv:VF):VS:=fun δ=>(fv δ).bind fun p=>(XB p.2 i).bind fun _=>(fi p.2).bind fun q=>(XB q.2 i).bind fun ds=>match q.1 with
 | .int k=>(KP ds.length k).map fun j=> .nx (q.2.set i (.ow (.lst (ds.set j p.1))))
 |_=>none
theorem CG{i:Nat}{fi fv:VF}{al:Pos}(hK:X.K=K)(ho:PE X a (YT i))(hi:PE X b (TV K ml pa ta ia fi))(hv:PE X c (TV K ml pb true true fv))
  (ha: ∀v,assign (.Subscript a b al) X.env v=(do
   let ov<- Ib [v] (eval a X.env)
   let iv<- Ib [v,ov] (eval b X.env)
   Lh al
   Ib [v,ov,iv] (setItem ov iv v)
   release [v,ov,iv] []):=by intro _;rfl)
  (hs:Iv [.Subscript a b al] c pos.line X.env=pure false:=by rfl) (hw:Iw [.Subscript a b al] c X.env=pure none:=by rfl)
  (h1:(assignEach [.Subscript a b al] X.env).map (·.2)=[assign (.Subscript a b al) X.env]:=by rfl):PS X (.Assign [.Subscript a b al] c pos) (SD K ml (KA i fi fv)):=
 (HM hv (zFG ho hi BN ha) hs hw h1).imp fun D σ H hq0 => by
  obtain⟨B,O,δ,o,S,q,k⟩:=hq0;unfold KA at q;obtain⟨⟨z,δ1⟩,h1,q⟩:=Aa.mp q;cases h0:XB δ1 i with
  |none=>simp[h0] at q
  |some ds0=>
   simp only[Aq,h0] at q;cases h2:fi δ1 with
   |none=>simp[h2] at q
   |some p2=>
    obtain⟨y,δ2⟩:=p2;simp only[Aq,h2] at q;cases h4:XB δ2 i with
    |none=>simp[h4] at q
    |some ds=>
     simp only[h4,Aq] at q;cases y with
     |int kk=>
      have q:((KP ds.length kk).map fun j=>Ou.nx (δ2.set i (.ow (.lst (ds.set j z)))))=some o:=q;obtain⟨j,h5,q⟩:=Ao.mp q;cases q;refine⟨B,O,δ,z,δ1,S,h1,fun v1 H1 R1=> ?_⟩;obtain⟨l,e1,e2,_⟩:=R1.sta.ow i _ (UG h0);refine⟨.ref l,e2,B,O,δ1,_,δ2,R1.sta,h2,fun v2 H2 R2=> ?_⟩;have ey:v2= .int kk:=by
       have r:=R2.rep;cases r;rfl
      subst ey;obtain⟨l',e3,_,w2⟩:=R2.sta.ow i _ (UG h4);rw[e1] at e3;cases e3;cases w2 with
      |lst hl r=>
       have rv:=R1.rep.fr R2.frm (fun a z=> .inr z) fun a z=> .inr z;refine⟨l,_,kk,j,rfl,rfl,hl,by rw[r.length];exact h5,k σ _ O (R2.sta.wrote e1 (fun z=>z) (.of hl) (.lst cX (QA (ys:=[]) hl (.inr ⟨i,e1⟩) (r.set rv j))))⟩
     |_=>cases q
end
section
variable{prog:Ax}{w:World}{A:Cm}{E:Value->Ag->Prop}{s:Ag}
theorem TH{it t:Addr}{i:Nat}{items:Array Value}{x:Value}{Q:Value->Ag->Prop}(hit:s.heap.IsTupleIter it t i)(ht:s.heap.IsTuple t items)(hx:items[i]? =some x)
  (hQ: ∀h',h'.IsTupleIter it t (i+1)->Ek it s.heap h'->Q x {s with heap:=h'}):wpAny (model prog w) A (Br (.ref it)) Q E s:=by
 obtain⟨oi,g1,c1,d1⟩:=id hit;obtain⟨ot,g2,_,nt,d2⟩:=ht;unfold Br;refine Ac (Ct (name:=Bb "__next__") hit.typeIs Eh (Dy Eh hit.typeIs Hn ?_ (Hc _)));show wpAny _ _ (field (Be it) 0>>=_) _ _ s;refine Ac (De g1 d1 (x:= .ref t) rfl ?_);show wpAny _ _ (if(Be t== .none)=true then _ else _) _ _ s;rw[if_neg (show¬(Be t==Value.none)=true from Du)];show wpAny _ _ (field (Be it) 1>>=_) _ _ s;refine Ac (De g1 d1 (x:= .int i 0) rfl ?_);show wpAny _ _ (seqItems? (Be t)>>=_) _ _ s;refine Ac (Es g2 d2 ?_);simp only[hx,Ii];refine Ac (wpAny_setField g1 d1 (by simp) (As ⟨x,rfl,As (hQ _ ⟨_,Ju _ g1 (Obj.isFreed_of_fields (Lb d1 _)),(Obj.cls_mapFields ..).trans c1,?_⟩ (Ko ..))⟩));rw[Lb d1];simp[rawInt]
theorem RP{it t:Addr}{i:Nat}{items:Array Value}{Q:Value->Ag->Prop}(hh:A.handled=none)(hit:s.heap.IsTupleIter it t i)(ht:s.heap.IsTuple t items)(hx:items[i]? =none)
  (hE: ∀h' e,Hl it s.heap h'->(∃o,h'.get? e=some o/\o.cls= .type "StopIteration")->E (.ref e) {s with heap:=h'}):wpAny (model prog w) A (Br (.ref it)) Q E s:=by
 obtain⟨oi,g1,c1,d1⟩:=id hit;obtain⟨ot,g2,_,nt,d2⟩:=ht;unfold Br;refine Ac (Ct (name:=Bb "__next__") hit.typeIs Eh (Dy Eh hit.typeIs Hn ?_ (Hc _)));show wpAny _ _ (field (Be it) 0>>=_) _ _ s;refine Ac (De g1 d1 (x:= .ref t) rfl ?_);show wpAny _ _ (if(Be t== .none)=true then _ else _) _ _ s;rw[if_neg (show¬(Be t==Value.none)=true from Du)];show wpAny _ _ (field (Be it) 1>>=_) _ _ s;refine Ac (De g1 d1 (x:= .int i 0) rfl ?_);show wpAny _ _ (seqItems? (Be t)>>=_) _ _ s;refine Ac (Es g2 d2 ?_);simp only[hx,Ii];refine Ac (Lo (Ac (wpAny_setField g1 d1 (by simp) ?_)));show wpAny _ _ (newExc (Hd "StopIteration") []>>=_) _ _ _;refine Ac ?_;unfold newExc newTuple;refine Ac (Dq ?_ (by size_fits));refine Ac (m:=firstArgMember _ _) (wpAny_of_eq (a:=Value.none) (by first|rfl|(unfold firstArgMember;rfl)) (Dq ?_ (by size_fits)));unfold raiseNew;refine Ac (wpAny_handled ?_);first|rw[hh]|rw[show A.in1.handled=none from hh]
 refine Ac (As (wpAny_throw (hE _ _ (((Ko ..).extBut.push _).push _) ⟨_,At _ rfl,rfl⟩)))
end
theorem DT{prog:Ax}{w:World}{A:Cm}(hh:A.handled=none)(it t:Addr)(hne:t≠it)(items:Array Value):
  Draws prog w A it [it,t] items.size (fun i v=>items[i]? =some v) (fun i h=>h.IsTupleIter it t i/\h.IsTuple t items) where
 live:=fun _ _ st=>let ⟨o,ho,_⟩:=st.1;⟨o,ho⟩
 frame:=fun _ _ _ st hk=>⟨st.1.at fun o e=>hk it (by simp) o e,by obtain⟨o,ho,r⟩:=st.2;exact⟨o,hk t (by simp) o ho,r⟩⟩
 item:=fun i s Q E hi st hQ=>TH st.1 st.2 (x:=items[i]) (by simp[hi]) fun h' a b=>hQ _ h' s.toks (by simp[hi]) ⟨a,st.2.extBut b.extBut hne⟩ b
 done:=fun s Q E st hE=>RP hh st.1 st.2 (by simp) hE
section
variable{X:Cx}{aa:List (Addr×Obj)}{σ:St}{H:Hp}{s:Ag}{h':Heap}
theorem cM.turnedL{t':Nat}{fp:List Addr}(I:cM X aa σ H s)(k: ∀b o,b∉fp->s.heap.get? b=some o->h'.get? b=some o)(there: ∀b∈fp,∃o,h'.get? b=some o)(hf: ∀b∈fp,NI X aa H b):cM X aa σ H {s with heap:=h',toks:=t'}:=by
 have nit: ∀b u,H b=some u->b∉fp:=fun b u e z=>by rw[(hf b z).1] at e;cases e
 have hL:X.env.locals∉fp:=fun z=>(hf _ z).2.1 rfl;refine I.step (g':=s.gens) (d':=s.drawn) (ch:=fp) (fun b hb=> ?_) (fun b o _ _ hc e _=>k b o hc e) (fun b o _ _ hc e _=>⟨o.slots,k b o hc e⟩) (fun _ _ _ _ n=>n)
  (fun b o hc e=>⟨o,k b o hc e⟩) (fun _ _ e=>e) (fun _ _ _ e=>e) (fun b ps e=>⟨#[],by rw[e];simp⟩) (fun m hm=> ?_) (fun b u e=> ?_) I.bare
 ·obtain⟨_,f1,f2,f3,f4,f5⟩:=hf b hb
  exact⟨f3,f1,f4,f5⟩
 ·obtain⟨o,es,ep,ho,r⟩:=hm
  exact⟨o,es,ep,k _ o hL ho,r⟩
 ·refine (I.hok b u e).stay (fun c v hc q => k c v ?_ q) (fun _ q => q) fun _ _ q => q
  rcases hc with z|z
  ·rw[z];exact nit b u e
  ·exact nit c _ z
end
section
variable{X:Cx}{aa:List (Addr×Obj)}{σ:St}{H:Hp}{s:Ag}{h':Heap}
theorem cM.turnedL'{t':Nat}{fp:List Addr}(I:cM X aa σ H s)(k: ∀b o,b∉fp->s.heap.get? b=some o->h'.get? b=some o)(hf: ∀b∈fp,NI X aa H b):cM X aa σ H {s with heap:=h',toks:=t'}:=by
 have nit: ∀b u,H b=some u->b∉fp:=fun b u e z=>by rw[(hf b z).1] at e;cases e
 have hL:X.env.locals∉fp:=fun z=>(hf _ z).2.1 rfl;refine I.step (g':=s.gens) (d':=s.drawn) (ch:=fp) (fun b hb=> ?_) (fun b o _ _ hc e _=>k b o hc e) (fun b o _ _ hc e _=>⟨o.slots,k b o hc e⟩) (fun _ _ _ _ n=>n)
  (fun b o hc e=>⟨o,k b o hc e⟩) (fun _ _ e=>e) (fun _ _ _ e=>e) (fun b ps e=>⟨#[],by rw[e];simp⟩) (fun m hm=> ?_) (fun b u e=> ?_) I.bare
 ·obtain⟨_,f1,f2,f3,f4,f5⟩:=hf b hb
  exact⟨f3,f1,f4,f5⟩
 ·obtain⟨o,es,ep,ho,r⟩:=hm
  exact⟨o,es,ep,k _ o hL ho,r⟩
 ·refine (I.hok b u e).stay (fun c v hc q => k c v ?_ q) (fun _ q => q) fun _ _ q => q
  rcases hc with z|z
  ·rw[z];exact nit b u e
  ·exact nit c _ z
end
def MG(K:Ai)(tup:Bool)(H:Hp)(a:Addr)(xs:List V):Prop:=if tup=true then VC K H a xs else XZ K H a xs
def RG(tup:Bool)(h:Heap)(a:Addr)(items:Array Value):Prop:=if tup=true then h.IsTuple a items else h.IsList a items
def U9(tup:Bool)(h:Heap)(it a:Addr)(i:Nat):Prop:=if tup=true then h.IsTupleIter it a i else h.IsListIter it a i
theorem zAX{prog:Ax}{w:World}{A:Cm}(hh:A.handled=none)(tup:Bool)(it t:Addr)(hne:t≠it)(items:Array Value):
  Draws prog w A it [it,t] items.size (fun i v=>items[i]? =some v) (fun i h=>U9 tup h it t i/\RG tup h t items):=by
 cases tup with
 |true=>exact DT hh it t hne items
 |false=>exact Draws.list hh it t hne items
theorem RG.lt{tup:Bool}{h:Heap}{a:Addr}{items:Array Value}(s:RG tup h a items):a<h.objs.size:=by
 cases tup with
 |true=>obtain⟨o,e,_⟩:=s;exact Ar e
 |false=>obtain⟨o,e,_⟩:=s;exact Ar e
theorem cM.srcA{X:Cx}{aa:List (Addr×Obj)}{σ:St}{H:Hp}{s:Ag}{a:Addr}{xs:List V}{tup:Bool}(I:cM X aa σ H s)(h:MG X.K tup H a xs): ∃its:List Value,bT xs its/\RG tup s.heap a its.toArray/\xs.length<=sizeLine:=by
 cases tup with
 |true=>
  obtain⟨its,r,p,z⟩:=I.tuple h;exact⟨its,r,p,z⟩
 |false=>
  obtain⟨its,r,p,z⟩:=I.list h;exact⟨its,r,p.isList,z⟩
theorem cM.sq_inj{X:Cx}{aa:List (Addr×Obj)}{σ:St}{H:Hp}{s:Ag}{a:Addr}{xs ys:List V}{tup:Bool}(I:cM X aa σ H s)(h:MG X.K tup H a xs)(h':MG X.K tup H a ys):xs=ys:=by
 cases tup with
 |true=>exact I.tuple_inj h h'
 |false=>exact I.list_inj h h'
theorem U9.at{tup:Bool}{h h':Heap}{it a:Addr}{i:Nat}(st:U9 tup h it a i)(k: ∀o,h.get? it=some o->h'.get? it=some o):U9 tup h' it a i:=by
 cases tup with
 |true=>exact Heap.IsTupleIter.at st k
 |false=>exact Heap.IsListIter.at st k
theorem U9.obj{tup:Bool}{h:Heap}{it a:Addr}{i:Nat}(st:U9 tup h it a i): ∃o,h.get? it=some o/\ ∀v,o.data≠ .cell v:=by
 cases tup with
 |true=>
  obtain⟨o,e,c,d⟩:=st;exact⟨o,e,fun v z=>by rw[d] at z;cases z⟩
 |false=>
  obtain⟨o,e,c,d⟩:=st;exact⟨o,e,fun v z=>by rw[d] at z;cases z⟩
def Ite(K:Ai)(tup:Bool)(a:Addr):It:=
 ⟨fun i H=> ∃xs x,MG K tup H a xs/\xs[i]? =some x,fun i H v H'=> ∃p x,(∀xs,MG K tup H a xs->xs[i]? =some x)/\H p=none/\H'=upd H p (.tup [.int i,x])/\v= .ref p,fun i H=> ∃xs,MG K tup H a xs/\xs.length=i⟩
theorem ES{P:Ax}{w:World}{K:Ai}{es:List Expr}{k:Nat}{pos:Pos}(tup:Bool)(a e it:Addr)(hei:e≠it)(hae:a≠e)(hai:a≠it):
  GK P w K (.Tuple es k pos) (Ite K tup a) [e,it] e (fun i h=>(∃old,IsEnum h e it i old)/\U9 tup h it a i) where
 mem:=by simp
 obj:=fun i h st b hb=>by
  obtain⟨⟨old,he⟩,hi⟩:=st;rcases Ap.mp hb with z|z
  ·subst z
   exact⟨_,he,fun v z=>by cases z⟩
  ·have:=Aj.mp z
   subst this;exact hi.obj
 keep:=fun i h h' st kk=>by
  obtain⟨⟨old,he⟩,hi⟩:=st;exact⟨⟨old,kk e (by simp) _ he⟩,hi.at fun o q=>kk it (by simp) o q⟩
 item:=by
  intro X hP hw hK hc i aa s σ H E I hf st hg;subst hP hw hK;obtain⟨⟨old,he⟩,hi⟩:=st;obtain⟨xs,x,hq,hx⟩:=hg;obtain⟨its,rv,src,hz⟩:=I.srcA hq;have hlt:i<its.toArray.size:=by
   have:=(Ak.mp hx).1
   have:=rv.length
   simp only[Am];lia
  have hh:X.A.in1.handled=none:=I.ok.hd hc;refine wpAny_pyNext_enum_itemD (zAX hh tup it a hai its.toArray) he ⟨hi,src⟩ hlt hei (by simp[hei,Dj hae]) fun u h1 tk hu ho st1 ht hsz hk=>⟨_,rfl,?_⟩;refine wpAny_letOwnedTupleGo_enum (s:={s with heap:=h1,toks:=tk+1}) ho fun h2 he2 sb2=> ?_;have sb2:Ek e h1 h2:=sb2;obtain⟨u',hu',ru⟩:=rv.get hx;have hu:its.toArray[i]? =some u:=hu;rw[List.getElem?_toArray,hu'] at hu;have hu:=Bt hu;subst hu;have kk: ∀b o,b∉[e,it]->s.heap.get? b=some o->h2.get? b=some o:=fun b o hb q=>by
   have h1b:b≠e:=fun z=>hb (by simp[z]);have h2b:b≠it:=fun z=>hb (by simp[z]);exact(sb2.2 b h1b).trans (hk b o h1b h2b q)
  have iy:h2.get? s.heap.objs.size=some {cls:= .type "tuple",data:= .seq #[.int i tk,u']}:=(sb2.2 _ (Fu (Ar he))).trans ht;have bh:H s.heap.objs.size=none:=I.hok.fresh (Au _);have mh: ∀b∈[e,it],b<s.heap.objs.size:=fun b hb=>by
   rcases Ap.mp hb with z|z
   ·rw[z];exact Ar he
   ·rw[Aj.mp z]
    obtain⟨o,q,_⟩:=hi.obj;exact Ar q
  have I0:cM X aa σ (upd H s.heap.objs.size (.tup [.int i,x])) {s with heap:=s.heap.push {cls:= .type "tuple",data:= .seq #[.int i tk,u']},toks:=tk}:=
   I.laid (fun b o q=>Ad _ q) (Au _) ⟨by show 2<=sizeLine;decide,[.int i tk,u'],.cons ⟨tk,rfl⟩ (.cons ru .nil),Kz _ _⟩
  have I1:cM X aa σ (upd H s.heap.objs.size (.tup [.int i,x])) {s with heap:=h2,toks:=tk+1}:=by
   refine cM.turnedL (s:={s with heap:=s.heap.push {cls:= .type "tuple",data:= .seq #[.int i tk,u']},toks:=tk}) (h':=h2) (t':=tk+1) (fp:=[e,it]) I0 (fun b o hb q=> ?_) (fun b hb=> ?_) fun b hb=>⟨by rw[cY (Bl (mh b hb))];exact(hf b hb).1,(hf b hb).2⟩
   ·by_cases hbn:b=s.heap.objs.size
    ·subst hbn
     have q:(s.heap.push {cls:= .type "tuple",data:= .seq #[.int i tk,u']}).get? s.heap.objs.size=some o:=q;rw[At _ rfl] at q;cases q;exact iy
    ·exact kk b o hb ((Lp _ _ _ hbn).symm.trans q)
   ·rcases Ap.mp hb with z|z
    ·rw[z];exact⟨_,he2⟩
    ·rw[Aj.mp z]
     obtain⟨o,q,_⟩:=st1.1.obj;exact⟨o,(sb2.2 it (Dj hei)).trans q⟩
  refine⟨.ref s.heap.objs.size,upd H s.heap.objs.size (.tup [.int i,x]),?_,rfl,⟨_,x,fun ys hy=>by rw[I.sq_inj hy hq];exact hx,bh,rfl,rfl⟩,⟨⟨_,by simpa using he2⟩,st1.1.at fun o q=>(sb2.2 it (Dj hei)).trans q⟩,fun b hb=> ?_⟩
  ·exact I1
  ·rw[cY (Bl (mh b hb))]
   exact(hf b hb).1
 done:=by
  intro X hP hw hK hc i aa s σ H E I hf st hg;subst hP hw hK;obtain⟨⟨old,he⟩,hi⟩:=st;obtain⟨xs,hq,hx⟩:=hg;obtain⟨its,rv,src,hz⟩:=I.srcA hq;have hh:X.A.in1.handled=none:=I.ok.hd hc;have hn:its.toArray.size=i:=by rw[Am,<- rv.length];exact hx
  refine wpAny_pyNext_enum_endD (zAX hh tup it a hai its.toArray) he ⟨by rw[hn];exact hi,src⟩ fun h1 xb=>⟨rfl,?_⟩;obtain⟨f0,f1,f2,f3,f4,f5⟩:=hf it (by simp);exact I.turned (t':=s.toks) (fun b o hb q=>xb b o hb q) f0 f1 f3 f4 f5
 self:=fun _ i _ _ _ st h=>Lq st.1.choose_spec h
theorem DU(a:Addr)(items:Array Value)(n:Nat)(dd:Option Addr)(sl:Array (Option Value)):
  Meets (Fw.«enumerate.__new__» ⟨[.type "enumerate",.ref a],[]⟩) (fun _ R s=>s.heap.get? a=some {cls:= .type "tuple",dict:=dd,data:= .seq items n,slots:=sl}∧
   R (.ok (.ret (.ref (s.heap.push {cls:= .type "tuple_iterator",data:= .fields #[.ref a,.int 0 0]}).objs.size)))
    {s with heap:=(s.heap.push {cls:= .type "tuple_iterator",data:= .fields #[.ref a,.int 0 0]}).push {cls:= .type "enumerate",data:= .fields #[.none,.bool false,.ref s.heap.objs.size,rawInt 0,.none,.none]}}):=by
 refine .of_wp fun prog w A R s h=> ?_;obtain⟨hp,g,d,tk,os⟩:=s;obtain⟨ha,h⟩:=h;have hs:=sub_enumerate;have hT:Heap.IsTuple (Mw ⟨hp,g,d,tk,os⟩) a items:=⟨_,ha,rfl,n,rfl⟩;wp_walk using Dw ha
 refine wpAny_stack_any fun st=>As ?_;split
 ·rename_i c _ _ _ _ _
  cases (c==Hd "enumerate")<;>(wp_walk using Dw ha,Fy hT;exact⟨_,rfl,h⟩)
 ·wp_walk using Dw ha,Fy hT
  exact⟨_,rfl,h⟩
theorem GS{prog:Ax}{w:World}{A:Cm}{E:Value->Ag->Prop}{s:Ag}{a:Addr}{items:Array Value}{tup:Bool}{Q:Value->Ag->Prop}(hs:RG tup s.heap a items)
  (h: ∀h',IsEnum h' (s.heap.objs.size+1) s.heap.objs.size 0 .none->U9 tup h' s.heap.objs.size a 0->(∀b o,s.heap.get? b=some o->h'.get? b=some o)->Q (.ref (s.heap.objs.size+1)) {s with heap:=h'}):
  wpAny (model prog w) A (call (.type "enumerate") [.ref a]) Q E s:=by
 cases tup with
 |false=>exact call_enumerate_list hs fun h' a1 a2 _ a4=>h h' a1 a2 a4
 |true=>
  obtain⟨⟨cc,dd,dt,sl⟩,g1,hc,n,hd⟩:=hs;replace hc:cc= .type "tuple":=hc
  replace hd:dt= .seq items n:=hd
  subst hc hd;have hz:(s.heap.push {cls:= .type "tuple_iterator",data:= .fields #[.ref a,.int 0 0]}).objs.size=s.heap.objs.size+1:=Cr ..;refine callType_new F.called_enumerate (by decide) (F.typeCall_enumerate_1 _) (F.newCall_enumerate_1 _) (fun obj=>F.args_object_init_2 obj _) F.entry_enumerate_new (DU a items n dd sl) ⟨g1,?_⟩;show _/\_;rw[hz];have he:=At (s.heap.push {cls:= .type "tuple_iterator",data:= .fields #[.ref a,.int 0 0]}) (o:={cls:= .type "enumerate",data:= .fields #[.none,.bool false,.ref s.heap.objs.size,rawInt 0,.none,.none]}) rfl;rw[hz] at he;exact⟨⟨_,he,rfl⟩,h _ he ⟨_,Ad _ (At _ rfl),rfl,rfl⟩ fun b o x=>Ad _ (Ad _ x)⟩
theorem KY:Bf "enumerate"=some (.type "enumerate"):=by decide+kernel
theorem zHH:Bf "zip"=some (.type "zip"):=by decide+kernel
section
variable{X:Cx}{K:Ai}{ml:List Nat}{l:Expr}{pu:Bool}{f:VF}{p pos cv:Pos}{es:List Expr}{tk:Nat}{δ:Ev}
def iEnu(K:Ai)(tl:TE):TI:=fun σ H R=>tl σ H fun x H1=> ∃a tup,x= .ref a/\(∃xs,MG K tup H1 a xs)/\R (Ite K tup a) H1
theorem zC2{tl:TE}(hg:Gl X "enumerate") (hm:X.mg "enumerate"=none) (hl:PE X l tl) (he:Ae (l::[]) X.env=(false,eval l X.env)::Ae [] X.env:=by rfl):
  PI X (.Tuple es tk cv) (.Call (.Name "enumerate" p) [l] [] pos) (iEnu X.K tl):=by
 intro aa s σ H R I h;refine Dv (QX I hg hm KY ?_ (by decide) (by decide));refine Ec (ZX (a9 hl Y7 he pos aa s σ H (fun vs H1=>match vs with
  |[x]=> ∃a tup,x= .ref a/\(∃xs,MG X.K tup H1 a xs)/\R (Ite X.K tup a) H1
  |_=>False) I h) fun us s1 ⟨vs,H1,I1,r1,q1⟩=> ?_) he (by rfl)
 match vs,r1,q1 with
 |[x],r1,q1=>
  obtain⟨a,tup,rfl,⟨xs,hq⟩,hR⟩:=q1;obtain⟨u,rfl,ru⟩:=TM r1;cases ru;obtain⟨its,rv,src,_⟩:=I1.srcA hq;refine GS src fun h' he' hi' kp=> ?_;have I2:cM X aa σ H1 {s1 with heap:=h'}:=I1.kept (t':=s1.toks) kp;have hn: ∀b,s1.heap.objs.size<=b->H1 b=none:=fun b hb=>I1.hok.fresh hb;refine Lq he' ⟨s1.heap.objs.size+1,[s1.heap.objs.size+1,s1.heap.objs.size],_,Ite X.K tup a,H1,rfl,I2,ES tup a (s1.heap.objs.size+1) s1.heap.objs.size (Nat.succ_ne_self _) (fun z=> ?_) (fun z=> ?_),⟨⟨_,he'⟩,hi'⟩,fun b hb=> ?_,hR⟩
  ·have:=src.lt
   rw[z] at this;exact absurd this (Nat.not_lt_of_le (Ft _))
  ·have:=src.lt
   rw[z] at this;exact absurd this (Cw _)
  ·have hb':s1.heap.objs.size<=b:=by
    rcases Ap.mp hb with z|z
    ·rw[z];exact Ft _
    ·rw[Aj.mp z];exact Au _
   exact I1.fpOk hb' (hn b hb')
theorem zH2(h:X.K=K){tl:TE}(hg:Gl X "enumerate") (hm:X.mg "enumerate"=none) (hl:PE X l tl) (he:Ae (l::[]) X.env=(false,eval l X.env)::Ae [] X.env:=by rfl):
  PI X (.Tuple es tk cv) (.Call (.Name "enumerate" p) [l] [] pos) (iEnu K tl):=by subst h;exact zC2 hg hm hl he
noncomputable def X7:Nat->List dH->List dH
 |_,[]=>[]
 |i,d::ds=> .tup [.int i,d]::X7 (i+1) ds
noncomputable def JM(f:VF):VI:=fun δ=>(f δ).bind fun p=>(X2 p.1).map fun ds=>(X7 0 ds,p.2)
theorem JG: ∀{ds:List dH} {n i:Nat} {d:dH},(X7 n ds)[i]? =some d-> ∃x,ds[i]? =some x/\d= .tup [.int (n+i:Nat),x]
 |[],_,_,_,h=>by simp[X7] at h
 |x::ds,n,0,d,h=>by simp[X7] at h;exact⟨x,rfl,h.symm⟩
 |x::ds,n,i+1,d,h=>by
  have h:(X7 (n+1) ds)[i]? =some d:=by simpa[X7] using h
  obtain⟨y,h1,h2⟩:=JG h;exact⟨y,by simpa using h1,by rw[h2,show n+1+i=n+(i+1) by lia]⟩
theorem JH: ∀(ds:List dH) (n:Nat),(X7 n ds).length=ds.length
 |[],_=>rfl
 |_::ds,n=>congrArg (· +1) (JH ds (n+1))
theorem NG{a:Addr}{tup:Bool}{ds:List dH}:Walk K (Ite K tup a) [(.ref a,if tup=true then .tup ds else .lst ds)] (X7 0 ds):=by
 intro N H h;have r:=h _ (Aj.mpr rfl);have fin: ∀xs,MG K tup H a xs->cJ K N H xs ds->(∀(i:Nat) (d:dH),(X7 0 ds)[i]? =some d->(Ite K tup a).go i H/\ ∀x H',(Ite K tup a).yld i H x H'->aG H H'/\bQ K N H' N x d)/\(Ite K tup a).stop (X7 0 ds).length H:=fun xs sq r=>by
  refine⟨fun i d e=> ?_,xs,sq,by rw[r.length,JH]⟩;obtain⟨z,e1,rfl⟩:=JG e;obtain⟨x,e2,r1⟩:=r.get e1;refine⟨⟨xs,x,sq,e2⟩,fun y H' hy=> ?_⟩;obtain⟨p,x',e3,hp,rfl,rfl⟩:=hy;have:=e3 xs sq
  rw[e2] at this;cases this;refine⟨c7 hp,.tup (VC.of cX) (.cons ?_ (.cons (r1.same (c7 hp)) .nil))⟩;rw[Jj];exact .int _
 cases tup with
 |true=>
  have r:bQ K N H N (.ref a) (.tup ds):=r;cases r with
  |tup sq r=>exact fin _ sq r
 |false=>
  have r:bQ K N H N (.ref a) (.lst ds):=r;cases r with
  |lst q n r=>exact fin _ (XZ.of q) r
  |fzm q r=>exact fin _ q.sq r
theorem F7(hK:X.K=K)(hg:Gl X "enumerate") (hm:X.mg "enumerate"=none) (h:PE X l (TV K ml pu true true f)) (he:Ae (l::[]) X.env=(false,eval l X.env)::Ae [] X.env:=by rfl):
  PI X (.Tuple es tk cv) (.Call (.Name "enumerate" p) [l] [] pos) (TIV K ml pu (JM f)):=(zH2 (K:=K) hK hg hm h he).imp fun σ H R hq0=>by
 obtain⟨B,O,δ,ds,δ',S,q,k⟩:=hq0;unfold JM at q;obtain⟨⟨x,δ1⟩,h1,q⟩:=Aa.mp q;refine⟨B,O,δ,x,δ1,S,h1,fun v H1 R1=> ?_⟩;cases x with
 |lst ds'=>
  cases q;obtain⟨a,xs,rfl,sq,r⟩:=R1.rep.lstE;exact⟨a,false,rfl,⟨xs,sq⟩,k _ [(.ref a,.lst ds')] H1 (R1.sta.keepV fun p hp=>by rw[Aj.mp hp];exact R1.rep) R1.frm R1.pur (NG (tup:=false))⟩
 |tup ds'=>
  cases q;obtain⟨a,xs,rfl,sq,r⟩:=R1.rep.tupE;exact⟨a,true,rfl,⟨xs,sq⟩,k _ [(.ref a,.tup ds')] H1 (R1.sta.keepV fun p hp=>by rw[Aj.mp hp];exact R1.rep) R1.frm R1.pur (NG (tup:=true))⟩
 |_=>cases q
end
section
variable{prog:Ax}{w:World}{A:Cm}{E:Value->Ag->Prop}{s:Ag}
theorem U9.ext{tup:Bool}{h h':Heap}{it a b:Addr}{i:Nat}(x:U9 tup h it a i)(hs:Hl b h h')(hne:it≠b):U9 tup h' it a i:=x.at fun o e=>hs _ _ hne e
theorem RG.ext{tup:Bool}{h h':Heap}{a b:Addr}{xs:Array Value}(x:RG tup h a xs)(hs:Hl b h h')(hne:a≠b):RG tup h' a xs:=by
 cases tup with
 |true=>obtain⟨o,e,r⟩:=x;exact⟨o,hs _ _ hne e,r⟩
 |false=>obtain⟨o,e,r⟩:=x;exact⟨o,hs _ _ hne e,r⟩
theorem SX{tup:Bool}{it a:Addr}{i:Nat}{xs:Array Value}{x:Value}{Q:Value->Ag->Prop}(hi:U9 tup s.heap it a i)(hs:RG tup s.heap a xs)(hx:xs[i]? =some x)
  (hQ: ∀h',U9 tup h' it a (i+1)->Ek it s.heap h'->Q x {s with heap:=h'}):wpAny (model prog w) A (Br (.ref it)) Q E s:=by
 cases tup with
 |true=>exact TH hi hs hx hQ
 |false=>exact wpAny_nextOf_list_item hi hs hx hQ
theorem M3{tup:Bool}{it a:Addr}{i:Nat}{xs:Array Value}{Q:Value->Ag->Prop}(hh:A.handled=none)(hi:U9 tup s.heap it a i)(hs:RG tup s.heap a xs)(hx:xs[i]? =none)
  (hE: ∀h' e,Hl it s.heap h'->(∃o,h'.get? e=some o/\o.cls= .type "StopIteration")->E (.ref e) {s with heap:=h'}):wpAny (model prog w) A (Br (.ref it)) Q E s:=by
 cases tup with
 |true=>exact RP hh hi hs hx hE
 |false=>exact wpAny_nextOf_list_end hh hi hs hx hE
structure ZSt(t1 t2:Bool)(h:Heap)(z p q i1 i2 a b:Addr)(k:Nat)(f0:Value):Prop where
 zip:IsZip h z p q f0
 its:IsPair h p (.ref i1) (.ref i2)
 res: ∃u v,IsPair h q u v
 one:U9 t1 h i1 a k
 two:U9 t2 h i2 b k
theorem EZ{t1 t2:Bool}{z p q i1 i2 a b:Addr}{k:Nat}{xs ys:Array Value}{x y:Value}{Q:Value->Ag->Prop}(D:Kd z p q i1 i2 a b)(S:ZSt t1 t2 s.heap z p q i1 i2 a b k .none)
  (s1:RG t1 s.heap a xs) (s2:RG t2 s.heap b ys) (hx:xs[k]? =some x) (hy:ys[k]? =some y)
  (hQ: ∀h',ZSt t1 t2 h' z p q i1 i2 a b (k+1) (rawInt s.heap.objs.size)->IsPair h' s.heap.objs.size x y->h'.objs.size=s.heap.objs.size+1→
   (∀c o,c≠z->c≠q->c≠i1->c≠i2->s.heap.get? c=some o->h'.get? c=some o)->Q (.ref s.heap.objs.size) {s with heap:=h'}):
  wpAny (model prog w) A (Fw.«zip.__next__» ⟨[.ref z],[]⟩) (fun fin s'=> ∃v,fin= .done (.ret v)/\Q v s') E s:=by
 obtain⟨gz,gi,⟨u,v,gr⟩,g1,g2⟩:=S;show wpAny _ _ (field (Be z) 2>>=_) _ _ _;refine Ac (De gz rfl (x:= .bool false) rfl ?_);show wpAny _ _ (field (Be z) 3>>=_) _ _ _;refine Ac (De gz rfl (x:= .ref p) rfl (Ac (Es gi rfl ?_)));show wpAny _ _ (Cz (Be z)>>=_) _ _ _;refine Ac ?_
 (unfold Cz)
 refine Ac (De gz rfl (x:= .none) rfl (As ?_));simp only[if_true];refine Ac (Lo (Ac (De gz rfl (x:= .ref q) rfl (Ac (Em gz (by simp) fun ha za ba=>Ac ?_)))));have za:IsZip ha z p q .ellipsis:=za;simp only[Mx,Mi,Kg,Hk];refine Ac (Ac (Ja ?_));show wpAny _ _ (Br (Be i1)>>=_) _ _ _;refine Ac (SX (g1.ext ba.extBut D.i1z) (s1.ext ba.extBut D.l1z) hx fun hb n1 bb=>As ?_);have rb:IsPair hb q u v:=bb.extBut _ _ D.TOi1 (ba.extBut _ _ D.TOz gr);refine Ac (Es rb rfl (Ac (Gy rb fun hc rc bc=>Ac (My (As ?_)))));have rc:IsPair hc q x v:=rc;refine Ac (Ac (Ja ?_));show wpAny _ _ (Br (Be i2)>>=_) _ _ _;refine Ac (SX (((g2.ext ba.extBut D.i2z).ext bb.extBut D.i12.symm).ext bc.extBut D.TOi2.symm) (((s2.ext ba.extBut D.l2z).ext bb.extBut D.l2i1).ext bc.extBut D.l2TO) hy fun hd n2 bd=>As ?_);have rd:IsPair hd q x v:=bd.extBut _ _ D.TOi2 rc;refine Ac (Es rd rfl (Ac (Gy rd fun he re be=>Ac (My (As (As ?_))))));have re:IsPair he q x y:=re;refine Ac (Es re rfl (Ac (wpAny_newTuple ?_)));have size:he.objs.size=s.heap.objs.size:=by rw[be.1,bd.1,bc.1,bb.1,ba.1]
 have ze:IsZip he z p q .ellipsis:=be.extBut _ _ D.TOz.symm (bd.extBut _ _ D.i2z.symm (bc.extBut _ _ D.TOz.symm (bb.extBut _ _ D.i1z.symm za)));have ke: ∀c o,c≠z->c≠q->c≠i1->c≠i2->s.heap.get? c=some o->he.get? c=some o:=fun c o c1 c2 c3 c4 g=>be.extBut _ _ c2 (bd.extBut _ _ c4 (bc.extBut _ _ c2 (bb.extBut _ _ c3 (ba.extBut _ _ c1 g))));have e1:U9 t1 he i1 a (k+1):=((n1.ext bc.extBut D.TOi1.symm).ext bd.extBut D.i12).ext be.extBut D.TOi1.symm;have e2:U9 t2 he i2 b (k+1):=n2.ext be.extBut D.TOi2.symm;have ie:IsPair he p (.ref i1) (.ref i2):=ke _ _ D.TIz D.TITO D.TIi1 D.TIi2 gi;have zlt:z<he.objs.size:=Ar ze;show wpAny _ _ (Fq (Be z) (.ref he.objs.size)>>=_) _ _ _;refine Ac ?_
 (unfold Fq)
 have zf:IsZip (he.push {cls:= .type "tuple",data:= .seq #[x,y]}) z p q .ellipsis:=Ad _ ze;refine Ac (Em zf (by simp) fun hg zg bg=> ?_);have zg:IsZip hg z p q (rawInt he.objs.size):=zg;refine Em zg (by simp) fun hk zk bk=> ?_;have zk:IsZip hk z p q (rawInt he.objs.size):=zk;have up: ∀c o,c≠z->he.get? c=some o->hk.get? c=some o:=fun c o c1 g=>bk.extBut _ _ c1 (bg.extBut _ _ c1 (Ad _ g));have tk:IsPair hk he.objs.size x y:=bk.extBut _ _ (Fu zlt) (bg.extBut _ _ (Fu zlt) (At _ rfl));have szk:hk.objs.size=he.objs.size+1:=by rw[bk.1,bg.1,Cr]
 rw[size] at zk tk szk;refine As ⟨_,rfl,?_⟩;show Q (.ref he.objs.size) _;rw[size];exact hQ hk ⟨zk,up _ _ D.TIz ie,⟨x,y,up _ _ D.TOz re⟩,e1.at fun o g=>up _ o D.i1z g,e2.at fun o g=>up _ o D.i2z g⟩ tk szk fun c o c1 c2 c3 c4 g=>up c o c1 (ke c o c1 c2 c3 c4 g)
theorem CO{t1 t2:Bool}{z p q i1 i2 a b:Addr}{k:Nat}{xs ys:Array Value}{Q:Fin->Ag->Prop}(hh:A.handled=none)(D:Kd z p q i1 i2 a b)(S:ZSt t1 t2 s.heap z p q i1 i2 a b k .none)
  (s1:RG t1 s.heap a xs) (s2:RG t2 s.heap b ys) (fg:xs[k]? =none∨ys[k]? =none)
  (hE: ∀h' e,(∀c o,c≠z->c≠q->c≠i1->c≠i2->s.heap.get? c=some o->h'.get? c=some o)->(∃o,h'.get? e=some o/\o.cls= .type "StopIteration")->E (.ref e) {s with heap:=h'}):
  wpAny (model prog w) A (Fw.«zip.__next__» ⟨[.ref z],[]⟩) Q E s:=by
 obtain⟨gz,gi,⟨u,v,gr⟩,g1,g2⟩:=S;show wpAny _ _ (field (Be z) 2>>=_) _ _ _;refine Ac (De gz rfl (x:= .bool false) rfl ?_);show wpAny _ _ (field (Be z) 3>>=_) _ _ _;refine Ac (De gz rfl (x:= .ref p) rfl (Ac (Es gi rfl ?_)));show wpAny _ _ (Cz (Be z)>>=_) _ _ _;refine Ac ?_
 (unfold Cz)
 refine Ac (De gz rfl (x:= .none) rfl (As ?_));simp only[if_true];refine Ac (Lo (Ac (De gz rfl (x:= .ref q) rfl (Ac (Em gz (by simp) fun ha za ba=>Ac ?_)))));have za:IsZip ha z p q .ellipsis:=za;simp only[Mx,Mi,Kg,Hk];refine Ac (Ac (Ja ?_));show wpAny _ _ (Br (Be i1)>>=_) _ _ _;cases hx:xs[k]? with
 |none=>
  refine Ac (M3 hh (g1.ext ba.extBut D.i1z) (s1.ext ba.extBut D.l1z) hx fun hb e bb ⟨oe,ge,ce⟩=> ?_);have zb:IsZip hb z p q .ellipsis:=bb _ _ D.i1z.symm za;have ne:e≠z:=fun w=>by subst w;rw[zb] at ge;cases ge;simp at ce
  exact Em zb (by simp) fun hc _ bc=>hE hc e (fun c o c1 _ c3 _ g=>bc.extBut _ _ c1 (bb _ _ c3 (ba.extBut _ _ c1 g))) ⟨oe,bc.extBut _ _ ne ge,ce⟩
 |some x=>
  have hy:ys[k]? =none:=fg.resolve_left fun w=>by rw[hx] at w;cases w
  refine Ac (SX (g1.ext ba.extBut D.i1z) (s1.ext ba.extBut D.l1z) hx fun hb n1 bb=>As ?_);have rb:IsPair hb q u v:=bb.extBut _ _ D.TOi1 (ba.extBut _ _ D.TOz gr);refine Ac (Es rb rfl (Ac (Gy rb fun hc rc bc=>Ac (My (As (Ac (Ac (Ja ?_))))))));show wpAny _ _ (Br (Be i2)>>=_) _ _ _;refine Ac (M3 hh (((g2.ext ba.extBut D.i2z).ext bb.extBut D.i12.symm).ext bc.extBut D.TOi2.symm) (((s2.ext ba.extBut D.l2z).ext bb.extBut D.l2i1).ext bc.extBut D.l2TO) hy fun hd e bd ⟨oe,ge,ce⟩=> ?_);have zd:IsZip hd z p q .ellipsis:=bd _ _ D.i2z.symm (bc.extBut _ _ D.TOz.symm (bb.extBut _ _ D.i1z.symm za));have ne:e≠z:=fun w=>by subst w;rw[zd] at ge;cases ge;simp at ce
  exact Em zd (by simp) fun hf _ bf=>hE hf e (fun c o c1 c2 c3 c4 g=>bf.extBut _ _ c1 (bd _ _ c4 (bc.extBut _ _ c2 (bb.extBut _ _ c3 (ba.extBut _ _ c1 g))))) ⟨oe,bf.extBut _ _ ne ge,ce⟩
theorem HE{t1 t2:Bool}{z p q i1 i2 a b:Addr}{k:Nat}{xs ys:Array Value}{x y:Value}{Q:Option Value->Ag->Prop}(D:Kd z p q i1 i2 a b)(S:ZSt t1 t2 s.heap z p q i1 i2 a b k .none)
  (s1:RG t1 s.heap a xs) (s2:RG t2 s.heap b ys) (hx:xs[k]? =some x) (hy:ys[k]? =some y)
  (hQ: ∀h',ZSt t1 t2 h' z p q i1 i2 a b (k+1) (rawInt s.heap.objs.size)->IsPair h' s.heap.objs.size x y->h'.objs.size=s.heap.objs.size+1→
   (∀c o,c≠z->c≠q->c≠i1->c≠i2->s.heap.get? c=some o->h'.get? c=some o)->Q (some (.ref s.heap.objs.size)) {s with heap:=h'}):wpAny (model prog w) A (pyNext (.ref z)) Q E s:=by
 have ty:s.TypeIs (.ref z) "zip":=⟨_,S.zip,rfl⟩
 (unfold pyNext)
 exact Ac (wpAny_attempt (Ct (name:=Bb "__next__") ty Ho (Dy Ho ty Mj (EZ D S s1 s2 hx hy fun h' a1 a2 a3 a4=>As (hQ h' a1 a2 a3 a4)) (Lr _))))
theorem EA{t1 t2:Bool}{z p q i1 i2 a b:Addr}{k:Nat}{xs ys:Array Value}{Q:Option Value->Ag->Prop}(hh:A.handled=none)(D:Kd z p q i1 i2 a b)(S:ZSt t1 t2 s.heap z p q i1 i2 a b k .none)
  (s1:RG t1 s.heap a xs) (s2:RG t2 s.heap b ys) (fg:xs[k]? =none∨ys[k]? =none)
  (hQ: ∀h',(∀c o,c≠z->c≠q->c≠i1->c≠i2->s.heap.get? c=some o->h'.get? c=some o)->Q none {s with heap:=h'}):wpAny (model prog w) A (pyNext (.ref z)) Q E s:=by
 have ty:s.TypeIs (.ref z) "zip":=⟨_,S.zip,rfl⟩
 (unfold pyNext)
 refine Ac (wpAny_attempt (Ct (name:=Bb "__next__") ty Ho (Dy Ho ty Mj (CO hh D S s1 s2 fg fun h' e kk ⟨o,ge,ce⟩=> ?_) (Lr _))));exact Ac (wpAny_isInstance (T:= "StopIteration") (b:=true) ⟨o,ge,ce⟩ isSubtype_stop (As (hQ _ kk)))
end
noncomputable def zJX(tup:Bool):String:=if tup=true then "tuple_iterator" else "list_iterator"
noncomputable abbrev zO(tup:Bool)(a:Addr):Obj:={cls:= .type (zJX tup),data:= .fields #[.ref a,.int 0 0]}
theorem zDV{prog:Ax}{w:World}{A:Cm}{E:Value->Ag->Prop}{s:Ag}{tup:Bool}{a:Addr}{xs:Array Value}{Q:Value->Ag->Prop}(h:RG tup s.heap a xs)(hQ:Q (.ref s.heap.objs.size) {s with heap:=s.heap.push (zO tup a)}):
  wpAny (model prog w) A (pyIter (.ref a)) Q E s:=by
 cases tup with
 |true=>exact Fy h hQ
 |false=>exact Fk h hQ
theorem RG.push{tup:Bool}{h:Heap}{a:Addr}{xs:Array Value}(x:RG tup h a xs)(o:Obj):RG tup (h.push o) a xs:=by
 cases tup with
 |true=>obtain⟨o,e,r⟩:=x;exact⟨o,Ad _ e,r⟩
 |false=>obtain⟨o,e,r⟩:=x;exact⟨o,Ad _ e,r⟩
theorem CP(t1 t2:Bool)(a b:Addr)(xs ys:Array Value):
  Meets (Fw.«zip.__new__» ⟨[.type "zip",.ref a,.ref b],[]⟩) (fun _ R s=>RG t1 s.heap a xs/\RG t2 s.heap b ys/\ ∀h1 h2 h3 h4 h5,h1=s.heap.push (zO t1 a)->h2=h1.push (zO t2 b)->h3=h2.push {cls:= .type "tuple",data:= .seq #[.ref s.heap.objs.size,.ref h1.objs.size]}→
   h4=h3.push {cls:= .type "tuple",data:= .seq #[.none,.none]}->h5=h4.push {cls:= .type "zip",data:= .fields #[.none,.bool false,.bool false,.ref h2.objs.size,.ref h3.objs.size]}->R (.ok (.ret (.ref h4.objs.size))) {s with heap:=h5}):=by
 refine .of_wp fun prog w A R s h=> ?_;obtain⟨hp,g,d,tk,os⟩:=s;obtain⟨g1,g2,h⟩:=h;have hs:=sub_zip;have k1:RG t1 (Mw ⟨hp,g,d,tk,os⟩) a xs:=g1;have k2:RG t2 (Mw ⟨hp.push (zO t1 a),g,d,tk,os⟩) b ys:=RG.push g2 _;wp_walk using zDV k1,zDV k2
 exact⟨_,rfl,h _ _ _ _ _ rfl rfl rfl rfl rfl⟩
theorem DM{prog:Ax}{w:World}{A:Cm}{E:Value->Ag->Prop}{s:Ag}{t1 t2:Bool}{a b:Addr}{xs ys:Array Value}{Q:Value->Ag->Prop}(g1:RG t1 s.heap a xs)(g2:RG t2 s.heap b ys)
  (h: ∀h',ZSt t1 t2 h' (s.heap.objs.size+4) (s.heap.objs.size+2) (s.heap.objs.size+3) s.heap.objs.size (s.heap.objs.size+1) a b 0 .none->(∀c o,s.heap.get? c=some o->h'.get? c=some o)->Q (.ref (s.heap.objs.size+4)) {s with heap:=h'}):
  wpAny (model prog w) A (call (.type "zip") [.ref a,.ref b]) Q E s:=by
 refine callType_new F.called_zip (by decide) (F.typeCall_zip_2 _ _) (F.newCall_zip_2 _ _) (fun obj=>F.args_object_init_3 obj _ _) F.entry_zip_new (CP t1 t2 a b xs ys) ⟨g1,g2,?_⟩;rintro h1 h2 h3 h4 h5 e1 e2 e3 e4 e5;have z1:h1.objs.size=s.heap.objs.size+1:=by rw[e1,Cr]
 have z2:h2.objs.size=s.heap.objs.size+2:=by rw[e2,Cr,z1]
 have z3:h3.objs.size=s.heap.objs.size+3:=by rw[e3,Cr,z2]
 have z4:h4.objs.size=s.heap.objs.size+4:=by rw[e4,Cr,z3]
 have u4: ∀c o,h4.get? c=some o->h5.get? c=some o:=fun c o q=>by rw[e5];exact Ad _ q
 have u3: ∀c o,h3.get? c=some o->h5.get? c=some o:=fun c o q=>u4 c o (by rw[e4];exact Ad _ q);have u2: ∀c o,h2.get? c=some o->h5.get? c=some o:=fun c o q=>u3 c o (by rw[e3];exact Ad _ q);have u1: ∀c o,h1.get? c=some o->h5.get? c=some o:=fun c o q=>u2 c o (by rw[e2];exact Ad _ q);have u0: ∀c o,s.heap.get? c=some o->h5.get? c=some o:=fun c o q=>u1 c o (by rw[e1];exact Ad _ q);have o5:h5.get? h4.objs.size=some {cls:= .type "zip",data:= .fields #[.none,.bool false,.bool false,.ref h2.objs.size,.ref h3.objs.size]}:=by rw[e5];exact At _ rfl
 have o4:h5.get? h3.objs.size=some {cls:= .type "tuple",data:= .seq #[.none,.none]}:=u4 _ _ (by rw[e4];exact At _ rfl);have o3:h5.get? h2.objs.size=some {cls:= .type "tuple",data:= .seq #[.ref s.heap.objs.size,.ref h1.objs.size]}:=u3 _ _ (by rw[e3];exact At _ rfl);have o2:h5.get? h1.objs.size=some (zO t2 b):=u2 _ _ (by rw[e2];exact At _ rfl);have o1:h5.get? s.heap.objs.size=some (zO t1 a):=u1 _ _ (by rw[e1];exact At _ rfl);show _/\_;rw[z2,z3,z4] at o5;rw[z3] at o4;rw[z1,z2] at o3;rw[z1] at o2;rw[z4];refine⟨⟨_,o5,rfl⟩,h _ ⟨o5,o3,⟨_,_,o4⟩,?_,?_⟩ u0⟩
 ·cases t1 with
  |true=>exact⟨_,o1,rfl,rfl⟩
  |false=>exact⟨_,o1,rfl,rfl⟩
 ·cases t2 with
  |true=>exact⟨_,o2,rfl,rfl⟩
  |false=>exact⟨_,o2,rfl,rfl⟩
theorem zE5(n a b:Nat)(ha:a<n)(hb:b<n):Kd (n+4) (n+2) (n+3) n (n+1) a b:=by
 have f: ∀x y:Nat,x<y∨y<x->x≠y:=fun x y h=>by lia
 exact⟨f _ _ (by lia),f _ _ (by lia),f _ _ (by lia),f _ _ (by lia),f _ _ (by lia),f _ _ (by lia),f _ _ (by lia),f _ _ (by lia),f _ _ (by lia),f _ _ (by lia),f _ _ (by lia),f _ _ (by lia),f _ _ (by lia),f _ _ (by lia),f _ _ (by lia),f _ _ (by lia),f _ _ (by lia),f _ _ (by lia)⟩
noncomputable def Itz(K:Ai)(t1 t2:Bool)(a b:Addr):It:=
  ⟨fun i H => ∃ xs ys x y,MG K t1 H a xs /\ MG K t2 H b ys /\ xs[i]? = some x /\ ys[i]? = some y,
   fun i H v H'=> ∃p x y,(∀xs,MG K t1 H a xs->xs[i]? =some x)/\(∀ys,MG K t2 H b ys->ys[i]? =some y)/\H p=none/\H'=upd H p (.tup [x,y])/\v= .ref p,
   fun i H=> ∃xs ys,MG K t1 H a xs/\MG K t2 H b ys/\(xs.length<=i∨ys.length<=i)⟩
theorem B5{P:Ax}{w:World}{K:Ai}{es:List Expr}{k:Nat}{pos:Pos}(t1 t2:Bool)(z p q i1 i2 a b:Addr)(D:Kd z p q i1 i2 a b):
  GK P w K (.Tuple es k pos) (Itz K t1 t2 a b) [z,p,q,i1,i2] z (fun i h=>ZSt t1 t2 h z p q i1 i2 a b i .none) where
 mem:=by simp
 obj:=fun i h st c hc=>by
  simp only[Ap,Bk,or_false] at hc;rcases hc with rfl|rfl|rfl|rfl|rfl
  ·exact⟨_,st.zip,fun v e=>by cases e⟩
  ·exact⟨_,st.its,fun v e=>by cases e⟩
  ·obtain⟨u,v,g⟩:=st.res
   exact⟨_,g,fun v e=>by cases e⟩
  ·exact st.one.obj
  ·exact st.two.obj
 keep:=fun i h h' st kk=>by
  obtain⟨u,v,g⟩:=st.res;exact⟨kk z (by simp) _ st.zip,kk p (by simp) _ st.its,⟨u,v,kk q (by simp) _ g⟩,st.one.at fun o e=>kk i1 (by simp) o e,st.two.at fun o e=>kk i2 (by simp) o e⟩
 item:=by
  intro X hP hw hK hc i aa s σ H E I hf st hg;subst hP hw hK;obtain⟨xs,ys,x,y,hq1,hq2,hx,hy⟩:=hg;obtain⟨us,r1,g1,_⟩:=I.srcA hq1;obtain⟨vs,r2,g2,_⟩:=I.srcA hq2;obtain⟨u,hu,ru⟩:=r1.get hx;obtain⟨v,hv,rv⟩:=r2.get hy;refine HE D st g1 g2 (by simpa using hu) (by simpa using hv) fun h1 st1 hp hsz hk=>⟨_,rfl,?_⟩;refine wpAny_letOwnedTupleGo_zip (s:={s with heap:=h1}) st1.zip fun h2 z2 sb=> ?_;have sb:Ek z h1 h2:=sb;have lt: ∀c∈[z,p,q,i1,i2],c<s.heap.objs.size:=fun c hc=>by
   simp only[Ap,Bk,or_false] at hc;rcases hc with rfl|rfl|rfl|rfl|rfl
   ·exact Ar st.zip
   ·exact Ar st.its
   ·obtain⟨u,v,g⟩:=st.res
    exact Ar g
   ·obtain⟨o,e,_⟩:=st.one.obj
    exact Ar e
   ·obtain⟨o,e,_⟩:=st.two.obj
    exact Ar e
  have up: ∀c o,c≠z->h1.get? c=some o->h2.get? c=some o:=fun c o hcz e=>(sb.2 c hcz).trans e;have st2:ZSt t1 t2 h2 z p q i1 i2 a b (i+1) .none:=by
   obtain⟨u',v',g⟩:=st1.res;exact⟨z2,up _ _ D.TIz st1.its,⟨u',v',up _ _ D.TOz g⟩,st1.one.at fun o e=>up _ o D.i1z e,st1.two.at fun o e=>up _ o D.i2z e⟩
  have iy:h2.get? s.heap.objs.size=some {cls:= .type "tuple",data:= .seq #[u,v]}:=up _ _ (Fu (lt z (by simp))) hp;have bh:H s.heap.objs.size=none:=I.hok.fresh (Au _);have I0:cM X aa σ (upd H s.heap.objs.size (.tup [x,y])) {s with heap:=s.heap.push {cls:= .type "tuple",data:= .seq #[u,v]},toks:=s.toks}:=
   I.laid (fun c o e=>Ad _ e) (Au _) ⟨by show 2<=sizeLine;decide,[u,v],.cons ru (.cons rv .nil),Kz _ _⟩
  have I1:cM X aa σ (upd H s.heap.objs.size (.tup [x,y])) {s with heap:=h2,toks:=s.toks}:=by
   refine cM.turnedL (s:={s with heap:=s.heap.push {cls:= .type "tuple",data:= .seq #[u,v]},toks:=s.toks}) (h':=h2) (t':=s.toks) (fp:=[z,p,q,i1,i2]) I0 (fun c o hc e=> ?_) (fun c hc=> ?_) fun c hc=>⟨by rw[cY (Bl (lt c hc))];exact(hf c hc).1,(hf c hc).2⟩
   ·by_cases hcn:c=s.heap.objs.size
    ·subst hcn
     have e:(s.heap.push {cls:= .type "tuple",data:= .seq #[u,v]}).get? s.heap.objs.size=some o:=e;rw[At _ rfl] at e;cases e;exact iy
    ·have e':=(Lp _ _ _ hcn).symm.trans e
     exact up c o (fun w=>hc (by simp[w])) (hk c o (fun w=>hc (by simp[w])) (fun w=>hc (by simp[w])) (fun w=>hc (by simp[w])) (fun w=>hc (by simp[w])) e')
   ·simp only[Ap,Bk,or_false] at hc
    rcases hc with rfl|rfl|rfl|rfl|rfl
    ·exact⟨_,st2.zip⟩
    ·exact⟨_,st2.its⟩
    ·obtain⟨u,v,g⟩:=st2.res
     exact⟨_,g⟩
    ·obtain⟨o,e,_⟩:=st2.one.obj
     exact⟨o,e⟩
    ·obtain⟨o,e,_⟩:=st2.two.obj
     exact⟨o,e⟩
  exact⟨.ref s.heap.objs.size,_,I1,rfl,⟨_,x,y,fun zs hz=>by rw[I.sq_inj hz hq1];exact hx,fun zs hz=>by rw[I.sq_inj hz hq2];exact hy,bh,rfl,rfl⟩,st2,fun c hc=>by
   rw[cY (Bl (lt c hc))];exact(hf c hc).1⟩
 done:=by
  intro X hP hw hK hc i aa s σ H E I hf st hg;subst hP hw hK;obtain⟨xs,ys,hq1,hq2,fg⟩:=hg;obtain⟨us,r1,g1,_⟩:=I.srcA hq1;obtain⟨vs,r2,g2,_⟩:=I.srcA hq2;have l1:=r1.length;have l2:=r2.length;have he:us.toArray[i]? =none∨vs.toArray[i]? =none:=by
   rcases fg with z|z
   ·exact .inl (by simp;lia)
   ·exact .inr (by simp;lia)
  refine EA (I.ok.hd hc) D st g1 g2 he fun h1 hk=>⟨rfl,?_⟩;have fq: ∀c∈[z,q,i1,i2],c∈[z,p,q,i1,i2]:=fun c hc=>by
   simp only[Ap,Bk,or_false] at hc⊢;rcases hc with w|w|w|w<;>simp[w]
  have I':=cM.turnedL' (s:=s) (h':=h1) (t':=s.toks) (fp:=[z,q,i1,i2]) I (fun c o hc e=>hk c o (fun w=>hc (by simp[w])) (fun w=>hc (by simp[w])) (fun w=>hc (by simp[w])) (fun w=>hc (by simp[w])) e) fun c hc=>hf c (fq c hc);exact I'
 self:=fun _ i _ _ _ st h=>wpAny_pyIter_zip st.zip h
section
variable{X:Cx}{K:Ai}{ml:List Nat}{l m:Expr}{pa ta ia pb tb ib:Bool}{f g:VF}{p pos cv:Pos}{es:List Expr}{tk:Nat}{δ:Ev}
def iZp(K:Ai)(tl tm:TE):TI:=fun σ H R=>tl σ H fun x H1=>tm σ H1 fun y H2=> ∃a b t1 t2,x= .ref a/\y= .ref b/\(∃xs,MG K t1 H2 a xs)/\(∃ys,MG K t2 H2 b ys)/\R (Itz K t1 t2 a b) H2
theorem zFD{tl tm:TE}(hg:Gl X "zip") (hm:X.mg "zip"=none) (hl:PE X l tl) (hr:PE X m tm) (he:Ae (l::[m]) X.env=(false,eval l X.env)::Ae [m] X.env:=by rfl) (he2:Ae (m::[]) X.env=(false,eval m X.env)::Ae [] X.env:=by rfl)
  (hpl:(Dh pos (Ae [m] X.env)).any (·.1)=false:=by rfl):PI X (.Tuple es tk cv) (.Call (.Name "zip" p) [l,m] [] pos) (iZp X.K tl tm):=by
 intro aa s σ H R I h;refine Dv (QX I hg hm zHH ?_ (by decide) (by decide));refine Ec (ZX (a9 hl (a9 hr Y7 he2) he pos aa s σ H (fun vs H1=>match vs with
  |[x,y]=> ∃a b t1 t2,x= .ref a/\y= .ref b/\(∃xs,MG X.K t1 H1 a xs)/\(∃ys,MG X.K t2 H1 b ys)/\R (Itz X.K t1 t2 a b) H1
  |_=>False) I h) fun us s1 ⟨vs,H1,I1,r1,q1⟩=> ?_) he hpl
 match vs,r1,q1 with
 |[x,y],r1,q1=>
  obtain⟨a,b,t1,t2,rfl,rfl,⟨xs,hq1⟩,⟨ys,hq2⟩,hR⟩:=q1;obtain⟨u,v,rfl,ru,rv⟩:=F4 r1;cases ru;cases rv;obtain⟨us,w1,g1,_⟩:=I1.srcA hq1;obtain⟨vs,w2,g2,_⟩:=I1.srcA hq2;refine DM g1 g2 fun h' st kp=> ?_;have I2:cM X aa σ H1 {s1 with heap:=h'}:=I1.kept (t':=s1.toks) kp;have ha:=g1.lt;have hb:=g2.lt;have D:Kd (s1.heap.objs.size+4) (s1.heap.objs.size+2) (s1.heap.objs.size+3) s1.heap.objs.size (s1.heap.objs.size+1) a b:=by exact zE5 _ a b ha hb
  refine wpAny_pyIter_zip st.zip ⟨s1.heap.objs.size+4,[s1.heap.objs.size+4,s1.heap.objs.size+2,s1.heap.objs.size+3,s1.heap.objs.size,s1.heap.objs.size+1],_,Itz X.K t1 t2 a b,H1,rfl,I2,B5 t1 t2 _ _ _ _ _ a b D,st,fun c hc=> ?_,hR⟩;have hc':s1.heap.objs.size<=c:=by
   simp only[Ap,Bk,or_false] at hc;rcases hc with w|w|w|w|w<;>rw[w]<;>first|exact Dz _ _|exact Au _
  exact I1.fpOk hc' (I1.hok.fresh hc')
theorem zJP(h:X.K=K){tl tm:TE}(hg:Gl X "zip") (hm:X.mg "zip"=none) (hl:PE X l tl) (hr:PE X m tm) (he:Ae (l::[m]) X.env=(false,eval l X.env)::Ae [m] X.env:=by rfl) (he2:Ae (m::[]) X.env=(false,eval m X.env)::Ae [] X.env:=by rfl)
  (hpl:(Dh pos (Ae [m] X.env)).any (·.1)=false:=by rfl):PI X (.Tuple es tk cv) (.Call (.Name "zip" p) [l,m] [] pos) (iZp K tl tm):=by subst h;exact zFD hg hm hl hr he he2 hpl
noncomputable def TY:List dH->List dH->List dH
 |d::ds,e::es=> .tup [d,e]::TY ds es
 |_,_=>[]
noncomputable def iZip(f g:VF):VI:=fun δ=>(f δ).bind fun p=>(g p.2).bind fun q=>(X2 p.1).bind fun ds=>(X2 q.1).map fun es=>(TY ds es,q.2)
theorem KN: ∀{ds es:List dH} {i:Nat} {d:dH},(TY ds es)[i]? =some d-> ∃x y,ds[i]? =some x/\es[i]? =some y/\d= .tup [x,y]
 |[],_,_,_,h=>by simp[TY] at h
 |_::_,[],_,_,h=>by simp[TY] at h
 |x::ds,y::es,0,d,h=>by simp[TY] at h;exact⟨x,y,rfl,rfl,h.symm⟩
 |x::ds,y::es,i+1,d,h=>by
  obtain⟨x',y',h1,h2,h3⟩:=KN (ds:=ds) (es:=es) (i:=i) (d:=d) (by simpa[TY] using h);exact⟨x',y',by simpa using h1,by simpa using h2,h3⟩
theorem KO: ∀{ds es:List dH},ds.length<=(TY ds es).length∨es.length<=(TY ds es).length
 |[],_=> .inl (Dx _)
 |_::_,[]=> .inr (Dx _)
 |x::ds,y::es=>by
  rcases KO (ds:=ds) (es:=es) with h|h
  ·exact .inl (Ml h)
  ·exact .inr (Ml h)
def zJY:dH->Bool
 | .tup _=>true
 |_=>false
theorem bQ.sqA{N M:Addr->Prop}{H:Hp}{v:V}{d:dH}{ds:List dH}(h:bQ K N H M v d)(e:X2 d=some ds): ∃a tup xs,v= .ref a/\MG K tup H a xs/\cJ K N H xs ds/\tup=zJY d:=by
  cases d<;>first
    | (cases e
       obtain⟨a,xs,h1,h2,h3⟩:=h.tupE;exact⟨a,true,xs,h1,h2,h3,rfl⟩)
    | (cases e
       obtain⟨a,xs,h1,h2,h3⟩:=h.lstE;exact⟨a,false,xs,h1,h2,h3,rfl⟩)
    |cases e
theorem CD(hK:X.K=K)(hg:Gl X "zip") (hm:X.mg "zip"=none) (h:PE X l (TV K ml pa true true f)) (h':PE X m (TV K ml pb true true g)) (he:Ae (l::[m]) X.env=(false,eval l X.env)::Ae [m] X.env:=by rfl) (he2:Ae (m::[]) X.env=(false,eval m X.env)::Ae [] X.env:=by rfl)
  (hpl:(Dh pos (Ae [m] X.env)).any (·.1)=false:=by rfl):PI X (.Tuple es tk cv) (.Call (.Name "zip" p) [l,m] [] pos) (TIV K ml (pa && pb) (iZip f g)):=(zJP (K:=K) hK hg hm h h' he he2 hpl).imp fun σ H R hq0=>by
 obtain⟨B,O,δ,ds,δ2,S,q,k⟩:=hq0;unfold iZip at q;obtain⟨⟨x,δ1⟩,h1,q⟩:=Aa.mp q;cases h2:g δ1 with
 |none=>simp[h2] at q
 |some p2=>
  obtain⟨y,δ3⟩:=p2;simp only[Aq,h2] at q;obtain⟨xs,h3,q⟩:=Aa.mp q;have q:(X2 y).map (fun es=>(TY xs es,δ3))=some (ds,δ2):=q;obtain⟨ys,h4,q⟩:=Ao.mp q;cases q;refine⟨B,O,δ,x,δ1,S,h1,fun v1 H1 R1=>⟨B,O,δ1,y,_,R1.sta,h2,fun v2 H2 R2=> ?_⟩⟩;have r1:=R1.rep.fr R2.frm (fun a z=> .inr z) fun a z=> .inr z;obtain⟨a,t1,us,e1,q1,w1,et1⟩:=r1.sqA h3;obtain⟨b,t2,vs,e2,q2,w2,et2⟩:=R2.rep.sqA h4;refine⟨a,b,t1,t2,e1,e2,⟨us,q1⟩,⟨vs,q2⟩,k _ [(v1,x),(v2,y)] H2 (R2.sta.keepV fun z hz=> ?_) (R1.frm.trans R2.frm) (fun z=> ?_) ?_⟩
  ·simp only[Ap,Bk,or_false] at hz
   rcases hz with rfl|rfl
   ·exact r1
   ·exact R2.rep
  ·obtain⟨z1,z2⟩:=(Af _ _).mp z
   exact(R1.pur z1).trans (R2.pur z2)
  ·intro N H h
   obtain⟨a',t1',us',f1,f2,f3,f4⟩:=(h (v1,x) (by simp)).sqA h3;obtain⟨b',t2',vs',g1,g2,g3,g4⟩:=(h (v2,y) (by simp)).sqA h4;have f1:v1= .ref a':=f1;have g1:v2= .ref b':=g1;rw[e1] at f1;rw[e2] at g1;cases f1;cases g1;have:t1'=t1:=f4.trans et1.symm
   subst this;have:t2'=t2:=g4.trans et2.symm
   subst this;refine⟨fun i d e=> ?_,us',vs',f2,g2,?_⟩
   ·obtain⟨dx,dy,hx,hy,rfl⟩:=KN e
    obtain⟨ux,ex,rx⟩:=f3.get hx;obtain⟨uy,ey,ry⟩:=g3.get hy;refine⟨⟨us',vs',ux,uy,f2,g2,ex,ey⟩,fun z H' hz=> ?_⟩;obtain⟨pp,x',y',c1,c2,hp,rfl,rfl⟩:=hz;have d1:=c1 us' f2;have d2:=c2 vs' g2;rw[ex] at d1;rw[ey] at d2;cases d1;cases d2;exact⟨c7 hp,.tup (VC.of cX) (.cons (rx.same (c7 hp)) (.cons (ry.same (c7 hp)) .nil))⟩
   ·rcases KO (ds:=xs) (es:=ys) with w|w
    ·exact .inl (by rw[f3.length];exact w)
    ·exact .inr (by rw[g3.length];exact w)
end
end L2
namespace L2
open PySem PySem.Spec PyProof.Rows PySem.W
section
variable{prog:Ax}{w:World}{A:Cm}{E:Value->Ag->Prop}{s:Ag}
theorem HX{t:Addr}{items:Array Value}{Q:List Value->Ag->Prop}(hh:A.handled=none)(ht:IsTup s.heap t items)(h1:1<=items.size)(hz:items.size<=16777216)
  (hQ: ∀(x:Value) (hb:Heap) (tk:Nat),items[0]? =some x->(∀b o,s.heap.get? b=some o->hb.get? b=some o)->Q [x,.ref hb.objs.size] {s with heap:=hb.push {cls:= .type "list",data:= .seq (items.toList.drop 1).toArray},toks:=tk}):
  wpAny (model prog w) A (Kn (.ref t) 2 (some 1)) Q E s:=by
 have hne:t≠s.heap.objs.size:=by obtain⟨o,e,_⟩:=ht;exact Bl (Ar e)
 (unfold Kn)
 refine Ac ?_
 (unfold notIterableAtAll)
 refine Ac (wpAny_specialOf ht.typeIs slot_tuple_iter.lookup (As ?_));simp only[Hz,if_false];refine Ac (Cc (iter_tuple ht (Ac (Cc (draw_tuple hne 1 0 _ _ ⟨_,At _ rfl,rfl,rfl⟩ (ht.push _) (by lia) fun ha ia ba=> ?_)))));have ta:IsTup ha t items:=(ht.push _).extBut ba.extBut hne;have ia:ha.IsTupleIter s.heap.objs.size t 1:=ia;obtain⟨oi,gi,_⟩:=id ia;obtain⟨ot,gt,_⟩:=id ta;have hsz:ha.objs.size=s.heap.objs.size+1:=by rw[ba.1,Cr]
 have oa:((items.toList.drop 0).take 1).length=1:=by simp;lia
 rw[if_neg (show¬((items.toList.drop 0).take 1).length<1 by rw[oa];exact Cw _)];refine Ac (Cc (kun_collect (s:={s with heap:=ha}) (T:= "tuple_iterator") (.inr (.inr (.inr rfl))) (Walks.tuple (A:=A.in1) hh s.heap.objs.size t hne items) (fun j u st=>st.1.typeIs) (k:=1) h1 ⟨ia,ta⟩ (Ar gi) (Ar gt) (fun hb tk kb=> ?_) (by rw[Cb];exact hz)));have q8:(items.toList.drop 1).length=items.size - 1:=by simp
 show wpAny _ _ (if(items.toList.drop 1).length<2 - 1 - 1 then _ else _) _ _ _;rw[if_neg (Nat.not_lt_zero _)];show wpAny _ _ (newList ((items.toList.drop 1).take ((items.toList.drop 1).length - (2 - 1 - 1)))>>=fun d=>pure ((items.toList.drop 0).take 1++[d]++(items.toList.drop 1).drop ((items.toList.drop 1).length - (2 - 1 - 1)))) _ _ _;have e1:(items.toList.drop 1).take ((items.toList.drop 1).length - (2 - 1 - 1))=items.toList.drop 1:=Dk (Au _);have e2:(items.toList.drop 1).drop ((items.toList.drop 1).length - (2 - 1 - 1))=[]:=Je;rw[e1,e2];refine Ac (Dq (As ?_) (by show _<=sizeLine;rw[Cb];simp;lia));obtain⟨x,hx⟩: ∃x,items[0]? =some x:=⟨items[0],by simp[show 0<items.size by lia]⟩;have e3:(items.toList.drop 0).take 1=[x]:=by
  rw[Nf];have:items.toList[0]? =some x:=by simpa using hx
  cases hl:items.toList with
  |nil=>rw[hl] at this;cases this
  |cons y r=>rw[hl] at this;cases this;rfl
 rw[e3];have keep: ∀b o,s.heap.get? b=some o->hb.get? b=some o:=fun b o e=>kb b o (Bl (Ar e)) (ba.extBut b o (Bl (Ar e)) (Ad _ e));exact hQ x hb tk hx keep
end
section
variable{X:Cx}{K:Ai}{ml:List Nat}{e a b c:Expr}{es:List Expr}{pa ta ia pb tb ib pc tc ic pu bt bi ps bs:Bool}{fa fb fc f:VF}{B B':Bs}{O:Nat->Option Addr}{H H0 H1 H':Hp}{σ:St}{δ δ':Ev}{v:V}{d:dH}{p:Addr}{pos:Pos}
def zK3(K:Ai)(i j:Nat):TG:=fun v σ H Q=> ∃a x xs,v= .ref a/\VC K H a (x::xs)/\ ∀p,H p=none->Q ((σ.set i (some x)).set j (some (.ref p))) (upd H p (.lst xs))
theorem zC4{i j:Nat}{x y:Str}{px py ps tp:Pos}{k:Nat}(hc:X.calm=true)(hN:X.N.Nodup)(hi:X.N[i]? =some x)(hj:X.N[j]? =some y)(hx:Loc X.env.scope x)(hy:Loc X.env.scope y)
  (fx:X.fn x=true∨X.env.scope.names.lookup x=some .local) (fy:X.fn y=true∨X.env.scope.names.lookup y=some .local)
  (hl:(assignEach [.Name x px,.Starred (.Name y py) ps] X.env).map (·.2)=[assign (.Name x px) X.env,assign (.Name y py) X.env]) (hn:(assignEach [.Name x px,.Starred (.Name y py) ps] X.env).length=2) (hst:(assignEach [.Name x px,.Starred (.Name y py) ps] X.env).findIdx? (·.1)=some 1):
  PG X (.Tuple [.Name x px,.Starred (.Name y py) ps] k tp) (zK3 X.K i j):=by
 intro aa s σ H v u Q I r hw;obtain⟨a,z,zs,e1,hq,q⟩:=hw;subst e1;cases r;obtain⟨its,rv,ht,hz⟩:=I.tuple hq;rw[assign_Tuple];refine Ac (Gz ?_)
 (unfold unpack)
 rw[hn,hst];have ag:=rv.length;rw[Az] at ag;have hz':its.length<=16777216:=by rw[<- Cb,<- ag];exact hz
 refine Ac (Cc (HX (I.ok.hd hc) ht (by rw[Am];lia) (by rw[Am];exact hz') fun u hb tk hu kp=> ?_));rw[hl];cases rv with
 | @cons _ w _ ws rz rzs=>
  have hu:some w=some u:=by simpa using hu
  cases hu;have I1:cM X aa σ H {s with heap:=hb,toks:=tk}:=I.kept kp;have I2:=cM.lnew (s:={s with heap:=hb,toks:=tk}) (t':=tk) I1 rzs (by rw[Cb];simp only[Az] at hz' ag;have:=rzs.length;lia);refine Hu (Gj (R0 I2 hN hi hx rz (fun s3 I3=> ?_) fx));refine Hu (Gj (R0 I3 hN hj hy (v:= .ref hb.objs.size) rfl (fun s4 I4=>Li ⟨_,_,I4,q _ (I1.hok.fresh (Au _))⟩) fy))
noncomputable def M9(i j:Nat)(f:VF):VS:=fun δ=>(f δ).bind fun p=>match p.1 with
 | .tup (d::ds)=>some (.nx ((p.2.set i (.va d)).set j (.va (.lst ds))))
 |_=>none
theorem GC{i j:Nat}{x y:Str}{px py sp tp:Pos}{k:Nat}(hK:X.K=K)(hc:X.calm=true)(hN:X.N.Nodup)(hi:X.N[i]? =some x)(hj:X.N[j]? =some y)(hij:i≠j)(hx:Loc X.env.scope x)(hy:Loc X.env.scope y)(he:PE X e (TV K ml pu true true f))
  (hmi:i∉ml:=by decide) (hmj:j∉ml:=by decide)
  (fx:X.fn x=true∨X.env.scope.names.lookup x=some .local:=by first|exact .inl rfl|exact .inr rfl|assumption) (fy:X.fn y=true∨X.env.scope.names.lookup y=some .local:=by first|exact .inl rfl|exact .inr rfl|assumption)
  (hl:(assignEach [.Name x px,.Starred (.Name y py) sp] X.env).map (·.2)=[assign (.Name x px) X.env,assign (.Name y py) X.env]:=by rfl) (hn:(assignEach [.Name x px,.Starred (.Name y py) sp] X.env).length=2:=by rfl) (hst:(assignEach [.Name x px,.Starred (.Name y py) sp] X.env).findIdx? (·.1)=some 1:=by rfl)
  (hs:Iv [.Tuple [.Name x px,.Starred (.Name y py) sp] k tp] e pos.line X.env=pure false:=by rfl) (hw:Iw [.Tuple [.Name x px,.Starred (.Name y py) sp] k tp] e X.env=pure none:=by rfl)
  (h1:(assignEach [.Tuple [.Name x px,.Starred (.Name y py) sp] k tp] X.env).map (·.2)=[assign (.Tuple [.Name x px,.Starred (.Name y py) sp] k tp) X.env]:=by rfl):
  PS X (.Assign [.Tuple [.Name x px,.Starred (.Name y py) sp] k tp] e pos) (SD K ml (M9 i j f)):=by
 subst hK;refine(HM he (zC4 hc hN hi hj hx hy fx fy hl hn hst) hs hw h1).imp fun D σ H hq0=> ?_;obtain⟨B,O,δ,o,S,q,k⟩:=hq0;unfold M9 at q;obtain⟨⟨z,δ1⟩,h1,q⟩:=Aa.mp q;refine⟨B,O,δ,z,δ1,S,h1,fun v H1 R=> ?_⟩;cases z with
 |tup ds=>
  cases ds with
  |nil=>cases q
  |cons d ds=>
   cases q;obtain⟨a,xs,rfl,sq,r⟩:=R.rep.tupE;cases r with
   | @cons v0 vs _ _ r1 r2=>
    refine⟨a,v0,vs,rfl,sq,fun p hp=> ?_⟩;have S1:=(R.sta.same (c7 (o:= .lst vs) hp)).setVa hmi (r1.same (c7 (o:= .lst vs) hp));have N1: ∀c,Nn B (fun j=>if j=i then none else O j) c->Nn B O c:=P8 (o:=none);refine k _ _ _ (S1.setVa hmj (.lst cX (fun z=>R.sta.new hp (N1 _ z)) ((r2.same (c7 hp)).mono N1)))
 |_=>cases q
end
end L2
namespace L2
open PySem PySem.Spec PyProof.Rows
section
variable{X:Cx}{K:Ai}{ml:List Nat}{e a b c:Expr}{es:List Expr}{pa ta ia pb tb ib pc tc ic pu bt bi ps bs:Bool}{fa fb fc f:VF}{B B':Bs}{O:Nat->Option Addr}{H H0 H1 H':Hp}{σ:St}{δ δ':Ev}{v:V}{d:dH}{p:Addr}{pos:Pos}
def rInD(K:Ai)(neg:Bool):R2:=fun x y H Q=> ∃d e ds,Dp K H x d/\Dp K H y e/\(e= .list ds∨e= .tuple ds)/\Dt d=true/\Dt e=true/\Q (.bl (if neg then !ds.any (fun z=>He z d) else ds.any fun z=>He z d)) H
theorem RY{d:Kf}(h:Dt d=true):d.canLay0=true/\d.depth<=64:=by
 unfold Dt at h;simp only[Af,decide_eq_true_eq] at h;exact h
theorem zA2(neg:Bool)(hu:X.A.units+64<cLine):XS X (Cg (if neg then .NotIn else .In)) (rInD X.K neg):=by
 intro aa s σ H x y v u Q I rx ry h;obtain⟨d,e,ds,hd,he,hk,sd,se,q⟩:=h;obtain⟨as,h1⟩:=I.reads hd rx;obtain⟨bs,h2⟩:=I.reads he ry;obtain⟨c1,d1⟩:=RY sd;obtain⟨c2,d2⟩:=RY se;have fin: ∀k,(k=if neg then !ds.any (fun z=>He z d) else ds.any fun z=>He z d)->EP X aa σ Q (.bool k) s:=fun k hk=>by subst hk;exact⟨.bl _,H,I,rfl,q⟩
 rcases hk with rfl|rfl
 ·have hc : Go ds = true := by simpa [Ff] using c2
  have ph:Ef ds<=63:=by simp only[Gs] at d2;lia
  have hm:X.A.units+1+min (Ef ds) d.depth<cLine:=by have:=Mz (Ef ds) d.depth;lia
  cases neg with
  |false=>exact SeqAt.in_list_reads h2 h1 hc c1 hm (fin _ rfl)
  |true=>exact SeqAt.notIn_list_reads h2 h1 hc c1 hm (fin _ rfl)
 ·have hc : Go ds = true := by simpa [Ff] using c2
  have ph:Ef ds<=63:=by simp only[Gs] at d2;lia
  have hm:X.A.units+1+min (Ef ds) d.depth<cLine:=by have:=Mz (Ef ds) d.depth;lia
  cases neg with
  |false=>exact SeqAt.in_tuple_reads h2 h1 hc c1 hm (fin _ rfl)
  |true=>exact SeqAt.notIn_tuple_reads h2 h1 hc c1 hm (fin _ rfl)
theorem G8(h:X.K=K)(hu:X.A.units+64<cLine):XS X (Cg .In) (rInD K false):=by subst h;exact zA2 false hu
theorem LM(h:X.K=K)(hu:X.A.units+64<cLine):XS X (Cg .NotIn) (rInD K true):=by subst h;exact zA2 true hu
def inE(d:dH)(ds:List dH):Bool:=(CU ds).any fun z=>He z d.pd
noncomputable def TR(neg:Bool)(d e:dH):Option dH:=(X2 e).bind fun ds=>if(M5 d && M5 e)=true then some (.bl (if neg then !inE d ds else inE d ds)) else none
theorem TL{neg:Bool}:P0 K (rInD K neg) (TR neg):=by
 intro H N N' M M' x y d e c Q hx hy h k;unfold TR at h;obtain⟨ds,hs,h⟩:=Aa.mp h;have h:(if(M5 d && M5 e)=true then some (dH.bl (if neg then !inE d ds else inE d ds)) else none)=some c:=h;split at h
 ·rename_i hh
  cases h;simp only[M5,Af] at hh;refine⟨d.pd,e.pd,CU ds,hx.dp hh.1.1,hy.dp hh.2.1,?_,hh.1.2,hh.2.2,k _ fun _ _ _=> .bl _⟩;cases e<;>first
   |(cases hs;exact .inr rfl)
   |(cases hs;exact .inl rfl)
   |cases hs
 ·cases h
def zI4(K:Ai)(td ty:TE):TE:=fun σ H Q=>td σ H fun x H1=> ∃a,x= .ref a/\((IsD H1 a/\ty σ H1 fun y H2=> ∃o,NH H2 a y o/\Q (o.getD .non) H2)∨ ∃D,KTab K a D/\ty σ H1 fun y H2=> ∃k,y= .str k/\Q ((Er k D).getD .non) H2)
theorem AE{ah ae:Pos}{td ty:TE}(hu:X.A.units+1<cLine)(ho:PE X a td)(he:PE X e ty)(m:M1 X a "get" ah e ae):PE X (.Call (.Attribute a "get" ah) [e] [] ae) (zI4 X.K td ty):=by
 intro aa s σ H Q I h;refine wpAny_Call_method m.base m.few m.line PySem.F.plainAttrs_dict Fj PySem.F.type_dict_get (ZX (ho aa s σ H _ I h) fun u s1 ⟨x,H1,I1,rx,l,ex,q1⟩=> ?_);subst ex;obtain rfl:u=Be l:=rx;rcases q1 with⟨hd,q1⟩|⟨D,T,q1⟩
 ·obtain⟨t1,t2,_⟩:=zHC I1 hd
  refine⟨t1,t2,?_⟩;rw[m.trees];refine Gg rfl (Gw (Hv (ZX (he aa s1 σ H1 _ I1 q1) fun iv s2 ⟨y,H2,I2,ry,ov,g,q2⟩=>Ih ?_)));exact zHF hu I2 g ry fun w' s3 I3 rw'=>⟨_,H2,I3,rw',q2⟩
 ·obtain⟨oj,o,qf,ep,hk,hex,eh,_⟩:=id T
  refine⟨⟨o,I1.kIn _ _ hk,hex.1⟩,fun b q=> ?_,?_⟩
  ·cases q
   exact⟨o,I1.kIn _ _ hk,hex.2.1⟩
  rw[m.trees];refine Gg rfl (Gw (Hv (ZX (he aa s1 σ H1 _ I1 q1) fun iv s2 ⟨y,H2,I2,ry,k,ey,q2⟩=>Ih ?_)));subst ey;obtain⟨t,rfl⟩:=ry;have hT:s2.TypeIs (.ref l) "dict":=⟨o,I2.kIn _ _ hk,hex.1⟩;refine Dy Fj hT Gh ?_ (Gd _ _);show wpAny _ _ (dictGet l (.str k t)>>=_) _ _ s2;refine Ac (JQ I2.kIn T (fun d' v' ha hv=>As ⟨v',rfl,?_⟩) fun hn=> ?_)
  ·rw[ha] at q2
   exact⟨d',H2,I2.tok _,hv,q2⟩
  ·rw[hn] at q2
   show wpAny _ _ (Kp l (.str k t)>>=_) _ _ _;unfold Kp;rw[if_neg (by rw[oj];exact Du)];exact Ac (As (As ⟨.none,rfl,.non,H2,I2.tok _,rfl,q2⟩))
noncomputable def zDT:dH->dH->Option dH
 | .dct ks ds,.str x=>some ((bM ks ds (.inr x)).getD .non)
 |_,_=>none
theorem zBD{ah ae:Pos}(hK:X.K=K)(hu:X.A.units+1<cLine)(ha:PE X a (TV K ml pa ta ia fa))(hb:PE X b (TV K ml pb tb ib fb))(m:M1 X a "get" ah b ae) (hs:(pb || (ta && ia))=true:=by rfl):
  PE X (.Call (.Attribute a "get" ah) [b] [] ae) (TV K ml (pa && pb) ia ia (f2 zDT fa fb)):=by
 subst hK;refine(AE hu ha hb m).imp fun σ H Q hq0=> ?_;obtain⟨B,O,δ,d,δ2,S,q,k⟩:=hq0;obtain⟨x,δ1,y,h1,h2,h3⟩:=N6 q;refine⟨B,O,δ,x,δ1,S,h1,fun v1 H1 R1=> ?_⟩;have fin: ∀v2 H2 (R2:CQ X.K ml B O H1 σ pb tb ib H2 δ2 v2 y) o,bQ X.K (av B O ia) H2 (av B O ia) o d->Q o H2:=fun v2 H2 R2 o ho=>k o H2 ⟨R2.sta,R1.frm.trans R2.frm,fun z=>by
  obtain⟨z1,z2⟩:=(Af _ _).mp z;exact(R1.pur z1).trans (R2.pur z2),ho.mono (fun _ z=>z) zE2⟩
 cases x with
 |dct ks ds=>
  cases y with
  |str z=>
   cases h3;generalize hx:dH.dct ks ds=dd at R1;have r1:=R1.rep;cases r1 with
   | @dct _ l kvs ds' qd n r=>
    cases hx;refine⟨l,rfl,.inl ⟨.inl ⟨_,Rd.of qd⟩,B,O,δ1,_,δ2,R1.sta,h2,fun v2 H2 R2=> ?_⟩⟩;have r2:=R2.rep;cases r2;have h4:H2 l=some (.dK kvs)/\cJ X.K (av B O ia) H2 (kvs.map Eu) ds:=by
     cases pb with
     |true=>exact⟨R2.pur rfl _ _ qd,r.same (R2.pur rfl)⟩
     |false=>
      have hs:(ta && ia)=true:=by simpa using hs
      obtain⟨z1,z2⟩:=(Af _ _).mp hs;subst z1 z2;exact⟨R2.frm _ _ qd fun w=>absurd (.inr w) n,r.fr R2.frm fun a z=> .inr z⟩
    refine⟨_,NH.k (k:= .inr z) h4.1,fin _ _ R2 _ ?_⟩;rcases OJ (k:= .inr z) h4.2 with⟨v,d',g1,g2,g3⟩|⟨g1,g2⟩
    ·rw[g1,g2];exact g3
    ·rw[g1,g2];exact .non
   | @ktb _ l D ds' T r=>
    cases hx;refine⟨l,rfl,.inr ⟨D,T,B,O,δ1,_,δ2,R1.sta,h2,fun v2 H2 R2=> ?_⟩⟩;have r2:=R2.rep;cases r2;refine⟨z,rfl,fin _ _ R2 _ ?_⟩;have r':cJ X.K (av B O ia) H2 (D.map Eu) ds:=by
     cases pb with
     |true=>exact r.same (R2.pur rfl)
     |false=>
      have hs:(ta && ia)=true:=by simpa using hs
      obtain⟨z1,z2⟩:=(Af _ _).mp hs;subst z1 z2;exact r.fr R2.frm fun a z=> .inr z
    rcases QO (k:=z) r' with⟨v,d',g1,g2,g3⟩|⟨g1,g2⟩
    ·rw[g1,g2];exact g3
    ·rw[g1,g2];exact .non
   |_=>cases hx
  |_=>cases h3
 |_=>cases h3
end
theorem GQ:Bf "all"=some (.builtin "all"):=by decide+kernel
theorem zHK:Bf "any"=some (.builtin "any"):=by decide+kernel
section
variable{X:Cx}{K:Ai}{ml:List Nat}{e a b c:Expr}{es:List Expr}{pa ta ia pb tb ib pc tc ic pu bt bi ps bs:Bool}{fa fb fc f:VF}{B B':Bs}{O:Nat->Option Addr}{H H0 H1 H':Hp}{σ:St}{δ δ':Ev}{v:V}{d:dH}{p:Addr}{pos:Pos}
theorem zD5{ks:List Bool}{us:List Value}(r:bT (ks.map V.bl) us){i:Nat}{u:Value}(h:us[i]? =some u): ∃k,ks[i]? =some k/\u= .bool k:=by
 have hl:=r.length;rw[Av] at hl;have hi:i<us.length:=(Ak.mp h).1;have e:(ks.map V.bl)[i]? =some (.bl ks[i]):=by simp[hl▸hi]
 obtain⟨w,h1,h2⟩:=r.get e;rw[h] at h1;cases h1;exact⟨ks[i],by simp[hl▸hi],h2⟩
theorem EH{ks:List Bool}:(Cs ks.length).all (fun i=>(ks[i]?).getD true)=ks.all id:=by
 induction ks with
 |nil=>rfl
 |cons k ks ih=>
  rw[Az,Ji,Nx,Od,Nx,<- ih];rfl
theorem EI{ks:List Bool}:(Cs ks.length).any (fun i=>(ks[i]?).getD true)=ks.any id:=by
 induction ks with
 |nil=>rfl
 |cons k ks ih=>
  rw[Az,Ji,Gc,List.any_map,Gc,<- ih];rfl
def OS(K:Ai)(g:List Bool->Bool):RC:=fun xs H Q=> ∃p ks,xs=[.ref p]/\XZ K H p (ks.map V.bl)/\Q (.bl (g ks)) H
theorem KH{prog:Ax}{w:World}{A:Cm}{ks:List Bool}{us:List Value}(r:bT (ks.map V.bl) us):TruthOf prog w A (fun i v=>us.toArray[i]? =some v) fun i=>(ks[i]?).getD true:=by
 intro i v s Q E hP hQ;obtain⟨k,h1,rfl⟩:=zD5 r (by simpa using hP);have hQ:Q ((ks[i]?).getD true) s:=hQ;rw[h1] at hQ;exact Eb hQ
theorem DI(hc:X.calm=true):aW X (.builtin "all") (OS X.K fun ks=>ks.all id):=by
 intro aa s σ H xs us Q I r h;obtain⟨l,ks,rfl,hq,q⟩:=h;obtain⟨u,rfl,rx⟩:=TM r;cases rx;obtain⟨its,rv,pl,hz⟩:=I.list hq;have hl:=pl.isList;have hne:l≠s.heap.objs.size:=by obtain⟨o,g,_⟩:=hl;exact Bl (Ar g)
 have ag:=rv.length;rw[Av] at ag;refine call_all_walk (Fk hl ⟨_,_,_,_,_,_,_,rfl,Walks.list (show X.A.in1.handled=none from I.ok.hd hc) s.heap.objs.size l hne its.toArray,⟨⟨_,At _ rfl,rfl,rfl⟩,?_⟩,KH rv,fun h' tk hk=> ?_⟩)
 ·obtain⟨o,g,r⟩:=hl
  exact⟨o,Ad _ g,r⟩
 ·rw[Am,<- ag,EH]
  exact⟨.bl _,H,I.kept (t':=tk) fun b o g=>hk b o (by simp;exact Bl (Ar g)) (Ad _ g),rfl,q⟩
theorem DJ(hc:X.calm=true):aW X (.builtin "any") (OS X.K fun ks=>ks.any id):=by
 intro aa s σ H xs us Q I r h;obtain⟨l,ks,rfl,hq,q⟩:=h;obtain⟨u,rfl,rx⟩:=TM r;cases rx;obtain⟨its,rv,pl,hz⟩:=I.list hq;have hl:=pl.isList;have hne:l≠s.heap.objs.size:=by obtain⟨o,g,_⟩:=hl;exact Bl (Ar g)
 have ag:=rv.length;rw[Av] at ag;refine call_any_walk (Fk hl ⟨_,_,_,_,_,_,_,rfl,Walks.list (show X.A.in1.handled=none from I.ok.hd hc) s.heap.objs.size l hne its.toArray,⟨⟨_,At _ rfl,rfl,rfl⟩,?_⟩,KH rv,fun h' tk hk=> ?_⟩)
 ·obtain⟨o,g,r⟩:=hl
  exact⟨o,Ad _ g,r⟩
 ·rw[Am,<- ag,EI]
  exact⟨.bl _,H,I.kept (t':=tk) fun b o g=>hk b o (by simp;exact Bl (Ar g)) (Ad _ g),rfl,q⟩
theorem kAll(h:X.K=K)(hc:X.calm=true):aW X (.builtin "all") (OS K fun ks=>ks.all id):=by subst h;exact DI hc
theorem kAny(h:X.K=K)(hc:X.calm=true):aW X (.builtin "any") (OS K fun ks=>ks.any id):=by subst h;exact DJ hc
noncomputable def QM:List dH->Option (List Bool)
 |[]=>some []
 | .bl k::ds=>(QM ds).map fun ks=>k::ks
 |_=>none
theorem E3{N:Addr->Prop}: ∀{xs:List V} {ds:List dH} {ks:List Bool},cJ K N H xs ds->QM ds=some ks->xs=ks.map V.bl
 |_,_,_,.nil,h=>by cases h;rfl
 | _,_,_,@cJ.cons _ _ _ v vs d ds h t,e => by
  cases d with
  |bl k=>
   cases h;have e:(QM ds).map (fun ks=>k::ks)=some _:=e;cases h2:QM ds with
   |none=>rw[h2] at e;cases e
   |some ks'=>
    rw[h2] at e;cases e;rw[E3 t h2,Ay]
  |_=>cases e
noncomputable def FO(g:List Bool->Bool):dH->Option dH
 | .lst ds=>(QM ds).map fun ks=> .bl (g ks)
 |_=>none
noncomputable abbrev oAll:=FO fun ks=>ks.all id
noncomputable abbrev oAny:=FO fun ks=>ks.any id
theorem BI{g:List Bool->Bool}:GD K (OS K g) (FO g):=by
 intro H N M x d c Q hx h k;cases d with
 |lst ds=>
  have h:(QM ds).map (fun ks=>dH.bl (g ks))=some c:=h;obtain⟨ks,h1,h⟩:=Ao.mp h;cases h;obtain⟨a,xs,rfl,sq,r⟩:=hx.lstE;have:=E3 r h1
  subst this;exact⟨a,ks,rfl,sq,k _ fun _ _ _=> .bl _⟩
 |_=>cases h
theorem BH:GD K (OS K fun ks=>ks.all id) oAll:=BI
theorem zIN:GD K (OS K fun ks=>ks.any id) oAny:=BI
noncomputable def UV:List dH->Option (List Int)
 |[]=>some []
 | .int i::ds=>(UV ds).map fun ns=>i::ns
 |_=>none
theorem OH{N:Addr->Prop}: ∀{xs:List V} {ds:List dH} {ns:List Int},cJ K N H xs ds->UV ds=some ns->xs=ns.map V.int
 |_,_,_,.nil,h=>by cases h;rfl
 | _,_,_,@cJ.cons _ _ _ v vs d ds h t,e => by
  cases d with
  |int k=>
   cases h;have e:(UV ds).map (fun ks=>k::ks)=some _:=e;cases h2:UV ds with
   |none=>rw[h2] at e;cases e
   |some ks'=>
    rw[h2] at e;cases e;rw[OH t h2,Ay]
  |_=>cases e
theorem J7{N:Addr->Prop}: ∀ns:List Int,cJ K N H (ns.map V.int) (ns.map dH.int)
 |[]=> .nil
 |i::ns=> .cons (.int i) (J7 ns)
def RZ(ns:List Int):List Int:=ns.mergeSort (fun a b=>decide (a<=b))
theorem KD{ms ns:List Int}(h1:ms.Perm ns)(h2:ms.Pairwise (· <= ·)):ms=RZ ns:=by
 have p:(RZ ns).Perm ns:=List.mergeSort_perm _ _;have s:(RZ ns).Pairwise (fun a b=>decide (a<=b)=true):=List.pairwise_mergeSort (fun a b c h1 h2=>by simp at h1 h2⊢;lia) (fun a b=>by simp;lia) ns;have s':(RZ ns).Pairwise (· <= ·):=s.imp fun h=>of_decide_eq_true h;exact List.Perm.eq_of_pairwise (fun a b _ _ h1 h2=>Int.le_antisymm h1 h2) h2 s' (h1.trans p.symm)
noncomputable def HG:dH->Option dH
 | .lst ds=>(UV ds).bind fun ns=>if ns.length<64 then some (.lst ((RZ ns).map dH.int)) else none
 |_=>none
def A7(K:Ai):RC:=fun xs H Q=> ∃(p:Addr) (ns:List Int),xs=[.ref p]/\XZ K H p (ns.map V.int)/\ns.length<64/\ ∀(l:Addr) (ms:List Int),H l=none->ms.Perm ns->ms.Pairwise (· <= ·)->Q (.ref l) (upd H l (.lst (ms.map V.int)))
theorem zH8(h:X.K=K):aW X (.builtin "sorted") (A7 K):=zCQ h
theorem zCK:CalN K (A7 K) HG:=by
 intro H N M x d c Q hx h k;cases d with
 |lst ds=>
  have h:((UV ds).bind fun ns=>if ns.length<64 then some (dH.lst ((RZ ns).map dH.int)) else none)=some c:=h;obtain⟨ns,h1,h⟩:=Aa.mp h;have h:(if ns.length<64 then some (dH.lst ((RZ ns).map dH.int)) else none)=some c:=h;split at h
  ·rename_i hl
   cases h;obtain⟨a,xs,rfl,sq,r⟩:=hx.lstE;have:=OH r h1
   subst this;refine⟨a,ns,rfl,sq,hl,fun l ms hl' h2 h3=> ?_⟩;have:=KD h2 h3
   subst this;exact k l _ _ hl' (J7 _) rfl
  ·cases h
 |_=>cases h
end
section
variable{X:Cx}{K:Ai}{ml:List Nat}{e:Expr}{es:List Expr}{pu bt bi bs:Bool}{f:VF}{fs:RH}
theorem dC(h:PE X e (TV K ml pu bt bi f))(hb:(bt && bi)=true:=by rfl):PE X e (TV K ml pu true true f):=by
 obtain⟨h1,h2⟩:=(Af _ _).mp hb;subst h1 h2;exact h
theorem zDB(h:PE X e (TV K ml pu bt bi f))(hb:bi=true:=by rfl):PE X e (TV K ml pu bt true f):=by
 subst hb;exact h
theorem cA(h:PA X es (IK K ml pu bs fs))(hb:bs=true:=by rfl):PA X es (IK K ml pu true fs):=by
 subst hb;exact h
theorem WS{st:Stmt}:PS X st (SD K ml fun _=>none):=fun _ _ _ _ _ _ ⟨_,_,_,_,_,q,_⟩=>nomatch q
variable{a b c:Expr}{pa ta ia pb tb ib pc tc ic:Bool}{fa fb fc:VF}{pos:Pos}{δ:Ev}
noncomputable def YK(i j k:Int):Int:=if i<j then(j - i - 1)/k+1 else 0
noncomputable def LC(fa fb fc:VF):VF:=fun δ=>(fa δ).bind fun p=>(fb p.2).bind fun q=>(fc q.2).bind fun r=>match p.1,q.1,r.1 with
 | .int i,.int j,.int k=>if(0<k/\k<1073741824)/\YK i j k<9223372036854775808 then some (.int (YK i j k),r.2) else none
 |_,_,_=>none
theorem NR{i j k:Int}(hk:0<k):0<=YK i j k:=by
 unfold YK;split
 ·have := Jx (show 0 <= j - i - 1 by lia) (show 0 <= k by lia)
  lia
 ·lia
theorem CA{p1 p2 gx:Pos}(hg:Gl X "len") (hm:X.mg "len"=none) (hv:Bf "len"=some (.builtin "len")) (hg2:Gl X "range") (hm2:X.mg "range"=none) (hv2:Bf "range"=some (.type "range"))
  (ha:PE X a (TV K ml pa ta ia fa)) (hb:PE X b (TV K ml pb tb ib fb)) (hc:PE X c (TV K ml pc tc ic fc))
  (he:Ae (a::[b,c]) X.env=(false,eval a X.env)::Ae [b,c] X.env:=by rfl) (he2:Ae (b::[c]) X.env=(false,eval b X.env)::Ae [c] X.env:=by rfl) (he3:Ae (c::[]) X.env=(false,eval c X.env)::Ae [] X.env:=by rfl) (hpl:(Dh gx (Ae [b,c] X.env)).any (·.1)=false:=by rfl)
  (he4:Ae (.Call (.Name "range" p2) [a,b,c] [] gx::[]) X.env=(false,eval (.Call (.Name "range" p2) [a,b,c] [] gx) X.env)::Ae [] X.env:=by rfl):
  PE X (.Call (.Name "len" p1) [.Call (.Name "range" p2) [a,b,c] [] gx] [] pos) (TV K ml (pa && pb && pc) true true (LC fa fb fc)):=
 (RT K1 hg hm hv (a9 (Q4 IT hg2 hm2 hv2 (a9 ha (a9 hb (a9 hc Y7 he3) he2) he) (by decide) (by decide) he hpl) Y7 he4) (by decide) (by decide) he4).imp fun σ H Q hq0 => by
  obtain⟨B,O,δ,d,δ3,S,q,k⟩:=hq0;unfold LC at q;obtain⟨⟨x,δ1⟩,h1,q⟩:=Aa.mp q;cases h2:fb δ1 with
  |none=>simp[h2] at q
  |some p2=>
   obtain⟨y,δ2⟩:=p2;simp only[Aq,h2] at q;cases h3:fc δ2 with
   |none=>simp[h3] at q
   |some p3=>
    obtain⟨z,δ4⟩:=p3;simp only[Aq,h3] at q;cases x with
    |int i=>
     cases y with
     |int j=>
      cases z with
      |int kk=>
       have q:(if(0<kk/\kk<1073741824)/\YK i j kk<9223372036854775808 then some (dH.int (YK i j kk),δ4) else none)=some (d,δ3):=q;split at q
       ·rename_i hh
        cases q;refine⟨B,O,δ,_,δ1,S,h1,fun v1 H1 R1=>⟨B,O,δ1,_,δ2,R1.sta,h2,fun v2 H2 R2=>⟨B,O,δ2,_,_,R2.sta,h3,fun v3 H3 R3=> ?_⟩⟩⟩;have e1:v1= .int i:=by
         have r:=R1.rep;cases r;rfl
        have e2:v2= .int j:=by
         have r:=R2.rep;cases r;rfl
        have e3:v3= .int kk:=by
         have r:=R3.rep;cases r;rfl
        subst e1 e2 e3;refine⟨i,j,kk,rfl,hh.1.1,hh.1.2,fun p hp=> ?_⟩;obtain⟨n,hn⟩:=Int.eq_ofNat_of_zero_le (NR (i:=i) (j:=j) hh.1.1);have hr:Fd i j kk=(n:Int):=by
         rw[<- hn];unfold Fd YK;rw[if_pos hh.1.1]
        have sm:aG H3 (upd H3 p (.ext (rngP p i j kk))):=c7 hp;refine⟨p,i,j,kk,n,rfl,cX,hr,?_,?_⟩
        ·have : (2 : Int) ^ 63 = 9223372036854775808 := by decide
         lia
        ·rw[<- hn]
         exact k _ _ ⟨R3.sta.same sm,((R1.frm.trans R2.frm).trans R3.frm).trans sm.fr,fun z=>by
          simp only[Af] at z;exact(((R1.pur z.1.1).trans (R2.pur z.1.2)).trans (R3.pur z.2)).trans sm,.int _⟩
       ·cases q
      |_=>cases q
     |_=>cases q
    |_=>cases q
end
section
variable{X:Cx}{K:Ai}{ml:List Nat}{e a b c:Expr}{pa ta ia pb tb ib pu:Bool}{fa fb fc f:VF}{B:Bs}{O:Nat->Option Addr}{H H':Hp}{σ:St}{δ δ':Ev}{v:V}{d:dH}{p:Addr}{pos:Pos}{ks:List (Option Expr)}{vs:List Expr}
theorem M0: ∀{am acc:List (aY×V)},((acc++am).map Ds).Nodup->V8 acc am=acc++am
 |[],acc,_=>by simp[V8]
 | (k,v) :: am,acc,nd => by
  have hk: ∀q∈acc,q.1≠k:=fun q hq z=>by
   rw[Bo,Ay] at nd;exact(Ls.mp nd).2.2 q.1 (List.mem_map_of_mem hq) k (by simp) z
  have hn:TW acc k=none:=by
   unfold TW;rw[List.find?_eq_none.mpr fun q hq=>by simpa using hk q hq];rfl
  show V8 (YJ acc k v) am=_;rw[AW v hn,M0 (by simpa using nd)];simp
abbrev IF:=Ev->Option (List (aY×dH)×Ev)
def TPD(K:Ai)(ml:List Nat)(pu:Bool)(f:IF)(σ:St)(H:Hp)(Q:List (V×V)->Hp->Prop):Prop:= ∃B O δ kds δ',aR K ml B O H σ δ/\f δ=some (kds,δ')∧
 ∀(kvs:List (aY×V)) H',aR K ml B O H' σ δ'->Fr (OA O) H H'->(pu=true->aG H H')->kvs.map Ds=kds.map Ds->cJ K (Nn B O) H' (kvs.map Eu) (kds.map Eu)->Q (kvs.map fun kv=>(kV kv.1,kv.2)) H'
def PPV(X:Cx)(K:Ai)(ml:List Nat)(pu:Bool)(pos:Pos)(ks:List (Option Expr))(vs:List Expr)(f:IF):Prop:= ∃trs,PPs X pos ks vs trs/\ ∀σ H Q,TPD K ml pu f σ H Q->L9 trs σ H Q
def AQ:IF:=fun δ=>some ([],δ)
noncomputable def Q5(fk fv:VF)(fs:IF):IF:=fun δ=>(fk δ).bind fun p=>(SV p.1).bind fun k=>(fv p.2).bind fun q=>(fs q.2).map fun r=>((k,q.1)::r.1,r.2)
theorem zBA:PPV X K ml true pos [] [] AQ:=⟨[],zBW,fun σ H Q hq0=>by
 obtain⟨B,O,δ,kds,δ',S,q,k⟩:=hq0;cases q;exact k [] H S (Fr.refl _ _) (fun _=>aG.refl _) rfl .nil⟩
theorem O7{fs:IF}(hk:PE X a (TV K ml pa ta ia fa))(hv:PE X b (TV K ml pb true true fb))(hr:PPV X K ml pu pos ks vs fs):PPV X K ml (pa && pb && pu) pos (some a::ks) (b::vs) (Q5 fa fb fs):=by
 obtain⟨trs,h1,h2⟩:=hr;refine⟨_,AO hk hv h1,fun σ H Q ⟨B,O,δ,kds,δ3,S,q,k⟩=> ?_⟩;unfold Q5 at q;obtain⟨⟨x,δ1⟩,e1,q⟩:=Aa.mp q;cases e2:SV x with
 |none=>simp[e2] at q
 |some kk=>
  simp only[Aq,e2] at q;cases e3:fb δ1 with
  |none=>simp[e3] at q
  |some p3=>
   obtain⟨y,δ2⟩:=p3;simp only[Aq,e3] at q;cases e4:fs δ2 with
   |none=>simp[e4] at q
   |some p4=>
    obtain⟨og,δ4⟩:=p4;simp only[e4] at q;cases q;refine⟨B,O,δ,x,δ1,S,e1,fun v1 H1 R1=>⟨B,O,δ1,y,δ2,R1.sta,e3,fun v2 H2 R2=>h2 _ _ _ ⟨B,O,δ2,og,_,R2.sta,e4,fun kvs H3 S3 f3 p3 hk3 r3=> ?_⟩⟩⟩;have ek:=R1.rep.key e2;subst ek;refine k ((kk,v2)::kvs) H3 S3 ((R1.frm.trans R2.frm).trans f3) (fun z=> ?_) (by simp[hk3]) (.cons (R2.rep.fr f3 (fun a z=> .inr z) fun a z=> .inr z) r3);simp only[Af] at z;exact((R1.pur z.1.1).trans (R2.pur z.1.2)).trans (p3 z.2)
noncomputable def E8(fs:IF):VF:=fun δ=>(fs δ).bind fun p=>if(p.1.map Ds).Nodup/\p.1.length<=15 then some (.dct (p.1.map Ds) (p.1.map Eu),p.2) else none
theorem zBC{fs:IF}(h:PPV X K ml pu pos ks vs fs)(dh:ks.all (·.isSome)=true)(hl:ks.length=vs.length)(h0:ks≠[])(h15:ks.length<=15):PE X (.Dict ks vs pos) (TN K ml pu (E8 fs)):=by
 obtain⟨trs,h1,h2⟩:=h;refine(zC8 h1 dh hl h0 h15).imp fun σ H Q ⟨B,O,δ,d,δ',S,q,k⟩ p hp=> ?_;unfold E8 at q;obtain⟨⟨kds,δ1⟩,e1,q⟩:=Aa.mp q;have q:(if(kds.map Ds).Nodup/\kds.length<=15 then some (dH.dct (kds.map Ds) (kds.map Eu),δ1) else none)=some (d,δ'):=q;split at q
 ·rename_i hh
  cases q;have S1:=S.laid (o:= .dK []) hp;refine h2 _ _ _ ⟨B.add p,O,δ,kds,_,S1,e1,fun kvs H2 S2 f2 p2 hk r=> ?_⟩;have hpO: ¬OA O p:=fun⟨i,w⟩=>(S2.old i p w).1 (.inr rfl);have hp2:H2 p=some (.dK []):=f2 _ _ cX fun w=>absurd w hpO;have ag:kvs.length=kds.length:=by
   have:=congrArg List.length hk
   simpa using this
  refine⟨hp2,kvs,rfl,by rw[ag];exact hh.2,?_⟩;have hm:V8 [] kvs=kvs:=M0 (acc:=[]) (by simpa[hk] using hh.1);rw[hm];have hZ:(B.add p).Z p:= .inr rfl;have fw:Fr (fun b=>b=p) H2 (upd H2 p (.dK kvs)):=⟨fun b u q n=>by
   by_cases hb:b=p
   ·subst hb
    rw[hp2] at q;cases q;exact absurd (n rfl) fun z=>z
   ·rw[cY hb]
    exact q,(PQ.of hp2).upd⟩
  have hN: ∀b,b=p->Nn (B.add p) O b:=fun b w=> .inl (w▸hZ);have w:SA K (Nn (B.add p) O) (upd H2 p (.dK kvs)) p (.dct (kvs.map Ds) (kds.map Eu)):= .dct cX (r.fr fw hN);rw[hk] at w;have S3:aR K ml (B.add p) O (upd H2 p (.dK kvs)) σ δ':=by
   have hin: ∀b,(∃u,H2 b=some u)-> ∃u,upd H2 p (.dK kvs) b=some u:=fun b q0=>by
    obtain⟨u,q⟩:=q0;by_cases hb:b=p
    ·exact⟨_,by rw[hb];exact cX⟩
    ·exact⟨u,by rw[cY hb];exact q⟩
   refine⟨S2.len,fun i d q=> ?_,fun i d q=> ?_,S2.dom,S2.inj,S2.old,fun b h=>hin b (S2.zin b h),⟨fun b u q n=> ?_,fun b _ _ _ _ _ _ _ _ h=>let ⟨_,_,e⟩:=S2.frm.ft _ _ _ _ _ _ _ _ _ h;(PQ.of hp2).upd _ _ _ _ _ _ _ _ _ e⟩,S2.par,fun b h=>hin b (S2.pin b h),fun z hz=>(S2.kep z hz).fr fw hN hN⟩
   ·obtain⟨v,e,r⟩:=S2.va i d q
    exact⟨v,e,r.fr fw hN hN⟩
   ·obtain⟨a,e,e2,w⟩:=S2.ow i d q
    exact⟨a,e,e2,w.fr fw hN fun z=>(S2.old i a e).1 (z▸hZ)⟩
   ·have hb : b ≠ p := fun z => by
     have q:B.H0 b=some u:=q;rw[z,S.fresh hp] at q;cases q
    rw[cY hb];exact S2.frm b u q n
  have nf: ∀b C dx f g p' q xs ys,H b=some (.flt C dx f g p' q xs ys)-> ∃us ws,upd H2 p (.dK kvs) b=some (.flt C dx f g p' q us ws):=fun b _ _ _ _ _ _ _ _ e=>by
   have hb:b≠p:=fun z=>by rw[z,hp] at e;cases e
   rw[cY hb];exact f2.ft _ _ _ _ _ _ _ _ _ (c7 hp _ _ e)
  refine k p _ ⟨S3,⟨fun b o e n=> ?_,nf⟩,fun z=> ?_,w,S.new hp,S.fresh hp⟩
  ·have hb : b ≠ p := fun z => by rw [z,hp] at e;cases e
   rw[cY hb];exact f2 b o (c7 hp _ _ e) n
  ·intro b o e
   have hb:b≠p:=fun z=>by rw[z,hp] at e;cases e
   rw[cY hb];exact p2 z b o (c7 hp _ _ e)
 ·cases q
end
theorem SH: ∀(names:List (Str×NameKind)) (n:Nat) (acc:List (Str×Addr)),cellsFrom n names acc=cellsFrom n names []++acc
 |[],_,_=>rfl
 | (x,k) :: r,n,acc => by
  unfold cellsFrom;split
  ·rw[SH r (n+1) ((x,n)::acc),SH r (n+1) [(x,n)]]
   simp
  ·exact SH r n acc
theorem GV: ∀{names:List (Str×NameKind)} {n:Nat} {x:Str} {c:Addr},(x,c)∈cellsFrom n names []->(x,Bu)∈names
 |[],_,_,_,h=>nomatch h
 | (y,k) :: r,n,x,c,h => by
  unfold cellsFrom at h;split at h
  ·rename_i hk
   rw[SH] at h;rcases Cn.mp h with h|h
   ·exact Aw _ (GV h)
   ·cases Aj.mp h
    rw[show k=Bu from beq_iff_eq.mp hk];exact Bg
  ·exact Aw _ (GV h)
theorem GU: ∀{names:List (Str×NameKind)} {n:Nat} {x:Str},(x,Bu)∈names-> ∃c,(x,c)∈cellsFrom n names []
 | (y,k) :: r,n,x,h => by
  unfold cellsFrom;rcases Ap.mp h with e|h
  ·cases e
   rw[if_pos (by decide),SH];exact⟨n,Bn _ (Aj.mpr rfl)⟩
  ·split
   ·rw[SH]
    obtain⟨c,hc⟩:=GU (n:=n+1) h;exact⟨c,Bv _ hc⟩
   ·exact GU h
theorem OK: ∀{l:List (Str×Addr)} {x:Str} {c:Addr},(x,c)∈l-> ∃c',l.lookup x=some c'
 | (y,d) :: r,x,c,h => by
  rw[Bj];cases hb:x==y with
  |true=>exact⟨d,rfl⟩
  |false=>
   rcases Ap.mp h with e|h
   ·cases e
    simp at hb
   ·exact OK h
theorem Y5: ∀{l m:List (Str×Addr)} {x:Str} {c:Addr},(l++m).lookup x=some c->l.lookup x=some c∨(l.lookup x=none/\m.lookup x=some c)
 |[],_,_,_,h=> .inr ⟨rfl,h⟩
 |(y,d)::r,m,x,c,h=>by
  rw[Ca,Bj] at h;rw[Bj];cases hb:x==y with
  |true=>rw[hb] at h;exact .inl h
  |false=>rw[hb] at h;exact Y5 h
theorem SF: ∀{l m:List (Str×Addr)} {x:Str},l.lookup x=none->(l++m).lookup x=m.lookup x
 |[],_,_,_=>rfl
 |(y,d)::r,m,x,h=>by
  rw[Bj] at h;rw[Ca,Bj];cases hb:x==y with
  |true=>rw[hb] at h;cases h
  |false=>rw[hb] at h;exact SF h
theorem J0{M:Model}{A:Cm}{E:Value->Ag->Prop}{s:Ag}{scope:Scope}{globals:Addr}{dm:List (Str×Addr)}{qual:Str}{outer:Env}{Q:Env->Ag->Prop}
  (hQ:Q (newEnv scope s.heap.objs.size globals (cellsFrom (s.heap.objs.size+1) scope.names dm) qual none .none (some outer) builtinsNs) {s with heap:=Na (s.heap.push {cls:= .type "dict",data:= .dict #[]}) scope.names}):
  wpAny M A (Kh scope globals dm [] qual none .none (some outer)) Q E s:=by
 simp only[Kh,La,if_true];refine Ac (wpAny_alloc ?_);refine Ac (wpAny_layCells _ (fun name kind cells=>by cases hkc:kind==Bu<;>simp[hkc]) _ _ _ _ ?_);rw[show({s with heap:=s.heap.push {cls:= .type "dict",data:= .dict #[]}}:Ag).heap.objs.size=s.heap.objs.size+1 from Cr ..];rw[Kg];exact Ac (As (As hQ))
theorem UX: ∀{l m:List (Str×Addr)} {x:Str} {c:Addr},l.lookup x=some c->(l++m).lookup x=some c
 |(y,d)::r,m,x,c,h=>by
  rw[Bj] at h;rw[Ca,Bj];cases hb:x==y with
  |true=>rw[hb] at h;exact h
  |false=>rw[hb] at h;exact UX h
structure O8(X:Cx)(N':List Str)(ix:List Nat)(scope:Scope):Prop where
 kind:scope.kind= .function
 cel: ∀y∈scope.names,y.2= .cell->scope.names.lookup y.1=some .cell
 names: ∀y∈scope.names,y.2= .local->scope.names.lookup y.1=some .local
 free: ∀y∈scope.names,y.2= .free->X.env.kindOf y.1=some .cell∨X.env.kindOf y.1=some .free
 nd:N'.Nodup
 cap: ∀j,j<ix.length->N'[j]? =(ix[j]?).bind fun i=>X.N[i]?
 capf: ∀x∈N'.take ix.length,scope.names.lookup x=some .free
noncomputable def Z2(X:Cx)(N':List Str)(scope:Scope)(cl:List (Str×Addr))(s1:Ag)(H1:Hp)(fp:List Addr):Cx:=
 {X with N:=N',s₀:=s1,H₀:=H1,env:=compEnvC scope cl s1.heap.objs.size X.env,outer:=X.stack,stack:=X.stack,ex:=fp,fn:=fun x=>scope.names.lookup x==some Bu,pn:=[],xe:=fun _ _=>False}
theorem WC{env:Env}{x:Str}: ∀{l:List (Str×NameKind)},
  ((l.map fun(n,k)=>if(k==Bi && env.scope.kind== .function && env.kindOf n==some .cell) then(n,Bu) else(n,k)).lookup x=some .cell∨
  (l.map fun(n,k)=>if(k==Bi && env.scope.kind== .function && env.kindOf n==some .cell) then(n,Bu) else(n,k)).lookup x=some .free)->(x,Bi)∈l∨(x,Bu)∈l
 |[],h=>by rcases h with z|z<;>cases z
 | (n,k) :: r,h => by
  have h:Eo x ((if(k==Bi && env.scope.kind== .function && env.kindOf n==some .cell)=true then(n,Bu) else(n,k))::r.map fun(n,k)=>if(k==Bi && env.scope.kind== .function && env.kindOf n==some .cell) then(n,Bu) else(n,k))=some .cell∨
   Eo x ((if(k==Bi && env.scope.kind== .function && env.kindOf n==some .cell)=true then(n,Bu) else(n,k))::r.map fun(n,k)=>if(k==Bi && env.scope.kind== .function && env.kindOf n==some .cell) then(n,Bu) else(n,k))=some .free:=h
  by_cases hc:(k==Bi && env.scope.kind== .function && env.kindOf n==some .cell)=true
  ·rw[if_pos hc] at h
   by_cases hx:x=n
   ·subst hx
    have hk:k= .free:=by
     simp only[Af] at hc;exact beq_iff_eq.mp hc.1.1
    subst hk;exact .inl Bg
   ·have hb:(x==n)=false:=beq_eq_false_iff_ne.mpr hx
    simp only[Bj,hb] at h;rcases WC (env:=env) h with z|z
    ·exact .inl (Aw _ z)
    ·exact .inr (Aw _ z)
  ·rw[if_neg hc] at h
   by_cases hx:x=n
   ·subst hx
    rw[Db] at h;rcases h with z|z
    ·cases z;exact .inr Bg
    ·cases z;exact .inl Bg
   ·have hb:(x==n)=false:=beq_eq_false_iff_ne.mpr hx
    simp only[Bj,hb] at h;rcases WC (env:=env) h with z|z
    ·exact .inl (Aw _ z)
    ·exact .inr (Aw _ z)
theorem NZ{X:Cx}{aa:List (Addr×Obj)}{σ:St}{H2:Hp}{s2:Ag}{E:Value->Ag->Prop}{tg iter elt:Expr}{ifs:List Expr}{scope:Scope}{pos:Pos}{N':List Str}{ix:List Nat}{nl:Nat}{g:TG}{tt:TT}{te:TE}
  {cl:List (Str×Addr)} {J:It} {fp:List Addr} {it:Addr} {tn:Nat->Heap->Prop} {Q:V->Hp->Prop} {RR:Value->Addr->Result->Ag->Prop}
  (hc:X.calm=true) (S:O8 X N' ix scope) (hnl:N'.length=ix.length+nl)
  (dg: ∀x c,cl.lookup x=some c->X.env.cells.lookup x=some c) (mm: ∀x,(x,Bi)∈scope.names-> ∃c,cl.lookup x=some c)
  (blk: ∀(cl:List (Str×Addr)) (s1:Ag) (H1:Hp) (fp:List Addr),Blk (Z2 X N' scope cl s1 H1 fp) tg ifs elt g tt te)
  (I2:cM X aa σ H2 s2) (T:GK X.prog X.w X.K tg J fp it tn) (st2:tn 0 s2.heap) (f2: ∀b∈fp,NI X aa H2 b)
  (h: ∀D,H2 D=none->zE3 D ix nl J g tt te σ H2 fun H'=>Q (.ref D) H')
  (fin: ∀(D C:Addr) (s':Ag) (H':Hp),cM X aa σ H' s'->(∃m,s'.heap.Ns C m)->C≠X.env.locals->(∀x c,X.env.cells.lookup x=some c->c≠C)→
   (∀(σ':St) (s'':Ag) (h'':Heap),cM X aa σ' H' s''->Ek C s''.heap h''->cM X aa σ' H' {s'' with heap:=h''})->Q (.ref D) H'->RR (.ref D) C (.ok .next) s'):
  wpAny (model X.prog X.w) X.A (newList []) (fun acc s₃=>wpAny (model X.prog X.w) X.A (Kh scope X.env.globals cl [] X.env.qual none .none (some X.env)) (fun mw s₄=>
   Jp (model X.prog X.w) X.A (.compStart (.ListComp elt [⟨tg,iter,ifs,0⟩] scope pos) 0 (.ref it) acc {mw with scope:=relabel scope X.env}) (RR acc mw.locals) s₄) E s₃) E s2:=by
 refine Dq (J0 ?_);dsimp only;have I1:cM X aa σ (upd H2 s2.heap.objs.size (.lst [])) {s2 with heap:=s2.heap.push {cls:= .type "list",dict:=none,data:= .seq ([]:List Value).toArray}}:=
  I2.lnew (t':=s2.toks) (ys:=[]) (its:=[]) .nil (Dx _)
 have hDn:H2 s2.heap.objs.size=none:=I2.hok.fresh (Au _);obtain⟨W,⟨m0,w0⟩,turn⟩:=h _ hDn;generalize hs1:({s2 with heap:=s2.heap.push {cls:= .type "list",dict:=none,data:= .seq ([]:List Value).toArray}}:Ag)=s1 at I1;have f9:s2.heap.push {cls:= .type "list",dict:=none,data:= .seq ([]:List Value).toArray}=s1.heap:=by rw[<- hs1]
 rw[f9];have old: ∀b o,s1.heap.get? b=some o->(Na (s1.heap.push {cls:= .type "dict",data:= .dict #[]}) scope.names).get? b=some o:=fun b o e=>pushCells_keeps _ _ _ _ (Ad _ e);have hns₁:(Na (s1.heap.push {cls:= .type "dict",data:= .dict #[]}) scope.names).Ns s1.heap.objs.size (fun _=>none):=(Heap.Ns.new s1.heap (.type "dict")).keeps fun b o e=>pushCells_keeps _ _ _ _ e;have okc:=cellsFrom_ok scope.names (s1.heap.push {cls:= .type "dict",data:= .dict #[]}) (s1.heap.objs.size+1) [] ⟨fun _ _ hm=>(nomatch hm),Lm⟩ (by rw[Cr];exact Au _);rw[Cr] at okc;generalize hz1:Na (s1.heap.push {cls:= .type "dict",data:= .dict #[]}) scope.names=h₁ at old hns₁ okc;rw[SH];generalize hnc:cellsFrom (s1.heap.objs.size+1) scope.names []=nc at okc;have ncm: ∀x c,nc.lookup x=some c->(x,Bu)∈scope.names/\h₁.IsCell c none/\s1.heap.objs.size+1<=c:=fun x c e=>by
  have hm:=Cd e;exact⟨GV (n:=s1.heap.objs.size+1) (by rw[hnc];exact hm),okc.empty x c hm⟩
 have nch: ∀x,(x,Bu)∈scope.names-> ∃c,nc.lookup x=some c:=fun x h=>by
  obtain⟨c,hc⟩:=GU (n:=s1.heap.objs.size+1) h;rw[hnc] at hc;exact OK hc
 have j6: ∀b∈fp,b<s2.heap.objs.size:=fun b hb=>by
  obtain⟨o,e,_⟩:=T.obj _ _ st2 b hb;exact Ar e
 have ma:s1.heap.objs.size=s2.heap.objs.size+1:=by rw[<- f9,Cr]
 have nv: ∀b o,s2.heap.get? b=some o->s1.heap.get? b=some o:=fun b o e=>by rw[<- f9];exact Ad _ e
 have fj: ∀x c,cl.lookup x=some c->c<s1.heap.objs.size:=fun x c e=>by
  obtain⟨v,q⟩:=I1.cell x c (dg x c e);exact q.lt
 have q9: ∀b∈CT X.stack,b<s1.heap.objs.size:=fun b hb=>by
  obtain⟨_,o,ho,_⟩:=(I1.stack).mem hb;exact Ar ho
 have okY:(Z2 X N' scope (nc++cl) s1 (upd H2 s2.heap.objs.size (.lst [])) fp).Ok:=by
  refine⟨I1.ok.mod,S.kind,I1.ok.glob,I1.ok.blt,Au _,fun x y c e1 e2=> ?_,fun x hx=> ?_,fun x c hf e=> ?_,I1.ok.hd,I1.ok.frames,.inl rfl,fun b hb=>⟨?_,fun x c e=> ?_⟩,fun b o e=> ?_,
   Ea I1.ok.bsz I1.sz,fun b o e hb=> ?_,fun b hb hb2=> ?_,I1.stack,I1.stkFree⟩
  ·rcases Y5 e1 with n1|⟨_,o1⟩
   ·rcases Y5 e2 with n2|⟨_,o2⟩
    ·exact PySem.name_of_addr okc.apart (Cd n1) (Cd n2)
    ·exact absurd (Ba (fj y c o2) (Gp (ncm x c n1).2.2)) (Cw _)
   ·rcases Y5 e2 with n2|⟨_,o2⟩
    ·exact absurd (Ba (fj x c o1) (Gp (ncm y c n2).2.2)) (Cw _)
    ·exact I1.ok.inj x y c (dg x c o1) (dg y c o2)
  ·cases q:nc.lookup x with
   |some c=>exact⟨c,UX q⟩
   |none=>
    rcases WC hx with h|h
    ·obtain⟨c,hc⟩:=mm x h
     exact⟨c,(SF q).trans hc⟩
    ·obtain⟨c,hc⟩:=nch x h
     rw[q] at hc;cases hc
  ·have hx:(x,Bu)∈scope.names:=Cd (beq_iff_eq.mp hf)
   obtain⟨c',hc'⟩:=nch x hx;have:=UX (m:=cl) hc'
   have e:(nc++cl).lookup x=some c:=e;rw[this] at e;cases e;exact Gp (ncm x c hc').2.2
  ·exact Bl (Ba (j6 b hb) (by show s2.heap.objs.size<=s1.heap.objs.size;rw[ma];exact Ft _))
  ·rcases Y5 e with n1|⟨_,o1⟩
   ·have h1:=j6 b hb
    have h2:=(ncm x c n1).2.2;rw[ma] at h2;exact fun z=>absurd (z▸h2) (Nat.not_le_of_lt (Ba h1 (Ea (Ft _) (Ft _))))
   ·exact(f2 b hb).2.2.2.2.1 x c (dg x c o1)
  ·exact I1.bs b o e
  ·have:=(f2 b hb)
   obtain⟨o',e',_⟩:=T.obj _ _ st2 b hb;have hlt:=Ba (Ar e) I1.ok.bsz;rcases this.2.2.2.1 with z|z
   ·exact I1.ok.noex b o e z
   ·exact absurd (Ba hlt z) (Cw _)
  ·rcases Ap.mp (I1.stkSub b hb2) with z|z
   ·exact(f2 b hb).2.1 z
   ·exact(f2 b hb).2.2.1 z
 have ij:(YX ix σ++Bh nl none).length=N'.length:=by rw[Al,Js,hnl];simp[YX]
 have IY:cM (Z2 X N' scope (nc++cl) s1 (upd H2 s2.heap.objs.size (.lst [])) fp) [] (YX ix σ++Bh nl none) (upd H2 s2.heap.objs.size (.lst [])) {s2 with heap:=h₁}:=by
  refine⟨okY,?_,I2.bare,Un.kept old,⟨_,hns₁,fun j x v e1 e2 e3=> ?_⟩,fun x c e=> ?_,I1.hok.fresh (Au _),fun x c e=> ?_,fun p hp=>absurd (show p∈([]:List (Addr×Obj)) from hp) (by simp),I1.hok.kept old,ij⟩
  ·show s2.os=s1.os
   rw[<- hs1]
  ·have hj:j<ix.length:=by
    by_cases hj:j<ix.length
    ·exact hj
    ·exfalso
     have hl:(YX ix σ).length=ix.length:=by simp[YX]
     rw[An (by rw[hl];lia),Dd] at e2;split at e2<;>cases e2
   have hl:(YX ix σ).length=ix.length:=by simp[YX]
   rw[Ah (by rw[hl];exact hj)] at e2;have hci:=S.cap j hj;obtain⟨i,hi⟩: ∃i,ix[j]? =some i:=⟨ix[j],by simp[hj]⟩;rw[hi] at hci;have hNi:X.N[i]? =some x:=by
    have:N'[j]? =X.N[i]? :=hci
    rw[<- this];exact e1
   have hσ:σ[i]? =some (some v):=by
    unfold YX at e2;rw[Dm,hi] at e2;have e2':(σ[i]?).join=some v:=by simpa using e2
    cases q:σ[i]? with
    |none=>rw[q] at e2';cases e2'
    |some o=>rw[q] at e2';rw[show o=some v from e2']
   have hfl:scope.names.lookup x=some .free:=S.capf x (by
    rw[Jw];exact⟨j,by rw[Ci hj];exact e1⟩)
   have bh:(x,Bi)∈scope.names:=Cd hfl;have hpk:X.env.kindOf x=some .cell∨X.env.kindOf x=some .free:=by exact S.free (x,.free) bh rfl
   have oh:Vis X.env.scope x:=by
    rcases hpk with z|z
    ·exact .inr (.inl z)
    ·exact .inr (.inr z)
   obtain⟨m,hn,oy⟩:=I1.loc;obtain⟨u,ru,l⟩:=oy i x v hNi hσ oh;refine⟨u,ru,?_⟩;rcases l with⟨hk,_⟩|⟨hk,c,ec,z⟩
   ·rcases hpk with q|q<;>rw[hk] at q<;>cases q
   ·obtain⟨c',hc'⟩:=mm x bh
    have:c'=c:=by
     have:=dg x c' hc'
     rw[ec] at this;exact(Bt this).symm
    subst this;have ox:nc.lookup x=none:=by
     cases q:nc.lookup x with
     |none=>rfl
     |some d=>
      have:=S.cel (x,.cell) (ncm x d q).1 rfl
      rw[hfl] at this;cases this
    refine .inr ⟨RV hfl,c',(SF ox).trans hc',?_⟩
    ·obtain⟨o,ho,hd⟩:=z
     exact⟨o,old _ _ ho,hd⟩
  ·rcases Y5 e with n1|⟨_,o1⟩
   ·exact⟨none,(ncm x c n1).2.1⟩
   ·obtain⟨v,o,ho,hd⟩:=I1.cell x c (dg x c o1)
    exact⟨v,o,old _ _ ho,hd⟩
  ·rcases Y5 e with n1|⟨_,o1⟩
   ·exact I1.hok.fresh (Gp (ncm x c n1).2.2)
   ·exact I1.freeC x c (dg x c o1)
 have pz: ∀{pY:List (Addr×Obj)} {σ':St} {H':Hp} {s':Ag},cM (Z2 X N' scope (nc++cl) s1 (upd H2 s2.heap.objs.size (.lst [])) fp) pY σ' H' s'->cM X aa σ H' s':=fun{pY σ' H' s'} J'=>
  I1.call' J'.os J'.base J'.hok J'.bare fun b hb=>⟨(f2 b hb).2.2.2.1,(f2 b hb).2.1,(f2 b hb).2.2.2.2.1,(f2 b hb).2.2.2.2.2⟩
 have stat: ∀{H':Hp} {pY:List (Addr×Obj)},(∀b∈fp,H' b=none)->pY=[]-> ∀b∈fp,NI (Z2 X N' scope (nc++cl) s1 (upd H2 s2.heap.objs.size (.lst [])) fp) pY H' b:=fun{H' pY} hn hp b hb=>by
  subst hp;refine⟨hn b hb,(okY.exf b hb).1,okY.exfs b hb,.inl hb,(okY.exf b hb).2,fun p hp=>absurd (show p∈([]:List (Addr×Obj)) from hp) (by simp)⟩
 have st1:tn 0 h₁:=T.keep 0 s2.heap h₁ st2 fun b hb o e=>old b o (nv b o e);have fr1: ∀b∈fp,(upd H2 s2.heap.objs.size (.lst [])) b=none:=fun b hb=>by
  rw[cY (Bl (j6 b hb))];exact(f2 b hb).1
 have loop: ∀s₃:Ag,s₃={s2 with heap:=h₁}→
   Jp (model X.prog X.w) X.A (.compLoop (.ListComp elt [⟨tg,iter,ifs,0⟩] scope pos) 0 (.ref it) (.ref s2.heap.objs.size) (compEnvC scope (nc++cl) s1.heap.objs.size X.env)) (RR (.ref s2.heap.objs.size) s1.heap.objs.size) s₃:=by
  rintro s₃ rfl;refine DN (fun n s'=> ∃i σ' H' acc,cM (Z2 X N' scope (nc++cl) s1 (upd H2 s2.heap.objs.size (.lst [])) fp) [] σ' H' s'/\σ'.take ix.length=YX ix σ/\tn i s'.heap/\(∀b∈fp,H' b=none)/\W i n acc H') ?_ m0
   ⟨0,_,_,[],IY,by rw[Gv (by simp[YX])];exact Dk (by simp[YX]),st1,fr1,w0⟩
  rintro n s' ⟨i,σ',H',acc,J',hσ,st',fr',w'⟩;have Jc:cM (Z2 X N' scope (nc++cl) s1 (upd H2 s2.heap.objs.size (.lst [])) fp) [] (YX ix σ++Bh nl none) H' s':=by
   refine J'.weak (by rw[ij];exact J'.len.symm) fun j v e=> ?_;have hl:(YX ix σ).length=ix.length:=by simp[YX]
   by_cases hj:j<ix.length
   ·rw [Ah (by rw [hl];exact hj),<- hσ,Ci hj] at e
    exact e
   ·rw [An (by rw [hl];lia),Dd] at e
    split at e<;>cases e
  rcases turn i n acc H' w' with⟨stop,q⟩|⟨go,N,hN,step⟩
  ·refine Ch (T.done (Z2 X N' scope (nc ++ cl) s1 (upd H2 s2.heap.objs.size (.lst [])) fp) rfl rfl rfl hc i [] s' _ H' (fun _ _ => False) Jc (stat fr' rfl) st' stop) (fun r s4 ⟨hr,I4⟩ => ?_) fun _ _ z => z
   subst hr;have IX:=pz I4;obtain⟨m,hm,_⟩:=I4.loc;exact fin _ _ s4 H' IX ⟨m,hm⟩ (Fu I1.lt) (fun x c e z=>by
    obtain⟨v,q⟩:=I1.cell x c e;have:=q.lt
    rw[z] at this;exact Cw _ this) (fun σ'' s'' h'' I'' sb=>cM.offNew I1 I'' I4.free fun b o hb e=>(sb.2 b hb).trans e) q
  ·refine Ch (T.item (Z2 X N' scope (nc ++ cl) s1 (upd H2 s2.heap.objs.size (.lst [])) fp) rfl rfl rfl hc i [] s' _ H' (fun _ _ => False) Jc (stat fr' rfl) st' go) (fun r s4 ⟨u,hr,h4⟩ => ?_) fun _ _ z => z
   subst hr;refine Ch h4 (fun _ s5 ⟨x,H5,I5,r5,y5,st5,fr5⟩=> ?_) fun _ _ z=>z;have I5':=I5.pinned (stat fr5 rfl) (T.obj _ _ st5);obtain⟨btg,bts,bel⟩:=blk (nc++cl) s1 (upd H2 s2.heap.objs.size (.lst [])) fp;refine Ch (btg _ s5 _ H5 x u _ I5' r5 (step x H5 y5)) (fun _ s6 ⟨σ6,H6,I6,hσ6,q6⟩=> ?_) fun _ _ z=>z;have UM: ∀{H7:Hp} {s7:Ag} {bx:List V},cM (Z2 X N' scope (nc++cl) s1 (upd H2 s2.heap.objs.size (.lst [])) fp) ([]++OP fp s5.heap) σ6 H7 s7->N bx H7→
     ∃m,m<n/\ ∃i σ' H' acc,cM (Z2 X N' scope (nc++cl) s1 (upd H2 s2.heap.objs.size (.lst [])) fp) [] σ' H' s7/\σ'.take ix.length=YX ix σ/\tn i s7.heap/\(∀b∈fp,H' b=none)/\W i m acc H':=fun{H7 s7 bx} I7 n7=>by
    obtain⟨m',hm,w7⟩:=hN bx H7 n7;refine⟨m',hm,i+1,σ6,H7,bx,I7.unpinned,hσ6,T.keep _ _ _ st5 fun b hb o e=>(I7.pin (b,o) (Bn _ (Bn _ (V7 hb e)))).1,fun b hb=> ?_,w7⟩;obtain⟨o,e,d⟩:=T.obj _ _ st5 b hb;exact(I7.pin (b,o) (Bn _ (Bn _ (V7 hb e)))).2.1
   refine Ch (bts _ s6 σ6 H6 _ I6 q6) (fun okb s7 ⟨H7,I7,q7⟩=> ?_) fun _ _ z=>z;cases okb with
   |false=>exact UM I7 q7
   |true=>
    refine Ch (bel _ s7 σ6 H7 _ I7 q7) (fun v s8 ⟨y,H8,I8,r8,hD8,hz8,n8⟩=> ?_) fun _ _ z=>z;refine Ch (YI (X:=Z2 X N' scope (nc++cl) s1 (upd H2 s2.heap.objs.size (.lst [])) fp) _ s8 σ6 H8 (.ref s2.heap.objs.size) [y] (.ref s2.heap.objs.size) [v] (fun _ H9=>N (acc++[y]) H9) I8 rfl (.cons r8 .nil)
     ⟨s2.heap.objs.size,acc,y,rfl,rfl,hD8,hz8,n8⟩) (fun _ s9 ⟨_,H9,I9,_,n9⟩=>UM I9 n9) fun _ _ z=>z
 have he:({newEnv scope s1.heap.objs.size X.env.globals (nc++cl) X.env.qual none .none (some X.env) builtinsNs with scope:=relabel scope X.env}:Env)=compEnvC scope (nc++cl) s1.heap.objs.size X.env:=rfl;exact codeAny_compStart_list (loop _ rfl) (T.self _ 0 _ _ _ st1 (loop _ rfl))
theorem AB{X:Cx}{tg iter elt:Expr}{ifs:List Expr}{scope:Scope}{pos:Pos}{N':List Str}{ix:List Nat}{nl:Nat}{wi:TI}{g:TG}{tt:TT}{te:TE}
  (hc:X.calm=true) (S:O8 X N' ix scope) (hnl:N'.length=ix.length+nl) (hi:PI X tg iter wi)
  (blk: ∀(cl:List (Str×Addr)) (s1:Ag) (H1:Hp) (fp:List Addr),Blk (Z2 X N' scope cl s1 H1 fp) tg ifs elt g tt te)
  (hs: ∀x,foldedSetIterable iter X.env x=pure x:=by intro _;rfl):PE X (.ListComp elt [⟨tg,iter,ifs,0⟩] scope pos) (BV ix nl wi g tt te):=by
 intro aa s σ H Q I h;rw[eval_ListComp];obtain⟨cl,e1,e2,e3⟩:=E7 (env:=X.env) (scope:=scope) fun y hy hf=>I.ok.has y.1 (S.free y hy hf);refine Io (use:=none) (cl:=cl) rfl hs e1 S.kind S.names (Ch (hi aa s σ H _ I h) (fun xv s₁ h₁=>Ch h₁ (fun itv s₂ h₂=> ?_) fun _ _ e=>e) fun _ _ e=>e);obtain⟨it,fp,tn,J,H2,e,I2,T,st2,f2,q⟩:=h₂;subst e;refine NZ (Q:=Q) (RR:=fun acc C=>compPost (model X.prog X.w) X.A X.xe none (EP X aa σ Q) acc C) hc S hnl e2 e3 blk I2 T st2 f2 q ?_;intro D C s' H' I' hm hC1 hC2 hb hq;obtain⟨m,hm⟩:=hm;exact⟨m,hm,fun h'' sb=>⟨.ref D,H',hb σ s' h'' I' sb,rfl,hq⟩⟩
section
variable{X:Cx}{K:Ai}{ml:List Nat}{pi pt pe pu:Bool}{pos:Pos}{ix:List Nat}{nl:Nat}{f:VF}
noncomputable def K8(N N':List Str)(ix:List Nat)(names:List (Str×NameKind))(k:Str->Option NameKind):Bool:=
 names.all (fun y=>y.2 != .cell || names.lookup y.1==some .cell) && (names.all (fun y=>y.2 != .local || names.lookup y.1==some .local) && (names.all (fun y=>y.2 != .free || (k y.1==some .cell || k y.1==some .free)) &&
  (decide N'.Nodup && ((Cs ix.length).all (fun j=>N'[j]? ==(ix[j]?).bind fun i=>N[i]?) && (N'.take ix.length).all fun x=>names.lookup x==some .free))))
theorem T7{N':List Str}{scope:Scope}(hk:scope.kind= .function)(h:K8 X.N N' ix scope.names X.env.kindOf=true):O8 X N' ix scope:=by
 unfold K8 at h;simp only[Af,Gu,Hm,bne_iff_ne,beq_iff_eq,decide_eq_true_eq,En] at h;obtain⟨h1,h2,h3,h4,h5,h6⟩:=h;exact⟨hk,fun y hy e=>(h1 y hy).resolve_left fun z=>z e,fun y hy e=>(h2 y hy).resolve_left fun z=>z e,fun y hy e=>(h3 y hy).resolve_left fun z=>z e,h4,h5,h6⟩
abbrev BlkC(X:Cx)(K:Ai)(N':List Str)(ix:List Nat)(scope:Scope)(tg:Expr)(ifs:List Expr)(elt:Expr)(gg:VG)(pt:Bool)(tb:VB)(pe:Bool)(fe:VF):Prop:=N'.Nodup-> ∀(cl:List (Str×Addr)) (s1:Ag) (H1:Hp) (fp:List Addr),Blk (Z2 X N' scope cl s1 H1 fp) tg ifs elt (TGV K (Cs ix.length) gg) (TB K (Cs ix.length) pt tb) (TV K (Cs ix.length) pe true true fe)
theorem ZP{tg iter elt:Expr}{ifs:List Expr}{scope:Scope}{fi:VI}{gg:VG}{tb:VB}{fe:VF}(N':List Str)(ix:List Nat)(nl:Nat)(hi:PI X tg iter (TIV K ml pi fi))(blk:BlkC X K N' ix scope tg ifs elt gg pt tb pe fe)(hc:X.calm=true:=by rfl)(hk:scope.kind= .function:=by rfl)(hok:K8 X.N N' ix scope.names X.env.kindOf=true:=by rfl)(hnl:N'.length=ix.length+nl:=by rfl)(hnd:ix.Nodup:=by decide)
  (hs: ∀x,foldedSetIterable iter X.env x=pure x:=by intro _;rfl):PE X (.ListComp elt [⟨tg,iter,ifs,0⟩] scope pos) (TN K ml (pi && pt && pe) (YM ix nl fi gg tb fe)):=
 (AB hc (T7 hk hok) hnl hi (blk (T7 hk hok).nd) hs).imp fun _ _ _ h=>F3 hnd h
theorem AT{i:Nat}{y:Str}{py f6:Pos}{tg iter elt:Expr}{ifs:List Expr}{scope:Scope}{N':List Str}{wi:TI}{g:TG}{tt:TT}{te:TE}
  (hN:X.N.Nodup) (hi':X.N[i]? =some y) (hy:X.env.scope.names.lookup y=some .local)
  (hc:X.calm=true) (S:O8 X N' ix scope) (hnl:N'.length=ix.length+nl) (hi:PI X tg iter wi)
  (blk: ∀(cl:List (Str×Addr)) (s1:Ag) (H1:Hp) (fp:List Addr),Blk (Z2 X N' scope cl s1 H1 fp) tg ifs elt g tt te)
  (hsw:El (.ListComp elt [⟨tg,iter,ifs,0⟩] scope pos) (some (.Name y py)) f6.line X.env=pure true:=by rfl)
  (hs: ∀x,foldedSetIterable iter X.env x=pure x:=by intro _;rfl):PS X (.Assign [.Name y py] (.ListComp elt [⟨tg,iter,ifs,0⟩] scope pos) f6) (tAsg (BV ix nl wi g tt te) (FF i)):=by
 intro aa s σ H D I h;rw[exec_Assign_Name_used _ _ _ _ hsw];refine Ac (Gz (Ac ?_));show wpAny _ X.A (do let _<- comprehension (.ListComp elt [⟨tg,iter,ifs,0⟩] scope pos) scope X.env _ (newList []) false (eval iter X.env) (some (assign (.Name y py) X.env))) _ _ s;obtain⟨cl,e1,e2,e3⟩:=E7 (env:=X.env) (scope:=scope) fun y hy hf=>I.ok.has y.1 (S.free y hy hf);refine Ac (Ch (Io (use:=some (assign (.Name y py) X.env)) (cl:=cl) (Q:=fun _ s'=>SP X aa D .next s') rfl hs e1 S.kind S.names
  (Ch (hi aa s σ H _ I h) (fun xv s₁ h₁=>Ch h₁ (fun itv s₂ h₂=> ?_) fun _ _ e=>e) fun _ _ e=>e)) (fun _ s' hq=>As (As hq)) fun _ _ e=>e)
 obtain⟨it,fp,tn,J,H2,e,I2,T,st2,f2,q⟩:=h₂;subst e;refine NZ (Q:=fun v H'=>D.nx (σ.set i (some v)) H') (RR:=fun acc C=>compPost (model X.prog X.w) X.A X.xe (some (assign (.Name y py) X.env)) (fun _ s'=>SP X aa D .next s') acc C) hc S hnl e2 e3 blk I2 T st2 f2 q ?_;intro Dl C s' H' I' hm hC1 hC2 hb hq;obtain⟨m,hm⟩:=hm;show wpAny _ X.A (assign (.Name y py) X.env (.ref Dl)) _ _ _;refine Gj (NB I' hN hi' (.inl hy) (v:= .ref Dl) rfl (fun s'' I'' ⟨a,hsb,ha⟩=> ?_) (.inr hy));have hCa:C≠a:=by
  rcases ha with z|z
  ·rw[z];exact hC1
  ·exact Dj (hC2 y a z)
 exact⟨m,hm.sameBut hsb hCa,fun h'' sb=>⟨_,H',hb _ s'' h'' I'' sb,hq⟩⟩
theorem CH{i:Nat}{y:Str}{py f6:Pos}{tg iter elt:Expr}{ifs:List Expr}{scope:Scope}{fi:VI}{gg:VG}{tb:VB}{fe:VF}(o:Bool)(hN:X.N.Nodup)(N':List Str)(ix:List Nat)(nl:Nat)(hi:PI X tg iter (TIV K ml pi fi))(blk:BlkC X K N' ix scope tg ifs elt gg pt tb pe fe)(hi':X.N[i]? =some y:=by rfl)(hy:X.env.scope.names.lookup y=some .local:=by rfl)
  (hc:X.calm=true:=by rfl) (hk:scope.kind= .function:=by rfl) (hok:K8 X.N N' ix scope.names X.env.kindOf=true:=by rfl) (hnl:N'.length=ix.length+nl:=by rfl) (hnd:ix.Nodup:=by decide) (hm:i∉ml:=by decide)
  (hsw:El (.ListComp elt [⟨tg,iter,ifs,0⟩] scope pos) (some (.Name y py)) f6.line X.env=pure true:=by rfl)
  (hs: ∀x,foldedSetIterable iter X.env x=pure x:=by intro _;rfl):PS X (.Assign [.Name y py] (.ListComp elt [⟨tg,iter,ifs,0⟩] scope pos) f6) (SD K ml (aZ i (if o then xO (YM ix nl fi gg tb fe) else xV (YM ix nl fi gg tb fe)))):=
 (AT hN hi' hy hc (T7 hk hok) hnl hi (blk (T7 hk hok).nd) hsw hs).imp fun D σ H h=>zEF (fun σ H Q z=>F3 hnd (zHX (pu:=pi && pt && pe) z)) hm h
end
section
variable{X:Cx}{K:Ai}{ml:List Nat}{e a b c:Expr}{es:List Expr}{pa ta ia pb tb ib pc tc ic pu bt bi ps bs:Bool}{fa fb fc f:VF}{B B':Bs}{O:Nat->Option Addr}{H H1 H':Hp}{σ:St}{δ δ':Ev}{v:V}{d:dH}{p:Addr}{pos:Pos}
def rSum(K:Ai):RC:=fun xs H Q=> ∃(p:Addr) (ns:List Int),xs=[.ref p]/\XZ K H p (ns.map V.int)/\Q (.int ns.sum) H
theorem DL(hc:X.calm=true):aW X (.builtin "sum") (rSum X.K):=by
 intro aa s σ H xs us Q I r h;obtain⟨l,ns,rfl,hq,q⟩:=h;obtain⟨u,rfl,rx⟩:=TM r;cases rx;obtain⟨its,rv,pl,hz⟩:=I.list hq;have hi:=V6 rv;obtain⟨xs,ex⟩:=hi.allInts.items;have hns:ns=xs.toList.map (·.1):=by rw[<- hi.numsOf,<- nums_intItems,<- ex]
 have hl:=pl.isList;rw[ex] at hl;refine sum_intListG (I.ok.hd hc) hl fun h' tk t' hk=> ?_;have e:preSum (numAt xs) xs.size=ns.sum:=by rw[preSum_eq,Dk (by simp),hns]
 rw[e];exact⟨.int ns.sum,H,I.kept (t':=tk) hk,⟨_,rfl⟩,q⟩
theorem zJT(h:X.K=K)(hc:X.calm=true):aW X (.builtin "sum") (rSum K):=by subst h;exact DL hc
noncomputable def oSum:dH->Option dH
 | .lst ds=>(UV ds).map fun ns=> .int ns.sum
 |_=>none
theorem zII:GD K (rSum K) oSum:=by
 intro H N M x d c Q hx h k;cases d with
 |lst ds=>
  have h:(UV ds).map (fun ns=>dH.int ns.sum)=some c:=h;obtain⟨ns,h1,h⟩:=Ao.mp h;cases h;obtain⟨a,xs,rfl,sq,r⟩:=hx.lstE;have e:=OH r h1;subst e;exact⟨a,ns,rfl,sq,k _ fun _ _ _=> .int _⟩
 |_=>cases h
theorem zHI:Bf "sum"=some (.builtin "sum"):=by decide+kernel
structure GH(K:Ai)(x qual:Str)(st:Stmt)(dV:Value)(f:Addr)(fd:Cy):Prop where
 ex: ∃(oc:Value) (od:Option Addr) (kV doc pm:Value) (an:Option Addr) (cdv ct:Value) (osl:Array (Option Value)),
  fd=Ge x qual (aQ st) (bE st) (c9 st) dV kV doc pm an cdv ct/\K.lookup f=some ⟨oc,od,.func fd,osl⟩/\Ha K cdv qual=true
 kp:Eg K (.ref f)=true
theorem zCW{x qual:Str}{st:Stmt}{dV:Value}{f:Addr}{oc:Value}{od an:Option Addr}{osl:Array (Option Value)}{kV doc pm cdv ct:Value}(l:K.lookup f=some ⟨oc,od,.func (Ge x qual (aQ st) (bE st) (c9 st) dV kV doc pm an cdv ct),osl⟩)
  (c:Ha K cdv qual=true) (k:Eg K (.ref f)=true):GH K x qual st dV f (Ge x qual (aQ st) (bE st) (c9 st) dV kV doc pm an cdv ct):=⟨⟨oc,od,kV,doc,pm,an,cdv,ct,osl,rfl,l,c⟩,k⟩
theorem GH.okV{P:Ax}{w:World}{mg:Str->Option Value}{base:Heap}{x qual:Str}{st:Stmt}{dV:Value}{f:Addr}{fd:Cy}{N ps:List Str}{k:Nat}{g:VS}(F:GH K x qual st dV f fd)(S:cV N ps (c9 st))(hps:ps.length<=N.length)
  (aq: ∀(cdv:Value) (A:Cm) (outer:List Env) (s:Ag) (H:Hp) (E:XK),Z6 k (A.deeper (Hw qual (c9 st) s.heap.objs.size f cdv))→
   QJ (NM CX0 P w K mg base N qual (c9 st) f cdv A outer s H E).nox (bE st) (SD K ml g)):bX P w K mg base CX0 (k+1) f fd ps (spV K ml ps.length (bU N.length ml g)):=by
 obtain⟨oc,od,kV,doc,pm,an,cdv,ct,osl,rfl,lk,hcd⟩:=F.ex;refine zDY lk hcd S (fun vs H Q E h=> ?_) fun A outer s H vs Q E hr hsp=>⟨_,(aq cdv A outer s H E hr).nox,zE1 hps hsp⟩;obtain⟨Z,ds,r,os,hn,AV,_⟩:=h;rw[AV.len,hn]
theorem GH.binds{x qual:Str}{st:Stmt}{T f:Addr}{fd:Cy}{ps:List Str}{o:Obj}{its:Array Value}{n m:Nat}{ds:List Value}(F:GH K x qual st (.ref T) f fd)(ho:K.lookup T=some o)(hs:o.data= .seq its n)
  (h: ∀(kV doc pm:Value) (an:Option Addr) (cdv ct:Value) (us:List Value),us.length=m-> ∃k,bindArgs (Ge x qual (aQ st) (bE st) (c9 st) (.ref T) kV doc pm an cdv ct) ⟨us,[]⟩=seqItems? (.ref T)>>=k/\k (some its)=pure (ps.zip (us++ds)))
  (hm:m+ds.length=ps.length:=by rfl):XV K fd ps ds:=by
 obtain⟨oc,od,kV,doc,pm,an,cdv,ct,osl,rfl,lk,hcd⟩:=F.ex;intro s us hK hl;obtain⟨k,h1,h2⟩:=h kV doc pm an cdv ct us (by rw[Al] at hl;lia);exact BindsTo.of_defaults rfl (hK _ _ ho) hs h1 h2
structure DefD(P:Ax)(w:World)(K:Ai)(mg:Str->Option Value)(base:Heap)(x:Str)(k:Nat)(ps:List Str)(sp:Sp)(f:Addr)(v0:V):Prop where
 at_:mg x=some (.ref f)
 ok: ∃fd u0,bX P w K mg base CX0 k f fd ps sp/\XV K fd ps [u0]/\b6 v0 u0
 kp:Eg K (.ref f)=true
def DS(F:cO)(d:dH):cO:=fun ds=>F (ds++[d])
theorem BQ{mF:List Nat}{m:Nat}{F:cO}{vs:List V}{Q:VK}{E:XK}(hv: ∀N H M,bQ K N H M v d)(hn: ∀a,v≠ .ref a)(h:spV K mF m (DS F d) vs H Q E):spV K mF (m+1) F (vs++[v]) H Q E:=by
 obtain⟨Z,ds,r,os,hl,A,hF,k⟩:=h;have eg: ∀(i:Nat) (a:Addr),(vs++[v])[i]? =some (.ref a)->vs[i]? =some (.ref a):=fun i a h=>by
  by_cases hi:i<vs.length
  ·rwa[Ah hi] at h
  ·rw [An (by lia)] at h
   cases hj:i - vs.length with
   |zero=>rw[hj] at h;cases h;exact absurd rfl (hn a)
   |succ j=>rw[hj] at h;simp at h
 have i0: ∀(i:Nat) (u:V),vs[i]? =some u->(vs++[v])[i]? =some u:=fun i u h=>by
  rw[Ah (Ak.mp h).1];exact h
 have hP: ∀a,VD mF (vs++[v]) a->VD mF vs a:=fun a ⟨i,hi,e⟩=>⟨i,hi,eg i a e⟩;have hP': ∀a,VD mF vs a->VD mF (vs++[v]) a:=fun a ⟨i,hi,e⟩=>⟨i,hi,i0 i _ e⟩;have hZ: ∀a,Zp Z mF (vs++[v]) a->Zp Z mF vs a:=fun a h=>h.imp id (hP a);have hZ': ∀a,Zp Z mF vs a->Zp Z mF (vs++[v]) a:=fun a h=>h.imp id (hP' a);refine⟨Z,ds++[d],r,os,by simp[hl],⟨by simp[A.len],fun i hi=> ?_,fun i x hi e=> ?_,fun i x hi e=> ?_,fun i j a hi hj e1 e2=>A.inj i j a hi hj (eg i a e1) (eg j a e2),A.zin⟩,hF,fun u H' f w rr=>k u H' (f.mono hP) (fun kk i a o e1 e2 e3=>(w kk i a o e1 (i0 i _ e2) e3).mono hZ') (rr.mono hZ' hZ')⟩
 ·have:=A.mem i hi
  simp;lia
 ·by_cases hi':i<ds.length
  ·rw[Ah hi'] at e
   obtain⟨u,e1,r1⟩:=A.va i x hi e;exact⟨u,i0 i u e1,r1.mono hZ hZ⟩
  ·rw [An (by lia)] at e
   cases hj:i - ds.length with
   |zero=>
    rw[hj] at e;cases e;have:i=vs.length:=by have:=A.len;lia
    subst this;exact⟨v,by rw[An (by lia)];simp,hv _ _ _⟩
   |succ j=>rw[hj] at e;simp at e
 ·have hi':=A.mem i hi
  rw[Ah hi'] at e;obtain⟨u,e1,w1,z1⟩:=A.ow i x hi e;exact⟨u,i0 i _ e1,w1.mono hZ,z1⟩
theorem KL{x:Str}{kk j m:Nat}{qs:List Str}{mF:List Nat}{F:cO}{ff:Addr}{p':Pos}{fs:SE}(hK:X.K=K)(D:DefD X.prog X.w K X.mg X.base x kk qs (spV K mF (m+1) F) ff v)(hv: ∀N H M,bQ K N H M v d)(hn: ∀a,v≠ .ref a)(hr:Z6 j X.A)(hk:kk<=j)(hg:Gl X x)(ha:PA X (e::es) (GJ K ml ps fs))(hdb:(x==("__debug__":Str))=false:=by decide)
  (he:Ae (e::es) X.env=(false,eval e X.env)::Ae es X.env:=by rfl) (hpl:(Dh pos (Ae es X.env)).any (·.1)=false:=by rfl):
  PE X (.Call (.Name x p') (e::es) [] pos) (TV K ml (ps && mF.isEmpty) true true (cS m mF (DS F d) fs)):=by
 subst hK;obtain⟨fd,u0,F',Bd,hd⟩:=D.ok;refine(FT F' (hr.mono hk) hg D.at_ D.kp Bd (.cons hd .nil) J4 ha hdb he hpl).imp fun σ H Q h=> ?_;obtain⟨B,O,δ,as,δ',S,q,k⟩:=R6 h;exact⟨B,O,δ,as,δ',S,q,fun vs H' R=>BQ hv hn (by have z:spV X.K mF m (DS F d) (vs++[]) H' Q E0:=k vs H' R;rwa[Bm] at z)⟩
noncomputable def XI:List (Str×cO)->Str->Option cO
 |[],_=>none
 |(y,F)::r,x=>if y=x then some F else XI r x
def E2(X:Cx)(K:Ai)(mF:List Nat)(n:Nat)(tb:List (Str×cO)):Prop:= ∀x F a,XI tb x=some F->Fg K mainGlobals x=some (some (.ref a))->FnAt X a (spV K mF n F)
theorem zBI{mF:List Nat}{n:Nat}:E2 X K mF n []:=fun _ _ _ h=>nomatch h
theorem XJ{x:Str}{kk j n:Nat}{qs:List Str}{mF:List Nat}{F:cO}{ff:Addr}{tb:List (Str×cO)}(hK:X.K=K)(hm: ∀x a,Fg K mainGlobals x=some (some (.ref a))->X.mg x=some (.ref a))(hr:Z6 j X.A)
  (D:Def X.prog X.w K X.mg X.base x kk qs (spV K mF n F) ff) (hk:kk<=j) (t:E2 X K mF n tb):E2 X K mF n ((x,F)::tb):=fun y G a h1 h2=>by
 unfold XI at h1;split at h1
 ·rename_i hxy
  subst hxy;cases h1;have e:=(hm x a h2).symm.trans D.at_;cases e;subst hK;exact D.fnAt hr hk
 ·exact t y G a h1 h2
noncomputable def N7(n:Nat)(mF:List Nat)(tb:List (Str×cO))(i:Nat)(fs:SE):VF:=fun δ=>match δ[i]? with
 |some (.va (.fn x))=>(XI tb x).bind fun F=>cS n mF F fs δ
 |_=>none
theorem B8{y:Str}{i n:Nat}{mF:List Nat}{tb:List (Str×cO)}{p':Pos}{fs:SE}(ht:E2 X K mF n tb)(hf:PE X (.Name y p') (YT i))(ha:PA X (e::es) (GJ K ml ps fs))
  (he:Ae (e::es) X.env=(false,eval e X.env)::Ae es X.env:=by rfl) (hpl:(Dh pos (Ae es X.env)).any (·.1)=false:=by rfl):
  PE X (.Call (.Name y p') (e::es) [] pos) (TV K ml (ps && mF.isEmpty) true true (N7 n mF tb i fs)):=(zA0 hf ha he hpl).imp fun σ H Q h=>by
 obtain⟨B,O,δ,d,δ',S,q,k⟩:=h;unfold N7 at q;split at q
 ·rename_i x hx
  obtain⟨F,hF,q⟩:=Aa.mp q;obtain⟨v,e1,r⟩:=S.va i _ hx;cases r with
  |fn h=>
   refine⟨_,e1,_,_,rfl,ht x F _ hF h,?_⟩;obtain⟨B,O,δ,as,δ',S,q,k⟩:=R6 (F:=F) (fs:=fs) (K:=K) (ml:=ml) (ps:=ps) (n:=n) (mF:=mF) (σ:=σ) (H:=H) (Q:=Q) ⟨B,O,δ,d,δ',S,q,k⟩;exact⟨B,O,δ,as,δ',S,q,fun vs H' R=>by have z:spV K mF n F (vs++[]) H' Q E0:=k vs H' R;rwa[Bm] at z⟩
 ·cases q
end
section
variable{X:Cx}{K:Ai}{ml:List Nat}{e a b c:Expr}{es:List Expr}{pa ta ia pb tb ib pc tc ic pu bt bi ps bs:Bool}{fa fb fc f:VF}{B B':Bs}{O:Nat->Option Addr}{H H1 H':Hp}{σ:St}{δ δ':Ev}{v:V}{d:dH}{p:Addr}{pos:Pos}
theorem SA.away{N N':Addr->Prop}{q:Addr}{o:HO}(hp:H p=none)(hN: ∀a,N' a->N a∨a=p)(w:SA K N H q d):SA K N' (upd H p o) q d:=by
 cases w with
 |lst q r=>exact .lst (c7 hp _ _ q) ((r.away hp _ _ hN).same (c7 hp))
 |dct q r=>exact .dct (c7 hp _ _ q) ((r.away hp _ _ hN).same (c7 hp))
 |flt q r=>exact .flt (q.same (c7 hp)) ((r.away hp _ _ hN).same (c7 hp))
def TAGE(K:Ai)(ml:List Nat)(pu:Bool)(f:SE):TA:=fun σ H Q=> ∃B O δ as δ',aR K ml B O H σ δ/\f δ=some (as,δ')/\ ∀vs H',ResG K ml B O H σ pu H' δ' vs as-> ∀vs1 v,vs=vs1++[v]-> ∀p,H' p=none->Q (vs1++[.ref p,v]) (upd H' p (.dK []))
theorem zDA{fs:SE}(ha:PE X a (TV K ml pa true true fa))(hr:PA X es (TAGE K ml ps fs))(hs:Ae (a::es) X.env=(false,eval a X.env)::Ae es X.env:=by rfl):PA X (a::es) (TAGE K ml (pa && ps) (aE fa fs)):=(a9 ha hr hs).imp fun σ H Q hq0=>by
 obtain⟨B,O,δ,as,δ2,S,q,k⟩:=hq0;unfold aE at q;obtain⟨⟨x,δ1⟩,h1,q⟩:=Aa.mp q;have q:((fs δ1).map fun q=>(AV.d x::q.1,q.2))=some (as,δ2):=q;obtain⟨p2,h2,q⟩:=Ao.mp q;cases q;refine⟨B,O,δ,x,δ1,S,h1,fun v1 H1 R1=>⟨B,O,δ1,_,_,R1.sta,h2,fun vs H2 R2 vs1 v hv p hp=>k (v1::vs) H2 ⟨R2.sta,R1.frm.trans R2.frm,fun z=> ?_,.d (R1.rep.fr R2.frm (fun a z=> .inr z) fun a z=> .inr z) R2.rep⟩ (v1::vs1) v (by rw[hv];rfl) p hp⟩⟩;obtain⟨z1,z2⟩:=(Af _ _).mp z;exact(R1.pur z1).trans (R2.pur z2)
theorem zHO{fs:SE}{j:Nat}{as:List AV}(q:aO j fs δ=some (as,δ')): ∃d as',slot δ j=some d/\fs δ=some (as',δ')/\as= .o j::as':=by
 unfold aO at q;cases h1:slot δ j with
 |none=>rw[h1] at q;cases q
 |some d=>
  rw[h1] at q;have q:((fs δ).map fun q=>(AV.o j::q.1,q.2))=some (as,δ'):=q;cases h2:fs δ with
  |none=>rw[h2] at q;cases q
  |some p2=>
   rw[h2] at q;cases q;exact⟨d,_,rfl,rfl,rfl⟩
end
section
variable{X:Cx}{K:Ai}{ml:List Nat}{e a b c:Expr}{es:List Expr}{pa ta ia pb tb ib pc tc ic pu bt bi ps bs:Bool}{fa fb fc f:VF}{pos p':Pos}{d:dH}{x:Str}
theorem vv(i:Nat)(hN:X.N[i]? =some x:=by rfl)(hv:Vis X.env.scope x:=by first|exact Fo rfl|exact Fb (Fo rfl)|exact Fb (Fb rfl))(hd:(x==("__debug__":Str))=false:=by decide)
  (hcd:(x==("__classdict__":Str))=false:=by decide):PE X (.Name x pos) (TV K ml true true true (fV i)):=zE7 (HK hN hv hd hcd)
theorem vo(i:Nat)(hN:X.N[i]? =some x:=by rfl)(hv:Vis X.env.scope x:=by first|exact Fo rfl|exact Fb (Fo rfl)|exact Fb (Fb rfl))(hd:(x==("__debug__":Str))=false:=by decide)
  (hcd:(x==("__classdict__":Str))=false:=by decide):PE X (.Name x pos) (TV K ml true false true (fO i)):=zE8 (HK hN hv hd hcd)
theorem aL(hu:X.A.units+1<cLine)(ha:PE X a (TV K ml pa ta ia fa))(hb:PE X b (TV K ml pb tb ib fb))(hK:X.K=K:=by rfl)(hx:KQ b:=by exact fun _ _=>rfl)(hs:(pb || (ta && ia))=true:=by rfl):PE X (.Subscript a b pos) (TV K ml (pa && pb) ia ia (f2 cL fa fb)):=
 zHU (kIxA hK hu) zJZ ha hb hx hs
theorem veq(hu:X.A.units+64<cLine)(ha:PE X a (TV K ml pa ta ia fa))(hb:PE X b (TV K ml pb tb ib fb))(hK:X.K=K:=by rfl)(hs:(pb || (ta && ia))=true:=by rfl):PE X (.Compare a [.Eq] [b] pos) (TV K ml (pa && pb) true true (f2 XX fa fb)):=
 RB (kEqD hK hu) s_eq ha hb (bS _) hs
theorem ZG(hu:X.A.units+64<cLine)(ha:PE X a (TV K ml pa ta ia fa))(hb:PE X b (TV K ml pb tb ib fb))(hK:X.K=K:=by rfl)(hs:(pb || (ta && ia))=true:=by rfl):PT X (.Compare a [.Eq] [b] pos) (TB K ml (pa && pb) (fB (f2 XX fa fb))):=
 b5 (kEqD hK hu) s_eq ha hb (bS _) hs
theorem bP{kk j n:Nat}{qs:List Str}{mF:List Nat}{F:cO}{ff:Addr}{fs:SE}(D:Def X.prog X.w K X.mg X.base x kk qs (spV K mF n F) ff)(hr:Z6 j X.A)(ha:PA X (e::es) (GJ K ml ps fs))(hK:X.K=K:=by rfl)(hk:kk<=j:=by decide)(hg:Gl X x:=by rfl)(hdb:(x==("__debug__":Str))=false:=by decide)
  (he:Ae (e::es) X.env=(false,eval e X.env)::Ae es X.env:=by rfl) (hpl:(Dh pos (Ae es X.env)).any (·.1)=false:=by rfl):
  PE X (.Call (.Name x p') (e::es) [] pos) (TV K ml (ps && mF.isEmpty) true true (cS n mF F fs)):=zBE hK D hr hk hg ha hdb he hpl
theorem X9(hm:X.mg "len"=none) (ha:PE X a (TV K ml pa ta ia fa)) (hK:X.K=K:=by rfl) (hg:Gl X "len":=by rfl) (he:Ae (a::[]) X.env=(false,eval a X.env)::Ae [] X.env:=by rfl):PE X (.Call (.Name "len" p') [a] [] pos) (TV K ml pa true true (f1 Y6 fa)):=
 NF (zJV hK) zIL hg hm zB4 ha (by decide) (by decide) he
theorem CJ{n:String}(hm:X.mg x=none)(hv:Bf x=some (.type n))(hg:Gl X x:=by rfl)(hn:x≠ "__name__":=by decide) (hd:(x==("__debug__":Str))=false:=by decide):PE X (.Name x pos) (TV K ml true true true (fC (.ty n))):=
 EX (zCA (v:= .ty n) hg hm hv rfl hn hd) fun _ _ _=> .ty _
theorem O6(hm:X.mg "isinstance"=none) (ha:PE X a (TV K ml pa ta ia fa)) (hb:PE X b (TV K ml pb tb ib fb)) (hK:X.K=K:=by rfl) (hg:Gl X "isinstance":=by rfl)
  (he:Ae (a::[b]) X.env=(false,eval a X.env)::Ae [b] X.env:=by rfl) (he2:Ae (b::[]) X.env=(false,eval b X.env)::Ae [] X.env:=by rfl) (hpl:(Dh pos (Ae [b] X.env)).any (·.1)=false:=by rfl) (hs:(pb || (ta && ia))=true:=by rfl):
  PE X (.Call (.Name "isinstance" p') [a,b] [] pos) (TV K ml (pa && pb) true true (f2 VJ fa fb)):=KJ (kIsi hK) zIM hg hm NK ha hb (by decide) (by decide) he he2 hpl hs
end
def A4(K:Ai)(x:Str)(st:Stmt)(f:Addr):Prop:= ∃(oc:Value) (od:Option Addr) (kV doc pm:Value) (an:Option Addr) (cdv ct:Value) (osl:Array (Option Value)),Fg K mainGlobals x=some (some (.ref f))∧
 K.lookup f=some ⟨oc,od,.func (Ge x x (aQ st) (bE st) (c9 st) .none kV doc pm an cdv ct),osl⟩/\Ha K cdv x=true/\Eg K (.ref f)=true
theorem a4{K:Ai}{x:Str}{st:Stmt}{f:Addr}{oc:Value}{od:Option Addr}{kV doc pm:Value}{an:Option Addr}{cdv ct:Value}{osl:Array (Option Value)}(a:Fg K mainGlobals x=some (some (.ref f)))
  (b:K.lookup f=some ⟨oc,od,.func (Ge x x (aQ st) (bE st) (c9 st) .none kV doc pm an cdv ct),osl⟩) (c:Ha K cdv x=true) (d:Eg K (.ref f)=true):A4 K x st f:=⟨oc,od,kV,doc,pm,an,cdv,ct,osl,a,b,c,d⟩
theorem A4.ns{K:Ai}{x:Str}{st:Stmt}{f:Addr}(p:A4 K x st f):Fg K mainGlobals x=some (some (.ref f)):=by
 obtain⟨_,_,_,_,_,_,_,_,_,a,_⟩:=p;exact a
theorem aJ{P:Ax}{w:World}{K:Ai}{mg:Str->Option Value}{base h:Heap}{x:Str}{st:Stmt}{f:Addr}{ps:List Str}{sp:Sp}{k:Nat}(X:K.In h)(G:h.Ns mainGlobals mg)(p:A4 K x st f)(ok: ∀{fd:Cy},Y3 K x x st f fd->bX P w K mg base CX0 k f fd ps sp)
  (hb: ∀{kV doc pm:Value} {an:Option Addr} {cdv ct:Value} (us:List Value),us.length=ps.length->bindArgs (Ge x x (aQ st) (bE st) (c9 st) .none kV doc pm an cdv ct) ⟨us,[]⟩=pure (ps.zip us)):Def P w K mg base x k ps sp f:=by
 obtain⟨oc,od,kV,doc,pm,an,cdv,ct,osl,a,b,c,d⟩:=p;have U:=LG (st:=st) b c d;exact⟨Ez X G a,⟨_,ok U,U.binds fun _ _ _ _ _ _=>hb⟩,d⟩
theorem XU(P:Ax)(w:World)(K:Ai)(mg:Str->Option Value)(base:Heap){x qual:Str}{st:Stmt}{f:Addr}{fd:Cy}(N ps:List Str)(k:Nat)(g:VS)(ml:List Nat)(F:Y3 K x qual st f fd)(S:cV N ps (c9 st))
  (aq: ∀(cdv:Value) (A:Cm) (outer:List Env) (s:Ag) (H:Hp) (E:XK) (hr:Z6 k (A.deeper (Hw qual (c9 st) s.heap.objs.size f cdv))) (_:(A.deeper (Hw qual (c9 st) s.heap.objs.size f cdv)).units+64<cLine) (_:(A.deeper (Hw qual (c9 st) s.heap.objs.size f cdv)).units+1<cLine),
   QJ (NM CX0 P w K mg base N qual (c9 st) f cdv A outer s H E).nox (bE st) (SD K ml g)) (hps:ps.length<=N.length:=by decide):bX P w K mg base CX0 (k+1) f fd ps (spV K ml ps.length (bU N.length ml g)):=
 Y3.okV F S hps fun cdv A outer s H E hr=>aq cdv A outer s H E hr hr.units (zDX hr)
theorem aU{N P:List Str}{sc:Scope}(a:sc.kind= .function:=by rfl)(b:sc.isCoroutine=false:=by rfl)(c:sc.isGenerator=false:=by rfl)(d:N.Nodup:=by decide+kernel)(e:N.take P.length=P:=by rfl)
  (f: ∀x∈P,sc.names.lookup x=some .local∨sc.names.lookup x=some .cell:=by decide+kernel) (g: ∀y∈sc.names,y.2≠Bi:=by decide+kernel):cV N P sc:=⟨a,b,c,d,e,f,g⟩
section
variable{X:Cx}{aa:List (Addr×Obj)}{σ:St}{H:Hp}{s:Ag}{a C dx p q:Addr}{f g nm:Str}{xs ys:List V}{v:V}{A:Cm}{E:Value->Ag->Prop}
theorem FA{P:Ax}{w:World}{h:Heap}(hok:T3 P w H h)(e:H a=some (.flt C dx f g p q xs ys)): ∃mA,IJ h a dx C mA/\(∀n,WJ (([(f,.ref p),(g,.ref q)]:List (Str×V)).lookup n) (mA n))/\Ht mA [f,g]:=by
 obtain⟨_,⟨ne,_⟩,ob,⟨mA,n,r,z⟩,_⟩:=(show aP P w H h a (.flt C dx f g p q xs ys) from hok a _ e);exact⟨mA,⟨ob,n,ne⟩,r,z⟩
theorem JK{b:Bool}{Q:Value->Ag->Prop}(I:cM X aa σ H s)(e:H a=some (.flt C dx f g p q xs ys))(c:Cls X.K C)(n:Z4 X.K C nm)(l:([(f,.ref p),(g,.ref q)]:List (Str×V)).lookup nm=some v)
  (h: ∀u s',cM X aa σ H s'->b6 v u->Q u s'):wpAny (model X.prog X.w) A (getAttr (.ref a) nm b) Q E s:=by
 obtain⟨mA,O,r,_⟩:=FA I.hok e;obtain⟨u,hu,ru⟩:=WJ.some_of (v:=v) (o:=mA nm) (by rw[<- l];exact r nm);exact zCV I.kIn O (c.get nm) c.hd n hu (DY ru) (h u _ (I.tok _) ru)
theorem JL{m:Str}{k:Addr}{pl:Sem Bool}{Q:Value×List Value->Ag->Prop}(I:cM X aa σ H s)(e:H a=some (.flt C dx f g p q xs ys))(c:Cls X.K C)(hm:Meth X.K C m k)(l:([(f,.ref p),(g,.ref q)]:List (Str×V)).lookup m=none)
  (h:Q (.ref k,[.ref a]) s):wpAny (model X.prog X.w) A (Kx (.ref a) m pl) Q E s:=by
 obtain⟨mA,O,r,_⟩:=FA I.hok e;have hn:mA m=none:=WJ.none_of (by rw[<- l];exact r m);exact zAO I.kIn O (c.get m) hm.at_ hm.fn hn h
end
def tPrt(K:Ai)(ta:TE)(nm:Str):TE:=fun σ H Q=>ta σ H fun x H1=> ∃a C dx f g p q xs ys v,x= .ref a/\H1 a=some (.flt C dx f g p q xs ys)/\Cls K C/\Z4 K C nm/\([(f,.ref p),(g,.ref q)]:List (Str×V)).lookup nm=some v/\Q v H1
section
variable{X:Cx}{e:Expr}{nm:Str}{pos:Pos}{ta:TE}
theorem HJ(he:PE X e ta)(hb:By e nm X.env (eval e X.env)=eval e X.env):PE X (.Attribute e nm pos) (tPrt X.K ta nm):=by
 intro aa s σ H Q I h;refine zD6 hb (ZX (he aa s σ H _ I h) fun u s1 ⟨x,H1,I1,rx,a,C,dx,f,g,p,q,xs,ys,v,ex,ea,c,n,l,k⟩=> ?_);subst ex;obtain rfl:u=Be a:=rx;exact JK I1 ea c n l fun u s' I' r=>⟨v,H1,I',r,k⟩
end
theorem lk1{f g:Str}{p q:V}:([(f,p),(g,q)]:List (Str×V)).lookup f=some p:=by
 rw[Bj];simp
theorem lk2{f g:Str}{p q:V}(h:f≠g):([(f,p),(g,q)]:List (Str×V)).lookup g=some q:=by
 rw[Bj,Bj];have:(g==f)=false:=by simpa using h.symm
 rw[this];simp
structure PP(K:Ai)(x f g:Str):Prop where
 cls: ∀C,Fg K mainGlobals x=some (some (.ref C))->Cls K C/\Z4 K C f/\Z4 K C g
 ne:f≠g
noncomputable def fA(x f g:Str)(b:Bool)(i:Nat):VF:=fun δ=>match δ[i]? with
 |some (.ow (.flt x' f' g' k ds))=>if x'=x/\f'=f/\g'=g then some (.lst (if b then ds.take k else ds.drop k),δ) else none
 |_=>none
section
variable{X:Cx}{K:Ai}{ml:List Nat}{e:Expr}{pos:Pos}{x f g:Str}
theorem CB{i:Nat}(b:Bool)(hK:X.K=K)(c:PP K x f g)(h:PE X e (YT i))(hb:By e (if b then f else g) X.env (eval e X.env)=eval e X.env):PE X (.Attribute e (if b then f else g) pos) (TV K ml true false true (fA x f g b i)):=by
 subst hK;refine(HJ h hb).imp fun σ H Q hq0=> ?_;obtain⟨B,O,δ,d',δ',S,q,k⟩:=hq0;unfold fA at q;split at q
 ·rename_i x' f' g' n ds hd
  split at q
  ·rename_i hx
   obtain⟨rfl,rfl,rfl⟩:=hx;cases q;obtain⟨a,e1,e2,w⟩:=S.ow i _ hd;cases w with
   | @flt _ _ _ xs ys _ q r=>
    obtain⟨C,dx,p,q',e,⟨z1,z2⟩,hC⟩:=q;obtain⟨c1,c2,c3⟩:=c.cls C hC;cases b with
    |true=>
     refine⟨.ref a,e2,a,C,dx,_,_,p,q',xs,ys,.ref p,rfl,e,c1,c2,lk1,k _ H (CQ.refl S (.fzm (xs:=xs) (.inr ⟨a,C,dx,_,_,p,q',xs,ys,z1,e,fun z=>z,.inl ⟨rfl,rfl⟩⟩) ?_))⟩;have:=r.take xs.length
     rw[Ki] at this;exact this
    |false=>
     refine⟨.ref a,e2,a,C,dx,_,_,p,q',xs,ys,.ref q',rfl,e,c1,c3,lk2 c.ne,k _ H (CQ.refl S (.fzm (xs:=ys) (.inr ⟨a,C,dx,_,_,p,q',xs,ys,z2,e,fun z=>z,.inr ⟨rfl,rfl⟩⟩) ?_))⟩;have:=r.drop xs.length
     rw[Kj] at this;exact this
  ·cases q
 ·cases q
end
def zIQ:V->List V->Hp->VK->Prop:=fun x vs H Q=> ∃l a C dx f g p q xs ys y,x= .ref l/\vs=[y]/\H l=some (.own a)/\H a=some (.flt C dx f g p q xs ys)∧
 ((l=p/\xs.length<sizeLine/\Q .non (upd H a (.flt C dx f g p q (xs++[y]) ys)))∨(l=q/\ys.length<sizeLine/\Q .non (upd H a (.flt C dx f g p q xs (ys++[y])))))
section
variable{X:Cx}{aa:List (Addr×Obj)}{σ:St}{H:Hp}{s:Ag}{a C dx p q:Addr}{f g:Str}{xs ys:List V}
theorem FC{P:Ax}{w:World}{h h':Heap}{l:Addr}{xs' ys':List V}(x:aP P w H h a (.flt C dx f g p q xs ys))(ha:H a=some (.flt C dx f g p q xs ys))(hl:H l=some (.own a))(hd:l≠dx)(k: ∀b u,b≠l->h.get? b=some u->h'.get? b=some u)
  (n1:xs'.length<=sizeLine/\ ∃(its:List Value) (n:Nat),bT xs' its/\h'.get? p=some {cls:= .type "list",data:= .seq its.toArray n}) (n2:ys'.length<=sizeLine/\ ∃(its:List Value) (n:Nat),bT ys' its/\h'.get? q=some {cls:= .type "list",data:= .seq its.toArray n}):
  aP P w (upd H a (.flt C dx f g p q xs' ys')) h' a (.flt C dx f g p q xs' ys'):=by
 obtain⟨⟨d1,d2,d3⟩,ne,e,⟨mA,⟨od,es,ep,e2,c⟩,r⟩,_,_⟩:=x;have na: ∀b,H b=some (.own a)->b≠a:=fun b h=>XW h ha (fun z=>nomatch z);exact⟨⟨by rw[cY (na _ d1)];exact d1,by rw[cY (na _ d2)];exact d2,by rw[cY (na _ d3)];exact d3⟩,ne,k _ _ (na _ hl).symm e,⟨mA,⟨od,es,ep,k _ _ hd.symm e2,c⟩,r⟩,n1,n2⟩
theorem zCM:MtM X "list.append" zIQ:=by
 intro aa s σ H x vs v us Q I rx rv h;obtain⟨l,a,C,dx,f,g,p,q,xs,ys,y,rfl,rfl,hl,ha,z⟩:=h;cases rx;obtain⟨u,rfl,ru⟩:=rv.one;have ok:aP X.prog X.w H s.heap a (.flt C dx f g p q xs ys):=I.hok a _ ha;obtain⟨_,⟨_,n1,n2,n3,_⟩,_,_,⟨z1,i1,m1,v1,e1⟩,z2,i2,m2,v2,e2⟩:=ok;rcases z with⟨rfl,hz,k⟩|⟨rfl,hz,k⟩
 ·have ag:=v1.length
  refine Il Hx ⟨_,e1,rfl⟩ Hj (Gx _ _) (Im l i1.toArray m1 u (by rw[Am];lia)) ⟨e1,?_⟩;refine⟨.non,_,?_,rfl,k⟩;have q':=Jd e1 (fun z=>z.push u);refine I.write (x:=a) (e:=l) (by rw[ha];exact trivial) (.inr hl) (fun b' u hb hu=>(Cf s.heap _ (Dj hb)).trans hu) ⟨_,q'⟩ ?_;refine FC (I.hok a _ ha) ha hl n1 (fun b' u hb hu=>(Cf s.heap _ (Dj hb)).trans hu) ⟨by rw[Al,Bx];lia,i1++[u],_,v1.append (.cons ru .nil),by simpa using q'⟩ ⟨z2,i2,m2,v2,(Cf s.heap _ n3).trans e2⟩
 ·have ag:=v2.length
  refine Il Hx ⟨_,e2,rfl⟩ Hj (Gx _ _) (Im l i2.toArray m2 u (by rw[Am];lia)) ⟨e2,?_⟩;refine⟨.non,_,?_,rfl,k⟩;have q':=Jd e2 (fun z=>z.push u);refine I.write (x:=a) (e:=l) (by rw[ha];exact trivial) (.inr hl) (fun b' u hb hu=>(Cf s.heap _ (Dj hb)).trans hu) ⟨_,q'⟩ ?_;refine FC (I.hok a _ ha) ha hl n2 (fun b' u hb hu=>(Cf s.heap _ (Dj hb)).trans hu) ⟨z1,i1,m1,v1,(Cf s.heap _ (Dj n3)).trans e1⟩ ⟨by rw[Al,Bx];lia,i2++[u],_,v2.append (.cons ru .nil),by simpa using q'⟩
end
noncomputable def ownF(x f g:Str)(δ:Ev)(i:Nat):Option (Nat×List dH):=match δ[i]? with
 |some (.ow (.flt x' f' g' k ds))=>if x'=x/\f'=f/\g'=g then some (k,ds) else none
 |_=>none
theorem Q3{x f g:Str}{δ:Ev}{i k:Nat}{ds:List dH}(h:ownF x f g δ i=some (k,ds)):δ[i]? =some (.ow (.flt x f g k ds)):=by
 unfold ownF at h;split at h
 ·rename_i e
  split at h
  ·rename_i z
   obtain⟨rfl,rfl,rfl⟩:=z;cases h;exact e
  ·cases h
 ·cases h
noncomputable def WN(b:Bool)(k:Nat)(ds:List dH)(d:dH):Nat×List dH:=if b then(k+1,ds.take k++d::ds.drop k) else(k,ds++[d])
noncomputable def QB(x f g:Str)(b:Bool)(i:Nat)(fs:RH):VS:=fun δ=>(ownF x f g δ i).bind fun _=>(fs δ).bind fun r=>(ownF x f g r.2 i).bind fun z=>match r.1 with
 |[d]=>if z.2.length<16777216 then some (.nx (r.2.set i (.ow (.flt x f g (WN b z.1 z.2 d).1 (WN b z.1 z.2 d).2)))) else none
 |_=>none
section
variable{X:Cx}{K:Ai}{ml:List Nat}{e:Expr}{es:List Expr}{pu:Bool}{pos:Pos}{x f g:Str}{H:Hp}
theorem EK{N:Addr->Prop}{l C dx p q:Addr}{f g:Str}{us ws us' ws':List V}{xs:List V}{ds:List dH}(ho:H l=some (.flt C dx f g p q us ws))(hN:N l)(h:cJ K N H xs ds):cJ K N (upd H l (.flt C dx f g p q us' ws')) xs ds:=
 h.fr (P:=fun b=>b=l) ⟨fun b u q n=>by
  by_cases hb:b=l
  ·subst hb
   rw[ho] at q;cases q;exact absurd (n rfl) fun z=>z
  ·rw[cY hb]
   exact q,PQ.upd fun C' dx' f' g' p' q' xs' ys' z=>by
  rw[ho] at z;cases z;exact⟨_,_,rfl⟩⟩ fun a z=>z▸hN
theorem GA{i:Nat}{v:Str}{ai ah ae af:Pos}{fs:RH}(b:Bool)(hK:X.K=K)(c:PP K x f g)
  (ho:PE X (.Name v af) (YT i)) (ha:PA X (e::es) (IK K ml pu true fs))
  (hb0:By (.Name v af) (if b then f else g) X.env (eval (.Name v af) X.env)=eval (.Name v af) X.env)
  (ar:By (.Attribute (.Name v af) (if b then f else g) ai) "append" X.env (eval (.Attribute (.Name v af) (if b then f else g) ai) X.env)=eval (.Attribute (.Name v af) (if b then f else g) ai) X.env)
  (ca : ((Dh ae (Ae (e :: es) X.env)).all (fun x => !x.1) && (Hb ae (Fe [] X.env)).all (fun x => x.1.isSome)
   && decide ((e::es).length+([]:List Gm).length+(if([]:List Gm).isEmpty then 0 else 1)<30))=true)
  (ao:(ah.endLine==ae.line)=true) (hs:Ae (e::es) X.env=(false,eval e X.env)::Ae es X.env) (ak:(Dh ae (Ae es X.env)).any (·.1)=false)
  (hsw:El (.Call (.Attribute (.Attribute (.Name v af) (if b then f else g) ai) "append" ah) (e::es) [] ae) none pos.line X.env=pure false):
  PS X (.Expr (.Call (.Attribute (.Attribute (.Name v af) (if b then f else g) ai) "append" ah) (e::es) [] ae) pos) (SD K ml (QB x f g b i fs)):=by
 subst hK;refine(LV (kBm (K:=X.K) rfl Iy Cj Ck zCM (HJ ho hb0) ha ar ca ao hs ak) hsw).imp fun D σ H hq0=> ?_;obtain⟨B,O,δ,o,S,q,k⟩:=hq0;unfold QB at q;obtain⟨⟨k0,ds0⟩,h0,q⟩:=Aa.mp q;obtain⟨⟨es',δ1⟩,h1,q⟩:=Aa.mp q;obtain⟨⟨k1,ds⟩,h2,q⟩:=Aa.mp q;obtain⟨a,e1,e2,w⟩:=S.ow i _ (Q3 h0);split at q
 ·rename_i d hd
  simp only at hd;subst hd;split at q
  ·rename_i hz
   cases q;cases w with
   | @flt _ _ _ xs ys _ w0 r0=>
    obtain⟨C,dx,p,q',e,⟨z1,z2⟩,hC⟩:=w0;obtain⟨c1,c2,c3⟩:=c.cls C hC;have fin: ∀vs H1,ResA X.K ml B O H σ pu true H1 δ1 vs [d]-> ∃us ws v,vs=[v]/\H1 a=some (.flt C dx f g p q' us ws)/\us.length=k1/\(us++ws).length<sizeLine/\ ∀us' ws',(cJ X.K (Nn B O) H1 (us++ws) ds->bQ X.K (Nn B O) H1 (Nn B O) v d->cJ X.K (Nn B O) H1 (us'++ws') (WN b k1 ds d).2/\us'.length=(WN b k1 ds d).1)→
      D.nx σ (upd H1 a (.flt C dx f g p q' us' ws')):=fun vs H1 R=>by
     obtain⟨us0,ws0,e5⟩:=R.frm.ft _ _ _ _ _ _ _ _ _ e;obtain⟨a',e3,_,w1⟩:=R.sta.ow i _ (Q3 h2);rw[e1] at e3;cases e3;have rr:=R.rep;cases rr with
     | @cons v _ _ _ hv t=>
      cases t;cases w1 with
      | @flt _ _ _ us ws _ w2 r2=>
       obtain⟨C',dx',p',q'',e6,⟨z3,z4⟩,hC'⟩:=w2;rw[e5] at e6;cases e6;have ag:=r2.length;refine⟨us0,ws0,v,rfl,e5,rfl,by rw[ag,Cb];exact hz,fun us' ws' hr=> ?_⟩;obtain⟨r3,l3⟩:=hr r2 hv;have na: ∀b,H1 b=some (.own a)->b≠a:=fun b h=>XW h e5 (fun z=>nomatch z);have ow:SA X.K (Nn B O) (upd H1 a (.flt C dx f g p q' us' ws')) a (.flt x f g us'.length (WN b us0.length ds d).2):=
        .flt ⟨C,dx,p,q',cX,⟨by rw[cY (na _ z3)];exact z3,by rw[cY (na _ z4)];exact z4⟩,hC⟩ (EK e5 (.inr ⟨i,e1⟩) r3)
       rw[l3] at ow;exact k σ _ O (R.sta.wrote e1 (fun z=>z) (fun _ _ _ _ _ _ _ _ z=>by rw[e5] at z;cases z;exact⟨_,_,rfl⟩) ow)
    cases b with
    |true=>
     refine⟨.ref a,e2,a,C,dx,_,_,p,q',xs,ys,.ref p,rfl,e,c1,c2,lk1,.inl ⟨rfl,_,.inl (.inl (.inr ⟨a,C,dx,_,_,p,q',xs,ys,z1,e,.inl ⟨rfl,rfl⟩⟩))⟩,B,O,δ,[d],δ1,S,h1,fun vs H1 R=> ?_⟩;obtain⟨us,ws,v,rfl,e5,hk,hl,fn⟩:=fin vs H1 R;refine⟨p,a,C,dx,_,_,p,q',us,ws,v,rfl,rfl,R.frm _ _ z1 fun _=>trivial,e5,.inl ⟨rfl,by rw[Al] at hl;lia,fn _ _ fun r hv=>⟨?_,by simp[WN,hk]⟩⟩⟩;have t1:=r.take us.length;have t2:=r.drop us.length;rw[Ki] at t1;rw[Kj] at t2;rw[hk] at t1 t2;have:=(t1.snoc hv).append t2
     simpa[WN] using this
    |false=>
     refine⟨.ref a,e2,a,C,dx,_,_,p,q',xs,ys,.ref q',rfl,e,c1,c3,lk2 c.ne,.inl ⟨rfl,_,.inl (.inl (.inr ⟨a,C,dx,_,_,p,q',xs,ys,z2,e,.inr ⟨rfl,rfl⟩⟩))⟩,B,O,δ,[d],δ1,S,h1,fun vs H1 R=> ?_⟩;obtain⟨us,ws,v,rfl,e5,hk,hl,fn⟩:=fin vs H1 R;refine⟨q',a,C,dx,_,_,p,q',us,ws,v,rfl,rfl,R.frm _ _ z2 fun _=>trivial,e5,.inr ⟨rfl,by rw[Al] at hl;lia,fn _ _ fun r hv=>⟨?_,by simp[WN,hk]⟩⟩⟩;have:=r.snoc hv
     simpa[WN] using this
  ·cases q
 ·cases q
end
def BX(C:Addr)(m:Str)(sp:Sp)(dvs:List V)(E:XK)(ta:TE)(t:TA):TE:=fun σ H Q=>ta σ H fun x H1=> ∃a dx f g p q xs ys,x= .ref a/\H1 a=some (.flt C dx f g p q xs ys)/\(f≠m/\g≠m)∧
 t σ H1 fun vs H2=>sp (x::(vs++dvs)) H2 Q E
theorem lk0{f g m:Str}{p q:V}(h:f≠m/\g≠m):([(f,p),(g,q)]:List (Str×V)).lookup m=none:=by
 rw[Bj,Bj];have h1:(m==f)=false:=by simpa using h.1.symm
 have h2:(m==g)=false:=by simpa using h.2.symm
 rw[h1,h2];rfl
section
variable{X:Cx}{o e:Expr}{es:List Expr}{C f:Addr}{m:Str}{ah pos:Pos}{CX:CY}{k:Nat}{fd:Cy}{ps:List Str}{sp:Sp}{ds:List Value}{dvs:List V}{E:XK}{ta:TE}{t:TA}
theorem AH{pl:Sem Bool}(he:PE X o ta)(c:Cls X.K C)(hm:Meth X.K C m f)(F:bX X.prog X.w X.K X.mg X.base CX k f fd ps sp)(hr:Z6 k X.A)(hb:XV X.K fd ps ds)(hd:bT dvs ds)(hx:QK CX X E)(ha:PA X (e::es) t)
  (hst:Ae (e::es) X.env=(false,eval e X.env)::Ae es X.env:=by rfl) (hpl:(Dh pos (Ae es X.env)).any (·.1)=false:=by rfl)
  (ht:eval (.Call (.Attribute o m ah) (e::es) [] pos) X.env=(do
   let ov<- eval o X.env
   Lh ah.atName
   let (f,first)<- Ib [ov] (Kx ov m pl)
   callWith pos f first (Dh pos (Ae (e::es) X.env)) (Hb pos (Fe [] X.env))):=by rfl):
  PE X (.Call (.Attribute o m ah) (e::es) [] pos) (BX C m sp dvs E ta t):=by
 intro aa s σ H Q I h;refine W.methodCall_KW (pl:=pl) (ZX (he aa s σ H _ I h) fun u s1 ⟨x,H1,I1,rx,a,dx,f,g,p,q,xs,ys,ex,ea,l,qq⟩=> ?_) ht;subst ex;obtain rfl:u=Be a:=rx;refine JL I1 ea c hm (lk0 l) ?_;refine Ly (first:=[.ref a]) (h₀:=X.base) I.ok.mod.kin hm.kp (ZX (ha pos aa s1 σ H1 _ I1 qq) fun us s2 ⟨vs,H2,I2,r,q2⟩=>⟨I2.kIn,?_⟩) hst hpl;exact HP (us:= .ref a::us) (vs:= .ref a::vs) F hr hb hd hx I2 (.cons rfl r) q2
end
noncomputable def Z3(x f g:Str)(i n:Nat)(mF:List Nat)(F:cO)(fs:SE):VF:=fun δ=>(ownF x f g δ i).bind fun _=>cS n mF F (aO i fs) δ
section
variable{X:Cx}{K:Ai}{ml:List Nat}{H:Hp}{σ:St}{ps:Bool}{x f g:Str}
theorem zHZ{fs:SE}{j:Nat}{Q:List V->Hp->Prop}(h:GJ K ml ps (aO j fs) σ H Q): ∃v,σ[j]? =some (some v)/\GJ K ml ps fs σ H fun vs H1=>Q (v::vs) H1:=by
 obtain⟨B,O,δ,as,δ2,S,q,k⟩:=h;unfold aO at q;obtain⟨d,h1,q⟩:=Aa.mp q;have q:((fs δ).map fun q=>(AV.o j::q.1,q.2))=some (as,δ2):=q;obtain⟨p2,h2,q⟩:=Ao.mp q;cases q;obtain⟨v,e⟩:=S.slot h1;exact⟨v,e,B,O,δ,_,_,S,h2,fun vs H2 R2=>k _ H2 ⟨R2.sta,R2.frm,R2.pur,.o e R2.rep⟩⟩
theorem B6{i n:Nat}{mF:List Nat}{F:cO}{fs:SE}{Q:VK}{C:Addr}{m:Str}(hC:Fg K mainGlobals x=some (some (.ref C)))(hm:f≠m/\g≠m)(h:TV K ml (ps && mF.isEmpty) true true (Z3 x f g i n mF F fs) σ H Q):BX C m (spV K mF n F) [] E0 (YT i) (GJ K ml ps fs) σ H Q:=by
 obtain⟨B,O,δ,d,δ2,S,q,k⟩:=h;unfold Z3 at q;obtain⟨⟨k0,ds0⟩,h0,q⟩:=Aa.mp q;obtain⟨a,e1,e2,w⟩:=S.ow i _ (Q3 h0);have h1:=R6 (ps:=ps) (Q:=Q) (show TV K ml (ps && mF.isEmpty) true true (cS n mF F (aO i fs)) σ H Q from⟨B,O,δ,d,δ2,S,q,k⟩);obtain⟨v,e3,h2⟩:=zHZ h1;rw[e2] at e3;cases e3;cases w with
 | @flt _ _ _ xs ys _ w0 r0=>
  obtain⟨C',dx,p,q',e,_,hC'⟩:=w0;rw[hC] at hC';cases hC';exact⟨.ref a,e2,a,dx,f,g,p,q',xs,ys,rfl,e,hm,h2⟩
structure DefM(P:Ax)(w:World)(K:Ai)(mg:Str->Option Value)(base:Heap)(x:Str)(C:Addr)(m:Str)(k:Nat)(ps:List Str)(sp:Sp)(f:Addr):Prop where
 nm:Fg K mainGlobals x=some (some (.ref C))
 cls:Cls K C
 at_:Meth K C m f
 ok: ∃fd,bX P w K mg base CX0 k f fd ps sp/\XV K fd ps []
theorem zHV{C ff:Addr}{m v:Str}{kk j i n:Nat}{qs:List Str}{mF:List Nat}{F:cO}{fs:SE}{af ah pos:Pos}{e:Expr}{es:List Expr}{pl:Sem Bool}(hK:X.K=K)(D:DefM X.prog X.w K X.mg X.base x C m kk qs (spV K mF n F) ff)(hm:f≠m/\g≠m)(hr:Z6 j X.A)(hk:kk<=j)
  (ho:PE X (.Name v af) (YT i)) (ha:PA X (e::es) (GJ K ml ps fs))
  (hst:Ae (e::es) X.env=(false,eval e X.env)::Ae es X.env:=by rfl) (hpl:(Dh pos (Ae es X.env)).any (·.1)=false:=by rfl)
  (ht:eval (.Call (.Attribute (.Name v af) m ah) (e::es) [] pos) X.env=(do
   let ov<- eval (.Name v af) X.env
   Lh ah.atName
   let (f,first)<- Ib [ov] (Kx ov m pl)
   callWith pos f first (Dh pos (Ae (e::es) X.env)) (Hb pos (Fe [] X.env))):=by rfl):
  PE X (.Call (.Attribute (.Name v af) m ah) (e::es) [] pos) (TV K ml (ps && mF.isEmpty) true true (Z3 x f g i n mF F fs)):=by
 subst hK;obtain⟨fd,Fn,B⟩:=D.ok;exact(AH ho D.cls D.at_ Fn (hr.mono hk) B .nil J4 ha hst hpl ht).imp fun _ _ _ h=>B6 D.nm hm h
end
section
variable{X:Cx}{aa:List (Addr×Obj)}{σ:St}{H:Hp}{s:Ag}{a C dx p q:Addr}{f g:Str}{xs ys:List V}
noncomputable def X8(H:Hp)(a C dx:Addr)(f g:Str)(p q:Addr)(xs ys:List V):Hp:=upd (upd (upd H p (.own a)) q (.own a)) a (.flt C dx f g p q xs ys)
theorem T3.pack{P:Ax}{w:World}{h:Heap}(ok:T3 P w H h)(e:H a=some (.ins C dx [(f,.ref p),(g,.ref q)]))(hp:H p=some (.lst xs))(hq:H q=some (.lst ys))(n:p≠q)(hfg:f≠g):T3 P w (X8 H a C dx f g p q xs ys) h:=by
 have pa:p≠a:=XW hp e (fun z=>nomatch z);have qa:q≠a:=XW hq e (fun z=>nomatch z);obtain⟨d,z,ne,ob,mA,nA,r,wi⟩:=(show aP P w H h a (.ins C dx [(f,.ref p),(g,.ref q)]) from ok a _ e);have dp:dx≠p:=XW d hp (fun z=>nomatch z);have dq:dx≠q:=XW d hq (fun z=>nomatch z);have go: ∀b,b≠a->b≠p->b≠q->X8 H a C dx f g p q xs ys b=H b:=fun b h1 h2 h3=>by
  unfold X8;rw[cY h1,cY h3,cY h2]
 have ga:X8 H a C dx f g p q xs ys a=some (.flt C dx f g p q xs ys):=cX;have gp:X8 H a C dx f g p q xs ys p=some (.own a):=by
  unfold X8;rw[cY pa,cY n,cX]
 have gq:X8 H a C dx f g p q xs ys q=some (.own a):=by
  unfold X8;rw[cY qa,cX]
 intro b u hb;by_cases h1:b=a
 ·subst h1
  rw[ga] at hb;cases hb;exact⟨⟨(go dx ne dp dq).trans d,gp,gq⟩,⟨ne,dp.symm,dq.symm,n,hfg⟩,ob,⟨mA,nA,r,wi⟩,ok p _ hp,ok q _ hq⟩
 ·by_cases h2:b=p
  ·subst h2
   rw[gp] at hb;cases hb;obtain⟨_,_,_,_,e'⟩:=ok b _ hp;exact⟨_,e'⟩
  ·by_cases h3:b=q
   ·subst h3
    rw[gq] at hb;cases hb;obtain⟨_,_,_,_,e'⟩:=ok b _ hq;exact⟨_,e'⟩
   ·rw[go b h1 h2 h3] at hb
    refine(ok b u hb).stay (fun _ _ _ z=>z) (fun c hc=> ?_) fun c zs hc=> ?_
    ·rw [go c (XW hc e fun z => nomatch z) (XW hc hp fun z => nomatch z) (XW hc hq fun z => nomatch z)]
     exact hc
    ·rw [go c (XW hc e fun z => nomatch z) (XW hc hp fun z => nomatch z) (XW hc hq fun z => nomatch z)]
     exact hc
theorem cM.pack(I:cM X aa σ H s)(e:H a=some (.ins C dx [(f,.ref p),(g,.ref q)]))(hp:H p=some (.lst xs))(hq:H q=some (.lst ys))(n:p≠q)(hfg:f≠g):cM X aa σ (X8 H a C dx f g p q xs ys) s:=by
 have go: ∀b,b≠a->b≠p->b≠q->X8 H a C dx f g p q xs ys b=H b:=fun b h1 h2 h3=>by
  unfold X8;rw[cY h1,cY h3,cY h2]
 have kp: ∀b u,H b=some u->(∀C dx fs,u≠ .ins C dx fs)->(∀zs,u≠ .lst zs)->X8 H a C dx f g p q xs ys b=some u:=fun b u h h1 h2=>by
  rw[go b (XW h e (h1 _ _ _)) (XW h hp (h2 _)) (XW h hq (h2 _))];exact h
 have fr: ∀b o,s.heap.get? b=some o->H b=none->X8 H a C dx f g p q xs ys b=none:=fun b o h hn=>by
  rw[go b (bC e hn).symm (bC hp hn).symm (bC hq hn).symm];exact hn
 have u:Un X.fs [] H (X8 H a C dx f g p q xs ys) s.heap s.heap:=⟨fun b o h _ _ _=>h,fun b o h _ _ _=>⟨o.slots,h⟩,fun b o h hn _=>fr b o h hn,fun b o h _=>⟨o,h⟩,fun b zs h=>kp b _ h (fun _ _ _ z=>nomatch z) (fun _ z=>nomatch z),fun b o v h=>kp b _ h (fun _ _ _ z=>nomatch z) (fun _ z=>nomatch z),fun b zs h=>⟨#[],by simpa using kp b _ h (fun _ _ _ z=>nomatch z) (fun _ z=>nomatch z)⟩⟩;exact I.un (h':=s.heap) (t':=s.toks) u (I.hok.pack e hp hq n hfg)
end
noncomputable def G5(H:Hp)(x C dx:Addr)(f g:Str)(p q:Addr):Hp:=upd (upd (upd (upd H p (.lst [])) x (.ins C dx [(f,.ref p)])) q (.lst [])) x (.ins C dx [(f,.ref p),(g,.ref q)])
def spI(C:Addr)(f g:Str):Sp:=fun vs H Q _=> ∃x dx,vs=[.ref x]/\H x=some (.ins C dx [])/\ ∀p q,H p=none->H q=none->p≠q->Q .non (G5 H x C dx f g p q)
noncomputable def NP(H:Hp)(x C dx:Addr)(f g:Str)(p q:Addr):Hp:=X8 (G5 (upd (upd H dx (.own x)) x (.ins C dx [])) x C dx f g p q) x C dx f g p q [] []
def zI2(C:Addr)(f g:Str):TE:=fun _ H Q=> ∀x dx p q,H x=none->H dx=none->H p=none->H q=none->dx≠x->p≠x->p≠dx->q≠x->q≠dx->p≠q->Q (.ref x) (NP H x C dx f g p q)
section
variable{X:Cx}{CX:CY}{k:Nat}{ff C:Addr}{fd:Cy}{ps:List Str}{f g y:Str}{pn pos:Pos}
theorem zC6(M:Mk X.K C ff)(F:bX X.prog X.w X.K X.mg X.base CX0 k ff fd ps (spI C f g))(hr:Z6 (k+1) X.A)(hg:Gl X y)(hm:X.mg y=some (.ref C))(hb:XV X.K fd ps [])(hfg:f≠g)(hdb:(y==("__debug__":Str))=false:=by decide):PE X (.Call (.Name y pn) [] [] pos) (zI2 C f g):=by
 intro aa s σ H Q I h;have base:=AG (p:=pn) (pos:=pos) M F hr hg hm hb .nil J4 hdb aa s σ H (fun v H2=> ∃x dx p q,v= .ref x/\H2=G5 (upd (upd H dx (.own x)) x (.ins C dx [])) x C dx f g p q/\dx≠x/\p≠x/\p≠dx/\q≠x/\q≠dx/\p≠q/\Q v (NP H x C dx f g p q)) I (fun x dx h1 h2 h3=>by
  refine⟨x,dx,rfl,cX,fun p q hp hq n=>⟨rfl,x,dx,p,q,rfl,rfl,h3,?_⟩⟩;have px:p≠x:=fun z=>by rw[z,cX] at hp;cases hp
  have qx:q≠x:=fun z=>by rw[z,cX] at hq;cases hq
  rw[cY px] at hp;rw[cY qx] at hq;have pd:p≠dx:=fun z=>by rw[z,cX] at hp;cases hp
  have qd:q≠dx:=fun z=>by rw[z,cX] at hq;cases hq
  rw[cY pd] at hp;rw[cY qd] at hq;exact⟨px,pd,qx,qd,n,h x dx p q h1 h2 hp hq h3 px pd qx qd n⟩)
 refine ZX base fun u s' ⟨v,H2,I2,rv,x,dx,p,q,e1,e2,n1,n2,n3,n4,n5,n6,k⟩=> ?_;subst e1;subst e2;refine⟨.ref x,_,I2.pack (f:=f) (g:=g) (p:=p) (q:=q) (xs:=[]) (ys:=[]) cX ?_ ?_ n6 hfg,rv,k⟩
 ·unfold G5
  rw[cY n2,cY n6,cY n2,cX]
 ·unfold G5
  rw[cY n4,cX]
theorem zCJ{H:Hp}{x C dx p q:Addr}(n2:p≠x)(n4:q≠x)(n6:p≠q):NP H x C dx f g p q x=some (.flt C dx f g p q [] [])/\NP H x C dx f g p q p=some (.own x)/\NP H x C dx f g p q q=some (.own x):=by
 unfold NP X8;exact⟨cX,by rw[cY n2,cY n6,cX],by rw[cY n4,cX]⟩
theorem zCI{H:Hp}{x C dx p q b:Addr}(h1:b≠x)(h2:b≠dx)(h3:b≠p)(h4:b≠q):NP H x C dx f g p q b=H b:=by
 unfold NP X8 G5;rw[cY h1,cY h4,cY h3,cY h1,cY h4,cY h1,cY h3,cY h1,cY h2]
def E9(y f g:Str):VF:=fun δ=>some (.flt y f g 0 [],δ)
theorem zBB{K:Ai}{ml:List Nat}(hK:X.K=K)(M:Mk K C ff)(F:bX X.prog X.w K X.mg X.base CX0 k ff fd ps (spI C f g))(hr:Z6 (k+1) X.A)(hg:Gl X y)(hm:X.mg y=some (.ref C))(hC:Fg K mainGlobals y=some (some (.ref C)))(hb:XV K fd ps [])(hfg:f≠g)(hdb:(y==("__debug__":Str))=false:=by decide):
  PE X (.Call (.Name y pn) [] [] pos) (TN K ml true (E9 y f g)):=by
 subst hK;refine(zC6 M F hr hg hm hb hfg hdb).imp fun σ H Q hq0=> ?_;obtain⟨B,O,δ,d,δ',S,q,k⟩:=hq0;cases q;intro x dx p q h1 h2 h3 h4 n1 n2 n3 n4 n5 n6;obtain⟨ex,ep,eq⟩:=zCJ (H:=H) (C:=C) (dx:=dx) (f:=f) (g:=g) n2 n4 n6;have sm:aG H (NP H x C dx f g p q):=fun b o e=>by
  rw[zCI (bC e h1) (bC e h2) (bC e h3) (bC e h4)];exact e
 have sm2:aG (upd H x (.flt C dx f g p q [] [])) (NP H x C dx f g p q):=fun b o e=>by
  by_cases hb:b=x
  ·subst hb
   rw[cX] at e;cases e;exact ex
  ·rw[cY hb] at e
   exact sm b o e
 exact k x _ ⟨(S.laid h1).same sm2,sm.fr,fun _=>sm,.flt (xs:=[]) (ys:=[]) ⟨C,dx,p,q,ex,⟨ep,eq⟩,hC⟩ .nil,S.new h1,S.fresh h1⟩
end
theorem zCU{P:Ax}{w:World}{K:Ai}{mg:Str->Option Value}{base:Heap}{y qual:Str}{st:Stmt}{ff C:Addr}{fd:Cy}{k:Nat}{f g:Str}(F:Y3 K y qual st ff fd)(S:cV ["self"] ["self"] (c9 st)) (c:Cls K C) (n1:Z4 K C f) (n2:Z4 K C g) (hfg:f≠g)
  (aq: ∀(cdv:Value) (A:Cm) (outer:List Env) (s:Ag) (H:Hp) (E:XK),Z6 k (A.deeper (Hw qual (c9 st) s.heap.objs.size ff cdv))→
   QJ (NM CX0 P w K mg base ["self"] qual (c9 st) ff cdv A outer s H E).nox (bE st) (tSeq (BF K (YT 0) (BW NT) f) (BF K (YT 0) (BW NT) g))):bX P w K mg base CX0 (k+1) ff fd ["self"] (spI C f g):=by
 refine F.ok S (fun vs H Q E h=> ?_) fun cdv A outer s H vs Q E hr h=>⟨_,aq cdv A outer s H E hr,?_⟩
 ·obtain⟨x,dx,rfl,_⟩:=h
  rfl
 ·obtain⟨x,dx,rfl,hx,k⟩:=h
  have st0:(start ["self"] [V.ref x])[0]? =some (some (V.ref x)):=rfl;refine⟨Dx _,fun p hp=>⟨.ref x,st0,x,C,dx,[],rfl,?_,c,n1,by simp,?_⟩⟩
  ·rw[cY (bC hx hp)]
   exact hx
  ·refine ⟨Dx _,fun q hq => ⟨.ref x,st0,x,C,dx,[(f,.ref p)],rfl,?_,c,n2,by simp,?_⟩⟩
   ·have hq:upd (upd H p (.lst [])) x (.ins C dx (WB f (.ref p) [])) q=none:=hq
    have qx:q≠x:=fun z=>by rw[z,cX] at hq;cases hq
    rw[cY (Dj qx),cX];rfl
   ·have hq:upd (upd H p (.lst [])) x (.ins C dx (WB f (.ref p) [])) q=none:=hq
    have qx:q≠x:=fun z=>by rw[z,cX] at hq;cases hq
    rw[cY qx] at hq;have qp:q≠p:=fun z=>by rw[z,cX] at hq;cases hq
    rw[cY qp] at hq;have e:WB g (.ref q) [(f,V.ref p)]=[(f,.ref p),(g,.ref q)]:=by
     show(if f=g then _ else _)=_;rw[if_neg hfg];rfl
    have:=k p q hp hq (Dj qp)
    unfold G5 at this;rw[e];exact this
section
variable{X:Cx}{K:Ai}{ml:List Nat}{a:Expr}{es:List Expr}{pos:Pos}{x f g:Str}{ps bs:Bool}
theorem B7{i:Nat}{fs:RH}(b:Bool)(hK:X.K=K)(c:PP K x f g)(ha:PE X a (YT i))(hb:By a (if b then f else g) X.env (eval a X.env)=eval a X.env)(hr:PA X es (IK K ml ps bs fs))
  (hs:Ae (.Attribute a (if b then f else g) pos::es) X.env=(false,eval (.Attribute a (if b then f else g) pos) X.env)::Ae es X.env) (hl:ps=true:=by rfl) (hm:i∉ml:=by decide):
  PA X (.Attribute a (if b then f else g) pos::es) (IK K ml ps false (dD (fA x f g b i) fs)):=by
 subst hK;refine(a9 (HJ ha hb) hr hs).imp fun σ H Q hq0=> ?_;obtain⟨B,O,δ,d,δ2,S,q,k⟩:=hq0;obtain⟨y,δ1,xs,h1,h2,rfl⟩:=QP q;unfold fA at h1;split at h1
 ·rename_i x' f' g' n ds hd
  split at h1
  ·rename_i hx
   obtain⟨rfl,rfl,rfl⟩:=hx;cases h1;obtain⟨o,e1,e2,w⟩:=S.ow i _ hd;have nz: ¬av B O false o:=fun z=>by
    rcases z.2 with z|⟨j,z⟩
    ·exact(S.old i o e1).1 z
    ·have hj:=S.par.1 j o z
     have:O j=some o:=(S.par.2 j hj).trans z
     exact hm (S.inj j i o this e1▸hj)
   have mo: ∀z,av B O false z->Nn B O z:=fun z h=>h.1;cases w with
   | @flt _ _ _ us ws _ q0 r=>
    obtain⟨C,dx,p,q',e,⟨z1,z2⟩,hC⟩:=q0;obtain⟨c1,c2,c3⟩:=c.cls C hC;cases b with
    |true=>
     refine⟨.ref o,e2,o,C,dx,_,_,p,q',us,ws,.ref p,rfl,e,c1,c2,lk1,B,O,δ,xs,δ2,S,h2,fun vs H2 R2=>k _ H2 ⟨R2.sta,R2.frm,R2.pur,.cons (bQ.same (R2.pur hl) (.fzm (xs:=us) (.inr ⟨o,C,dx,_,_,p,q',us,ws,z1,e,nz,.inl ⟨rfl,rfl⟩⟩) ?_)) (R2.rep.mono (VO (b:=false) fun z=>nomatch z))⟩⟩;have:=(r.mono mo).take us.length
     rw[Ki] at this;exact this
    |false=>
     refine⟨.ref o,e2,o,C,dx,_,_,p,q',us,ws,.ref q',rfl,e,c1,c3,lk2 c.ne,B,O,δ,xs,δ2,S,h2,fun vs H2 R2=>k _ H2 ⟨R2.sta,R2.frm,R2.pur,.cons (bQ.same (R2.pur hl) (.fzm (xs:=ws) (.inr ⟨o,C,dx,_,_,p,q',us,ws,z2,e,nz,.inr ⟨rfl,rfl⟩⟩) ?_)) (R2.rep.mono (VO (b:=false) fun z=>nomatch z))⟩⟩;have:=(r.mono mo).drop us.length
     rw[Kj] at this;exact this
  ·cases h1
 ·cases h1
end
noncomputable def EJ(f:cO->cO):Nat->cO
 |0=>fun _=>none
 |n+1=>f (EJ f n)
theorem RQ{P:Ax}{w:World}{K:Ai}{mg:Str->Option Value}{base:Heap}{k n:Nat}{f:Addr}{fd:Cy}{ps:List Str}{ml:List Nat}:bX P w K mg base CX0 k f fd ps (spV K ml n fun _=>none):=by
 refine⟨fun vs H Q E h=> ?_,fun A outer s H args us vs Q E _ _ _ _ h=> ?_⟩<;>
 ·obtain⟨_,_,_,_,_,_,h,_⟩:=h
  cases h
def U8(P:Ax)(w:World)(K:Ai)(mg:Str->Option Value)(base:Heap)(x m:Str)(k:Nat)(ps:List Str)(mF:List Nat)(n:Nat)(F:cO)(f:Addr):Prop:= ∃C,DefM P w K mg base x C m k ps (spV K mF n F) f
def A4m(K:Ai)(c x q:Str)(st:Stmt)(f:Addr):Prop:= ∃(C:Addr) (oc:Value) (od:Option Addr) (kV doc pm:Value) (an:Option Addr) (cdv ct:Value) (osl:Array (Option Value)),
 Fg K mainGlobals c=some (some (.ref C))/\Cls K C/\Gq K (.ref C) x=some (some (.ref f))/\W.isFn K (.ref f)=true∧
 K.lookup f=some ⟨oc,od,.func (Ge x q (aQ st) (bE st) (c9 st) .none kV doc pm an cdv ct),osl⟩/\Ha K cdv q=true/\Eg K (.ref f)=true
theorem M2{P:Ax}{w:World}{K:Ai}{mg:Str->Option Value}{base:Heap}{c x q:Str}{st:Stmt}{f:Addr}{ps:List Str}{mF:List Nat}{n:Nat}{F:cO}{k:Nat}(p:A4m K c x q st f)(ok: ∀{fd:Cy},Y3 K x q st f fd->bX P w K mg base CX0 k f fd ps (spV K mF n F))
  (hb: ∀{kV doc pm:Value} {an:Option Addr} {cdv ct:Value} (us:List Value),us.length=ps.length->bindArgs (Ge x q (aQ st) (bE st) (c9 st) .none kV doc pm an cdv ct) ⟨us,[]⟩=pure (ps.zip us)):U8 P w K mg base c x k ps mF n F f:=by
 obtain⟨C,oc,od,kV,doc,pm,an,cdv,ct,osl,a,z,m,i,b,c,d⟩:=p;have U:=LG (st:=st) b c d;exact⟨C,a,z,⟨m,i,d⟩,_,ok U,U.binds fun _ _ _ _ _ _=>hb⟩
def NewF(P:Ax)(w:World)(K:Ai)(mg:Str->Option Value)(base:Heap)(y f g:Str):Prop:= ∃C ff fd ps,Mk K C ff/\bX P w K mg base CX0 1 ff fd ps (spI C f g)/\mg y=some (.ref C)/\Fg K mainGlobals y=some (some (.ref C))/\XV K fd ps []
section
variable{X:Cx}{K:Ai}{ml:List Nat}{e:Expr}{es:List Expr}{ps pu:Bool}{x f g m v:Str}{pos af ah ai ae:Pos}{i j kk n:Nat}{fs:RH}
theorem zE6{pn:Pos}(hN:NewF X.prog X.w K X.mg X.base x f g)(c:PP K x f g)(hr:Z6 j X.A)(hK:X.K=K:=by rfl)(hj:2<=j:=by decide)(hg:Gl X x:=by rfl)(hdb:(x==("__debug__":Str))=false:=by decide):PE X (.Call (.Name x pn) [] [] pos) (TN K ml true (E9 x f g)):=by
 obtain⟨C,ff,fd,ps,M,F,h1,h2,h3⟩:=hN;exact zBB hK M F (hr.mono hj) hg h1 h2 h3 c.ne hdb
theorem CF(c:PP K x f g)(h:PE X e (YT i))(hK:X.K=K:=by rfl)(hb:By e f X.env (eval e X.env)=eval e X.env:=by rfl):PE X (.Attribute e f pos) (TV K ml true false true (fA x f g true i)):=CB true hK c h hb
theorem zD9(c:PP K x f g)(h:PE X e (YT i))(hK:X.K=K:=by rfl)(hb:By e g X.env (eval e X.env)=eval e X.env:=by rfl):PE X (.Attribute e g pos) (TV K ml true false true (fA x f g false i)):=CB false hK c h hb
theorem zHW(c:PP K x f g)(ho:PE X (.Name v af) (YT i))(ha:PA X (e::es) (IK K ml pu true fs))(hK:X.K=K:=by rfl)
  (hb0:By (.Name v af) f X.env (eval (.Name v af) X.env)=eval (.Name v af) X.env:=by rfl)
  (ar:By (.Attribute (.Name v af) f ai) "append" X.env (eval (.Attribute (.Name v af) f ai) X.env)=eval (.Attribute (.Name v af) f ai) X.env:=by rfl)
  (ca : ((Dh ae (Ae (e :: es) X.env)).all (fun x => !x.1) && (Hb ae (Fe [] X.env)).all (fun x => x.1.isSome)
   && decide ((e::es).length+([]:List Gm).length+(if([]:List Gm).isEmpty then 0 else 1)<30))=true:=by rfl)
  (ao:(ah.endLine==ae.line)=true:=by rfl) (hs:Ae (e::es) X.env=(false,eval e X.env)::Ae es X.env:=by rfl) (ak:(Dh ae (Ae es X.env)).any (·.1)=false:=by rfl)
  (hsw:El (.Call (.Attribute (.Attribute (.Name v af) f ai) "append" ah) (e::es) [] ae) none pos.line X.env=pure false:=by rfl):
  PS X (.Expr (.Call (.Attribute (.Attribute (.Name v af) f ai) "append" ah) (e::es) [] ae) pos) (SD K ml (QB x f g true i fs)):=GA true hK c ho ha hb0 ar ca ao hs ak hsw
theorem zDC(c:PP K x f g)(ho:PE X (.Name v af) (YT i))(ha:PA X (e::es) (IK K ml pu true fs))(hK:X.K=K:=by rfl)
  (hb0:By (.Name v af) g X.env (eval (.Name v af) X.env)=eval (.Name v af) X.env:=by rfl)
  (ar:By (.Attribute (.Name v af) g ai) "append" X.env (eval (.Attribute (.Name v af) g ai) X.env)=eval (.Attribute (.Name v af) g ai) X.env:=by rfl)
  (ca : ((Dh ae (Ae (e :: es) X.env)).all (fun x => !x.1) && (Hb ae (Fe [] X.env)).all (fun x => x.1.isSome)
   && decide ((e::es).length+([]:List Gm).length+(if([]:List Gm).isEmpty then 0 else 1)<30))=true:=by rfl)
  (ao:(ah.endLine==ae.line)=true:=by rfl) (hs:Ae (e::es) X.env=(false,eval e X.env)::Ae es X.env:=by rfl) (ak:(Dh ae (Ae es X.env)).any (·.1)=false:=by rfl)
  (hsw:El (.Call (.Attribute (.Attribute (.Name v af) g ai) "append" ah) (e::es) [] ae) none pos.line X.env=pure false:=by rfl):
  PS X (.Expr (.Call (.Attribute (.Attribute (.Name v af) g ai) "append" ah) (e::es) [] ae) pos) (SD K ml (QB x f g false i fs)):=GA false hK c ho ha hb0 ar ca ao hs ak hsw
theorem vaP2{bs:Bool}(c:PP K x f g)(ha:PE X e (YT i))(hr:PA X es (IK K ml ps bs fs))(hK:X.K=K:=by rfl)(hb:By e g X.env (eval e X.env)=eval e X.env:=by rfl)
  (hs:Ae (.Attribute e g pos::es) X.env=(false,eval (.Attribute e g pos) X.env)::Ae es X.env:=by rfl) (hl:ps=true:=by rfl) (hm:i∉ml:=by decide):PA X (.Attribute e g pos::es) (IK K ml ps false (dD (fA x f g false i) fs)):=B7 false hK c ha hb hr hs hl hm
theorem W8{ff:Addr}{qs:List Str}{mF:List Nat}{F:cO}{gs:SE}{pl:Sem Bool}(D:U8 X.prog X.w K X.mg X.base x m kk qs mF n F ff)(hr:Z6 j X.A)
  (ho:PE X (.Name v af) (YT i)) (ha:PA X (e::es) (GJ K ml ps gs)) (hK:X.K=K:=by rfl) (hm:f≠m/\g≠m:=by decide) (hk:kk<=j:=by decide)
  (hst:Ae (e::es) X.env=(false,eval e X.env)::Ae es X.env:=by rfl) (hpl:(Dh pos (Ae es X.env)).any (·.1)=false:=by rfl)
  (ht:eval (.Call (.Attribute (.Name v af) m ah) (e::es) [] pos) X.env=(do
   let ov<- eval (.Name v af) X.env
   Lh ah.atName
   let (f,first)<- Ib [ov] (Kx ov m pl)
   callWith pos f first (Dh pos (Ae (e::es) X.env)) (Hb pos (Fe [] X.env))):=by rfl):
  PE X (.Call (.Attribute (.Name v af) m ah) (e::es) [] pos) (TV K ml (ps && mF.isEmpty) true true (Z3 x f g i n mF F gs)):=by
 obtain⟨C,D⟩:=D;exact zHV hK D hm hr hk ho ha hst hpl ht
end
section
variable{X:Cx}{K:Ai}{ml:List Nat}{e a b c:Expr}{es:List Expr}{ps:Bool}{H H':Hp}{v:V}{d:dH}{p:Addr}{pos:Pos}
noncomputable def D0(i:Nat)(F:cO):cO:=fun ds=>(F (ds.take i++ .dct [] []::ds.drop i)).map fun q=>(q.1,q.2.drop 1)
theorem BR{i:Nat}{F:cO}{vs1:List V}{Q:VK}{E:XK}(hp:H p=none)(h:spV K [i] (i+1) (D0 i F) (vs1++[v]) H Q E):spV K [i,i+1] (i+2) F (vs1++[.ref p,v]) (upd H p (.dK [])) Q E:=by
 obtain⟨Z,ds,r,os,hl,A,hF,k⟩:=h;obtain⟨ds1,d,rfl⟩: ∃ds1 d,ds=ds1++[d]:=⟨ds.dropLast,ds.getLast (fun z=>by rw[z] at hl;cases hl),(List.dropLast_concat_getLast _).symm⟩;have hd1:ds1.length=i:=by simpa using hl
 have hv1:vs1.length=i:=by have:=A.len;simp at this;lia
 unfold D0 at hF;rw[List.take_left' hd1,List.drop_left' hd1] at hF;obtain⟨⟨r',os0⟩,h0,hF⟩:=Ao.mp hF;cases hF;have lo: ∀(j:Nat),j<i->(vs1++[.ref p,v])[j]? =(vs1++[v])[j]? :=fun j hj=>by rw[Ah (by lia),Ah (by lia)]
 have at1:(vs1++[.ref p,v])[i]? =some (.ref p):=by rw[An (by lia),hv1,Jy];rfl
 have at2:(vs1++[.ref p,v])[i+1]? =some v:=by rw[An (by lia),hv1,show i+1 - i=1 by lia];rfl
 have at3:(vs1++[v])[i]? =some v:=by rw[An (by lia),hv1,Jy];rfl
 have dlo: ∀(j:Nat),j<i->(ds1++ .dct [] []::[d])[j]? =(ds1++[d])[j]? :=fun j hj=>by rw[Ah (by lia),Ah (by lia)]
 have dt1:(ds1++ .dct [] []::[d])[i]? =some (.dct [] []):=by rw[An (by lia),hd1,Jy];rfl
 have dt2:(ds1++ .dct [] []::[d])[i+1]? =some d:=by rw[An (by lia),hd1,show i+1 - i=1 by lia];rfl
 have dt3:(ds1++[d])[i]? =some d:=by rw[An (by lia),hd1,Jy];rfl
 obtain⟨a,ea,wa,za⟩:=A.ow i d (Aj.mpr rfl) dt3;rw[at3] at ea;cases ea;have ap:a≠p:=fun z=>by
  obtain⟨o,q,_⟩:=wa.soft;rw[z,hp] at q;cases q
 have hP: ∀b,VD [i,i+1] (vs1++[.ref p,.ref a]) b->VD [i] (vs1++[.ref a]) b∨b=p:=fun b q0=>by
  obtain⟨j,hj,e⟩:=q0;rcases Ap.mp hj with hj|hj
  ·rw[hj,at1] at e
   cases e;exact .inr rfl
  ·rw[Aj.mp hj,at2] at e
   cases e;exact .inl ⟨i,Aj.mpr rfl,at3⟩
 have hP': ∀b,VD [i] (vs1++[.ref a]) b->VD [i,i+1] (vs1++[.ref p,.ref a]) b:=fun b q0=>by
  obtain⟨j,hj,e⟩:=q0;rw[Aj.mp hj,at3] at e;cases e;exact⟨i+1,Aw _ (Aj.mpr rfl),at2⟩
 have hZ: ∀b,Zp Z [i,i+1] (vs1++[.ref p,.ref a]) b->Zp Z [i] (vs1++[.ref a]) b∨b=p:=fun b h=>by
  rcases h with h|h
  ·exact .inl (.inl h)
  ·exact(hP b h).imp .inr id
 have hZ': ∀b,Zp Z [i] (vs1++[.ref a]) b->Zp Z [i,i+1] (vs1++[.ref p,.ref a]) b:=fun b h=>h.imp id (hP' b);refine⟨Z,ds1++ .dct [] []::[d],_,os0,by simp[hd1],⟨by simp;lia,fun j hj=> ?_,fun j x hj e=> ?_,fun j x hj e=> ?_,fun j1 j2 b h1 h2 e1 e2=> ?_,fun a h=>let ⟨o,q⟩:=A.zin a h;⟨o,c7 hp _ _ q⟩⟩,h0,fun u H' f w rr=>k u H' ⟨fun b o hb hc=>f b o (c7 hp _ _ hb) fun z=> ?_,fun _ _ _ _ _ _ _ _ _ h=>f.ft _ _ _ _ _ _ _ _ _ (c7 hp _ _ h)⟩ (fun kk j b o e1 e2 e3=> ?_) (rr.mono hZ' hZ')⟩
 ·rcases Ap.mp hj with hj|hj
  ·rw[hj]
   simp;lia
  ·rw[Aj.mp hj]
   simp;lia
 ·have hji : j ≠ i := fun z => hj (Ap.mpr (.inl z))
  have hjk:j≠i+1:=fun z=>hj (Ap.mpr (.inr (Aj.mpr z)));have h1:j<i:=by
   have:=(Ak.mp e).1
   simp at this;lia
  rw[dlo j h1] at e;obtain⟨u,e1,r1⟩:=A.va j x (fun z=>hji (Aj.mp z)) e;exact⟨u,by rw[lo j h1];exact e1,(r1.away hp _ _ hZ hZ).same (c7 hp)⟩
 ·rcases Ap.mp hj with hj|hj
  ·subst hj
   rw[dt1] at e;cases e;exact⟨p,at1,.dct (kvs:=[]) cX .nil,fun z=>by
    obtain⟨o,q⟩:=A.zin p z;rw[hp] at q;cases q⟩
  ·rw[Aj.mp hj,dt2] at e
   cases e;exact⟨a,by rw[Aj.mp hj];exact at2,wa.away hp hZ,za⟩
 ·have go : ∀ j,j ∈ [i,i + 1] -> (vs1 ++ [.ref p,.ref a])[j]? = some (.ref b) -> (j = i /\ b = p) ∨ (j = i + 1 /\ b = a) := fun j hj e => by
   rcases Ap.mp hj with hj|hj
   ·rw[hj,at1] at e
    cases e;exact .inl ⟨hj,rfl⟩
   ·have hj:=Aj.mp hj
    rw[hj,at2] at e;cases e;exact .inr ⟨hj,rfl⟩
  rcases go j1 h1 e1 with⟨x1,y1⟩|⟨x1,y1⟩<;>rcases go j2 h2 e2 with⟨x2,y2⟩|⟨x2,y2⟩
  ·rw[x1,x2]
  ·exact absurd (y2.symm.trans y1) ap
  ·exact absurd (y1.symm.trans y2) ap
  ·rw[x1,x2]
 ·rcases hP b z with z|z
  ·exact hc z
  ·rw[z,hp] at hb
   cases hb
 ·have hk:kk=0:=by
   have:=(Ak.mp e1).1
   simpa using this
  subst hk;cases e1;refine(w 1 (i+1) b o rfl ?_ (by rw[List.getElem?_drop] at e3;exact e3)).mono hZ';rw[at2,<- at3];exact e2
theorem CC{j:Nat}{j7:Pos}(hb:PE X b (YT j))(hs:Ae (.Dict [] [] j7::b::[]) X.env=(false,eval (.Dict [] [] j7) X.env)::Ae (b::[]) X.env:=by rfl)(hs2:Ae (b::[]) X.env=(false,eval b X.env)::Ae [] X.env:=by rfl):
  PA X [.Dict [] [] j7,b] (TAGE K ml true (aO j cF)):=(a9 AD (a9 hb Y7 hs2) hs).imp fun σ H Q hq0=>by
 obtain⟨B,O,δ,as,δ2,S,q,k⟩:=hq0;obtain⟨d,as',h1,h2,rfl⟩:=zHO q;cases h2;obtain⟨v,e⟩:=S.slot h1;intro p hp;exact⟨v,e,k [v] H ⟨S,Fr.refl _ _,fun _=>aG.refl _,.o e .nil⟩ [] v rfl p hp⟩
theorem EY{x:Str}{kk j i:Nat}{qs:List Str}{F:cO}{ff:Addr}{p':Pos}{fs:SE}(D:Def X.prog X.w K X.mg X.base x kk qs (spV K [i,i+1] (i+2) F) ff)(hr:Z6 j X.A)(ha:PA X (e::es) (TAGE K ml ps fs))(hK:X.K=K:=by rfl)(hk:kk<=j:=by decide)(hg:Gl X x:=by rfl)(hdb:(x==("__debug__":Str))=false:=by decide)
  (he:Ae (e::es) X.env=(false,eval e X.env)::Ae es X.env:=by rfl) (hpl:(Dh pos (Ae es X.env)).any (·.1)=false:=by rfl):
  PE X (.Call (.Name x p') (e::es) [] pos) (TV K ml (ps && [i].isEmpty) true true (cS (i+1) [i] (D0 i F) fs)):=by
 subst hK;refine(J6 D hr hk hg ha hdb he hpl).imp fun σ H Q h=> ?_;obtain⟨B,O,δ,as,δ',S,q,k⟩:=R6 h;refine⟨B,O,δ,as,δ',S,q,fun vs H' R vs1 v hv p hp=> ?_⟩;subst hv;have z:spV X.K [i] (i+1) (D0 i F) ((vs1++[v])++[]) H' Q E0:=k _ H' R;show spV X.K [i,i+1] (i+2) F ((vs1++[.ref p,v])++[]) (upd H' p (.dK [])) Q E0;rw[Bm] at z⊢;exact BR hp z
end
theorem DV(l b:Addr)(u v:Array Value)(n m:Nat)(sl:Array (Option Value))(h0: ¬(!u.isEmpty && Ey (u.size+v.size))=true)(h1:u.size<=sizeLine)(h2:(u++v).size<=sizeLine+1):
  Meets (Fw.«list.extend» ⟨[.ref l,.ref b],[]⟩) (fun _ R s=>s.heap.get? l=some ⟨.type "list",none,.seq u n,#[]⟩/\s.heap.get? b=some ⟨.type "list",none,.seq v m,sl⟩/\R (.ok (.ret .none)) {s with heap:=s.heap.update l (Ik fun x=>x++v)}):=
 .of_wp fun prog w A R s h=>by
  obtain⟨hp,g,d,tk,os⟩:=s;obtain⟨hl,hb,h⟩:=h;have f1:=AutoSeq1.idx_int;have f2:=AutoSeq1.sub_tuple_tuple;have f3:=AutoSeq1.sub_list_list;have f4:=AutoSeq1.sub_tuple_list;have f5:=AutoSeq1.sub_list_tuple;wp_walk using(wpAny_updateSeq hl rfl (hz:=h1) (_hz':=h2)),Dw hl,Dw hb
  exact⟨_,rfl,h⟩
def AZ(K:Ai):V->List V->Hp->VK->Prop:=fun x vs H Q=> ∃l b xs zs,x= .ref l/\vs=[.ref b]/\H l=some (.lst xs)/\XZ K H b zs/\xs.length+zs.length<=sizeLine/\Q .non (upd H l (.lst (xs++zs)))
theorem zCL{X:Cx}:MtM X "list.extend" (AZ X.K):=by
 intro aa s σ H x vs v us Q I rx rv h;obtain⟨l,b,xs,zs,rfl,rfl,hH,hB,hz,q⟩:=h;cases rx;obtain⟨u,rfl,ru⟩:=rv.one;cases ru;obtain⟨z,its,n,r,hl,e⟩:=I.lstM hH;obtain⟨cw,r2,⟨⟨cls,dd,data,sl⟩,n2,e2,hc,hd,eh⟩,_⟩:=I.list hB;simp only at hc hd eh;subst hc hd eh;have hl2:=r2.length;have hsz:its.toArray.size+cw.toArray.size<=sizeLine:=by rw[Am,Am];lia
 refine Il F.slot_list_extend ⟨_,e,rfl⟩ F.entry_list_extend (F.args_list_extend_2 _ _) (DV l b its.toArray cw.toArray n n2 sl (by
  rw[zA8 hsz,Bool.and_false];exact Du) (by rw[Am];lia) (by rw[Array.size_append];lia)) ⟨e,e2,?_⟩
 refine⟨.non,_,I.lset (its':=its++cw) hH e (by simp) (r.append r2) ?_,rfl,q⟩;rw[Al];lia
theorem zDU{X:Cx}{K:Ai}(h:X.K=K):MtM X "list.extend" (AZ K):=by subst h;exact zCL
noncomputable def mExt:List dH->List dH->Option (List dH)
 |ds,[.lst es]=>if ds.length+es.length<=16777216 then some (ds++es) else none
 |_,_=>none
theorem zAA{K:Ai}:MuV K (AZ K) mExt:=by
 intro H N l xs vs ds es ds' Q hl hN rx re h k;cases re with
 |nil=>cases h
 | @cons v vs d es hd t=>
  cases t with
  |cons _ _=>cases d<;>cases h
  |nil=>
   cases d with
   |lst es=>
    simp only[mExt] at h;split at h
    ·rename_i hz
     cases h;obtain⟨b,zs,rfl,sq,r⟩:=hd.lstE;exact⟨l,b,xs,zs,rfl,rfl,hl,sq,by rw[rx.length,r.length,Cb];exact hz,k _ _ (rx.append r)⟩
    ·cases h
   |_=>cases h
noncomputable def S5{α:Type}(k:Nat)(xs:List α):List α:=(Bh k xs).flatten
theorem BA{α:Type}(k:Nat)(xs:List α):(S5 k xs).length=xs.length*k:=by
 unfold S5;induction k with
 |zero=>simp
 |succ k ih=>rw[Cp,Fa,Al,ih,Nat.mul_succ,Nat.add_comm]
theorem bT.repV{xs:List V}{us:List Value}(r:bT xs us)(k:Nat):bT (S5 k xs) (S5 k us):=by
 unfold S5;induction k with
 |zero=>exact .nil
 |succ k ih=>rw[Cp,Cp,Fa,Fa];exact r.append ih
theorem cJ.rep{K:Ai}{N:Addr->Prop}{H:Hp}{xs:List V}{ds:List dH}(r:cJ K N H xs ds)(k:Nat):cJ K N H (S5 k xs) (S5 k ds):=by
 unfold S5;induction k with
 |zero=>exact .nil
 |succ k ih=>rw[Cp,Cp,Fa,Fa];exact r.append ih
section
variable{X:Cx}{K:Ai}
def A6(K:Ai):R2:=fun x y H Q=> ∃l xs k,x= .ref l/\y= .int k/\XZ K H l xs/\(0<=k/\k<2 ^ 62)/\xs.length*k.toNat<=16777216/\ ∀p,H p=none->Q (.ref p) (upd H p (.lst (S5 k.toNat xs)))
theorem zCB:XS X (Et .Mult) (A6 X.K):=by
 intro aa s σ H x y v u Q I rx ry h;obtain⟨l,xs,x,rfl,rfl,hq,⟨x0,x1⟩,hz,q⟩:=h;cases rx;obtain⟨t,rfl⟩:=ry;obtain⟨its,r,⟨⟨cls,dd,data,sl⟩,n,ho,hc,hd,eh⟩,_⟩:=I.list hq;simp only at hc hd eh;subst hc hd eh;have hl:=r.length;have hsz:its.toArray.size*x.toNat<=16777216:=by rw[Am,<- hl];exact hz
 refine wpAny_binaryOp_repeat_ref (T:= "list") (U:= "int") (by decide) ⟨_,ho,rfl⟩ (fun s'=>Nm s' x t) noFill_list_mul F.fills_int_mul Nb repeat_list F.slot_int_index.lookup
  (Il Nb (Nm s x t) F.entry_int_rmul (F.args_int_rmul_2 _ _) (lm_int_rmul_list_any x t l its.toArray n none sl) ⟨ho,rfl,⟨_,ho,rfl⟩,?_⟩)
 refine Il F.slot_list_mul ⟨_,ho,rfl⟩ F.entry_list_mul (F.args_list_mul_2 _ _) (lm_list_mul_any l its.toArray n none sl x t (by simp[Builtin.List.listFitsIndex];lia) (by lia) (by simp[Ey,sizeLine];lia)) ⟨ho,?_⟩;rw[listMul_foldl_if];refine⟨.ref s.heap.objs.size,_,I.laid (t':=s.toks) (o:= .lst (S5 x.toNat xs)) (fun b ob e=>Ad _ e) (Au _) ?_,rfl,q _ (I.hok.fresh (Au _))⟩;exact⟨by rw[BA,Cb];exact hz,S5 x.toNat its,0,r.repV _,At _ rfl⟩
theorem kRep(h:X.K=K):XS X (Et .Mult) (A6 K):=by subst h;exact zCB
noncomputable def FP:dH->dH->Option dH
 | .lst ds,.int k=>if(0<=k/\k<2 ^ 62)/\ds.length*k.toNat<=16777216 then some (.lst (S5 k.toNat ds)) else none
 |_,_=>none
theorem zKA:OpC K (A6 K) FP:=by
 intro H N M M' x y d e c Q hx hy h k;cases d with
 |lst ds=>
  cases e with
  |int i=>
   simp only[FP] at h;split at h
   ·rename_i hz
    cases h;obtain⟨a,xs,rfl,q1,r1⟩:=hx.lstE;cases hy;exact⟨a,xs,i,rfl,rfl,q1,hz.1,by rw[r1.length];exact hz.2,fun p hp=>k _ _ (c7 hp) fun M hM=> .lst cX (fun z=>by
     obtain⟨o,q⟩:=hM _ z;rw[hp] at q;cases q) ((r1.rep _).same (c7 hp))⟩
   ·cases h
  |_=>cases h
 |_=>cases h
end
theorem zJN{P:Ax}{w:World}{K:Ai}{mg:Str->Option Value}{base h:Heap}{y q f g:Str}{st:Stmt}{ff:Addr}(X:K.In h)(G:h.Ns mainGlobals mg)(c:PP K y f g)(p:A4m K y "__init__" q st ff) (mk: ∀C,Fg K mainGlobals y=some (some (.ref C))->Jo K C=true/\Eg K (.ref C)=true)
  (ok: ∀{C:Addr} {fd:Cy},Y3 K "__init__" q st ff fd->Cls K C->Z4 K C f->Z4 K C g->bX P w K mg base CX0 1 ff fd ["self"] (spI C f g))
  (hb: ∀{kV doc pm:Value} {an:Option Addr} {cdv ct:Value} (us:List Value),us.length=1->bindArgs (Ge "__init__" q (aQ st) (bE st) (c9 st) .none kV doc pm an cdv ct) ⟨us,[]⟩=pure ((["self"]:List Str).zip us)):NewF P w K mg base y f g:=by
 obtain⟨C,oc,od,kV,doc,pm,an,cdv,ct,osl,a,z,m,i,b,c',d⟩:=p;have U:=LG (st:=st) b c' d;obtain⟨c1,c2,c3⟩:=c.cls C a;exact⟨C,ff,_,["self"],⟨(mk C a).1,m,i,(mk C a).2⟩,ok U c1 c2 c3,Ez X G a,a,U.binds fun _ _ _ _ _ _=>hb⟩
theorem ini2{X:Cx}{K:Ai}{f g v:Str}{p1 p2 p3 p4 p5 p6 p7 p8:Pos}(h1:PE X (.Name v p1) (YT 0))(h2:PE X (.Name v p2) (YT 0))(hK:X.K=K:=by rfl)(s1:El (.List [] p3) (some (.Attribute (.Name v p1) f p4)) p5.line X.env=pure false:=by rfl)(s2:El (.List [] p6) (some (.Attribute (.Name v p2) g p7)) p8.line X.env=pure false:=by rfl):
  QJ X [.Assign [.Attribute (.Name v p1) f p4] (.List [] p3) p5,.Assign [.Attribute (.Name v p2) g p7] (.List [] p6) p8] (tSeq (BF K (YT 0) (BW NT) f) (BF K (YT 0) (BW NT) g)):=by
 subst hK;exact OQ (AR h1 (HI Y7) s1) (zBU (AR h2 (HI Y7) s2))
theorem clsF{K:Ai}{x f g:Str}{C:Addr}(h:Fg K mainGlobals x=some (some (.ref C)))(c:Cls K C)(n1:Z4 K C f)(n2:Z4 K C g)(ne:f≠g:=by decide):PP K x f g:=⟨fun C' h'=>by
 rw[h] at h';cases h';exact⟨c,n1,n2⟩,ne⟩
theorem mksF{K:Ai}{x:Str}{C:Addr}(h:Fg K mainGlobals x=some (some (.ref C)))(h1:Jo K C=true)(h2:Eg K (.ref C)=true): ∀C,Fg K mainGlobals x=some (some (.ref C))->Jo K C=true/\Eg K (.ref C)=true:=fun C' h'=>by
 rw[h] at h';cases h';exact⟨h1,h2⟩
end L2
namespace L2
open PySem
section
variable{α β:Type}{d x y z c:dH}{δ δ1 δ':Ev}{fa fb fc:VF}{o o':dH->dH->Option dH}{i j k n:Nat}{s:Sl}{b:Bool}{ds:List dH}
noncomputable def q0(r:Option α)(δ:Ev):Option (α×Ev):=r.map fun c=>(c,δ)
@[simp] theorem q0_s{a:α}:q0 (some a) δ=some (a,δ):=rfl
@[simp] theorem fC_e:fC d δ=some (d,δ):=rfl
noncomputable def qV:Option Sl->Ev->Option (dH×Ev)
 |some (.va d),δ=>some (d,δ)
 |_,_=>none
noncomputable def qO:Option Sl->Ev->Option (dH×Ev)
 |some (.va d),δ=>some (d,δ)
 |some (.ow d),δ=>some (d,δ)
 |_,_=>none
@[simp] theorem fV_e:fV i δ=qV δ[i]? δ:=by unfold fV qV;split<;>simp_all
@[simp] theorem fO_e:fO i δ=qO δ[i]? δ:=by unfold fO qO;split<;>simp_all
@[simp] theorem qV_s:qV (some (.va d)) δ=some (d,δ):=rfl
@[simp] theorem qO_v:qO (some (.va d)) δ=some (d,δ):=rfl
@[simp] theorem qO_o:qO (some (.ow d)) δ=some (d,δ):=rfl
noncomputable def q1(o:dH->Option dH)(r:Option (dH×Ev)):Option (dH×Ev):=r.bind fun p=>q0 (o p.1) p.2
@[simp] theorem f1_e{o:dH->Option dH}:f1 o fa δ=q1 o (fa δ):=rfl
@[simp] theorem q1_s{o:dH->Option dH}:q1 o (some (x,δ))=q0 (o x) δ:=rfl
noncomputable def q2(o:dH->dH->Option dH)(r:Option (dH×Ev))(fb:VF):Option (dH×Ev):=r.bind fun p=>(fb p.2).bind fun q=>q0 (o p.1 q.1) q.2
noncomputable def q2b(o:dH->dH->Option dH)(x:dH)(r:Option (dH×Ev)):Option (dH×Ev):=r.bind fun q=>q0 (o x q.1) q.2
@[simp] theorem f2_e:f2 o fa fb δ=q2 o (fa δ) fb:=rfl
@[simp] theorem q2_s:q2 o (some (x,δ)) fb=q2b o x (fb δ):=rfl
@[simp] theorem zPH:q2b o x (some (y,δ))=q0 (o x y) δ:=rfl
noncomputable def q3(o o':dH->dH->Option dH)(r:Option (dH×Ev))(fb fc:VF):Option (dH×Ev):=r.bind fun p=>(fb p.2).bind fun q=>(o p.1 q.1).bind fun z=>match z with
 | .bl true=>(fc q.2).bind fun s=>(o' q.1 s.1).map fun u=>(u,s.2)
 | .bl false=>some (.bl false,q.2)
 |_=>none
noncomputable def q3b(o o':dH->dH->Option dH)(x:dH)(r:Option (dH×Ev))(fc:VF):Option (dH×Ev):=q3 o o' (some (x,[])) (fun _=>r) fc
noncomputable def q3c(o':dH->dH->Option dH)(y:dH)(δ:Ev)(fc:VF):Option dH->Option (dH×Ev)
 |some (.bl true)=>q2b o' y (fc δ)
 |some (.bl false)=>some (.bl false,δ)
 |_=>none
@[simp] theorem f3_e:f3 o o' fa fb fc δ=q3 o o' (fa δ) fb fc:=rfl
@[simp] theorem q3_s:q3 o o' (some (x,δ)) fb fc=q3b o o' x (fb δ) fc:=rfl
@[simp] theorem zPG:q3b o o' x (some (y,δ)) fc=q3c o' y δ fc (o x y):=by
 simp only[q3b,q3,Aq];cases o x y with
 |none=>rfl
 |some z=>cases z with
  |bl b=>cases b<;>rfl
  |_=>rfl
@[simp] theorem zPE:q3c o' y δ fc (some (.bl true))=q2b o' y (fc δ):=rfl
@[simp] theorem zPF:q3c o' y δ fc (some (.bl false))=some (.bl false,δ):=rfl
noncomputable def qc(r:Option (dH×Ev))(fs:RH):Option (List dH×Ev):=r.bind fun p=>(fs p.2).map fun q=>(p.1::q.1,q.2)
noncomputable def qcb(x:dH)(r:Option (List dH×Ev)):Option (List dH×Ev):=r.map fun q=>(x::q.1,q.2)
@[simp] theorem zNX:cE δ=some ([],δ):=rfl
@[simp] theorem zLG{fs:RH}:dD fa fs δ=qc (fa δ) fs:=rfl
@[simp] theorem qc_s{fs:RH}:qc (some (x,δ)) fs=qcb x (fs δ):=rfl
@[simp] theorem zOQ:qcb x (some (ds,δ))=some (x::ds,δ):=rfl
noncomputable def qT(g:List dH->dH)(r:Option (List dH×Ev)):Option (dH×Ev):=r.bind fun p=>if p.1.length<=16777216 then some (g p.1,p.2) else none
@[simp] theorem zNW{fs:RH}:bI fs δ=qT .tup (fs δ):=rfl
@[simp] theorem zNY{fs:RH}:X0 fs δ=qT .lst (fs δ):=rfl
@[simp] theorem qT_s{g:List dH->dH}:qT g (some (ds,δ))=if ds.length<=16777216 then some (g ds,δ) else none:=rfl
noncomputable def qB:Option (dH×Ev)->Option (Bool×Ev)
 |some (.bl k,δ)=>some (k,δ)
 |_=>none
@[simp] theorem fB_e:fB fa δ=qB (fa δ):=by
 unfold fB qB;cases fa δ with
 |none=>rfl
 |some p=>
  obtain⟨d,e⟩:=p;cases d<;>rfl
@[simp] theorem qB_s:qB (some (.bl b,δ))=some (b,δ):=rfl
variable{tb tb':VB}{g g':VS}
noncomputable def qAnd(r:Option (Bool×Ev))(y:VB):Option (Bool×Ev):=r.bind fun p=>if p.1=true then y p.2 else some (false,p.2)
noncomputable def qOr(r:Option (Bool×Ev))(y:VB):Option (Bool×Ev):=r.bind fun p=>if p.1=true then some (true,p.2) else y p.2
noncomputable def qNot(r:Option (Bool×Ev)):Option (Bool×Ev):=r.map fun p=>(!p.1,p.2)
@[simp] theorem zO6:GN tb tb' δ=qAnd (tb δ) tb':=rfl
@[simp] theorem zQ1:GO tb tb' δ=qOr (tb δ) tb':=rfl
@[simp] theorem zO5:WW tb δ=qNot (tb δ):=rfl
@[simp] theorem zHM:VQ δ=some (true,δ):=rfl
@[simp] theorem zMR:qAnd (some (true,δ)) tb=tb δ:=rfl
@[simp] theorem zMS:qAnd (some (false,δ)) tb=some (false,δ):=rfl
@[simp] theorem zOY:qOr (some (true,δ)) tb=some (true,δ):=rfl
@[simp] theorem zOZ:qOr (some (false,δ)) tb=tb δ:=rfl
@[simp] theorem zML:qNot (some (b,δ))=some (!b,δ):=rfl
noncomputable def qA(r:Option (dH×Ev))(y:VF):Option (dH×Ev):=r.bind fun p=>match p.1 with
 | .bl true=>y p.2
 | .bl false=>some (.bl false,p.2)
 |_=>none
@[simp] theorem zNZ:DW fa fb δ=qA (fa δ) fb:=rfl
@[simp] theorem qA_t:qA (some (.bl true,δ)) fb=fb δ:=rfl
@[simp] theorem qA_f:qA (some (.bl false,δ)) fb=some (.bl false,δ):=rfl
noncomputable def qI(r:Option (Bool×Ev))(x y:VF):Option (dH×Ev):=r.bind fun p=>if p.1=true then x p.2 else y p.2
@[simp] theorem zQ0:NU tb fa fb δ=qI (tb δ) fa fb:=rfl
@[simp] theorem qI_t:qI (some (true,δ)) fa fb=fa δ:=rfl
@[simp] theorem qI_f:qI (some (false,δ)) fa fb=fb δ:=rfl
noncomputable def qS(r:Option Ou)(g:VS):Option Ou:=r.bind fun o=>match o with
 | .nx δ'=>g δ'
 |o=>some o
@[simp] theorem zM1:bD δ=some (.nx δ):=rfl
@[simp] theorem zLZ:cQ g g' δ=qS (g δ) g':=rfl
@[simp] theorem qS_n:qS (some (.nx δ)) g=g δ:=rfl
@[simp] theorem qS_r:qS (some (.rt d δ)) g=some (.rt d δ):=rfl
@[simp] theorem qS_b:qS (some (.bk δ)) g=some (.bk δ):=rfl
@[simp] theorem qS_c:qS (some (.ct δ)) g=some (.ct δ):=rfl
noncomputable def qJ(r:Option (Bool×Ev))(x y:VS):Option Ou:=r.bind fun p=>if p.1=true then x p.2 else y p.2
@[simp] theorem zOB:ZD tb g g' δ=qJ (tb δ) g g':=rfl
@[simp] theorem qJ_t:qJ (some (true,δ)) g g'=g δ:=rfl
@[simp] theorem qJ_f:qJ (some (false,δ)) g g'=g' δ:=rfl
noncomputable def qRet(r:Option (dH×Ev)):Option Ou:=r.map fun p=> .rt p.1 p.2
noncomputable def zDN(r:Option (dH×Ev)):Option Ou:=r.map fun p=> .nx p.2
@[simp] theorem zM0:cH fa δ=qRet (fa δ):=rfl
@[simp] theorem zMH:qRet (some (d,δ))=some (.rt d δ):=rfl
@[simp] theorem zKH:TK fa δ=zDN (fa δ):=rfl
@[simp] theorem zKK:zDN (some (d,δ))=some (.nx δ):=rfl
noncomputable def qx(f:dH->Sl)(r:Option (dH×Ev)):Option (Sl×Ev):=r.map fun p=>(f p.1,p.2)
@[simp] theorem xV_e:xV fa δ=qx .va (fa δ):=rfl
@[simp] theorem xO_e:xO fa δ=qx .ow (fa δ):=rfl
@[simp] theorem qx_s{f:dH->Sl}:qx f (some (d,δ))=some (f d,δ):=rfl
noncomputable def qSet(i:Nat)(r:Option (Sl×Ev)):Option Ou:=r.bind fun p=>if i<p.2.length then some (.nx (p.2.set i p.1)) else none
@[simp] theorem zLY{x:VX}:aZ i x δ=qSet i (x δ):=rfl
@[simp] theorem zME:qSet i (some (s,δ))=if i<δ.length then some (.nx (δ.set i s)) else none:=rfl
@[simp] theorem JJ:gN i d δ=some (δ.set i (.va d)):=rfl
def qg(r:Option Ev)(gs:CS)(ds:List dH):Option Ev:=r.bind fun δ1=>gs ds δ1
@[simp] theorem zLD:ZC [] δ=some δ:=rfl
@[simp] theorem zK1{gg:VG}{gs:CS}:b7 gg gs (d::ds) δ=qg (gg d δ) gs ds:=rfl
@[simp] theorem qg_s{gs:CS}:qg (some δ) gs ds=gs ds δ:=rfl
@[simp] theorem zPX{gs:CS}:N8 n gs (.tup ds) δ=if ds.length=n then gs ds δ else none:=rfl
@[simp] theorem zPY{gs:CS}:N8 n gs (.lst ds) δ=if ds.length=n then gs ds δ else none:=rfl
noncomputable def qAsg(r:Option (dH×Ev))(gg:VG):Option Ou:=r.bind fun p=>(gg p.1 p.2).map Ou.nx
@[simp] theorem zM4{gg:VG}:Q6 fa gg δ=qAsg (fa δ) gg:=rfl
@[simp] theorem zMQ{gg:VG}:qAsg (some (d,δ)) gg=(gg d δ).map Ou.nx:=rfl
noncomputable def qM(i:Nat)(m:List dH->List dH->Option (List dH))(r:Option (List dH))(δ:Ev)(fs:RH):Option Ou:=r.bind fun _=>(fs δ).bind fun p=>(XB p.2 i).bind fun ds=>(m ds p.1).map fun ds'=> .nx (p.2.set i (.ow (.lst ds')))
noncomputable def qMb(i:Nat)(m:List dH->List dH->Option (List dH))(r:Option (List dH×Ev)):Option Ou:=r.bind fun p=>(XB p.2 i).bind fun ds=>(m ds p.1).map fun ds'=> .nx (p.2.set i (.ow (.lst ds')))
noncomputable def qMc(i:Nat)(m:List dH->List dH->Option (List dH))(es:List dH)(δ:Ev)(r:Option (List dH)):Option Ou:=r.bind fun ds=>(m ds es).map fun ds'=> .nx (δ.set i (.ow (.lst ds')))
noncomputable def qMd(i:Nat)(δ:Ev)(r:Option (List dH)):Option Ou:=r.map fun ds'=> .nx (δ.set i (.ow (.lst ds')))
@[simp] theorem zM2{m:List dH->List dH->Option (List dH)}{fs:RH}:OT i m fs δ=qM i m (XB δ i) δ fs:=rfl
@[simp] theorem qM_s{m:List dH->List dH->Option (List dH)}{fs:RH}:qM i m (some ds) δ fs=qMb i m (fs δ):=rfl
@[simp] theorem zP4{m:List dH->List dH->Option (List dH)}{es:List dH}:qMb i m (some (es,δ))=qMc i m es δ (XB δ i):=rfl
@[simp] theorem zP3{m:List dH->List dH->Option (List dH)}{es:List dH}:qMc i m es δ (some ds)=qMd i δ (m ds es):=rfl
@[simp] theorem zP2:qMd i δ (some ds)=some (.nx (δ.set i (.ow (.lst ds)))):=rfl
noncomputable def qOl:Option Sl->Option (List dH)
 |some (.ow (.lst ds))=>some ds
 |_=>none
@[simp] theorem zMV:XB δ i=qOl δ[i]? :=by unfold XB qOl;split<;>simp_all
@[simp] theorem zP0:qOl (some (.ow (.lst ds)))=some ds:=rfl
@[simp] theorem zNI:LP ds [d]=if ds.length<16777216 then some (ds++[d]) else none:=rfl
noncomputable def qOd:Option Sl->Option (List aY×List dH)
 |some (.ow (.dct ks ds))=>some (ks,ds)
 |_=>none
@[simp] theorem zMW:TU δ i=qOd δ[i]? :=by unfold TU qOd;split<;>simp_all
@[simp] theorem zP1{ks:List aY}:qOd (some (.ow (.dct ks ds)))=some (ks,ds):=rfl
noncomputable def qL(i:Nat)(r:Option (dH×Ev))(fi:VF):Option Ou:=r.bind fun p=>(XB p.2 i).bind fun _=>(fi p.2).bind fun q=>(XB q.2 i).bind fun ds=>match q.1 with
 | .int k=>(KP ds.length k).map fun j=> .nx (q.2.set i (.ow (.lst (ds.set j p.1))))
 |_=>none
noncomputable def qLb(i:Nat)(x:dH)(r:Option (List dH))(δ:Ev)(fi:VF):Option Ou:=r.bind fun _=>(fi δ).bind fun q=>(XB q.2 i).bind fun ds=>match q.1 with
 | .int k=>(KP ds.length k).map fun j=> .nx (q.2.set i (.ow (.lst (ds.set j x))))
 |_=>none
noncomputable def qLc(i:Nat)(x:dH)(r:Option (dH×Ev)):Option Ou:=r.bind fun q=>(XB q.2 i).bind fun ds=>match q.1 with
 | .int k=>(KP ds.length k).map fun j=> .nx (q.2.set i (.ow (.lst (ds.set j x))))
 |_=>none
noncomputable def qLd(i:Nat)(x:dH)(k:Int)(δ:Ev)(r:Option (List dH)):Option Ou:=r.bind fun ds=>(KP ds.length k).map fun j=> .nx (δ.set i (.ow (.lst (ds.set j x))))
@[simp] theorem zKG{fi fv:VF}:KA i fi fv δ=qL i (fv δ) fi:=rfl
@[simp] theorem qL_s{fi:VF}:qL i (some (x,δ)) fi=qLb i x (XB δ i) δ fi:=rfl
@[simp] theorem zP8{fi:VF}:qLb i x (some ds) δ fi=qLc i x (fi δ):=rfl
@[simp] theorem zP7{k:Int}:qLc i x (some (.int k,δ))=qLd i x k δ (XB δ i):=rfl
@[simp] theorem zP6{k:Int}:qLd i x k δ (some ds)=(KP ds.length k).map fun j=> .nx (δ.set i (.ow (.lst (ds.set j x)))):=rfl
noncomputable def qi(r:Option (dH×Ev)):Option (List dH×Ev):=r.bind fun p=>(X2 p.1).map fun ds=>(ds,p.2)
@[simp] theorem zNV:UU fa δ=qi (fa δ):=rfl
@[simp] theorem qi_t:qi (some (.tup ds,δ))=some (ds,δ):=rfl
@[simp] theorem qi_l:qi (some (.lst ds,δ))=some (ds,δ):=rfl
noncomputable def qr1:Option (dH×Ev)->Option (List dH×Ev)
 |some (.int j,δ)=>if -4611686018427387904<=j/\j<4611686018427387904 then some (VL 0 j.toNat,δ) else none
 |_=>none
@[simp] theorem zPW:iR1 fa δ=qr1 (fa δ):=by
 unfold iR1 qr1;cases fa δ with
 |none=>rfl
 |some p=>
  obtain⟨d,e⟩:=p;cases d<;>rfl
@[simp] theorem zOI{j:Int}:qr1 (some (.int j,δ))=if -4611686018427387904<=j/\j<4611686018427387904 then some (VL 0 j.toNat,δ) else none:=rfl
noncomputable def qe(r:Option (dH×Ev)):Option (List dH×Ev):=r.bind fun p=>(X2 p.1).map fun ds=>(X7 0 ds,p.2)
@[simp] theorem zLC:JM fa δ=qe (fa δ):=rfl
@[simp] theorem qe_t:qe (some (.tup ds,δ))=some (X7 0 ds,δ):=rfl
@[simp] theorem qe_l:qe (some (.lst ds,δ))=some (X7 0 ds,δ):=rfl
noncomputable def qz(r:Option (dH×Ev))(g:VF):Option (List dH×Ev):=r.bind fun p=>(g p.2).bind fun q=>(X2 p.1).bind fun ds=>(X2 q.1).map fun es=>(TY ds es,q.2)
noncomputable def qzb(x:dH)(r:Option (dH×Ev)):Option (List dH×Ev):=r.bind fun q=>(X2 x).bind fun ds=>(X2 q.1).map fun es=>(TY ds es,q.2)
@[simp] theorem zNU:iZip fa fb δ=qz (fa δ) fb:=rfl
@[simp] theorem qz_s:qz (some (x,δ)) fb=qzb x (fb δ):=rfl
@[simp] theorem zOC:qzb x (some (y,δ))=(X2 x).bind fun ds=>(X2 y).map fun es=>(TY ds es,δ):=rfl
@[simp] theorem zLW:X2 (.tup ds)=some ds:=rfl
@[simp] theorem zLX:X2 (.lst ds)=some ds:=rfl
noncomputable def qF(r:Option (List dH×Ev))(gg:VG)(g:VS):Option Ou:=r.bind fun p=>ZJ gg g p.1 p.2
@[simp] theorem zM3{fi:VI}{gg:VG}:RW fi gg g δ=qF (fi δ) gg g:=rfl
@[simp] theorem qF_s{gg:VG}:qF (some (ds,δ)) gg g=ZJ gg g ds δ:=rfl
noncomputable def qK(ix:List Nat)(nl:Nat)(r:Option (List dH×Ev))(gg:VG)(tb:VB)(fe:VF):Option (dH×Ev):=r.bind fun p=>(ZN ix.length nl gg tb fe p.1 [] (a8 ix p.2)).map fun q=>(.lst q.1,Y9 ix q.2 p.2)
noncomputable def qKb(ix:List Nat)(δ:Ev)(r:Option (List dH×Ev)):Option (dH×Ev):=r.map fun q=>(.lst q.1,Y9 ix q.2 δ)
@[simp] theorem zLH{ix:List Nat}{nl:Nat}{fi:VI}{gg:VG}:YM ix nl fi gg tb fa δ=qK ix nl (fi δ) gg tb fa:=rfl
@[simp] theorem qK_s{ix:List Nat}{nl:Nat}{gg:VG}:qK ix nl (some (ds,δ)) gg tb fa=qKb ix δ (ZN ix.length nl gg tb fa ds [] (a8 ix δ)):=rfl
@[simp] theorem zP9{ix:List Nat}:qKb ix δ (some (ds,δ1))=some (.lst ds,Y9 ix δ1 δ):=rfl
variable{as:List AV}{fs:SE}{mF:List Nat}{F:cO}
noncomputable def qa(r:Option (dH×Ev))(fs:SE):Option (List AV×Ev):=r.bind fun p=>(fs p.2).map fun q=>(.d p.1::q.1,q.2)
noncomputable def qab(x:AV)(r:Option (List AV×Ev)):Option (List AV×Ev):=r.map fun q=>(x::q.1,q.2)
@[simp] theorem zHP:cF δ=some ([],δ):=rfl
@[simp] theorem IL:aE fa fs δ=qa (fa δ) fs:=rfl
@[simp] theorem AX:qa (some (x,δ)) fs=qab (.d x) (fs δ):=rfl
@[simp] theorem AY{a:AV}:qab a (some (as,δ))=some (a::as,δ):=rfl
noncomputable def qao(j:Nat)(r:Option dH)(δ:Ev)(fs:SE):Option (List AV×Ev):=r.bind fun _=>qab (.o j) (fs δ)
@[simp] theorem aO_e:aO j fs δ=qao j (slot δ j) δ fs:=rfl
@[simp] theorem zIY:qao j (some d) δ fs=qab (.o j) (fs δ):=rfl
noncomputable def qsl:Option Sl->Option dH
 |some (.va d)=>some d
 |some (.ow d)=>some d
 |_=>none
@[simp] theorem zLV:slot δ j=qsl δ[j]? :=by unfold slot qsl;split<;>simp_all
@[simp] theorem zOG:qsl (some (.va d))=some d:=rfl
@[simp] theorem zOH:qsl (some (.ow d))=some d:=rfl
@[simp] theorem zLP:W4 δ []=some []:=rfl
@[simp] theorem zLQ:W4 δ (.d d::as)=(W4 δ as).map fun ds=>d::ds:=rfl
@[simp] theorem zLO:W4 δ (.o j::as)=(slot δ j).bind fun d=>(W4 δ as).map fun ds=>d::ds:=rfl
noncomputable def zDO(n:Nat)(mF:List Nat)(F:cO)(r:Option (List AV×Ev)):Option (dH×Ev):=r.bind fun p=>(W4 p.2 p.1).bind fun ds=>if ds.length=n/\VY mF p.1 p.2=true then(F ds).bind fun q=>if WX mF p.1 q.1 q.2=true then some (q.1,WO p.1 mF q.2 p.2) else none else none
noncomputable def qCb(n:Nat)(mF:List Nat)(F:cO)(as:List AV)(δ:Ev)(r:Option (List dH)):Option (dH×Ev):=r.bind fun ds=>if ds.length=n/\VY mF as δ=true then(F ds).bind fun q=>if WX mF as q.1 q.2=true then some (q.1,WO as mF q.2 δ) else none else none
noncomputable def qCc(mF:List Nat)(as:List AV)(δ:Ev)(r:Option (dH×List dH)):Option (dH×Ev):=r.bind fun q=>if WX mF as q.1 q.2=true then some (q.1,WO as mF q.2 δ) else none
@[simp] theorem PF:cS n mF F fs δ=zDO n mF F (fs δ):=rfl
@[simp] theorem zBP:zDO n mF F (some (as,δ))=qCb n mF F as δ (W4 δ as):=rfl
@[simp] theorem zJ0:qCb n mF F as δ (some ds)=if ds.length=n/\VY mF as δ=true then qCc mF as δ (F ds) else none:=rfl
@[simp] theorem zIZ{os:List dH}:qCc mF as δ (some (d,os))=if WX mF as d os=true then some (d,WO as mF os δ) else none:=rfl
@[simp] theorem zLB:FM δ as i=(match as[i]? with
 |some (.o j)=>match δ[j]? with
  |some (.ow _)=>true
  |_=>false
 |_=>false):=rfl
@[simp] theorem zNM:VH []=[]:=rfl
@[simp] theorem zNN:VH (.d d::as)=VH as:=rfl
@[simp] theorem zNL:VH (.o j::as)=j::VH as:=rfl
@[simp] theorem zK9:VY mF as δ=(mF.all (FM δ as) && decide (VH as).Nodup):=rfl
@[simp] theorem zLS:XD mF [] i=true:=rfl
@[simp] theorem zLT:XD mF (.d d::as) i=XD mF as (i+1):=rfl
@[simp] theorem zLR:XD mF (.o j::as) i=(decide (i∈mF) && XD mF as (i+1)):=rfl
@[simp] theorem zKB{os:List dH}:WX mF as d os=((XD mF as 0 || d.hard) && (XD mF as 0 || os.all RO) && decide (mF.length=os.length)):=rfl
@[simp] theorem zMT{os:List dH}:WO as [] os δ=δ:=by cases os<;>rfl
@[simp] theorem zMU{os:List dH}{is:List Nat}:WO as (i::is) (d::os) δ=(match as[i]? with
  |some (.o j)=>WO as is os (δ.set j (.ow d))
  |_=>WO as is os δ):=rfl
@[simp] theorem zO2:DS F d ds=F (ds++[d]):=rfl
noncomputable def qH(n:Nat)(mF:List Nat)(tb:List (Str×cO))(fs:SE)(δ:Ev):Option Sl->Option (dH×Ev)
 |some (.va (.fn x))=>(XI tb x).bind fun F=>cS n mF F fs δ
 |_=>none
@[simp] theorem zK7{tb:List (Str×cO)}:N7 n mF tb i fs δ=qH n mF tb fs δ δ[i]? :=by unfold N7 qH;split<;>simp_all
@[simp] theorem qH_s{tb:List (Str×cO)}{x:Str}:qH n mF tb fs δ (some (.va (.fn x)))=(XI tb x).bind fun F=>cS n mF F fs δ:=rfl
@[simp] theorem zPJ:pNo δ=some (none,δ):=rfl
noncomputable def qpS:Option (dH×Ev)->Option (Option Int×Ev)
 |some (.int i,δ)=>some (some i,δ)
 |_=>none
@[simp] theorem zPI:pSo fa δ=qpS (fa δ):=by
 unfold pSo qpS;cases fa δ with
 |none=>rfl
 |some p=>
  obtain⟨d,e⟩:=p;cases d<;>rfl
@[simp] theorem zOJ{i:Int}:qpS (some (.int i,δ))=some (some i,δ):=rfl
noncomputable def qSl(r:Option (dH×Ev))(fl fh:VP):Option (dH×Ev):=r.bind fun p=>(fl p.2).bind fun l=>(fh l.2).bind fun u=>(oSl p.1 l.1 u.1).map fun c=>(c,u.2)
noncomputable def qSlb(x:dH)(r:Option (Option Int×Ev))(fh:VP):Option (dH×Ev):=r.bind fun l=>(fh l.2).bind fun u=>(oSl x l.1 u.1).map fun c=>(c,u.2)
noncomputable def qSlc(x:dH)(l:Option Int)(r:Option (Option Int×Ev)):Option (dH×Ev):=r.bind fun u=>q0 (oSl x l u.1) u.2
@[simp] theorem zPZ{fl fh:VP}:fSl fa fl fh δ=qSl (fa δ) fl fh:=rfl
@[simp] theorem zOS{fl fh:VP}:qSl (some (x,δ)) fl fh=qSlb x (fl δ) fh:=rfl
@[simp] theorem zMD{l:Option Int}{fh:VP}:qSlb x (some (l,δ)) fh=qSlc x l (fh δ):=rfl
@[simp] theorem zMC{l u:Option Int}:qSlc x l (some (u,δ))=q0 (oSl x l u) δ:=rfl
@[simp] theorem zPN{l u:Option Int}:oSl (.tup ds) l u=some (.tup (N3 ds l u)):=rfl
@[simp] theorem zPO{l u:Option Int}:oSl (.lst ds) l u=some (.lst (N3 ds l u)):=rfl
noncomputable def qSt(i j:Nat):Option (dH×Ev)->Option Ou
 |some (.tup (d::ds),δ)=>some (.nx ((δ.set i (.va d)).set j (.va (.lst ds))))
 |_=>none
@[simp] theorem zKF:M9 i j fa δ=qSt i j (fa δ):=by
 unfold M9 qSt;cases fa δ with
 |none=>rfl
 |some p=>
  obtain⟨d,e⟩:=p;cases d with
  |tup ds=>cases ds<;>rfl
  |_=>rfl
@[simp] theorem zOR:qSt i j (some (.tup (d::ds),δ))=some (.nx ((δ.set i (.va d)).set j (.va (.lst ds)))):=rfl
noncomputable def qDp(i:Nat)(r:Option (dH×Ev))(fk:VF):Option Ou:=r.bind fun p=>(TU p.2 i).bind fun _=>(fk p.2).bind fun q=>(SV q.1).bind fun k=>(TU q.2 i).bind fun z=>if z.1.length<16777216/\z.1.Nodup then some (.nx (q.2.set i (.ow (let r:=YN z.1 z.2 k p.1;.dct r.1 r.2)))) else none
noncomputable def qDpb(i:Nat)(x:dH)(r:Option (List aY×List dH))(δ:Ev)(fk:VF):Option Ou:=r.bind fun _=>(fk δ).bind fun q=>(SV q.1).bind fun k=>(TU q.2 i).bind fun z=>if z.1.length<16777216/\z.1.Nodup then some (.nx (q.2.set i (.ow (let r:=YN z.1 z.2 k x;.dct r.1 r.2)))) else none
noncomputable def qDpc(i:Nat)(x:dH)(r:Option (dH×Ev)):Option Ou:=r.bind fun q=>(SV q.1).bind fun k=>(TU q.2 i).bind fun z=>if z.1.length<16777216/\z.1.Nodup then some (.nx (q.2.set i (.ow (.dct (YN z.1 z.2 k x).1 (YN z.1 z.2 k x).2)))) else none
@[simp] theorem zKI{fk fv:VF}:J9 i fk fv δ=qDp i (fv δ) fk:=rfl
@[simp] theorem zPC{fk:VF}:qDp i (some (x,δ)) fk=qDpb i x (TU δ i) δ fk:=rfl
@[simp] theorem zMP{z:List aY×List dH}{fk:VF}:qDpb i x (some z) δ fk=qDpc i x (fk δ):=rfl
@[simp] theorem zMO:qDpc i x (some (y,δ))=(SV y).bind fun k=>(TU δ i).bind fun z=>if z.1.length<16777216/\z.1.Nodup then some (.nx (δ.set i (.ow (.dct (YN z.1 z.2 k x).1 (YN z.1 z.2 k x).2)))) else none:=rfl
@[simp] theorem zNK{i:Int}:SV (.int i)=some (.inl i):=rfl
@[simp] theorem zNJ{s:Str}:SV (.str s)=some (.inr s):=rfl
noncomputable def qPc(r:Option (dH×Ev))(fv:VF)(fs:IF):Option (List (aY×dH)×Ev):=r.bind fun p=>(SV p.1).bind fun k=>(fv p.2).bind fun q=>(fs q.2).map fun r=>((k,q.1)::r.1,r.2)
noncomputable def qPcb(k:Option aY)(δ:Ev)(fv:VF)(fs:IF):Option (List (aY×dH)×Ev):=k.bind fun k=>(fv δ).bind fun q=>(fs q.2).map fun r=>((k,q.1)::r.1,r.2)
noncomputable def qPcc(k:aY)(r:Option (dH×Ev))(fs:IF):Option (List (aY×dH)×Ev):=r.bind fun q=>(fs q.2).map fun r=>((k,q.1)::r.1,r.2)
noncomputable def qPcd(k:aY)(x:dH)(r:Option (List (aY×dH)×Ev)):Option (List (aY×dH)×Ev):=r.map fun r=>((k,x)::r.1,r.2)
@[simp] theorem zKL:AQ δ=some ([],δ):=rfl
@[simp] theorem zJ3{fs:IF}:Q5 fa fb fs δ=qPc (fa δ) fb fs:=rfl
@[simp] theorem zOX{fs:IF}:qPc (some (x,δ)) fb fs=qPcb (SV x) δ fb fs:=rfl
@[simp] theorem zMK{k:aY}{fs:IF}:qPcb (some k) δ fb fs=qPcc k (fb δ) fs:=rfl
@[simp] theorem zMJ{k:aY}{fs:IF}:qPcc k (some (x,δ)) fs=qPcd k x (fs δ):=rfl
@[simp] theorem zMI{k:aY}{kd:List (aY×dH)}:qPcd k x (some (kd,δ))=some ((k,x)::kd,δ):=rfl
noncomputable def qD(r:Option (List (aY×dH)×Ev)):Option (dH×Ev):=r.bind fun p=>if(p.1.map Ds).Nodup/\p.1.length<=15 then some (.dct (p.1.map Ds) (p.1.map Eu),p.2) else none
@[simp] theorem zLF{fs:IF}:E8 fs δ=qD (fs δ):=rfl
@[simp] theorem qD_s{kd:List (aY×dH)}:qD (some (kd,δ))=if(kd.map Ds).Nodup/\kd.length<=15 then some (.dct (kd.map Ds) (kd.map Eu),δ) else none:=rfl
noncomputable def qLr(r:Option (dH×Ev))(fb fc:VF):Option (dH×Ev):=r.bind fun p=>(fb p.2).bind fun q=>(fc q.2).bind fun r=>match p.1,q.1,r.1 with
 | .int i,.int j,.int k=>if(0<k/\k<1073741824)/\YK i j k<9223372036854775808 then some (.int (YK i j k),r.2) else none
 |_,_,_=>none
def qLrb(x:dH)(r:Option (dH×Ev))(fc:VF):Option (dH×Ev):=qLr (some (x,[])) (fun _=>r) fc
noncomputable def qLrc(x y:dH)(r:Option (dH×Ev)):Option (dH×Ev):=qLr (some (x,[])) (fun _=>some (y,[])) (fun _=>r)
@[simp] theorem zK5:LC fa fb fc δ=qLr (fa δ) fb fc:=rfl
@[simp] theorem zP5:qLr (some (x,δ)) fb fc=qLrb x (fb δ) fc:=rfl
@[simp] theorem zMN:qLrb x (some (y,δ)) fc=qLrc x y (fc δ):=rfl
@[simp] theorem zMM{i j k:Int}:qLrc (.int i) (.int j) (some (.int k,δ))=if(0<k/\k<1073741824)/\YK i j k<9223372036854775808 then some (.int (YK i j k),δ) else none:=rfl
noncomputable def qRun(ml:List Nat):Option Ou->Option (dH×List dH)
 |some (.rt d δ)=>(U2 ml δ).map fun os=>(d,os)
 |some (.nx δ)=>(U2 ml δ).map fun os=>(.non,os)
 |_=>none
theorem cW{ml:List Nat}:bU n ml g ds=qRun ml (g (cR ml n ds)):=by
 unfold bU qRun;cases g (cR ml n ds) with
 |none=>rfl
 |some o=>cases o<;>rfl
@[simp] theorem zMF{ml:List Nat}:qRun ml (some (.rt d δ))=(U2 ml δ).map fun os=>(d,os):=rfl
@[simp] theorem zMG{ml:List Nat}:qRun ml (some (.nx δ))=(U2 ml δ).map fun os=>(.non,os):=rfl
noncomputable def qow:Option Sl->Option dH
 |some (.ow d)=>some d
 |_=>none
@[simp] theorem zMX:U2 [] δ=some []:=rfl
@[simp] theorem zMY{ml:List Nat}:U2 (i::ml) δ=(qow δ[i]?).bind fun d=>(U2 ml δ).map fun os=>d::os:=by
 unfold U2;rw[Ng];cases h:(δ[i]? :Option Sl) with
 |none=>rfl
 | some s => cases s with
  |no=>rfl
  |va d=>rfl
  |ow d=>
   show(Option.bind _ fun os=>some (d::os))=Option.map (fun os=>d::os) _;cases (List.mapM _ ml:Option (List dH))<;>rfl
@[simp] theorem zOK:qow (some (.ow d))=some d:=rfl
end
section
variable{i j:Int}{x y:Str}{ds es:List dH}
@[simp] theorem oI_e{C:Int->Int->Bool}{g:Int->Int->dH}:oI C g (.int i) (.int j)=if C i j=true then some (g i j) else none:=rfl
@[simp] theorem zL1:bK (.int i) (.int j)=some (.int (i+j)):=rfl
@[simp] theorem zKZ:bK (.tup ds) (.tup es)=if ds.length+es.length<=16777216 then some (.tup (ds++es)) else none:=rfl
@[simp] theorem zL0:bK (.lst ds) (.lst es)=if ds.length+es.length<=16777216 then some (.lst (ds++es)) else none:=rfl
@[simp] theorem zPP{g:Int->Int->Int}:o2I g (.int i) (.int j)=some (.int (g i j)):=rfl
@[simp] theorem zN2:Y6 (.tup ds)=some (.int ds.length):=rfl
@[simp] theorem zN3:Y6 (.lst ds)=some (.int ds.length):=rfl
@[simp] theorem zL7:P9 (.tup ds)=some (.lst ds):=rfl
@[simp] theorem zL8:P9 (.lst ds)=some (.lst ds):=rfl
@[simp] theorem zJI:S4 (.tup ds)=some (.tup ds):=rfl
@[simp] theorem zJJ:S4 (.lst ds)=some (.tup ds):=rfl
@[simp] theorem zN4:cL (.tup ds) (.int i)=WI ds i:=rfl
@[simp] theorem zA6:cL (.lst ds) (.int i)=WI ds i:=rfl
@[simp] theorem zCH{ks:List aY}:cL (.dct ks ds) (.int i)=bM ks ds (.inl i):=rfl
@[simp] theorem zL9{ks:List aY}:cL (.dct ks ds) (.str x)=bM ks ds (.inr x):=rfl
@[simp] theorem zPL:M5 (.int i)=true:=rfl
@[simp] theorem zPK:M5 .non=true:=rfl
@[simp] theorem zPM{b:Bool}:M5 (.bl b)=true:=rfl
@[simp] theorem zNS:QU "int" "bool"=some false:=by decide+kernel
@[simp] theorem zNR:QU "int" "int"=some true:=by decide+kernel
@[simp] theorem zNQ:QU "tuple" "tuple"=some true:=by decide+kernel
@[simp] theorem zNP:QU "str" "str"=some true:=by decide+kernel
@[simp] theorem zNO:QU "list" "list"=some true:=by decide+kernel
@[simp] theorem zN8{n:String}:VJ (.int i) (.ty n)=(QU "int" n).map dH.bl:=rfl
@[simp] theorem zN5{n:String}:VJ (.tup ds) (.ty n)=(QU "tuple" n).map dH.bl:=rfl
@[simp] theorem zN7{n:String}:VJ (.lst ds) (.ty n)=(QU "list" n).map dH.bl:=rfl
@[simp] theorem zN6{n:String}:VJ (.str x) (.ty n)=(QU "str" n).map dH.bl:=rfl
@[simp] theorem zNB:SZ .non .non=some (.bl true):=rfl
@[simp] theorem zND:SZ (.int i) .non=some (.bl false):=rfl
@[simp] theorem zNA:SZ (.str x) .non=some (.bl false):=rfl
@[simp] theorem zN9:SZ (.tup ds) .non=some (.bl false):=rfl
@[simp] theorem zL4:WM .non .non=some (.bl false):=rfl
@[simp] theorem zL6:WM (.int i) .non=some (.bl true):=rfl
@[simp] theorem zL3:WM (.str x) .non=some (.bl true):=rfl
@[simp] theorem zL2:WM (.tup ds) .non=some (.bl true):=rfl
end
section
variable{d x:dH}{δ δ1:Ev}{r acc:List dH}{gg:VG}{tb:VB}{fe:VF}{n nl:Nat}{g:VS}
noncomputable def qk1(n nl:Nat)(gg:VG)(tb:VB)(fe:VF)(r acc:List dH)(o:Option Ev):Option (List dH×Ev):=o.bind fun δ1=>(tb δ1).bind fun p=>if p.1=true then(fe p.2).bind fun q=>if acc.length<16777216 then ZN n nl gg tb fe r (acc++[q.1]) (q.2.take n) else none else ZN n nl gg tb fe r acc (p.2.take n)
noncomputable def qk2(n nl:Nat)(gg:VG)(tb:VB)(fe:VF)(r acc:List dH)(o:Option (Bool×Ev)):Option (List dH×Ev):=o.bind fun p=>if p.1=true then(fe p.2).bind fun q=>if acc.length<16777216 then ZN n nl gg tb fe r (acc++[q.1]) (q.2.take n) else none else ZN n nl gg tb fe r acc (p.2.take n)
noncomputable def qk3(n nl:Nat)(gg:VG)(tb:VB)(fe:VF)(r acc:List dH)(o:Option (dH×Ev)):Option (List dH×Ev):=o.bind fun q=>if acc.length<16777216 then ZN n nl gg tb fe r (acc++[q.1]) (q.2.take n) else none
@[simp] theorem zLI:ZN n nl gg tb fe [] acc δ=some (acc,δ):=rfl
@[simp] theorem zD0:ZN n nl gg tb fe (d::r) acc δ=qk1 n nl gg tb fe r acc (gg d (δ++II nl)):=rfl
@[simp] theorem zIX:qk1 n nl gg tb fe r acc (some δ)=qk2 n nl gg tb fe r acc (tb δ):=rfl
@[simp] theorem zIW:qk2 n nl gg tb fe r acc (some (true,δ))=qk3 n nl gg tb fe r acc (fe δ):=rfl
@[simp] theorem zOL:qk2 n nl gg tb fe r acc (some (false,δ))=ZN n nl gg tb fe r acc (δ.take n):=rfl
@[simp] theorem zIV:qk3 n nl gg tb fe r acc (some (x,δ))=if acc.length<16777216 then ZN n nl gg tb fe r (acc++[x]) (δ.take n) else none:=rfl
noncomputable def qf1(gg:VG)(g:VS)(r:List dH)(o:Option Ev):Option Ou:=o.bind fun δ1=>(g δ1).bind (UM (ZJ gg g r))
def qf2(gg:VG)(g:VS)(r:List dH)(o:Option Ou):Option Ou:=o.bind (UM (ZJ gg g r))
@[simp] theorem zAS:ZJ gg g [] δ=some (.nx δ):=rfl
@[simp] theorem XF:ZJ gg g (d::r) δ=qf1 gg g r (gg d δ):=rfl
@[simp] theorem U3:qf1 gg g r (some δ)=qf2 gg g r (g δ):=rfl
@[simp] theorem U4:qf2 gg g r (some (.nx δ))=ZJ gg g r δ:=rfl
@[simp] theorem zON:qf2 gg g r (some (.ct δ))=ZJ gg g r δ:=rfl
@[simp] theorem zOO:qf2 gg g r (some (.bk δ))=some (.nx δ):=rfl
@[simp] theorem zOM:qf2 gg g r (some (.rt d δ))=some (.rt d δ):=rfl
@[simp] theorem zLM{ss:Ev}:Y9 [] ss δ=δ:=by cases ss<;>rfl
@[simp] theorem zLL{i:Nat}{is:List Nat}{ss:Ev}:Y9 (i::is) (.ow d::ss) δ=Y9 is ss (δ.set i (.ow d)):=rfl
@[simp] theorem zLK{i:Nat}{is:List Nat}{ss:Ev}:Y9 (i::is) (.va d::ss) δ=Y9 is ss δ:=rfl
@[simp] theorem zLJ{i:Nat}{is:List Nat}{ss:Ev}:Y9 (i::is) (.no::ss) δ=Y9 is ss δ:=rfl
end
@[simp] theorem zJM:II 1=[.no]:=rfl
@[simp] theorem zPR:II 2=[.no,.no]:=rfl
@[simp] theorem zPQ:II 3=[.no,.no,.no]:=rfl
@[simp] theorem zM9{i:Int}:VL i 0=[]:=rfl
@[simp] theorem zM8:VL 0 1=[.int 0]:=rfl
@[simp] theorem zM7:VL 0 2=[.int 0,.int 1]:=rfl
@[simp] theorem zM6:VL 0 3=[.int 0,.int 1,.int 2]:=rfl
@[simp] theorem zM5:VL 0 4=[.int 0,.int 1,.int 2,.int 3]:=rfl
theorem WV{α:Type}{xs:List α}{i:Int}(h0:0<=i)(h1:i<xs.length):WI xs i=xs[i.toNat]? :=by
 unfold WI KP;rw[if_pos h0,if_pos h1];rfl
theorem zB5{α:Type}{xs:List α}{i:Int}(h0:0<=i)(h1:i<xs.length): ∃x∈xs,WI xs i=some x:=by
 rw[WV h0 h1];have h:i.toNat<xs.length:=by lia
 exact⟨xs[i.toNat],Mm _,Ip h⟩
section
variable{F:cO}{fa fb fc:VF}{δ:Ev}{x y z d o:dH}{j:Nat}
noncomputable def EG(δ:Ev):Option (dH×List dH)->Option (dH×Ev)
 |some (d,[])=>some (d,δ)
 |_=>none
@[simp] theorem zOP:EG δ (some (d,[]))=some (d,δ):=rfl
theorem GR{n:Nat}{ds:List dH}{as:List AV}(h:W4 δ as=some ds)(hn:ds.length=n)(hj:VH as=[])(ha:XD [] as 0=true):qCb n [] F as δ (some ds)=EG δ (F ds):=by
 have hc:VY [] as δ=true:=by simp[hj]
 rw[zJ0,if_pos ⟨hn,hc⟩];cases F ds with
 |none=>rfl
 |some q=>
  obtain⟨r,os⟩:=q;rw[zIZ];cases os with
  |nil=>simp[ha,EG]
  |cons o os=>simp[EG]
noncomputable def qx1(F:cO)(r:Option (dH×Ev)):Option (dH×Ev):=r.bind fun p=>EG p.2 (F [p.1])
@[simp] theorem zOD:qx1 F (some (x,δ))=EG δ (F [x]):=rfl
@[simp high] theorem call1:cS 1 [] F (aE fa cF) δ=qx1 F (fa δ):=by
 rw[PF,IL];cases fa δ with
 |none=>rfl
 |some p=>exact GR (as:=[.d p.1]) rfl rfl rfl rfl
noncomputable def qx2(F:cO)(r:Option (dH×Ev))(fb:VF):Option (dH×Ev):=r.bind fun p=>(fb p.2).bind fun q=>EG q.2 (F [p.1,q.1])
noncomputable def qx2b(F:cO)(x:dH)(r:Option (dH×Ev)):Option (dH×Ev):=r.bind fun q=>EG q.2 (F [x,q.1])
@[simp] theorem zIS:qx2 F (some (x,δ)) fb=qx2b F x (fb δ):=rfl
@[simp] theorem zMB:qx2b F x (some (y,δ))=EG δ (F [x,y]):=rfl
@[simp high] theorem call2:cS 2 [] F (aE fa (aE fb cF)) δ=qx2 F (fa δ) fb:=by
 rw[PF,IL];cases fa δ with
 |none=>rfl
 |some p=>
  rw[AX,IL,zIS];cases fb p.2 with
  |none=>rfl
  |some q=>exact GR (as:=[.d p.1,.d q.1]) rfl rfl rfl rfl
noncomputable def qx3(F:cO)(r:Option (dH×Ev))(fb fc:VF):Option (dH×Ev):=r.bind fun p=>(fb p.2).bind fun q=>(fc q.2).bind fun s=>EG s.2 (F [p.1,q.1,s.1])
noncomputable def qx3b(F:cO)(x:dH)(r:Option (dH×Ev))(fc:VF):Option (dH×Ev):=r.bind fun q=>(fc q.2).bind fun s=>EG s.2 (F [x,q.1,s.1])
noncomputable def qx3c(F:cO)(x y:dH)(r:Option (dH×Ev)):Option (dH×Ev):=r.bind fun s=>EG s.2 (F [x,y,s.1])
@[simp] theorem zIR:qx3 F (some (x,δ)) fb fc=qx3b F x (fb δ) fc:=rfl
@[simp] theorem zF6:qx3b F x (some (y,δ)) fc=qx3c F x y (fc δ):=rfl
@[simp] theorem zMA:qx3c F x y (some (z,δ))=EG δ (F [x,y,z]):=rfl
@[simp high] theorem call3:cS 3 [] F (aE fa (aE fb (aE fc cF))) δ=qx3 F (fa δ) fb fc:=by
 rw[PF,IL];cases fa δ with
 |none=>rfl
 |some p=>
  rw[AX,IL,zIR];cases fb p.2 with
  |none=>rfl
  |some q=>
   rw[AX,IL,zF6];cases fc q.2 with
   |none=>rfl
   |some s=>exact GR (as:=[.d p.1,.d q.1,.d s.1]) rfl rfl rfl rfl
noncomputable def qw3(j:Nat)(δ:Ev):Option (dH×List dH)->Option (dH×Ev)
 |some (r,[o])=>some (r,δ.set j (.ow o))
 |_=>none
noncomputable def qw2(F:cO)(j:Nat)(x y:dH)(δ:Ev):Option Sl->Option (dH×Ev)
 |some (.ow d)=>qw3 j δ (F [x,d,y])
 |_=>none
noncomputable def qwb(F:cO)(j:Nat)(x:dH)(r:Option (dH×Ev)):Option (dH×Ev):=r.bind fun q=>qw2 F j x q.1 q.2 q.2[j]?
noncomputable def qwa(F:cO)(j:Nat)(x:dH)(δ:Ev)(fb:VF)(s:Option dH):Option (dH×Ev):=s.bind fun _=>qwb F j x (fb δ)
noncomputable def qw(F:cO)(j:Nat)(r:Option (dH×Ev))(fb:VF):Option (dH×Ev):=r.bind fun p=>qwa F j p.1 p.2 fb (slot p.2 j)
@[simp] theorem zOE:qw3 j δ (some (x,[o]))=some (x,δ.set j (.ow o)):=rfl
@[simp] theorem zOF:qw2 F j x y δ (some (.ow d))=qw3 j δ (F [x,d,y]):=rfl
@[simp] theorem zIT:qwb F j x (some (y,δ))=qw2 F j x y δ δ[j]? :=rfl
@[simp] theorem zIU:qwa F j x δ fb (some d)=qwb F j x (fb δ):=rfl
@[simp] theorem qw_s:qw F j (some (x,δ)) fb=qwa F j x δ fb (slot δ j):=rfl
@[simp high] theorem callO:cS 3 [1] F (aE fa (aO j (aE fb cF))) δ=qw F j (fa δ) fb:=by
 rw[PF,IL];cases fa δ with
 |none=>rfl
 |some p=>
  obtain⟨x,δ1⟩:=p;rw[AX,aO_e,qw_s];cases h:slot δ1 j with
  |none=>rfl
  |some d0=>
   rw[zIY,IL,zIU];cases fb δ1 with
   |none=>rfl
   |some q=>
    obtain⟨y,δ2⟩:=q;rw[zIT,AX,zHP,AY,AY,AY,zBP];cases h2:δ2[j]? with
    |none=>simp[h2,qsl,qCb,qw2]
    |some s=>
     cases s with
     |no=>simp[h2,qsl,qCb,qw2]
     |va d=>simp[h2,qw2]
     |ow d=>
      simp[h2];cases F [x,d,y] with
      |none=>rfl
      |some r=>
       obtain⟨v,os⟩:=r;cases os with
       |nil=>simp[qw3]
       |cons o os=>
        cases os with
        |nil=>simp
        |cons o2 os=>simp[qw3]
end
def bA:dH:= .int 999
def E4:dH:= .tup [.str "plus",.str "minus",.str "times",.str "least",.str "most",.str "less",.str "over"]
def XE:dH:= .dct [.inr "plus",.inr "minus",.inr "times",.inr "least",.inr "most",.inr "less",.inr "over"] [.fn "plus",.fn "minus",.fn "times",.fn "least",.fn "most",.fn "less",.fn "over"]
def X6:dH:= .int 64
def X5:dH:= .int 40
def VU:dH:= .int 63
def RJ:dH:= .tup [.str "row",.str "row"]
def TC:dH:= .dct [.inr "number",.inr "pick",.inr "load",.inr "take",.inr "store",.inr "put"] [.tup [.str "word"],.tup [.str "row",.str "row",.str "row"],.tup [.str "place"],.tup [.str "place",.str "row",.str "row"],.tup [.str "place",.str "row"],.tup [.str "place",.str "row",.str "row"]]
def Y2:dH:= .tup [.str "load",.str "take"]
def aV:dH:= .tup [.str "store",.str "put"]
def VT:dH:= .int 64
def ZI:dH:= .int 20
def UN:dH:= .int 3
def NX:dH:= .int 0
def IS:dH:= .int 1
def SM:VS:=
   (cQ (ZD (GO (fB (f2 VJ (fV 0) (fC (.ty "bool")))) (WW (fB (f2 VJ (fV 0) (fC (.ty "int"))))))
   (cH (fC (.bl false)))
   bD)
   (cH (f3 oLe oLe (fV 1) (fV 0) (fV 2))))
def bN:cO:=bU 3 [] SM
def G2:VS:=
   (cH (f2 NQ (f2 bK (fV 0) (fV 1)) (f2 bK (fC bA) (fC (.int 1)))))
def QH:cO:=bU 2 [] G2
def LI:VS:=
   (cH (f2 NQ (f2 LQ (fV 0) (fV 1)) (f2 bK (fC bA) (fC (.int 1)))))
def T1:cO:=bU 2 [] LI
def LJ:VS:=
   (cH (f2 NQ (f2 UZ (fV 0) (fV 1)) (f2 bK (fC bA) (fC (.int 1)))))
def T2:cO:=bU 2 [] LJ
def LH:VS:=
   (cH (f2 oMin (fV 0) (fV 1)))
def T0:cO:=bU 2 [] LH
def G0:VS:=
   (cH (f2 oMax (fV 0) (fV 1)))
def QF:cO:=bU 2 [] G0
def GZ:VS:=
   (cH (NU (fB (f2 oLt (fV 0) (fV 1))) (fC (.int 1)) (fC (.int 0))))
def QE:cO:=bU 2 [] GZ
def OE:VS:=
   (cH (NU (fB (f2 XX (fV 1) (fC (.int 0)))) (fC .non) (f2 M4 (fV 0) (fV 1))))
def WU:cO:=bU 2 [] OE
def G1:VS:=
   (cH (NU (fB (f2 ON (fV 0) (fC (.int 0)))) (fV 1) (fV 2)))
def QG:cO:=bU 3 [] G1
def N9:VS:=
   (cQ (ZD (fB (f2 XX (fV 0) (fC (.str "pick"))))
   (cH (cS 3 [] QG (aE (f2 cL (fV 1) (fC (.int 0))) (aE (f2 cL (fV 1) (fC (.int 1))) (aE (f2 cL (fV 1) (fC (.int 2))) cF)))))
   bD)
   (cQ (aZ 2 (xV (f2 cL (fC XE) (fV 0))))
   (cH (N7 2 [] [("plus",QH),("minus",T1),("times",T2),("least",T0),("most",QF),("less",QE),("over",WU)] 2 (aE (f2 cL (fV 1) (fC (.int 0))) (aE (f2 cL (fV 1) (fC (.int 1))) cF))))))
def XY:cO:=bU 3 [] N9
def OF:VS:=
   (cQ (ZD (fB (f2 (TR false) (fV 0) (fC E4)))
   (cH (fC RJ))
   bD)
   (cH (f2 zDT (fC TC) (fV 0))))
def a7:cO:=bU 1 [] OF
def RK:VS:=
   (cH (f2 (TR true) (f2 cL (fV 0) (fC (.int 0))) (fC aV)))
def Z0:cO:=bU 1 [] RK
def ZO:VS:=
   (cH (NU (GO (fB (f2 (TR false) (f2 cL (fV 0) (fC (.int 0))) (fC Y2))) (fB (f2 (TR false) (f2 cL (fV 0) (fC (.int 0))) (fC aV)))) (f2 cL (fV 0) (fC (.int 1))) (fC .non)))
def bR:cO:=bU 1 [] ZO
def OD:VS:=
   (cQ (M9 1 2 (fV 0))
   (cH (YM [] 2 (iZip (cS 1 [] a7 (aE (fV 1) cF)) (fV 2)) (N8 2 (b7 (gN 0) (b7 (gN 1) ZC))) (fB (f2 XX (fV 0) (fC (.str "row")))) (fV 1))))
def Z1:cO:=bU 3 [] OD
def RL:VS:=
   (cH (f2 bK (fSl (fV 0) pNo (pSo (f2 LQ (f1 Y6 (fV 0)) (f1 Y6 (fV 1))))) (f1 S4 (fV 1))))
def YR:cO:=bU 2 [] RL
def SR:VS:=
   (cH (DW (cS 3 [] bN (aE (fV 0) (aE (fC (.int 0)) (aE (f2 LQ (f1 Y6 (fV 1)) (fC (.int 1))) cF)))) (f2 cL (fV 1) (fV 0))))
def ZM:cO:=bU 2 [] SR
def OB:VS:=
   (cQ (ZD (fB (f2 XX (fV 0) (fC (.str "word"))))
   (cH (cS 3 [] bN (aE (fV 1) (aE (fC (.int 0)) (aE (fC bA) cF)))))
   bD)
   (cQ (ZD (fB (f2 XX (fV 0) (fC (.str "place"))))
   (cH (cS 3 [] bN (aE (fV 1) (aE (fC (.int 0)) (aE (fC VU) cF)))))
   bD)
   (cH (cS 2 [] ZM (aE (fV 1) (aE (fV 2) cF))))))
def WT:cO:=bU 3 [] OB
def OC:VS:=
   (cQ (ZD (GO (WW (fB (f2 VJ (fV 0) (fC (.ty "tuple"))))) (fB (f2 XX (f1 Y6 (fV 0)) (fC (.int 0)))))
   (cH (fC (.bl false)))
   bD)
   (cQ (M9 2 3 (fV 0))
   (cQ (aZ 4 (xV (NU (fB (f2 VJ (fV 2) (fC (.ty "str")))) (cS 1 [] a7 (aE (fV 2) cF)) (fC .non))))
   (cQ (ZD (GO (fB (f2 SZ (fV 4) (fC .non))) (fB (f2 ON (f1 Y6 (fV 4)) (f1 Y6 (fV 3)))))
   (cH (fC (.bl false)))
   bD)
   (cH (f1 oAll (YM [1] 2 (iZip (fV 4) (fV 3)) (N8 2 (b7 (gN 1) (b7 (gN 2) ZC))) VQ (cS 3 [] WT (aE (fV 1) (aE (fV 2) (aE (fV 0) cF)))))))))))
def X3:cO:=bU 5 [] OC
def XT:VS:=
   (cQ (ZD (WW (fB (cS 2 [] X3 (aE (fV 4) (aO 3 cF)))))
   (cH (fC (.bl false)))
   bD)
   (OT 3 LP (dD (cS 1 [] Z0 (aE (fV 4) cF)) cE)))
def SJ:VS:=
   (cQ (ZD (GO (WW (fB (f2 VJ (fV 0) (fC (.ty "tuple"))))) (fB (f2 ON (f1 Y6 (fV 0)) (fC (.int 2)))))
   (cH (fC (.bl false)))
   bD)
   (cQ (Q6 (fV 0) (N8 2 (b7 (gN 1) (b7 (gN 2) ZC))))
   (cQ (ZD (WW (fB (cS 3 [] bN (aE (fV 1) (aE (fC (.int 0)) (aE (fC X6) cF))))))
   (cH (fC (.bl false)))
   bD)
   (cQ (ZD (GO (WW (fB (f2 VJ (fV 2) (fC (.ty "tuple"))))) (fB (f2 oGt (f1 Y6 (fV 2)) (fC X5))))
   (cH (fC (.bl false)))
   bD)
   (cQ (aZ 3 (xO (X0 cE)))
   (cQ (RW (UU (fV 2)) (gN 4)
   XT)
   (cH (fC (.bl true)))))))))
def YD:cO:=bU 5 [] SJ
def SK:VS:=
   (cQ (ZD (GO (WW (fB (f2 VJ (fV 0) (fC (.ty "list"))))) (WW (fB (f3 oLe oLe (fV 1) (f1 Y6 (fV 0)) (fC VT)))))
   (cH (fC (.bl false)))
   bD)
   (cH (f1 oAll (YM [] 1 (UU (fV 0)) (gN 0) VQ (cS 3 [] bN (aE (fV 0) (aE (fC (.int 0)) (aE (fC bA) cF))))))))
def ZL:cO:=bU 2 [] SK
def UB:VS:=
   (cQ (ZD (fB (f2 XX (fV 0) (fC (.str "take"))))
   (cH (f2 ON (f2 cL (fV 1) (fC (.int 0))) (fC (.int 0))))
   bD)
   (cQ (ZD (fB (f2 XX (fV 0) (fC (.str "put"))))
   (cH (f2 ON (f2 cL (fV 1) (fC (.int 1))) (fC (.int 0))))
   bD)
   (cH (fC (.bl true)))))
def ZV:cO:=bU 2 [] UB
def bL:VS:=
   (cQ (ZD (WW (fB (cS 2 [] ZV (aE (fV 0) (aE (fV 2) cF)))))
   (cH (bI (dD (NU (fB (f2 XX (fV 0) (fC (.str "take")))) (f2 cL (fV 2) (fC (.int 1))) (fC .non)) (dD (fC .non) cE))))
   bD)
   (cQ (ZD (fB (f2 oGe (fV 1) (f1 Y6 (fO 3))))
   (cH (bI (dD (fC .non) (dD (fC (.str "beyond")) cE))))
   bD)
   (cQ (ZD (fB (f2 (TR false) (fV 0) (fC aV)))
   (cQ (KA 3 (fV 1) (f2 cL (fV 2) (fC (.int 0))))
   (cH (bI (dD (fC .non) (dD (fC .non) cE)))))
   bD)
   (cH (bI (dD (f2 cL (fO 3) (fV 1)) (dD (fC .non) cE)))))))
def b4:cO:=bU 4 [3] bL
def UR:VS:=
   (cQ (aZ 4 (xV (f2 cL (fV 0) (fC (.int 0)))))
   (cQ (ZD (fB (f2 XX (fV 4) (fC (.str "number"))))
   (cH (bI (dD (f2 cL (fV 0) (fC (.int 1))) (dD (fC .non) cE))))
   bD)
   (cQ (aZ 5 (xV (cS 1 [] bR (aE (fV 0) cF))))
   (cQ (ZD (fB (f2 WM (fV 5) (fC .non)))
   (cH (cS 4 [3] b4 (aE (fV 4) (aE (f2 bK (fV 5) (fV 3)) (aE (fV 1) (aO 2 cF))))))
   bD)
   (cQ (aZ 6 (xV (cS 2 [] XY (aE (fV 4) (aE (fV 1) cF)))))
   (cH (bI (dD (fV 6) (dD (NU (fB (f2 SZ (fV 6) (fC .non))) (fC (.str "nought")) (fC .non)) cE)))))))))
def aD:cO:=bU 7 [2] UR
def W5:VS:=
   (cQ (Q6 (cS 3 [2] (DS aD (.int 0)) (aE (fV 4) (aE (YM [2] 1 (UU (cS 1 [] Z1 (aE (fV 4) cF))) (gN 1) VQ (f2 cL (fO 0) (fV 1))) (aO 1 cF)))) (N8 2 (b7 (gN 5) (b7 (gN 6) ZC))))
   (cQ (ZD (fB (f2 WM (fV 6) (fC .non)))
   (cH (bI (dD (fO 2) (dD (bI (dD (fV 3) (dD (fV 6) cE))) cE))))
   bD)
   (OT 2 LP (dD (fV 5) cE))))
def QQ:VS:=
   (cQ (aZ 2 (xO (X0 cE)))
   (cQ (RW (JM (fV 0)) (N8 2 (b7 (gN 3) (b7 (gN 4) ZC)))
   W5)
   (cH (bI (dD (fO 2) (dD (fC .non) cE))))))
def XQ:cO:=bU 7 [1] QQ
def UQ:VS:=
   (cQ (ZD (WW (fB (cS 1 [] YD (aE (fV 0) cF))))
   (fun _=>none)
   bD)
   (ZD (WW (fB (cS 2 [] ZL (aE (fV 1) (aE (f2 cL (fV 0) (fC (.int 0))) cF)))))
   (fun _=>none)
   bD))
def YY:cO:=bU 2 [] UQ
def zAP:VS:=
   (cQ (TK (cS 2 [] YY (aE (fV 0) (aE (fV 1) cF))))
   (cQ (aZ 2 (xO (f1 P9 (fV 1))))
   (cQ (Q6 (cS 2 [1] XQ (aE (f2 cL (fV 0) (fC (.int 1))) (aO 2 cF))) (N8 2 (b7 (gN 3) (b7 (gN 4) ZC))))
   (cH (bI (dD (fO 2) (dD (fV 4) cE)))))))
def ME:cO:=bU 5 [] zAP
def FG:VS:=
   (cQ (ZD (GO (WW (fB (f2 VJ (fV 0) (fC (.ty "tuple"))))) (fB (f2 ON (f1 Y6 (fV 0)) (fC (.int 4)))))
   (cH (fC (.bl false)))
   bD)
   (cH (DW (f2 VJ (f2 cL (fV 0) (fC (.int 0))) (fC (.ty "str"))) (f2 XX (f2 cL (fV 0) (fC (.int 0))) (fC (.str "if"))))))
def TZ:cO:=bU 1 [] FG
def ZE(R:cO):VS:=
   (cQ (aZ 5 (xV (cS 3 [] R (aE (fV 4) (aE (fV 3) (aE (f2 bK (fV 2) (fC (.int 1))) cF))))))
   (cQ (ZD (fB (f2 SZ (fV 5) (fC .non)))
   (cH (fC .non))
   bD)
   (aZ 3 (xV (f2 bK (fV 3) (f2 FP (X0 (dD (fC (.bl false)) cE)) (f2 LQ (f1 Y6 (fV 5)) (f1 Y6 (fV 3)))))))))
def ZQ(R:cO):VS:=
   (cQ (ZD (GO (fB (f2 XX (fV 2) (fC UN))) (WW (fB (cS 2 [] ZM (aE (f2 cL (fV 0) (fC (.int 1))) (aE (fV 1) cF))))))
   (cH (fC .non))
   bD)
   (cQ (aZ 3 (xV (f2 bK (fV 1) (X0 (dD (fC (.bl false)) cE)))))
   (cQ (RW (UU (fSl (fV 0) (pSo (fC (.int 2))) pNo)) (gN 4)
   (ZE R))
   (cH (fV 3)))))
def Z9(R:cO):cO:=bU 6 [] (ZQ R)
def aM(R:cO):VS:=
   (cQ (ZD (fB (cS 1 [] TZ (aE (fV 4) cF)))
   (aZ 3 (xV (cS 3 [] (Z9 R) (aE (fV 4) (aE (fV 3) (aE (fV 2) cF))))))
   (ZD (fB (cS 2 [] X3 (aE (fV 4) (aE (fV 3) cF))))
   (aZ 3 (xV (f2 bK (fV 3) (X0 (dD (cS 1 [] Z0 (aE (fV 4) cF)) cE)))))
   (cH (fC .non))))
   (ZD (GO (fB (f2 SZ (fV 3) (fC .non))) (fB (f2 oGt (f1 Y6 (fV 3)) (fC ZI))))
   (cH (fC .non))
   bD))
def aI(R:cO):VS:=
   (cQ (ZD (WW (fB (f2 VJ (fV 0) (fC (.ty "tuple")))))
   (cH (fC .non))
   bD)
   (cQ (aZ 3 (xV (fV 1)))
   (cQ (RW (UU (fV 0)) (gN 4)
   (aM R))
   (cH (fV 3)))))
def bW:Nat->cO:=EJ fun R=>bU 5 [] (aI R)
def QS:VS:=
   (cQ (ZD (GO (WW (fB (f2 VJ (fV 0) (fC (.ty "tuple"))))) (fB (f2 ON (f1 Y6 (fV 0)) (fC (.int 2)))))
   (cH (fC (.bl false)))
   bD)
   (cH (DW (cS 3 [] bN (aE (f2 cL (fV 0) (fC (.int 0))) (aE (fC (.int 0)) (aE (fC X6) cF)))) (f2 WM (cS 3 [] (bW 4) (aE (f2 cL (fV 0) (fC (.int 1))) (aE (X0 cE) (aE (fC (.int 0)) cF)))) (fC .non)))))
def Y0:cO:=bU 1 [] QS
def YG(R:cO):VS:=
   (cQ (OT 2 LP (dD (bI (dD (fV 3) (dD (fV 1) cE))) cE))
   (ZD (fB (f2 XX (f2 cL (fV 3) (fC (.int 0))) (fC (.str "if"))))
   (cQ (OT 2 mExt (dD (cS 2 [] R (aE (f2 cL (fV 3) (fC (.int 2))) (aE (f2 bK (fV 1) (bI (dD (bI (dD (f2 cL (fV 3) (fC (.int 1))) (dD (fC (.bl true)) cE))) cE))) cF))) cE))
   (OT 2 mExt (dD (cS 2 [] R (aE (f2 cL (fV 3) (fC (.int 3))) (aE (f2 bK (fV 1) (bI (dD (bI (dD (f2 cL (fV 3) (fC (.int 1))) (dD (fC (.bl false)) cE))) cE))) cF))) cE)))
   bD))
def XH(R:cO):VS:=
   (cQ (aZ 2 (xO (X0 cE)))
   (cQ (RW (UU (fV 0)) (gN 3)
   (YG R))
   (cH (fO 2))))
def YQ:Nat->cO:=EJ fun R=>bU 4 [] (XH R)
def bF:VS:=
   (cQ (Q6 (bI (dD (fC .non) (dD (fC .non) cE))) (N8 2 (b7 (gN 6) (b7 (gN 7) ZC))))
   (cQ (ZD (GN (fB (f2 ON (f2 cL (fV 4) (fC (.int 0))) (fC (.str "if")))) (fB (f1 oAll (YM [2] 2 (UU (fV 5)) (N8 2 (b7 (gN 1) (b7 (gN 2) ZC))) VQ (f2 XX (f2 ON (f2 cL (fO 0) (fV 1)) (fC (.int 0))) (fV 2))))))
   (Q6 (cS 3 [2] (DS aD (.int 0)) (aE (fV 4) (aE (YM [2] 1 (UU (cS 1 [] Z1 (aE (fV 4) cF))) (gN 1) VQ (f2 cL (fO 0) (fV 1))) (aO 1 cF)))) (N8 2 (b7 (gN 6) (b7 (gN 7) ZC))))
   bD)
   (cQ (ZD (fB (f2 WM (fV 7) (fC .non)))
   (cH (bI (dD (fV 3) (dD (fV 7) cE))))
   bD)
   (OT 2 LP (dD (fV 6) cE)))))
def QR:VS:=
   (cQ (aZ 2 (xO (X0 cE)))
   (cQ (RW (JM (cS 2 [] (YQ 4) (aE (fV 0) (aE (bI cE) cF)))) (N8 2 (b7 (gN 3) (b7 (N8 2 (b7 (gN 4) (b7 (gN 5) ZC))) ZC)))
   bF)
   (cH (fC .non))))
def XR:cO:=bU 8 [1] QR
def SS:VS:=
   (cQ (ZD (WW (fB (cS 1 [] Y0 (aE (fV 0) cF))))
   (fun _=>none)
   bD)
   (cQ (ZD (WW (fB (cS 2 [] ZL (aE (fV 1) (aE (f2 cL (fV 0) (fC (.int 0))) cF)))))
   (fun _=>none)
   bD)
   (cQ (aZ 2 (xO (f1 P9 (fV 1))))
   (cQ (aZ 3 (xV (cS 2 [1] XR (aE (f2 cL (fV 0) (fC (.int 1))) (aO 2 cF)))))
   (cH (bI (dD (fO 2) (dD (fV 3) cE))))))))
def YF:cO:=bU 4 [] SS
def SI:VS:=
   (cQ (QB "Flat" "laid" "numbers" true 0 (dD (fV 1) cE))
   (cH (f2 LQ (f1 Y6 (fA "Flat" "laid" "numbers" true 0)) (fC (.int 1)))))
def bG:cO:=bU 2 [0] SI
def UP:VS:=
   (cH (Z3 "Flat" "laid" "numbers" 0 2 [0] bG (aE (bI (dD (fC (.str "pick")) (dD (fV 1) (dD (fV 2) (dD (fC NX) cE))))) cF)))
def Z8:cO:=bU 3 [0] UP
def YB(R:cO):VS:=
   (cQ (aZ 3 (xV (f2 cL (fA "Flat" "laid" "numbers" false 0) (f2 cL (fV 1) (fC (.int 1))))))
   (cQ (QB "Flat" "laid" "numbers" false 0 (dD (fC .non) cE))
   (cQ (TK (Z3 "Flat" "laid" "numbers" 0 3 [0] R (aE (f2 cL (fV 1) (fC (.int 2))) (aE (Z3 "Flat" "laid" "numbers" 0 3 [0] Z8 (aE (fV 2) (aE (fV 3) cF))) cF))))
   (TK (Z3 "Flat" "laid" "numbers" 0 3 [0] R (aE (f2 cL (fV 1) (fC (.int 3))) (aE (Z3 "Flat" "laid" "numbers" 0 2 [0] bG (aE (bI (dD (fC (.str "pick")) (dD (fV 3) (dD (fC NX) (dD (fV 2) cE))))) cF)) cF)))))))
def Y8(R:cO):cO:=bU 4 [0] (YB R)
def WY:VS:=
   (cQ (aZ 3 (xV (f2 cL (fV 1) (fC (.int 0)))))
   (cQ (ZD (fB (f2 XX (fV 3) (fC (.str "load"))))
   (cH (bI (dD (fC (.str "take")) (dD (f2 cL (fV 1) (fC (.int 1))) (dD (fV 2) (dD (fV 2) cE))))))
   bD)
   (cQ (ZD (fB (f2 XX (fV 3) (fC (.str "take"))))
   (cH (bI (dD (fC (.str "take")) (dD (f2 cL (fV 1) (fC (.int 1))) (dD (Z3 "Flat" "laid" "numbers" 0 3 [0] Z8 (aE (fV 2) (aE (f2 cL (fV 1) (fC (.int 2))) cF))) (dD (f2 cL (fV 1) (fC (.int 3))) cE))))))
   bD)
   (cQ (ZD (fB (f2 XX (fV 3) (fC (.str "store"))))
   (cH (bI (dD (fC (.str "put")) (dD (f2 cL (fV 1) (fC (.int 1))) (dD (f2 cL (fV 1) (fC (.int 2))) (dD (fV 2) cE))))))
   bD)
   (cQ (ZD (fB (f2 XX (fV 3) (fC (.str "put"))))
   (cH (bI (dD (fC (.str "put")) (dD (f2 cL (fV 1) (fC (.int 1))) (dD (f2 cL (fV 1) (fC (.int 2))) (dD (Z3 "Flat" "laid" "numbers" 0 3 [0] Z8 (aE (fV 2) (aE (f2 cL (fV 1) (fC (.int 3))) cF))) cE))))))
   bD)
   (cQ (ZD (fB (f2 XX (fV 3) (fC (.str "over"))))
   (cH (bI (dD (fC (.str "over")) (dD (f2 cL (fV 1) (fC (.int 1))) (dD (Z3 "Flat" "laid" "numbers" 0 2 [0] bG (aE (bI (dD (fC (.str "pick")) (dD (fV 2) (dD (f2 cL (fV 1) (fC (.int 2))) (dD (fC IS) cE))))) cF)) cE)))))
   bD)
   (cH (fV 1))))))))
def ZU:cO:=bU 4 [0] WY
def bB(R:cO):VS:=
   (ZD (fB (f2 XX (f2 cL (fV 3) (fC (.int 0))) (fC (.str "if"))))
   (TK (Z3 "Flat" "laid" "numbers" 0 3 [0] (Y8 R) (aE (fV 3) (aE (NU (fB (f2 SZ (fV 2) (fC .non))) (fC IS) (fV 2)) cF))))
   (cQ (aZ 4 (xV (cS 2 [] YR (aE (fV 3) (aE (YM [0] 1 (UU (cS 1 [] Z1 (aE (fV 3) cF))) (gN 1) VQ (f2 cL (fA "Flat" "laid" "numbers" false 0) (fV 1))) cF)))))
   (QB "Flat" "laid" "numbers" false 0 (dD (Z3 "Flat" "laid" "numbers" 0 2 [0] bG (aE (NU (fB (f2 SZ (fV 2) (fC .non))) (fV 4) (Z3 "Flat" "laid" "numbers" 0 3 [0] ZU (aE (fV 4) (aE (fV 2) cF)))) cF)) cE))))
def aT(R:cO):VS:=
   (RW (UU (fV 1)) (gN 3)
   (bB R))
def bV:Nat->cO:=EJ fun R=>bU 5 [0] (aT R)
def US:VS:=
   (cQ (ZD (WW (fB (cS 1 [] Y0 (aE (fV 0) cF))))
   (fun _=>none)
   bD)
   (cQ (Q6 (fV 0) (N8 2 (b7 (gN 1) (b7 (gN 2) ZC))))
   (cQ (aZ 3 (xO (E9 "Flat" "laid" "numbers")))
   (cQ (ZD (fB (f1 oAny (YM [] 1 (UU (fV 2)) (gN 0) VQ (f2 XX (f2 cL (fV 0) (fC (.int 0))) (fC (.str "if"))))))
   (cQ (TK (Z3 "Flat" "laid" "numbers" 3 2 [0] bG (aE (bI (dD (fC (.str "number")) (dD (fC (.int 0)) cE))) cF)))
   (TK (Z3 "Flat" "laid" "numbers" 3 2 [0] bG (aE (bI (dD (fC (.str "number")) (dD (fC (.int 1)) cE))) cF))))
   bD)
   (cQ (TK (Z3 "Flat" "laid" "numbers" 3 3 [0] (bV 4) (aE (fV 2) (aE (fC .non) cF))))
   (cQ (ZD (fB (f2 oGt (f1 Y6 (fA "Flat" "laid" "numbers" true 3)) (fC X5)))
   (fun _=>none)
   bD)
   (cH (bI (dD (bI (dD (fV 1) (dD (f1 S4 (fA "Flat" "laid" "numbers" true 3)) cE))) (dD (fA "Flat" "laid" "numbers" false 3) cE))))))))))
def YZ:cO:=bU 4 [] US
def VN:VS:=
   (aZ 2 (xV (f2 M4 (fV 2) (fC (.int 1000003)))))
def WZ:VS:=
   (cQ (ZD (fB (f2 oLt (fV 1) (f1 Y6 (fV 0))))
   (cH (f2 cL (fV 0) (fV 1)))
   bD)
   (cQ (ZD (fB (f2 XX (fV 0) (X0 cE)))
   (cH (fC (.int 0)))
   bD)
   (cQ (aZ 2 (xV (f2 cL (fV 0) (f2 NQ (fV 1) (f1 Y6 (fV 0))))))
   (cQ (RW (iR1 (f2 oMin (f2 M4 (fV 1) (f1 Y6 (fV 0))) (fC (.int 60)))) (gN 3)
   VN)
   (cH (f2 bK (f2 bK (f2 UZ (f2 cL (fV 0) (f2 NQ (fV 1) (f1 Y6 (fV 0)))) (fC (.int 31))) (fV 1)) (f2 UZ (fV 2) (fC (.int 101)))))))))
def aN:cO:=bU 4 [] WZ
def UT:VS:=
   (cQ (aZ 3 (xV (f2 NQ (f2 bK (f2 bK (f2 UZ (cS 2 [] aN (aE (fV 0) (aE (fV 1) cF))) (fC (.int 1103515245))) (f2 UZ (fC (.int 7919)) (fV 1))) (fC (.int 12345))) (fC (.int 2147483647)))))
   (cH (f2 NQ (f2 NQ (f2 NQ (f2 oPow (fV 3) (fC (.int 5))) (fC (.int 2147483647))) (fC (.int 999983))) (fV 2))))
def Y1:cO:=bU 4 [] UT
def SN:VS:=
   (cQ (OT 1 LP (dD (fC (.int 0)) cE))
   (cH (cS 3 [] Y1 (aE (fV 0) (aE (f1 Y6 (fO 1)) (aE (fV 2) cF))))))
def a6:cO:=bU 3 [1] SN
def SO:VS:=
   (cH (f2 cL (fV 2) (cS 3 [1] a6 (aE (fV 0) (aO 1 (aE (f1 Y6 (fV 2)) cF))))))
def bH:cO:=bU 3 [1] SO
def V0:VS:=
   (cQ (ZD (fB (f2 XX (fV 0) (fC (.str "pick"))))
   (cH (NU (fB (f2 XX (f2 cL (fV 1) (fC (.int 0))) (fC (.int 0)))) (f2 cL (fV 1) (fC (.int 2))) (f2 cL (fV 1) (fC (.int 1)))))
   bD)
   (cQ (Q6 (fV 1) (N8 2 (b7 (gN 2) (b7 (gN 3) ZC))))
   (cQ (ZD (fB (f2 (TR false) (fV 0) (bI (dD (fC (.str "least")) (dD (fC (.str "most")) cE)))))
   (cH (f2 cL (f1 HG (fV 1)) (NU (fB (f2 XX (fV 0) (fC (.str "least")))) (fC (.int 0)) (fC (.int 1)))))
   bD)
   (cQ (ZD (fB (f2 XX (fV 0) (fC (.str "less"))))
   (cH (NU (fB (f2 oGt (fV 3) (fV 2))) (fC (.int 1)) (fC (.int 0))))
   bD)
   (cQ (ZD (fB (f2 XX (fV 0) (fC (.str "over"))))
   (cH (NU (fB (f2 XX (fV 3) (fC (.int 0)))) (fC .non) (LC (fV 3) (f2 bK (fV 2) (fC (.int 1))) (fV 3))))
   bD)
   (cQ (aZ 4 (xV (f2 cL (E8 (Q5 (fC (.str "plus")) (f2 bK (fV 2) (fV 3)) (Q5 (fC (.str "minus")) (f2 LQ (f2 bK (fV 2) (fC (.int 1000))) (fV 3)) (Q5 (fC (.str "times")) (f2 UZ (fV 2) (fV 3)) AQ)))) (fV 0))))
   (cH (f2 LQ (fV 4) (f2 UZ (f2 M4 (fV 4) (fC (.int 1000))) (fC (.int 1000)))))))))))
def ZZ:cO:=bU 5 [] V0
def SQ:VS:=
   (cQ (ZD (fB (f2 (TR true) (f2 cL (fV 0) (fC (.int 0))) (bI (dD (fC (.str "load")) (dD (fC (.str "take")) (dD (fC (.str "store")) (dD (fC (.str "put")) cE)))))))
   (cQ (aZ 4 (xV (cS 2 [] ZZ (aE (f2 cL (fV 0) (fC (.int 0))) (aE (fV 2) cF)))))
   (cH (bI (dD (fV 4) (dD (NU (fB (f2 SZ (fV 4) (fC .non))) (fC (.str "nought")) (fC .non)) cE)))))
   bD)
   (cQ (aZ 5 (xV (f2 bK (f2 cL (fV 0) (fC (.int 1))) (fV 1))))
   (cQ (ZD (GN (fB (f2 XX (f2 cL (fV 0) (fC (.int 0))) (fC (.str "take")))) (fB (f2 XX (f2 cL (fV 2) (fC (.int 0))) (fC (.int 0)))))
   (cH (bI (dD (f2 cL (fV 2) (fC (.int 1))) (dD (fC .non) cE))))
   bD)
   (cQ (ZD (GN (fB (f2 XX (f2 cL (fV 0) (fC (.int 0))) (fC (.str "put")))) (fB (f2 XX (f2 cL (fV 2) (fC (.int 1))) (fC (.int 0)))))
   (cH (bI (dD (fC .non) (dD (fC .non) cE))))
   bD)
   (cQ (ZD (fB (f2 oGe (fV 5) (f1 Y6 (fO 3))))
   (cH (bI (dD (fC .non) (dD (fC (.str "beyond")) cE))))
   bD)
   (cQ (ZD (fB (f2 (TR false) (f2 cL (fV 0) (fC (.int 0))) (bI (dD (fC (.str "load")) (dD (fC (.str "take")) cE)))))
   (cH (bI (dD (f2 cL (fO 3) (fV 5)) (dD (fC .non) cE))))
   bD)
   (cQ (KA 3 (fV 5) (f2 cL (fV 2) (fC (.int 0))))
   (cH (bI (dD (fC .non) (dD (fC .non) cE)))))))))))
def YE:cO:=bU 6 [3] SQ
def P4:VS:=
   (cQ (ZD (fB (f2 XX (f2 cL (fV 0) (fC (.int 0))) (fC (.str "number"))))
   (cH (X0 cE))
   bD)
   (cH (NU (fB (f2 (TR false) (f2 cL (fV 0) (fC (.int 0))) (bI (dD (fC (.str "load")) (dD (fC (.str "take")) (dD (fC (.str "store")) (dD (fC (.str "put")) cE))))))) (f1 P9 (fSl (fV 0) (pSo (fC (.int 2))) pNo)) (f1 P9 (fSl (fV 0) (pSo (fC (.int 1))) pNo)))))
def X4:cO:=bU 1 [] P4
def Y4(R:cO):VS:=
   (cH (f1 oSum (YM [] 1 (UU (fV 0)) (gN 0) VQ (f2 bK (fC (.int 1)) (NU (fB (f2 XX (f2 cL (fV 0) (fC (.int 0))) (fC (.str "if")))) (f2 bK (cS 1 [] R (aE (f2 cL (fV 0) (fC (.int 2))) cF)) (cS 1 [] R (aE (f2 cL (fV 0) (fC (.int 3))) cF))) (fC (.int 0)))))))
def Z7:Nat->cO:=EJ fun R=>bU 1 [] (Y4 R)
def cB(R:cO):VS:=
   (cQ (aZ 5 (xV (fC .non)))
   (cQ (ZD (fB (f2 XX (f2 cL (fV 4) (fC (.int 0))) (fC (.str "if"))))
   (cQ (aZ 6 (xV (f2 bK (f2 bK (fV 1) (fC (.int 1))) (cS 1 [] (Z7 4) (aE (f2 cL (fV 4) (fC (.int 2))) cF)))))
   (ZD (fB (f2 ON (f2 cL (fO 2) (f2 cL (fV 4) (fC (.int 1)))) (fC (.int 0))))
   (aZ 5 (xV (cS 4 [2,3] R (aE (f2 cL (fV 4) (fC (.int 2))) (aE (f2 bK (fV 1) (fC (.int 1))) (aO 2 (aO 3 cF)))))))
   (aZ 5 (xV (cS 4 [2,3] R (aE (f2 cL (fV 4) (fC (.int 3))) (aE (fV 6) (aO 2 (aO 3 cF)))))))))
   (ZD (fB (f2 XX (f2 cL (fV 4) (fC (.int 0))) (fC (.str "number"))))
   (J9 2 (fV 1) (f2 cL (fV 4) (fC (.int 1))))
   (cQ (Q6 (cS 4 [3] YE (aE (fV 4) (aE (fC (.int 0)) (aE (YM [2] 1 (UU (cS 1 [] X4 (aE (fV 4) cF))) (gN 1) VQ (f2 cL (fO 0) (fV 1))) (aO 3 cF))))) (N8 2 (b7 (gN 7) (b7 (gN 8) ZC))))
   (cQ (J9 2 (fV 1) (fV 7))
   (aZ 5 (xV (NU (fB (f2 WM (fV 8) (fC .non))) (bI (dD (fV 1) (dD (fV 8) cE))) (fC .non))))))))
   (cQ (ZD (fB (f2 WM (fV 5) (fC .non)))
   (cH (fV 5))
   bD)
   (aZ 1 (xV (f2 bK (fV 1) (cS 1 [] (Z7 4) (aE (bI (dD (fV 4) cE)) cF))))))))
def bY(R:cO):VS:=
   (cQ (RW (UU (fV 0)) (gN 4)
   (cB R))
   (cH (fC .non)))
def b9:Nat->cO:=EJ fun R=>bU 9 [2,3] (bY R)
def VR:VS:=
   (cQ (Q6 (YM [0,1,2] 1 (iR1 (fC (.int 3))) (gN 3) VQ (cS 3 [1] bH (aE (fV 0) (aO 1 (aE (fV 2) cF))))) (N8 3 (b7 (gN 7) (b7 (gN 8) (b7 (gN 9) ZC)))))
   (cQ (aZ 10 (xV (cS 3 [1] bH (aE (fV 0) (aO 1 (aE (X0 (dD (fC (.int 0)) (dD (fC (.int 1)) (dD (fC (.int 2)) (dD (fC (.int 3)) (dD (fC (.int 5)) (dD (fC (.int 9)) cE))))))) cF))))))
   (cQ (aZ 11 (xV (X0 (dD (bI (dD (fC (.str "take")) (dD (fV 10) (dD (fV 7) (dD (fV 8) cE))))) (dD (bI (dD (fC (.str "put")) (dD (fV 10) (dD (fV 7) (dD (fV 8) cE))))) (dD (bI (dD (fC (.str "load")) (dD (fV 10) cE))) (dD (bI (dD (fC (.str "store")) (dD (fV 10) (dD (fV 7) cE)))) (dD (bI (dD (fC (.str "over")) (dD (fV 7) (dD (fV 8) cE)))) cE))))))))
   (cQ (OT 5 LP (dD (cS 3 [1] bH (aE (fV 0) (aO 1 (aE (f2 bK (fV 11) (X0 (dD (bI (dD (fC (.str "pick")) (dD (fV 7) (dD (fV 8) (dD (fV 9) cE))))) (dD (bI (dD (fC (.str "take")) (dD (fV 10) (dD (fV 8) (dD (fV 7) cE))))) cE)))) cF)))) cE))
   (ZD (fB (f2 (TR true) (f2 cL (f2 cL (fO 5) (f1 oNeg (fC (.int 1)))) (fC (.int 0))) (bI (dD (fC (.str "put")) (dD (fC (.str "store")) cE)))))
   (aZ 2 (xV (f2 bK (fV 2) (X0 (dD (f2 bK (fV 3) (fV 6)) cE)))))
   bD)))))
def XG:VS:=
   (cQ (aZ 5 (xO (X0 cE)))
   (cQ (RW (iR1 (fV 4)) (gN 6)
   VR)
   (cH (f1 S4 (fO 5)))))
def aF:cO:=bU 12 [1] XG
def O9:VS:=
   (cQ (aZ 9 (xV (cS 3 [1] bH (aE (fV 0) (aO 1 (aE (X0 (dD (fC (.int 3)) (dD (fC (.int 4)) (dD (fC (.int 6)) (dD (fC (.int 10)) (dD (fC (.int 12)) cE)))))) cF))))))
   (cQ (aZ 10 (xV (YM [0,1] 1 (iR1 (f2 oMax (fV 9) (f2 cL (fV 5) (fC (.int 0))))) (gN 2) VQ (cS 3 [1] a6 (aE (fV 0) (aO 1 (aE (cS 3 [1] bH (aE (fV 0) (aO 1 (aE (X0 (dD (fC (.int 2)) (dD (fC (.int 3)) (dD (fC (.int 9)) cE)))) cF)))) cF)))))))
   (cQ (aZ 11 (xO (f1 P9 (fV 10))))
   (cQ (aZ 12 (xV (cS 3 [2] (D0 2 (b9 4)) (aE (f2 cL (fV 5) (fC (.int 1))) (aE (fC (.int 0)) (aO 11 cF))))))
   (cQ (ZD (fB (f2 ON (cS 2 [] YF (aE (fV 5) (aE (fV 10) cF))) (bI (dD (fO 11) (dD (fV 12) cE)))))
   (cH (fC (.bl false)))
   bD)
   (ZD (fB (f2 ON (cS 2 [] ME (aE (fV 6) (aE (fV 10) cF))) (bI (dD (fO 11) (dD (NU (fB (f2 SZ (fV 12) (fC .non))) (fC .non) (bI (dD (f2 cL (fV 7) (f2 cL (fV 12) (fC (.int 0)))) (dD (f2 cL (fV 12) (fC (.int 1))) cE)))) cE)))))
   (cH (fC (.bl false)))
   bD))))))
def zAQ:VS:=
   (cQ (aZ 1 (xO (X0 cE)))
   (cQ (aZ 2 (xV (X0 (dD (bI (dD (fC (.str "load")) (dD (fC (.int 0)) cE))) (dD (bI (dD (fC (.str "load")) (dD (fC (.int 1)) cE))) (dD (bI (dD (fC (.str "load")) (dD (fC (.int 2)) cE))) (dD (bI (dD (fC (.str "number")) (dD (cS 3 [1] a6 (aE (fV 0) (aO 1 (aE (fC (.int 3)) cF)))) cE))) cE)))))))
   (cQ (aZ 3 (xV (cS 5 [1] aF (aE (fV 0) (aO 1 (aE (X0 (dD (fC (.int 0)) (dD (fC (.int 1)) (dD (fC (.int 2)) (dD (fC (.int 3)) cE))))) (aE (fC (.int 5)) (aE (f2 bK (fC (.int 1)) (cS 3 [1] a6 (aE (fV 0) (aO 1 (aE (fC (.int 2)) cF))))) cF))))))))
   (cQ (aZ 4 (xV (cS 5 [1] aF (aE (fV 0) (aO 1 (aE (X0 (dD (fC (.int 0)) (dD (fC (.int 1)) (dD (fC (.int 2)) (dD (fC (.int 3)) cE))))) (aE (f2 bK (fC (.int 5)) (f1 Y6 (fV 3))) (aE (f2 bK (f2 LQ (fC (.int 4)) (f1 Y6 (fV 2))) (cS 3 [1] a6 (aE (fV 0) (aO 1 (aE (fC (.int 2)) cF))))) cF))))))))
   (cQ (aZ 5 (xV (bI (dD (cS 3 [1] bH (aE (fV 0) (aO 1 (aE (X0 (dD (fC (.int 0)) (dD (fC (.int 3)) (dD (fC (.int 10)) cE)))) cF)))) (dD (f2 bK (f1 S4 (fV 2)) (bI (dD (bI (dD (fC (.str "if")) (dD (cS 3 [1] a6 (aE (fV 0) (aO 1 (aE (fC (.int 3)) cF)))) (dD (fV 3) (dD (fV 4) cE))))) cE))) cE)))))
   (cQ (Q6 (cS 1 [] YZ (aE (fV 5) cF)) (N8 2 (b7 (gN 6) (b7 (gN 7) ZC))))
   (cQ (RW (iR1 (fC (.int 5))) (gN 8)
   O9)
   (cH (fC (.bl true))))))))))
def MD:cO:=bU 13 [] zAQ
end L2
namespace RR
open PySem L2
structure Txt(K:Ai)(mg:Str->Option Value):Prop where
 fnm: ∀x a,Fg K mainGlobals x=some (some (.ref a))->mg x=some (.ref a)
 n_len:mg "len"=none
 n_range:mg "range"=none
 n_min:mg "min"=none
 n_max:mg "max"=none
 X1:mg "list"=none
 n_tuple:mg "tuple"=none
 n_sorted:mg "sorted"=none
 n_isinstance:mg "isinstance"=none
 n_bool:mg "bool"=none
 n_int:mg "int"=none
 n_str:mg "str"=none
 n_enumerate:mg "enumerate"=none
 n_zip:mg "zip"=none
 n_all:mg "all"=none
 n_any:mg "any"=none
 n_sum:mg "sum"=none
 v_DEEDS: ∃u v,mg "DEEDS"=some u/\b6 v u/\ ∀N H M,bQ K N H M v E4
 v_DEED_PARTS: ∃u v,mg "DEED_PARTS"=some u/\b6 v u/\ ∀N H M,bQ K N H M v RJ
 v_MADE: ∃u v,mg "MADE"=some u/\b6 v u/\ ∀N H M,bQ K N H M v XE
 v_MOST_CELLS: ∃u v,mg "MOST_CELLS"=some u/\b6 v u/\ ∀N H M,bQ K N H M v VT
 v_MOST_DEEP: ∃u v,mg "MOST_DEEP"=some u/\b6 v u/\ ∀N H M,bQ K N H M v UN
 v_MOST_PLACE: ∃u v,mg "MOST_PLACE"=some u/\b6 v u/\ ∀N H M,bQ K N H M v VU
 v_MOST_ROWS: ∃u v,mg "MOST_ROWS"=some u/\b6 v u/\ ∀N H M,bQ K N H M v X5
 v_MOST_SURE: ∃u v,mg "MOST_SURE"=some u/\b6 v u/\ ∀N H M,bQ K N H M v X6
 v_MOST_TREE_ROWS: ∃u v,mg "MOST_TREE_ROWS"=some u/\b6 v u/\ ∀N H M,bQ K N H M v ZI
 v_MOST_WORD: ∃u v,mg "MOST_WORD"=some u/\b6 v u/\ ∀N H M,bQ K N H M v bA
 v_ONE: ∃u v,mg "ONE"=some u/\b6 v u/\ ∀N H M,bQ K N H M v IS
 v_OTHER_PARTS: ∃u v,mg "OTHER_PARTS"=some u/\b6 v u/\ ∀N H M,bQ K N H M v TC
 v_READERS: ∃u v,mg "READERS"=some u/\b6 v u/\ ∀N H M,bQ K N H M v Y2
 v_WRITERS: ∃u v,mg "WRITERS"=some u/\b6 v u/\ ∀N H M,bQ K N H M v aV
 v_ZERO: ∃u v,mg "ZERO"=some u/\b6 v u/\ ∀N H M,bQ K N H M v NX
 c_Flat:PP K "Flat" "laid" "numbers"
section
variable{P:Ax}{w:World}{K:Ai}{mg:Str->Option Value}{base:Heap}{f:Addr}{fd:Cy}
noncomputable abbrev Nx0:List Str:=["thing","low","high"]
abbrev Qx0:List Str:=["thing","low","high"]
theorem zIH:cV Nx0 Qx0 (c9 (top 9)):=aU
theorem zJH(F:Y3 K "is_whole" "is_whole" (top 9) f fd) (T:Txt K mg):
  bX P w K mg base CX0 1 f fd Qx0 (spV K [] 3 bN):=
 XU P w K mg base Nx0 Qx0 0 SM [] F zIH fun _ _ _ _ _ _ hr hu hu1=>by
  refine(dG ?_ (dE ?_))
  ·exact(cD (R9 (U7 (aK (O6 T.n_isinstance (vv 0) (CJ T.n_bool zD4))) (XO (ZT (aK (O6 T.n_isinstance (vv 0) (CJ T.n_int zHJ)))))))
   (dE (c5 YU))
   cU)
  ·exact(c5 (B9 FR FR s_le s_le (vv 1) (vv 0) (vv 2)))
noncomputable abbrev Nx1:List Str:=["a","b"]
abbrev Qx1:List Str:=["a","b"]
theorem zIG:cV Nx1 Qx1 (c9 (top 10)):=aU
theorem zJG(F:Y3 K "plus" "plus" (top 10) f fd) (T:Txt K mg):
  bX P w K mg base CX0 1 f fd Qx1 (spV K [] 2 QH):=
 XU P w K mg base Nx1 Qx1 0 G2 [] F zIG fun _ _ _ _ _ _ hr hu hu1=>by exact(dE (c5 (ZH WA RX (b8 (aS (K:=K) rfl) bO (vv 0) (vv 1)) (b8 (aS (K:=K) rfl) bO (bZ (by rfl) T.v_MOST_WORD) dF))))
abbrev Nx2:List Str:=["a","b"]
abbrev Qx2:List Str:=["a","b"]
theorem zIF:cV Nx2 Qx2 (c9 (top 11)):=aU
theorem zJF(F:Y3 K "minus" "minus" (top 11) f fd) (T:Txt K mg):
  bX P w K mg base CX0 1 f fd Qx2 (spV K [] 2 T1):=
 XU P w K mg base Nx2 Qx2 0 LI [] F zIF fun _ _ _ _ _ _ hr hu hu1=>by exact(dE (c5 (ZH WA RX (ZH U1 QD (vv 0) (vv 1)) (b8 (aS (K:=K) rfl) bO (bZ (by rfl) T.v_MOST_WORD) dF))))
abbrev Nx3:List Str:=["a","b"]
abbrev Qx3:List Str:=["a","b"]
theorem zIE:cV Nx3 Qx3 (c9 (top 12)):=aU
theorem zJE(F:Y3 K "times" "times" (top 12) f fd) (T:Txt K mg):
  bX P w K mg base CX0 1 f fd Qx3 (spV K [] 2 T2):=
 XU P w K mg base Nx3 Qx3 0 LJ [] F zIE fun _ _ _ _ _ _ hr hu hu1=>by exact(dE (c5 (ZH WA RX (b8 (SU (K:=K) rfl) VW (vv 0) (vv 1)) (b8 (aS (K:=K) rfl) bO (bZ (by rfl) T.v_MOST_WORD) dF))))
abbrev Nx4:List Str:=["a","b"]
abbrev Qx4:List Str:=["a","b"]
theorem zID:cV Nx4 Qx4 (c9 (top 13)):=aU
theorem zJD(F:Y3 K "least" "least" (top 13) f fd) (T:Txt K mg):
  bX P w K mg base CX0 1 f fd Qx4 (spV K [] 2 T0):=
 XU P w K mg base Nx4 Qx4 0 LH [] F zID fun _ _ _ _ _ _ hr hu hu1=>by exact(dE (c5 (KJ (MO rfl) zDH (by rfl) T.n_min zB2 (vv 0) (vv 1))))
abbrev Nx5:List Str:=["a","b"]
abbrev Qx5:List Str:=["a","b"]
theorem zIC:cV Nx5 Qx5 (c9 (top 14)):=aU
theorem zJC(F:Y3 K "most" "most" (top 14) f fd) (T:Txt K mg):
  bX P w K mg base CX0 1 f fd Qx5 (spV K [] 2 QF):=
 XU P w K mg base Nx5 Qx5 0 G0 [] F zIC fun _ _ _ _ _ _ hr hu hu1=>by exact(dE (c5 (KJ (MN rfl) zDI (by rfl) T.n_max zB3 (vv 0) (vv 1))))
abbrev Nx6:List Str:=["a","b"]
abbrev Qx6:List Str:=["a","b"]
theorem zIB:cV Nx6 Qx6 (c9 (top 15)):=aU
theorem zJB(F:Y3 K "less" "less" (top 15) f fd) (T:Txt K mg):
  bX P w K mg base CX0 1 f fd Qx6 (spV K [] 2 QE):=
 XU P w K mg base Nx6 Qx6 0 GZ [] F zIB fun _ _ _ _ _ _ hr hu hu1=>by exact(dE (c5 (YO (b5 zDQ s_lt (vv 0) (vv 1) (bS _)) dF dF)))
abbrev Nx7:List Str:=["a","b"]
abbrev Qx7:List Str:=["a","b"]
theorem zIA:cV Nx7 Qx7 (c9 (top 16)):=aU
theorem zJA(F:Y3 K "over" "over" (top 16) f fd) (T:Txt K mg):
  bX P w K mg base CX0 1 f fd Qx7 (spV K [] 2 WU):=
 XU P w K mg base Nx7 Qx7 0 OE [] F zIA fun _ _ _ _ _ _ hr hu hu1=>by exact(dE (c5 (YO (ZG hu (vv 1) dF) cG (ZH PM LX (vv 0) (vv 1)))))
noncomputable abbrev Nx8:List Str:=["c","a","b"]
abbrev Qx8:List Str:=["c","a","b"]
theorem zI9:cV Nx8 Qx8 (c9 (top 17)):=aU
theorem zJ9(F:Y3 K "pick" "pick" (top 17) f fd) (T:Txt K mg):
  bX P w K mg base CX0 1 f fd Qx8 (spV K [] 3 QG):=
 XU P w K mg base Nx8 Qx8 0 G1 [] F zI9 fun _ _ _ _ _ _ hr hu hu1=>by exact(dE (c5 (YO (b5 (PX (K:=K) rfl hu) PY (vv 0) dF (bS _)) (vv 1) (vv 2))))
noncomputable abbrev Nx9:List Str:=["deed","words","made"]
noncomputable abbrev Qx9:List Str:=["deed","words"]
theorem zDG:cV Nx9 Qx9 (c9 (top 19)):=aU
theorem zJ8(F:Y3 K "done" "done" (top 19) f fd) (T:Txt K mg) (jg:cK P w K mg base "plus" 1 Qx1 [] QH f_x1) (jf:cK P w K mg base "minus" 1 Qx2 [] T1 f_x2) (je:cK P w K mg base "times" 1 Qx3 [] T2 f_x3) (jd:cK P w K mg base "least" 1 Qx4 [] T0 f_x4) (jc:cK P w K mg base "most" 1 Qx5 [] QF f_x5) (jb:cK P w K mg base "less" 1 Qx6 [] QE f_x6) (ja:cK P w K mg base "over" 1 Qx7 [] WU f_x7) (j9:cK P w K mg base "pick" 1 Qx8 [] QG f_x8):
  bX P w K mg base CX0 2 f fd Qx9 (spV K [] 2 XY):=
 XU P w K mg base Nx9 Qx9 1 N9 [] F zDG fun _ _ _ _ _ _ hr hu hu1=>by
  refine(dG ?_ (dG ?_ (dE ?_)))
  ·exact(cD (ZG hu (vv 0) cT)
   (dE (c5 (bP j9 hr (c8 (dC (aL hu1 (vv 1) dF)) (c8 (dC (aL hu1 (vv 1) dF)) (c8 (dC (aL hu1 (vv 1) dF)) c6))))))
   cU)
  ·exact(cC zDG.nd (a5 (dC (aL hu1 (bZ (by rfl) T.v_MADE) (vv 0)))))
  ·exact(c5 (B8 (XJ (K:=K) rfl T.fnm hr jg (by decide) (XJ (K:=K) rfl T.fnm hr jf (by decide) (XJ (K:=K) rfl T.fnm hr je (by decide) (XJ (K:=K) rfl T.fnm hr jd (by decide) (XJ (K:=K) rfl T.fnm hr jc (by decide) (XJ (K:=K) rfl T.fnm hr jb (by decide) (XJ (K:=K) rfl T.fnm hr ja (by decide) zBI))))))) (pv 2) (c8 (dC (aL hu1 (vv 1) dF)) (c8 (dC (aL hu1 (vv 1) dF)) c6))))
abbrev Nx10:List Str:=["deed"]
abbrev C0:List Str:=["deed"]
theorem zF2:cV Nx10 C0 (c9 (top 28)):=aU
theorem zGY(F:Y3 K "parts_of" "parts_of" (top 28) f fd) (T:Txt K mg):
  bX P w K mg base CX0 1 f fd C0 (spV K [] 1 a7):=
 XU P w K mg base Nx10 C0 0 OF [] F zF2 fun _ _ _ _ _ _ hr hu hu1=>by
  refine(dG ?_ (dE ?_))
  ·exact (cD (b5 (G8 (K := K) rfl hu) (TL (neg := false)) (vv 0) (bZ (by rfl) T.v_DEEDS) (by with_unfolding_all rfl))
   (dE (c5 (bZ (by rfl) T.v_DEED_PARTS)))
   cU)
  ·exact(c5 (zBD rfl hu1 (bZ (by rfl) T.v_OTHER_PARTS) (vv 0) ⟨rfl,rfl,rfl,rfl⟩))
noncomputable abbrev Nx11:List Str:=["row"]
abbrev C1:List Str:=["row"]
theorem zF1:cV Nx11 C1 (c9 (top 29)):=aU
theorem zGX(F:Y3 K "makes_word" "makes_word" (top 29) f fd) (T:Txt K mg):
  bX P w K mg base CX0 1 f fd C1 (spV K [] 1 Z0):=
 XU P w K mg base Nx11 C1 0 RK [] F zF1 fun _ _ _ _ _ _ hr hu hu1=>by exact(dE (c5 (RB (LM (K:=K) rfl hu) (TL (neg:=true)) (aL hu1 (vv 0) dF) (bZ (by rfl) T.v_WRITERS) (by with_unfolding_all rfl))))
abbrev Nx12:List Str:=["row"]
abbrev Qx12:List Str:=["row"]
theorem zF0:cV Nx12 Qx12 (c9 (top 30)):=aU
theorem zGW(F:Y3 K "place_of" "place_of" (top 30) f fd) (T:Txt K mg):
  bX P w K mg base CX0 1 f fd Qx12 (spV K [] 1 bR):=
 XU P w K mg base Nx12 Qx12 0 ZO [] F zF0 fun _ _ _ _ _ _ hr hu hu1=>by exact(dE (c5 (YO (R9 (U7 (b5 (G8 (K:=K) rfl hu) (TL (neg:=false)) (aL hu1 (vv 0) dF) (bZ (by rfl) T.v_READERS) (by with_unfolding_all rfl)) (XO (b5 (G8 (K:=K) rfl hu) (TL (neg:=false)) (aL hu1 (vv 0) dF) (bZ (by rfl) T.v_WRITERS) (by with_unfolding_all rfl))))) (aL hu1 (vv 0) dF) cG)))
noncomputable abbrev Nx13:List Str:=["row","deed","rest"]
abbrev GI:List Str:=["row"]
theorem BJ:cV Nx13 GI (c9 (top 31)):=aU
theorem zGV(F:Y3 K "names_of" "names_of" (top 31) f fd) (T:Txt K mg) (cr:cK P w K mg base "parts_of" 1 C0 [] a7 f_x10):
  bX P w K mg base CX0 2 f fd GI (spV K [] 1 Z1):=
 XU P w K mg base Nx13 GI 1 OD [] F BJ fun _ _ _ _ _ _ hr hu hu1=>by
  refine(dG ?_ (dE ?_))
  ·exact(GC (i:=1) (j:=2) rfl rfl BJ.nd rfl rfl (by decide) (Fo rfl) (Fo rfl) (vv 0))
  ·exact(c5 (bJ (ZP ["part","given"] [] 2 (CD rfl (by rfl) T.n_zip (dC (bP cr hr (c8 (vv 1) c6))) (vv 2)) (fun hn _ _ _ _=>⟨(ZF (K:=K) rfl rfl (cI (cP hn) (cI (cP hn) Z5))),(zEA (ZG hu (vv 0) cT)),(vv 1)⟩))))
noncomputable abbrev Nx14:List Str:=["row","names"]
abbrev Qx14:List Str:=["row","names"]
theorem zEZ:cV Nx14 Qx14 (c9 (top 32)):=aU
theorem zGU(F:Y3 K "with_names" "with_names" (top 32) f fd) (T:Txt K mg):
  bX P w K mg base CX0 1 f fd Qx14 (spV K [] 2 YR):=
 XU P w K mg base Nx14 Qx14 0 RL [] F zEZ fun _ _ _ _ _ _ hr hu hu1=>by exact(dE (c5 (b8 (aS (K:=K) rfl) bO (F6 rfl (vv 0) F8 (F9 (ZH U1 QD (X9 T.n_len (vv 0)) (X9 T.n_len (vv 1))))) (F5 (PJ (K:=K) rfl) PB (by rfl) T.n_tuple ZA (vv 1)))))
noncomputable abbrev Nx15:List Str:=["thing","able"]
abbrev C2:List Str:=["thing","able"]
theorem zEY:cV Nx15 C2 (c9 (top 33)):=aU
theorem zGT(F:Y3 K "may_name" "may_name" (top 33) f fd) (T:Txt K mg) (aw:cK P w K mg base "is_whole" 1 Qx0 [] bN f_x0):
  bX P w K mg base CX0 2 f fd C2 (spV K [] 2 ZM):=
 XU P w K mg base Nx15 C2 1 SR [] F zEY fun _ _ _ _ _ _ hr hu hu1=>by exact(dE (c5 (IC (bP aw hr (c8 (vv 0) (c8 dF (c8 (dC (ZH U1 QD (X9 T.n_len (vv 1)) dF)) c6)))) (ID (aL hu1 (vv 1) (vv 0))))))
noncomputable abbrev Nx16:List Str:=["part","thing","able"]
abbrev Qx16:List Str:=["part","thing","able"]
theorem zEX:cV Nx16 Qx16 (c9 (top 34)):=aU
theorem zGS(F:Y3 K "fits" "fits" (top 34) f fd) (T:Txt K mg) (aw:cK P w K mg base "is_whole" 1 Qx0 [] bN f_x0) (cp:cK P w K mg base "may_name" 2 C2 [] ZM f_x15):
  bX P w K mg base CX0 3 f fd Qx16 (spV K [] 3 WT):=
 XU P w K mg base Nx16 Qx16 2 OB [] F zEX fun _ _ _ _ _ _ hr hu hu1=>by
  refine(dG ?_ (dG ?_ (dE ?_)))
  ·exact(cD (ZG hu (vv 0) cT)
   (dE (c5 (bP aw hr (c8 (vv 1) (c8 dF (c8 (dC (bZ (by rfl) T.v_MOST_WORD)) c6))))))
   cU)
  ·exact(cD (ZG hu (vv 0) cT)
   (dE (c5 (bP aw hr (c8 (vv 1) (c8 dF (c8 (dC (bZ (by rfl) T.v_MOST_PLACE)) c6))))))
   cU)
  ·exact(c5 (bP cp hr (c8 (vv 1) (c8 (vv 2) c6))))
noncomputable abbrev Nx17:List Str:=["thing","able","deed","rest","parts"]
abbrev C3:List Str:=["thing","able"]
theorem HQ:cV Nx17 C3 (c9 (top 35)):=aU
theorem zGR(F:Y3 K "is_row" "is_row" (top 35) f fd) (T:Txt K mg) (cr:cK P w K mg base "parts_of" 1 C0 [] a7 f_x10) (gn:cK P w K mg base "fits" 3 Qx16 [] WT f_x16):
  bX P w K mg base CX0 4 f fd C3 (spV K [] 2 X3):=
 XU P w K mg base Nx17 C3 3 OC [] F HQ fun _ _ _ _ _ _ hr hu hu1=>by
  refine(dG ?_ (dG ?_ (dG ?_ (dG ?_ (dE ?_)))))
  ·exact(cD (R9 (U7 (ZT (aK (O6 T.n_isinstance (vv 0) (CJ T.n_tuple ZA)))) (XO (ZG hu (X9 T.n_len (vv 0)) dF))))
   (dE (c5 YU))
   cU)
  ·exact(GC (i:=2) (j:=3) rfl rfl HQ.nd rfl rfl (by decide) (Fo rfl) (Fo rfl) (vv 0))
  ·exact(cC HQ.nd (a5 (dC (YO (aK (O6 T.n_isinstance (vv 2) (CJ T.n_str zB0))) (bP cr hr (c8 (vv 2) c6)) cG))))
  ·exact(cD (R9 (U7 (b5 U0 QC (vv 4) cG (bS _)) (XO (b5 (PX (K:=K) rfl hu) PY (X9 T.n_len (vv 4)) (X9 T.n_len (vv 3)) (bS _)))))
   (dE (c5 YU))
   cU)
  ·exact(c5 (NF (kAll (K:=K) rfl rfl) BH (by rfl) T.n_all GQ (bJ (ZP ["able","part","given"] [1] 2 (CD rfl (by rfl) T.n_zip (vv 4) (vv 3)) (fun hn _ _ _ _=>⟨(ZF (K:=K) rfl rfl (cI (cP hn) (cI (cP hn) Z5))),XM,(dC (bP gn hr (c8 (vv 1) (c8 (vv 2) (c8 (vv 0) c6)))))⟩)))))
noncomputable abbrev Nx18:List Str:=["thing","sure","rows","able","row"]
abbrev Qx18:List Str:=["thing"]
theorem OU:cV Nx18 Qx18 (c9 (top 36)):=aU
theorem zGQ(F:Y3 K "is_block" "is_block" (top 36) f fd) (T:Txt K mg) (aw:cK P w K mg base "is_whole" 1 Qx0 [] bN f_x0) (cq:cK P w K mg base "makes_word" 1 C1 [] Z0 f_x11) (cn:cK P w K mg base "is_row" 4 C3 [] X3 f_x17):
  bX P w K mg base CX0 5 f fd Qx18 (spV K [] 1 YD):=
 XU P w K mg base Nx18 Qx18 4 SJ [] F OU fun _ _ _ _ _ _ hr hu hu1=>by
  refine(dG ?_ (dG ?_ (dG ?_ (dG ?_ (dG ?_ (dG ?_ (dE ?_)))))))
  ·exact(cD (R9 (U7 (ZT (aK (O6 T.n_isinstance (vv 0) (CJ T.n_tuple ZA)))) (XO (b5 (PX (K:=K) rfl hu) PY (X9 T.n_len (vv 0)) dF (bS _)))))
   (dE (c5 YU))
   cU)
  ·exact(W3 (vv 0) (ZF (K:=K) rfl rfl (cI (cP OU.nd) (cI (cP OU.nd) Z5))))
  ·exact (cD (ZT (aK (bP aw hr (c8 (vv 1) (c8 dF (c8 (dC (bZ (by rfl) T.v_MOST_SURE)) c6))))))
   (dE (c5 YU))
   cU)
  ·exact (cD (R9 (U7 (ZT (aK (O6 T.n_isinstance (vv 2) (CJ T.n_tuple ZA)))) (XO (b5 FQ s_gt (X9 T.n_len (vv 2)) (bZ (by rfl) T.v_MOST_ROWS) (bS _)))))
   (dE (c5 YU))
   cU)
  ·exact(cC OU.nd (TQ (aC (cA cZ))))
  ·exact(XN Cv rfl (YV rfl (vv 2)) (cP OU.nd)
   (dG (cD (ZT (aK (bP cn hr (c8 (vv 4) (ZY (pv 3) c6)))))
   (dE (c5 YU))
   cU)
   (dE (U6 (K:=K) rfl Cj Ck YI Q0 (pv 3) (cA (dI (bP cq hr (c8 (vv 4) c6)) cZ))))))
  ·exact(c5 YU)
noncomputable abbrev Nx19:List Str:=["thing","sure"]
abbrev C4:List Str:=["thing","sure"]
theorem zEW:cV Nx19 C4 (c9 (top 39)):=aU
theorem zGP(F:Y3 K "is_cells" "is_cells" (top 39) f fd) (T:Txt K mg) (aw:cK P w K mg base "is_whole" 1 Qx0 [] bN f_x0):
  bX P w K mg base CX0 2 f fd C4 (spV K [] 2 ZL):=
 XU P w K mg base Nx19 C4 1 SK [] F zEW fun _ _ _ _ _ _ hr hu hu1=>by
  refine(dG ?_ (dE ?_))
  ·exact (cD (R9 (U7 (ZT (aK (O6 T.n_isinstance (vv 0) (CJ T.X1 T6)))) (XO (ZT (CI FR FR s_le s_le (vv 1) (X9 T.n_len (vv 0)) (bZ (by rfl) T.v_MOST_CELLS))))))
   (dE (c5 YU))
   cU)
  ·exact(c5 (NF (kAll (K:=K) rfl rfl) BH (by rfl) T.n_all GQ (bJ (ZP ["word"] [] 1 (YV rfl (vv 0)) (fun hn _ _ _ _=>⟨(cP hn),XM,(dC (bP aw hr (c8 (vv 0) (c8 dF (c8 (dC (bZ (by rfl) T.v_MOST_WORD)) c6)))))⟩)))))
abbrev Nx20:List Str:=["deed","words"]
abbrev Qx20:List Str:=["deed","words"]
theorem zEV:cV Nx20 Qx20 (c9 (top 40)):=aU
theorem zGO(F:Y3 K "touches" "touches" (top 40) f fd) (T:Txt K mg):
  bX P w K mg base CX0 1 f fd Qx20 (spV K [] 2 ZV):=
 XU P w K mg base Nx20 Qx20 0 UB [] F zEV fun _ _ _ _ _ _ hr hu hu1=>by
  refine(dG ?_ (dG ?_ (dE ?_)))
  ·exact(cD (ZG hu (vv 0) cT)
   (dE (c5 (RB (PX (K:=K) rfl hu) PY (aL hu1 (vv 1) dF) dF (bS _))))
   cU)
  ·exact(cD (ZG hu (vv 0) cT)
   (dE (c5 (RB (PX (K:=K) rfl hu) PY (aL hu1 (vv 1) dF) dF (bS _))))
   cU)
  ·exact(c5 YU)
noncomputable abbrev Nx21:List Str:=["deed","place","words","cells"]
abbrev Qx21:List Str:=["deed","place","words","cells"]
theorem zEU:cV Nx21 Qx21 (c9 (top 41)):=aU
theorem zGN(F:Y3 K "do_on_cell" "do_on_cell" (top 41) f fd) (T:Txt K mg) (gk:cK P w K mg base "touches" 1 Qx20 [] ZV f_x20):
  bX P w K mg base CX0 2 f fd Qx21 (spV K [3] 4 b4):=
 XU P w K mg base Nx21 Qx21 1 bL [3] F zEU fun _ _ _ _ _ _ hr hu hu1=>by
  refine(dG ?_ (dG ?_ (dG ?_ (dE ?_))))
  ·exact(cD (ZT (aK (bP gk hr (c8 (vv 0) (c8 (vv 2) c6)))))
   (dE (c5 (cN (dI (YO (ZG hu (vv 0) cT) (aL hu1 (vv 2) dF) cG) (dI cG cZ)))))
   cU)
  ·exact(cD (b5 zDR s_ge (vv 1) (X9 T.n_len (vo 3)) (bS _))
   (dE (c5 (cN (dI cG (dI cT cZ)))))
   cU)
  ·exact (cD (b5 (G8 (K := K) rfl hu) (TL (neg := false)) (vv 0) (bZ (by rfl) T.v_WRITERS) (by with_unfolding_all rfl))
   (dG (CG rfl (pv 3) (vv 1) (dC (aL hu1 (vv 2) dF)))
   (dE (c5 (cN (dI cG (dI cG cZ))))))
   cU)
  ·exact(c5 (cN (dI (aL hu1 (vo 3) (vv 1)) (dI cG cZ))))
noncomputable abbrev Nx22:List Str:=["row","words","cells","shift","deed","place","word"]
noncomputable abbrev NW:List Str:=["row","words","cells","shift"]
theorem LY:cV Nx22 NW (c9 (top 42)):=aU
theorem zA4{Td:Addr}(F:GH K "do_row" "do_row" (top 42) (.ref Td) f fd) (T:Txt K mg) (i5:cK P w K mg base "done" 2 Qx9 [] XY f_x9) (ee:cK P w K mg base "place_of" 1 Qx12 [] bR f_x12) (dz:cK P w K mg base "do_on_cell" 2 Qx21 [3] b4 f_x21):
  bX P w K mg base CX0 3 f fd NW (spV K [2] 4 aD):=
 GH.okV (P:=P) (w:=w) (mg:=mg) (base:=base) (K:=K) (N:=Nx22) (ps:=NW) (k:=2) (g:=UR) (ml:=[2]) F LY (by decide) fun cdv A outer s H E hr=>by
  have hu:=hr.units;have hu1:=zDX hr;refine(dG ?_ (dG ?_ (dG ?_ (dG ?_ (dG ?_ (dE ?_))))))
  ·exact(cC LY.nd (a5 (dC (aL hu1 (vv 0) dF))))
  ·exact(cD (ZG hu (vv 4) cT)
   (dE (c5 (cN (dI (aL hu1 (vv 0) dF) (dI cG cZ)))))
   cU)
  ·exact(cC LY.nd (a5 (dC (bP ee hr (c8 (vv 0) c6)))))
  ·exact(cD (b5 UF Q7 (vv 5) cG (bS _))
   (dE (c5 (bP dz hr (c8 (vv 4) (c8 (dC (b8 (aS (K:=K) rfl) bO (vv 5) (vv 3))) (c8 (vv 1) (ZY (pv 2) c6)))))))
   cU)
  ·exact(cC LY.nd (a5 (dC (bP i5 hr (c8 (vv 4) (c8 (vv 1) c6))))))
  ·exact(c5 (cN (dI (vv 6) (dI (YO (b5 U0 QC (vv 6) cG (bS _)) cT cG) cZ))))
noncomputable abbrev Nx23:List Str:=["rows","cells","words","at","row","word","why"]
abbrev Qx23:List Str:=["rows","cells"]
theorem Q8:cV Nx23 Qx23 (c9 (top 43)):=aU
theorem zGM(F:Y3 K "do_rows" "do_rows" (top 43) f fd) (T:Txt K mg) (bm:cK P w K mg base "names_of" 2 GI [] Z1 f_x13) (dw:cK P w K mg base "do_row" 3 NW [2] aD f_x22) (bp:DefD P w K mg base "do_row" 3 NW (spV K [2] 4 aD) f_x22 (.int 0)):
  bX P w K mg base CX0 4 f fd Qx23 (spV K [1] 2 XQ):=
 XU P w K mg base Nx23 Qx23 3 QQ [1] F Q8 fun _ _ _ _ _ _ hr hu hu1=>by
  refine(dG ?_ (dG ?_ (dE ?_)))
  ·exact(cC Q8.nd (TQ (aC (cA cZ))))
  ·exact (XN Cv rfl (F7 rfl (by rfl) T.n_enumerate (vv 0)) (ZF (K := K) rfl rfl (cI (cP Q8.nd) (cI (cP Q8.nd) Z5)))
   (dG (W3 (dC (KL (K:=K) (v:=(.int 0)) (d:=(.int 0)) rfl bp (fun _ _ _=>(.int _)) (fun _=>nofun) hr (by decide) (by rfl) (c8 (vv 4) (c8 (bJ (ZP ["words","name"] [2] 1 (YV rfl (dC (bP bm hr (c8 (vv 4) c6)))) (fun hn _ _ _ _=>⟨(cP hn),XM,(dC (aL hu1 (vo 0) (vv 1)))⟩))) (ZY (pv 1) c6))))) (ZF (K:=K) rfl rfl (cI (cP Q8.nd) (cI (cP Q8.nd) Z5))))
   (dG (cD (b5 UF Q7 (vv 6) cG (bS _))
   (dE (c5 (cN (WQ (pv 2) (dI (cN (dI (vv 3) (dI (vv 6) cZ))) cZ)))))
   cU)
   (dE (U6 (K:=K) rfl Cj Ck YI Q0 (pv 2) (cA (dI (vv 5) cZ)))))))
  ·exact(c5 (cN (WQ (pv 2) (dI cG cZ))))
noncomputable abbrev Nx24:List Str:=["block","cells"]
abbrev Qx24:List Str:=["block","cells"]
theorem zET:cV Nx24 Qx24 (c9 (top 44)):=aU
theorem zGL(F:Y3 K "check_run" "check_run" (top 44) f fd) (T:Txt K mg) (gl:cK P w K mg base "is_block" 5 Qx18 [] YD f_x18) (ck:cK P w K mg base "is_cells" 2 C4 [] ZL f_x19):
  bX P w K mg base CX0 6 f fd Qx24 (spV K [] 2 YY):=
 XU P w K mg base Nx24 Qx24 5 UQ [] F zET fun _ _ _ _ _ _ hr hu hu1=>by
  refine(dG ?_ (dE ?_))
  ·exact(cD (ZT (aK (bP gl hr (c8 (vv 0) c6))))
   (dE WS)
   cU)
  ·exact(cD (ZT (aK (bP ck hr (c8 (vv 1) (c8 (dC (aL hu1 (vv 0) dF)) c6)))))
   (dE WS)
   cU)
noncomputable abbrev Nx25:List Str:=["block","cells","then","words","fault"]
abbrev Qx25:List Str:=["block","cells"]
theorem LZ:cV Nx25 Qx25 (c9 (top 45)):=aU
theorem zGK(F:Y3 K "run" "run" (top 45) f fd) (T:Txt K mg) (gj:cK P w K mg base "do_rows" 4 Qx23 [1] XQ f_x23) (gh:cK P w K mg base "check_run" 6 Qx24 [] YY f_x24):
  bX P w K mg base CX0 7 f fd Qx25 (spV K [] 2 ME):=
 XU P w K mg base Nx25 Qx25 6 zAP [] F LZ fun _ _ _ _ _ _ hr hu hu1=>by
  refine(dG ?_ (dG ?_ (dG ?_ (dE ?_))))
  ·exact(WG (bP gh hr (c8 (vv 0) (c8 (vv 1) c6))))
  ·exact(cC LZ.nd (TQ (KM (OI (K:=K) rfl) X1 (by rfl) T.X1 T6 (vv 1))))
  ·exact(W3 (dC (bP gj hr (c8 (dC (aL hu1 (vv 0) dF)) (ZY (pv 2) c6)))) (ZF (K:=K) rfl rfl (cI (cP LZ.nd) (cI (cP LZ.nd) Z5))))
  ·exact(c5 (cN (WQ (pv 2) (dI (vv 4) cZ))))
abbrev Nx26:List Str:=["thing"]
abbrev Qx26:List Str:=["thing"]
theorem zES:cV Nx26 Qx26 (c9 (top 51)):=aU
theorem zGJ(F:Y3 K "is_if" "is_if" (top 51) f fd) (T:Txt K mg):
  bX P w K mg base CX0 1 f fd Qx26 (spV K [] 1 TZ):=
 XU P w K mg base Nx26 Qx26 0 FG [] F zES fun _ _ _ _ _ _ hr hu hu1=>by
  refine(dG ?_ (dE ?_))
  ·exact(cD (R9 (U7 (ZT (aK (O6 T.n_isinstance (vv 0) (CJ T.n_tuple ZA)))) (XO (b5 (PX (K:=K) rfl hu) PY (X9 T.n_len (vv 0)) dF (bS _)))))
   (dE (c5 YU))
   cU)
  ·exact(c5 (IC (O6 T.n_isinstance (aL hu1 (vv 0) dF) (CJ T.n_str zB0)) (ID (veq hu (aL hu1 (vv 0) dF) cT))))
noncomputable abbrev Nx27:List Str:=["thing","able","deep","sight","side","within"]
noncomputable abbrev Qx27:List Str:=["thing","able","deep"]
theorem OV:cV Nx27 Qx27 (c9 (top 52)):=aU
noncomputable abbrev Nx28:List Str:=["things","able","deep","sight","thing"]
abbrev C5:List Str:=["things","able","deep"]
theorem OW:cV Nx28 C5 (c9 (top 53)):=aU
theorem zGI{R:cO}{kk:Nat}(hb:4<=kk)(F:Y3 K "sight_behind_if" "sight_behind_if" (top 52) f fd) (T:Txt K mg) (cp:cK P w K mg base "may_name" 2 C2 [] ZM f_x15) (cf:cK P w K mg base "sight_behind" kk C5 [] R f_x28):
  bX P w K mg base CX0 (kk+1) f fd Qx27 (spV K [] 3 (bU 6 [] (ZQ R))):=
 XU P w K mg base Nx27 Qx27 (kk+0) (ZQ R) [] F OV fun _ _ _ _ _ _ hr hu hu1=>by
  refine(dG ?_ (dG ?_ (dG ?_ (dE ?_))))
  ·exact (cD (R9 (U7 (ZG hu (vv 2) (bZ (by rfl) T.v_MOST_DEEP)) (XO (ZT (aK (bP (hk := by lia) cp hr (c8 (dC (aL hu1 (vv 0) dF)) (c8 (vv 1) c6))))))))
   (dE (c5 cG))
   cU)
  ·exact(cC OV.nd (a5 (dC (b8 (aS (K:=K) rfl) bO (vv 1) (bJ (aC (cA (dI YU cZ))))))))
  ·exact(XN Cv rfl (YV rfl (dC (F6 rfl (vv 0) (F9 dF) F8))) (cP OV.nd)
   (dG (cC OV.nd (a5 (dC (bP (hk:=by lia) cf hr (c8 (vv 4) (c8 (vv 3) (c8 (dC (b8 (aS (K:=K) rfl) bO (vv 2) dF)) c6)))))))
   (dG (cD (b5 U0 QC (vv 5) cG (bS _))
   (dE (c5 cG))
   cU)
   (dE (cC OV.nd (a5 (dC (b8 (aS (K:=K) rfl) bO (vv 3) (b8 (kRep (K:=K) rfl) zKA (bJ (aC (cA (dI YU cZ)))) (ZH U1 QD (X9 T.n_len (vv 5)) (X9 T.n_len (vv 3))))))))))))
  ·exact(c5 (vv 3))
theorem zGH{R:cO}{kk:Nat}(hb:4<=kk)(F:Y3 K "sight_behind" "sight_behind" (top 53) f fd) (T:Txt K mg) (cq:cK P w K mg base "makes_word" 1 C1 [] Z0 f_x11) (cn:cK P w K mg base "is_row" 4 C3 [] X3 f_x17) (gd:cK P w K mg base "is_if" 1 Qx26 [] TZ f_x26) (gc:cK P w K mg base "sight_behind_if" (kk+1) Qx27 [] (Z9 R) f_x27):
  bX P w K mg base CX0 (kk+2) f fd C5 (spV K [] 3 (bU 5 [] (aI R))):=
 XU P w K mg base Nx28 C5 (kk+1) (aI R) [] F OW fun _ _ _ _ _ _ hr hu hu1=>by
  refine(dG ?_ (dG ?_ (dG ?_ (dE ?_))))
  ·exact(cD (ZT (aK (O6 T.n_isinstance (vv 0) (CJ T.n_tuple ZA))))
   (dE (c5 cG))
   cU)
  ·exact(cC OW.nd (a5 (vv 1)))
  ·exact(XN Cv rfl (YV rfl (vv 0)) (cP OW.nd)
   (dG (cD (aK (bP (hk:=by lia) gd hr (c8 (vv 4) c6)))
   (dE (cC OW.nd (a5 (dC (bP (hk:=by lia) gc hr (c8 (vv 4) (c8 (vv 3) (c8 (vv 2) c6))))))))
   (dE (cD (aK (bP (hk:=by lia) cn hr (c8 (vv 4) (c8 (vv 3) c6))))
   (dE (cC OW.nd (a5 (dC (b8 (aS (K:=K) rfl) bO (vv 3) (bJ (aC (cA (dI (bP (hk:=by lia) cq hr (c8 (vv 4) c6)) cZ)))))))))
   (dE (c5 cG)))))
   (dE (cD (R9 (U7 (b5 U0 QC (vv 3) cG (bS _)) (XO (b5 FQ s_gt (X9 T.n_len (vv 3)) (bZ (by rfl) T.v_MOST_TREE_ROWS) (bS _)))))
   (dE (c5 cG))
   cU))))
  ·exact(c5 (vv 3))
abbrev Nx29:List Str:=["thing"]
abbrev C6:List Str:=["thing"]
theorem zER:cV Nx29 C6 (c9 (top 54)):=aU
theorem zGG(F:Y3 K "is_tree" "is_tree" (top 54) f fd) (T:Txt K mg) (aw:cK P w K mg base "is_whole" 1 Qx0 [] bN f_x0) (cf:cK P w K mg base "sight_behind" 12 C5 [] (bW 4) f_x28):
  bX P w K mg base CX0 13 f fd C6 (spV K [] 1 Y0):=
 XU P w K mg base Nx29 C6 12 QS [] F zER fun _ _ _ _ _ _ hr hu hu1=>by
  refine(dG ?_ (dE ?_))
  ·exact(cD (R9 (U7 (ZT (aK (O6 T.n_isinstance (vv 0) (CJ T.n_tuple ZA)))) (XO (b5 (PX (K:=K) rfl hu) PY (X9 T.n_len (vv 0)) dF (bS _)))))
   (dE (c5 YU))
   cU)
  ·exact(c5 (IC (bP aw hr (c8 (dC (aL hu1 (vv 0) dF)) (c8 dF (c8 (dC (bZ (by rfl) T.v_MOST_SURE)) c6)))) (ID (RB UF Q7 (bP cf hr (c8 (dC (aL hu1 (vv 0) dF)) (c8 (bJ (aC (cA cZ))) (c8 dF c6)))) cG (bS _)))))
noncomputable abbrev Nx30:List Str:=["rows","path","found","row"]
noncomputable abbrev C7:List Str:=["rows","path"]
theorem HR:cV Nx30 C7 (c9 (top 55)):=aU
theorem zGF{R:cO}{kk:Nat}(hb:0<=kk)(F:Y3 K "listed" "listed" (top 55) f fd) (T:Txt K mg) (bu:cK P w K mg base "listed" kk C7 [] R f_x30):
  bX P w K mg base CX0 (kk+1) f fd C7 (spV K [] 2 (bU 4 [] (XH R))):=
 XU P w K mg base Nx30 C7 (kk+0) (XH R) [] F HR fun _ _ _ _ _ _ hr hu hu1=>by
  refine(dG ?_ (dG ?_ (dE ?_)))
  ·exact(cC HR.nd (TQ (aC (cA cZ))))
  ·exact(XN Cv rfl (YV rfl (vv 0)) (cP HR.nd)
   (dG (U6 (K:=K) rfl Cj Ck YI Q0 (pv 2) (cA (dI (cN (dI (vv 3) (dI (vv 1) cZ))) cZ)))
   (dE (cD (ZG hu (aL hu1 (vv 3) dF) cT)
   (dG (U6 (K:=K) rfl Iq Ir (zDU (K:=K) rfl) zAA (pv 2) (cA (dI (bP (hk:=by lia) bu hr (c8 (dC (aL hu1 (vv 3) dF)) (c8 (dC (b8 (aS (K:=K) rfl) bO (vv 1) (cN (dI (cN (dI (aL hu1 (vv 3) dF) (dI YU cZ))) cZ)))) c6))) cZ)))
   (dE (U6 (K:=K) rfl Iq Ir (zDU (K:=K) rfl) zAA (pv 2) (cA (dI (bP (hk:=by lia) bu hr (c8 (dC (aL hu1 (vv 3) dF)) (c8 (dC (b8 (aS (K:=K) rfl) bO (vv 1) (cN (dI (cN (dI (aL hu1 (vv 3) dF) (dI YU cZ))) cZ)))) c6))) cZ)))))
   cU))))
  ·exact(zB9 (pv 2))
noncomputable abbrev Nx31:List Str:=["rows","cells","words","at","row","path","word","why"]
abbrev Qx31:List Str:=["rows","cells"]
theorem WD:cV Nx31 Qx31 (c9 (top 56)):=aU
theorem zGE(F:Y3 K "do_tree" "do_tree" (top 56) f fd) (T:Txt K mg) (bm:cK P w K mg base "names_of" 2 GI [] Z1 f_x13) (dw:cK P w K mg base "do_row" 3 NW [2] aD f_x22) (bu:cK P w K mg base "listed" 4 C7 [] (YQ 4) f_x30) (bp:DefD P w K mg base "do_row" 3 NW (spV K [2] 4 aD) f_x22 (.int 0)):
  bX P w K mg base CX0 5 f fd Qx31 (spV K [1] 2 XR):=
 XU P w K mg base Nx31 Qx31 4 QR [1] F WD fun _ _ _ _ _ _ hr hu hu1=>by
  refine(dG ?_ (dG ?_ (dE ?_)))
  ·exact(cC WD.nd (TQ (aC (cA cZ))))
  ·exact (XN Cv rfl (F7 rfl (by rfl) T.n_enumerate (dC (bP bu hr (c8 (vv 0) (c8 (dC (cN cZ)) c6))))) (ZF (K := K) rfl rfl (cI (cP WD.nd) (cI (ZF (K := K) rfl rfl (cI (cP WD.nd) (cI (cP WD.nd) Z5))) Z5)))
   (dG (W3 (dC (cN (dI cG (dI cG cZ)))) (ZF (K:=K) rfl rfl (cI (cP WD.nd) (cI (cP WD.nd) Z5))))
   (dG (cD (R9 (IE (b5 (PX (K:=K) rfl hu) PY (aL hu1 (vv 4) dF) cT (bS _)) (MB (aK (NF (kAll (K:=K) rfl rfl) BH (by rfl) T.n_all GQ (bJ (ZP ["words","c","side"] [2] 2 (YV rfl (vv 5)) (fun hn _ _ _ _=>⟨(ZF (K:=K) rfl rfl (cI (cP hn) (cI (cP hn) Z5))),XM,(dC (veq hu (RB (PX (K:=K) rfl hu) PY (aL hu1 (vo 0) (vv 1)) dF (bS _)) (vv 2)))⟩))))))))
   (dE (W3 (dC (KL (K:=K) (v:=(.int 0)) (d:=(.int 0)) rfl bp (fun _ _ _=>(.int _)) (fun _=>nofun) hr (by decide) (by rfl) (c8 (vv 4) (c8 (bJ (ZP ["words","name"] [2] 1 (YV rfl (dC (bP bm hr (c8 (vv 4) c6)))) (fun hn _ _ _ _=>⟨(cP hn),XM,(dC (aL hu1 (vo 0) (vv 1)))⟩))) (ZY (pv 1) c6))))) (ZF (K:=K) rfl rfl (cI (cP WD.nd) (cI (cP WD.nd) Z5)))))
   cU)
   (dG (cD (b5 UF Q7 (vv 7) cG (bS _))
   (dE (c5 (cN (dI (vv 3) (dI (vv 7) cZ)))))
   cU)
   (dE (U6 (K:=K) rfl Cj Ck YI Q0 (pv 2) (cA (dI (vv 6) cZ))))))))
  ·exact(c5 cG)
noncomputable abbrev Nx32:List Str:=["tree","cells","then","fault"]
abbrev Qx32:List Str:=["tree","cells"]
theorem HS:cV Nx32 Qx32 (c9 (top 57)):=aU
theorem zGD(F:Y3 K "run_tree" "run_tree" (top 57) f fd) (T:Txt K mg) (ck:cK P w K mg base "is_cells" 2 C4 [] ZL f_x19) (cj:cK P w K mg base "is_tree" 13 C6 [] Y0 f_x29) (gb:cK P w K mg base "do_tree" 5 Qx31 [1] XR f_x31):
  bX P w K mg base CX0 14 f fd Qx32 (spV K [] 2 YF):=
 XU P w K mg base Nx32 Qx32 13 SS [] F HS fun _ _ _ _ _ _ hr hu hu1=>by
  refine(dG ?_ (dG ?_ (dG ?_ (dG ?_ (dE ?_)))))
  ·exact(cD (ZT (aK (bP cj hr (c8 (vv 0) c6))))
   (dE WS)
   cU)
  ·exact(cD (ZT (aK (bP ck hr (c8 (vv 1) (c8 (dC (aL hu1 (vv 0) dF)) c6)))))
   (dE WS)
   cU)
  ·exact(cC HS.nd (TQ (KM (OI (K:=K) rfl) X1 (by rfl) T.X1 T6 (vv 1))))
  ·exact(cC HS.nd (a5 (dC (bP gb hr (c8 (dC (aL hu1 (vv 0) dF)) (ZY (pv 2) c6))))))
  ·exact(c5 (cN (WQ (pv 2) (dI (vv 3) cZ))))
noncomputable abbrev Nx45:List Str:=["self","row"]
abbrev KR:List Str:=["self","row"]
theorem zEM:cV Nx45 KR (c9 (mem 58 1)):=aU
theorem zG0(F:Y3 K "lay" "Flat.lay" (mem 58 1) f fd) (T:Txt K mg):
  bX P w K mg base CX0 1 f fd KR (spV K [0] 2 bG):=
 XU P w K mg base Nx45 KR 0 SI [0] F zEM fun _ _ _ _ _ _ hr hu hu1=>by
  refine(dG ?_ (dE ?_))
  ·exact(zHW T.c_Flat (pv 0) (cA (dI (vv 1) cZ)))
  ·exact(c5 (ZH U1 QD (X9 T.n_len (CF T.c_Flat (pv 0))) dF))
noncomputable abbrev Nx46:List Str:=["self","mask","c"]
abbrev DC:List Str:=["self","mask","c"]
theorem zEL:cV Nx46 DC (c9 (mem 58 2)):=aU
theorem zFZ(F:Y3 K "both" "Flat.both" (mem 58 2) f fd) (T:Txt K mg) (aj:U8 P w K mg base "Flat" "lay" 1 KR [0] 2 bG f_x45):
  bX P w K mg base CX0 2 f fd DC (spV K [0] 3 Z8):=
 XU P w K mg base Nx46 DC 1 UP [0] F zEL fun _ _ _ _ _ _ hr hu hu1=>by exact(dE (c5 (W8 (f:= "laid") (g:= "numbers") aj hr (pv 0) (c8 (dC (cN (dI cT (dI (vv 1) (dI (vv 2) (dI (bZ (by rfl) T.v_ZERO) cZ)))))) c6))))
noncomputable abbrev Nx48:List Str:=["self","row","mask","c"]
noncomputable abbrev Qx48:List Str:=["self","row","mask"]
theorem BL:cV Nx48 Qx48 (c9 (mem 58 4)):=aU
noncomputable abbrev Nx47:List Str:=["self","rows","mask","row","moved"]
noncomputable abbrev DD:List Str:=["self","rows","mask"]
theorem HV:cV Nx47 DD (c9 (mem 58 3)):=aU
theorem zFX{R:cO}{kk:Nat}(hb:3<=kk)(F:Y3 K "lay_if" "Flat.lay_if" (mem 58 4) f fd) (T:Txt K mg) (aj:U8 P w K mg base "Flat" "lay" 1 KR [0] 2 bG f_x45) (cb:U8 P w K mg base "Flat" "both" 2 DC [0] 3 Z8 f_x46) (bq:U8 P w K mg base "Flat" "lay_rows" kk DD [0] 3 R f_x47):
  bX P w K mg base CX0 (kk+1) f fd Qx48 (spV K [0] 3 (bU 4 [0] (YB R))):=
 XU P w K mg base Nx48 Qx48 (kk+0) (YB R) [0] F BL fun _ _ _ _ _ _ hr hu hu1=>by
  refine(dG ?_ (dG ?_ (dG ?_ (dE ?_))))
  ·exact(cC BL.nd (a5 (dC (aL hu1 (zD9 T.c_Flat (pv 0)) (aL hu1 (vv 1) dF)))))
  ·exact(zDC T.c_Flat (pv 0) (cA (dI cG cZ)))
  ·exact(WG (W8 (f:= "laid") (g:= "numbers") (hk:=by lia) bq hr (pv 0) (c8 (dC (aL hu1 (vv 1) dF)) (c8 (dC (W8 (f:= "laid") (g:= "numbers") (hk:=by lia) cb hr (pv 0) (c8 (vv 2) (c8 (vv 3) c6)))) c6))))
  ·exact(WG (W8 (f:= "laid") (g:= "numbers") (hk:=by lia) bq hr (pv 0) (c8 (dC (aL hu1 (vv 1) dF)) (c8 (dC (W8 (f:= "laid") (g:= "numbers") (hk:=by lia) aj hr (pv 0) (c8 (dC (cN (dI cT (dI (vv 3) (dI (bZ (by rfl) T.v_ZERO) (dI (vv 2) cZ)))))) c6))) c6))))
noncomputable abbrev Nx49:List Str:=["self","row","mask","deed"]
abbrev Qx49:List Str:=["self","row","mask"]
theorem BM:cV Nx49 Qx49 (c9 (mem 58 5)):=aU
theorem zFW(F:Y3 K "masked" "Flat.masked" (mem 58 5) f fd) (T:Txt K mg) (aj:U8 P w K mg base "Flat" "lay" 1 KR [0] 2 bG f_x45) (cb:U8 P w K mg base "Flat" "both" 2 DC [0] 3 Z8 f_x46):
  bX P w K mg base CX0 3 f fd Qx49 (spV K [0] 3 ZU):=
 XU P w K mg base Nx49 Qx49 2 WY [0] F BM fun _ _ _ _ _ _ hr hu hu1=>by
  refine(dG ?_ (dG ?_ (dG ?_ (dG ?_ (dG ?_ (dG ?_ (dE ?_)))))))
  ·exact(cC BM.nd (a5 (dC (aL hu1 (vv 1) dF))))
  ·exact(cD (ZG hu (vv 3) cT)
   (dE (c5 (cN (dI cT (dI (aL hu1 (vv 1) dF) (dI (vv 2) (dI (vv 2) cZ)))))))
   cU)
  ·exact(cD (ZG hu (vv 3) cT)
   (dE (c5 (cN (dI cT (dI (aL hu1 (vv 1) dF) (dI (W8 (f:= "laid") (g:= "numbers") cb hr (pv 0) (c8 (vv 2) (c8 (dC (aL hu1 (vv 1) dF)) c6))) (dI (aL hu1 (vv 1) dF) cZ)))))))
   cU)
  ·exact(cD (ZG hu (vv 3) cT)
   (dE (c5 (cN (dI cT (dI (aL hu1 (vv 1) dF) (dI (aL hu1 (vv 1) dF) (dI (vv 2) cZ)))))))
   cU)
  ·exact(cD (ZG hu (vv 3) cT)
   (dE (c5 (cN (dI cT (dI (aL hu1 (vv 1) dF) (dI (aL hu1 (vv 1) dF) (dI (W8 (f:= "laid") (g:= "numbers") cb hr (pv 0) (c8 (vv 2) (c8 (dC (aL hu1 (vv 1) dF)) c6))) cZ)))))))
   cU)
  ·exact(cD (ZG hu (vv 3) cT)
   (dE (c5 (cN (dI cT (dI (aL hu1 (vv 1) dF) (dI (W8 (f:= "laid") (g:= "numbers") aj hr (pv 0) (c8 (dC (cN (dI cT (dI (vv 2) (dI (aL hu1 (vv 1) dF) (dI (bZ (by rfl) T.v_ONE) cZ)))))) c6)) cZ))))))
   cU)
  ·exact(c5 (vv 1))
theorem zFY{R:cO}{kk:Nat}(hb:3<=kk)(F:Y3 K "lay_rows" "Flat.lay_rows" (mem 58 3) f fd) (T:Txt K mg) (bm:cK P w K mg base "names_of" 2 GI [] Z1 f_x13) (gu:cK P w K mg base "with_names" 1 Qx14 [] YR f_x14) (aj:U8 P w K mg base "Flat" "lay" 1 KR [0] 2 bG f_x45) (fo:U8 P w K mg base "Flat" "lay_if" (kk+1) Qx48 [0] 3 (Y8 R) f_x48) (fm:U8 P w K mg base "Flat" "masked" 3 Qx49 [0] 3 ZU f_x49):
  bX P w K mg base CX0 (kk+2) f fd DD (spV K [0] 3 (bU 5 [0] (aT R))):=
 XU P w K mg base Nx47 DD (kk+1) (aT R) [0] F HV fun _ _ _ _ _ _ hr hu hu1=>by
  exact(dE (XN Cv rfl (YV rfl (vv 1)) (cP HV.nd)
   (dE (cD (ZG hu (aL hu1 (vv 3) dF) cT)
   (dE (WG (W8 (f:= "laid") (g:= "numbers") (hk:=by lia) fo hr (pv 0) (c8 (vv 3) (c8 (dC (YO (b5 U0 QC (vv 2) cG (bS _)) (bZ (by rfl) T.v_ONE) (vv 2))) c6)))))
   (dG (cC HV.nd (a5 (dC (bP (hk:=by lia) gu hr (c8 (vv 3) (c8 (bJ (ZP ["self","name"] [0] 1 (YV rfl (dC (bP (hk:=by lia) bm hr (c8 (vv 3) c6)))) (fun hn _ _ _ _=>⟨(cP hn),XM,(dC (aL hu1 (zD9 T.c_Flat (pv 0)) (vv 1)))⟩))) c6))))))
   (dE (zDC T.c_Flat (pv 0) (cA (dI (W8 (f:= "laid") (g:= "numbers") (hk:=by lia) aj hr (pv 0) (c8 (dC (YO (b5 U0 QC (vv 2) cG (bS _)) (vv 4) (W8 (f:= "laid") (g:= "numbers") (hk:=by lia) fm hr (pv 0) (c8 (vv 4) (c8 (vv 2) c6))))) c6)) cZ)))))))))
noncomputable abbrev Nx33:List Str:=["tree","sure","rows","flat"]
abbrev Qx33:List Str:=["tree"]
theorem L5:cV Nx33 Qx33 (c9 (top 59)):=aU
theorem zGC(F:Y3 K "flattened" "flattened" (top 59) f fd) (T:Txt K mg) (cj:cK P w K mg base "is_tree" 13 C6 [] Y0 f_x29) (aj:U8 P w K mg base "Flat" "lay" 1 KR [0] 2 bG f_x45) (bq:U8 P w K mg base "Flat" "lay_rows" 11 DD [0] 3 (bV 4) f_x47) (di:NewF P w K mg base "Flat" "laid" "numbers"):
  bX P w K mg base CX0 14 f fd Qx33 (spV K [] 1 YZ):=
 XU P w K mg base Nx33 Qx33 13 US [] F L5 fun _ _ _ _ _ _ hr hu hu1=>by
  refine(dG ?_ (dG ?_ (dG ?_ (dG ?_ (dG ?_ (dG ?_ (dE ?_)))))))
  ·exact(cD (ZT (aK (bP cj hr (c8 (vv 0) c6))))
   (dE WS)
   cU)
  ·exact(W3 (vv 0) (ZF (K:=K) rfl rfl (cI (cP L5.nd) (cI (cP L5.nd) Z5))))
  ·exact(cC L5.nd (TQ (zE6 di T.c_Flat hr)))
  ·exact (cD (aK (NF (kAny (K := K) rfl rfl) zIN (by rfl) T.n_any zHK (bJ (ZP ["row"] [] 1 (YV rfl (vv 2)) (fun hn _ _ _ _ => ⟨(cP hn),XM,(dC (veq hu (aL hu1 (vv 0) dF) cT))⟩)))))
   (dG (WG (W8 (f:= "laid") (g:= "numbers") aj hr (pv 3) (c8 (dC (cN (dI cT (dI dF cZ)))) c6)))
   (dE (WG (W8 (f:= "laid") (g:= "numbers") aj hr (pv 3) (c8 (dC (cN (dI cT (dI dF cZ)))) c6)))))
   cU)
  ·exact(WG (W8 (f:= "laid") (g:= "numbers") bq hr (pv 3) (c8 (vv 2) (c8 cG c6))))
  ·exact (cD (b5 FQ s_gt (X9 T.n_len (CF T.c_Flat (pv 3))) (bZ (by rfl) T.v_MOST_ROWS) (bS _))
   (dE WS)
   cU)
  ·exact(c5 (cN (dI (cN (dI (vv 1) (dI (F5 (PJ (K:=K) rfl) PB (by rfl) T.n_tuple ZA (CF T.c_Flat (pv 3))) cZ))) (vaP2 T.c_Flat (pv 3) cZ))))
noncomputable abbrev Nx34:List Str:=["_law_script","_law_k","_law_rest","_law_again"]
noncomputable abbrev Qx34:List Str:=["_law_script","_law_k"]
theorem L6:cV Nx34 Qx34 (c9 (top 61)):=aU
theorem zGB(F:Y3 K "_law_cell_at" "_law_cell_at" (top 61) f fd) (T:Txt K mg):
  bX P w K mg base CX0 1 f fd Qx34 (spV K [] 2 aN):=
 XU P w K mg base Nx34 Qx34 0 WZ [] F L6 fun _ _ _ _ _ _ hr hu hu1=>by
  refine(dG ?_ (dG ?_ (dG ?_ (dG ?_ (dE ?_)))))
  ·exact(cD (b5 zDQ s_lt (vv 1) (X9 T.n_len (vv 0)) (bS _))
   (dE (c5 (aL hu1 (vv 0) (vv 1))))
   cU)
  ·exact(cD (ZG hu (vv 0) (bJ (aC (cA cZ))))
   (dE (c5 dF))
   cU)
  ·exact(cC L6.nd (a5 (dC (aL hu1 (vv 0) (ZH WA RX (vv 1) (X9 T.n_len (vv 0)))))))
  ·exact (XN Cv rfl (WR (by rfl) T.n_range (KJ (MO rfl) zDH (by rfl) T.n_min zB2 (ZH PM LX (vv 1) (X9 T.n_len (vv 0))) dF)) (cP L6.nd)
   (dE (cC L6.nd (a5 (dC (ZH PM LX (vv 2) dF))))))
  ·exact(c5 (b8 (aS (K:=K) rfl) bO (b8 (aS (K:=K) rfl) bO (b8 (SU (K:=K) rfl) VW (aL hu1 (vv 0) (ZH WA RX (vv 1) (X9 T.n_len (vv 0)))) dF) (vv 1)) (b8 (SU (K:=K) rfl) VW (vv 2) dF)))
noncomputable abbrev Nx35:List Str:=["_law_script","_law_k","_law_bound","_law_drawn"]
noncomputable abbrev Qx35:List Str:=["_law_script","_law_k","_law_bound"]
theorem BK:cV Nx35 Qx35 (c9 (top 62)):=aU
theorem zGA(F:Y3 K "_law_mixed" "_law_mixed" (top 62) f fd) (T:Txt K mg) (g7:cK P w K mg base "_law_cell_at" 1 Qx34 [] aN f_x34):
  bX P w K mg base CX0 2 f fd Qx35 (spV K [] 3 Y1):=
 XU P w K mg base Nx35 Qx35 1 UT [] F BK fun _ _ _ _ _ _ hr hu hu1=>by
  refine(dG ?_ (dE ?_))
  ·exact(cC BK.nd (a5 (dC (ZH WA RX (b8 (aS (K:=K) rfl) bO (b8 (aS (K:=K) rfl) bO (b8 (SU (K:=K) rfl) VW (bP g7 hr (c8 (vv 0) (c8 (vv 1) c6))) dF) (b8 (SU (K:=K) rfl) VW dF (vv 1))) dF) dF))))
  ·exact(c5 (ZH WA RX (ZH WA RX (ZH WA RX (ZH zFO zIJ (vv 3) dF) dF) dF) (vv 2)))
noncomputable abbrev Nx36:List Str:=["_law_script","_law_town","_law_bound"]
abbrev C8:List Str:=["_law_script","_law_town","_law_bound"]
theorem zEQ:cV Nx36 C8 (c9 (top 63)):=aU
theorem zG9(F:Y3 K "_law_draw" "_law_draw" (top 63) f fd) (T:Txt K mg) (g6:cK P w K mg base "_law_mixed" 2 Qx35 [] Y1 f_x35):
  bX P w K mg base CX0 3 f fd C8 (spV K [1] 3 a6):=
 XU P w K mg base Nx36 C8 2 SN [1] F zEQ fun _ _ _ _ _ _ hr hu hu1=>by
  refine(dG ?_ (dE ?_))
  ·exact(U6 (K:=K) rfl Cj Ck YI Q0 (pv 1) (cA (dI dF cZ)))
  ·exact(c5 (bP g6 hr (c8 (vv 0) (c8 (dC (X9 T.n_len (vo 1))) (c8 (vv 2) c6)))))
noncomputable abbrev Nx37:List Str:=["_law_script","_law_town","_law_some"]
abbrev C9:List Str:=["_law_script","_law_town","_law_some"]
theorem zEP:cV Nx37 C9 (c9 (top 64)):=aU
theorem zG8(F:Y3 K "_law_pick" "_law_pick" (top 64) f fd) (T:Txt K mg) (ay:cK P w K mg base "_law_draw" 3 C8 [1] a6 f_x36):
  bX P w K mg base CX0 4 f fd C9 (spV K [1] 3 bH):=
 XU P w K mg base Nx37 C9 3 SO [1] F zEP fun _ _ _ _ _ _ hr hu hu1=>by exact(dE (c5 (aL hu1 (vv 2) (bP ay hr (c8 (vv 0) (ZY (pv 1) (c8 (dC (X9 T.n_len (vv 2))) c6)))))))
noncomputable abbrev Nx38:List Str:=["_law_deed_here","_law_words","_law_one","_law_two","_law_whole"]
noncomputable abbrev Qx38:List Str:=["_law_deed_here","_law_words"]
theorem L7:cV Nx38 Qx38 (c9 (top 65)):=aU
theorem zG7(F:Y3 K "_law_deed" "_law_deed" (top 65) f fd) (T:Txt K mg):
  bX P w K mg base CX0 1 f fd Qx38 (spV K [] 2 ZZ):=
 XU P w K mg base Nx38 Qx38 0 V0 [] F L7 fun _ _ _ _ _ _ hr hu hu1=>by
  refine(dG ?_ (dG ?_ (dG ?_ (dG ?_ (dG ?_ (dG ?_ (dE ?_)))))))
  ·exact(cD (ZG hu (vv 0) cT)
   (dE (c5 (YO (ZG hu (aL hu1 (vv 1) dF) dF) (aL hu1 (vv 1) dF) (aL hu1 (vv 1) dF))))
   cU)
  ·exact(W3 (vv 1) (ZF (K:=K) rfl rfl (cI (cP L7.nd) (cI (cP L7.nd) Z5))))
  ·exact (cD (b5 (G8 (K := K) rfl hu) (TL (neg := false)) (vv 0) (cN (dI cT (dI cT cZ))) (by with_unfolding_all rfl))
   (dE (c5 (aL hu1 (bJ (zHT (zH8 (K:=K) rfl) zCK (by rfl) T.n_sorted DH (vv 1))) (YO (ZG hu (vv 0) cT) dF dF))))
   cU)
  ·exact(cD (ZG hu (vv 0) cT)
   (dE (c5 (YO (b5 FQ s_gt (vv 3) (vv 2) (bS _)) dF dF)))
   cU)
  ·exact(cD (ZG hu (vv 0) cT)
   (dE (c5 (YO (ZG hu (vv 3) dF) cG (CA (by rfl) T.n_len zB4 (by rfl) T.n_range zB1 (vv 3) (b8 (aS (K:=K) rfl) bO (vv 2) dF) (vv 3)))))
   cU)
  ·exact(cC L7.nd (a5 (dC (aL hu1 (bJ (zBC (O7 cT (dC (b8 (aS (K:=K) rfl) bO (vv 2) (vv 3))) (O7 cT (dC (ZH U1 QD (b8 (aS (K:=K) rfl) bO (vv 2) dF) (vv 3))) (O7 cT (dC (b8 (SU (K:=K) rfl) VW (vv 2) (vv 3))) zBA))) rfl rfl (by simp) (by decide))) (vv 0)))))
  ·exact(c5 (ZH U1 QD (vv 4) (b8 (SU (K:=K) rfl) VW (ZH PM LX (vv 4) dF) dF)))
noncomputable abbrev Nx39:List Str:=["_law_row","_law_lane","_law_words","_law_cells","_law_made","_law_at"]
noncomputable abbrev Qx39:List Str:=["_law_row","_law_lane","_law_words","_law_cells"]
theorem HU:cV Nx39 Qx39 (c9 (top 66)):=aU
theorem zG6(F:Y3 K "_law_step" "_law_step" (top 66) f fd) (T:Txt K mg) (g5:cK P w K mg base "_law_deed" 1 Qx38 [] ZZ f_x38):
  bX P w K mg base CX0 2 f fd Qx39 (spV K [3] 4 YE):=
 XU P w K mg base Nx39 Qx39 1 SQ [3] F HU fun _ _ _ _ _ _ hr hu hu1=>by
  refine(dG ?_ (dG ?_ (dG ?_ (dG ?_ (dG ?_ (dG ?_ (dG ?_ (dE ?_))))))))
  ·exact (cD (b5 (LM (K := K) rfl hu) (TL (neg := true)) (aL hu1 (vv 0) dF) (cN (dI cT (dI cT (dI cT (dI cT cZ))))) (by with_unfolding_all rfl))
   (dG (cC HU.nd (a5 (dC (bP g5 hr (c8 (dC (aL hu1 (vv 0) dF)) (c8 (vv 2) c6))))))
   (dE (c5 (cN (dI (vv 4) (dI (YO (b5 U0 QC (vv 4) cG (bS _)) cT cG) cZ))))))
   cU)
  ·exact(cC HU.nd (a5 (dC (b8 (aS (K:=K) rfl) bO (aL hu1 (vv 0) dF) (vv 1)))))
  ·exact(cD (R9 (IE (ZG hu (aL hu1 (vv 0) dF) cT) (MB (ZG hu (aL hu1 (vv 2) dF) dF))))
   (dE (c5 (cN (dI (aL hu1 (vv 2) dF) (dI cG cZ)))))
   cU)
  ·exact(cD (R9 (IE (ZG hu (aL hu1 (vv 0) dF) cT) (MB (ZG hu (aL hu1 (vv 2) dF) dF))))
   (dE (c5 (cN (dI cG (dI cG cZ)))))
   cU)
  ·exact(cD (b5 zDR s_ge (vv 5) (X9 T.n_len (vo 3)) (bS _))
   (dE (c5 (cN (dI cG (dI cT cZ)))))
   cU)
  ·exact (cD (b5 (G8 (K := K) rfl hu) (TL (neg := false)) (aL hu1 (vv 0) dF) (cN (dI cT (dI cT cZ))) (by with_unfolding_all rfl))
   (dE (c5 (cN (dI (aL hu1 (vo 3) (vv 5)) (dI cG cZ)))))
   cU)
  ·exact(CG rfl (pv 3) (vv 5) (dC (aL hu1 (vv 2) dF)))
  ·exact(c5 (cN (dI cG (dI cG cZ))))
abbrev Nx40:List Str:=["_law_row"]
abbrev Qx40:List Str:=["_law_row"]
theorem zEO:cV Nx40 Qx40 (c9 (top 67)):=aU
theorem zG5(F:Y3 K "_law_names" "_law_names" (top 67) f fd) (T:Txt K mg):
  bX P w K mg base CX0 1 f fd Qx40 (spV K [] 1 X4):=
 XU P w K mg base Nx40 Qx40 0 P4 [] F zEO fun _ _ _ _ _ _ hr hu hu1=>by
  refine(dG ?_ (dE ?_))
  ·exact(cD (ZG hu (aL hu1 (vv 0) dF) cT)
   (dE (c5 (bJ (aC (cA cZ)))))
   cU)
  ·exact(c5 (YO (b5 (G8 (K:=K) rfl hu) (TL (neg:=false)) (aL hu1 (vv 0) dF) (cN (dI cT (dI cT (dI cT (dI cT cZ))))) (by with_unfolding_all rfl)) (bJ (KM (OI (K:=K) rfl) X1 (by rfl) T.X1 T6 (zDB (F6 rfl (vv 0) (F9 dF) F8)))) (bJ (KM (OI (K:=K) rfl) X1 (by rfl) T.X1 T6 (zDB (F6 rfl (vv 0) (F9 dF) F8))))))
noncomputable abbrev Nx41:List Str:=["_law_rows"]
abbrev DA:List Str:=["_law_rows"]
theorem zEN:cV Nx41 DA (c9 (top 68)):=aU
theorem zG4{R:cO}{kk:Nat}(hb:0<=kk)(F:Y3 K "_law_many" "_law_many" (top 68) f fd) (T:Txt K mg) (bj:cK P w K mg base "_law_many" kk DA [] R f_x41):
  bX P w K mg base CX0 (kk+1) f fd DA (spV K [] 1 (bU 1 [] (Y4 R))):=
 XU P w K mg base Nx41 DA (kk+0) (Y4 R) [] F zEN fun _ _ _ _ _ _ hr hu hu1=>by exact(dE (c5 (NF (zJT (K:=K) rfl rfl) zII (by rfl) T.n_sum zHI (bJ (ZP ["_law_row"] [] 1 (YV rfl (vv 0)) (fun hn _ _ _ _=>⟨(cP hn),XM,(dC (b8 (aS (K:=K) rfl) bO dF (YO (ZG hu (aL hu1 (vv 0) dF) cT) (b8 (aS (K:=K) rfl) bO (bP (hk:=by lia) bj hr (c8 (dC (aL hu1 (vv 0) dF)) c6)) (bP (hk:=by lia) bj hr (c8 (dC (aL hu1 (vv 0) dF)) c6))) dF)))⟩))))))
noncomputable abbrev Nx42:List Str:=["_law_rows","_law_number","_law_words","_law_cells","_law_row","_law_fault","_law_second","_law_made","_law_why"]
noncomputable abbrev DB:List Str:=["_law_rows","_law_number","_law_words","_law_cells"]
theorem W0:cV Nx42 DB (c9 (top 69)):=aU
theorem zG3{R:cO}{kk:Nat}(hb:4<=kk)(F:Y3 K "_law_tree_play" "_law_tree_play" (top 69) f fd) (T:Txt K mg) (fz:cK P w K mg base "_law_step" 2 Qx39 [3] YE f_x39) (fu:cK P w K mg base "_law_names" 1 Qx40 [] X4 f_x40) (bj:cK P w K mg base "_law_many" 4 DA [] (Z7 4) f_x41) (br:cK P w K mg base "_law_tree_play" kk DB [2,3] R f_x42):
  bX P w K mg base CX0 (kk+1) f fd DB (spV K [2,3] 4 (bU 9 [2,3] (bY R))):=
 XU P w K mg base Nx42 DB (kk+0) (bY R) [2,3] F W0 fun _ _ _ _ _ _ hr hu hu1=>by
  refine(dG ?_ (dE ?_))
  ·exact(XN Cv rfl (YV rfl (vv 0)) (cP W0.nd)
   (dG (cC W0.nd (a5 cG))
   (dG (cD (ZG hu (aL hu1 (vv 4) dF) cT)
   (dG (cC W0.nd (a5 (dC (b8 (aS (K:=K) rfl) bO (b8 (aS (K:=K) rfl) bO (vv 1) dF) (bP (hk:=by lia) bj hr (c8 (dC (aL hu1 (vv 4) dF)) c6))))))
   (dE (cD (b5 (PX (K:=K) rfl hu) PY (aL hu1 (vo 2) (aL hu1 (vv 4) dF)) dF (bS _))
   (dE (cC W0.nd (a5 (dC (bP (hk:=by lia) br hr (c8 (dC (aL hu1 (vv 4) dF)) (c8 (dC (b8 (aS (K:=K) rfl) bO (vv 1) dF)) (ZY (pv 2) (ZY (pv 3) c6)))))))))
   (dE (cC W0.nd (a5 (dC (bP (hk:=by lia) br hr (c8 (dC (aL hu1 (vv 4) dF)) (c8 (vv 6) (ZY (pv 2) (ZY (pv 3) c6))))))))))))
   (dE (cD (ZG hu (aL hu1 (vv 4) dF) cT)
   (dE (GB hu1 (pv 2) (vv 1) (dC (aL hu1 (vv 4) dF)) rfl))
   (dG (W3 (dC (bP (hk:=by lia) fz hr (c8 (vv 4) (c8 dF (c8 (bJ (ZP ["_law_words","_law_name"] [2] 1 (YV rfl (dC (bP (hk:=by lia) fu hr (c8 (vv 4) c6)))) (fun hn _ _ _ _=>⟨(cP hn),XM,(dC (aL hu1 (vo 0) (vv 1)))⟩))) (ZY (pv 3) c6)))))) (ZF (K:=K) rfl rfl (cI (cP W0.nd) (cI (cP W0.nd) Z5))))
   (dG (GB hu1 (pv 2) (vv 1) (vv 7) rfl)
   (dE (cC W0.nd (a5 (dC (YO (b5 UF Q7 (vv 8) cG (bS _)) (cN (dI (vv 1) (dI (vv 8) cZ))) cG))))))))))
   (dG (cD (b5 UF Q7 (vv 5) cG (bS _))
   (dE (c5 (vv 5)))
   cU)
   (dE (cC W0.nd (a5 (dC (b8 (aS (K:=K) rfl) bO (vv 1) (bP (hk:=by lia) bj hr (c8 (dC (cN (dI (vv 4) cZ))) c6)))))))))))
  ·exact(c5 cG)
noncomputable abbrev Nx43:List Str:=["_law_script","_law_town","_law_names_here","_law_number","_law_many_here","_law_rows","_law_k","_law_a","_law_b","_law_c","_law_place","_law_some"]
noncomputable abbrev Qx43:List Str:=["_law_script","_law_town","_law_names_here","_law_number","_law_many_here"]
theorem WE:cV Nx43 Qx43 (c9 (top 70)):=aU
theorem zG2(F:Y3 K "_law_side" "_law_side" (top 70) f fd) (T:Txt K mg) (ax:cK P w K mg base "_law_pick" 4 C9 [1] bH f_x37):
  bX P w K mg base CX0 5 f fd Qx43 (spV K [1] 5 aF):=
 XU P w K mg base Nx43 Qx43 4 XG [1] F WE fun _ _ _ _ _ _ hr hu hu1=>by
  refine(dG ?_ (dG ?_ (dE ?_)))
  ·exact(cC WE.nd (TQ (aC (cA cZ))))
  ·exact (XN Cv rfl (WR (by rfl) T.n_range (vv 4)) (cP WE.nd)
   (dG (W3 (bJ (ZP ["_law_script","_law_town","_law_names_here","_law_k"] [0,1,2] 1 (WR (by rfl) T.n_range dF) (fun hn _ _ _ _=>⟨(cP hn),XM,(dC (bP ax hr (c8 (vv 0) (ZY (pv 1) (c8 (vv 2) c6)))))⟩))) (ZF (K:=K) rfl rfl (cI (cP WE.nd) (cI (cP WE.nd) (cI (cP WE.nd) Z5)))))
   (dG (cC WE.nd (a5 (dC (bP ax hr (c8 (vv 0) (ZY (pv 1) (c8 (bJ (aC (cA (dI dF (dI dF (dI dF (dI dF (dI dF (dI dF cZ))))))))) c6)))))))
   (dG (cC WE.nd (a5 (bJ (aC (cA (dI (cN (dI cT (dI (vv 10) (dI (vv 7) (dI (vv 8) cZ))))) (dI (cN (dI cT (dI (vv 10) (dI (vv 7) (dI (vv 8) cZ))))) (dI (cN (dI cT (dI (vv 10) cZ))) (dI (cN (dI cT (dI (vv 10) (dI (vv 7) cZ)))) (dI (cN (dI cT (dI (vv 7) (dI (vv 8) cZ)))) cZ))))))))))
   (dG (U6 (K:=K) rfl Cj Ck YI Q0 (pv 5) (cA (dI (bP ax hr (c8 (vv 0) (ZY (pv 1) (c8 (dC (b8 (aS (K:=K) rfl) bO (vv 11) (bJ (aC (cA (dI (cN (dI cT (dI (vv 7) (dI (vv 8) (dI (vv 9) cZ))))) (dI (cN (dI cT (dI (vv 10) (dI (vv 8) (dI (vv 7) cZ))))) cZ))))))) c6)))) cZ)))
   (dE (cD (b5 (LM (K:=K) rfl hu) (TL (neg:=true)) (aL hu1 (aL hu1 (vo 5) (zE9 dF)) dF) (cN (dI cT (dI cT cZ))) (by with_unfolding_all rfl))
   (dE (cC WE.nd (a5 (dC (b8 (aS (K:=K) rfl) bO (vv 2) (bJ (aC (cA (dI (b8 (aS (K:=K) rfl) bO (vv 3) (vv 6)) cZ)))))))))
   cU)))))))
  ·exact(c5 (F5 (PJ (K:=K) rfl) PB (by rfl) T.n_tuple ZA (vo 5)))
noncomputable abbrev Nx44:List Str:=["_law_script","_law_town","_law_head","_law_first","_law_second","_law_tree","_law_block","_law_where","_law_again","_law_many_here","_law_cells","_law_later","_law_fault"]
abbrev Qx44:List Str:=["_law_script"]
theorem YL:cV Nx44 Qx44 (c9 (top 71)):=aU
theorem zG1(F:Y3 K "law" "law" (top 71) f fd) (T:Txt K mg) (gf:cK P w K mg base "run" 7 Qx25 [] ME f_x25) (g9:cK P w K mg base "run_tree" 14 Qx32 [] YF f_x32) (g8:cK P w K mg base "flattened" 14 Qx33 [] YZ f_x33) (ay:cK P w K mg base "_law_draw" 3 C8 [1] a6 f_x36) (ax:cK P w K mg base "_law_pick" 4 C9 [1] bH f_x37) (br:cK P w K mg base "_law_tree_play" 8 DB [2,3] (b9 4) f_x42) (du:cK P w K mg base "_law_side" 5 Qx43 [1] aF f_x43):
  bX P w K mg base CX0 15 f fd Qx44 (spV K [] 1 MD):=
 XU P w K mg base Nx44 Qx44 14 zAQ [] F YL fun _ _ _ _ _ _ hr hu hu1=>by
  refine dG ?_ ?_
  ·exact(cC YL.nd (TQ (aC (cA cZ))))
  refine dG ?_ ?_
  ·exact(@cC _ _ _ _ _ _ _ _ _ YL.nd (@a5 _ _ _ _ _ _ (@bJ _ _ _ _ _ _ (@aC _ _ _ _ _ _ _ (@cA _ _ _ _ _ _ _ (@dI _ _ _ _ _ _ _ _ _ _ _ _ (@cN _ _ _ _ _ _ _ _ _ (@dI _ _ _ _ _ _ _ _ _ _ _ _ cT (@dI _ _ _ _ _ _ _ _ _ _ _ _ dF cZ rfl rfl rfl) rfl rfl rfl)) (@dI _ _ _ _ _ _ _ _ _ _ _ _ (@cN _ _ _ _ _ _ _ _ _ (@dI _ _ _ _ _ _ _ _ _ _ _ _ cT (@dI _ _ _ _ _ _ _ _ _ _ _ _ dF cZ rfl rfl rfl) rfl rfl rfl)) (@dI _ _ _ _ _ _ _ _ _ _ _ _ (@cN _ _ _ _ _ _ _ _ _ (@dI _ _ _ _ _ _ _ _ _ _ _ _ cT (@dI _ _ _ _ _ _ _ _ _ _ _ _ dF cZ rfl rfl rfl) rfl rfl rfl)) (@dI _ _ _ _ _ _ _ _ _ _ _ _ (@cN _ _ _ _ _ _ _ _ _ (@dI _ _ _ _ _ _ _ _ _ _ _ _ cT (@dI _ _ _ _ _ _ _ _ _ _ _ _ (@bP _ _ _ _ _ _ _ _ _ _ _ _ _ _ _ _ _ ay hr (@c8 _ _ _ _ _ _ _ _ _ (@vv _ _ _ _ _ 0 rfl (by first|exact Fo rfl|exact Fb (Fo rfl)|exact Fb (Fb rfl)) (by decide) (by decide)) (@ZY _ _ _ _ _ _ _ _ (pv 1) (@c8 _ _ _ _ _ _ _ _ _ dF c6 rfl) rfl) rfl) rfl (by decide) rfl (by decide) rfl rfl) cZ rfl rfl rfl) rfl rfl rfl)) cZ rfl rfl rfl) rfl rfl rfl) rfl rfl rfl) rfl rfl rfl) rfl)))) rfl (by first|exact .inl rfl|exact .inr rfl) (by decide) rfl (by first|exact .inl rfl|exact .inr rfl|assumption))
  refine dG ?_ ?_
  ·exact(cC YL.nd (a5 (dC (bP du hr (c8 (vv 0) (ZY (pv 1) (c8 (bJ (aC (cA (dI dF (dI dF (dI dF (dI dF cZ))))))) (c8 dF (c8 (dC (b8 (aS (K:=K) rfl) bO dF (bP ay hr (c8 (vv 0) (ZY (pv 1) (c8 dF c6)))))) c6)))))))))
  refine dG ?_ ?_
  ·exact(cC YL.nd (a5 (dC (bP du hr (c8 (vv 0) (ZY (pv 1) (c8 (bJ (aC (cA (dI dF (dI dF (dI dF (dI dF cZ))))))) (c8 (dC (b8 (aS (K:=K) rfl) bO dF (X9 T.n_len (vv 3)))) (c8 (dC (b8 (aS (K:=K) rfl) bO (ZH U1 QD dF (X9 T.n_len (vv 2))) (bP ay hr (c8 (vv 0) (ZY (pv 1) (c8 dF c6)))))) c6)))))))))
  refine dG ?_ ?_
  ·exact(@cC _ _ _ _ _ _ _ _ _ YL.nd (@a5 _ _ _ _ _ _ (@dC _ _ _ _ _ _ _ _ (@cN _ _ _ _ _ _ _ _ _ (@dI _ _ _ _ _ _ _ _ _ _ _ _ (@bP _ _ _ _ _ _ _ _ _ _ _ _ _ _ _ _ _ ax hr (@c8 _ _ _ _ _ _ _ _ _ (@vv _ _ _ _ _ 0 rfl (by first|exact Fo rfl|exact Fb (Fo rfl)|exact Fb (Fb rfl)) (by decide) (by decide)) (@ZY _ _ _ _ _ _ _ _ (pv 1) (@c8 _ _ _ _ _ _ _ _ _ (@bJ _ _ _ _ _ _ (@aC _ _ _ _ _ _ _ (@cA _ _ _ _ _ _ _ (@dI _ _ _ _ _ _ _ _ _ _ _ _ dF (@dI _ _ _ _ _ _ _ _ _ _ _ _ dF (@dI _ _ _ _ _ _ _ _ _ _ _ _ dF cZ rfl rfl rfl) rfl rfl rfl) rfl rfl rfl) rfl))) c6 rfl) rfl) rfl) rfl (by decide) rfl (by decide) rfl rfl) (@dI _ _ _ _ _ _ _ _ _ _ _ _ (@b8 _ _ _ _ _ _ _ _ _ _ _ _ _ _ _ _ _ (aS (K:=K) rfl) bO (@F5 _ _ _ _ _ _ _ _ _ _ _ _ _ _ (PJ (K:=K) rfl) PB (by rfl) T.n_tuple ZA (@vv _ _ _ _ _ 2 rfl (by first|exact Fo rfl|exact Fb (Fo rfl)|exact Fb (Fb rfl)) (by decide) (by decide)) (by decide) (by decide) rfl) (@cN _ _ _ _ _ _ _ _ _ (@dI _ _ _ _ _ _ _ _ _ _ _ _ (@cN _ _ _ _ _ _ _ _ _ (@dI _ _ _ _ _ _ _ _ _ _ _ _ cT (@dI _ _ _ _ _ _ _ _ _ _ _ _ (@bP _ _ _ _ _ _ _ _ _ _ _ _ _ _ _ _ _ ay hr (@c8 _ _ _ _ _ _ _ _ _ (@vv _ _ _ _ _ 0 rfl (by first|exact Fo rfl|exact Fb (Fo rfl)|exact Fb (Fb rfl)) (by decide) (by decide)) (@ZY _ _ _ _ _ _ _ _ (pv 1) (@c8 _ _ _ _ _ _ _ _ _ dF c6 rfl) rfl) rfl) rfl (by decide) rfl (by decide) rfl rfl) (@dI _ _ _ _ _ _ _ _ _ _ _ _ (@vv _ _ _ _ _ 3 rfl (by first|exact Fo rfl|exact Fb (Fo rfl)|exact Fb (Fb rfl)) (by decide) (by decide)) (@dI _ _ _ _ _ _ _ _ _ _ _ _ (@vv _ _ _ _ _ 4 rfl (by first|exact Fo rfl|exact Fb (Fo rfl)|exact Fb (Fb rfl)) (by decide) (by decide)) cZ rfl rfl rfl) rfl rfl rfl) rfl rfl rfl) rfl rfl rfl)) cZ rfl rfl rfl)) rfl) cZ rfl rfl rfl) rfl rfl rfl)) rfl)) rfl (by first|exact .inl rfl|exact .inr rfl) (by decide) rfl (by first|exact .inl rfl|exact .inr rfl|assumption))
  refine dG ?_ ?_
  ·exact(W3 (dC (bP g8 hr (c8 (vv 5) c6))) (ZF (K:=K) rfl rfl (cI (cP YL.nd) (cI (cP YL.nd) Z5))))
  refine dG ?_ ?_
  ·exact (XN Cv rfl (WR (by rfl) T.n_range dF) (cP YL.nd)
   (dG (cC YL.nd (a5 (dC (bP ax hr (c8 (vv 0) (ZY (pv 1) (c8 (bJ (aC (cA (dI dF (dI dF (dI dF (dI dF (dI dF cZ)))))))) c6)))))))
   (dG (CH false YL.nd ["_law_script","_law_town","_law_k"] [0,1] 1 (WR (by rfl) T.n_range (KJ (MN rfl) zDI (by rfl) T.n_max zB3 (vv 9) (aL hu1 (vv 5) dF))) (fun hn _ _ _ _=>⟨(cP hn),XM,(dC (bP ay hr (c8 (vv 0) (ZY (pv 1) (c8 (dC (bP ax hr (c8 (vv 0) (ZY (pv 1) (c8 (bJ (aC (cA (dI dF (dI dF (dI dF cZ)))))) c6))))) c6)))))⟩))
   (dG (cC YL.nd (TQ (KM (OI (K:=K) rfl) X1 (by rfl) T.X1 T6 (vv 10))))
   (dG (cC YL.nd (a5 (dC (EY (i:=2) br hr (zDA (dC (aL hu1 (vv 5) dF)) (zDA dF (CC (pv 11))))))))
   (dG (cD (b5 (PX (K:=K) rfl hu) PY (bP g9 hr (c8 (vv 5) (c8 (vv 10) c6))) (cN (WQ (pv 11) (dI (vv 12) cZ))) (bS _))
   (dE (c5 YU))
   cU)
   (dE (cD (b5 (PX (K:=K) rfl hu) PY (bP gf hr (c8 (vv 6) (c8 (vv 10) c6))) (cN (WQ (pv 11) (dI (YO (b5 U0 QC (vv 12) cG (bS _)) cG (cN (dI (aL hu1 (vv 7) (aL hu1 (vv 12) dF)) (dI (aL hu1 (vv 12) dF) cZ)))) cZ))) (bS _))
   (dE (c5 YU))
   cU))))))))
  exact dE (c5 YU)
end
end RR
namespace L2
open PySem
theorem ZR(a b:String):Bb a=Bb b↔a=b:=by
 refine⟨fun h=> ?_,fun h=>by rw[h]⟩;rw[Gi,Gi] at h;injection h with h;have h2:a.toList.map Lu=b.toList.map Lu:=by simpa using h
 have h3:a.toList=b.toList:=by
  have inj: ∀(l m:List Char),l.map Lu=m.map Lu->l=m:=by
   intro l;induction l with
   |nil=>intro m h;cases m with
    |nil=>rfl
    |cons=>cases h
   | cons c l ih => intro m h;cases m with
    |nil=>cases h
    |cons e m=>
     simp only[Ay,List.cons.injEq] at h;rw[ih m h.2,Char.toNat_inj.mp h.1]
  exact inj _ _ h2
 exact String.toList_inj.mp h3
theorem EO(a:String):Oe (Bb a)=true:=by
 unfold Oe;rw[Gi];simp only[List.all_toArray,Od,Gu,Function.comp,decide_eq_true_eq];intro c _;have:=c.valid
 rcases this with h|⟨_,h⟩
 ·show c.val.toNat<1114112
  have:c.val.toNat<55296:=h
  lia
 ·exact h
def TJ(k:Nat)(d:dH):Prop:=d.isD=true/\d.pd.canLay0=true/\d.pd.depth<=k
theorem ZK{k:Nat}{i:Int}:TJ k (.int i):=⟨rfl,rfl,Dx _⟩
theorem PL{k:Nat}:TJ k .non:=⟨rfl,rfl,Dx _⟩
theorem YC{k:Nat}{a:String}:TJ k (.str (Bb a)):=⟨rfl,by simp[dH.pd,Ff,EO],Dx _⟩
theorem LR{k:Nat}: ∀{ds:List dH},(∀d∈ds,TJ k d)->JN ds=true/\Go (CU ds)=true/\Ef (CU ds)<=k
 |[],_=>⟨rfl,rfl,Dx _⟩
 |d::ds,h=>by
  obtain⟨a1,a2,a3⟩:=h d Bg;obtain⟨b1,b2,b3⟩:=LR fun e he=>h e (Aw _ he);refine⟨by simp[JN,a1,b1],by simp[CU,Go,a2,b2],?_⟩;simp only[CU,Ef];lia
theorem LS{k:Nat}{ds:List dH}(h: ∀d∈ds,TJ k d):TJ (k+1) (.tup ds):=by
 obtain⟨a,b,c⟩:=LR h;exact⟨by simpa[dH.isD] using a,by simpa[dH.pd,Ff] using b,by simp only[dH.pd,Gs];lia⟩
theorem zCE{k:Nat}{ds:List dH}(h: ∀d∈ds,TJ k d):TJ (k+1) (.lst ds):=by
 obtain⟨a,b,c⟩:=LR h;exact⟨by simpa[dH.isD] using a,by simpa[dH.pd,Ff] using b,by simp only[dH.pd,Gs];lia⟩
theorem TJ.ok{k:Nat}{d:dH}(h:TJ k d)(hk:k<=64:=by decide):M5 d=true:=by
 unfold M5 Dt;simp only[h.1,h.2.1,Ny,Af,decide_eq_true_eq];have:=h.2.2
 lia
@[simp] theorem zKX{a:String}:M5 (.str (Bb a))=true:=(YC (k:=0)).ok
theorem RS{k:Nat}: ∀d∈([]:List dH),TJ k d:=fun _ h=>nomatch h
theorem ZW{k:Nat}{d:dH}{ds:List dH}(h:TJ k d)(t: ∀d∈ds,TJ k d): ∀e∈d::ds,TJ k e:=fun e he=>by
 rcases Ap.mp he with z|z
 ·rw[z];exact h
 ·exact t e z
@[simp] theorem zO1{i j:Int}:eqD (.int i) (.int j)=decide (i=j):=by show(i==j)=_;rw[Jz]
@[simp] theorem zO0{a b:String}:eqD (.str (Bb a)) (.str (Bb b))=decide (a=b):=by
 show(Bb a==Bb b)=_;rw[Jz];simp only[ZR]
@[simp] theorem zNF{i j:Int}:XX (.int i) (.int j)=some (.bl (decide (i=j))):=by unfold XX;simp
@[simp] theorem zN1{i j:Int}:ON (.int i) (.int j)=some (.bl (!decide (i=j))):=by unfold ON;simp
@[simp] theorem zNE{a b:String}:XX (.str (Bb a)) (.str (Bb b))=some (.bl (decide (a=b))):=by unfold XX;simp
@[simp] theorem zN0{a b:String}:ON (.str (Bb a)) (.str (Bb b))=some (.bl (!decide (a=b))):=by unfold ON;simp
theorem zJL{j k:Nat}{d e:dH}(h:TJ j d)(h':TJ k e)(hj:j<=64:=by decide)(hk:k<=64:=by decide):ON d e=some (.bl (!eqD d e)):=by
 unfold ON;rw[h.ok hj,h'.ok hk];rfl
theorem zDS{j k:Nat}{neg:Bool}{d:dH}{ds:List dH}(h:TJ j d)(h': ∀e∈ds,TJ k e)(hj:j<=64:=by decide)(hk:k+1<=64:=by decide):TR neg d (.tup ds)=some (.bl (if neg then !inE d ds else inE d ds)):=by
 unfold TR;simp[h.ok hj,(LS h').ok hk]
@[simp] theorem zPU{d:dH}:inE d []=false:=(rfl)
@[simp] theorem zPV{d e:dH}{ds:List dH}:inE d (e::ds)=(eqD e d || inE d ds):=(rfl)
@[simp] theorem zPT{neg:Bool}{a b c:String}:TR neg (.str (Bb a)) (.tup [.str (Bb b),.str (Bb c)])=some (.bl (if neg then !(decide (b=a) || decide (c=a)) else decide (b=a) || decide (c=a))):=by
 rw[zDS (j:=0) YC (ZW (YC (k:=0)) (ZW YC RS))];simp
@[simp] theorem zPS{neg:Bool}{a b c d e:String}:TR neg (.str (Bb a)) (.tup [.str (Bb b),.str (Bb c),.str (Bb d),.str (Bb e)])=some (.bl (if neg then !(decide (b=a) || (decide (c=a) || (decide (d=a) || decide (e=a)))) else decide (b=a) || (decide (c=a) || (decide (d=a) || decide (e=a))))):=by
 rw[zDS (j:=0) YC (ZW (YC (k:=0)) (ZW YC (ZW YC (ZW YC RS))))];simp
theorem zAV{k:Nat}{d:dH}(h:TJ k d):eqD d d=true:=PySem.SeqAt.eqv_refl _ h.2.1
def NJ(ns:List Int):dH:= .lst (ns.map .int)
noncomputable def P1(n:Nat):dH:= .lst (Bh n (.int 0))
theorem MV: ∀ns:List Int,JN (ns.map dH.int)=true
 |[]=>rfl
 |n::ns=>by simp[JN,dH.isD,MV ns]
theorem J5: ∀ns:List Int,CU (ns.map dH.int)=ns.map Ln
 |[]=>rfl
 |n::ns=>by simp[CU,dH.pd,J5 ns]
theorem zA5(ns:List Int):M5 (.lst (ns.map .int))=true:=by
 unfold M5;simp only[dH.isD,MV,dH.pd,J5,Ny];exact KC ns
theorem zAU(ns:List Int):XX (.lst (ns.map .int)) (.lst [])=some (.bl ns.isEmpty):=by
 unfold XX;rw[zA5,show M5 (.lst [])=true from by decide+kernel];cases ns<;>rfl
theorem MU: ∀n:Nat,RN (Bh n (.int 0))=true
 |0=>rfl
 |n+1=>by simp[Cp,RN,dH.hard,MU n]
@[simp] theorem zJO(n:Nat):RO (P1 n)=true:=MU n
theorem MQ: ∀(ds:List dH) (a b:dH) (r:Int) (s:Sl),∃r' s',ZJ (gN 3) (aZ 2 (xV (f2 M4 (fV 2) (fC (.int 1000003))))) ds [.va a,.va b,.va (.int r),s]=some (.nx [.va a,.va b,.va (.int r'),s'])
 |[],a,b,r,s=>⟨r,s,rfl⟩
 |d::ds,a,b,r,s=>by
  obtain⟨r',s',h⟩:=MQ ds a b (r/1000003) (.va d);exact⟨r',s',by simp[KZ,h]⟩
theorem FJ{ns:List Int}{i:Int}(h0:0<=i)(h1:i<ns.length): ∃r∈ns,WI (ns.map dH.int) i=some (.int r):=by
 obtain⟨x,hx,e⟩:=zB5 (xs:=ns.map dH.int) h0 (by simpa using h1);obtain⟨r,hr,rfl⟩:=Fc.mp hx;exact⟨r,hr,e⟩
theorem zD1(ns:List Int)(k:Nat)(hl:ns.length<=63)(hk:k<1000000): ∃r,aN [NJ ns,.int k]=some (.int r,[]):=by
 unfold aN;rw[cW];unfold WZ VN NJ;by_cases h:(k:Int)<ns.length
 ·obtain ⟨r,_,e⟩ := FJ (ns := ns) (i := k) (by lia) h
  exact⟨r,by simp[cR,h,e]⟩
 ·cases ns with
  |nil=>
   have h0: ¬((k:Int)<0):=by lia
   have e:XX (.lst []) (.lst [])=some (.bl true):=zAU [];exact⟨0,by simp[cR,h0,e]⟩
  |cons m ms=>
   generalize hns:m::ms=ns at*;have me:(0:Int)<ns.length:=by rw[<- hns];simp
   have hb:=Ka (k:Int) (show(ns.length:Int)≠0 by lia);have hb2:=Ia (k:Int) me;obtain⟨r,_,e⟩:=FJ (ns:=ns) hb hb2;have he:ns.isEmpty=false:=by rw[<- hns];rfl
   have hq:0<=(k:Int)/ns.length:=Jx (by lia) (by lia);have hm: -4611686018427387904<=(if(60:Int)<(k:Int)/ns.length then 60 else(k:Int)/ns.length)/\(if(60:Int)<(k:Int)/ns.length then 60 else(k:Int)/ns.length)<4611686018427387904:=by split<;>lia
   obtain⟨r',s',e2⟩:=MQ (VL 0 (if(60:Int)<(k:Int)/ns.length then 60 else(k:Int)/ns.length).toNat) (.lst (ns.map .int)) (.int k) r .no;have hp2:0<ns.length:=by lia
   have hp3:(ns.length:Int)<1073741824:=by lia
   exact⟨r*31+k+r'*101,by simp[cR,h,zAU,he,me,hp2,hp3,e,KZ,hm,e2,K0]⟩
noncomputable def cel(ns:List Int)(k:Nat):Int:=match aN [NJ ns,.int k] with
 |some (.int r,_)=>r
 |_=>0
theorem zHG(ns:List Int)(k:Nat)(hl:ns.length<=63)(hk:k<1000000):aN [NJ ns,.int k]=some (.int (cel ns k),[]):=by
 obtain⟨r,e⟩:=zD1 ns k hl hk;unfold cel;rw[e]
noncomputable def GX(ns:List Int)(n:Nat)(b:Int):Int:=((cel ns (n+1)*1103515245+7919*(((n+1:Nat)):Int)+12345) % 2147483647) ^ 5 % 2147483647 % 999983 % b
theorem MS(ns:List Int)(n:Nat){b:Int}(h:0<b):0<=GX ns n b:=Ka _ (by lia)
theorem MT(ns:List Int)(n:Nat){b:Int}(h:0<b):GX ns n b<b:=Ia _ h
theorem zGZ(ns:List Int)(n:Nat)(b:Int)(hl:ns.length<=63)(hn:n<900000)(hb:0<b):Y1 [NJ ns,.int ((n+1:Nat):Int),.int b]=some (.int (GX ns n b),[]):=by
 have e:=zHG ns (n+1) hl (by lia);unfold Y1;rw[cW];unfold UT GX;have e1:=Ka (cel ns (n+1)*1103515245+7919*((n+1:Nat):Int)+12345) (show(2147483647:Int)≠0 by decide);have e2:=Ia (cel ns (n+1)*1103515245+7919*((n+1:Nat):Int)+12345) (show(0:Int)<2147483647 by decide);generalize hz:(cel ns (n+1)*1103515245+7919*((n+1:Nat):Int)+12345) % 2147483647=z at*;have hz2:z.natAbs<18446744073709551616:=by lia
 generalize hk:((n+1:Nat):Int)=k at*;simp[cR,e,K0,cPow,hz,hz2,hb]
theorem T8(ns:List Int)(n:Nat)(b:Int)(hl:ns.length<=63)(hn:n<900000)(hb:0<b):a6 [NJ ns,P1 n,.int b]=some (.int (GX ns n b),[P1 (n+1)]):=by
 have e:=zGZ ns n b hl hn hb;unfold a6;rw[cW];unfold SN;have ht:P1 n= .lst (Bh n (.int 0)):=rfl;have ht2:P1 (n+1)= .lst (Bh n (.int 0)++[.int 0]):=by unfold P1;rw[List.replicate_succ']
 rw[ht2,ht];have hs:n<16777216:=by lia
 push_cast at e
 simp[cR,hs,e]
theorem UH(ns:List Int)(n:Nat)(xs:List dH)(hl:ns.length<=63)(hn:n<900000)(hx:0<xs.length): ∃x∈xs,bH [NJ ns,P1 n,.lst xs]=some (x,[P1 (n+1)]):=by
 have hx':(0:Int)<xs.length:=by lia
 obtain⟨x,hm,e⟩:=zB5 (xs:=xs) (MS ns n hx') (MT ns n hx');refine⟨x,hm,?_⟩;unfold bH;rw[cW];unfold SO;simp[cR,T8 ns n _ hl hn hx',e]
inductive RF(M:Int->Prop):dH->Prop
 |number {n:Int}:0<=n->n<=999->RF M (.tup [.str "number",.int n])
 |two {x:String} {a b:Int}:x∈["over","plus","minus","times","least","most","less"]->M a->M b->RF M (.tup [.str x,.int a,.int b])
 |pick {c a b:Int}:M c->M a->M b->RF M (.tup [.str "pick",.int c,.int a,.int b])
 |load {p:Int}:0<=p->p<=63->RF M (.tup [.str "load",.int p])
 |take {p c a:Int}:0<=p->p<=63->M c->M a->RF M (.tup [.str "take",.int p,.int c,.int a])
 |store {p a:Int}:0<=p->p<=63->M a->RF M (.tup [.str "store",.int p,.int a])
 |put {p a c:Int}:0<=p->p<=63->M a->M c->RF M (.tup [.str "put",.int p,.int a,.int c])
@[simp] theorem zMZ{i:Int}:oNeg (.int i)=some (.int (-i)):=(rfl)
theorem DO{ds:List dH}{k:Nat}(h:k<=ds.length):N3 ds (some (k:Int)) none=ds.drop k:=by
 unfold N3;rw[HT.zBO,HT.BG,Nat.min_eq_left h,Dk (by simp)]
@[simp] theorem zO3{d e:dH}{ds:List dH}:N3 (d::e::ds) (some 2) none=ds:=DO (k:=2) (by simp)
@[simp] theorem zLN{α:Type}{xs:List α}{x:α}:WI (xs++[x]) (-1)=some x:=by
 unfold WI KP;rw[if_neg (by decide),if_pos (by simp;lia)];have e:(-1+((xs++[x]).length:Int)).toNat=xs.length:=by simp;lia
 show(xs++[x])[(-1+((xs++[x]).length:Int)).toNat]? =some x;rw[e];simp
@[simp] theorem zQ5{α:Type}{x:α}{xs:List α}:WI (x::xs) 0=some x:=by rw[WV (by decide) (by simp)];rfl
@[simp] theorem zQ4{α:Type}{x y:α}{xs:List α}:WI (x::y::xs) 1=some y:=by rw[WV (by decide) (by simp;lia)];rfl
@[simp] theorem zQ3{α:Type}{x y z:α}{xs:List α}:WI (x::y::z::xs) 2=some z:=by rw[WV (by decide) (by simp;lia)];rfl
@[simp] theorem zQ2{α:Type}{x y z u:α}{xs:List α}:WI (x::y::z::u::xs) 3=some u:=by rw[WV (by decide) (by simp;lia)];rfl
@[simp] theorem zHS(n lo hi:Int):bN [.int n,.int lo,.int hi]=some (.bl (decide (lo<=n) && decide (n<=hi)),[]):=by
 unfold bN;rw[cW];unfold SM;simp[cR];by_cases h:lo<=n<;>simp[h]
theorem ED{x:String}(h:x∈["over","plus","minus","times","least","most","less"]):a7 [.str x]=some (.tup [.str "row",.str "row"],[]):=by
 simp only[Ap,Bk,or_false] at h;rcases h with rfl|rfl|rfl|rfl|rfl|rfl|rfl<;>kernel_rfl
@[simp] theorem zKW:a7 [.str "number"]=some (.tup [.str "word"],[]):=by kernel_rfl
@[simp] theorem zKV:a7 [.str "pick"]=some (.tup [.str "row",.str "row",.str "row"],[]):=by kernel_rfl
@[simp] theorem zKU:a7 [.str "load"]=some (.tup [.str "place"],[]):=by kernel_rfl
@[simp] theorem zKT:a7 [.str "take"]=some (.tup [.str "place",.str "row",.str "row"],[]):=by kernel_rfl
@[simp] theorem zKS:a7 [.str "store"]=some (.tup [.str "place",.str "row"],[]):=by kernel_rfl
@[simp] theorem zKR:a7 [.str "put"]=some (.tup [.str "place",.str "row",.str "row"],[]):=by kernel_rfl
def Ab(able:List Bool)(a:Int):Prop:=0<=a/\able[a.toNat]? =some true
theorem zAD{able:List Bool}{a:Int}(h:Ab able a):ZM [.int a,.lst (able.map .bl)]=some (.bl true,[]):=by
 have hlt:=(Ak.mp h.2).1;have h0:=h.1;have h1:a<=(able.length:Int) - 1:=by lia
 have h2:WI (able.map dH.bl) a=some (.bl true):=by
  rw[WV h0 (by simp;lia)];simp[h.2]
 unfold ZM;rw[cW];unfold SR;simp[cR,h0,h1,h2]
theorem ZB{able:List Bool}{a:Int}(h:Ab able a):WT [.str "row",.int a,.lst (able.map .bl)]=some (.bl true,[]):=by
 unfold WT;rw[cW];unfold OB;simp[cR,zAD h]
theorem DX{d:dH}{a:Int}(h:0<=a)(h':a<=999):WT [.str "word",.int a,d]=some (.bl true,[]):=by
 unfold WT;rw[cW];unfold OB;simp[cR,bA,h,h']
theorem VZ{d:dH}{a:Int}(h:0<=a)(h':a<=63):WT [.str "place",.int a,d]=some (.bl true,[]):=by
 unfold WT;rw[cW];unfold OB;simp[cR,VU,h,h']
@[simp] theorem zO4:QM []=some []:=(rfl)
@[simp] theorem zHL{b:Bool}{ds:List dH}:QM (.bl b::ds)=(QM ds).map fun ks=>b::ks:=(rfl)
@[simp] theorem zLA{g:List Bool->Bool}{ds:List dH}:FO g (.lst ds)=(QM ds).map fun ks=> .bl (g ks):=(rfl)
@[simp] theorem zKE{ds:List dH}:TY ds []=[]:=by cases ds<;>rfl
@[simp] theorem zLU{d e:dH}{ds es:List dH}:TY (d::ds) (e::es)= .tup [d,e]::TY ds es:=(rfl)
theorem JO{able:List Bool}{row:dH}(h:RF (Ab able) row):X3 [row,.lst (able.map .bl)]=some (.bl true,[]):=by
 unfold X3;rw[cW];unfold OC;cases h with
 |number a b=>simp[cR,a8,DX a b]
 |two hx a b=>simp[cR,a8,ED hx,ZB a,ZB b]
 |pick a b c=>simp[cR,a8,ZB a,ZB b,ZB c]
 |load a b=>simp[cR,a8,VZ a b]
 |take a b c d=>simp[cR,a8,VZ a b,ZB c,ZB d]
 |store a b c=>simp[cR,a8,VZ a b,ZB c]
 |put a b c d=>simp[cR,a8,VZ a b,ZB c,ZB d]
theorem WK(nn:Nat)(fe:VF)(δ:Ev)(f:dH->dH)(hδ:δ.length=nn): ∀(ds acc:List dH),(∀d∈ds,fe (δ++[Sl.va d])=some (f d,δ++[Sl.va d]))->acc.length+ds.length<16777216->ZN nn 1 (gN nn) VQ fe ds acc δ=some (acc++ds.map f,δ)
 |[],acc,_,_=>by simp
 | d :: ds,acc,h,hl => by
  have om:(δ++[Sl.no]).set nn (.va d)=δ++[Sl.va d]:=by
   rw[List.set_append_right _ _ (by lia)];simp[hδ]
  have ci:(δ++[Sl.va d]).take nn=δ:=by rw[Gv (by lia),Dk (by lia)]
  have cx:acc.length<16777216:=by simp at hl;lia
  have ih:=WK nn fe δ f hδ ds (acc++[f d]) (fun e he=>h e (Aw _ he)) (by simp at hl⊢;lia);simp only[zD0,zJM,JJ,om,zIX,zHM,zIW,h d Bg,zIV,if_pos cx,ci,ih];simp
theorem IP{α:Type}: ∀ds:List α,QM (ds.map fun _=> .bl true)=some (ds.map fun _=>true)
 |[]=>rfl
 |d::ds=>by simp[IP ds]
@[simp] theorem zHR{α β:Type}(f:α->β)(ds:List α):QM (ds.map ((fun _=>dH.bl true)∘f))=some (ds.map fun _=>true):=IP ds
def Wd(w:Int):Prop:=0<=w/\w<=999
theorem zI8(a b:Int):RZ [a,b]=if a<=b then[a,b] else[b,a]:=by
 refine(KD ?_ ?_).symm
 ·split
  ·exact List.Perm.refl _
  ·exact List.Perm.swap _ _ _
 ·split
  ·simp;omega
  ·simp;omega
@[simp] theorem zJK{a b:Int}:HG (.lst [.int a,.int b])=some (.lst (if a<=b then[.int a,.int b] else[.int b,.int a])):=by
 show some (dH.lst ((RZ [a,b]).map dH.int))=_;rw[zI8];split<;>rfl
theorem BY{a b:Int}(ha:Wd a)(hb:Wd b):0<=a*b/\a*b<=998001:=by
 obtain⟨a0,a1⟩:=ha;obtain⟨b0,b1⟩:=hb;exact⟨Int.mul_nonneg a0 b0,Int.le_trans (Int.mul_le_mul a1 b1 b0 (by decide)) (by decide)⟩
theorem zA1{a b:Int}(h0:0<=a)(hb:0<b):YK b (a+1) b=a/b:=by
 unfold YK;split
 ·have e : a = (a - b) + 1 * b := by omega
  have:=Int.add_mul_ediv_right (a - b) 1 (show b≠0 by omega)
  rw[<- e] at this;rw[this,show a+1 - b - 1=a - b by omega]
 ·rw[Int.ediv_eq_zero_of_lt h0 (by omega)]
theorem DR{x:String}(hx:x∈["over","plus","minus","times","least","most","less"]) {a b:Int} (ha:Wd a) (hb:Wd b): ∃r,ZZ [.str x,.lst [.int a,.int b]]=some (r,[])/\XY [.str x,.lst [.int a,.int b]]=some (r,[])/\(r= .non∨ ∃w,r= .int w/\Wd w):=by
 have ab:=BY ha hb;obtain⟨a0,a1⟩:=ha;obtain⟨b0,b1⟩:=hb;have hc:K0 a b=true:=by simp[K0];omega
 have hc2: -18446744073709551616<a/\a<18446744073709551616∨ -18446744073709551616<b/\b<18446744073709551616:=by omega
 unfold ZZ XY;rw[cW,cW];unfold V0 N9;simp only[Ap,Bk,or_false] at hx;rcases hx with rfl|rfl|rfl|rfl|rfl|rfl|rfl
 ·by_cases h:b=0
  ·subst h
   have e:WU [.int a,.int 0]=some (.non,[]):=by
    unfold WU;rw[cW];unfold OE;simp[cR]
   exact⟨.non,by simp[cR],by simp[cR,XE,bM,ZR,XI,e,dH.hard],.inl rfl⟩
  ·have hp : 0 < b := by omega
   have hq:b<1073741824:=by omega
   have q0:0<=a/b:=Jx a0 (by omega);have q1:a/b<=a:=Int.ediv_le_self _ a0;have hr:a/b<9223372036854775808:=by omega
   have e:WU [.int a,.int b]=some (.int (a/b),[]):=by
    unfold WU;rw[cW];unfold OE;simp[cR,h,KZ,hp,hq]
   exact⟨.int (a/b),by simp[cR,h,zA1 a0 hp,hp,hq,hr],by simp[cR,XE,bM,ZR,XI,e,dH.hard],.inr ⟨_,rfl,q0,by omega⟩⟩
 ·have e:QH [.int a,.int b]=some (.int ((a+b) % 1000),[]):=by
   unfold QH;rw[cW];unfold G2;simp[cR,bA]
  refine⟨.int ((a+b) % 1000),?_,by simp[cR,XE,bM,ZR,XI,e,dH.hard],.inr ⟨_,rfl,by omega,by omega⟩⟩;have:a+b - (a+b)/1000*1000=(a+b) % 1000:=by omega
  simp[cR,bM,ZR,hc2,KZ,K0,this]
 ·have e:T1 [.int a,.int b]=some (.int ((a - b) % 1000),[]):=by
   unfold T1;rw[cW];unfold LI;simp[cR,bA]
  refine⟨.int ((a - b) % 1000),?_,by simp[cR,XE,bM,ZR,XI,e,dH.hard],.inr ⟨_,rfl,by omega,by omega⟩⟩;have:a+1000 - b - (a+1000 - b)/1000*1000=(a - b) % 1000:=by omega
  simp[cR,bM,ZR,hc2,KZ,K0,this]
 ·have e:T2 [.int a,.int b]=some (.int (a*b % 1000),[]):=by
   unfold T2;rw[cW];unfold LJ;simp[cR,bA,hc]
  refine⟨.int (a*b % 1000),?_,by simp[cR,XE,bM,ZR,XI,e,dH.hard],.inr ⟨_,rfl,by omega,by omega⟩⟩
  have:a*b - a*b/1000*1000=a*b % 1000:=by
   generalize a*b=z;omega
  simp[cR,bM,ZR,hc2,KZ,K0,this]
 ·have e:T0 [.int a,.int b]=some (.int (if a<=b then a else b),[]):=by
   unfold T0;rw[cW];unfold LH;by_cases h:a<=b
   ·have h' : ¬ b < a := by omega
    simp[cR,h,h']
   ·have h' : b < a := by omega
    simp[cR,h,h']
  refine⟨.int (if a<=b then a else b),?_,by simp[cR,XE,bM,ZR,XI,e,dH.hard],.inr ⟨_,rfl,by split<;>omega,by split<;>omega⟩⟩;by_cases h:a<=b<;>simp[cR,h]
 ·have e:QF [.int a,.int b]=some (.int (if a<=b then b else a),[]):=by
   unfold QF;rw[cW];unfold G0;by_cases h:a<b
   ·have h' : a <= b := by omega
    simp[cR,h,h']
   ·by_cases h2:a=b
    ·subst h2
     simp[cR]
    ·have h' : ¬ a <= b := by omega
     simp[cR,h,h']
  refine⟨.int (if a<=b then b else a),?_,by simp[cR,XE,bM,ZR,XI,e,dH.hard],.inr ⟨_,rfl,by split<;>omega,by split<;>omega⟩⟩;by_cases h:a<=b<;>simp[cR,h]
 ·have e:QE [.int a,.int b]=some (.int (if a<b then 1 else 0),[]):=by
   unfold QE;rw[cW];unfold GZ;by_cases h:a<b<;>simp[cR,h]
  refine⟨.int (if a<b then 1 else 0),?_,by simp[cR,XE,bM,ZR,XI,e,dH.hard],.inr ⟨_,rfl,by split<;>omega,by split<;>omega⟩⟩;by_cases h:a<b<;>simp[cR,h]
noncomputable abbrev D7:List String:=["over","plus","minus","times","least","most","less"]
inductive Rw where
 |num (n:Int)|two (x:String) (a b:Int)|pick (c a b:Int)|load (p:Int)|take (p c a:Int)|store (p a:Int)|put (p a c:Int)
def Rw.dat:Rw->dH
 | .num n=> .tup [.str "number",.int n]
 | .two x a b=> .tup [.str x,.int a,.int b]
 | .pick c a b=> .tup [.str "pick",.int c,.int a,.int b]
 | .load p=> .tup [.str "load",.int p]
 | .take p c a=> .tup [.str "take",.int p,.int c,.int a]
 | .store p a=> .tup [.str "store",.int p,.int a]
 | .put p a c=> .tup [.str "put",.int p,.int a,.int c]
def Rw.nms:Rw->List Int
 | .num _=>[]
 | .two _ a b=>[a,b]
 | .pick c a b=>[c,a,b]
 | .load _=>[]
 | .take _ c a=>[c,a]
 | .store _ a=>[a]
 | .put _ a c=>[a,c]
def Rw.hd:Rw->String
 | .num _=> "number"
 | .two x _ _=>x
 | .pick _ _ _=> "pick"
 | .load _=> "load"
 | .take _ _ _=> "take"
 | .store _ _=> "store"
 | .put _ _ _=> "put"
def Rw.mk:Rw->Bool
 | .store _ _=>false
 | .put _ _ _=>false
 |_=>true
def Rw.ren(f:Int->Int):Rw->Rw
 | .num n=> .num n
 | .two x a b=> .two x (f a) (f b)
 | .pick c a b=> .pick (f c) (f a) (f b)
 | .load p=> .load p
 | .take p c a=> .take p (f c) (f a)
 | .store p a=> .store p (f a)
 | .put p a c=> .put p (f a) (f c)
abbrev Pl(p:Int):Prop:=0<=p/\p<=63
def Rw.Ok(M:Int->Prop):Rw->Prop
 | .num n=>Wd n
 | .two x a b=>x∈D7/\M a/\M b
 | .pick c a b=>M c/\M a/\M b
 | .load p=>Pl p
 | .take p c a=>Pl p/\M c/\M a
 | .store p a=>Pl p/\M a
 | .put p a c=>Pl p/\M a/\M c
section
variable{M M':Int->Prop}{r:Rw}
theorem Rw.Ok.ren{f:Int->Int}(h:r.Ok M)(k: ∀a,M a->M' (f a)):(r.ren f).Ok M':=by
 cases r with
 |num=>exact h
 |two=>exact⟨h.1,k _ h.2.1,k _ h.2.2⟩
 |pick=>exact⟨k _ h.1,k _ h.2.1,k _ h.2.2⟩
 |load=>exact h
 |take=>exact⟨h.1,k _ h.2.1,k _ h.2.2⟩
 |store=>exact⟨h.1,k _ h.2⟩
 |put=>exact⟨h.1,k _ h.2.1,k _ h.2.2⟩
theorem Rw.Ok.row(h:r.Ok M):RF M r.dat:=by
 cases r with
 |num=>exact .number h.1 h.2
 |two=>exact .two h.1 h.2.1 h.2.2
 |pick=>exact .pick h.1 h.2.1 h.2.2
 |load=>exact .load h.1 h.2
 |take=>exact .take h.1.1 h.1.2 h.2.1 h.2.2
 |store=>exact .store h.1.1 h.1.2 h.2
 |put=>exact .put h.1.1 h.1.2 h.2.1 h.2.2
theorem Rw.Ok.nm(h:r.Ok M): ∀a∈r.nms,M a:=by
 cases r with
 |num=>exact fun _ h=>nomatch h
 |two=>
  intro a ha;simp only[Rw.nms,Ap,Bk,or_false] at ha;rcases ha with rfl|rfl
  ·exact h.2.1
  ·exact h.2.2
 |pick=>
  intro a ha;simp only[Rw.nms,Ap,Bk,or_false] at ha;rcases ha with rfl|rfl|rfl
  ·exact h.1
  ·exact h.2.1
  ·exact h.2.2
 |load=>exact fun _ h=>nomatch h
 |take=>
  intro a ha;simp only[Rw.nms,Ap,Bk,or_false] at ha;rcases ha with rfl|rfl
  ·exact h.2.1
  ·exact h.2.2
 |store=>
  intro a ha;simp only[Rw.nms,Ap,Bk,or_false] at ha;rcases ha with rfl
  ·exact h.2
 |put=>
  intro a ha;simp only[Rw.nms,Ap,Bk,or_false] at ha;rcases ha with rfl|rfl
  ·exact h.2.1
  ·exact h.2.2
theorem Rw.nl:r.nms.length<=3:=by cases r<;>simp[Rw.nms]
@[simp] theorem Rw.ix0:cL r.dat (.int 0)=some (.str (Bb r.hd)):=by cases r<;>rfl
@[simp] theorem Rw.ren_mk{f:Int->Int}:(r.ren f).mk=r.mk:=by cases r<;>rfl
@[simp] theorem Rw.dat_hard:r.dat.hard=true:=by cases r<;>rfl
theorem d7{x:String}(h:x∈D7):x= "over" ∨x= "plus" ∨x= "minus" ∨x= "times" ∨x= "least" ∨x= "most" ∨x= "less":=by simpa using h
theorem Rw.Ok.noif(h:r.Ok M): ¬r.hd= "if":=by
 cases r with
 |two=>obtain⟨h,_⟩:=h;rcases d7 h with rfl|rfl|rfl|rfl|rfl|rfl|rfl<;>simp[Rw.hd]
 |_=>simp[Rw.hd]
theorem Rw.Ok.names(h:r.Ok M):Z1 [r.dat]=some (.lst (r.nms.map .int),[])/\X4 [r.dat]=some (.lst (r.nms.map .int),[]):=by
 cases r with
 |two=>obtain⟨h,_⟩:=h;rcases d7 h with rfl|rfl|rfl|rfl|rfl|rfl|rfl<;>exact⟨by kernel_rfl,by kernel_rfl⟩
 |_=>exact⟨by kernel_rfl,by kernel_rfl⟩
theorem Rw.Ok.made(h:r.Ok M):Z0 [r.dat]=some (.bl r.mk,[]):=by
 cases r with
 |two=>obtain⟨h,_⟩:=h;rcases d7 h with rfl|rfl|rfl|rfl|rfl|rfl|rfl<;>kernel_rfl
 |_=>kernel_rfl
theorem Rw.Ok.isif(h:r.Ok M):TZ [r.dat]=some (.bl false,[]):=by
 cases r with
 |two=>obtain⟨h,_⟩:=h;rcases d7 h with rfl|rfl|rfl|rfl|rfl|rfl|rfl<;>kernel_rfl
 |_=>kernel_rfl
end
noncomputable def dv(x:String)(u v:Int):Option Int:=match XY [.str x,.lst [.int u,.int v]] with
 |some (.int w,_)=>some w
 |_=>none
noncomputable def oD:Option Int->dH
 |some w=> .int w
 |none=> .non
theorem LA{x:String}(hx:x∈D7){u v:Int}(hu:Wd u)(hv:Wd v):XY [.str x,.lst [.int u,.int v]]=some (oD (dv x u v),[])/\ZZ [.str x,.lst [.int u,.int v]]=some (oD (dv x u v),[])/\ ∀w,dv x u v=some w->Wd w:=by
 obtain⟨r,e1,e2,e3⟩:=DR hx hu hv;unfold dv;rw[e2];rcases e3 with rfl|⟨w,rfl,h⟩
 ·exact⟨rfl,e1,fun _ h=>nomatch h⟩
 ·exact⟨rfl,e1,fun _ h'=>by cases h';exact h⟩
theorem zAW{u:Int}(hu:Wd u): ∃w,dv "over" u 1=some w:=by
 have e:WU [.int u,.int 1]=some (.int (u/1),[]):=by
  unfold WU;rw[cW];unfold OE;simp[cR,KZ]
 have e2:XY [.str "over",.lst [.int u,.int 1]]=some (.int (u/1),[]):=by
  unfold XY;rw[cW];unfold N9;simp[cR,XE,bM,ZR,XI,e,dH.hard]
 exact⟨u/1,by unfold dv;rw[e2]⟩
inductive VM where
 |ok (m:dH) (cs:List Int)|bad (s:String)
noncomputable def ZS(w:Int->Int)(cs:List Int):Rw->VM
 | .num n=> .ok (.int n) cs
 | .two x a b=>match dv x (w a) (w b) with
  |some v=> .ok (.int v) cs
  |none=> .bad "nought"
 | .pick c a b=> .ok (.int (if w c=0 then w b else w a)) cs
 | .load p=>if p<cs.length then .ok (.int (cs.getD p.toNat 0)) cs else .bad "beyond"
 | .take p c a=>if w c=0 then .ok (.int (w a)) cs else if p<cs.length then .ok (.int (cs.getD p.toNat 0)) cs else .bad "beyond"
 | .store p a=>if p<cs.length then .ok .non (cs.set p.toNat (w a)) else .bad "beyond"
 | .put p a c=>if w c=0 then .ok .non cs else if p<cs.length then .ok .non (cs.set p.toNat (w a)) else .bad "beyond"
def VM.out(cs:List Int):VM->dH×List dH
 | .ok m cs'=>(.tup [m,.non],[.lst (cs'.map .int)])
 | .bad s=>(.tup [.non,.str s],[.lst (cs.map .int)])
theorem K6{cs:List Int}{p:Int}(h0:0<=p)(h1:p<cs.length):WI (cs.map dH.int) p=some (.int (cs.getD p.toNat 0)):=by
 have hi:p.toNat<cs.length:=by lia
 rw[WV h0 (by simpa using h1),Dm,Ip hi];simp[hi]
theorem zAZ{cs:List Int}{p:Int}(h1:p<cs.length)(h0:0<=p)(hcs: ∀c∈cs,Wd c):Wd (cs.getD p.toNat 0):=by
 have hi:p.toNat<cs.length:=by lia
 simp[hi];exact hcs _ (Mm hi)
theorem K5{cs:List Int}{p:Int}(h0:0<=p)(h1:p<cs.length):KP cs.length p=some p.toNat:=by
 unfold KP;rw[if_pos h0,if_pos h1]
@[simp] theorem zKQ{p:Int}{t:List dH}:bR [.tup (.str "load":: .int p::t)]=some (.int p,[]):=by unfold bR;rw[cW];unfold ZO;simp[cR,Y2,aV]
@[simp] theorem zKP{p:Int}{t:List dH}:bR [.tup (.str "take":: .int p::t)]=some (.int p,[]):=by unfold bR;rw[cW];unfold ZO;simp[cR,Y2,aV]
@[simp] theorem zKO{p:Int}{t:List dH}:bR [.tup (.str "store":: .int p::t)]=some (.int p,[]):=by unfold bR;rw[cW];unfold ZO;simp[cR,Y2,aV]
@[simp] theorem zKN{p:Int}{t:List dH}:bR [.tup (.str "put":: .int p::t)]=some (.int p,[]):=by unfold bR;rw[cW];unfold ZO;simp[cR,Y2,aV]
@[simp] theorem zKM{t:List dH}:bR [.tup (.str "pick"::t)]=some (.non,[]):=by unfold bR;rw[cW];unfold ZO;simp[cR,Y2,aV]
theorem IG{x:String}(hx:x∈D7){y:String}(hy:(D7.contains y)=false):(¬x=y)/\¬y=x:=by
 have h: ¬x=y:=fun e=>by
  subst e;rw[List.contains_iff_mem.mpr hx] at hy;cases hy
 exact⟨h,fun e=>h e.symm⟩
theorem zBZ{x:String}(hx:x∈D7){t:List dH}:bR [.tup (.str x::t)]=some (.non,[]):=by
 unfold bR;rw[cW];unfold ZO;have z1:=(IG hx (y:= "load") (by decide)).2;have z2:=(IG hx (y:= "take") (by decide)).2;have z3:=(IG hx (y:= "store") (by decide)).2;have z4:=(IG hx (y:= "put") (by decide)).2;simp[cR,Y2,aV,z1,z2,z3,z4]
@[simp] theorem zOA{d:dH}:ZV [.str "load",d]=some (.bl true,[]):=by kernel_rfl
@[simp] theorem zO9{d:dH}:ZV [.str "store",d]=some (.bl true,[]):=by kernel_rfl
@[simp] theorem zO8{a:Int}{ds:List dH}:ZV [.str "take",.lst (.int a::ds)]=some (.bl (!decide (a=0)),[]):=by unfold ZV;rw[cW];unfold UB;simp[cR]
@[simp] theorem zO7{a b:Int}{ds:List dH}:ZV [.str "put",.lst (.int a:: .int b::ds)]=some (.bl (!decide (b=0)),[]):=by unfold ZV;rw[cW];unfold UB;simp[cR]
theorem YA{x:String}{p:Int}{t ws cs:List dH}{r:dH×List dH}{c:dH}(hx:x= "load" ∨x= "take" ∨x= "store" ∨x= "put") (h:b4 [.str x,.int p,.lst ws,.lst cs]=some (r.1,[c])):aD [.tup (.str x:: .int p::t),.lst ws,.lst cs,.int 0]=some (r.1,[c]):=by
 have hp:bR [.tup (.str x:: .int p::t)]=some (.int p,[]):=by rcases hx with rfl|rfl|rfl|rfl<;>simp
 have hn: ¬x= "number":=by rcases hx with rfl|rfl|rfl|rfl<;>decide
 unfold aD;rw[cW];unfold UR;simp[cR,h,hp,hn]
theorem zC0{u v z:Int}:XY [.str "pick",.lst [.int u,.int v,.int z]]=some (.int (if u=0 then z else v),[]):=by
 have e:QG [.int u,.int v,.int z]=some (.int (if u=0 then z else v),[]):=by
  unfold QG;rw[cW];unfold G1;by_cases h:u=0<;>simp[cR,h]
 unfold XY;rw[cW];unfold N9;simp[cR,e,dH.hard]
theorem AL{u v z:Int}:ZZ [.str "pick",.lst [.int u,.int v,.int z]]=some (.int (if u=0 then z else v),[]):=by
 unfold ZZ;rw[cW];unfold V0;by_cases h:u=0<;>simp[cR,h]
section
variable{M:Int->Prop}{r:Rw}{w:Int->Int}{cs:List Int}
theorem zDZ(h:r.Ok M)(hw: ∀a∈r.nms,Wd (w a)):aD [r.dat,.lst ((r.nms.map w).map .int),.lst (cs.map .int),.int 0]=some ((ZS w cs r).out cs):=by
 cases r with
 |num n=>exact(by kernel_rfl:aD [.tup [.str "number",.int n],.lst [],.lst (cs.map .int),.int 0]=some (.tup [.int n,.non],[.lst (cs.map .int)]))
 |two x a b=>
  obtain⟨hx,_⟩:=h;obtain⟨e,_,_⟩:=LA hx (hw a (by simp[Rw.nms])) (hw b (by simp[Rw.nms]));have hp:=zBZ hx (t:=[.int a,.int b]);have z1:=(IG hx (y:= "number") (by decide)).1;unfold aD;rw[cW];unfold UR;simp only[Rw.dat,Rw.nms,ZS,Ay,Co];cases hd:dv x (w a) (w b) with
  |none=>rw[hd] at e;simp[cR,hp,e,oD,VM.out,z1]
  |some v=>rw[hd] at e;simp[cR,hp,e,oD,VM.out,z1]
 |pick c a b=>
  unfold aD;rw[cW];unfold UR;simp[Rw.dat,Rw.nms,ZS,cR,zC0,VM.out]
 |load p=>
  have h0:=h.1;simp only[Rw.dat,Rw.nms,ZS,Co];by_cases hb:p<cs.length
  ·have hb' : ¬ (cs.length : Int) <= p := by lia
   rw[if_pos hb];refine YA (r:=(_,[])) (by simp) ?_;unfold b4;rw[cW];unfold bL;simp[cR,hb',K6 h0 hb,aV]
  ·have hb' : (cs.length : Int) <= p := by lia
   rw[if_neg hb];refine YA (r:=(_,[])) (by simp) ?_;unfold b4;rw[cW];unfold bL;simp[cR,hb']
 |take p c a=>
  have h0:=h.1.1;simp only[Rw.dat,Rw.nms,ZS,Ay,Co];by_cases hu:w c=0
  ·rw[if_pos hu]
   refine YA (r:=(_,[])) (by simp) ?_;unfold b4;rw[cW];unfold bL;simp[cR,hu]
  ·rw[if_neg hu]
   by_cases hb:p<cs.length
   ·have hb' : ¬ (cs.length : Int) <= p := by lia
    rw[if_pos hb];refine YA (r:=(_,[])) (by simp) ?_;unfold b4;rw[cW];unfold bL;simp[cR,hu,hb',K6 h0 hb,aV]
   ·have hb' : (cs.length : Int) <= p := by lia
    rw[if_neg hb];refine YA (r:=(_,[])) (by simp) ?_;unfold b4;rw[cW];unfold bL;simp[cR,hu,hb']
 |store p a=>
  have h0:=h.1.1;simp only[Rw.dat,Rw.nms,ZS,Ay,Co];by_cases hb:p<cs.length
  ·have hb' : ¬ (cs.length : Int) <= p := by lia
   rw[if_pos hb];refine YA (r:=(_,[])) (by simp) ?_;unfold b4;rw[cW];unfold bL;simp[cR,hb',K5 h0 hb,Kb,aV]
  ·have hb' : (cs.length : Int) <= p := by lia
   rw[if_neg hb];refine YA (r:=(_,[])) (by simp) ?_;unfold b4;rw[cW];unfold bL;simp[cR,hb']
 |put p a c=>
  have h0:=h.1.1;simp only[Rw.dat,Rw.nms,ZS,Ay,Co];by_cases hu:w c=0
  ·rw[if_pos hu]
   refine YA (r:=(_,[])) (by simp) ?_;unfold b4;rw[cW];unfold bL;simp[cR,hu]
  ·rw[if_neg hu]
   by_cases hb:p<cs.length
   ·have hb' : ¬ (cs.length : Int) <= p := by lia
    rw[if_pos hb];refine YA (r:=(_,[])) (by simp) ?_;unfold b4;rw[cW];unfold bL;simp[cR,hu,hb',K5 h0 hb,Kb,aV]
   ·have hb' : (cs.length : Int) <= p := by lia
    rw[if_neg hb];refine YA (r:=(_,[])) (by simp) ?_;unfold b4;rw[cW];unfold bL;simp[cR,hu,hb']
theorem zH0(h:r.Ok M)(hn: ¬r.hd= "number") (hw: ∀a∈r.nms,Wd (w a)):YE [r.dat,.int 0,.lst ((r.nms.map w).map .int),.lst (cs.map .int)]=some ((ZS w cs r).out cs):=by
 unfold YE;rw[cW];unfold SQ;cases r with
 |num n=>exact absurd rfl hn
 |two x a b=>
  obtain⟨hx,_⟩:=h;obtain⟨_,e,_⟩:=LA hx (hw a (by simp[Rw.nms])) (hw b (by simp[Rw.nms]));have z1:=(IG hx (y:= "load") (by decide)).2;have z2:=(IG hx (y:= "take") (by decide)).2;have z3:=(IG hx (y:= "store") (by decide)).2;have z4:=(IG hx (y:= "put") (by decide)).2;simp only[Rw.dat,Rw.nms,ZS,Ay,Co];cases hd:dv x (w a) (w b) with
  |none=>rw[hd] at e;simp[cR,e,oD,VM.out,z1,z2,z3,z4]
  |some v=>rw[hd] at e;simp[cR,e,oD,VM.out,z1,z2,z3,z4]
 |pick c a b=>simp[Rw.dat,Rw.nms,ZS,cR,AL,VM.out]
 |load p=>
  have h0:=h.1;simp only[Rw.dat,Rw.nms,ZS,Co];by_cases hb:p<cs.length
  ·have hb' : ¬ (cs.length : Int) <= p := by lia
   simp[cR,hb,hb',K6 h0 hb,VM.out]
  ·have hb' : (cs.length : Int) <= p := by lia
   simp[cR,hb,hb',VM.out]
 |take p c a=>
  have h0:=h.1.1;simp only[Rw.dat,Rw.nms,ZS,Ay,Co];by_cases hu:w c=0
  ·simp[cR,hu,VM.out]
  ·by_cases hb:p<cs.length
   ·have hb' : ¬ (cs.length : Int) <= p := by lia
    simp[cR,hu,hb,hb',K6 h0 hb,VM.out]
   ·have hb' : (cs.length : Int) <= p := by lia
    simp[cR,hu,hb,hb',VM.out]
 |store p a=>
  have h0:=h.1.1;simp only[Rw.dat,Rw.nms,ZS,Ay,Co];by_cases hb:p<cs.length
  ·have hb' : ¬ (cs.length : Int) <= p := by lia
   simp[cR,hb,hb',K5 h0 hb,Kb,VM.out]
  ·have hb' : (cs.length : Int) <= p := by lia
   simp[cR,hb,hb',VM.out]
 |put p a c=>
  have h0:=h.1.1;simp only[Rw.dat,Rw.nms,ZS,Ay,Co];by_cases hu:w c=0
  ·simp[cR,hu,VM.out]
  ·by_cases hb:p<cs.length
   ·have hb' : ¬ (cs.length : Int) <= p := by lia
    simp[cR,hu,hb,hb',K5 h0 hb,Kb,VM.out]
   ·have hb' : (cs.length : Int) <= p := by lia
    simp[cR,hu,hb,hb',VM.out]
theorem zDF{p:Int}{u:Int}(hcs: ∀c∈cs,Wd c)(hu:Wd u): ∀c∈cs.set p.toNat u,Wd c:=fun c h=>by
 rcases List.mem_or_eq_of_mem_set h with z|z
 ·exact hcs c z
 ·rw[z];exact hu
theorem O0(h:r.Ok M)(hw: ∀a∈r.nms,Wd (w a))(hcs: ∀c∈cs,Wd c){m:dH}{cs':List Int}(e:ZS w cs r= .ok m cs'):cs'.length=cs.length/\(∀c∈cs',Wd c)/\TJ 0 m/\(r.mk=true-> ∃x,Wd x/\m= .int x):=by
 cases r with
 |num n=>cases e;exact⟨rfl,hcs,ZK,fun _=>⟨n,h,rfl⟩⟩
 |two x a b=>
  obtain⟨_,_,k⟩:=LA h.1 (hw a (by simp[Rw.nms])) (hw b (by simp[Rw.nms]));simp only[ZS] at e;cases hd:dv x (w a) (w b) with
  |none=>rw[hd] at e;cases e
  |some v=>rw[hd] at e;cases e;exact⟨rfl,hcs,ZK,fun _=>⟨v,k v hd,rfl⟩⟩
 |pick c a b=>
  cases e;refine⟨rfl,hcs,ZK,fun _=>⟨_,?_,rfl⟩⟩;split
  ·exact hw b (by simp[Rw.nms])
  ·exact hw a (by simp[Rw.nms])
 |load p=>
  simp only[ZS] at e;split at e
  ·rename_i hb;cases e;exact⟨rfl,hcs,ZK,fun _=>⟨_,zAZ hb h.1 hcs,rfl⟩⟩
  ·cases e
 |take p c a=>
  simp only[ZS] at e;split at e
  ·cases e;exact⟨rfl,hcs,ZK,fun _=>⟨_,hw a (by simp[Rw.nms]),rfl⟩⟩
  ·split at e
   ·rename_i hb;cases e;exact⟨rfl,hcs,ZK,fun _=>⟨_,zAZ hb h.1.1 hcs,rfl⟩⟩
   ·cases e
 |store p a=>
  simp only[ZS] at e;split at e
  ·cases e;exact⟨by simp,zDF hcs (hw a (by simp[Rw.nms])),PL,fun z=>nomatch z⟩
  ·cases e
 |put p a c=>
  simp only[ZS] at e;split at e
  ·cases e;exact⟨rfl,hcs,PL,fun z=>nomatch z⟩
  ·split at e
   ·cases e;exact⟨by simp,zDF hcs (hw a (by simp[Rw.nms])),PL,fun z=>nomatch z⟩
   ·cases e
end
theorem Ab.lt{ab:List Bool}{a:Int}(h:Ab ab a):a<ab.length:=by
 have:=(Ak.mp h.2).1
 have:=h.1
 lia
theorem Ab.app{ab bb:List Bool}{a:Int}(h:Ab ab a):Ab (ab++bb) a:=⟨h.1,by rw[Ah (Ak.mp h.2).1];exact h.2⟩
theorem Ab.inv{ab:List Bool}{b:Bool}{a:Int}(h:Ab (ab++[b]) a):Ab ab a∨(a=ab.length/\b=true):=by
 have h0:=h.1;have hl:=h.lt;rw[Al,Bx] at hl;by_cases hi:a.toNat<ab.length
 ·exact .inl ⟨h0,by have:=h.2;rwa[Ah hi] at this⟩
 ·have hii : a.toNat = ab.length := by lia
  have e:=h.2;rw[hii] at e;exact .inr ⟨by lia,by simpa using e⟩
theorem Ab.new{ab:List Bool}:Ab (ab++[true]) ab.length:=⟨by lia,by simp⟩
noncomputable def wv(lm:List dH)(a:Int):Int:=match WI lm a with
 |some (.int x)=>x
 |_=>0
theorem SG{ws es:List dH}{a:Int}(h0:0<=a)(h1:a<ws.length):WI (ws++es) a=WI ws a:=by rw[WV h0 (by simp;lia),WV h0 h1,Ah (by lia)]
theorem aX{ws es:List dH}{a:Int}(h0:0<=a)(h1:a<ws.length):wv (ws++es) a=wv ws a:=by
 unfold wv;rw[SG h0 h1]
theorem KU{ws es:List dH}{m:dH}{a:Int}(h:a=ws.length):WI (ws++m::es) a=some m:=by
 subst h;rw[WV (by lia) (by simp;lia)];simp
theorem YW{ws es:List dH}{x a:Int}(h:a=ws.length):wv (ws++ .int x::es) a=x:=by
 unfold wv;rw[KU h]
structure Ws(ab:List Bool)(ws:List dH):Prop where
 len:ws.length=ab.length
 wd: ∀a,Ab ab a-> ∃x,Wd x/\WI ws a=some (.int x)
theorem Ws.nil:Ws [] []:=⟨rfl,fun a h=>by have:=h.2;simp at this⟩
theorem Ws.word{ab:List Bool}{ws:List dH}{a:Int}(W:Ws ab ws)(h:Ab ab a):WI ws a=some (.int (wv ws a))/\Wd (wv ws a):=by
 obtain⟨x,hx,e⟩:=W.wd a h;unfold wv;rw[e];exact⟨rfl,hx⟩
theorem Ws.lt{ab:List Bool}{ws:List dH}{a:Int}(W:Ws ab ws)(h:Ab ab a):a<ws.length:=by have:=h.lt;rw[W.len];exact this
theorem Ws.snoc{ab:List Bool}{ws:List dH}{b:Bool}{m:dH}(W:Ws ab ws)(h:b=true-> ∃x,Wd x/\m= .int x):Ws (ab++[b]) (ws++[m]):=by
 refine⟨by simp[W.len],fun a ha=> ?_⟩;rcases ha.inv with h1|⟨h1,h2⟩
 ·obtain⟨x,hx,e⟩:=W.wd a h1
  exact⟨x,hx,by rw[SG h1.1 (W.lt h1)];exact e⟩
 ·obtain⟨x,hx,rfl⟩:=h h2
  exact⟨x,hx,KU (by rw[h1,W.len])⟩
structure QI where
 ws:List dH
 cs:List Int
 er:Option String
def QI.fd(o:QI):dH:=match o.er with
 |none=> .non
 |some s=> .tup [.int o.ws.length,.str s]
noncomputable def go:List Rw->List dH->List Int->QI
 |[],ws,cs=>⟨ws,cs,none⟩
 |r::rs,ws,cs=>match ZS (wv ws) cs r with
  | .ok m cs'=>go rs (ws++[m]) cs'
  | .bad s=>⟨ws,cs,some s⟩
section
variable{r:Rw}{rs qs:List Rw}{ws:List dH}{cs cs':List Int}{m:dH}{s:String}{ab:List Bool}
theorem TD(e:ZS (wv ws) cs r= .ok m cs'):go (r::rs) ws cs=go rs (ws++[m]) cs':=by
 show(match ZS (wv ws) cs r with
  | .ok m cs'=>go rs (ws++[m]) cs'
  | .bad s=>⟨ws,cs,some s⟩)=_
 rw[e]
theorem V5(e:ZS (wv ws) cs r= .bad s):go (r::rs) ws cs=⟨ws,cs,some s⟩:=by
 show(match ZS (wv ws) cs r with
  | .ok m cs'=>go rs (ws++[m]) cs'
  | .bad s=>⟨ws,cs,some s⟩)=_
 rw[e]
def XA:List Bool->List Rw->Prop
 |_,[]=>True
 |ab,r::rs=>r.Ok (Ab ab)/\XA (ab++[r.mk]) rs
theorem XA.app: ∀{rs qs:List Rw} {ab:List Bool},XA ab rs->XA (ab++rs.map Rw.mk) qs->XA ab (rs++qs)
 |[],_,_,_,h=>by simpa using h
 |r::rs,_,_,⟨h1,h2⟩,h=>⟨h1,XA.app h2 (by simpa using h)⟩
structure Kept(ab:List Bool)(rs:List Rw)(ws:List dH)(cs:List Int)(o:QI):Prop where
 len:o.cs.length=cs.length
 ok: ∀c∈o.cs,Wd c
 oks: ∀d∈o.ws,TJ 0 d
 all:o.er=none->Ws (ab++rs.map Rw.mk) o.ws
 ext: ∃ex,o.ws=ws++ex/\ex.length<=rs.length
theorem kept: ∀{rs:List Rw} {ab:List Bool} {ws:List dH} {cs:List Int},XA ab rs->Ws ab ws->(∀c∈cs,Wd c)->(∀d∈ws,TJ 0 d)->Kept ab rs ws cs (go rs ws cs)
 |[],ab,ws,cs,_,W,hcs,hws=>⟨rfl,hcs,hws,fun _=>by simpa[go] using W,[],by simp[go],by simp⟩
 | r :: rs,ab,ws,cs,⟨h1,h2⟩,W,hcs,hws => by
  cases e:ZS (wv ws) cs r with
  |bad s=>
   rw[V5 e];exact⟨rfl,hcs,hws,(fun z=>nomatch z),[],by simp,by simp⟩
  |ok m cs'=>
   rw[TD e];obtain⟨a,b,c,d⟩:=O0 h1 (fun a ha=>(W.word (h1.nm a ha)).2) hcs e;have k:=kept h2 (W.snoc d) b (fun x hx=>by
    rcases Cn.mp hx with z|z
    ·exact hws x z
    ·rw[Aj.mp z];exact c)
   obtain⟨ex,e1,e2⟩:=k.ext;exact⟨k.len.trans a,k.ok,k.oks,fun z=>by simpa using k.all z,m::ex,by rw[e1];simp,by simpa using e2⟩
theorem OG: ∀{rs:List Rw} {ws:List dH} {cs:List Int},go (rs++qs) ws cs=if(go rs ws cs).er=none then go qs (go rs ws cs).ws (go rs ws cs).cs else go rs ws cs
 |[],ws,cs=>by simp[go]
 |r::rs,ws,cs=>by
  cases e:ZS (wv ws) cs r with
  |bad s=>rw[Ca,V5 e,V5 e];simp
  |ok m cs'=>rw[Ca,TD e,TD e];exact OG
theorem G3: ∀{rs:List Rw} {ws:List dH} {cs:List Int},∃ex,(go rs ws cs).ws=ws++ex/\ex.length<=rs.length
 |[],ws,cs=>⟨[],by simp[go],by simp⟩
 | r :: rs,ws,cs => by
  cases e:ZS (wv ws) cs r with
  |bad s=>rw[V5 e];exact⟨[],by simp,by simp⟩
  |ok m cs'=>
   rw[TD e];obtain⟨ex,e1,e2⟩:=G3 (rs:=rs) (ws:=ws++[m]) (cs:=cs');exact⟨m::ex,by rw[e1];simp,by simpa using e2⟩
noncomputable def fW(lm:List dH):dH->dH
 | .int a=> .int (wv lm a)
 |_=> .non
theorem zAE(lm:List dH)(as:List Int):(as.map dH.int).map (fW lm)=(as.map (wv lm)).map dH.int:=by simp[fW]
theorem S9{as:List Int}{d:dH}{ws:List dH}(has:as.length<=3)(h: ∀a∈as,cL d (.int a)=some (.int (wv ws a))):ZN 1 1 (gN 1) VQ (f2 cL (fO 0) (fV 1)) (as.map .int) [] [.ow d]=some ((as.map (wv ws)).map .int,[.ow d]):=by
 rw[WK 1 _ [.ow d] (fW ws) rfl _ [] (fun e he=> ?_) (by simp;lia),zAE]
 ·rfl
 ·obtain⟨a,ha,rfl⟩:=Fc.mp he
  simp[h a ha,fW]
theorem T9(i:Nat)(d:dH)(ds:List dH):X7 i (d::ds)= .tup [.int i,d]::X7 (i+1) ds:=rfl
abbrev GP(a b:Nat):VG:=N8 2 (b7 (gN a) (b7 (gN b) ZC))
noncomputable def CV(rws:dH)(cs:List dH)(ws:List dH)(a b c d:Sl):Ev:=
 [.va rws,.ow (.lst cs),.ow (.lst ws),a,b,c,d]
theorem zK2{rws:dH}{cs ws:List dH}{a b c d:Sl}{i r:dH}:GP 3 4 (.tup [i,r]) (CV rws cs ws a b c d)=some (CV rws cs ws (.va i) (.va r) c d):=by simp[CV]
theorem BC(h:r.Ok (Ab ab))(W:Ws ab ws)(hl:ws.length<16777216)(rws i:dH)(c d:Sl):W5 (CV rws (cs.map .int) ws (.va i) (.va r.dat) c d)=match ZS (wv ws) cs r with
  | .ok m cs'=>some (.nx (CV rws (cs'.map .int) (ws++[m]) (.va i) (.va r.dat) (.va m) (.va .non)))
  | .bad s=>some (.rt (.tup [.lst ws,.tup [i,.str s]]) (CV rws (cs.map .int) ws (.va i) (.va r.dat) (.va .non) (.va (.str s)))):=by
 have c2:=S9 (d:= .lst ws) (ws:=ws) Rw.nl fun a ha=>by
  rw[zA6];exact(W.word (h.nm a ha)).1
 have p2:=zDZ (cs:=cs) h fun a ha=>(W.word (h.nm a ha)).2;have np:=h.names.1;generalize (r.nms.map (wv ws)).map dH.int=zs at c2 p2;unfold W5;cases e:ZS (wv ws) cs r with
 |ok m cs'=>rw[e] at p2;simp[CV,np,a8,c2,p2,VM.out,hl]
 |bad s=>rw[e] at p2;simp[CV,np,a8,c2,p2,VM.out]
theorem FZ: ∀{rs:List Rw} {ab:List Bool} {ws:List dH} {cs:List Int},XA ab rs->Ws ab ws->(∀c∈cs,Wd c)->ws.length+rs.length<1000-> ∀rws a b c d,∃a' b' c' d',ZJ (GP 3 4) W5 (X7 ws.length (rs.map Rw.dat)) (CV rws (cs.map .int) ws a b c d)=some (match(go rs ws cs).er with
  |none=> .nx (CV rws ((go rs ws cs).cs.map .int) (go rs ws cs).ws a' b' c' d')
  |some s=> .rt (.tup [.lst (go rs ws cs).ws,.tup [.int (go rs ws cs).ws.length,.str s]]) (CV rws ((go rs ws cs).cs.map .int) (go rs ws cs).ws a' b' c' d'))
 |[],ab,ws,cs,_,_,_,_,rws,a,b,c,d=>⟨a,b,c,d,by simp[go,X7]⟩
 | r :: rs,ab,ws,cs,⟨h1,h2⟩,W,hcs,hk,rws,a,b,c,d => by
  simp only[Az] at hk;have st:=BC (cs:=cs) h1 W (by lia) rws (.int ws.length) c d;rw[Ay,T9,XF,zK2,U3,st];cases e:ZS (wv ws) cs r with
  |bad s=>
   rw[V5 e];exact⟨_,_,_,_,rfl⟩
  |ok m cs'=>
   rw[TD e];obtain⟨_,k1,_,k2⟩:=O0 h1 (fun a ha=>(W.word (h1.nm a ha)).2) hcs e;obtain⟨a',b',c',d',ih⟩:=FZ h2 (W.snoc k2) k1 (by simp;lia) rws (.va (.int ws.length)) (.va r.dat) (.va m) (.va .non);rw[Al,Bx] at ih;exact⟨a',b',c',d',by rw[U4];exact ih⟩
theorem IW{cs:List Int}{sure:Int}(hcs: ∀c∈cs,Wd c)(h1:sure<=cs.length)(h2:cs.length<=64):ZL [.lst (cs.map .int),.int sure]=some (.bl true,[]):=by
 have e:=WK 0 (cS 3 [] bN (aE (fV 0) (aE (fC (.int 0)) (aE (fC bA) cF)))) [] (fun _=> .bl true) rfl (cs.map .int) [] (fun x hx=>by
  obtain⟨w,hw',rfl⟩:=Fc.mp hx;have:=hcs w hw'
  simp[bA,this.1,this.2]) (by simp;lia)
 have h3:(cs.length:Int)<=64:=by lia
 unfold ZL;rw[cW];unfold SK;simp only[Dg] at e;simp[cR,VT,h1,h3,a8,e]
theorem IN(blk rws:dH)(sure:Int): ∀{rs:List Rw} {ab:List Bool},XA ab rs->ab.length+rs.length<1000-> ∀s:Sl,∃s',ZJ (gN 4) XT (rs.map Rw.dat) [.va blk,.va (.int sure),.va rws,.ow (.lst (ab.map .bl)),s]=some (.nx [.va blk,.va (.int sure),.va rws,.ow (.lst ((ab++rs.map Rw.mk).map .bl)),s'])
 |[],ab,_,_,s=>⟨s,by simp⟩
 | r :: rs,ab,⟨h1,h2⟩,hk,s => by
  simp only[Az] at hk;obtain⟨s',ih⟩:=IN blk rws sure h2 (by simp;lia) (.va r.dat);refine⟨s',?_⟩;have e:=JO h1.row;have em:=h1.made;have hk':ab.length<16777216:=by lia
  rw[Ay,XF,JJ,U3];have b1:XT [.va blk,.va (.int sure),.va rws,.ow (.lst (ab.map .bl)),.va r.dat]=some (.nx [.va blk,.va (.int sure),.va rws,.ow (.lst ((ab++[r.mk]).map .bl)),.va r.dat]):=by
   unfold XT;simp[e,em,hk',dH.hard]
  have s1:([.va blk,.va (.int sure),.va rws,.ow (.lst (ab.map .bl)),s]:Ev).set 4 (.va r.dat)=[.va blk,.va (.int sure),.va rws,.ow (.lst (ab.map .bl)),.va r.dat]:=rfl;rw[s1,b1,U4,ih];simp
theorem zF4{sure:Int}(h:XA [] rs)(s0:0<=sure)(s1:sure<=64)(r40:rs.length<=40)(hcs: ∀c∈cs,Wd c)(hs:sure<=cs.length)(iz:cs.length<=64):
  ME [.tup [.int sure,.tup (rs.map Rw.dat)],.lst (cs.map .int)]=some (.tup [.lst ((go rs [] cs).cs.map .int),(go rs [] cs).fd],[]):=by
 obtain⟨s',e1⟩:=IN (.tup [.int sure,.tup (rs.map Rw.dat)]) (.tup (rs.map Rw.dat)) sure h (by simp;lia) .no;simp only[Co] at e1;have h40: ¬(40:Int)<(rs.length:Int):=by lia
 have e2:YD [.tup [.int sure,.tup (rs.map Rw.dat)]]=some (.bl true,[]):=by
  unfold YD;rw[cW,SJ.eq_1];simp[cR,X6,X5,s0,s1,h40,e1]
 have e3:=IW hcs hs iz;have ec:YY [.tup [.int sure,.tup (rs.map Rw.dat)],.lst (cs.map .int)]=some (.non,[]):=by
  unfold YY;rw[cW];unfold UQ;simp[cR,e2,e3]
 obtain⟨a',b',c',d',e4⟩:=FZ h Ws.nil hcs (by simp;lia) (.tup (rs.map Rw.dat)) .no .no .no .no;have e5:XQ [.tup (rs.map Rw.dat),.lst (cs.map .int)]=some (.tup [.lst (go rs [] cs).ws,(go rs [] cs).fd],[.lst ((go rs [] cs).cs.map .int)]):=by
  unfold QI.fd;simp only[CV,Jv] at e4;unfold XQ;rw[cW,QQ.eq_1];cases he:(go rs [] cs).er with
  |none=>rw[he] at e4;simp[cR,e4]
  |some s=>rw[he] at e4;simp[cR,e4]
 unfold ME;rw[cW];unfold zAP;simp[cR,ec,e5]
end
@[simp] theorem zNC{ds:List dH}:SZ (.lst ds) .non=some (.bl false):=(rfl)
@[simp] theorem zL5{ds:List dH}:WM (.lst ds) .non=some (.bl true):=(rfl)
@[simp] theorem zNG{x y:Bool}:XX (.bl x) (.bl y)=some (.bl (x==y)):=by cases x<;>cases y<;>kernel_rfl
@[simp] theorem zNH{ds es:List dH}:mExt ds [.lst es]=if ds.length+es.length<=16777216 then some (ds++es) else none:=(rfl)
@[simp] theorem zKY{ds:List dH}{k:Int}:FP (.lst ds) (.int k)=if(0<=k/\k<4611686018427387904)/\ds.length*k.toNat<=16777216 then some (.lst (S5 k.toNat ds)) else none:=by
 show(if(0<=k/\k<2 ^ 62)/\_ then _ else _)=_;rw[show(2:Int) ^ 62=4611686018427387904 by decide]
noncomputable def YH(c:Int)(s1 s2:List Rw):dH:= .tup [.str "if",.int c,.tup (s1.map Rw.dat),.tup (s2.map Rw.dat)]
noncomputable abbrev offs(rs:List Rw):List Bool:=rs.map fun _=>false
structure aH(hd s1 s2:List Rw)(c:Int):Prop where
 h0:XA [] hd
 hc:Ab (hd.map Rw.mk) c
 h1:XA (hd.map Rw.mk++[false]) s1
 h2:XA (hd.map Rw.mk++[false]++offs s1) s2
 len:hd.length+s1.length+s2.length<20
theorem XA.ok: ∀{rs:List Rw} {ab:List Bool},XA ab rs-> ∀r∈rs,∃M,r.Ok M
 |_::_,_,⟨h1,h2⟩,r,h=>by
  rcases Ap.mp h with z|z
  ·rw[z];exact⟨_,h1⟩
  ·exact XA.ok h2 r z
theorem XA.noif{rs:List Rw}{ab:List Bool}(h:XA ab rs): ∀r∈rs,¬r.hd= "if":=fun r hr=>let ⟨_,k⟩:=h.ok r hr;k.noif
section
variable{R:cO}{ab:List Bool}{rs hd s1 s2:List Rw}{c:Int}{tl:List dH}
theorem S8(th able deep:dH): ∀{rs:List Rw} {ab:List Bool},XA ab rs->ab.length+rs.length<=20-> ∀s,∃s',ZJ (gN 4) (aM R) (rs.map Rw.dat++tl) [.va th,.va able,.va deep,.va (.lst (ab.map .bl)),s]=ZJ (gN 4) (aM R) tl [.va th,.va able,.va deep,.va (.lst ((ab++rs.map Rw.mk).map .bl)),s']
 |[],ab,_,_,s=>⟨s,by simp⟩
 | r :: rs,ab,⟨h1,h2⟩,hk,s => by
  simp only[Az] at hk;obtain⟨s',ih⟩:=S8 th able deep h2 (by simp;lia) (.va r.dat);refine⟨s',?_⟩;have e:=JO h1.row;have em:=h1.made;have ei:=h1.isif;have hk':ab.length+1<=16777216:=by lia
  have hg: ¬(20:Int)<(ab.length:Int)+1:=by lia
  rw[Ay,Ca,XF,JJ,U3];have b1:aM R [.va th,.va able,.va deep,.va (.lst (ab.map .bl)),.va r.dat]=some (.nx [.va th,.va able,.va deep,.va (.lst ((ab++[r.mk]).map .bl)),.va r.dat]):=by
   unfold aM;simp[e,em,ei,hk',hg,ZI]
  have s1:([.va th,.va able,.va deep,.va (.lst (ab.map .bl)),s]:Ev).set 4 (.va r.dat)=[.va th,.va able,.va deep,.va (.lst (ab.map .bl)),.va r.dat]:=rfl;rw[s1,b1,U4,ih];simp
theorem BO{deep:dH}(n:Nat)(h:XA ab rs)(hk:ab.length+rs.length<=20):bW (n+1) [.tup (rs.map Rw.dat),.lst (ab.map .bl),deep]=some (.lst ((ab++rs.map Rw.mk).map .bl),[]):=by
 show bU 5 [] (aI (bW n)) _=_;obtain⟨s',e⟩:=S8 (R:=bW n) (tl:=[]) (.tup (rs.map Rw.dat)) (.lst (ab.map .bl)) deep h hk .no;rw[Bm] at e;rw[cW,aI.eq_1];simp[cR,e]
theorem zF5{d:dH}(k:Nat):S5 k [d]=Bh k d:=by
 unfold S5;induction k with
 |zero=>rfl
 |succ k ih=>rw[Cp,Fa,ih,Cp];rfl
theorem J2: ∀rs:List Rw,Bh rs.length (dH.bl false)=(offs rs).map .bl
 |[]=>rfl
 |r::rs=>by simp only[Az,Cp,J2 rs,Ay]
theorem OY(n:Nat)(th able:dH)(h:XA ab rs)(hk:ab.length+rs.length<=20)(s:Sl):ZE (bW (n+1)) [.va th,.va able,.va (.int 0),.va (.lst (ab.map .bl)),.va (.tup (rs.map Rw.dat)),s]=some (.nx [.va th,.va able,.va (.int 0),.va (.lst ((ab++offs rs).map .bl)),.va (.tup (rs.map Rw.dat)),.va (.lst ((ab++rs.map Rw.mk).map .bl))]):=by
 have e:=BO (deep:= .int 1) n h hk;have h1:((ab.length:Int)+(rs.length:Int) - (ab.length:Int))=(rs.length:Int):=by lia
 have h2:(rs.length:Int)<4611686018427387904:=by lia
 have h3:rs.length<=16777216:=by lia
 have h4:ab.length+rs.length<=16777216:=by lia
 have h5:=J2 rs;unfold ZE;simp only[Bo] at e;simp -implicitDefEqProofs [e,h1,h2,h3,h4,zF5,h5]
theorem BP(n:Nat)(T:aH hd s1 s2 c):Z9 (bW (n+1)) [YH c s1 s2,.lst ((hd.map Rw.mk).map .bl),.int 0]=some (.lst ((hd.map Rw.mk++[false]++offs s1++offs s2).map .bl),[]):=by
 have hl:=T.len;have e1:=OY n (YH c s1 s2) (.lst ((hd.map Rw.mk).map .bl)) T.h1 (by simp;lia) .no;have e2:=OY n (YH c s1 s2) (.lst ((hd.map Rw.mk).map .bl)) T.h2 (by simp;lia) (.va (.lst ((hd.map Rw.mk++[false]++s1.map Rw.mk).map .bl)));have em:=zAD T.hc;have h1:hd.length+1<=16777216:=by lia
 generalize hA:(hd.map Rw.mk).map dH.bl=A at em e1 e2;have hAl:A.length=hd.length:=by rw[<- hA];simp
 have e0:(hd.map Rw.mk++[false]).map dH.bl=A++[.bl false]:=by rw[Bo,hA];rfl
 rw[e0] at e1;unfold Z9;rw[cW,ZQ.eq_1];unfold YH at e1 e2⊢;simp[cR,em,UN,hAl,h1];rw[e1];simp only[U4,XF,JJ,U3,Lc,Ld,zAS];rw[e2];simp
theorem F2{sure:Int}(T:aH hd s1 s2 c)(s0:0<=sure)(s1':sure<=64):Y0 [.tup [.int sure,.tup (hd.map Rw.dat++[YH c s1 s2])]]=some (.bl true,[]):=by
 have hl:=T.len;have e:bW 4 [.tup (hd.map Rw.dat++[YH c s1 s2]),.lst [],.int 0]=some (.lst ((hd.map Rw.mk++[false]++offs s1++offs s2).map .bl),[]):=by
  show bU 5 [] (aI (bW 3)) _=_;obtain⟨s',e⟩:=S8 (R:=bW 3) (tl:=[YH c s1 s2]) (.tup (hd.map Rw.dat++[YH c s1 s2])) (.lst []) (.int 0) T.h0 (by simp;lia) .no;have e2:=BP 2 T;have ei:TZ [YH c s1 s2]=some (.bl true,[]):=by kernel_rfl
  simp only[Co,Dg] at e;have hg: ¬(20:Int)<(hd.length:Int)+((s1.length:Int)+((s2.length:Int)+1)):=by lia
  have hg2: ¬(20:Int)<(hd.length:Int)+1+(s1.length:Int)+(s2.length:Int):=by lia
  generalize hA:(hd.map Rw.mk).map dH.bl=A at e e2;generalize hB:(hd.map Rw.mk++[false]++offs s1++offs s2).map dH.bl=B at e2;have hBl:(B.length:Int)<=20:=by rw[<- hB];simp;lia
  have pq: ¬(20:Int)<(B.length:Int):=by lia
  rw[cW,aI.eq_1];simp[cR,e];unfold aM;simp[ei,e2,ZI,pq]
 unfold Y0;rw[cW];unfold QS;simp[cR,X6,s0,s1',e]
noncomputable def pD:Option (Int×Bool)->dH
 |none=> .tup []
 |some (c,b)=> .tup [.tup [.int c,.bl b]]
theorem QZ(rows pth:dH): ∀{rs:List Rw} {acc:List dH},(∀r∈rs,¬r.hd= "if")->acc.length+rs.length<1000-> ∀s,∃s',ZJ (gN 3) (YG R) (rs.map Rw.dat++tl) [.va rows,.va pth,.ow (.lst acc),s]=ZJ (gN 3) (YG R) tl [.va rows,.va pth,.ow (.lst (acc++rs.map fun r=> .tup [r.dat,pth])),s']
 |[],acc,_,_,s=>⟨s,by simp⟩
 | r :: rs,acc,h,hk,s => by
  simp only[Az] at hk;obtain⟨s',ih⟩:=QZ rows pth (rs:=rs) (acc:=acc++[.tup [r.dat,pth]]) (fun q hq=>h q (Aw _ hq)) (by simp;lia) (.va r.dat);refine⟨s',?_⟩;have hk':acc.length<16777216:=by lia
  have hi:=h r Bg;rw[Ay,Ca,XF,JJ,U3];have b1:YG R [.va rows,.va pth,.ow (.lst acc),.va r.dat]=some (.nx [.va rows,.va pth,.ow (.lst (acc++[.tup [r.dat,pth]])),.va r.dat]):=by
   unfold YG;simp[hk',hi]
  have s1:([.va rows,.va pth,.ow (.lst acc),s]:Ev).set 3 (.va r.dat)=[.va rows,.va pth,.ow (.lst acc),.va r.dat]:=rfl;rw[s1,b1,U4,ih];simp
theorem MZ(n:Nat)(pth:dH)(h: ∀r∈rs,¬r.hd= "if") (hk:rs.length<1000):YQ (n+1) [.tup (rs.map Rw.dat),pth]=some (.lst (rs.map fun r=> .tup [r.dat,pth]),[]):=by
 show bU 4 [] (XH (YQ n)) _=_;obtain⟨s',e⟩:=QZ (R:=YQ n) (tl:=[]) (.tup (rs.map Rw.dat)) pth (acc:=[]) h (by simpa using hk) .no;rw[Bm] at e;rw[cW,XH.eq_1];simp[cR,e]
noncomputable abbrev IH(o:Option (Int×Bool))(rs:List Rw):List dH:=rs.map fun r=> .tup [r.dat,pD o]
theorem JU{o:Option (Int×Bool)}{r:Rw}{rs:List Rw}:IH o (r::rs)= .tup [r.dat,pD o]::IH o rs:=rfl
theorem HA(T:aH hd s1 s2 c):YQ 4 [.tup (hd.map Rw.dat++[YH c s1 s2]),.tup []]=some (.lst (IH none hd++(.tup [YH c s1 s2,.tup []]::(IH (some (c,true)) s1++IH (some (c,false)) s2))),[]):=by
 have hl:=T.len;show bU 4 [] (XH (YQ 3)) _=_;obtain⟨s',e⟩:=QZ (R:=YQ 3) (tl:=[YH c s1 s2]) (.tup (hd.map Rw.dat++[YH c s1 s2])) (.tup []) (acc:=[]) T.h0.noif (by simp;lia) .no;have e1:=MZ 2 (pD (some (c,true))) T.h1.noif (by lia);have e2:=MZ 2 (pD (some (c,false))) T.h2.noif (by lia);have k1:hd.length<16777216:=by lia
 have k2:hd.length+1+s1.length<=16777216:=by lia
 have k3:hd.length+1+s1.length+s2.length<=16777216:=by lia
 have k4:hd.length+(s1.length+1)+s2.length<=16777216:=by lia
 have k5:hd.length+(s1.length+1+s2.length)<=16777216:=by lia
 rw[cW,XH.eq_1];simp only[pD] at e1 e2⊢;simp[cR,e];unfold YG;simp[YH,k1,e1,e2,k2,k3,k4,k5];rfl
noncomputable def RD(rws:dH)(cs:List dH)(ws:List dH)(a b c d e:Sl):Ev:=
 [.va rws,.ow (.lst cs),.ow (.lst ws),a,b,c,d,e]
noncomputable abbrev GT:VG:=N8 2 (b7 (gN 3) (b7 (N8 2 (b7 (gN 4) (b7 (gN 5) ZC))) ZC))
theorem zAM{rws:dH}{cs ws:List dH}{a b c d e:Sl}{i r p:dH}:GT (.tup [i,.tup [r,p]]) (RD rws cs ws a b c d e)=some (RD rws cs ws (.va i) (.va r) (.va p) d e):=by simp[RD]
noncomputable def on(ws:List dH):Option (Int×Bool)->Bool
 |none=>true
 |some (c,b)=>(!decide (wv ws c=0))==b
def okP(ab:List Bool)(o:Option (Int×Bool)):Prop:= ∀c b,o=some (c,b)->Ab ab c
variable{ws:List dH}{cs:List Int}{r:Rw}{o:Option (Int×Bool)}
theorem zFU{es:List dH}(W:Ws ab ws)(hp:okP ab o):on (ws++es) o=on ws o:=by
 cases o with
 |none=>rfl
 |some q=>
  obtain⟨c,b⟩:=q;have h:=hp c b rfl;simp only[on];rw[aX h.1 (W.lt h)]
theorem zBF(h:r.Ok (Ab ab))(W:Ws ab ws)(hp:okP ab o)(ho:on ws o=true)(hl:ws.length<16777216)(rws i:dH)(d e:Sl):bF (RD rws (cs.map .int) ws (.va i) (.va r.dat) (.va (pD o)) d e)=match ZS (wv ws) cs r with
  | .ok m cs'=>some (.nx (RD rws (cs'.map .int) (ws++[m]) (.va i) (.va r.dat) (.va (pD o)) (.va m) (.va .non)))
  | .bad s=>some (.rt (.tup [i,.str s]) (RD rws (cs.map .int) ws (.va i) (.va r.dat) (.va (pD o)) (.va .non) (.va (.str s)))):=by
 have c2:=S9 (d:= .lst ws) (ws:=ws) Rw.nl fun a ha=>by
  rw[zA6];exact(W.word (h.nm a ha)).1
 have p2:=zDZ (cs:=cs) h fun a ha=>(W.word (h.nm a ha)).2;have np:=h.names.1;have hi:=h.noif;generalize (r.nms.map (wv ws)).map dH.int=zs at c2 p2;unfold bF;cases o with
 |none=>
  cases e:ZS (wv ws) cs r with
  |ok m cs'=>rw[e] at p2;simp[RD,np,a8,c2,p2,VM.out,hl,hi,pD]
  |bad s=>rw[e] at p2;simp[RD,np,a8,c2,p2,VM.out,hi,pD]
 |some q=>
  obtain⟨c,b⟩:=q;have hw:=(W.word (hp c b rfl)).1;unfold on at ho;cases e:ZS (wv ws) cs r with
  |ok m cs'=>rw[e] at p2;simp[RD,np,a8,c2,p2,VM.out,hl,hi,pD,hw,ho]
  |bad s=>rw[e] at p2;simp[RD,np,a8,c2,p2,VM.out,hi,pD,hw,ho]
theorem BZ(hi: ¬r.hd= "if") (W:Ws ab ws) (hp:okP ab o) (ho:on ws o=false) (es:List dH) (hl:ws.length+es.length<16777216) (rws i:dH) (d e:Sl):bF (RD rws (cs.map .int) (ws++es) (.va i) (.va r.dat) (.va (pD o)) d e)=some (.nx (RD rws (cs.map .int) (ws++es++[.non]) (.va i) (.va r.dat) (.va (pD o)) (.va .non) (.va .non))):=by
 unfold bF;cases o with
 |none=>cases ho
 |some q=>
  obtain⟨c,b⟩:=q;have h:=hp c b rfl;have hw:=(W.word h).1;rw[<- SG (es:=es) h.1 (W.lt h)] at hw;unfold on at ho;simp[RD,a8,hi,pD,hw,ho,hl]
theorem PN: ∀{rs:List Rw} {ab:List Bool} {ws:List dH} {cs:List Int},XA ab rs->Ws ab ws->(∀c∈cs,Wd c)->okP ab o->on ws o=true->ws.length+rs.length<1000-> ∀rws a b c d e,∃a' b' c' d' e',ZJ GT bF (X7 ws.length (IH o rs++tl)) (RD rws (cs.map .int) ws a b c d e)=match(go rs ws cs).er with
  |none=>ZJ GT bF (X7 (go rs ws cs).ws.length tl) (RD rws ((go rs ws cs).cs.map .int) (go rs ws cs).ws a' b' c' d' e')
  |some s=>some (.rt (.tup [.int (go rs ws cs).ws.length,.str s]) (RD rws ((go rs ws cs).cs.map .int) (go rs ws cs).ws a' b' c' d' e'))
 |[],ab,ws,cs,_,_,_,_,_,_,rws,a,b,c,d,e=>⟨a,b,c,d,e,by simp[go]⟩
 | r :: rs,ab,ws,cs,⟨h1,h2⟩,W,hcs,hp,ho,hk,rws,a,b,c,d,e => by
  simp only[Az] at hk;have st:=zBF (cs:=cs) h1 W hp ho (by lia) rws (.int ws.length) d e;rw[JU,Ca,T9,XF,zAM,U3,st];cases e:ZS (wv ws) cs r with
  |bad s=>
   rw[V5 e];exact⟨_,_,_,_,_,rfl⟩
  |ok m cs'=>
   rw[TD e];obtain⟨_,k1,_,k2⟩:=O0 h1 (fun a ha=>(W.word (h1.nm a ha)).2) hcs e;obtain⟨a',b',c',d',e',ih⟩:=PN h2 (W.snoc k2) k1 (fun c b z=>(hp c b z).app) (by rw[zFU W hp];exact ho) (by simp;lia) rws (.va (.int ws.length)) (.va r.dat) (.va (pD o)) (.va m) (.va .non);rw[Al,Bx] at ih;exact⟨a',b',c',d',e',by rw[U4];exact ih⟩
theorem Q9: ∀{rs:List Rw} {es:List dH},(∀r∈rs,¬r.hd= "if")->Ws ab ws->okP ab o->on ws o=false->ws.length+es.length+rs.length<1000-> ∀rws a b c d e,∃a' b' c' d' e',ZJ GT bF (X7 (ws++es).length (IH o rs++tl)) (RD rws (cs.map .int) (ws++es) a b c d e)=ZJ GT bF (X7 (ws++(es++rs.map fun _=>dH.non)).length tl) (RD rws (cs.map .int) (ws++(es++rs.map fun _=>dH.non)) a' b' c' d' e')
 |[],es,_,_,_,_,_,rws,a,b,c,d,e=>⟨a,b,c,d,e,by simp⟩
 |r::rs,es,h,W,hp,ho,hk,rws,a,b,c,d,e=>by
  simp only[Az] at hk;have st:=BZ (cs:=cs) (h r Bg) W hp ho es (by lia) rws (.int (ws++es).length) d e;obtain⟨a',b',c',d',e',ih⟩:=Q9 (rs:=rs) (es:=es++[.non]) (fun q hq=>h q (Aw _ hq)) W hp ho (by simp;lia) rws (.va (.int (ws++es).length)) (.va r.dat) (.va (pD o)) (.va .non) (.va .non);refine⟨a',b',c',d',e',?_⟩;rw[JU,Ca,T9,XF,zAM,U3,st,U4];rw[<- Bw] at ih;rw[show(ws++es).length+1=(ws++es++[dH.non]).length by simp[Nat.add_assoc],ih];simp
theorem zBG(hl:ws.length<16777216)(rws i:dH)(d e:Sl):bF (RD rws (cs.map .int) ws (.va i) (.va (YH c s1 s2)) (.va (.tup [])) d e)=some (.nx (RD rws (cs.map .int) (ws++[.non]) (.va i) (.va (YH c s1 s2)) (.va (.tup [])) (.va .non) (.va .non))):=by
 unfold bF;simp[RD,YH,hl]
noncomputable def ref(hd s1 s2:List Rw)(c:Int)(cs:List Int):QI:=
 if(go hd [] cs).er=none then(if wv (go hd [] cs).ws c=0 then go s2 ((go hd [] cs).ws++([.non]++s1.map fun _=>dH.non)) (go hd [] cs).cs else go s1 ((go hd [] cs).ws++[.non]) (go hd [] cs).cs) else go hd [] cs
theorem Ws.offs{es:List dH}{bs:List Bool}(W:Ws ab ws)(hl:es.length=bs.length)(hb: ∀b∈bs,b=false):Ws (ab++bs) (ws++es):=by
 refine⟨by simp[W.len,hl],fun a ha=> ?_⟩;have h0:=ha.1;by_cases hi:a.toNat<ab.length
 ·have h1 : Ab ab a := ⟨h0,by have := ha.2;rwa [Ah hi] at this⟩
  obtain⟨x,hx,e⟩:=W.wd a h1;exact⟨x,hx,by rw[SG h0 (W.lt h1)];exact e⟩
 ·have e:=ha.2
  rw[An (by lia)] at e;exact absurd (hb _ (Bz e)) (by simp)
theorem mid(T:aH hd s1 s2 c)(hcs: ∀c∈cs,Wd c)(he:(go hd [] cs).er=none):Ws (hd.map Rw.mk) (go hd [] cs).ws/\Ws (hd.map Rw.mk++[false]) ((go hd [] cs).ws++[.non])/\Ws (hd.map Rw.mk++[false]++offs s1) ((go hd [] cs).ws++([.non]++s1.map fun _=>dH.non))/\(∀c∈(go hd [] cs).cs,Wd c)/\(go hd [] cs).ws.length=hd.length:=by
 have k:=kept T.h0 Ws.nil hcs (fun _ h=>nomatch h);have W:Ws (hd.map Rw.mk) (go hd [] cs).ws:=by simpa using k.all he
 refine⟨W,W.offs rfl (by simp),?_,k.ok,by rw[W.len];simp⟩;rw[Bw];exact W.offs (by simp) (by simp)
theorem GW(T:aH hd s1 s2 c)(hcs: ∀c∈cs,Wd c):XR [.tup (hd.map Rw.dat++[YH c s1 s2]),.lst (cs.map .int)]=some ((ref hd s1 s2 c cs).fd,[.lst ((ref hd s1 s2 c cs).cs.map .int)]):=by
 have hl:=T.len;have el:=HA T;generalize hrw:hd.map Rw.dat++[YH c s1 s2]=rw_ at el;obtain⟨a1,b1,c1,d1,e1,q1⟩:=PN (o:=none) (tl:= .tup [YH c s1 s2,.tup []]::(IH (some (c,true)) s1++IH (some (c,false)) s2)) T.h0 Ws.nil hcs (fun _ _ h=>nomatch h) rfl (by simp;lia) (.tup rw_) .no .no .no .no .no;unfold XR;rw[cW,QR.eq_1];have q0:ZJ GT bF (X7 0 (IH none hd++(.tup [YH c s1 s2,.tup []]::(IH (some (c,true)) s1++IH (some (c,false)) s2)))) [.va (.tup rw_),.ow (.lst (cs.map .int)),.ow (.lst []),.no,.no,.no,.no,.no]=match(go hd [] cs).er with
  |none=>ZJ GT bF (X7 (go hd [] cs).ws.length (.tup [YH c s1 s2,.tup []]::(IH (some (c,true)) s1++IH (some (c,false)) s2))) (RD (.tup rw_) ((go hd [] cs).cs.map .int) (go hd [] cs).ws a1 b1 c1 d1 e1)
  |some s=>some (.rt (.tup [.int (go hd [] cs).ws.length,.str s]) (RD (.tup rw_) ((go hd [] cs).cs.map .int) (go hd [] cs).ws a1 b1 c1 d1 e1)):=q1
 cases he:(go hd [] cs).er with
 |some s=>
  rw[he] at q0;have hr:ref hd s1 s2 c cs=go hd [] cs:=by unfold ref;rw[if_neg (by rw[he];simp)]
  rw[hr];unfold QI.fd;rw[he];simp[cR,el,q0,RD]
 |none=>
  rw[he] at q0;obtain⟨W,W1,W2,hk,hn⟩:=mid T hcs he;generalize hws:(go hd [] cs).ws=ws at*;generalize hcc:(go hd [] cs).cs=cc at*;have st:=zBG (ws:=ws) (cs:=cc) (c:=c) (s1:=s1) (s2:=s2) (by lia) (.tup rw_) (.int ws.length) d1 e1;simp only[T9,XF,zAM,U3,st,U4] at q0;have hpt:okP (hd.map Rw.mk++[false]) (some (c,true)):=fun _ _ z=>by cases z;exact T.hc.app
  have hpf:okP (hd.map Rw.mk++[false]) (some (c,false)):=fun _ _ z=>by cases z;exact T.hc.app
  have hwc:wv (ws++[.non]) c=wv ws c:=aX T.hc.1 (W.lt T.hc);by_cases hz:wv ws c=0
  ·have hr : ref hd s1 s2 c cs = go s2 (ws ++ ([.non] ++ s1.map fun _ => dH.non)) cc := by unfold ref;rw [if_pos he,hws,hcc,if_pos hz]
   rw[hr];obtain⟨a2,b2,c2,d2,e2,q2⟩:=Q9 (cs:=cc) (o:=some (c,true)) (tl:=IH (some (c,false)) s2) (rs:=s1) (es:=[]) T.h1.noif W1 hpt (by simp[on,hwc,hz]) (by simp;lia) (.tup rw_) (.va (.int ws.length)) (.va (YH c s1 s2)) (.va (.tup [])) (.va .non) (.va .non);have hp2:okP (hd.map Rw.mk++[false]++offs s1) (some (c,false)):=fun _ _ z=>by cases z;exact T.hc.app.app
   have hw2:wv (ws++([.non]++s1.map fun _=>dH.non)) c=wv ws c:=aX T.hc.1 (W.lt T.hc);obtain⟨a3,b3,c3,d3,e3,q3⟩:=PN (o:=some (c,false)) (tl:=[]) T.h2 W2 hk hp2 (by simp only[on,hw2,hz];rfl) (by simp;lia) (.tup rw_) a2 b2 c2 d2 e2;simp only[Bm,Dg,Bw] at q2 q3;rw[show ws.length+1=(ws++[dH.non]).length by simp,q2,q3] at q0;generalize go s2 (ws++([.non]++s1.map fun _=>dH.non)) cc=o at*;unfold QI.fd;cases hoe:o.er with
   |none=>rw[hoe] at q0;simp[X7] at q0;simp[cR,el,q0,RD]
   |some s=>rw[hoe] at q0;simp[cR,el,q0,RD]
  ·have hr : ref hd s1 s2 c cs = go s1 (ws ++ [.non]) cc := by unfold ref;rw [if_pos he,hws,hcc,if_neg hz]
   rw[hr];obtain⟨a2,b2,c2,d2,e2,q2⟩:=PN (o:=some (c,true)) (tl:=IH (some (c,false)) s2) T.h1 W1 hk hpt (by simp[on,hwc,hz]) (by simp;lia) (.tup rw_) (.va (.int ws.length)) (.va (YH c s1 s2)) (.va (.tup [])) (.va .non) (.va .non);have k2:=kept T.h1 W1 hk;rw[show ws.length+1=(ws++[dH.non]).length by simp,q2] at q0;cases hoe:(go s1 (ws++[.non]) cc).er with
   |some s=>
    rw[hoe] at q0;unfold QI.fd;rw[hoe];simp[cR,el,q0,RD]
   |none=>
    rw[hoe] at q0;have hex: ∃ex,(go s1 (ws++[.non]) cc).ws=ws++[.non]++ex/\ex.length<=s1.length:=G3;obtain⟨ex,hx,hxl⟩:=hex;obtain⟨a3,b3,c3,d3,e3,q3⟩:=Q9 (cs:=(go s1 (ws++[.non]) cc).cs) (o:=some (c,false)) (tl:=[]) (rs:=s2) (es:=ex) T.h2.noif W1 hpf (by simp[on,hwc,hz]) (by simp;lia) (.tup rw_) a2 b2 c2 d2 e2;simp only[Bm] at q3;rw[hx] at q0;simp only[q3] at q0;unfold QI.fd;rw[hoe];simp[X7] at q0;simp[cR,el,q0,RD]
theorem J8{sure:Int}(T:aH hd s1 s2 c)(s0:0<=sure)(s1':sure<=64)(hcs: ∀c∈cs,Wd c)(hs:sure<=cs.length)(iz:cs.length<=64):YF [.tup [.int sure,.tup (hd.map Rw.dat++[YH c s1 s2])],.lst (cs.map .int)]=some (.tup [.lst ((ref hd s1 s2 c cs).cs.map .int),(ref hd s1 s2 c cs).fd],[]):=by
 have e1:=F2 T s0 s1';have e2:=IW hcs hs iz;have e3:=GW T hcs;generalize hd.map Rw.dat++[YH c s1 s2]=rw_ at*;unfold YF;rw[cW];unfold SS;simp[cR,e1,e2,e3]
end
theorem FV: ∀(ks:List aY) (ws:List dH) (k:aY) (d:dH),ks.length=ws.length->k∉ks->YN ks ws k d=(ks++[k],ws++[d])
 |[],[],k,d,_,_=>by simp[YN]
 |k'::ks,w::ws,k,d,hl,hn=>by
  have h1: ¬k'=k:=fun e=>hn (by rw[e];exact Bg);have ih:=FV ks ws k d (by simpa using hl) fun h=>hn (Aw _ h);simp[YN,h1,ih]
theorem JR: ∀{ks:List aY} {ds:List dH} {k:aY} {v:dH} {ks':List aY} {ds':List dH},bM ks ds k=some v->bM (ks++ks') (ds++ds') k=some v
 |[],_,_,_,_,_,h=>by simp[bM] at h
 |_::_,[],_,_,_,_,h=>by simp[bM] at h
 | k' :: ks,d :: ds,k,v,ks',ds',h => by
  by_cases e:k'=k
  ·simp[bM,e] at h⊢
   exact h
  ·simp only[bM,if_neg e] at h
   simp only[Ca,bM,if_neg e];exact JR h
theorem JT: ∀{ks:List aY} {ds:List dH} {k:aY} {v:dH},ks.length=ds.length->k∉ks->bM (ks++[k]) (ds++[v]) k=some v
 |[],[],_,_,_,_=>by simp[bM]
 |k'::ks,d::ds,k,v,hl,hn=>by
  have h1: ¬k'=k:=fun e=>hn (by rw[e];exact Bg);simp only[Ca,bM,if_neg h1];exact JT (by simpa using hl) fun h=>hn (Aw _ h)
structure Dr(ab:List Bool)(ws:List dH)(ks:List aY)(ds:List dH):Prop where
 len:ks.length=ds.length
 nd:ks.Nodup
 lt: ∀k∈ks,∃i:Nat,k= .inl (i:Int)/\i<ws.length
 sm:ks.length<=ws.length
 at_: ∀a,Ab ab a->bM ks ds (.inl a)=some (.int (wv ws a))
section
variable{ab:List Bool}{ws:List dH}{ks:List aY}{ds:List dH}{R:cO}{r:Rw}{cs:List Int}{rs hd s1 s2:List Rw}{c:Int}{tl:List dH}
theorem Dr.nin(D:Dr ab ws ks ds):(.inl (ws.length:Int):aY)∉ks:=fun h=>by
 obtain⟨i,e,hi⟩:=D.lt _ h;injection e with e;lia
theorem Dr.nil:Dr [] [] [] []:=⟨rfl,.nil,(fun _ h=>nomatch h),Au _,fun a h=>by have:=h.2;simp at this⟩
theorem Dr.snoc{b:Bool}{m:dH}(D:Dr ab ws ks ds)(W:Ws ab ws)(h:b=true-> ∃x,Wd x/\m= .int x):Dr (ab++[b]) (ws++[m]) (ks++[.inl (ws.length:Int)]) (ds++[m]):=by
 refine⟨by simp[D.len],?_,fun k hk=> ?_,by have:=D.sm;simp;lia,fun a ha=> ?_⟩
 ·refine Ls.mpr ⟨D.nd,by simp,fun x hx y hy => ?_⟩
  rw[Aj.mp hy];exact fun e=>D.nin (e▸hx)
 ·rcases Cn.mp hk with z|z
  ·obtain⟨i,e,hi⟩:=D.lt k z
   exact⟨i,e,by simp;lia⟩
  ·exact⟨ws.length,Aj.mp z,by simp⟩
 ·rcases ha.inv with h1|⟨h1,h2⟩
  ·rw[JR (D.at_ a h1),aX h1.1 (W.lt h1)]
  ·obtain⟨x,_,rfl⟩:=h h2
   have e:a=ws.length:=by rw[h1,W.len]
   rw[YW e,e];exact JT D.len D.nin
theorem Dr.offs{es:List dH}{bs:List Bool}(D:Dr ab ws ks ds)(W:Ws ab ws)(hb: ∀b∈bs,b=false):Dr (ab++bs) (ws++es) ks ds:=by
 refine⟨D.len,D.nd,fun k hk=> ?_,by have:=D.sm;simp;lia,fun a ha=> ?_⟩
 ·obtain⟨i,e,hi⟩:=D.lt k hk
  exact⟨i,e,by simp;lia⟩
 ·by_cases hi:a.toNat<ab.length
  ·have h1 : Ab ab a := ⟨ha.1,by have := ha.2;rwa [Ah hi] at this⟩
   rw[D.at_ a h1,aX h1.1 (W.lt h1)]
  ·have e:=ha.2
   rw[An (by lia)] at e;exact absurd (hb _ (Bz e)) (by simp)
theorem zAJ: ∀rs:List Rw,UV (rs.map fun _=> .int 1)=some (rs.map fun _=>1)
 |[]=>rfl
 |_::rs=>by simp[UV,zAJ rs]
theorem zDE: ∀rs:List Rw,(rs.map fun _=>(1:Int)).sum=rs.length
 |[]=>rfl
 |_::rs=>by simp[zDE rs];lia
theorem PK(n:Nat)(h: ∀r∈rs,¬r.hd= "if") (hk:rs.length<1000):Z7 (n+1) [.tup (rs.map Rw.dat)]=some (.int rs.length,[]):=by
 show bU 1 [] (Y4 (Z7 n)) _=_;have e:=WK 0 (f2 bK (fC (.int 1)) (NU (fB (f2 XX (f2 cL (fV 0) (fC (.int 0))) (fC (.str "if")))) (f2 bK (cS 1 [] (Z7 n) (aE (f2 cL (fV 0) (fC (.int 2))) cF)) (cS 1 [] (Z7 n) (aE (f2 cL (fV 0) (fC (.int 3))) cF))) (fC (.int 0)))) [] (fun _=> .int 1) rfl (rs.map Rw.dat) [] (fun x hx=>by
  obtain⟨r,hr,rfl⟩:=Fc.mp hx;simp[h r hr]) (by simp;lia)
 rw[cW];unfold Y4;simp only[Dg,List.map_map] at e;have e2:(rs.map ((fun _=>dH.int 1)∘Rw.dat))=rs.map fun _=> .int 1:=rfl;rw[e2] at e;simp[cR,a8,e,oSum,zAJ,zDE]
theorem zCO(n:Nat)(T:aH hd s1 s2 c):Z7 (n+2) [.tup [YH c s1 s2]]=some (.int (1+(s1.length+s2.length)),[]):=by
 have hl:=T.len;show bU 1 [] (Y4 (Z7 (n+1))) _=_;have e1:=PK n T.h1.noif (by lia);have e2:=PK n T.h2.noif (by lia);rw[cW];unfold Y4;simp[cR,a8,YH,e1,e2,oSum,UV]
noncomputable def KG(rows:dH)(n:Nat)(ks:List aY)(ds cs:List dH)(a b c d e:Sl):Ev:=[.va rows,.va (.int n),.ow (.dct ks ds),.ow (.lst cs),a,b,c,d,e]
theorem Rw.Ok.isnum{M:Int->Prop}(h:r.Ok M):(∃n,r= .num n)∨ ¬r.hd= "number":=by
 cases r with
 |num n=>exact .inl ⟨n,rfl⟩
 |two x a b=>exact .inr (IG h.1 (by decide)).1
 |_=>exact .inr (by simp[Rw.hd])
theorem AM(h:r.Ok (Ab ab))(W:Ws ab ws)(D:Dr ab ws ks ds)(hl:ws.length<1000)(rows:dH)(b c d e:Sl): ∃d' e',cB R (KG rows ws.length ks ds (cs.map .int) (.va r.dat) b c d e)=match ZS (wv ws) cs r with
  | .ok m cs'=>some (.nx (KG rows (ws.length+1) (ks++[.inl (ws.length:Int)]) (ds++[m]) (cs'.map .int) (.va r.dat) (.va .non) c d' e'))
  | .bad s=>some (.rt (.tup [.int ws.length,.str s]) (KG rows ws.length (ks++[.inl (ws.length:Int)]) (ds++[.non]) (cs.map .int) (.va r.dat) (.va (.tup [.int ws.length,.str s])) c d' e')):=by
 have hi:=h.noif;have hkl:ks.length<16777216:=by have:=D.sm;lia
 have hnd:=D.nd;have pn:=fun m=>FV ks ds (.inl (ws.length:Int)) m D.len D.nin;have hm:=PK 3 (rs:=[r]) (by simpa using hi) (by simp);simp only[Ay,Co,Bx] at hm;rcases h.isnum with⟨n,rfl⟩|hn
 ·refine⟨d,e,?_⟩
  simp only[ZS];simp only[Rw.dat] at hm⊢;unfold cB;simp[KG,hkl,hnd,pn,hm]
 ·have c2 := S9 (d := .dct ks ds) (ws := ws) Rw.nl fun a ha => by
   rw[zCH];exact D.at_ a (h.nm a ha)
  have p2:=zH0 (cs:=cs) h hn fun a ha=>(W.word (h.nm a ha)).2;have np:=h.names.2;generalize (r.nms.map (wv ws)).map dH.int=zs at c2 p2;unfold cB;cases es:ZS (wv ws) cs r with
  |ok m cs'=>rw[es] at p2;exact⟨.va m,.va .non,by simp[KG,np,a8,c2,p2,VM.out,hi,hn,hkl,hnd,pn,hm]⟩
  |bad s=>rw[es] at p2;exact⟨.va .non,.va (.str s),by simp[KG,np,a8,c2,p2,VM.out,hi,hn,hkl,hnd,pn]⟩
theorem LU(rows:dH): ∀{rs:List Rw} {ab:List Bool} {ws:List dH} {cs:List Int} {ks:List aY} {ds:List dH},XA ab rs->Ws ab ws->Dr ab ws ks ds->(∀c∈cs,Wd c)->ws.length+rs.length<1000-> ∀a b c d e,∃ks' ds' a' b' d' e',((go rs ws cs).er=none->Dr (ab++rs.map Rw.mk) (go rs ws cs).ws ks' ds')/\ZJ (gN 4) (cB R) (rs.map Rw.dat++tl) (KG rows ws.length ks ds (cs.map .int) a b c d e)=match(go rs ws cs).er with
  |none=>ZJ (gN 4) (cB R) tl (KG rows (go rs ws cs).ws.length ks' ds' ((go rs ws cs).cs.map .int) a' b' c d' e')
  |some s=>some (.rt (.tup [.int (go rs ws cs).ws.length,.str s]) (KG rows (go rs ws cs).ws.length ks' ds' ((go rs ws cs).cs.map .int) a' b' c d' e'))
 |[],ab,ws,cs,ks,ds,_,_,D,_,_,a,b,c,d,e=>⟨ks,ds,a,b,d,e,fun _=>by simpa[go] using D,by simp[go]⟩
 | r :: rs,ab,ws,cs,ks,ds,⟨h1,h2⟩,W,D,hcs,hk,a,b,c,d,e => by
  simp only[Az] at hk;obtain⟨d1,e1,st⟩:=AM (R:=R) (cs:=cs) h1 W D (by lia) rows b c d e;have s1:(KG rows ws.length ks ds (cs.map .int) a b c d e).set 4 (.va r.dat)=KG rows ws.length ks ds (cs.map .int) (.va r.dat) b c d e:=rfl;rw[show(r::rs).map Rw.dat++tl=r.dat::(rs.map Rw.dat++tl) from rfl,XF,JJ,U3,s1,st];cases es:ZS (wv ws) cs r with
  |bad s=>
   rw[V5 es];exact⟨_,_,_,_,_,_,(fun z=>nomatch z),rfl⟩
  |ok m cs'=>
   rw[TD es];obtain⟨_,k1,_,k2⟩:=O0 h1 (fun a ha=>(W.word (h1.nm a ha)).2) hcs es;obtain⟨ks',ds',a',b',d',e',hD,ih⟩:=LU rows h2 (W.snoc k2) (D.snoc W k2) k1 (by simp;lia) (.va r.dat) (.va .non) c d1 e1;rw[Al,Bx] at ih;exact⟨ks',ds',a',b',d',e',fun z=>by simpa using hD z,by rw[U4];exact ih⟩
theorem M7(n:Nat)(h:XA ab rs)(W:Ws ab ws)(D:Dr ab ws ks ds)(hcs: ∀c∈cs,Wd c)(hk:ws.length+rs.length<1000): ∃d',b9 (n+1) [.tup (rs.map Rw.dat),.int ws.length,.dct ks ds,.lst (cs.map .int)]=some ((go rs ws cs).fd,[d',.lst ((go rs ws cs).cs.map .int)]):=by
 obtain⟨ks',ds',a',b',d',e',_,q⟩:=LU (R:=b9 n) (tl:=[]) (.tup (rs.map Rw.dat)) h W D hcs hk .no .no .no .no .no;refine⟨.dct ks' ds',?_⟩;show bU 9 [2,3] (bY (b9 n)) _=_;rw[Bm] at q;rw[cW,bY.eq_1];unfold QI.fd;simp only[KG] at q;cases he:(go rs ws cs).er with
 |none=>rw[he] at q;simp[cR,q]
 |some s=>rw[he] at q;simp[cR,q]
theorem AN(T:aH hd s1 s2 c)(hcs: ∀c∈cs,Wd c): ∃d',b9 4 [.tup (hd.map Rw.dat++[YH c s1 s2]),.int 0,.dct [] [],.lst (cs.map .int)]=some ((ref hd s1 s2 c cs).fd,[d',.lst ((ref hd s1 s2 c cs).cs.map .int)]):=by
 have hl:=T.len;generalize hrw:hd.map Rw.dat++[YH c s1 s2]=rw_;obtain⟨ks',ds',a1,b1,d1,e1,hD,q⟩:=LU (R:=b9 3) (tl:=[YH c s1 s2]) (.tup rw_) T.h0 Ws.nil Dr.nil hcs (by simp;lia) .no .no .no .no .no;rw[hrw] at q;have q0:ZJ (gN 4) (cB (b9 3)) rw_ [.va (.tup rw_),.va (.int 0),.ow (.dct [] []),.ow (.lst (cs.map .int)),.no,.no,.no,.no,.no]=_:=q;cases he:(go hd [] cs).er with
 |some s=>
  rw[he] at q0;have hr:ref hd s1 s2 c cs=go hd [] cs:=by unfold ref;rw[if_neg (by rw[he];simp)]
  refine⟨.dct ks' ds',?_⟩;show bU 9 [2,3] (bY (b9 3)) _=_;rw[hr,cW,bY.eq_1];unfold QI.fd;rw[he];simp[cR,q0,KG]
 |none=>
  rw[he] at q0;have D:=hD he;rw[Dg] at D;obtain⟨W,W1,W2,hk,hn⟩:=mid T hcs he;generalize hws:(go hd [] cs).ws=ws at*;generalize hcc:(go hd [] cs).cs=cc at*;have D1:Dr (hd.map Rw.mk++[false]) (ws++[.non]) ks' ds':=D.offs W (by simp);have D2:Dr (hd.map Rw.mk++[false]++offs s1) (ws++([.non]++s1.map fun _=>dH.non)) ks' ds':=by
   rw[Bw];exact D.offs W (by simp)
  have hm1:=PK 3 T.h1.noif (by lia);have hm2:=zCO 2 T;have hat:=D.at_ c T.hc;by_cases hz:wv ws c=0
  ·have hr : ref hd s1 s2 c cs = go s2 (ws ++ ([.non] ++ s1.map fun _ => .non)) cc := by unfold ref;rw [if_pos he,hws,hcc,if_pos hz]
   obtain⟨d2,p⟩:=M7 2 T.h2 W2 D2 hk (by simp;lia);have hln:(((ws++([dH.non]++s1.map fun _=>dH.non)).length:Nat):Int)=(ws.length:Int)+1+(s1.length:Int):=by simp;lia
   rw[hln] at p;rw[hr];refine⟨d2,?_⟩;show bU 9 [2,3] (bY (b9 3)) _=_;rw[cW,bY.eq_1];generalize go s2 (ws++([.non]++s1.map fun _=> .non)) cc=o at*;unfold QI.fd at p⊢;cases hoe:o.er with
   |none=>
    rw[hoe] at p;simp[cR,q0];unfold cB;simp only[YH] at p hm1 hm2⊢;simp[KG,hm1,hm2,hat,hz,p]
   |some s=>
    rw[hoe] at p;simp[cR,q0];unfold cB;simp only[YH] at p hm1 hm2⊢;simp[KG,hm1,hat,hz,p]
  ·have hr : ref hd s1 s2 c cs = go s1 (ws ++ [.non]) cc := by unfold ref;rw [if_pos he,hws,hcc,if_neg hz]
   obtain⟨d2,p⟩:=M7 2 T.h1 W1 D1 hk (by simp;lia);have hln:(((ws++[dH.non]).length:Nat):Int)=(ws.length:Int)+1:=by simp
   rw[hln] at p;rw[hr];refine⟨d2,?_⟩;show bU 9 [2,3] (bY (b9 3)) _=_;rw[cW,bY.eq_1];generalize go s1 (ws++[.non]) cc=o at*;unfold QI.fd at p⊢;cases hoe:o.er with
   |none=>
    rw[hoe] at p;simp[cR,q0];unfold cB;simp only[YH] at p hm1 hm2⊢;simp[KG,hm1,hm2,hat,hz,p]
   |some s=>
    rw[hoe] at p;simp[cR,q0];unfold cB;simp only[YH] at p hm1 hm2⊢;simp[KG,hm1,hat,hz,p]
end
noncomputable def Fl(L N:List dH):dH:= .flt "Flat" "laid" "numbers" L.length (L++N)
section
variable{x f g:Str}{b:Bool}{i n:Nat}{δ:Ev}{d:dH}{es L N:List dH}{fs:RH}{gs:SE}{mF:List Nat}{F:cO}
noncomputable def qFA(x f g:Str)(b:Bool)(δ:Ev):Option Sl->Option (dH×Ev)
 |some (.ow (.flt x' f' g' k ds))=>if x'=x/\f'=f/\g'=g then some (.lst (if b then ds.take k else ds.drop k),δ) else none
 |_=>none
@[simp] theorem fA_e:fA x f g b i δ=qFA x f g b δ δ[i]? :=rfl
@[simp] theorem zPB:qFA "Flat" "laid" "numbers" true δ (some (.ow (Fl L N)))=some (.lst L,δ):=by simp[qFA,Fl]
@[simp] theorem zPA:qFA "Flat" "laid" "numbers" false δ (some (.ow (Fl L N)))=some (.lst N,δ):=by simp[qFA,Fl]
noncomputable def qS3(x f g:Str)(b:Bool)(i:Nat)(es:List dH)(δ:Ev)(s:Option Sl):Option Ou:=(match s with
 |some (.ow (.flt x' f' g' k ds))=>if x'=x/\f'=f/\g'=g then some (k,ds) else none
 |_=>none).bind fun z=>match es with
 |[d]=>if z.2.length<16777216 then some (.nx (δ.set i (.ow (.flt x f g (WN b z.1 z.2 d).1 (WN b z.1 z.2 d).2)))) else none
 |_=>none
noncomputable def qS2(x f g:Str)(b:Bool)(i:Nat)(r:Option (List dH×Ev)):Option Ou:=r.bind fun r=>qS3 x f g b i r.1 r.2 r.2[i]?
noncomputable def qS1(x f g:Str)(b:Bool)(i:Nat)(fs:RH)(δ:Ev)(s:Option Sl):Option Ou:=(match s with
 |some (.ow (.flt x' f' g' k ds))=>if x'=x/\f'=f/\g'=g then some (k,ds) else none
 |_=>none:Option (Nat×List dH)).bind fun _=>qS2 x f g b i (fs δ)
@[simp] theorem zKJ:QB x f g b i fs δ=qS1 x f g b i fs δ δ[i]? :=rfl
@[simp] theorem zOW:qS1 "Flat" "laid" "numbers" b i fs δ (some (.ow (Fl L N)))=qS2 "Flat" "laid" "numbers" b i (fs δ):=by simp[qS1,Fl]
@[simp] theorem zOV:qS2 x f g b i (some (es,δ))=qS3 x f g b i es δ δ[i]? :=rfl
@[simp] theorem zOU:qS3 "Flat" "laid" "numbers" true i [d] δ (some (.ow (Fl L N)))=if L.length+N.length<16777216 then some (.nx (δ.set i (.ow (Fl (L++[d]) N)))) else none:=by simp[qS3,Fl,WN]
@[simp] theorem zOT:qS3 "Flat" "laid" "numbers" false i [d] δ (some (.ow (Fl L N)))=if L.length+N.length<16777216 then some (.nx (δ.set i (.ow (Fl L (N++[d]))))) else none:=by simp[qS3,Fl,WN]
noncomputable def qCM(x f g:Str)(i n:Nat)(mF:List Nat)(F:cO)(gs:SE)(δ:Ev)(s:Option Sl):Option (dH×Ev):=(match s with
 |some (.ow (.flt x' f' g' k ds))=>if x'=x/\f'=f/\g'=g then some (k,ds) else none
 |_=>none:Option (Nat×List dH)).bind fun _=>cS n mF F (aO i gs) δ
@[simp] theorem zK6:Z3 x f g i n mF F gs δ=qCM x f g i n mF F gs δ δ[i]? :=rfl
@[simp] theorem zPD:qCM "Flat" "laid" "numbers" i n mF F gs δ (some (.ow (Fl L N)))=cS n mF F (aO i gs) δ:=by simp[qCM,Fl]
@[simp] theorem zLE:E9 "Flat" "laid" "numbers" δ=some (Fl [] [],δ):=rfl
end
section
variable{L N:List dH}{m c row:dH}
theorem SW(hl:L.length+N.length<16777216):bG [Fl L N,row]=some (.int L.length,[Fl (L++[row]) N]):=by
 unfold bG;rw[cW];unfold SI;simp[cR,hl]
theorem KW(hl:L.length+N.length<16777216):Z8 [Fl L N,m,c]=some (.int L.length,[Fl (L++[.tup [.str "pick",m,c,.int 0]]) N]):=by
 unfold Z8;rw[cW];unfold UP;simp[cR,SW hl,NX]
end
noncomputable def V9(q:Rw)(m:Int):List Rw:=match q with
 | .take _ c _=>[.pick m c 0]
 | .put _ _ c=>[.pick m c 0]
 | .two x _ b=>if x= "over" then[.pick m b 1] else[]
 |_=>[]
noncomputable def WL(q:Rw)(m k:Int):Rw:=match q with
 | .load p=> .take p m m
 | .take p _ a=> .take p k a
 | .store p a=> .put p a m
 | .put p a _=> .put p a k
 | .two x a b=>if x= "over" then .two x a k else .two x a b
 |q=>q
theorem D9{M:Int->Prop}{q:Rw}{L N:List dH}{m:Int}(h:q.Ok M)(hl:L.length+N.length<16777216):ZU [Fl L N,q.dat,.int m]=some ((WL q m L.length).dat,[Fl (L++(V9 q m).map Rw.dat) N]):=by
 unfold ZU;rw[cW];unfold WY;cases q with
 |num n=>simp[cR,Rw.dat,WL,V9]
 |two x a b=>
  obtain⟨hx,_⟩:=h;have z1:=(IG hx (y:= "load") (by decide)).1;have z2:=(IG hx (y:= "take") (by decide)).1;have z3:=(IG hx (y:= "store") (by decide)).1;have z4:=(IG hx (y:= "put") (by decide)).1;by_cases ho:x= "over"
  ·subst ho
   simp[cR,Rw.dat,WL,V9,SW hl,IS]
  ·simp[cR,Rw.dat,WL,V9,z1,z2,z3,z4,ho]
 |pick c a b=>simp[cR,Rw.dat,WL,V9]
 |load p=>simp[cR,Rw.dat,WL,V9]
 |take p c a=>simp[cR,Rw.dat,WL,V9,KW hl]
 |store p a=>simp[cR,Rw.dat,WL,V9]
 |put p a c=>simp[cR,Rw.dat,WL,V9,KW hl]
theorem zB7{f:Int->Int}{r:Rw}:YR [r.dat,.lst ((r.nms.map f).map .int)]=some ((r.ren f).dat,[]):=by
 cases r<;>kernel_rfl
noncomputable def mD:Option Int->dH
 |none=> .non
 |some m=> .int m
noncomputable def NO(m:Option Int)(q:Rw)(k:Nat):List Rw:=match m with
 |none=>[q]
 |some m=>V9 q m++[WL q m k]
noncomputable def OL(m:Option Int)(q:Rw)(k:Nat):Nat:=match m with
 |none=>k
 |some m=>k+(V9 q m).length
noncomputable def VE(m:Option Int):List Rw->Nat->List dH->List Rw
 |[],_,_=>[]
 |r::rs,k,N=>NO m (r.ren (wv N)) k++VE m rs (OL m (r.ren (wv N)) k+1) (N++[.int (OL m (r.ren (wv N)) k)])
noncomputable def PH(m:Option Int):List Rw->Nat->List dH->List dH
 |[],_,_=>[]
 |r::rs,k,N=> .int (OL m (r.ren (wv N)) k)::PH m rs (OL m (r.ren (wv N)) k+1) (N++[.int (OL m (r.ren (wv N)) k)])
section
variable{m:Option Int}{q r:Rw}{k:Nat}{ab bab:List Bool}{N:List dH}{rs L hd s1 s2:List Rw}{R:cO}{tl:List dH}{c:Int}
theorem JY{m:Int}:(V9 q m).length<=1:=by
 unfold V9;split
 ·simp
 ·simp
 ·split<;>simp
 ·simp
theorem UE:k+(NO m q k).length=OL m q k+1:=by
 cases m with
 |none=>rfl
 |some m=>simp[NO,OL];lia
theorem zA9:k<=OL m q k/\OL m q k<=k+1:=by
 cases m with
 |none=>simp[OL]
 |some m=>
  have:=JY (q:=q) (m:=m)
  simp[OL];lia
theorem zCN{m k:Int}:(WL q m k).mk=q.mk:=by
 cases q with
 |two x a b=>unfold WL;simp only;split<;>rfl
 |_=>rfl
theorem zAC: ∃pre iw,NO m q k=pre++[iw]/\iw.mk=q.mk/\k+pre.length=OL m q k:=by
 cases m with
 |none=>exact⟨[],q,rfl,rfl,rfl⟩
 |some m=>exact⟨V9 q m,WL q m k,rfl,zCN,rfl⟩
structure Nr(ab:List Bool)(N:List dH)(bab:List Bool):Prop where
 len:N.length=ab.length
 nm: ∀a,Ab ab a->WI N a=some (.int (wv N a))/\Ab bab (wv N a)
theorem Nr.nil:Nr [] [] bab:=⟨rfl,fun a h=>by have:=h.2;simp at this⟩
theorem Nr.lt{a:Int}(Q:Nr ab N bab)(h:Ab ab a):a<N.length:=by have:=h.lt;rw[Q.len];exact this
theorem Nr.app{bb:List Bool}(Q:Nr ab N bab):Nr ab N (bab++bb):=⟨Q.len,fun a h=>⟨(Q.nm a h).1,(Q.nm a h).2.app⟩⟩
theorem Nr.offs{es:List dH}{bs:List Bool}(Q:Nr ab N bab)(hl:es.length=bs.length)(hb: ∀b∈bs,b=false):Nr (ab++bs) (N++es) bab:=by
 refine⟨by simp[Q.len,hl],fun a ha=> ?_⟩;by_cases hi:a.toNat<ab.length
 ·have h1 : Ab ab a := ⟨ha.1,by have := ha.2;rwa [Ah hi] at this⟩
  rw[SG h1.1 (Q.lt h1),aX h1.1 (Q.lt h1)];exact Q.nm a h1
 ·have e:=ha.2
  rw[An (by lia)] at e;exact absurd (hb _ (Bz e)) (by simp)
theorem Nr.step(Q:Nr ab N bab)(hm:q.mk=r.mk):Nr (ab++[r.mk]) (N++[.int (OL m q bab.length)]) (bab++(NO m q bab.length).map Rw.mk):=by
 obtain⟨pre,iw,e1,e2,e3⟩:=zAC (m:=m) (q:=q) (k:=bab.length);refine⟨by simp[Q.len],fun a ha=> ?_⟩;rcases ha.inv with h|⟨h,hb⟩
 ·rw[SG h.1 (Q.lt h),aX h.1 (Q.lt h)]
  exact⟨(Q.nm a h).1,(Q.nm a h).2.app⟩
 ·have ea : a = N.length := by rw [h,Q.len]
  rw[KU ea,YW ea];refine⟨rfl,by lia,?_⟩;rw[e1,Bo,<- Bw,An (by simp;lia)];have:(OL m q bab.length:Int).toNat - (bab++List.map Rw.mk pre).length=0:=by simp;lia
  rw[this];simp[e2,hm,hb]
theorem EB{as:List Int}(L:List dH)(has:as.length<=3)(h: ∀a∈as,WI N a=some (.int (wv N a))):ZN 1 1 (gN 1) VQ (f2 cL (fA "Flat" "laid" "numbers" false 0) (fV 1)) (as.map .int) [] [.ow (Fl L N)]=some ((as.map (wv N)).map .int,[.ow (Fl L N)]):=by
 rw[WK 1 _ [.ow (Fl L N)] (fW N) rfl _ [] (fun e he=> ?_) (by simp;lia),zAE]
 ·rfl
 ·obtain⟨a,ha,rfl⟩:=Fc.mp he
  simp[h a ha,fW]
theorem zCP(h:r.Ok (Ab ab))(Q:Nr ab N bab)(hl:L.length+N.length<1000000)(rows:dH)(s:Sl):bB R [.ow (Fl (L.map Rw.dat) N),.va rows,.va (mD m),.va r.dat,s]=some (.nx [.ow (Fl ((L++NO m (r.ren (wv N)) L.length).map Rw.dat) (N++[.int (OL m (r.ren (wv N)) L.length)])),.va rows,.va (mD m),.va r.dat,.va (r.ren (wv N)).dat]):=by
 have hi:=h.noif;have np:=h.names.1;have c2:=EB (N:=N) (L.map Rw.dat) Rw.nl fun a ha=>(Q.nm a (h.nm a ha)).1;have wn:=zB7 (f:=wv N) (r:=r);have hq:(r.ren (wv N)).Ok (fun _=>True):=h.ren fun _ _=>trivial;generalize (r.nms.map (wv N)).map dH.int=zs at c2 wn;generalize r.ren (wv N)=q at*;have h1:L.length+N.length<16777216:=by lia
 have h2:L.length+1+N.length<16777216:=by lia
 cases m with
 |none=>
  have e1:=SW (L:=L.map Rw.dat) (N:=N) (row:=q.dat) (by simpa using h1);unfold bB;simp[np,a8,c2,wn,hi,mD,e1,h2,NO,OL]
 |some m=>
  have hp:=JY (q:=q) (m:=m);have e0:=D9 (m:=m) (L:=L.map Rw.dat) (N:=N) hq (by simpa using h1);have e1:=SW (L:=L.map Rw.dat++(V9 q m).map Rw.dat) (N:=N) (row:=(WL q m L.length).dat) (by simp;lia);have h3:L.length+((V9 q m).length+1)+N.length<16777216:=by lia
  unfold bB;simp only[Av] at e0;simp[np,a8,c2,wn,hi,mD,e0,e1,h3,NO,OL]
theorem G9(rows:dH): ∀{rs:List Rw} {ab:List Bool} {N:List dH} {L:List Rw},XA ab rs->Nr ab N (L.map Rw.mk)->L.length+N.length+3*rs.length<1000000-> ∀s s',∃t t',ZJ (gN 3) (bB R) (rs.map Rw.dat++tl) [.ow (Fl (L.map Rw.dat) N),.va rows,.va (mD m),s,s']=ZJ (gN 3) (bB R) tl [.ow (Fl ((L++VE m rs L.length N).map Rw.dat) (N++PH m rs L.length N)),.va rows,.va (mD m),t,t']
 |[],ab,N,L,_,_,_,s,s'=>⟨s,s',by simp[VE,PH]⟩
 |r::rs,ab,N,L,⟨h1,h2⟩,Q,hk,s,s'=>by
  simp only[Az] at hk;have st:=zCP (R:=R) (m:=m) (L:=L) h1 Q (by lia) rows s';have Q2:=Q.step (m:=m) (q:=r.ren (wv N)) (r:=r) Rw.ren_mk;rw[Av,<- Bo] at Q2;have hml:=UE (m:=m) (q:=r.ren (wv N)) (k:=L.length);have hnl:=zA9 (m:=m) (q:=r.ren (wv N)) (k:=L.length);obtain⟨t,t',ih⟩:=G9 rows h2 Q2 (by simp;lia) (.va r.dat) (.va (r.ren (wv N)).dat);rw[Al,hml] at ih;refine⟨t,t',?_⟩;have s1:([.ow (Fl (L.map Rw.dat) N),.va rows,.va (mD m),s,s']:Ev).set 3 (.va r.dat)=[.ow (Fl (L.map Rw.dat) N),.va rows,.va (mD m),.va r.dat,s']:=rfl;rw[show(r::rs).map Rw.dat++tl=r.dat::(rs.map Rw.dat++tl) from rfl,XF,JJ,U3,s1,st,U4,ih];simp[VE,PH]
theorem P5(n:Nat)(h:XA ab rs)(Q:Nr ab N (L.map Rw.mk))(hk:L.length+N.length+3*rs.length<1000000):bV (n+1) [Fl (L.map Rw.dat) N,.tup (rs.map Rw.dat),mD m]=some (.non,[Fl ((L++VE m rs L.length N).map Rw.dat) (N++PH m rs L.length N)]):=by
 show bU 5 [0] (aT (bV n)) _=_;obtain⟨t,t',e⟩:=G9 (R:=bV n) (m:=m) (tl:=[]) (.tup (rs.map Rw.dat)) h Q hk .no .no;rw[Bm] at e;rw[cW,aT.eq_1];simp[cR,e]
end
section
variable{m:Option Int}{q r:Rw}{k:Nat}{ab bab:List Bool}{N:List dH}{rs L hd s1 s2:List Rw}{c:Int}
theorem UA: ∀{rs:List Rw} {k:Nat} {N:List dH},(VE m rs k N).length<=2*rs.length
 |[],_,_=>by simp[VE]
 |r::rs,k,N=>by
  have h1:=UE (m:=m) (q:=r.ren (wv N)) (k:=k);have h2:=zA9 (m:=m) (q:=r.ren (wv N)) (k:=k);have ih:=UA (rs:=rs) (k:=OL m (r.ren (wv N)) k+1) (N:=N++[.int (OL m (r.ren (wv N)) k)]);simp only[VE,Al,Az];lia
theorem LF: ∀{rs:List Rw} {k:Nat} {N:List dH},(PH m rs k N).length=rs.length
 |[],_,_=>by simp[PH]
 |r::rs,k,N=>by simp[PH,LF (rs:=rs)]
theorem zAR: ∀{rs:List Rw} {ab:List Bool} {N:List dH} {bab:List Bool},Nr ab N bab->Nr (ab++rs.map Rw.mk) (N++PH m rs bab.length N) (bab++(VE m rs bab.length N).map Rw.mk)
 |[],ab,N,bab,Q=>by simpa[VE,PH] using Q
 |r::rs,ab,N,bab,Q=>by
  have Q2:=Q.step (m:=m) (q:=r.ren (wv N)) (r:=r) Rw.ren_mk;have ih:=zAR (rs:=rs) Q2;have hml:=UE (m:=m) (q:=r.ren (wv N)) (k:=bab.length);rw[Al,Av,hml] at ih;simp only[VE,PH,Bo,Ay];simpa using ih
abbrev N0(hd:List Rw):List dH:=PH none hd 2 []
noncomputable abbrev L0(hd:List Rw):List Rw:=[.num 0,.num 1]++VE none hd 2 []
noncomputable abbrev Ma(hd:List Rw):Int:=(L0 hd).length
noncomputable abbrev L1(hd:List Rw)(c:Int):List Rw:=L0 hd++[.pick 1 (wv (N0 hd) c) 0]
noncomputable abbrev N1(hd:List Rw):List dH:=N0 hd++[.non]
abbrev WH(hd s1:List Rw)(c:Int):List Rw:=L1 hd c++VE (some (Ma hd)) s1 (L1 hd c).length (N1 hd)
noncomputable abbrev N2(hd s1:List Rw)(c:Int):List dH:=N1 hd++PH (some (Ma hd)) s1 (L1 hd c).length (N1 hd)
noncomputable abbrev Mb(hd s1:List Rw)(c:Int):Int:=(WH hd s1 c).length
noncomputable abbrev L3(hd s1:List Rw)(c:Int):List Rw:=WH hd s1 c++[.pick (wv (N0 hd) c) 0 1]
noncomputable abbrev L4(hd s1 s2:List Rw)(c:Int):List Rw:=L3 hd s1 c++VE (some (Mb hd s1 c)) s2 (L3 hd s1 c).length (N2 hd s1 c)
noncomputable abbrev N4(hd s1 s2:List Rw)(c:Int):List dH:=N2 hd s1 c++PH (some (Mb hd s1 c)) s2 (L3 hd s1 c).length (N2 hd s1 c)
theorem nr0:Nr (hd.map Rw.mk) (N0 hd) ((L0 hd).map Rw.mk):=by
 have h:=zAR (m:=none) (rs:=hd) (Nr.nil (bab:=[true,true]));exact h
theorem nr1:Nr (hd.map Rw.mk++[false]) (N1 hd) ((L1 hd c).map Rw.mk):=by
 have h:=(nr0 (hd:=hd)).offs (es:=[.non]) (bs:=[false]) rfl (by simp);rw[Bo];exact h.app
theorem nr2:Nr (hd.map Rw.mk++[false]++s1.map Rw.mk) (N2 hd s1 c) ((WH hd s1 c).map Rw.mk):=by
 have h:=zAR (m:=some (Ma hd)) (rs:=s1) (nr1 (hd:=hd) (c:=c));rw[Av] at h;rw[Bo];exact h
theorem Nr.dim{bs bs':List Bool}(Q:Nr (ab++bs) N bab)(hl:bs'.length=bs.length)(hb: ∀b∈bs',b=false):Nr (ab++bs') N bab:=by
 refine⟨by rw[Q.len];simp[hl],fun a ha=> ?_⟩;by_cases hi:a.toNat<ab.length
 ·have h1 : Ab ab a := ⟨ha.1,by have := ha.2;rwa [Ah hi] at this⟩
  exact Q.nm a h1.app
 ·have e:=ha.2
  rw[An (by lia)] at e;exact absurd (hb _ (Bz e)) (by simp)
theorem nr3:Nr (hd.map Rw.mk++[false]++offs s1) (N2 hd s1 c) ((L3 hd s1 c).map Rw.mk):=by
 have h:=(nr2 (hd:=hd) (s1:=s1) (c:=c)).dim (bs':=offs s1) (by simp) (by simp);rw[Bo];exact h.app
theorem lens(T:aH hd s1 s2 c):(L0 hd).length<=42/\(L1 hd c).length<=43/\(WH hd s1 c).length<=83/\(L3 hd s1 c).length<=84/\(N0 hd).length<=20/\(N1 hd).length<=21/\(N2 hd s1 c).length<=41:=by
 have hl:=T.len;have h0:=UA (m:=none) (rs:=hd) (k:=2) (N:=[]);have h1:=UA (m:=some (Ma hd)) (rs:=s1) (k:=(L1 hd c).length) (N:=N1 hd);have n0:=LF (m:=none) (rs:=hd) (k:=2) (N:=[]);have n1:=LF (m:=some (Ma hd)) (rs:=s1) (k:=(L1 hd c).length) (N:=N1 hd);have a0:(L0 hd).length=2+(VE none hd 2 []).length:=by simp;lia
 have a1:(L1 hd c).length=(L0 hd).length+1:=by simp
 have a2:(WH hd s1 c).length=(L1 hd c).length+(VE (some (Ma hd)) s1 (L1 hd c).length (N1 hd)).length:=Al;have a3:(L3 hd s1 c).length=(WH hd s1 c).length+1:=Al;have b1:(N1 hd).length=(N0 hd).length+1:=by simp
 have b2:(N2 hd s1 c).length=(N1 hd).length+(PH (some (Ma hd)) s1 (L1 hd c).length (N1 hd)).length:=Al;lia
theorem D6(T:aH hd s1 s2 c):Y8 (bV 3) [Fl ((L0 hd).map Rw.dat) (N0 hd),YH c s1 s2,.int 1]=some (.non,[Fl ((L4 hd s1 s2 c).map Rw.dat) (N4 hd s1 s2 c)]):=by
 have hl:=T.len;obtain⟨z0,z1,z2,z3,w0,w1,w2⟩:=lens T;have ec:=((nr0 (hd:=hd)).nm c T.hc).1;have e1:=P5 (m:=some (Ma hd)) 2 T.h1 (nr1 (c:=c)) (by lia);have e2:=P5 (m:=some (Mb hd s1 c)) 2 T.h2 (nr3 (c:=c)) (by lia);have b1:=KW (L:=(L0 hd).map Rw.dat) (N:=N1 hd) (m:= .int 1) (c:= .int (wv (N0 hd) c)) (by rw[Av];lia);have b2:=SW (L:=(WH hd s1 c).map Rw.dat) (N:=N2 hd s1 c) (row:= .tup [.str "pick",.int (wv (N0 hd) c),.int 0,.int 1]) (by rw[Av];lia);have hz:(L0 hd).length+(N0 hd).length<16777216:=by lia
 have x1:(L0 hd).map Rw.dat++[.tup [.str "pick",.int 1,.int (wv (N0 hd) c),.int 0]]=(L1 hd c).map Rw.dat:=(Bo (f:=Rw.dat) (l₁:=L0 hd) (l₂:=[.pick 1 (wv (N0 hd) c) 0])).symm;have x2:(WH hd s1 c).map Rw.dat++[.tup [.str "pick",.int (wv (N0 hd) c),.int 0,.int 1]]=(L3 hd s1 c).map Rw.dat:=(Bo (f:=Rw.dat) (l₁:=WH hd s1 c) (l₂:=[.pick (wv (N0 hd) c) 0 1])).symm;rw[x1,Av] at b1;rw[x2,Av] at b2;have y1:mD (some (Ma hd))= .int ((L0 hd).length:Int):=rfl;have y2:mD (some (Mb hd s1 c))= .int ((WH hd s1 c).length:Int):=rfl;rw[y1] at e1;rw[y2] at e2;have t1:Fl ((L1 hd c++VE (some (Ma hd)) s1 (L1 hd c).length (N1 hd)).map Rw.dat) (N1 hd++PH (some (Ma hd)) s1 (L1 hd c).length (N1 hd))=Fl ((WH hd s1 c).map Rw.dat) (N2 hd s1 c):=rfl;have t2:Fl ((L3 hd s1 c++VE (some (Mb hd s1 c)) s2 (L3 hd s1 c).length (N2 hd s1 c)).map Rw.dat) (N2 hd s1 c++PH (some (Mb hd s1 c)) s2 (L3 hd s1 c).length (N2 hd s1 c))=Fl ((L4 hd s1 s2 c).map Rw.dat) (N4 hd s1 s2 c):=rfl;rw[t1] at e1;rw[t2] at e2;have n1:N0 hd++[.non]=N1 hd:=rfl;have lz:((L0 hd).map Rw.dat).length+(N0 hd).length<16777216:=by rw[Av];exact hz
 generalize (L4 hd s1 s2 c).map Rw.dat=A4 at*;generalize N4 hd s1 s2 c=B4 at*;generalize (L3 hd s1 c).map Rw.dat=A3 at*;generalize (WH hd s1 c).map Rw.dat=A2 at*;generalize N2 hd s1 c=B2 at*;generalize (L1 hd c).map Rw.dat=A1 at*;generalize N1 hd=B1 at*;generalize (L0 hd).map Rw.dat=A0 at*;generalize N0 hd=B0 at*;generalize ((L0 hd).length:Int)=k0 at*;generalize ((WH hd s1 c).length:Int)=k2 at*;unfold Y8;rw[cW];unfold YB;simp only[YH];simp[cR,ec,lz,n1,b1,e1,b2,e2,NX]
noncomputable def isI:dH->Bool
 | .tup (.str s::_)=>decide (s=Bb "if")
 |_=>false
theorem zHE: ∃t,r.dat= .tup (.str (Bb r.hd)::t):=by cases r<;>exact⟨_,rfl⟩
theorem zB6: ∀hd:List Rw,QM ((hd.map Rw.dat++[YH c s1 s2]).map fun d=> .bl (isI d))=some ((hd.map Rw.dat++[YH c s1 s2]).map isI)
 |[]=>rfl
 |r::rs=>by
  rw[Ay,Ca,Ay,Ay,zHL,zB6 rs];rfl
theorem zCX{sure:Int}(T:aH hd s1 s2 c)(s0:0<=sure)(s1':sure<=64)(h40:(L4 hd s1 s2 c).length<=40):YZ [.tup [.int sure,.tup (hd.map Rw.dat++[YH c s1 s2])]]=some (.tup [.tup [.int sure,.tup ((L4 hd s1 s2 c).map Rw.dat)],.lst (N4 hd s1 s2 c)],[]):=by
 have hl:=T.len;have e0:=F2 T s0 s1';have e1:=D6 T;have cm:=WK 0 (f2 XX (f2 cL (fV 0) (fC (.int 0))) (fC (.str "if"))) [] (fun d=> .bl (isI d)) rfl (hd.map Rw.dat++[YH c s1 s2]) [] (fun x hx=>by
  rcases Cn.mp hx with h|h
  ·obtain⟨r,hr,rfl⟩:=Fc.mp h
   obtain⟨t,ht⟩:=zHE (r:=r);have hi:=T.h0.noif r hr;rw[ht];simp[isI,hi,ZR]
  ·rw[Aj.mp h]
   simp[YH,isI]) (by simp;lia)
 have an:=zB6 (c:=c) (s1:=s1) (s2:=s2) hd;have at_:((hd.map Rw.dat++[YH c s1 s2]).map isI).any id=true:=by simp[isI,YH]
 have lg:bV 4 [Fl [.tup [.str "number",.int 0],.tup [.str "number",.int 1]] [],.tup (hd.map Rw.dat++[YH c s1 s2]),.non]=some (.non,[Fl ((L4 hd s1 s2 c).map Rw.dat) (N4 hd s1 s2 c)]):=by
  show bU 5 [0] (aT (bV 3)) _=_;obtain⟨t,t',e⟩:=G9 (R:=bV 3) (m:=none) (tl:=[YH c s1 s2]) (L:=[.num 0,.num 1]) (N:=[]) (.tup (hd.map Rw.dat++[YH c s1 s2])) T.h0 Nr.nil (by simp;lia) .no .no;have x0:([.num 0,.num 1]:List Rw).map Rw.dat=[.tup [.str "number",.int 0],.tup [.str "number",.int 1]]:=rfl;rw[x0] at e;have x1:Fl (([Rw.num 0,Rw.num 1]++VE none hd ([.num 0,.num 1]:List Rw).length []).map Rw.dat) ([]++PH none hd ([.num 0,.num 1]:List Rw).length [])=Fl ((L0 hd).map Rw.dat) (N0 hd):=rfl;rw[x1] at e;have x2:mD none= .non:=rfl;rw[x2] at e;generalize hd.map Rw.dat++[YH c s1 s2]=rws at*;generalize (L4 hd s1 s2 c).map Rw.dat=A4 at*;generalize N4 hd s1 s2 c=B4 at*;generalize (L0 hd).map Rw.dat=A0 at*;generalize N0 hd=B0 at*;rw[cW,aT.eq_1];simp[cR,e];unfold bB;have hx:cL (YH c s1 s2) (.int 0)=some (.str "if"):=rfl;simp[hx,IS,e1]
 have l1:=SW (L:=[]) (N:=[]) (row:= .tup [.str "number",.int 0]) (by simp);have l2:=SW (L:=[.tup [.str "number",.int 0]]) (N:=[]) (row:= .tup [.str "number",.int 1]) (by simp);have h4: ¬(40:Int)<(((L4 hd s1 s2 c).map Rw.dat).length:Int):=by rw[Av];lia
 generalize hd.map Rw.dat++[YH c s1 s2]=rws at*;generalize (L4 hd s1 s2 c).map Rw.dat=A4 at*;generalize N4 hd s1 s2 c=B4 at*;simp only[Dg] at cm l1;generalize rws.map (fun d=>dH.bl (isI d))=bs at*;generalize rws.map isI=ks at*;unfold YZ;rw[cW];unfold US;simp only[Ca,Dg] at l2;simp[cR,e0,a8,cm,an,at_,l1,l2,lg,X5,h4]
end
section
variable{m:Option Int}{q r:Rw}{k:Nat}{ab bab:List Bool}{N ws bw:List dH}{rs L hd s1 s2:List Rw}{c:Int}{cs:List Int}{w w':Int->Int}
theorem XA.two{p q:Rw}(h1:p.Ok (Ab bab))(hp:p.mk=true)(h2:q.Ok (Ab (bab++[true]))):XA bab [p,q]:=⟨h1,by rw[hp];exact h2,trivial⟩
theorem zAB(hq:q.Ok (Ab bab))(hm: ∀k,m=some k->Ab bab k/\Ab bab 0/\Ab bab 1):XA bab (NO m q bab.length):=by
 cases m with
 |none=>exact⟨hq,trivial⟩
 |some m=>
  obtain⟨h1,h2,h3⟩:=hm m rfl;cases q with
  |num n=>exact⟨hq,trivial⟩
  |two x a b=>
   by_cases ho:x= "over"
   ·subst ho
    exact XA.two ⟨h1,hq.2.2,h3⟩ rfl ⟨hq.1,hq.2.1.app,Ab.new⟩
   ·have e : NO (some m) (.two x a b) bab.length = [.two x a b] := by simp [NO,V9,WL,ho]
    rw[e];exact⟨hq,trivial⟩
  |pick c a b=>exact⟨hq,trivial⟩
  |load p=>exact⟨⟨hq,h1,h1⟩,trivial⟩
  |take p c a=>exact XA.two ⟨h1,hq.2.1,h2⟩ rfl ⟨hq.1,Ab.new,hq.2.2.app⟩
  |store p a=>exact⟨⟨hq.1,hq.2,h1⟩,trivial⟩
  |put p a c=>exact XA.two ⟨h1,hq.2.2,h2⟩ rfl ⟨hq.1,hq.2.1.app,Ab.new⟩
theorem FE: ∀{rs:List Rw} {ab:List Bool} {N:List dH} {bab:List Bool},XA ab rs->Nr ab N bab->(∀k,m=some k->Ab bab k/\Ab bab 0/\Ab bab 1)->XA bab (VE m rs bab.length N)
 |[],_,_,_,_,_,_=>trivial
 |r::rs,ab,N,bab,⟨h1,h2⟩,Q,hm=>by
  have Q2:=Q.step (m:=m) (q:=r.ren (wv N)) (r:=r) Rw.ren_mk;have ih:=FE h2 Q2 fun k e=>let ⟨a,b,c⟩:=hm k e;⟨a.app,b.app,c.app⟩
  have hml:=UE (m:=m) (q:=r.ren (wv N)) (k:=bab.length);rw[Al,Av,hml] at ih;exact(zAB (h1.ren fun a ha=>(Q.nm a ha).2) hm).app ih
theorem zBK{f:Int->Int}:ZS w cs (r.ren f)=ZS (fun a=>w (f a)) cs r:=by cases r<;>rfl
theorem EN(h: ∀a∈r.nms,w a=w' a):ZS w cs r=ZS w' cs r:=by
 cases r with
 |num=>rfl
 |two x a b=>simp only[ZS,h a (by simp[Rw.nms]),h b (by simp[Rw.nms])]
 |pick c a b=>simp only[ZS,h a (by simp[Rw.nms]),h b (by simp[Rw.nms]),h c (by simp[Rw.nms])]
 |load=>rfl
 |take p c a=>simp only[ZS,h a (by simp[Rw.nms]),h c (by simp[Rw.nms])]
 |store p a=>simp only[ZS,h a (by simp[Rw.nms])]
 |put p a c=>simp only[ZS,h a (by simp[Rw.nms]),h c (by simp[Rw.nms])]
def VM.fin(ws:List dH)(cs:List Int):VM->QI
 | .ok m cs'=>⟨ws++[m],cs',none⟩
 | .bad s=>⟨ws,cs,some s⟩
theorem YS:go [r] ws cs=(ZS (wv ws) cs r).fin ws cs:=by
 cases e:ZS (wv ws) cs r with
 |ok m cs'=>rw[TD e];rfl
 |bad s=>rw[V5 e];rfl
theorem QT{p:Rw}{x:Int}(h:ZS (wv bw) cs p= .ok (.int x) cs):go [p,q] bw cs=(ZS (wv (bw++[.int x])) cs q).fin (bw++[.int x]) cs:=by rw[TD h,YS]
def MOn(m:Option Int)(bab:List Bool)(bw:List dH):Prop:= ∀k,m=some k->(Ab bab k/\Ab bab 0/\Ab bab 1)/\wv bw k≠0
theorem zFT(hq:q.Ok (Ab bab))(W:Ws bab bw)(hm:MOn m bab bw): ∃es,bw.length+es.length=OL m q bw.length/\go (NO m q bw.length) bw cs=(ZS (wv bw) cs q).fin (bw++es) cs:=by
 have old: ∀{x a:Int},Ab bab a->wv (bw++[.int x]) a=wv bw a:=fun h=>aX h.1 (W.lt h);cases m with
 |none=>exact⟨[],rfl,by rw[Bm];exact YS⟩
 |some m=>
  obtain⟨⟨h1,h2,h3⟩,hz⟩:=hm m rfl;cases q with
  |num n=>exact⟨[],rfl,by rw[Bm];exact YS⟩
  |two x a b=>
   by_cases ho:x= "over"
   ·subst ho
    refine⟨[.int (wv bw b)],rfl,?_⟩;refine(QT (p:= .pick m b 1) (q:= .two "over" a bw.length) (x:=wv bw b) (by simp[ZS,hz])).trans ?_;simp only[ZS,YW (ws:=bw) (es:=[]) (x:=wv bw b) rfl,old hq.2.1]
   ·have e : NO (some m) (.two x a b) bw.length = [.two x a b] := by simp [NO,V9,WL,ho]
    have e2:OL (some m) (.two x a b) bw.length=bw.length:=by simp[OL,V9,ho]
    rw[e,e2];exact⟨[],rfl,by rw[Bm];exact YS⟩
  |pick c a b=>exact⟨[],rfl,by rw[Bm];exact YS⟩
  |load p=>exact⟨[],rfl,by rw[Bm];exact YS.trans (by simp[WL,ZS,hz])⟩
  |take p c a=>
   refine⟨[.int (wv bw c)],rfl,?_⟩;refine(QT (p:= .pick m c 0) (q:= .take p bw.length a) (x:=wv bw c) (by simp[ZS,hz])).trans ?_;simp only[ZS,YW (ws:=bw) (es:=[]) (x:=wv bw c) rfl,old hq.2.2]
  |store p a=>exact⟨[],rfl,by rw[Bm];exact YS.trans (by simp[WL,ZS,hz])⟩
  |put p a c=>
   refine⟨[.int (wv bw c)],rfl,?_⟩;refine(QT (p:= .pick m c 0) (q:= .put p a bw.length) (x:=wv bw c) (by simp[ZS,hz])).trans ?_;simp only[ZS,YW (ws:=bw) (es:=[]) (x:=wv bw c) rfl,old hq.2.1]
def Ov(rs:List Rw):Prop:= ∀r∈rs,∀x a b,r= .two x a b->x= "over"
def MOff(m:Int)(bab:List Bool)(bw:List dH):Prop:=(Ab bab m/\Ab bab 0/\Ab bab 1)/\wv bw m=0/\wv bw 0=0/\wv bw 1=1
theorem zCF{m:Int}(hq:q.Ok (Ab bab))(hv: ∀x a b,q= .two x a b->x= "over") (W:Ws bab bw) (hm:MOff m bab bw): ∃es,go (NO (some m) q bw.length) bw cs=⟨bw++es,cs,none⟩:=by
 obtain⟨⟨h1,h2,h3⟩,z,z0,z1⟩:=hm;have old: ∀{x a:Int},Ab bab a->wv (bw++[.int x]) a=wv bw a:=fun h=>aX h.1 (W.lt h);cases q with
 |num n=>exact⟨[.int n],YS⟩
 |two x a b=>
  cases hv x a b rfl;obtain⟨v,e⟩:=zAW (W.word hq.2.1).2;refine⟨[.int 1,.int v],?_⟩;refine(QT (p:= .pick m b 1) (q:= .two "over" a bw.length) (x:=1) (by simp[ZS,z,z1])).trans ?_;simp only[ZS,YW (ws:=bw) (es:=[]) (x:=1) rfl,old hq.2.1,e];simp[VM.fin]
 |pick c a b=>exact⟨_,YS⟩
 |load p=>exact⟨_,YS.trans (by simp[WL,ZS,z,VM.fin];rfl)⟩
 |take p c a=>
  refine⟨[.int 0,.int (wv bw a)],?_⟩;refine(QT (p:= .pick m c 0) (q:= .take p bw.length a) (x:=0) (by simp[ZS,z,z0])).trans ?_;simp only[ZS,YW (ws:=bw) (es:=[]) (x:=0) rfl,old hq.2.2];simp[VM.fin]
 |store p a=>exact⟨_,YS.trans (by simp[WL,ZS,z,VM.fin];rfl)⟩
 |put p a c=>
  refine⟨[.int 0,.non],?_⟩;refine(QT (p:= .pick m c 0) (q:= .put p a bw.length) (x:=0) (by simp[ZS,z,z0])).trans ?_;simp only[ZS,YW (ws:=bw) (es:=[]) (x:=0) rfl];simp[VM.fin]
def Vl(ab:List Bool)(ws N bw:List dH):Prop:= ∀a,Ab ab a->wv ws a=wv bw (wv N a)
theorem Vl.app{es:List dH}(V:Vl ab ws N bw)(Q:Nr ab N bab)(W:Ws bab bw):Vl ab ws N (bw++es):=fun a h=>by
 have:=(Q.nm a h).2
 rw[aX this.1 (W.lt this)];exact V a h
theorem Vl.offs{es ns:List dH}{bs:List Bool}(V:Vl ab ws N bw)(Q:Nr ab N bab)(W:Ws ab ws)(hb: ∀b∈bs,b=false):Vl (ab++bs) (ws++es) (N++ns) bw:=fun a ha=>by
 by_cases hi:a.toNat<ab.length
 ·have h1 : Ab ab a := ⟨ha.1,by have := ha.2;rwa [Ah hi] at this⟩
  rw[aX h1.1 (W.lt h1),aX h1.1 (Q.lt h1)];exact V a h1
 ·have e:=ha.2
  rw[An (by lia)] at e;exact absurd (hb _ (Bz e)) (by simp)
theorem JZ(hq:q.Ok (Ab bab))(hm: ∀k,m=some k->Ab bab k/\Ab bab 0/\Ab bab 1)(W:Ws bab bw)(hcs: ∀c∈cs,Wd c)(hb: ∀d∈bw,TJ 0 d):Kept bab (NO m q bab.length) bw cs (go (NO m q bab.length) bw cs):=kept (zAB hq hm) W hcs hb
theorem FD: ∀{rs:List Rw} {ab:List Bool} {ws N:List dH} {bab:List Bool} {bw:List dH} {cs:List Int},XA ab rs->Ws ab ws->Nr ab N bab->Ws bab bw->(∀c∈cs,Wd c)->(∀d∈bw,TJ 0 d)->Vl ab ws N bw->MOn m bab bw→
  (go (VE m rs bab.length N) bw cs).cs=(go rs ws cs).cs/\(go (VE m rs bab.length N) bw cs).er=(go rs ws cs).er∧
  ((go rs ws cs).er≠none->WI (N++PH m rs bab.length N) ((go rs ws cs).ws.length:Int)=some (.int (go (VE m rs bab.length N) bw cs).ws.length))∧
  ((go rs ws cs).er=none->Vl (ab++rs.map Rw.mk) (go rs ws cs).ws (N++PH m rs bab.length N) (go (VE m rs bab.length N) bw cs).ws)
 |[],ab,ws,N,bab,bw,cs,_,_,_,_,_,_,V,_=>⟨rfl,rfl,fun z=>absurd rfl z,fun _=>by simpa[go,VE,PH] using V⟩
 | r :: rs,ab,ws,N,bab,bw,cs,⟨h1,h2⟩,W,Q,B,hcs,hb,V,hm => by
  have hq:(r.ren (wv N)).Ok (Ab bab):=h1.ren fun a ha=>(Q.nm a ha).2;have hm': ∀k,m=some k->Ab bab k/\Ab bab 0/\Ab bab 1:=fun k e=>(hm k e).1;obtain⟨es,hes,st⟩:=zFT (cs:=cs) hq B hm;have kp:=JZ hq hm' B hcs hb;have se:ZS (wv bw) cs (r.ren (wv N))=ZS (wv ws) cs r:=by
   rw[zBK];exact EN fun a ha=>(V a (h1.nm a ha)).symm
  rw[se] at st;have Q2:=Q.step (m:=m) (q:=r.ren (wv N)) (r:=r) Rw.ren_mk;have hml:=UE (m:=m) (q:=r.ren (wv N)) (k:=bab.length);rw[B.len] at st hes;simp only[VE,PH];generalize hn:OL m (r.ren (wv N)) bab.length=nn at*;rw[OG,st];cases e:ZS (wv ws) cs r with
  |bad s=>
   rw[V5 e];refine⟨rfl,rfl,fun _=> ?_,fun z=>nomatch z⟩;show WI (N++ .int nn::_) (ws.length:Int)=some (.int ((bw++es).length:Nat));rw[KU (by rw[Q.len,W.len]),Al,B.len,hes]
  |ok v cs'=>
   rw[TD e];rw[st,e] at kp;obtain⟨_,k1,_,k2⟩:=O0 h1 (fun a ha=>(W.word (h1.nm a ha)).2) hcs e;have W2:Ws (bab++(NO m (r.ren (wv N)) bab.length).map Rw.mk) (bw++es++[v]):=kp.all rfl;have V2:Vl (ab++[r.mk]) (ws++[v]) (N++[.int nn]) (bw++es++[v]):=fun a ha=>by
    rcases ha.inv with h|⟨h,hb'⟩
    ·rw[aX h.1 (W.lt h),aX h.1 (Q.lt h),Bw]
     exact V.app Q B a h
    ·obtain⟨x,_,rfl⟩:=k2 hb'
     rw[YW (ws:=ws) (by rw[h,W.len]),YW (ws:=N) (by rw[h,Q.len]),YW (ws:=bw++es) (by rw[Al,B.len,hes])]
   have M2':MOn m (bab++(NO m (r.ren (wv N)) bab.length).map Rw.mk) (bw++es++[v]):=fun k e=>by
    obtain⟨⟨a,b,c⟩,z⟩:=hm k e;refine⟨⟨a.app,b.app,c.app⟩,?_⟩;rw[Bw,aX a.1 (B.lt a)];exact z
   have ih:=FD h2 (W.snoc k2) Q2 W2 k1 kp.oks V2 M2';rw[Al,Av,hml] at ih;simp only[VM.fin,if_true,Ay];simpa using ih
theorem GY{m:Int}: ∀{rs:List Rw} {ab:List Bool} {N:List dH} {bab:List Bool} {bw:List dH},XA ab rs->Ov rs->Nr ab N bab->Ws bab bw->(∀c∈cs,Wd c)->(∀d∈bw,TJ 0 d)->MOff m bab bw-> ∃es,go (VE (some m) rs bab.length N) bw cs=⟨bw++es,cs,none⟩
 |[],ab,N,bab,bw,_,_,_,_,_,_,_=>⟨[],by simp[go,VE]⟩
 | r :: rs,ab,N,bab,bw,⟨h1,h2⟩,hv,Q,B,hcs,hb,hm => by
  have hq:(r.ren (wv N)).Ok (Ab bab):=h1.ren fun a ha=>(Q.nm a ha).2;have hv1: ∀x a b,r.ren (wv N)= .two x a b->x= "over":=fun x a b e=>by
   cases r with
   |two y c d=>cases e;exact hv _ Bg _ _ _ rfl
   |_=>cases e
  obtain⟨es,st⟩:=zCF (cs:=cs) hq hv1 B hm;have kp:=JZ (m:=some m) hq (fun k e=>by cases e;exact hm.1) B hcs hb;have Q2:=Q.step (m:=some m) (q:=r.ren (wv N)) (r:=r) Rw.ren_mk;have hml:=UE (m:=some m) (q:=r.ren (wv N)) (k:=bab.length);rw[B.len] at st;rw[st] at kp;have W2:Ws (bab++(NO (some m) (r.ren (wv N)) bab.length).map Rw.mk) (bw++es):=kp.all rfl;have M2':MOff m (bab++(NO (some m) (r.ren (wv N)) bab.length).map Rw.mk) (bw++es):=by
   obtain⟨⟨a,b,c⟩,z,z0,z1⟩:=hm;exact⟨⟨a.app,b.app,c.app⟩,by rw[aX a.1 (B.lt a)];exact z,by rw[aX b.1 (B.lt b)];exact z0,by rw[aX c.1 (B.lt c)];exact z1⟩
  obtain⟨es2,ih⟩:=GY h2 (fun q hq'=>hv q (Aw _ hq')) Q2 W2 hcs kp.oks M2';rw[Al,Av,hml] at ih;refine⟨es++es2,?_⟩;simp only[VE];rw[OG,st];simp only[if_true];rw[ih,Bw]
end
section
variable{q:Rw}{ab bab:List Bool}{ws bw a:List dH}{rs qs hd s1 s2:List Rw}{c:Int}{cs b:List Int}
theorem W6(h:go rs ws cs=⟨a,b,none⟩):go (rs++qs) ws cs=go qs a b:=by
 rw[OG,h];rfl
theorem UC(h:(go rs ws cs).er≠none):go (rs++qs) ws cs=go rs ws cs:=by rw[OG,if_neg h]
theorem QI.eta{o:QI}(h:o.er=none):o=⟨o.ws,o.cs,none⟩:=by
 cases o;cases h;rfl
theorem DG:Ab ((L0 hd).map Rw.mk) 0/\Ab ((L0 hd).map Rw.mk) 1:=⟨⟨by decide,rfl⟩,by decide,rfl⟩
theorem UY{k:Rw}(h:k.mk=true):(rs++[k]).map Rw.mk=rs.map Rw.mk++[true]:=by rw[Bo];simp[h]
theorem ab1:Ab ((L1 hd c).map Rw.mk) (Ma hd)/\Ab ((L1 hd c).map Rw.mk) 0/\Ab ((L1 hd c).map Rw.mk) 1:=by
 rw[UY rfl];refine⟨?_,DG.1.app,DG.2.app⟩;have h:Ab ((L0 hd).map Rw.mk++[true]) ((L0 hd).map Rw.mk).length:=Ab.new;rw[Av] at h;exact h
theorem ab2:Ab ((WH hd s1 c).map Rw.mk) 0/\Ab ((WH hd s1 c).map Rw.mk) 1:=by
 rw[Bo];exact⟨ab1.2.1.app,ab1.2.2.app⟩
theorem ab3:Ab ((L3 hd s1 c).map Rw.mk) (Mb hd s1 c)/\Ab ((L3 hd s1 c).map Rw.mk) 0/\Ab ((L3 hd s1 c).map Rw.mk) 1:=by
 rw[UY rfl];refine⟨?_,ab2.1.app,ab2.2.app⟩;have h:Ab ((WH hd s1 c).map Rw.mk++[true]) ((WH hd s1 c).map Rw.mk).length:=Ab.new;rw[Av] at h;exact h
theorem wf0(T:aH hd s1 s2 c):XA [] (L0 hd):=XA.app (rs:=[.num 0,.num 1]) ⟨⟨by decide,by decide⟩,⟨by decide,by decide⟩,trivial⟩ (FE (bab:=[true,true]) T.h0 Nr.nil fun _ e=>nomatch e)
theorem wf1(T:aH hd s1 s2 c):XA [] (L1 hd c):=(wf0 T).app ⟨⟨DG.2,(nr0.nm c T.hc).2,DG.1⟩,trivial⟩
theorem fr1(T:aH hd s1 s2 c):XA ((L1 hd c).map Rw.mk) (VE (some (Ma hd)) s1 (L1 hd c).length (N1 hd)):=by
 have h:=FE (m:=some (Ma hd)) T.h1 (nr1 (c:=c)) fun k e=>by cases e;exact ab1
 rw[Av] at h;exact h
theorem wf2(T:aH hd s1 s2 c):XA [] (WH hd s1 c):=(wf1 T).app (fr1 T)
theorem c2(T:aH hd s1 s2 c):Ab ((WH hd s1 c).map Rw.mk) (wv (N0 hd) c):=by
 rw[Bo,Bo];exact(nr0.nm c T.hc).2.app.app
theorem wf3(T:aH hd s1 s2 c):XA [] (L3 hd s1 c):=(wf2 T).app ⟨⟨c2 T,ab2.1,ab2.2⟩,trivial⟩
theorem fr3(T:aH hd s1 s2 c):XA ((L3 hd s1 c).map Rw.mk) (VE (some (Mb hd s1 c)) s2 (L3 hd s1 c).length (N2 hd s1 c)):=by
 have h:=FE (m:=some (Mb hd s1 c)) T.h2 (nr3 (c:=c)) fun k e=>by cases e;exact ab3
 rw[Av] at h;exact h
theorem wf4(T:aH hd s1 s2 c):XA [] (L4 hd s1 s2 c):=(wf3 T).app (fr3 T)
theorem zKC{n:Nat}{v:dH}(h:WI ws (n:Int)=some v):n<ws.length:=by
 unfold WI KP at h;rw[if_pos (by lia)] at h;by_cases hl:(n:Int)<ws.length
 ·lia
 ·rw[if_neg hl] at h
  cases h
structure PZ(o o':QI)(N:List dH):Prop where
 cs:o'.cs=o.cs
 er:o'.er=o.er
 at_:o.er≠none->WI N (o.ws.length:Int)=some (.int o'.ws.length)
theorem PZ.app{o o':QI}{N es:List dH}(h:PZ o o' N):PZ o o' (N++es):=⟨h.cs,h.er,fun z=>by
 have:=h.at_ z
 rw[SG (by lia) (by have:=zKC this;lia)];exact this⟩
theorem zAT(T:aH hd s1 s2 c)(o1:Ov s1)(o2:Ov s2)(hcs: ∀c∈cs,Wd c):PZ (ref hd s1 s2 c cs) (go (L4 hd s1 s2 c) [] cs) (N4 hd s1 s2 c):=by
 have gA:go [.num 0,.num 1] [] cs=⟨[.int 0,.int 1],cs,none⟩:=rfl;have B0:Ws [true,true] [.int 0,.int 1]:=(Ws.nil.snoc (b:=true) fun _=>⟨0,⟨by decide,by decide⟩,rfl⟩).snoc (b:=true) fun _=>⟨1,⟨by decide,by decide⟩,rfl⟩;have hb0: ∀d∈([.int 0,.int 1]:List dH),TJ 0 d:=ZW ZK (ZW ZK RS);have on0:=FD (m:=none) (ab:=[]) (ws:=[]) (N:=[]) (bab:=[true,true]) T.h0 Ws.nil Nr.nil B0 hcs hb0 (fun a h=>by have:=h.2;simp at this) fun _ e=>nomatch e;have gL0:go (L0 hd) [] cs=go (VE none hd 2 []) [.int 0,.int 1] cs:=W6 gA;have k0:=kept (wf0 T) Ws.nil hcs (fun _ h=>nomatch h);have o7:(go (L0 hd) [] cs).cs=(go hd [] cs).cs/\(go (L0 hd) [] cs).er=(go hd [] cs).er/\((go hd [] cs).er≠none->WI (N0 hd) ((go hd [] cs).ws.length:Int)=some (.int (go (L0 hd) [] cs).ws.length))/\((go hd [] cs).er=none->Vl (hd.map Rw.mk) (go hd [] cs).ws (N0 hd) (go (L0 hd) [] cs).ws):=by rw[gL0];exact on0
 obtain⟨x1,x2,x3,x4⟩:=o7;by_cases he:(go hd [] cs).er=none
 ·obtain⟨W,W1,W2,hk,hn⟩:=mid T hcs he
  have V:=x4 he;rw[he] at x2;have B1:Ws ((L0 hd).map Rw.mk) (go (L0 hd) [] cs).ws:=by
   have:=k0.all x2
   rwa[Dg] at this
  obtain⟨ex,hx,_⟩:=G3 (rs:=VE none hd 2 []) (ws:=[.int 0,.int 1]) (cs:=cs);rw[<- gL0] at hx;have g0:=QI.eta x2;have hb1:=k0.oks;rw[x1] at g0;have hr:ref hd s1 s2 c cs=if wv (go hd [] cs).ws c=0 then go s2 ((go hd [] cs).ws++([.non]++s1.map fun _=>dH.non)) (go hd [] cs).cs else go s1 ((go hd [] cs).ws++[.non]) (go hd [] cs).cs:=by unfold ref;rw[if_pos he]
  rw[hr];generalize (go (L0 hd) [] cs).ws=bw at*;generalize (go hd [] cs).cs=cc at*;generalize (go hd [] cs).ws=ws at*;have w0:wv bw 0=0:=by rw[hx];simp[wv]
  have w1:wv bw 1=1:=by rw[hx];simp[wv]
  have hc':=(nr0.nm c T.hc).2;have vc:wv bw (wv (N0 hd) c)=wv ws c:=(V c T.hc).symm;have g1:go (L1 hd c) [] cs=⟨bw++[.int (wv ws c)],cc,none⟩:=by
   rw[W6 g0,YS];simp[ZS,w1,vc,VM.fin]
  have B2:Ws ((L1 hd c).map Rw.mk) (bw++[.int (wv ws c)]):=by
   rw[UY rfl];exact B1.snoc fun _=>⟨_,(W.word T.hc).2,rfl⟩
  have hb2: ∀d∈bw++[.int (wv ws c)],TJ 0 d:=fun d hd=>by
   rcases Cn.mp hd with z|z
   ·exact hb1 d z
   ·rw[Aj.mp z];exact ZK
  have hbl:bw.length=(L0 hd).length:=by rw[B1.len,Av]
  have m1:wv (bw++[.int (wv ws c)]) (Ma hd)=wv ws c:=YW (by rw[hbl]);have a0:wv (bw++[.int (wv ws c)]) 0=0:=by rw[aX (by decide) (B1.lt DG.1)];exact w0
  have a1:wv (bw++[.int (wv ws c)]) 1=1:=by rw[aX (by decide) (B1.lt DG.2)];exact w1
  have V1:Vl (hd.map Rw.mk) ws (N0 hd) (bw++[.int (wv ws c)]):=V.app nr0 B1;have hl1:((L1 hd c).map Rw.mk).length=(L1 hd c).length:=Av ..;have hl3:((L3 hd s1 c).map Rw.mk).length=(L3 hd s1 c).length:=Av ..;by_cases hz:wv ws c=0
  ·rw[if_pos hz]
   obtain⟨es,f1⟩:=GY (cs:=cc) T.h1 o1 (nr1 (c:=c)) B2 hk hb2 ⟨ab1,by rw[m1];exact hz,a0,a1⟩;rw[hl1] at f1;have k2:=kept (fr1 T) B2 hk hb2;rw[f1] at k2;have B3:Ws ((WH hd s1 c).map Rw.mk) (bw++[.int (wv ws c)]++es):=by rw[Bo];exact k2.all rfl
   have hb3:=k2.oks;have g2:go (WH hd s1 c) [] cs=⟨bw++[.int (wv ws c)]++es,cc,none⟩:=(W6 g1).trans f1;have V2:Vl (hd.map Rw.mk) ws (N0 hd) (bw++[.int (wv ws c)]++es):=by
    rw[Bw];exact V.app nr0 B1
   have b1:wv (bw++[.int (wv ws c)]++es) 1=1:=by rw[aX (by decide) (B2.lt ab1.2.2)];exact a1
   have bc:wv (bw++[.int (wv ws c)]++es) (wv (N0 hd) c)=0:=by rw[<- V2 c T.hc];exact hz
   generalize bw++[.int (wv ws c)]++es=bw2 at*;have g3:go (L3 hd s1 c) [] cs=⟨bw2++[.int 1],cc,none⟩:=by
    rw[W6 g2,YS];simp[ZS,b1,bc,VM.fin]
   have B4:Ws ((L3 hd s1 c).map Rw.mk) (bw2++[.int 1]):=by
    rw[UY rfl];exact B3.snoc fun _=>⟨_,⟨by decide,by decide⟩,rfl⟩
   have hb4: ∀d∈bw2++[.int 1],TJ 0 d:=fun d hd=>by
    rcases Cn.mp hd with z|z
    ·exact hb3 d z
    ·rw[Aj.mp z];exact ZK
   have j3:bw2.length=(WH hd s1 c).length:=by rw[B3.len,Av]
   have V4:Vl (hd.map Rw.mk++[false]++offs s1) (ws++([.non]++s1.map fun _=>dH.non)) (N2 hd s1 c) (bw2++[.int 1]):=by
    have nr:Nr (hd.map Rw.mk) (N0 hd) ((WH hd s1 c).map Rw.mk):=by
     rw[Bo,Bo];exact nr0.app.app
    have V3:Vl (hd.map Rw.mk) ws (N0 hd) (bw2++[.int 1]):=V2.app nr B3;have:=V3.offs (es:=[.non]++s1.map fun _=>dH.non) (ns:=[.non]++PH (some (Ma hd)) s1 (L1 hd c).length (N1 hd)) (bs:=[false]++offs s1) nr W (by simp)
    have e:N2 hd s1 c=N0 hd++([.non]++PH (some (Ma hd)) s1 (L1 hd c).length (N1 hd)):=Bw ..;have e2:hd.map Rw.mk++[false]++offs s1=hd.map Rw.mk++([false]++offs s1):=Bw ..;rw[e,e2];exact this
   have mb:wv (bw2++[.int 1]) (Mb hd s1 c)=1:=YW (by rw[j3]);have r:=FD (m:=some (Mb hd s1 c)) T.h2 W2 (nr3 (c:=c)) B4 hk hb4 V4 fun k e=>by
    cases e;exact⟨ab3,by rw[mb];decide⟩
   rw[hl3] at r;rw[W6 g3];exact⟨r.1,r.2.1,r.2.2.1⟩
  ·rw[if_neg hz]
   have V2:Vl (hd.map Rw.mk++[false]) (ws++[.non]) (N1 hd) (bw++[.int (wv ws c)]):=V1.offs nr0 W (by simp);have r:=FD (m:=some (Ma hd)) T.h1 W1 (nr1 (c:=c)) B2 hk hb2 V2 fun k e=>by
    cases e;exact⟨ab1,by rw[m1];exact hz⟩
   rw[hl1] at r;have k2:=kept (fr1 T) B2 hk hb2;have g2:go (WH hd s1 c) [] cs=go (VE (some (Ma hd)) s1 (L1 hd c).length (N1 hd)) (bw++[.int (wv ws c)]) cc:=W6 g1;rw[<- g2] at r k2;have A2:PZ (go s1 (ws++[.non]) cc) (go (WH hd s1 c) [] cs) (N2 hd s1 c):=⟨r.1,r.2.1,r.2.2.1⟩;by_cases hs:(go s1 (ws++[.non]) cc).er=none
   ·have he2 : (go (WH hd s1 c) [] cs).er = none := by rw [r.2.1];exact hs
    have B3:Ws ((WH hd s1 c).map Rw.mk) (go (WH hd s1 c) [] cs).ws:=by rw[Bo];exact k2.all he2
    have hb3:=k2.oks;have hk3:=k2.ok;obtain⟨es,hes,_⟩:=k2.ext;have g2':=QI.eta he2;have b0:wv (go (WH hd s1 c) [] cs).ws 0=0:=by rw[hes,aX (by decide) (B2.lt ab1.2.1)];exact a0
    have b1:wv (go (WH hd s1 c) [] cs).ws 1=1:=by rw[hes,aX (by decide) (B2.lt ab1.2.2)];exact a1
    have bc:wv (go (WH hd s1 c) [] cs).ws (wv (N0 hd) c)=wv ws c:=by
     rw[hes,Bw,aX hc'.1 (B1.lt hc')];exact vc
    have pj:=r.1;generalize (go (WH hd s1 c) [] cs).ws=bw2 at*;generalize (go (WH hd s1 c) [] cs).cs=cc2 at*;have g3:go (L3 hd s1 c) [] cs=⟨bw2++[.int 0],cc2,none⟩:=by
     rw[W6 g2',YS];simp[ZS,b0,bc,hz,VM.fin]
    have B4:Ws ((L3 hd s1 c).map Rw.mk) (bw2++[.int 0]):=by
     rw[UY rfl];exact B3.snoc fun _=>⟨_,⟨by decide,by decide⟩,rfl⟩
    have hb4: ∀d∈bw2++[.int 0],TJ 0 d:=fun d hd=>by
     rcases Cn.mp hd with z|z
     ·exact hb3 d z
     ·rw[Aj.mp z];exact ZK
    have j3:bw2.length=(WH hd s1 c).length:=by rw[B3.len,Av]
    have mb:wv (bw2++[.int 0]) (Mb hd s1 c)=0:=YW (by rw[j3]);obtain⟨es2,f2⟩:=GY (cs:=cc2) T.h2 o2 (nr3 (c:=c)) B4 hk3 hb4 ⟨ab3,mb,by rw[aX (by decide) (B3.lt ab2.1)];exact b0,by rw[aX (by decide) (B3.lt ab2.2)];exact b1⟩;rw[hl3] at f2;rw[W6 g3,f2];exact⟨pj,hs.symm,fun z=>absurd hs z⟩
   ·have he2 : (go (WH hd s1 c) [] cs).er ≠ none := by rw [r.2.1];exact hs
    have g3:go (L3 hd s1 c) [] cs=go (WH hd s1 c) [] cs:=UC he2;have g4:go (L4 hd s1 s2 c) [] cs=go (WH hd s1 c) [] cs:=(UC (by rw[g3];exact he2)).trans g3;rw[g4];exact A2.app
 ·have hr : ref hd s1 s2 c cs = go hd [] cs := by unfold ref;rw [if_neg he]
  rw[hr];have h0:(go (L0 hd) [] cs).er≠none:=by rw[x2];exact he
  have g1:go (L1 hd c) [] cs=go (L0 hd) [] cs:=UC h0;have g2:go (WH hd s1 c) [] cs=go (L0 hd) [] cs:=(UC (by rw[g1];exact h0)).trans g1;have g3:go (L3 hd s1 c) [] cs=go (L0 hd) [] cs:=(UC (by rw[g2];exact h0)).trans g2;have g4:go (L4 hd s1 s2 c) [] cs=go (L0 hd) [] cs:=(UC (by rw[g3];exact h0)).trans g3;rw[g4];have A0:PZ (go hd [] cs) (go (L0 hd) [] cs) (N0 hd):=⟨x1,x2,x3⟩;have A1:PZ (go hd [] cs) (go (L0 hd) [] cs) (N1 hd):=A0.app;have A2:PZ (go hd [] cs) (go (L0 hd) [] cs) (N2 hd s1 c):=A1.app;exact A2.app
end
@[simp] theorem zNT{i:Nat}{F:cO}{ds:List dH}:D0 i F ds=(F (ds.take i++ .dct [] []::ds.drop i)).map fun q=>(q.1,q.2.drop 1):=(rfl)
section
variable{ns:List Int}{n:Nat}{nm:List Int}
theorem zBH(hl:ns.length<=63)(hn:n<800000)(hm:0<nm.length): ∃a b c,a∈nm/\b∈nm/\c∈nm∧
  ZN 3 1 (gN 3) VQ (cS 3 [1] bH (aE (fV 0) (aO 1 (aE (fV 2) cF)))) [.int 0,.int 1,.int 2] [] [.va (NJ ns),.ow (P1 n),.va (.lst (nm.map .int))]=some ([.int a,.int b,.int c],[.va (NJ ns),.ow (P1 (n+3)),.va (.lst (nm.map .int))]):=by
 have one: ∀m,m<800010-> ∃a∈nm,bH [NJ ns,P1 m,.lst (nm.map .int)]=some (.int a,[P1 (m+1)]):=fun m h=>by
  obtain⟨y,hy,ey⟩:=UH ns m (nm.map .int) hl (by lia) (by simpa using hm);obtain⟨v,hv,rfl⟩:=Fc.mp hy;exact⟨v,hv,ey⟩
 obtain⟨a,ha,ea⟩:=one n (by lia);obtain⟨b,hb,eb⟩:=one (n+1) (by lia);obtain⟨c,hc,ec⟩:=one (n+2) (by lia);exact⟨a,b,c,ha,hb,hc,by simp[ea,eb,ec]⟩
theorem Rw.Ok.wr{M:Int->Prop}{r:Rw}(h:r.Ok M):(decide ("put"=r.hd) || decide ("store"=r.hd))= !r.mk:=by
 cases r with
 |two x a b=>
  have z3:=(IG h.1 (y:= "store") (by decide)).2;have z4:=(IG h.1 (y:= "put") (by decide)).2;simp[Rw.hd,Rw.mk,z3,z4]
 |_=>simp[Rw.hd,Rw.mk]
theorem OX(hl:ns.length<=63)(hn:n<700000)(hm:0<nm.length)(hms:nm.length<1000){M:Int->Prop}(hM: ∀a∈nm,M a){rows:List dH}(hr:rows.length<1000)(num k:Int)(m4 s7 s8 s9 s10 s11:Sl):
  ∃r:Rw,r.Ok M/\(∀x a b,r= .two x a b->x= "over")/\ ∃t7 t8 t9 t10 t11,VR [.va (NJ ns),.ow (P1 n),.va (.lst (nm.map .int)),.va (.int num),m4,.ow (.lst rows),.va (.int k),s7,s8,s9,s10,s11]=
   some (.nx [.va (NJ ns),.ow (P1 (n+5)),.va (.lst ((if r.mk=true then nm++[num+k] else nm).map .int)),.va (.int num),m4,.ow (.lst (rows++[r.dat])),.va (.int k),t7,t8,t9,t10,t11]):=by
 obtain⟨a,b,c,ha,hb,hc,e1⟩:=zBH (ns:=ns) (n:=n) hl (by lia) hm;obtain⟨y,hy,ey⟩:=UH ns (n+3) [.int 0,.int 1,.int 2,.int 3,.int 5,.int 9] hl (by lia) (by simp);obtain⟨p,rfl,hp⟩: ∃p:Int,y= .int p/\Pl p:=by
  simp only[Ap,Bk,or_false] at hy;rcases hy with h|h|h|h|h|h<;>exact⟨_,h,by decide,by decide⟩
 obtain⟨z,hz,ez⟩:=UH ns (n+4) [.tup [.str "take",.int p,.int a,.int b],.tup [.str "put",.int p,.int a,.int b],.tup [.str "load",.int p],.tup [.str "store",.int p,.int a],.tup [.str "over",.int a,.int b],.tup [.str "pick",.int a,.int b,.int c],.tup [.str "take",.int p,.int b,.int a]] hl (by lia) (by simp);obtain⟨r,rfl,ho,hv⟩: ∃r:Rw,z=r.dat/\r.Ok M/\ ∀x a b,r= .two x a b->x= "over":=by
  simp only[Ap,Bk,or_false] at hz;rcases hz with h|h|h|h|h|h|h
  ·exact⟨.take p a b,h,⟨hp,hM a ha,hM b hb⟩,fun _ _ _ e=>nomatch e⟩
  ·exact⟨.put p a b,h,⟨hp,hM a ha,hM b hb⟩,fun _ _ _ e=>nomatch e⟩
  ·exact⟨.load p,h,hp,fun _ _ _ e=>nomatch e⟩
  ·exact⟨.store p a,h,⟨hp,hM a ha⟩,fun _ _ _ e=>nomatch e⟩
  ·exact⟨.two "over" a b,h,⟨by simp,hM a ha,hM b hb⟩,fun _ _ _ e=>by cases e;rfl⟩
  ·exact⟨.pick a b c,h,⟨hM a ha,hM b hb,hM c hc⟩,fun _ _ _ e=>nomatch e⟩
  ·exact⟨.take p b a,h,⟨hp,hM b hb,hM a ha⟩,fun _ _ _ e=>nomatch e⟩
 have hr':rows.length<16777216:=by lia
 have hm':nm.length+1<=16777216:=by lia
 have hw:=ho.wr;refine⟨r,ho,hv,.va (.int a),.va (.int b),.va (.int c),.va (.int p),.va (.lst [.tup [.str "take",.int p,.int a,.int b],.tup [.str "put",.int p,.int a,.int b],.tup [.str "load",.int p],.tup [.str "store",.int p,.int a],.tup [.str "over",.int a,.int b]]),?_⟩;unfold VR;cases hk:r.mk with
 |true=>rw[hk] at hw;simp[a8,e1,ey,ez,hr',hm',hw]
 |false=>rw[hk] at hw;simp[a8,e1,ey,ez,hr',hw]
theorem F0(hl:ns.length<=63)(hn:n<600000)(hm:0<nm.length)(hms:nm.length<100){ab:List Bool}(hM: ∀a∈nm,Ab ab a)(m:Nat)(h2:m<=2): ∃(rs:List Rw) (n':Nat),rs.length=m/\XA ab rs/\Ov rs/\n'<=n+10/\aF [NJ ns,P1 n,.lst (nm.map .int),.int ab.length,.int m]=some (.tup (rs.map Rw.dat),[P1 n']):=by
 rcases(by lia:m=0∨m=1∨m=2) with rfl|rfl|rfl
 ·refine ⟨[],n,rfl,trivial,(fun _ h => nomatch h),by lia,?_⟩
  unfold aF;rw[cW,XG.eq_1];simp[cR]
 ·obtain ⟨r,ho,hv,t7,t8,t9,t10,t11,e⟩ := OX (ns := ns) (n := n) (nm := nm) hl (by lia) hm (by lia) hM (rows := []) (by simp) ab.length 0 (.va (.int 1)) .no .no .no .no .no
  refine⟨[r],n+5,rfl,⟨ho,trivial⟩,(fun q hq=>by rw[Aj.mp hq];exact hv),by lia,?_⟩;unfold aF;rw[cW,XG.eq_1];simp[cR,e]
 ·obtain ⟨r,ho,hv,t7,t8,t9,t10,t11,e⟩ := OX (ns := ns) (n := n) (nm := nm) hl (by lia) hm (by lia) hM (rows := []) (by simp) ab.length 0 (.va (.int 2)) .no .no .no .no .no
  obtain⟨q,ho2,hv2,u7,u8,u9,u10,u11,e2⟩:=OX (ns:=ns) (n:=n+5) (nm:=if r.mk=true then nm++[(ab.length:Int)+0] else nm) hl (by lia) (by split<;>(try simp only[Al,Bx])<;>lia) (by split<;>(try simp only[Al,Bx])<;>lia) (M:=Ab (ab++[r.mk])) (fun a ha=>by
   split at ha
   ·rename_i hk
    rcases Cn.mp ha with z|z
    ·exact(hM a z).app
    ·rw[Aj.mp z,hk,Int.add_zero];exact Ab.new
   ·exact(hM a ha).app) (rows:=[r.dat]) (by simp) ab.length 1 (.va (.int 2)) t7 t8 t9 t10 t11
  refine⟨[r,q],n+10,rfl,⟨ho,ho2,trivial⟩,(fun p hp=>by
   rcases Ap.mp hp with z|z
   ·rw[z];exact hv
   ·rw[Aj.mp z];exact hv2),by lia,?_⟩
  generalize (if r.mk=true then nm++[(ab.length:Int)+0] else nm)=nm2 at e e2;unfold aF;rw[cW,XG.eq_1];simp only[Dg] at e;simp[cR,e,e2]
theorem E5(hl:ns.length<=63): ∀(ds:List dH) (n:Nat) (acc:List dH),n+2*ds.length<700000->acc.length+ds.length<1000-> ∃ws:List Int,ws.length=ds.length/\(∀w∈ws,Wd w)∧
  ZN 2 1 (gN 2) VQ (cS 3 [1] a6 (aE (fV 0) (aO 1 (aE (cS 3 [1] bH (aE (fV 0) (aO 1 (aE (X0 (dD (fC (.int 2)) (dD (fC (.int 3)) (dD (fC (.int 9)) cE)))) cF)))) cF)))) ds acc [.va (NJ ns),.ow (P1 n)]=some (acc++ws.map .int,[.va (NJ ns),.ow (P1 (n+2*ds.length))])
 |[],n,acc,_,_=>⟨[],rfl,(fun _ h=>nomatch h),by simp⟩
 | d :: ds,n,acc,hn,ha => by
  simp only[Az] at hn ha;obtain⟨z,hz,ez⟩:=UH ns n [.int 2,.int 3,.int 9] hl (by lia) (by simp);obtain⟨b,rfl,b0,b1⟩: ∃b:Int,z= .int b/\0<b/\b<=9:=by
   simp only[Ap,Bk,or_false] at hz;rcases hz with h|h|h<;>exact⟨_,h,by decide,by decide⟩
  have ed:=T8 ns (n+1) b hl (by lia) b0;obtain⟨ws,h1,h2,h3⟩:=E5 hl ds (n+2) (acc++[.int (GX ns (n+1) b)]) (by lia) (by simp;lia);refine⟨GX ns (n+1) b::ws,by simp[h1],fun w hw=> ?_,?_⟩
  ·rcases Ap.mp hw with z|z
   ·have:=MS ns (n+1) b0
    have:=MT ns (n+1) b0
    rw[z];exact⟨by lia,by lia⟩
   ·exact h2 w z
  ·have cx : acc.length < 16777216 := by lia
   rw[Az,show n+2*(ds.length+1)=n+2+2*ds.length by lia];simp[ez,ed,cx,h3]
end
theorem zA3{k:Nat}(cs:List Int):TJ (k+1) (.lst (cs.map .int)):=zCE fun d hd=>by
 obtain⟨c,_,rfl⟩:=Fc.mp hd;exact ZK
theorem zFV(o:QI):TJ 1 o.fd:=by
 unfold QI.fd;split
 ·exact PL
 ·exact LS (ZW ZK (ZW YC RS))
theorem FN(o:QI):ON (.tup [.lst (o.cs.map .int),o.fd]) (.tup [.lst (o.cs.map .int),o.fd])=some (.bl false):=by
 have h:TJ 2 (.tup [.lst (o.cs.map .int),o.fd]):=LS (ZW (zA3 _) (ZW (zFV o) RS));rw[zJL h h,zAV h];rfl
section
variable{ns:List Int}{hd s1 s2:List Rw}{c sure:Int}
theorem zAG(hl:ns.length<=63)(T:aH hd s1 s2 c)(o1:Ov s1)(o2:Ov s2)(h40:(L4 hd s1 s2 c).length<=40)(s0:0<=sure)(s10:sure<=10)(n:Nat)(hn:n<500000)(a b d x y z u v w:Sl):
  ∃n' y' z' u' v',n'<=n+100/\O9 [.va (NJ ns),.ow (P1 n),a,b,d,.va (.tup [.int sure,.tup (hd.map Rw.dat++[YH c s1 s2])]),.va (.tup [.int sure,.tup ((L4 hd s1 s2 c).map Rw.dat)]),.va (.lst (N4 hd s1 s2 c)),x,y,z,u,v]=
   some (.nx [.va (NJ ns),.ow (P1 n'),a,b,d,.va (.tup [.int sure,.tup (hd.map Rw.dat++[YH c s1 s2])]),.va (.tup [.int sure,.tup ((L4 hd s1 s2 c).map Rw.dat)]),.va (.lst (N4 hd s1 s2 c)),x,y',z',u',v']):=by
 obtain⟨p,hp,ep⟩:=UH ns n [.int 3,.int 4,.int 6,.int 10,.int 12] hl (by lia) (by simp);obtain⟨m,rfl,m0,m1⟩: ∃m:Int,p= .int m/\0<=m/\m<=12:=by
  simp only[Ap,Bk,or_false] at hp;rcases hp with h|h|h|h|h<;>exact⟨_,h,by decide,by decide⟩
 obtain⟨mx,hmx,x0,x1,x2⟩: ∃mx:Int,(if sure>m then sure else m)=mx/\0<=mx/\mx<=12/\sure<=mx:=⟨_,rfl,by split<;>lia,by split<;>lia,by split<;>lia⟩;have hrl:(VL 0 mx.toNat).length=mx.toNat:=by simp[VL]
 obtain⟨cs,c1,hcs,ec⟩:=E5 hl (VL 0 mx.toNat) (n+1) [] (by rw[hrl];lia) (by rw[hrl];simp;lia);rw[hrl] at c1 ec;rw[Dg] at ec;have hi:(-4611686018427387904:Int)<=mx/\mx<4611686018427387904:=by lia
 obtain⟨dd,eP⟩:=AN T hcs;have eT:=J8 T s0 (by lia) hcs (by lia) (by lia);have eB:=zF4 (cs:=cs) (sure:=sure) (wf4 T) s0 (by lia) h40 hcs (by lia) (by lia);have A:=zAT T o1 o2 hcs;have n1:=FN (ref hd s1 s2 c cs);generalize hd.map Rw.dat++[YH c s1 s2]=tr at*;generalize (L4 hd s1 s2 c).map Rw.dat=bl at*;generalize N4 hd s1 s2 c=N at*;generalize ref hd s1 s2 c cs=o at*;have n2:(match o.er with
   |none=>ON (.tup [.lst (o.cs.map .int),(go (L4 hd s1 s2 c) [] cs).fd]) (.tup [.lst (o.cs.map .int),.non])
   |some s=>ON (.tup [.lst (o.cs.map .int),(go (L4 hd s1 s2 c) [] cs).fd]) (.tup [.lst (o.cs.map .int),.tup [.int (go (L4 hd s1 s2 c) [] cs).ws.length,.str s]]))=some (.bl false):=by
  have h:=FN (go (L4 hd s1 s2 c) [] cs);rw[A.cs] at h;have he:=A.er;unfold QI.fd at h⊢;cases ho:o.er with
  |none=>rw[ho] at he;rw[he] at h⊢;exact h
  |some s=>rw[ho] at he;rw[he] at h⊢;exact h
 rw[A.cs] at eB;generalize go (L4 hd s1 s2 c) [] cs=o' at*;refine⟨n+1+2*mx.toNat,.va (.int m),.va (.lst (cs.map .int)),.ow (.lst (o.cs.map .int)),.va o.fd,by lia,?_⟩;have hat:=A.at_;unfold O9;simp only[gt_iff_lt] at hmx;cases ho:o.er with
 |none=>
  have hf:o.fd= .non:=by unfold QI.fd;rw[ho]
  rw[hf] at eP eT n1⊢;rw[ho] at n2;simp[ep,hmx,hi,a8,ec,eP,eT,n1,eB,n2]
 |some s=>
  have hf:o.fd= .tup [.int o.ws.length,.str s]:=by unfold QI.fd;rw[ho]
  rw[hf] at eP eT n1⊢;have ha:=hat (by rw[ho];simp);rw[ho] at n2;simp[ep,hmx,hi,a8,ec,eP,eT,n1,eB,n2,ha]
theorem MY(hl:ns.length<=63)(T:aH hd s1 s2 c)(o1:Ov s1)(o2:Ov s2)(h40:(L4 hd s1 s2 c).length<=40)(s0:0<=sure)(s10:sure<=10)(a b d:Sl): ∀(ds:List dH) (n:Nat),n+100*ds.length<500000-> ∀x y z u v,
  ∃δ,ZJ (gN 8) O9 ds [.va (NJ ns),.ow (P1 n),a,b,d,.va (.tup [.int sure,.tup (hd.map Rw.dat++[YH c s1 s2])]),.va (.tup [.int sure,.tup ((L4 hd s1 s2 c).map Rw.dat)]),.va (.lst (N4 hd s1 s2 c)),x,y,z,u,v]=some (.nx δ)
 |[],n,_,x,y,z,u,v=>⟨_,by rw[zAS]⟩
 |e::ds,n,hn,x,y,z,u,v=>by
  simp only[Az] at hn;obtain⟨n',y',z',u',v',h1,h2⟩:=zAG hl T o1 o2 h40 s0 s10 n (by lia) a b d (.va e) y z u v .no;obtain⟨δ,ih⟩:=MY hl T o1 o2 h40 s0 s10 a b d ds n' (by lia) (.va e) y' z' u' v';refine⟨δ,?_⟩;rw[XF,JJ,U3];simp only[Lc,Ld];rw[h2,U4,ih]
end
end L2
namespace RR
open PySem L2
theorem zAH(ns:List Int)(hl:ns.length<=63):MD [.lst (ns.map .int)]=some (.bl true,[]):=by
 have d0:=T8 ns 0 3 hl (by lia) (by decide);have a0:=MS ns 0 (b:=3) (by decide);have a1:=MT ns 0 (b:=3) (by decide);have d1:=T8 ns 1 2 hl (by lia) (by decide);have b0:=MS ns 1 (b:=2) (by decide);have b1:=MT ns 1 (b:=2) (by decide);obtain⟨m1,e1⟩: ∃m:Nat,1+GX ns 1 2=(m:Int):=⟨(1+GX ns 1 2).toNat,by lia⟩;have ly: ∀a∈([0,1,2,3]:List Int),Ab [true,true,true,true] a:=by
  intro a ha;simp only[Ap,Bk,or_false] at ha;rcases ha with rfl|rfl|rfl|rfl<;>exact⟨by decide,rfl⟩
 obtain⟨s1,n1,l1,w1,o1,z1,q1⟩:=F0 (ns:=ns) (n:=2) (nm:=[0,1,2,3]) hl (by lia) (by simp) (by simp) (ab:=[true,true,true,true]++[false]) (fun a ha=>(ly a ha).app) m1 (by lia);rw[<- e1] at q1;have d2:=T8 ns n1 2 hl (by lia) (by decide);have c0:=MS ns n1 (b:=2) (by decide);have c1:=MT ns n1 (b:=2) (by decide);obtain⟨m2,e2⟩: ∃m:Nat,GX ns n1 2=(m:Int):=⟨(GX ns n1 2).toNat,by lia⟩;obtain⟨s2,n2,l2,w2,o2,z2,q2⟩:=F0 (ns:=ns) (n:=n1+1) (nm:=[0,1,2,3]) hl (by lia) (by simp) (by simp) (ab:=[true,true,true,true]++[false]++offs s1) (fun a ha=>(ly a ha).app.app) m2 (by lia);rw[<- e2] at q2;obtain⟨p,hp,ep⟩:=UH ns n2 [.int 0,.int 3,.int 10] hl (by lia) (by simp);obtain⟨sure,rfl,s0,s10⟩: ∃m:Int,p= .int m/\0<=m/\m<=10:=by
  simp only[Ap,Bk,or_false] at hp;rcases hp with h|h|h<;>exact⟨_,h,by decide,by decide⟩
 have d3:=T8 ns (n2+1) 3 hl (by lia) (by decide);have f0:=MS ns (n2+1) (b:=3) (by decide);have f1:=MT ns (n2+1) (b:=3) (by decide);generalize GX ns 0 3=v at*;generalize GX ns (n2+1) 3=c at*;generalize hd0:GX ns 1 2=r1 at*;generalize hd1:GX ns n1 2=r2 at*;have T:aH [.load 0,.load 1,.load 2,.num v] s1 s2 c:=by
  refine⟨⟨⟨by decide,by decide⟩,⟨by decide,by decide⟩,⟨by decide,by decide⟩,⟨a0,by lia⟩,trivial⟩,?_,w1,w2,by simp;lia⟩;rcases(by lia:c=0∨c=1∨c=2) with rfl|rfl|rfl<;>exact⟨by decide,rfl⟩
 have h40:(L4 [.load 0,.load 1,.load 2,.num v] s1 s2 c).length<=40:=by
  have x0:=UA (m:=none) (rs:=[.load 0,.load 1,.load 2,.num v]) (k:=2) (N:=[]);have x1:=UA (m:=some (Ma [.load 0,.load 1,.load 2,.num v])) (rs:=s1) (k:=(L1 [.load 0,.load 1,.load 2,.num v] c).length) (N:=N1 [.load 0,.load 1,.load 2,.num v]);have x2:=UA (m:=some (Mb [.load 0,.load 1,.load 2,.num v] s1 c)) (rs:=s2) (k:=(L3 [.load 0,.load 1,.load 2,.num v] s1 c).length) (N:=N2 [.load 0,.load 1,.load 2,.num v] s1 c);generalize hh:[Rw.load 0,.load 1,.load 2,.num v]=h at*;have hhl:h.length=4:=by rw[<- hh];rfl
  have a0:(L0 h).length=2+(VE none h 2 []).length:=by simp;lia
  have a1:(L1 h c).length=(L0 h).length+1:=Al;have a2:(WH h s1 c).length=(L1 h c).length+(VE (some (Ma h)) s1 (L1 h c).length (N1 h)).length:=Al;have a3:(L3 h s1 c).length=(WH h s1 c).length+1:=Al;have a4:(L4 h s1 s2 c).length=(L3 h s1 c).length+(VE (some (Mb h s1 c)) s2 (L3 h s1 c).length (N2 h s1 c)).length:=Al;lia
 have ef:=zCX (sure:=sure) T s0 (by lia) h40;obtain⟨δ,et⟩:=MY (ns:=ns) (sure:=sure) hl T o1 o2 h40 s0 s10 (.va (.lst [.tup [.str "load",.int 0],.tup [.str "load",.int 1],.tup [.str "load",.int 2],.tup [.str "number",.int v]])) (.va (.tup (s1.map Rw.dat))) (.va (.tup (s2.map Rw.dat))) [.int 0,.int 1,.int 2,.int 3,.int 4] (n2+2) (by simp;lia) .no .no .no .no .no;have hx:([.load 0,.load 1,.load 2,.num v]:List Rw).map Rw.dat++[YH c s1 s2]=[.tup [.str "load",.int 0],.tup [.str "load",.int 1],.tup [.str "load",.int 2],.tup [.str "number",.int v],.tup [.str "if",.int c,.tup (s1.map Rw.dat),.tup (s2.map Rw.dat)]]:=rfl;rw[hx] at ef et;have q1':aF [NJ ns,P1 2,.lst [.int 0,.int 1,.int 2,.int 3],.int 5,.int (1+r1)]=some (.tup (s1.map Rw.dat),[P1 n1]):=q1;have hq2:(([true,true,true,true]++[false]++offs s1).length:Int)=5+(s1.length:Int):=by simp;lia
 rw[hq2] at q2;have q2':aF [NJ ns,P1 (n1+1),.lst [.int 0,.int 1,.int 2,.int 3],.int (5+s1.length),.int r2]=some (.tup (s2.map Rw.dat),[P1 n2]):=q2;have r5:VL 0 5=[.int 0,.int 1,.int 2,.int 3,.int 4]:=rfl;generalize (L4 [.load 0,.load 1,.load 2,.num v] s1 s2 c).map Rw.dat=bl at*;generalize N4 [.load 0,.load 1,.load 2,.num v] s1 s2 c=NN at*;have hs1:(s1.map Rw.dat).length=s1.length:=Av ..;generalize s1.map Rw.dat=A1 at*;generalize s2.map Rw.dat=A2 at*;unfold MD;rw[cW,zAQ.eq_1];have t0:dH.lst []=P1 0:=rfl;have sc:dH.lst (ns.map .int)=NJ ns:=rfl;rw[sc];simp -implicitDefEqProofs [cR,t0,d0,d1,q1',d2,q2',hs1,ep,d3,ef,r5,et]
end RR
namespace KK
open PySem PySem.W
noncomputable abbrev g(a i:Nat)(n:Str)(d m:Value):Obj:=⟨.type "function",none,.func (fnOf n n (L2.aQ (RR.top i)) (L2.bE (RR.top i)) (L2.c9 (RR.top i)) d .none .none m none (.ref (a - 1)) .none),#[]⟩
theorem p(P:Kq)(a i:Nat)(n:Str)(m:Value)(h1:nsIn (K P) mainGlobals n=some (some (.ref a)):=by kernel_rfl)(h2:(K P).lookup a=some (g a i n .none m):=by kernel_rfl)(h3:codeIn (K P) (.ref (a - 1)) n=true:=by kernel_rfl):L2.A4 (K P) n (RR.top i) a:=L2.a4 h1 h2 h3 (by unfold keepIn;simp only[h2])
noncomputable abbrev gm(a i j:Nat)(n q:Str)(m:Value):Obj:=⟨.type "function",none,.func (fnOf n q (L2.aQ (RR.mem i j)) (L2.bE (RR.mem i j)) (L2.c9 (RR.mem i j)) .none .none .none m none (.ref (a - 1)) .none),#[]⟩
theorem PC(P:Kq):L2.Cls (K P) 359:=⟨by kernel_rfl,by kernel_rfl,by kernel_rfl,by kernel_rfl⟩
theorem UI(P:Kq)(a i j:Nat)(n q:Str)(m:Value)(h0:nsIn (K P) mainGlobals "Flat"=some (some (.ref 359)):=by kernel_rfl) (h1:findIn (K P) (.ref 359) n=some (some (.ref a)):=by kernel_rfl) (h2:isFn (K P) (.ref a)=true:=by kernel_rfl) (h3:(K P).lookup a=some (gm a i j n q m):=by kernel_rfl) (h4:codeIn (K P) (.ref (a - 1)) q=true:=by kernel_rfl):L2.A4m (K P) "Flat" n q (RR.mem i j) a:=⟨359,_,_,_,_,_,_,_,_,_,h0,PC P,h1,h2,h3,h4,by unfold keepIn;simp only[h3]⟩
end KK
namespace RR
open PySem L2
abbrev Zn(K:Ai)(x:Str):Prop:=Fg K mainGlobals x=some none
abbrev Gn(K:Ai)(x:Str)(v:Value):Prop:=Fg K mainGlobals x=some (some v)
theorem PR{α:Type}{P:List α->Prop}(z: ∀a,P [a]): ∀us:List α,us.length=1->P us
 |[a],_=>z a
theorem XC{α:Type}{P:List α->Prop}(z: ∀a b,P [a,b]): ∀us:List α,us.length=2->P us
 |[a,b],_=>z a b
theorem RE{α:Type}{P:List α->Prop}(z: ∀a b c,P [a,b,c]): ∀us:List α,us.length=3->P us
 |[a,b,c],_=>z a b c
theorem Len4{α:Type}{P:List α->Prop}(z: ∀a b c d,P [a,b,c,d]): ∀us:List α,us.length=4->P us
 |[a,b,c,d],_=>z a b c d
theorem Len5{α:Type}{P:List α->Prop}(z: ∀a b c d e,P [a,b,c,d,e]): ∀us:List α,us.length=5->P us
 |[a,b,c,d,e],_=>z a b c d e
theorem zAK{P:Ax}{w:World}{K:Ai}{mg:Str->Option Value}{base:Heap}{C f:Addr}{fd:Cy}(F:Y3 K "__init__" "Flat.__init__" (mem 58 0) f fd) (c:Cls K C) (n1:Z4 K C "laid") (n2:Z4 K C "numbers"):bX P w K mg base CX0 1 f fd ["self"] (spI C "laid" "numbers"):=
 zCU F aU c n1 n2 (by decide) fun _ _ _ _ _ _ hr=>ini2 (pv 0) (pv 0)
theorem zHN{l:Ob}{w:World}{K:Ai}{h:Heap}{mg:Str->Option Value}{fa:Addr}(X:K.In h)(G:h.Ns mainGlobals mg)(hfa:mg "law"=some (.ref fa))
  {C_Flat f_Flat f_x0 f_x1 f_x2 f_x3 f_x4 f_x5 f_x6 f_x7 f_x8 f_x9 f_x10 f_x11 f_x12 f_x13 f_x14 f_x15 f_x16 f_x17 f_x18 f_x19 f_x20 f_x21 f_x22:Addr}
  {kV_x22 dc_x22 pm_x22 cd_x22 ct_x22:Value}
  {t1:Tok}
  {a2 f_x23 f_x24 f_x25 f_x26 f_x27 f_x28 f_x29 f_x30 f_x31 f_x32 f_x45 f_x46 f_x48 f_x49 f_x47 f_x33 f_x34 f_x35 f_x36 f_x37 f_x38 f_x39 f_x40 f_x41 f_x42 f_x43 f_x44:Addr}
  {kV_x44 dc_x44 pm_x44 cd_x44 ct_x44:Value}
  {t3 t4 t5 t6 t7 t8 t9 t10:Tok}
  {a11:Addr}
  {t12 t13 t14 t15 t16 t17 t18:Tok}
  {a19:Addr}
  {h20 h21 h22 h23 h24 h25 h26:Int}
  {t27 t28 t29 t30 t31:Tok}
  {a32:Addr}
  {t33 t34 t35 t36 t37 t38 t39:Tok}
  {a40:Addr}
  {t41 t42 t43:Tok}
  {a44:Addr}
  {t45:Tok}
  {a46:Addr}
  {t47 t48 t49:Tok}
  {a50:Addr}
  {t51 t52:Tok}
  {a53:Addr}
  {t54 t55 t56:Tok}
  {a57 a58:Addr}
  {h59 h60 h61 h62 h63 h64:Int}
  {t65 t66:Tok}
  {a67:Addr}
  {t68 t69:Tok}
  {a70:Addr}
  {t71 t72 t73 t74 t75:Tok}
  (dk:Fg K mainGlobals "Flat"=some (some (.ref C_Flat)))
  (PC:Cls K C_Flat)
  (h7:Z4 K C_Flat "laid")
  (gy:Z4 K C_Flat "numbers")
  (h8:Jo K C_Flat=true)
  (h9:Eg K (.ref C_Flat)=true)
  (iu:A4m K "Flat" "__init__" "Flat.__init__" (mem 58 0) f_Flat)
  (o6:A4 K "is_whole" (top 9) f_x0)
  (lc:A4 K "plus" (top 10) f_x1)
  (ky:A4 K "minus" (top 11) f_x2)
  (kl:A4 K "times" (top 12) f_x3)
  (k7:A4 K "least" (top 13) f_x4)
  (ju:A4 K "most" (top 14) f_x5)
  (jt:A4 K "less" (top 15) f_x6)
  (js:A4 K "over" (top 16) f_x7)
  (ny:A4 K "pick" (top 17) f_x8)
  (nw:A4 K "done" (top 19) f_x9)
  (lb:A4 K "parts_of" (top 28) f_x10)
  (la:A4 K "makes_word" (top 29) f_x11)
  (l9:A4 K "place_of" (top 30) f_x12)
  (l8:A4 K "names_of" (top 31) f_x13)
  (l7:A4 K "with_names" (top 32) f_x14)
  (l6:A4 K "may_name" (top 33) f_x15)
  (l5:A4 K "fits" (top 34) f_x16)
  (l4:A4 K "is_row" (top 35) f_x17)
  (l0:A4 K "is_block" (top 36) f_x18)
  (kz:A4 K "is_cells" (top 39) f_x19)
  (kx:A4 K "touches" (top 40) f_x20)
  (ku:A4 K "do_on_cell" (top 41) f_x21)
  (lu:K.lookup a2=some ⟨.type "tuple",none,.seq #[.int 0 t1] 0,#[]⟩)
  (im:Fg K mainGlobals "do_row"=some (some (.ref f_x22)))
  (m8:K.lookup f_x22=some ⟨.type "function",none,.func (Ge "do_row" "do_row" (aQ (top 42)) (bE (top 42)) (c9 (top 42)) (.ref a2) kV_x22 dc_x22 pm_x22 none cd_x22 ct_x22),#[]⟩)
  (mz:Ha K cd_x22 "do_row"=true)
  (f7:Eg K (.ref f_x22)=true)
  (kt:A4 K "do_rows" (top 43) f_x23)
  (kr:A4 K "check_run" (top 44) f_x24)
  (kq:A4 K "run" (top 45) f_x25)
  (ko:A4 K "is_if" (top 51) f_x26)
  (kn:A4 K "sight_behind_if" (top 52) f_x27)
  (ii:A4 K "sight_behind" (top 53) f_x28)
  (km:A4 K "is_tree" (top 54) f_x29)
  (ig:A4 K "listed" (top 55) f_x30)
  (kj:A4 K "do_tree" (top 56) f_x31)
  (ki:A4 K "run_tree" (top 57) f_x32)
  (jy:A4m K "Flat" "lay" "Flat.lay" (mem 58 1) f_x45)
  (jx:A4m K "Flat" "both" "Flat.both" (mem 58 2) f_x46)
  (jw:A4m K "Flat" "lay_if" "Flat.lay_if" (mem 58 4) f_x48)
  (jv:A4m K "Flat" "masked" "Flat.masked" (mem 58 5) f_x49)
  (i7:A4m K "Flat" "lay_rows" "Flat.lay_rows" (mem 58 3) f_x47)
  (kh:A4 K "flattened" (top 59) f_x33)
  (kg:A4 K "_law_cell_at" (top 61) f_x34)
  (kf:A4 K "_law_mixed" (top 62) f_x35)
  (kc:A4 K "_law_draw" (top 63) f_x36)
  (ka:A4 K "_law_pick" (top 64) f_x37)
  (k9:A4 K "_law_deed" (top 65) f_x38)
  (k8:A4 K "_law_step" (top 66) f_x39)
  (k6:A4 K "_law_names" (top 67) f_x40)
  (i9:A4 K "_law_many" (top 68) f_x41)
  (i8:A4 K "_law_tree_play" (top 69) f_x42)
  (jz:A4 K "_law_side" (top 70) f_x43)
  (ng:Fg K mainGlobals "law"=some (some (.ref f_x44)))
  (m7:K.lookup f_x44=some ⟨.type "function",none,.func (Ge "law" "law" (aQ (top 71)) (bE (top 71)) (c9 (top 71)) .none kV_x44 dc_x44 pm_x44 none cd_x44 ct_x44),#[]⟩)
  (my:Ha K cd_x44 "law"=true)
  (m9:Eg K (.ref f_x44)=true)
  (jm:Zn K "len")
  (gw:Zn K "range")
  (jk:Zn K "min")
  (jl:Zn K "max")
  (io:Zn K "list")
  (gv:Zn K "tuple")
  (eu:Zn K "sorted")
  (cu:Zn K "isinstance")
  (ip:Zn K "bool")
  (jo:Zn K "int")
  (jj:Zn K "str")
  (d9:Zn K "enumerate")
  (jh:Zn K "zip")
  (jr:Zn K "all")
  (jq:Zn K "any")
  (ji:Zn K "sum")
  (db:Gn K "MOST_WORD" (.int 999 t3))
  (lw:K.lookup a11=some ⟨.type "tuple",none,.seq #[.str "plus" t4,.str "minus" t5,.str "times" t6,.str "least" t7,.str "most" t8,.str "less" t9,.str "over" t10] 0,#[]⟩)
  (i3:Gn K "DEEDS" (.ref a11))
  (lv:K.lookup a19=some ⟨.type "dict",none,.dict #[⟨h20,.str "plus" t12,.ref f_x1⟩,⟨h21,.str "minus" t13,.ref f_x2⟩,⟨h22,.str "times" t14,.ref f_x3⟩,⟨h23,.str "least" t15,.ref f_x4⟩,⟨h24,.str "most" t16,.ref f_x5⟩,⟨h25,.str "less" t17,.ref f_x6⟩,⟨h26,.str "over" t18,.ref f_x7⟩] 7,#[]⟩)
  (m6:(a19==Ei)=false)
  (j5:Gn K "MADE" (.ref a19))
  (dc:Gn K "MOST_SURE" (.int 64 t27))
  (de:Gn K "MOST_ROWS" (.int 40 t28))
  (cy:Gn K "MOST_PLACE" (.int 63 t29))
  (ls:K.lookup a32=some ⟨.type "tuple",none,.seq #[.str "row" t30,.str "row" t31] 0,#[]⟩)
  (d8:Gn K "DEED_PARTS" (.ref a32))
  (lr:K.lookup a40=some ⟨.type "tuple",none,.seq #[.str "word" t39] 0,#[]⟩)
  (lq:K.lookup a44=some ⟨.type "tuple",none,.seq #[.str "row" t41,.str "row" t42,.str "row" t43] 0,#[]⟩)
  (lp:K.lookup a46=some ⟨.type "tuple",none,.seq #[.str "place" t45] 0,#[]⟩)
  (ln:K.lookup a50=some ⟨.type "tuple",none,.seq #[.str "place" t47,.str "row" t48,.str "row" t49] 0,#[]⟩)
  (ll:K.lookup a53=some ⟨.type "tuple",none,.seq #[.str "place" t51,.str "row" t52] 0,#[]⟩)
  (lj:K.lookup a57=some ⟨.type "tuple",none,.seq #[.str "place" t54,.str "row" t55,.str "row" t56] 0,#[]⟩)
  (li:K.lookup a58=some ⟨.type "dict",none,.dict #[⟨h59,.str "number" t33,.ref a40⟩,⟨h60,.str "pick" t34,.ref a44⟩,⟨h61,.str "load" t35,.ref a46⟩,⟨h62,.str "take" t36,.ref a50⟩,⟨h63,.str "store" t37,.ref a53⟩,⟨h64,.str "put" t38,.ref a57⟩] 6,#[]⟩)
  (m5:(a58==Ei)=false)
  (cg:Gn K "OTHER_PARTS" (.ref a58))
  (lh:K.lookup a67=some ⟨.type "tuple",none,.seq #[.str "load" t65,.str "take" t66] 0,#[]⟩)
  (eo:Gn K "READERS" (.ref a67))
  (lf:K.lookup a70=some ⟨.type "tuple",none,.seq #[.str "store" t68,.str "put" t69] 0,#[]⟩)
  (en:Gn K "WRITERS" (.ref a70))
  (cz:Gn K "MOST_CELLS" (.int 64 t71))
  (bo:Gn K "MOST_TREE_ROWS" (.int 20 t72))
  (df:Gn K "MOST_DEEP" (.int 3 t73))
  (j4:Gn K "ZERO" (.int 0 t74))
  (mq:Gn K "ONE" (.int 1 t75)):
  ∃fd:Cy,(∀(s:Ag) (v:Value),Mu s fd ⟨[v],[]⟩ [("_law_script",v)])/\ ∀base:Heap,K.In base->base.Ns mainGlobals mg->bX l.prog w K mg base CX0 15 fa fd ["_law_script"] (spV K [] 1 MD):=by
 have e:=hfa.symm.trans (Ez X G ng);cases e;have T:Txt K mg:=⟨fun _ _ e=>Ez X G e,
   Cq X G jm,
   Cq X G gw,
   Cq X G jk,
   Cq X G jl,
   Cq X G io,
   Cq X G gv,
   Cq X G eu,
   Cq X G cu,
   Cq X G ip,
   Cq X G jo,
   Cq X G jj,
   Cq X G d9,
   Cq X G jh,
   Cq X G jr,
   Cq X G jq,
   Cq X G ji,
   ⟨_,.ref a11,Ez X G i3,rfl,fun _ _ _=>(.tup (xs:=[.str "plus",.str "minus",.str "times",.str "least",.str "most",.str "less",.str "over"]) (.inr ⟨_,_,_,lw,rfl,rfl,(by show 7<=sizeLine;decide),(.cons ⟨_,rfl⟩ (.cons ⟨_,rfl⟩ (.cons ⟨_,rfl⟩ (.cons ⟨_,rfl⟩ (.cons ⟨_,rfl⟩ (.cons ⟨_,rfl⟩ (.cons ⟨_,rfl⟩ .nil)))))))⟩) (.cons (.str _) (.cons (.str _) (.cons (.str _) (.cons (.str _) (.cons (.str _) (.cons (.str _) (.cons (.str _) .nil))))))))⟩,
   ⟨_,.ref a32,Ez X G d8,rfl,fun _ _ _=>(.tup (xs:=[.str "row",.str "row"]) (.inr ⟨_,_,_,ls,rfl,rfl,(by show 2<=sizeLine;decide),(.cons ⟨_,rfl⟩ (.cons ⟨_,rfl⟩ .nil))⟩) (.cons (.str _) (.cons (.str _) .nil)))⟩,
   ⟨_,.ref a19,Ez X G j5,rfl,fun _ _ _=>(.ktb (D:=[("plus",.ref f_x1),("minus",.ref f_x2),("times",.ref f_x3),("least",.ref f_x4),("most",.ref f_x5),("less",.ref f_x6),("over",.ref f_x7)]) ⟨m6,_,_,_,lv,⟨rfl,rfl,rfl⟩,rfl,(.cons rfl rfl (.cons rfl rfl (.cons rfl rfl (.cons rfl rfl (.cons rfl rfl (.cons rfl rfl (.cons rfl rfl .nil)))))))⟩ (.cons (.fn lc.ns) (.cons (.fn ky.ns) (.cons (.fn kl.ns) (.cons (.fn k7.ns) (.cons (.fn ju.ns) (.cons (.fn jt.ns) (.cons (.fn js.ns) .nil))))))))⟩,
   ⟨_,.int 64,Ez X G cz,⟨_,rfl⟩,fun _ _ _=>(.int _)⟩,
   ⟨_,.int 3,Ez X G df,⟨_,rfl⟩,fun _ _ _=>(.int _)⟩,
   ⟨_,.int 63,Ez X G cy,⟨_,rfl⟩,fun _ _ _=>(.int _)⟩,
   ⟨_,.int 40,Ez X G de,⟨_,rfl⟩,fun _ _ _=>(.int _)⟩,
   ⟨_,.int 64,Ez X G dc,⟨_,rfl⟩,fun _ _ _=>(.int _)⟩,
   ⟨_,.int 20,Ez X G bo,⟨_,rfl⟩,fun _ _ _=>(.int _)⟩,
   ⟨_,.int 999,Ez X G db,⟨_,rfl⟩,fun _ _ _=>(.int _)⟩,
   ⟨_,.int 1,Ez X G mq,⟨_,rfl⟩,fun _ _ _=>(.int _)⟩,
   ⟨_,.ref a58,Ez X G cg,rfl,fun _ _ _=>(.ktb (D:=[("number",.ref a40),("pick",.ref a44),("load",.ref a46),("take",.ref a50),("store",.ref a53),("put",.ref a57)]) ⟨m5,_,_,_,li,⟨rfl,rfl,rfl⟩,rfl,(.cons rfl rfl (.cons rfl rfl (.cons rfl rfl (.cons rfl rfl (.cons rfl rfl (.cons rfl rfl .nil))))))⟩ (.cons (.tup (xs:=[.str "word"]) (.inr ⟨_,_,_,lr,rfl,rfl,(by show 1<=sizeLine;decide),(.cons ⟨_,rfl⟩ .nil)⟩) (.cons (.str _) .nil)) (.cons (.tup (xs:=[.str "row",.str "row",.str "row"]) (.inr ⟨_,_,_,lq,rfl,rfl,(by show 3<=sizeLine;decide),(.cons ⟨_,rfl⟩ (.cons ⟨_,rfl⟩ (.cons ⟨_,rfl⟩ .nil)))⟩) (.cons (.str _) (.cons (.str _) (.cons (.str _) .nil)))) (.cons (.tup (xs:=[.str "place"]) (.inr ⟨_,_,_,lp,rfl,rfl,(by show 1<=sizeLine;decide),(.cons ⟨_,rfl⟩ .nil)⟩) (.cons (.str _) .nil)) (.cons (.tup (xs:=[.str "place",.str "row",.str "row"]) (.inr ⟨_,_,_,ln,rfl,rfl,(by show 3<=sizeLine;decide),(.cons ⟨_,rfl⟩ (.cons ⟨_,rfl⟩ (.cons ⟨_,rfl⟩ .nil)))⟩) (.cons (.str _) (.cons (.str _) (.cons (.str _) .nil)))) (.cons (.tup (xs:=[.str "place",.str "row"]) (.inr ⟨_,_,_,ll,rfl,rfl,(by show 2<=sizeLine;decide),(.cons ⟨_,rfl⟩ (.cons ⟨_,rfl⟩ .nil))⟩) (.cons (.str _) (.cons (.str _) .nil))) (.cons (.tup (xs:=[.str "place",.str "row",.str "row"]) (.inr ⟨_,_,_,lj,rfl,rfl,(by show 3<=sizeLine;decide),(.cons ⟨_,rfl⟩ (.cons ⟨_,rfl⟩ (.cons ⟨_,rfl⟩ .nil)))⟩) (.cons (.str _) (.cons (.str _) (.cons (.str _) .nil)))) .nil)))))))⟩,
   ⟨_,.ref a67,Ez X G eo,rfl,fun _ _ _=>(.tup (xs:=[.str "load",.str "take"]) (.inr ⟨_,_,_,lh,rfl,rfl,(by show 2<=sizeLine;decide),(.cons ⟨_,rfl⟩ (.cons ⟨_,rfl⟩ .nil))⟩) (.cons (.str _) (.cons (.str _) .nil)))⟩,
   ⟨_,.ref a70,Ez X G en,rfl,fun _ _ _=>(.tup (xs:=[.str "store",.str "put"]) (.inr ⟨_,_,_,lf,rfl,rfl,(by show 2<=sizeLine;decide),(.cons ⟨_,rfl⟩ (.cons ⟨_,rfl⟩ .nil))⟩) (.cons (.str _) (.cons (.str _) .nil)))⟩,
   ⟨_,.int 0,Ez X G j4,⟨_,rfl⟩,fun _ _ _=>(.int _)⟩,
   clsF dk PC h7 gy⟩
 have dr:=zCW (st:=top 42) m8 mz f7;have nb:=dr.binds (ps:=NW) (ds:=[]) (m:=4) lu rfl fun _ _ _ _ _ _ us hl=>match us,hl with|[_,_,_,_],_=>⟨_,rfl,rfl⟩
 have j8:=dr.binds (ps:=NW) (ds:=[.int 0 t1]) (m:=3) lu rfl fun _ _ _ _ _ _ us hl=>match us,hl with|[_,_,_],_=>⟨_,rfl,rfl⟩
 have nh:=LG (st:=top 71) m7 my m9;refine⟨Ge "law" "law" (aQ (top 71)) (bE (top 71)) (c9 (top 71)) .none kV_x44 dc_x44 pm_x44 none cd_x44 ct_x44,fun s v=> .of_eq rfl,fun base _ _=> ?_⟩;have di:NewF l.prog w K mg base "Flat" "laid" "numbers":=zJN X G T.c_Flat iu (mksF dk h8 h9) (fun U c n1 n2=>zAK U c n1 n2) (PR fun _=>rfl);have aw:cK l.prog w K mg base "is_whole" 1 Qx0 [] bN f_x0:=aJ X G o6 (fun U=>zJH U T) (RE fun _ _ _=>rfl);have jg:cK l.prog w K mg base "plus" 1 Qx1 [] QH f_x1:=aJ X G lc (fun U=>zJG U T) (XC fun _ _=>rfl);have jf:cK l.prog w K mg base "minus" 1 Qx2 [] T1 f_x2:=aJ X G ky (fun U=>zJF U T) (XC fun _ _=>rfl);have je:cK l.prog w K mg base "times" 1 Qx3 [] T2 f_x3:=aJ X G kl (fun U=>zJE U T) (XC fun _ _=>rfl);have jd:cK l.prog w K mg base "least" 1 Qx4 [] T0 f_x4:=aJ X G k7 (fun U=>zJD U T) (XC fun _ _=>rfl);have jc:cK l.prog w K mg base "most" 1 Qx5 [] QF f_x5:=aJ X G ju (fun U=>zJC U T) (XC fun _ _=>rfl);have jb:cK l.prog w K mg base "less" 1 Qx6 [] QE f_x6:=aJ X G jt (fun U=>zJB U T) (XC fun _ _=>rfl);have ja:cK l.prog w K mg base "over" 1 Qx7 [] WU f_x7:=aJ X G js (fun U=>zJA U T) (XC fun _ _=>rfl);have j9:cK l.prog w K mg base "pick" 1 Qx8 [] QG f_x8:=aJ X G ny (fun U=>zJ9 U T) (RE fun _ _ _=>rfl);have i5:cK l.prog w K mg base "done" 2 Qx9 [] XY f_x9:=aJ X G nw (fun U=>zJ8 U T jg jf je jd jc jb ja j9) (XC fun _ _=>rfl);have cr:cK l.prog w K mg base "parts_of" 1 C0 [] a7 f_x10:=aJ X G lb (fun U=>zGY U T) (PR fun _=>rfl);have cq:cK l.prog w K mg base "makes_word" 1 C1 [] Z0 f_x11:=aJ X G la (fun U=>zGX U T) (PR fun _=>rfl);have ee:cK l.prog w K mg base "place_of" 1 Qx12 [] bR f_x12:=aJ X G l9 (fun U=>zGW U T) (PR fun _=>rfl);have bm:cK l.prog w K mg base "names_of" 2 GI [] Z1 f_x13:=aJ X G l8 (fun U=>zGV U T cr) (PR fun _=>rfl);have gu:cK l.prog w K mg base "with_names" 1 Qx14 [] YR f_x14:=aJ X G l7 (fun U=>zGU U T) (XC fun _ _=>rfl);have cp:cK l.prog w K mg base "may_name" 2 C2 [] ZM f_x15:=aJ X G l6 (fun U=>zGT U T aw) (XC fun _ _=>rfl);have gn:cK l.prog w K mg base "fits" 3 Qx16 [] WT f_x16:=aJ X G l5 (fun U=>zGS U T aw cp) (RE fun _ _ _=>rfl);have cn:cK l.prog w K mg base "is_row" 4 C3 [] X3 f_x17:=aJ X G l4 (fun U=>zGR U T cr gn) (XC fun _ _=>rfl);have gl:cK l.prog w K mg base "is_block" 5 Qx18 [] YD f_x18:=aJ X G l0 (fun U=>zGQ U T aw cq cn) (PR fun _=>rfl);have ck:cK l.prog w K mg base "is_cells" 2 C4 [] ZL f_x19:=aJ X G kz (fun U=>zGP U T aw) (XC fun _ _=>rfl);have gk:cK l.prog w K mg base "touches" 1 Qx20 [] ZV f_x20:=aJ X G kx (fun U=>zGO U T) (XC fun _ _=>rfl);have dz:cK l.prog w K mg base "do_on_cell" 2 Qx21 [3] b4 f_x21:=aJ X G ku (fun U=>zGN U T gk) (Len4 fun _ _ _ _=>rfl);have dw:cK l.prog w K mg base "do_row" 3 NW [2] aD f_x22:=⟨Ez X G im,⟨_,zA4 dr T i5 ee dz,nb⟩,f7⟩;have bp:DefD l.prog w K mg base "do_row" 3 NW (spV K [2] 4 aD) f_x22 (.int 0):=⟨Ez X G im,⟨_,_,zA4 dr T i5 ee dz,j8,by first|exact⟨_,rfl⟩|rfl⟩,f7⟩;have gj:cK l.prog w K mg base "do_rows" 4 Qx23 [1] XQ f_x23:=aJ X G kt (fun U=>zGM U T bm dw bp) (XC fun _ _=>rfl);have gh:cK l.prog w K mg base "check_run" 6 Qx24 [] YY f_x24:=aJ X G kr (fun U=>zGL U T gl ck) (XC fun _ _=>rfl);have gf:cK l.prog w K mg base "run" 7 Qx25 [] ME f_x25:=aJ X G kq (fun U=>zGK U T gj gh) (XC fun _ _=>rfl);have gd:cK l.prog w K mg base "is_if" 1 Qx26 [] TZ f_x26:=aJ X G ko (fun U=>zGJ U T) (PR fun _=>rfl);have nu: ∀n,cK l.prog w K mg base "sight_behind" (4+2*n) C5 [] (bW n) f_x28:=fun n=>by
  induction n with
  |zero=>exact(aJ X G ii (fun U=>RQ) (RE fun _ _ _=>rfl))
  |succ n cf=>
   have gc:cK l.prog w K mg base "sight_behind_if" (4+2*n+1) Qx27 [] (Z9 (bW n)) f_x27:=(aJ X G kn (fun U=>zGI (Dz _ _) U T cp cf) (RE fun _ _ _=>rfl));exact(aJ X G ii (fun U=>zGH (Dz _ _) U T cq cn gd gc) (RE fun _ _ _=>rfl))
 have cf:=nu 4;have cj:cK l.prog w K mg base "is_tree" 13 C6 [] Y0 f_x29:=aJ X G km (fun U=>zGG U T aw cf) (PR fun _=>rfl);have nq: ∀n,cK l.prog w K mg base "listed" (0+1*n) C7 [] (YQ n) f_x30:=fun n=>by
  induction n with
  |zero=>exact(aJ X G ig (fun U=>RQ) (XC fun _ _=>rfl))
  |succ n bu=>
   exact(aJ X G ig (fun U=>zGF (Dz _ _) U T bu) (XC fun _ _=>rfl))
 have bu:=nq 4;have gb:cK l.prog w K mg base "do_tree" 5 Qx31 [1] XR f_x31:=aJ X G kj (fun U=>zGE U T bm dw bu bp) (XC fun _ _=>rfl);have g9:cK l.prog w K mg base "run_tree" 14 Qx32 [] YF f_x32:=aJ X G ki (fun U=>zGD U T ck cj gb) (XC fun _ _=>rfl);have aj:U8 l.prog w K mg base "Flat" "lay" 1 KR [0] 2 bG f_x45:=(M2 jy (fun U=>zG0 U T) (XC fun _ _=>rfl));have cb:U8 l.prog w K mg base "Flat" "both" 2 DC [0] 3 Z8 f_x46:=(M2 jx (fun U=>zFZ U T aj) (RE fun _ _ _=>rfl));have fm:U8 l.prog w K mg base "Flat" "masked" 3 Qx49 [0] 3 ZU f_x49:=(M2 jv (fun U=>zFW U T aj cb) (RE fun _ _ _=>rfl));have ni: ∀n,U8 l.prog w K mg base "Flat" "lay_rows" (3+2*n) DD [0] 3 (bV n) f_x47:=fun n=>by
  induction n with
  |zero=>exact(M2 i7 (fun U=>RQ) (RE fun _ _ _=>rfl))
  |succ n bq=>
   have fo:U8 l.prog w K mg base "Flat" "lay_if" (3+2*n+1) Qx48 [0] 3 (Y8 (bV n)) f_x48:=(M2 jw (fun U=>zFX (Dz _ _) U T aj cb bq) (RE fun _ _ _=>rfl));exact(M2 i7 (fun U=>zFY (Dz _ _) U T bm gu aj fo fm) (RE fun _ _ _=>rfl))
 have bq:=ni 4;have g8:cK l.prog w K mg base "flattened" 14 Qx33 [] YZ f_x33:=aJ X G kh (fun U=>zGC U T cj aj bq di) (PR fun _=>rfl);have g7:cK l.prog w K mg base "_law_cell_at" 1 Qx34 [] aN f_x34:=aJ X G kg (fun U=>zGB U T) (XC fun _ _=>rfl);have g6:cK l.prog w K mg base "_law_mixed" 2 Qx35 [] Y1 f_x35:=aJ X G kf (fun U=>zGA U T g7) (RE fun _ _ _=>rfl);have ay:cK l.prog w K mg base "_law_draw" 3 C8 [1] a6 f_x36:=aJ X G kc (fun U=>zG9 U T g6) (RE fun _ _ _=>rfl);have ax:cK l.prog w K mg base "_law_pick" 4 C9 [1] bH f_x37:=aJ X G ka (fun U=>zG8 U T ay) (RE fun _ _ _=>rfl);have g5:cK l.prog w K mg base "_law_deed" 1 Qx38 [] ZZ f_x38:=aJ X G k9 (fun U=>zG7 U T) (XC fun _ _=>rfl);have fz:cK l.prog w K mg base "_law_step" 2 Qx39 [3] YE f_x39:=aJ X G k8 (fun U=>zG6 U T g5) (Len4 fun _ _ _ _=>rfl);have fu:cK l.prog w K mg base "_law_names" 1 Qx40 [] X4 f_x40:=aJ X G k6 (fun U=>zG5 U T) (PR fun _=>rfl);have nk: ∀n,cK l.prog w K mg base "_law_many" (0+1*n) DA [] (Z7 n) f_x41:=fun n=>by
  induction n with
  |zero=>exact(aJ X G i9 (fun U=>RQ) (PR fun _=>rfl))
  |succ n bj=>
   exact(aJ X G i9 (fun U=>zG4 (Dz _ _) U T bj) (PR fun _=>rfl))
 have bj:=nk 4;have nj: ∀n,cK l.prog w K mg base "_law_tree_play" (4+1*n) DB [2,3] (b9 n) f_x42:=fun n=>by
  induction n with
  |zero=>exact(aJ X G i8 (fun U=>RQ) (Len4 fun _ _ _ _=>rfl))
  |succ n br=>
   exact(aJ X G i8 (fun U=>zG3 (Dz _ _) U T fz fu bj br) (Len4 fun _ _ _ _=>rfl))
 have br:=nj 4;have du:cK l.prog w K mg base "_law_side" 5 Qx43 [1] aF f_x43:=aJ X G jz (fun U=>zG2 U T ax) (Len5 fun _ _ _ _ _=>rfl);exact zG1 nh T gf g9 g8 ay ax br du
theorem BS(K:Ai)(H:Hp)(a:Addr)(ns:List Int)(hl:ns.length<=63)(h:XZ K H a (ns.map V.int)):spV K [] 1 MD [.ref a] H (fun v _=>v= .bl true) fun _ _ _=>False:=by
 have hr:cJ K (Zp (fun _=>False) [] [.ref a]) H (ns.map V.int) (ns.map dH.int):=by
  clear h hl;induction ns with
  |nil=>exact .nil
  |cons n ns ih=>exact .cons (.int n) ih
 have hz: ∀b,¬Zp (fun _=>False) [] [V.ref a] b:=fun b h=>by
  rcases h with h|⟨i,h,_⟩
  ·exact h
  ·cases h
 refine⟨fun _=>False,[.lst (ns.map .int)],.bl true,[],rfl,⟨rfl,(fun i h=>nomatch h),fun i d hi e=> ?_,(fun i d h=>nomatch h),(fun i j b h=>nomatch h),fun a h=>h.elim⟩,zAH ns hl,fun v H' _ _ r=>by cases r;rfl⟩;cases i with
 |zero=>
  cases e;refine⟨_,rfl,?_⟩;rcases h with((h|⟨x,C,dx,f,g,p,q,us,ws,h1,h2,z⟩)|⟨o,h⟩)|h
  ·exact .lst h (hz a) hr
  ·exact .fzm (.inr ⟨x,C,dx,f,g,p,q,us,ws,h1,h2,hz x,z.imp (fun z=>⟨z.1,HO.lst.inj z.2⟩) fun z=>⟨z.1,HO.lst.inj z.2⟩⟩) hr
  ·exact .fzl (.inl ⟨o,h⟩) hr
  ·exact .fzl (.inr h) hr
 |succ i=>cases i<;>cases e
end RR
open PySem PySem.W PyProof.Rows
set_option maxRecDepth 100000 in
set_option maxHeartbeats 0 in
theorem PySem.Challenge.cw_lanepacks_k59_whole_guarded_holds : PySem.Challenge.rw_lanepacks_k59_whole_guarded.Holds := by
 w_on;refine holds_law KK.said fun said=> ?_
 refine holds_open (q:=KK.view) (loose:=KK.lo) (Xt:=KK.X) (XP:=XL KK.view []) (Yf:=KK.H.obs) (Ya:=KK.H.val) (YP:=KK.H.says) (N:=6520) KK.hl (Hook.of _) (Hook.keeps _) (fun s e=>xl_of s (Cu.mp e).1) XL.keeps (by rfl) (by rfl) (by rfl) (fun s e=>recFacts_of (Cu.mp e).2) (by rfl) (by first|assumption|decide+kernel) (by decide+kernel) ⟨rfl,rfl,rfl,rfl,rfl,by decide+kernel⟩ ?hw ?hc
 case hw=>w_witness2
 refine L2.CL (l:=Ig) (n:=63) (k:=15) (x:= "_law_script") (CX:=L2.CX0) (sp:=fun K=>L2.spV K [] 1 L2.MD) rfl (by decide) rfl ⟨rfl,by decide,by decide⟩ (fun w h Y=>W.kIn_of (K:=KK.K) (as:=KK.A) (e:=KK.kA) Y) ?F (fun K H a ns hl _ hS=>RR.BS K H a ns hl hS) fun _ _ _ _ z=>z
 case F=>
  intro w mg fa h KX G hmg;exact RR.zHN (K:=KK.K w.params) (C_Flat:=359) (f_Flat:=323) (f_x0:=83) (f_x1:=90) (f_x2:=97) (f_x3:=104) (f_x4:=111) (f_x5:=118) (f_x6:=125) (f_x7:=132) (f_x8:=139) (f_x9:=147) (f_x10:=164) (f_x11:=171) (f_x12:=178) (f_x13:=183) (f_x14:=190) (f_x15:=197) (f_x16:=204) (f_x17:=209) (f_x18:=216) (f_x19:=221) (f_x20:=228) (f_x21:=235) (f_x22:=243) (kV_x22:= .none) (dc_x22:= .none) (pm_x22:= .str "lanepacks.running" 493) (cd_x22:= .ref 242) (ct_x22:= .none) (t1:=521) (a2:=236) (f_x23:=248) (f_x24:=255) (f_x25:=262) (f_x26:=269) (f_x27:=276) (f_x28:=283) (f_x29:=290) (f_x30:=297) (f_x31:=302) (f_x32:=309) (f_x45:=330) (f_x46:=337) (f_x48:=349) (f_x49:=356) (f_x47:=342) (f_x33:=368) (f_x34:=375) (f_x35:=382) (f_x36:=389) (f_x37:=396) (f_x38:=403) (f_x39:=410) (f_x40:=417) (f_x41:=422) (f_x42:=427) (f_x43:=432) (f_x44:=437) (kV_x44:= .none) (dc_x44:= .none) (pm_x44:= .str "law_lanepacks_k59_whole_guarded" 711) (cd_x44:= .ref 436) (ct_x44:= .none) (t3:=273) (t4:=275) (t5:=276) (t6:=277) (t7:=278) (t8:=279) (t9:=280) (t10:=281) (a11:=76) (t12:=357) (t13:=358) (t14:=359) (t15:=360) (t16:=361) (t17:=362) (t18:=363) (a19:=140) (h20:=Bq w.params "plus") (h21:=Bq w.params "minus") (h22:=Bq w.params "times") (h23:=Bq w.params "least") (h24:=Bq w.params "most") (h25:=Bq w.params "less") (h26:=Bq w.params "over") (t27:=383) (t28:=385) (t29:=387) (t30:=389) (t31:=390) (a32:=148) (t33:=392) (t34:=394) (t35:=398) (t36:=400) (t37:=404) (t38:=407) (t39:=393) (a40:=150) (t41:=395) (t42:=396) (t43:=397) (a44:=151) (t45:=399) (a46:=152) (t47:=401) (t48:=402) (t49:=403) (a50:=153) (t51:=405) (t52:=406) (a53:=154) (t54:=408) (t55:=409) (t56:=410) (a57:=155) (a58:=149) (h59:=Bq w.params "number") (h60:=Bq w.params "pick") (h61:=Bq w.params "load") (h62:=Bq w.params "take") (h63:=Bq w.params "store") (h64:=Bq w.params "put") (t65:=418) (t66:=419) (a67:=156) (t68:=421) (t69:=422) (a70:=157) (t71:=495) (t72:=562) (t73:=564) (t74:=566) (t75:=568) KX G hmg
   (by kernel_rfl)
   (KK.PC _)
   (by unfold L2.Z4;kernel_rfl)
   (by unfold L2.Z4;kernel_rfl)
   (by kernel_rfl)
   (by kernel_rfl)
   (KK.UI _ 323 58 0 "__init__" "Flat.__init__" (.str "lanepacks.trees" 560))
   (KK.p _ 83 9 "is_whole" (.str "lanepacks.words" 271))
   (KK.p _ 90 10 "plus" (.str "lanepacks.words" 271))
   (KK.p _ 97 11 "minus" (.str "lanepacks.words" 271))
   (KK.p _ 104 12 "times" (.str "lanepacks.words" 271))
   (KK.p _ 111 13 "least" (.str "lanepacks.words" 271))
   (KK.p _ 118 14 "most" (.str "lanepacks.words" 271))
   (KK.p _ 125 15 "less" (.str "lanepacks.words" 271))
   (KK.p _ 132 16 "over" (.str "lanepacks.words" 271))
   (KK.p _ 139 17 "pick" (.str "lanepacks.words" 271))
   (KK.p _ 147 19 "done" (.str "lanepacks.words" 271))
   (KK.p _ 164 28 "parts_of" (.str "lanepacks.blocks" 381))
   (KK.p _ 171 29 "makes_word" (.str "lanepacks.blocks" 381))
   (KK.p _ 178 30 "place_of" (.str "lanepacks.blocks" 381))
   (KK.p _ 183 31 "names_of" (.str "lanepacks.blocks" 381))
   (KK.p _ 190 32 "with_names" (.str "lanepacks.blocks" 381))
   (KK.p _ 197 33 "may_name" (.str "lanepacks.blocks" 381))
   (KK.p _ 204 34 "fits" (.str "lanepacks.blocks" 381))
   (KK.p _ 209 35 "is_row" (.str "lanepacks.blocks" 381))
   (KK.p _ 216 36 "is_block" (.str "lanepacks.blocks" 381))
   (KK.p _ 221 39 "is_cells" (.str "lanepacks.running" 493))
   (KK.p _ 228 40 "touches" (.str "lanepacks.running" 493))
   (KK.p _ 235 41 "do_on_cell" (.str "lanepacks.running" 493))
   (by kernel_rfl)
   (by kernel_rfl)
   (by kernel_rfl)
   (by kernel_rfl)
   (by kernel_rfl)
   (KK.p _ 248 43 "do_rows" (.str "lanepacks.running" 493))
   (KK.p _ 255 44 "check_run" (.str "lanepacks.running" 493))
   (KK.p _ 262 45 "run" (.str "lanepacks.running" 493))
   (KK.p _ 269 51 "is_if" KK.m)
   (KK.p _ 276 52 "sight_behind_if" KK.m)
   (KK.p _ 283 53 "sight_behind" KK.m)
   (KK.p _ 290 54 "is_tree" KK.m)
   (KK.p _ 297 55 "listed" KK.m)
   (KK.p _ 302 56 "do_tree" KK.m)
   (KK.p _ 309 57 "run_tree" KK.m)
   (KK.UI _ 330 58 1 "lay" "Flat.lay" (.str "lanepacks.trees" 560))
   (KK.UI _ 337 58 2 "both" "Flat.both" (.str "lanepacks.trees" 560))
   (KK.UI _ 349 58 4 "lay_if" "Flat.lay_if" (.str "lanepacks.trees" 560))
   (KK.UI _ 356 58 5 "masked" "Flat.masked" (.str "lanepacks.trees" 560))
   (KK.UI _ 342 58 3 "lay_rows" "Flat.lay_rows" (.str "lanepacks.trees" 560))
   (KK.p _ 368 59 "flattened" KK.m)
   (KK.p _ 375 61 "_law_cell_at" (.str "law_lanepacks_k59_whole_guarded" 711))
   (KK.p _ 382 62 "_law_mixed" (.str "law_lanepacks_k59_whole_guarded" 711))
   (KK.p _ 389 63 "_law_draw" (.str "law_lanepacks_k59_whole_guarded" 711))
   (KK.p _ 396 64 "_law_pick" (.str "law_lanepacks_k59_whole_guarded" 711))
   (KK.p _ 403 65 "_law_deed" (.str "law_lanepacks_k59_whole_guarded" 711))
   (KK.p _ 410 66 "_law_step" (.str "law_lanepacks_k59_whole_guarded" 711))
   (KK.p _ 417 67 "_law_names" (.str "law_lanepacks_k59_whole_guarded" 711))
   (KK.p _ 422 68 "_law_many" (.str "law_lanepacks_k59_whole_guarded" 711))
   (KK.p _ 427 69 "_law_tree_play" (.str "law_lanepacks_k59_whole_guarded" 711))
   (KK.p _ 432 70 "_law_side" (.str "law_lanepacks_k59_whole_guarded" 711))
   (by kernel_rfl)
   (by kernel_rfl)
   (by kernel_rfl)
   (by kernel_rfl)
   (by kernel_rfl)
   (by kernel_rfl)
   (by kernel_rfl)
   (by kernel_rfl)
   (by kernel_rfl)
   (by kernel_rfl)
   (by kernel_rfl)
   (by kernel_rfl)
   (by kernel_rfl)
   (by kernel_rfl)
   (by kernel_rfl)
   (by kernel_rfl)
   (by kernel_rfl)
   (by kernel_rfl)
   (by kernel_rfl)
   (by kernel_rfl)
   (by kernel_rfl)
   (by kernel_rfl)
   (by kernel_rfl)
   (by kernel_rfl)
   (by decide)
   (by kernel_rfl)
   (by kernel_rfl)
   (by kernel_rfl)
   (by kernel_rfl)
   (by kernel_rfl)
   (by kernel_rfl)
   (by kernel_rfl)
   (by kernel_rfl)
   (by kernel_rfl)
   (by kernel_rfl)
   (by kernel_rfl)
   (by kernel_rfl)
   (by kernel_rfl)
   (by decide)
   (by kernel_rfl)
   (by kernel_rfl)
   (by kernel_rfl)
   (by kernel_rfl)
   (by kernel_rfl)
   (by kernel_rfl)
   (by kernel_rfl)
   (by kernel_rfl)
   (by kernel_rfl)
   (by kernel_rfl)
end
