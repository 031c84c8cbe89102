import PyProof.Rows.All
import KE.KFromBytes
import KE.KTab
import KE.KIsAll
import KE.KDictOf
import KE.KEqDeep
import KE.KItem
import KE.KUnpackStar
import Wide.FinOn
import Wide.Line
import KE.KSortTup
import PyProof.AttrMissSeq
import PySem.Challenge.RW_lanepacks_k56_whole_values_by_names
set_option Elab.async false
set_option linter.all false
set_option maxRecDepth 100000
set_option maxHeartbeats 4000000
set_option bootstrap.genMatcherCode false
noncomputable section
namespace RR
open PySem
def top(i:Nat):Stmt:=PySem.Challenge.pw_lanepacks_k56_whole_values_by_names.main.body.getD i (.Pass ⟨0,0,0,0⟩)
end RR
namespace KK
open PySem PySem.W PySem.Calls PyProof.Rows
def dA(s:Stmt):Arguments:=match s with
 | .FunctionDef _ a _ _ _ _ _ _ _ _=>a
 |_=>⟨[],[],none,[],[],none,[]⟩
def dB(s:Stmt):List Stmt:=match s with
 | .FunctionDef _ _ b _ _ _ _ _ _ _=>b
 |_=>[]
def dS(s:Stmt):Scope:=match s with
 | .FunctionDef _ _ _ _ _ _ c _ _ _=>c
 |_=>{kind:= .function,names:=[],isGenerator:=false,isCoroutine:=false}
abbrev s(x:Str)(t:Nat):Value:= .str x t
abbrev e(P:Params)(x:Str)(t:Nat)(v:Value):DictEntry:=⟨PyData.keyHash P x,s x t,v⟩
abbrev f(a i:Nat)(n:Str)(d m:Value):Nat×Obj:=(a,⟨.type "function",none,.func (fnOf n n (dA (RR.top i)) (dB (RR.top i)) (dS (RR.top i)) d .none .none m none (.ref (a - 1)) .none),#[]⟩)
abbrev co(a:Nat)(n:Str)(t:Nat)(l k:Int)(u:Nat)(x y z v:Value):Nat×Obj:=(a,⟨.type "code",none,.fields #[s n t,s n (t+1),s "/claim/cut.py" (t+2),.int l 0,.int k 0,.int 0 0,.int 0 0,.int 3 0,x,.bool true,.int 181 0,y,.none,z,v,.ref (a - 1),.int u 0,.int l 0,s "/claim/cut.py" (u+1)],#[]⟩)
abbrev c(a:Nat)(n:Str)(t:Nat)(l k:Int)(u:Nat):Nat×Obj:=co a n t l k u (.ref (a - 5)) (.ref (a - 4)) (.ref (a - 3)) (.ref (a - 2))
abbrev b(a:Nat)(n:Str)(t:Nat)(l k:Int)(u:Nat):Nat×Obj:=co a n t l k u (.ref (a - 3)) (.ref (a - 2)) .none .none
noncomputable def K(P:Params):Frag:=[(3,⟨.type "dict",none,.dict #[e P "__name__" 165 (s "law_lanepacks_k56_whole_values_by_names" 580),e P "__doc__" 166 (.none),e P "__package__" 167 (.none),e P "__loader__" 168 (.builtin "__main__.__loader__#opaque"),e P "__spec__" 169 (.none),e P "__annotations__" 170 (.ref 6),e P "__builtins__" 171 (.ref 4),e P "__file__" 173 (s "/claim/cut.py" 172),e P "__cached__" 174 (.none),e P "PackError" 206 (.ref 24),e P "NoBlock" 222 (.ref 37),e P "NoCells" 238 (.ref 49),e P "NoRow" 263 (.ref 68),e P "MOST_WORD" 267 (.int 999 266),e P "DEEDS" 275 (.ref 71),e P "is_whole" 284 (.ref 78),e P "plus" 292 (.ref 85),e P "minus" 300 (.ref 92),e P "times" 308 (.ref 99),e P "least" 316 (.ref 106),e P "most" 324 (.ref 113),e P "less" 332 (.ref 120),e P "over" 340 (.ref 127),e P "pick" 349 (.ref 134),e P "MADE" 364 (.ref 135),e P "done" 373 (.ref 142),e P "MOST_SURE" 377 (.int 64 376),e P "MOST_ROWS" 379 (.int 40 378),e P "MOST_PLACE" 381 (.int 63 380),e P "DEED_PARTS" 384 (.ref 143),e P "OTHER_PARTS" 410 (.ref 144),e P "READERS" 413 (.ref 151),e P "WRITERS" 416 (.ref 152),e P "parts_of" 423 (.ref 159),e P "makes_word" 430 (.ref 166),e P "place_of" 437 (.ref 173),e P "names_of" 443 (.ref 178),e P "may_name" 451 (.ref 185),e P "fits" 460 (.ref 192),e P "is_row" 466 (.ref 197),e P "is_block" 477 (.ref 204),e P "row_at" 486 (.ref 211),e P "makes" 494 (.ref 218),e P "named" 502 (.ref 225),e P "MOST_CELLS" 506 (.int 64 505),e P "is_cells" 512 (.ref 230),e P "touches" 520 (.ref 237),e P "do_on_cell" 530 (.ref 244),e P "do_row" 544 (.ref 252),e P "do_rows" 550 (.ref 257),e P "check_run" 558 (.ref 264),e P "run" 569 (.ref 271),e P "values" 579 (.ref 278),e P "_law_cell_at" 591 (.ref 285),e P "_law_mixed" 601 (.ref 292),e P "_law_draw" 610 (.ref 299),e P "_law_pick" 619 (.ref 306),e P "_law_place" 630 (.ref 313),e P "_law_row" 636 (.ref 318),e P "_law_rows" 650 (.ref 325),e P "_law_next" 667 (.ref 332),e P "_law_block" 673 (.ref 337),e P "_law_cells" 679 (.ref 342),e P "_law_names" 686 (.ref 349),e P "_law_may" 692 (.ref 354),e P "_law_must" 698 (.ref 359),e P "_law_mixed_order" 704 (.ref 364),e P "_law_renamed" 710 (.ref 369),e P "law" 716 (.ref 374)] 69,#[]⟩),
 (71,⟨.type "tuple",none,.seq #[s "plus" 268,s "minus" 269,s "times" 270,s "least" 271,s "most" 272,s "less" 273,s "over" 274] 0,#[]⟩),
 f 78 8 "is_whole" (.none) (s "lanepacks.words" 264),
 c 77 "is_whole" 276 16 3 282,
 f 85 9 "plus" (.none) (s "lanepacks.words" 264),
 c 84 "plus" 285 20 2 290,
 f 92 10 "minus" (.none) (s "lanepacks.words" 264),
 c 91 "minus" 293 22 2 298,
 f 99 11 "times" (.none) (s "lanepacks.words" 264),
 c 98 "times" 301 24 2 306,
 f 106 12 "least" (.none) (s "lanepacks.words" 264),
 c 105 "least" 309 26 2 314,
 f 113 13 "most" (.none) (s "lanepacks.words" 264),
 c 112 "most" 317 28 2 322,
 f 120 14 "less" (.none) (s "lanepacks.words" 264),
 c 119 "less" 325 30 2 330,
 f 127 15 "over" (.none) (s "lanepacks.words" 264),
 c 126 "over" 333 32 2 338,
 f 134 16 "pick" (.none) (s "lanepacks.words" 264),
 c 133 "pick" 341 34 3 347,
 (135,⟨.type "dict",none,.dict #[e P "plus" 350 (.ref 85),e P "minus" 351 (.ref 92),e P "times" 352 (.ref 99),e P "least" 353 (.ref 106),e P "most" 354 (.ref 113),e P "less" 355 (.ref 120),e P "over" 356 (.ref 127)] 7,#[]⟩),
 f 142 18 "done" (.none) (s "lanepacks.words" 264),
 c 141 "done" 365 37 2 371,
 (143,⟨.type "tuple",none,.seq #[s "row" 382,s "row" 383] 0,#[]⟩),
 (144,⟨.type "dict",none,.dict #[e P "number" 385 (.ref 145),e P "pick" 387 (.ref 146),e P "load" 391 (.ref 147),e P "take" 393 (.ref 148),e P "store" 397 (.ref 149),e P "put" 400 (.ref 150)] 6,#[]⟩),
 (145,⟨.type "tuple",none,.seq #[s "word" 386] 0,#[]⟩),
 (146,⟨.type "tuple",none,.seq #[s "row" 388,s "row" 389,s "row" 390] 0,#[]⟩),
 (147,⟨.type "tuple",none,.seq #[s "place" 392] 0,#[]⟩),
 (148,⟨.type "tuple",none,.seq #[s "place" 394,s "row" 395,s "row" 396] 0,#[]⟩),
 (149,⟨.type "tuple",none,.seq #[s "place" 398,s "row" 399] 0,#[]⟩),
 (150,⟨.type "tuple",none,.seq #[s "place" 401,s "row" 402,s "row" 403] 0,#[]⟩),
 (151,⟨.type "tuple",none,.seq #[s "load" 411,s "take" 412] 0,#[]⟩),
 (152,⟨.type "tuple",none,.seq #[s "store" 414,s "put" 415] 0,#[]⟩),
 f 159 27 "parts_of" (.none) (s "lanepacks.blocks" 374),
 c 158 "parts_of" 417 50 1 421,
 f 166 28 "makes_word" (.none) (s "lanepacks.blocks" 374),
 c 165 "makes_word" 424 54 1 428,
 f 173 29 "place_of" (.none) (s "lanepacks.blocks" 374),
 c 172 "place_of" 431 56 1 435,
 f 178 30 "names_of" (.none) (s "lanepacks.blocks" 374),
 b 177 "names_of" 438 58 1 441,
 f 185 31 "may_name" (.none) (s "lanepacks.blocks" 374),
 c 184 "may_name" 444 61 2 449,
 f 192 32 "fits" (.none) (s "lanepacks.blocks" 374),
 c 191 "fits" 452 63 3 458,
 f 197 33 "is_row" (.none) (s "lanepacks.blocks" 374),
 b 196 "is_row" 461 69 2 464,
 f 204 34 "is_block" (.none) (s "lanepacks.blocks" 374),
 c 203 "is_block" 467 77 1 475,
 f 211 35 "row_at" (.none) (s "lanepacks.blocks" 374),
 c 210 "row_at" 478 91 2 484,
 f 218 36 "makes" (.none) (s "lanepacks.blocks" 374),
 c 217 "makes" 487 98 2 492,
 f 225 37 "named" (.none) (s "lanepacks.blocks" 374),
 c 224 "named" 495 100 2 500,
 f 230 40 "is_cells" (.none) (s "lanepacks.running" 503),
 b 229 "is_cells" 507 104 2 510,
 f 237 41 "touches" (.none) (s "lanepacks.running" 503),
 c 236 "touches" 513 108 2 518,
 f 244 42 "do_on_cell" (.none) (s "lanepacks.running" 503),
 c 243 "do_on_cell" 521 114 4 528,
 (245,⟨.type "tuple",none,.seq #[.int 0 531] 0,#[]⟩),
 f 252 43 "do_row" (.ref 245) (s "lanepacks.running" 503),
 c 251 "do_row" 532 123 4 542,
 f 257 44 "do_rows" (.none) (s "lanepacks.running" 503),
 b 256 "do_rows" 545 132 2 548,
 f 264 45 "check_run" (.none) (s "lanepacks.running" 503),
 c 263 "check_run" 551 140 2 556,
 f 271 46 "run" (.none) (s "lanepacks.running" 503),
 c 270 "run" 559 145 2 567,
 f 278 47 "values" (.none) (s "lanepacks.running" 503),
 c 277 "values" 570 150 2 577,
 f 285 49 "_law_cell_at" (.none) (s "law_lanepacks_k56_whole_values_by_names" 580),
 c 284 "_law_cell_at" 582 155 2 589,
 f 292 50 "_law_mixed" (.none) (s "law_lanepacks_k56_whole_values_by_names" 580),
 c 291 "_law_mixed" 592 164 3 599,
 f 299 51 "_law_draw" (.none) (s "law_lanepacks_k56_whole_values_by_names" 580),
 c 298 "_law_draw" 602 167 3 608,
 f 306 52 "_law_pick" (.none) (s "law_lanepacks_k56_whole_values_by_names" 580),
 c 305 "_law_pick" 611 170 3 617,
 f 313 53 "_law_place" (.none) (s "law_lanepacks_k56_whole_values_by_names" 580),
 c 312 "_law_place" 620 172 5 628,
 f 318 54 "_law_row" (.none) (s "law_lanepacks_k56_whole_values_by_names" 580),
 b 317 "_law_row" 631 175 5 634,
 f 325 55 "_law_rows" (.none) (s "law_lanepacks_k56_whole_values_by_names" 580),
 c 324 "_law_rows" 637 193 4 648,
 f 332 56 "_law_next" (.none) (s "law_lanepacks_k56_whole_values_by_names" 580),
 c 331 "_law_next" 651 205 6 665,
 f 337 57 "_law_block" (.none) (s "law_lanepacks_k56_whole_values_by_names" 580),
 b 336 "_law_block" 668 216 3 671,
 f 342 58 "_law_cells" (.none) (s "law_lanepacks_k56_whole_values_by_names" 580),
 b 341 "_law_cells" 674 225 3 677,
 f 349 59 "_law_names" (.none) (s "law_lanepacks_k56_whole_values_by_names" 580),
 c 348 "_law_names" 680 229 1 684,
 f 354 60 "_law_may" (.none) (s "law_lanepacks_k56_whole_values_by_names" 580),
 b 353 "_law_may" 687 233 2 690,
 f 359 61 "_law_must" (.none) (s "law_lanepacks_k56_whole_values_by_names" 580),
 b 358 "_law_must" 693 238 1 696,
 f 364 62 "_law_mixed_order" (.none) (s "law_lanepacks_k56_whole_values_by_names" 580),
 b 363 "_law_mixed_order" 699 250 3 702,
 f 369 63 "_law_renamed" (.none) (s "law_lanepacks_k56_whole_values_by_names" 580),
 b 368 "_law_renamed" 705 257 2 708,
 f 374 64 "law" (.none) (s "law_lanepacks_k56_whole_values_by_names" 580),
 b 373 "law" 711 262 1 714]
noncomputable def A:List Nat:=[3,71,78,77,85,84,92,91,99,98,106,105,113,112,120,119,127,126,134,133,135,142,141,143,144,145,146,147,148,149,150,151,152,159,158,166,165,173,172,178,177,185,184,192,191,197,196,204,203,211,210,218,217,225,224,230,229,237,236,244,243,245,252,251,257,256,264,263,271,270,278,277,285,284,292,291,299,298,306,305,313,312,318,317,325,324,332,331,337,336,342,341,349,348,354,353,359,358,364,363,369,368,374,373]
noncomputable def view:Program:={PySem.Challenge.pw_lanepacks_k56_whole_values_by_names with main:={PySem.Challenge.pw_lanepacks_k56_whole_values_by_names.main with body:=[1,2,3,4,6,7,8,9,10,11,12,13,14,15,16,17,18,20,21,22,23,24,25,26,27,28,29,30,31,32,33,34,35,36,37,39,40,41,42,44,45,46,47,49,50,51,52,53,54,55,56,57,58,59,60,61,62,63,64].map RR.top}}
abbrev lo:List Str:=["MADE","OTHER_PARTS","do_row"]
theorem kA(P:Params):A=(K P).map (·.1):=by kernel_rfl
noncomputable def X(s:Shared):Bool:=xlAt view [] s && recOk (RowW.records (OpenRow.toRowW PySem.Challenge.rw_lanepacks_k56_whole_values_by_names.row)) s
noncomputable abbrev H:Hook:=kHook K A kA
abbrev pr:Program:=PySem.Challenge.rw_lanepacks_k56_whole_values_by_names.row.prog
abbrev go(w:World)(b:Bool):Option Shared:=openEnds treeTable pr (w.withFollow "special-get-raises" b) 5296
noncomputable abbrev fA(s:Shared):=seen ((recsOf view).map (·.name)) (ownsOf view) [] {s with gens:= #[]}
noncomputable abbrev fB(s:Shared):=(s.heap.bltView,tabsOk view s)
noncomputable abbrev fC(s:Shared):Bool:=s.heap.keysOk (looseW view lo) ((recsOf view).map (·.name)) ((litsOf view).map (·.1)) ((clssOf view (looseW view lo)).map (·.name)) && s.heap.accountedOkI (importedModules pr.main.body) && s.heap.isNs mainGlobals && s.heap.isNs builtinsNs && tablesOk view s.heap && X s && (if true then s.gens.size==0 else !leftWithCleanup s.gens)
noncomputable abbrev fD(s:Shared):=(pinSeenD view (drecsOf view) s,plainSeenE view (looseW view lo) s,plainSeenD view lo s,wideSeen view s,clsSeenW view lo s,H.obs s)
set_option maxRecDepth 100000 in
set_option maxHeartbeats 0 in
theorem rAf(w:World):(go w false).map fA=some (expectedOf view):=by kernel_rfl
set_option maxRecDepth 100000 in
set_option maxHeartbeats 0 in
theorem rBf(w:World):(go w false).map fB=some ((bltViewBooted,true)):=by kernel_rfl
set_option maxRecDepth 100000 in
set_option maxHeartbeats 0 in
theorem rCf(w:World):(go w false).map fC=some (true):=by kernel_rfl
set_option maxRecDepth 100000 in
set_option maxHeartbeats 0 in
theorem rDf(w:World):(go w false).map fD=some ((pinGoodD (drecsOf view),plainGoodE view (looseW view lo),plainGoodD view lo,wideGood view,clsGoodW view lo,H.val (w.withFollow "special-get-raises" false))):=by kernel_rfl
set_option maxRecDepth 100000 in
set_option maxHeartbeats 0 in
theorem rAt(w:World):(go w true).map fA=some (expectedOf view):=by kernel_rfl
set_option maxRecDepth 100000 in
set_option maxHeartbeats 0 in
theorem rBt(w:World):(go w true).map fB=some ((bltViewBooted,true)):=by kernel_rfl
set_option maxRecDepth 100000 in
set_option maxHeartbeats 0 in
theorem rCt(w:World):(go w true).map fC=some (true):=by kernel_rfl
set_option maxRecDepth 100000 in
set_option maxHeartbeats 0 in
theorem rDt(w:World):(go w true).map fD=some ((pinGoodD (drecsOf view),plainGoodE view (looseW view lo),plainGoodD view lo,wideGood view,clsGoodW view lo,H.val (w.withFollow "special-get-raises" true))):=by kernel_rfl
theorem jn{o:Option Shared}{v:H.α}(ha:o.map fA=some (expectedOf view))(hb:o.map fB=some (bltViewBooted,true))(hc:o.map fC=some true)(hd:o.map fD=some (pinGoodD (drecsOf view),plainGoodE view (looseW view lo),plainGoodD view lo,wideGood view,clsGoodW view lo,v)):
  o.map (fun s=>(openSeen view lo (importedModules pr.main.body) X true s,H.obs s))=some (openGood view lo,v):=by
 cases o with
 |none=>cases ha
 |some s=>
  have ea:fA s=_:=Option.some.inj ha
  have eb:fB s=_:=Option.some.inj hb
  have ec:fC s=_:=Option.some.inj hc
  have ed:fD s=_:=Option.some.inj hd
  obtain⟨b1,b2⟩:=Prod.mk.inj eb
  obtain⟨d1,ed⟩:=Prod.mk.inj ed
  obtain⟨d2,ed⟩:=Prod.mk.inj ed
  obtain⟨d3,ed⟩:=Prod.mk.inj ed
  obtain⟨d4,ed⟩:=Prod.mk.inj ed
  obtain⟨d5,d6⟩:=Prod.mk.inj ed
  show some ((fA s,s.heap.bltView,fC s,tabsOk view s,pinSeenD view (drecsOf view) s,plainSeenE view (looseW view lo) s,plainSeenD view lo s,wideSeen view s,clsSeenW view lo s),H.obs s)=_
  rw[ea,b1,ec,b2,d1,d2,d3,d4,d5,d6]
  rfl
theorem hl:LeftO pr view lo X H.obs H.val 5296:=fun w=>byRow2 "special-get-raises" (P:=fun w=>(openEnds treeTable pr w 5296).map (fun s=>(openSeen view lo (importedModules pr.main.body) X true s,H.obs s))=some (openGood view lo,H.val w)) (fun w=>jn (rAf w) (rBf w) (rCf w) (rDf w)) (fun w=>jn (rAt w) (rBt w) (rCt w) (rDt w)) w
set_option maxRecDepth 100000 in
set_option maxHeartbeats 0 in
theorem said:PySem.Challenge.rw_lanepacks_k56_whole_values_by_names.wellSaid=true:=by kernel_rfl
end KK
namespace L2
open PySem PySem.Spec PyProof.Rows
abbrev Key:=Sum Int Str
noncomputable def zNN:Key->Value->Bool
 | .inl k,v=>Value.isInt k v
 | .inr x,v=>Value.isStrOf x v
noncomputable def keyH(w:World):Key->Int
 | .inl k=>hashInt k
 | .inr x=>hashStr w x
theorem zBK: ∀{k:Key} {v:Value},zNN k v=true->(∃i t,k=Sum.inl i/\v=Value.int i t)∨(∃x t,k=Sum.inr x/\v=Value.str x t)
 | .inl i,v,h=>by
  obtain⟨t,e⟩:=Value.isInt_shape (k:=i) (v:=v) h
  exact .inl ⟨i,t,rfl,e⟩
 | .inr x,v,h=>by
  obtain⟨t,e⟩:=Value.isStrOf_shape (x:=x) (v:=v) h
  exact .inr ⟨x,t,rfl,e⟩
theorem zQ3(i:Int)(t:Tok):zNN (.inl i) (.int i t)=true:=by simp[zNN,Value.isInt]
theorem zQ2(x:Str)(t:Tok):zNN (.inr x) (.str x t)=true:=by simp[zNN,Value.isStrOf]
theorem zZX(a b:Int):decide ((Sum.inl a:Key)=Sum.inl b)=(a==b):=by
 by_cases e:a=b
 ·subst e;simp
 ·have h : ¬ (Sum.inl a : Key) = Sum.inl b := fun q => e (Sum.inl.inj q)
  rw[decide_eq_false h]
  exact(beq_eq_false_iff_ne.mpr e).symm
theorem zZU(a b:Str):decide ((Sum.inr a:Key)=Sum.inr b)=decide (a=b):=by
 by_cases e:a=b
 ·subst e;simp
 ·have h : ¬ (Sum.inr a : Key) = Sum.inr b := fun q => e (Sum.inr.inj q)
  rw[decide_eq_false h,decide_eq_false e]
theorem zZW(a:Int)(b:Str):decide ((Sum.inl a:Key)=Sum.inr b)=false:=decide_eq_false (fun q=>nomatch q)
theorem zZV(a:Str)(b:Int):decide ((Sum.inr a:Key)=Sum.inl b)=false:=decide_eq_false (fun q=>nomatch q)
noncomputable def zBD(prog:Program)(w:World):PySem.KeyKind prog w Key where
 is:=zNN
 hash:=keyH w
 inj:=fun v a b ha hb=>by
  rcases zBK ha with⟨i,t,rfl,rfl⟩|⟨x,t,rfl,rfl⟩
  ·rcases zBK hb with⟨j,u,rfl,e⟩|⟨y,u,rfl,e⟩
   ·injection e with e1 _;rw[e1]
   ·exact nomatch e
  ·rcases zBK hb with⟨j,u,rfl,e⟩|⟨y,u,rfl,e⟩
   ·exact nomatch e
   ·injection e with e1 _;rw[e1]
 byValue:=fun k v h=>by
  rcases zBK h with⟨i,t,rfl,rfl⟩|⟨x,t,rfl,rfl⟩<;>rfl
 pyHash:=fun hv h=>by
  rcases zBK hv with⟨i,t,rfl,rfl⟩|⟨x,t,rfl,rfl⟩
  ·exact wpAny_pyHash_int h
  ·exact wpAny_pyHash_str h
 eqBool:=fun hu hv h=>by
  rcases zBK hu with⟨i,t,rfl,rfl⟩|⟨x,t,rfl,rfl⟩
  ·rcases zBK hv with⟨j,u,rfl,rfl⟩|⟨y,u,rfl,rfl⟩
   ·rw[zZX] at h;exact wpAny_eqBool_int h
   ·rw[zZW] at h;exact SeqAt.EqAt.int_str i t y u _ _ _ _ h
  ·rcases zBK hv with⟨j,u,rfl,rfl⟩|⟨y,u,rfl,rfl⟩
   ·rw[zZV] at h;exact SeqAt.EqAt.str_int x t j u _ _ _ _ h
   ·rw[zZU] at h;exact wpAny_eqBool_str h
 «strs» :=fun k x t v h=>by
  rcases zBK h with⟨i,u,rfl,e⟩|⟨y,u,rfl,e⟩
  ·exact nomatch e
  ·injection e with e1 _
   subst e1
   cases v<;>rfl
theorem zL9(prog:Program)(w:World)(i:Int)(t:Tok):(zBD prog w).is (.inl i) (.int i t)=true:=zQ3 i t
theorem zL8(prog:Program)(w:World)(x:Str)(t:Tok):(zBD prog w).is (.inr x) (.str x t)=true:=zQ2 x t
inductive V where
 |non|bl (b:Bool)|int (i:Int)|str (x:Str)|byt (b:Array UInt8)|flt (b:UInt64)|ref (a:Addr)|ty (n:String)
 deriving DecidableEq
def RelV:V->Value->Prop
 | .non,u=>u=Value.none
 | .bl b,u=>u=Value.bool b
 | .int i,u=> ∃t,u=Value.int i t
 | .str x,u=> ∃t,u=Value.str x t
 | .byt b,u=> ∃t,u=Value.bytes b t
 | .flt b,u=> ∃t,u=Value.float b t
 | .ref a,u=>u=Value.ref a
 | .ty n,u=>u=Value.type n
abbrev Vals:List V->List Value->Prop:=Paired RelV
theorem Vals.length{xs:List V}{us:List Value}(r:Vals xs us):xs.length=us.length:=Paired.length r
theorem Vals.get: ∀{xs:List V} {us:List Value} {i:Nat} {x:V},Vals xs us->xs[i]? =some x-> ∃u,us[i]? =some u/\RelV x u
 |_,_,_,_,.nil,e=>by simp at e
 |_,_,0,_,.cons r _,e=>by simp at e;subst e;exact⟨_,rfl,r⟩
 |_,_,i+1,x,.cons _ t,e=>by
  obtain⟨u,h1,h2⟩:=Vals.get (i:=i) (x:=x) t (by simpa using e)
  exact⟨u,by simpa using h1,h2⟩
theorem Vals.set{x:V}{u:Value}(r:RelV x u): ∀{xs:List V} {us:List Value} (i:Nat),Vals xs us->Vals (xs.set i x) (us.set i u)
 |_,_,_,.nil=> .nil
 |_,_,0,.cons _ t=> .cons r t
 |_,_,i+1,.cons q t=> .cons q (Vals.set r i t)
theorem Vals.append: ∀{xs ys:List V} {us ws:List Value},Vals xs us->Vals ys ws->Vals (xs++ys) (us++ws)
 |_,_,_,_,.nil,s=>s
 |_,_,_,_,.cons r t,s=> .cons r (Vals.append t s)
theorem Vals.take: ∀{xs:List V} {us:List Value} (n:Nat),Vals xs us->Vals (xs.take n) (us.take n)
 |_,_,0,_=> .nil
 |_,_,_+1,.nil=> .nil
 |_,_,n+1,.cons r t=> .cons r (Vals.take n t)
theorem Vals.drop: ∀{xs:List V} {us:List Value} (n:Nat),Vals xs us->Vals (xs.drop n) (us.drop n)
 |_,_,0,r=>r
 |_,_,_+1,.nil=> .nil
 |_,_,n+1,.cons _ t=>Vals.drop n t
def RelO:Option V->Option Value->Prop
 |some v,some u=>RelV v u
 |none,none=>True
 |_,_=>False
def KV{κ:Type}:List (κ×V)->List (κ×Value)->Prop:=Paired fun(p:κ×V) (q:κ×Value)=>p.1=q.1/\RelV p.2 q.2
noncomputable def kV:Key->V
 | .inl i=> .int i
 | .inr x=> .str x
inductive HO where
 |lst (xs:List V)
 |tup (xs:List V)
 |dK (kvs:List (Key×V))|dT (kvs:List (List Key×V))
 |set (S:Int->Bool) (n:Nat)
 |ins (C dx:Addr) (fs:List (Str×V))
 |own (x:Addr)
 |xd (fs:List (Str×V))
 |met (f x:Addr)
 |rng (lo hi:Int)
 |frz (o:Obj) (u:HO)
 |tbl (ps:Array Value)
 |ext (φ:Heap->Prop)
abbrev Hp:=Addr->Option HO
noncomputable def upd(H:Hp)(a:Addr)(o:HO):Hp:=fun b=>if b=a then some o else H b
theorem zAK{H:Hp}{a:Addr}{o:HO}:upd H a o a=some o:=by unfold upd;rw[if_pos rfl]
theorem zB3{H:Hp}{a b:Addr}{o:HO}(h:b≠a):upd H a o b=H b:=by unfold upd;rw[if_neg h]
theorem yDE{H:Hp}{a b:Addr}{o u:HO}(h:H a=some o)(h':H b=some u)(d:o≠u):a≠b:=by intro e;subst e;rw[h] at h';exact d (Option.some.inj h')
theorem zCU{H:Hp}{a b:Addr}{o:HO}(h:H a=some o)(h':H b=none):a≠b:=by intro e;subst e;rw[h] at h';cases h'
section
variable(P:Program)(w:World)
def zCI(H:Hp)(h:Heap)(a:Addr):HO->Prop
 | .lst xs => xs.length <= sizeLine /\ ∃ (its : List Value) (n : Nat),Vals xs its /\ h.get? a = some { cls := .type "list",data := .seq its.toArray n }
 | .tup xs => xs.length <= sizeLine /\ ∃ its : List Value,Vals xs its /\ IsTup h a its.toArray
 | .dK kvs => kvs.length <= sizeLine /\ (a == sysModules) = false /\ ∃ vs,KV kvs vs /\ h.DictOf (zBD P w) a vs
 | .dT kvs => kvs.length <= sizeLine /\ (a == sysModules) = false /\ ∃ xs : List (List Key × Addr × Value),
   Paired (fun(p:List Key×V) (q:List Key×Addr×Value)=>p.1=q.1/\H q.2.1=some (.tup (p.1.map kV))/\RelV p.2 q.2.2) kvs xs∧
   ∃o es ep,h.get? a=some o/\o.ExactDict/\o.data= .dict es ep/\es.toList=xs.map (entryOfKey (tupleKind (zBD P w)))/\(xs.map (·.1)).Nodup
 | .set S n => h.SetOf (intKind P w) a S n
 | .ins C dx fs => H dx = some (.own a) /\ fs.length <= 1000 /\ dx ≠ a /\ h.get? a = some (W.instObj C dx) ∧
   ∃mA,h.Ns1 dx mA/\(∀f,RelO (fs.lookup f) (mA f))/\PySem.Within mA (fs.map (·.1))
 | .own _=> ∃o,h.get? a=some o
 | .xd fs=> ∃mA,h.Ns1 a mA/\ ∀f,RelO (fs.lookup f) (mA f)
 | .rng lo hi=> ∃t u v,h.get? a=some {cls:= .type "range",data:= .fields #[.int lo t,.int hi u,.int 1 v]}
 | .frz o u=>h.get? a=some o/\zCI H h a u
 | .tbl ps=>h.get? a=some {cls:= .none,data:= .fields ps}
 | .met f x=>h.get? a=some (W.methodObj (.ref f) (.ref x))
 | .ext φ=>φ h/\(∃o,h.get? a=some o)/\ ∀h1 h2:Heap,φ h1->(∀o,h1.get? a=some o->h2.get? a=some o)->φ h2
def HOk(H:Hp)(h:Heap):Prop:= ∀a o,H a=some o->zCI P w H h a o
end
section
variable{P:Program}{w:World}{H H':Hp}{h h':Heap}{a:Addr}{o:HO}
theorem zCI.lt(x:zCI P w H h a o):a<h.objs.size:=by
 cases o with
 |lst xs=>obtain⟨_,_,_,_,e⟩:=x;exact Heap.lt_size e
 |tup xs=>obtain⟨_,_,_,p⟩:=x;exact p.lt
 |dK kvs=>obtain⟨_,_,_,_,o,_,_,e,_⟩:=x;exact Heap.lt_size e
 |dT kvs=>obtain⟨_,_,_,_,o,_,_,e,_⟩:=x;exact Heap.lt_size e
 |set S n=>obtain⟨o,_,_,_,e,_⟩:=x;exact Heap.lt_size e
 |ins C dx fs=>obtain⟨_,_,_,e,_⟩:=x;exact Heap.lt_size e
 |own y=>obtain⟨_,e⟩:=x;exact Heap.lt_size e
 |xd fs=>obtain⟨_,⟨_,_,_,e,_⟩,_⟩:=x;exact Heap.lt_size e
 |rng lo hi=>obtain⟨_,_,_,e⟩:=x;exact Heap.lt_size e
 |frz ob u=>obtain⟨e,_⟩:=x;exact Heap.lt_size e
 |tbl ps=>exact Heap.lt_size (show h.get? a=some _ from x)
 |met f y=>exact Heap.lt_size (show h.get? a=some _ from x)
 |ext φ=>obtain⟨_,⟨_,e⟩,_⟩:=x;exact Heap.lt_size e
theorem Paired.mapP{α β:Type}{F G:α->β->Prop}: ∀{l₁:List α} {l₂:List β},Paired F l₁ l₂->(∀a b,F a b->G a b)->Paired G l₁ l₂
 |_,_,.nil,_=> .nil
 |_,_,.cons r t,f=> .cons (f _ _ r) (Paired.mapP t f)
theorem zCI.stay(x:zCI P w H h a o)(k: ∀b u,(b=a∨H b=some (.own a))->h.get? b=some u->h'.get? b=some u)
  (ho: ∀b,H b=some (.own a)->H' b=some (.own a)) (ht: ∀b xs,H b=some (.tup xs)->H' b=some (.tup xs)):zCI P w H' h' a o:=by
 induction o with
 |lst xs=>obtain⟨z,its,n,r,e⟩:=x;exact⟨z,its,n,r,k _ _ (.inl rfl) e⟩
 |tup xs=>obtain⟨z,its,r,ob,e,c⟩:=x;exact⟨z,its,r,ob,k _ _ (.inl rfl) e,c⟩
 |dK kvs=>obtain⟨z,y,vs,r,ob,es,ep,e,c⟩:=x;exact⟨z,y,vs,r,ob,es,ep,k _ _ (.inl rfl) e,c⟩
 |dT kvs=>
  obtain⟨z,y,xs,r,ob,es,ep,e,c⟩:=x
  exact⟨z,y,xs,Paired.mapP r fun p q z=>⟨z.1,ht _ _ z.2.1,z.2.2⟩,ob,es,ep,k _ _ (.inl rfl) e,c⟩
 |set S n=>obtain⟨ob,es,ep,t,e,c⟩:=x;exact⟨ob,es,ep,t,k _ _ (.inl rfl) e,c⟩
 |ins C dx fs=>
  obtain⟨d,z,ne,e,mA,⟨od,es,ep,e2,c⟩,r⟩:=x
  exact⟨ho _ d,z,ne,k _ _ (.inl rfl) e,mA,⟨od,es,ep,k _ _ (.inr d) e2,c⟩,r⟩
 |own y=>obtain⟨ob,e⟩:=x;exact⟨ob,k _ _ (.inl rfl) e⟩
 |xd fs=>obtain⟨mA,⟨od,es,ep,e,c⟩,r⟩:=x;exact⟨mA,⟨od,es,ep,k _ _ (.inl rfl) e,c⟩,r⟩
 |rng lo hi=>obtain⟨t,u,v,e⟩:=x;exact⟨t,u,v,k _ _ (.inl rfl) e⟩
 |frz ob u ih=>obtain⟨e,q⟩:=x;exact⟨k _ _ (.inl rfl) e,ih q⟩
 |tbl ps=>
  have e:h.get? a=some {cls:= .none,data:= .fields ps}:=x
  show h'.get? a=some {cls:= .none,data:= .fields ps}
  exact k a _ (.inl rfl) e
 |met f y=>
  have e:h.get? a=some (W.methodObj (.ref f) (.ref y)):=x
  show h'.get? a=some (W.methodObj (.ref f) (.ref y))
  exact k a _ (.inl rfl) e
 |ext φ=>obtain⟨p,⟨o,e⟩,st⟩:=x;exact⟨st _ _ p fun o q=>k _ _ (.inl rfl) q,⟨o,k _ _ (.inl rfl) e⟩,st⟩
theorem HOk.lt(x:HOk P w H h)(e:H a=some o):a<h.objs.size:=(x a o e).lt
theorem HOk.fresh(x:HOk P w H h)(e:h.objs.size<=a):H a=none:=by
 cases q:H a with
 |none=>rfl
 |some u=>exact absurd (Nat.lt_of_lt_of_le (x.lt q) e) (Nat.lt_irrefl _)
theorem HOk.kept(x:HOk P w H h)(k: ∀b u,h.get? b=some u->h'.get? b=some u):HOk P w H h':=fun a o e=>
 (x a o e).stay (fun b u _ q=>k b u q) (fun _ q=>q) fun _ _ q=>q
theorem HOk.laid(x:HOk P w H h)(k: ∀b u,h.get? b=some u->h'.get? b=some u)(hp:h.objs.size<=a)(new:zCI P w (upd H a o) h' a o):HOk P w (upd H a o) h':=fun b u e=>by
 have hn:=x.fresh hp
 by_cases hb:b=a
 ·subst hb;rw[zAK] at e;cases e;exact new
 ·rw[zB3 hb] at e
  exact(x b u e).stay (fun c v _ q=>k c v q) (fun c q=>by rw[zB3 (zCU q hn)];exact q) fun c xs q=>by rw[zB3 (zCU q hn)];exact q
end
def Rd(H:Hp)(a:Addr)(u:HO):Prop:=H a=some u∨ ∃o,H a=some (.frz o u)
theorem Rd.ok{P:Program}{w:World}{H:Hp}{h:Heap}{a:Addr}{u:HO}(r:Rd H a u)(x:HOk P w H h):zCI P w H h a u:=by
 rcases r with r|⟨o,r⟩
 ·exact x a u r
 ·obtain⟨_,q⟩:=x a _ r
  exact q
def Mut:Option HO->Prop
 |some (.lst _)=>True
 |some (.dK _)=>True
 |some (.dT _)=>True
 |some (.set _ _)=>True
 |some (.ins _ _ _)=>True
 |some (.ext _)=>True
 |_=>False
section
variable{P:Program}{w:World}{H:Hp}{h h':Heap}{x e:Addr}{o':HO}
theorem HOk.write(ok:HOk P w H h)(mu:Mut (H x))(he:e=x∨H e=some (.own x))(k: ∀b u,b≠e->h.get? b=some u->h'.get? b=some u)(heo: ∃u,h'.get? e=some u)
  (new : zCI P w (upd H x o') h' x o') : HOk P w (upd H x o') h' := fun b u q => by
 have l8: ∀c y,H c=some (.own y)->c≠x:=fun c y r z=>by subst z;rw[r] at mu;exact mu
 have mo: ∀c xs,H c=some (.tup xs)->c≠x:=fun c xs r z=>by subst z;rw[r] at mu;exact mu
 by_cases hb:b=x
 ·subst hb;rw[zAK] at q;cases q;exact new
 ·rw[zB3 hb] at q
  by_cases hbe:b=e
  ·have q':H b=some (.own x):=by
    rcases he with z|z
    ·exact absurd (hbe.trans z) hb
    ·rw[hbe];exact z
   rw[q] at q';cases q'
   obtain⟨v,hv⟩:=heo
   exact⟨v,by rw[hbe];exact hv⟩
  ·refine (ok b u q).stay (fun c v hc r => k c v ?_ r) (fun c r => by rw [zB3 (l8 c b r)];exact r) fun c xs r => by rw [zB3 (mo c xs r)];exact r
   rcases hc with rfl|hc
   ·exact hbe
   ·rintro rfl
    rcases he with z|z
    ·exact l8 c b hc z
    ·rw[hc] at z;cases z;exact hb rfl
end
structure Un(fs ex:List Addr)(H H':Hp)(h h':Heap):Prop where
 keep: ∀b o,h.get? b=some o->H b=none->b∉fs->b∉ex->h'.get? b=some o
 slot: ∀b o,h.get? b=some o->H b=none->b∈fs->b∉ex-> ∃sl,h'.get? b=some {o with slots:=sl}
 free: ∀b o,h.get? b=some o->H b=none->b∉ex->H' b=none
 there: ∀b o,h.get? b=some o->b∉ex-> ∃o',h'.get? b=some o'
 tups: ∀b xs,H b=some (.tup xs)->H' b=some (.tup xs)
 frzs: ∀b o u,H b=some (.frz o u)->H' b=some (.frz o u)
 tbls: ∀b ps,H b=some (.tbl ps)-> ∃more,H' b=some (.tbl (ps++more))
section
variable{fs fs' ex ex':List Addr}{H H1 H2:Hp}{h h1 h2 h':Heap}{a x e:Addr}{o:HO}
theorem Un.any(u:Un fs ex H H1 h h1){b:Addr}{ob:Obj}(q:h.get? b=some ob)(n:H b=none)(hx:b∉ex): ∃sl,h1.get? b=some {ob with slots:=sl}:=by
 by_cases hb:b∈fs
 ·exact u.slot b ob q n hb hx
 ·exact⟨ob.slots,u.keep b ob q n hb hx⟩
theorem Un.kept(k: ∀b u,h.get? b=some u->h'.get? b=some u):Un fs ex H H h h':=
 ⟨fun b ob q _ _ _=>k b ob q,fun b ob q _ _ _=>⟨ob.slots,k b ob q⟩,fun _ _ _ n _=>n,fun b ob q _=>⟨ob,k b ob q⟩,fun _ _ q=>q,fun _ _ _ q=>q,fun _ ps q=>⟨#[],by rw[q];simp⟩⟩
theorem Un.refl:Un fs ex H H h h:=Un.kept fun _ _ q=>q
theorem Un.laid(k: ∀b u,h.get? b=some u->h'.get? b=some u)(hp:h.objs.size<=a)(hn:H a=none):Un fs ex H (upd H a o) h h' where
 keep:=fun b u q _ _ _=>k b u q
 slot:=fun b u q _ _ _=>⟨u.slots,k b u q⟩
 free:=fun b u q n _=>by rw[zB3 (Nat.ne_of_lt (Nat.lt_of_lt_of_le (Heap.lt_size q) hp))];exact n
 there:=fun b u q _=>⟨u,k b u q⟩
 tups:=fun b xs q=>by rw[zB3 (zCU q hn)];exact q
 frzs:=fun b u xs q=>by rw[zB3 (zCU q hn)];exact q
 tbls:=fun b ps q=>⟨#[],by rw[zB3 (zCU q hn),q];simp⟩
theorem Un.write(mu:Mut (H x))(he:e=x∨H e=some (.own x))(k: ∀b u,b≠e->h.get? b=some u->h'.get? b=some u)(heo: ∃u,h'.get? e=some u):Un fs ex H (upd H x o) h h':=by
 have hx: ∀b,H b=none->b≠x:=fun b n z=>by subst z;rw[n] at mu;exact mu
 have hb: ∀b,H b=none->b≠e:=fun b n z=>by
  subst z
  rcases he with r|r
  ·exact hx b n r
  ·rw[n] at r;cases r
 have hm: ∀b u,H b=some u-> ¬Mut (some u)->b≠x:=fun b u q nm z=>by subst z;rw[q] at mu;exact nm mu
 refine⟨fun b u q n _ _=>k b u (hb b n) q,fun b u q n _ _=>⟨u.slots,k b u (hb b n) q⟩,fun b u q n _=>by rw[zB3 (hx b n)];exact n,fun b u q _=> ?_,
  fun b xs q=>by rw[zB3 (hm b _ q fun z=>z)];exact q,fun b u xs q=>by rw[zB3 (hm b _ q fun z=>z)];exact q,fun b ps q=>⟨#[],by rw[zB3 (hm b _ q fun z=>z),q];simp⟩⟩
 by_cases hbe:b=e
 ·subst hbe;exact heo
 ·exact⟨u,k b u hbe q⟩
end
noncomputable def trk(h:Heap)(H:Hp):List Addr:=(List.range h.objs.size).filter fun a=>(H a).isSome
noncomputable def hidT(h:Heap)(H:Hp):Heap:=W.hideAll h (trk h H)
theorem zQ7(h:Heap)(H:Hp):(hidT h H).objs.size=h.objs.size:=W.hideAll_size _ _
theorem zSP{h:Heap}{H:Hp}{b:Addr}{o:Obj}(e:h.get? b=some o)(n:H b=none):(hidT h H).get? b=some o:=
 W.hideAll_get _ e fun hm=>by
  have q:(H b).isSome=true:=(List.mem_filter.mp hm).2
  rw[n] at q;simp at q
theorem zVE{h:Heap}{H:Hp}{b:Addr}{o:Obj}(e:(hidT h H).get? b=some o):h.get? b=some o/\H b=none:=by
 have e':h.get? b=some o:=W.of_hideAll (trk h H) e
 refine⟨e',?_⟩
 cases q:H b with
 |none=>rfl
 |some x=>
  have hm:b∈trk h H:=List.mem_filter.mpr ⟨List.mem_range.mpr (Heap.lt_size e'),by simp[q]⟩
  have z:(hidT h H).get? b=none:=W.hideAll_none (trk h H) hm
  rw[z] at e;cases e
structure Mod(K:W.Frag)(mg:Str->Option Value)(base:Heap):Prop where
 kin:K.In base
 glob:base.Ns mainGlobals mg
 blt: ∃mb,base.Ns builtinsNs mb/\ ∀x:Str,x≠ "__name__" ->mb x=bootBuiltins x
 nolimit:base.NoLimit
structure Cx where
 prog:Program
 w:World
 K:W.Frag
 mg:Str->Option Value
 base:Heap
 A:Around
 N:List Str
 s₀:Shared
 H₀:Hp
 env:Env
 outer:List Env
 stack:List Env
 ex:List Addr
 fn:Str->Bool
 calm:Bool
 pn:List (Addr×Obj)
 xe:Value->Shared->Prop
noncomputable def frs(l:List Env):List Addr:=l.filterMap (·.frame)
abbrev Cx.fs(X:Cx):List Addr:=frs X.outer
def Vis(sc:Scope)(x:Str):Prop:=sc.names.lookup x=some .local∨sc.names.lookup x=some .cell∨sc.names.lookup x=some .free
def Loc(sc:Scope)(x:Str):Prop:=sc.names.lookup x=some .local∨sc.names.lookup x=some .cell
def Look(env:Env)(h:Heap)(m:Str->Option Value)(x:Str)(u:Value):Prop:=
 (env.kindOf x=some .local/\m x=some u)∨((env.kindOf x=some .cell∨env.kindOf x=some .free)/\ ∃c,env.cells.lookup x=some c/\h.IsCell c (some u))
structure Cx.Ok(X:Cx):Prop where
 mod:Mod X.K X.mg X.base
 kind:X.env.scope.kind= .function
 glob:X.env.globals=mainGlobals
 blt:X.env.builtins=builtinsNs
 above:X.s₀.heap.objs.size<=X.env.locals
 inj: ∀x y c,X.env.cells.lookup x=some c->X.env.cells.lookup y=some c->x=y
 has: ∀x,(X.env.kindOf x=some .cell∨X.env.kindOf x=some .free)-> ∃c,X.env.cells.lookup x=some c
 cab: ∀x c,X.fn x=true->X.env.cells.lookup x=some c->X.s₀.heap.objs.size<=c
 hd:X.calm=true->X.A.handled=none
 frames:X.A.frames=some X.stack
 stk:X.stack=X.outer∨(X.stack=X.env::X.outer/\X.env.frame=some X.env.locals)
 exf: ∀b∈X.ex,b≠X.env.locals/\ ∀x c,X.env.cells.lookup x=some c->c≠b
 bs: ∀b o,X.base.get? b=some o->X.s₀.heap.get? b=some o/\X.H₀ b=none
 bsz:X.base.objs.size<=X.s₀.heap.objs.size
 noex: ∀b o,X.base.get? b=some o->b∉X.ex
 exfs: ∀b∈X.ex,b∉X.fs
 funs:X.s₀.heap.FunFrames X.base X.outer
 frf: ∀b∈X.fs,X.H₀ b=none
structure Inv(X:Cx)(a6:List (Addr×Obj))(σ:List (Option V))(H:Hp)(s:Shared):Prop where
 ok:X.Ok
 os:s.os=X.s₀.os
 bare:AllBare s.gens
 base:Un X.fs X.ex X.H₀ H X.s₀.heap s.heap
 loc: ∃m,s.heap.Ns X.env.locals m/\ ∀(i:Nat) (x:Str) (v:V),X.N[i]? =some x->σ[i]? =some (some v)->Vis X.env.scope x-> ∃u,RelV v u/\Look X.env s.heap m x u
 cell: ∀x c,X.env.cells.lookup x=some c-> ∃v,s.heap.IsCell c v
 free:H X.env.locals=none
 freeC: ∀x c,X.env.cells.lookup x=some c->H c=none
 pin: ∀p∈X.pn++a6,s.heap.get? p.1=some p.2/\H p.1=none/\p.1≠X.env.locals/\p.1∉X.fs/\ ∀v,p.2.data≠ .cell v
 hok:HOk X.prog X.w H s.heap
 len:σ.length=X.N.length
section
variable{X:Cx}{a6:List (Addr×Obj)}{σ:List (Option V)}{H H':Hp}{s:Shared}{h':Heap}
theorem Cx.Ok.nofr(ok:X.Ok){b:Addr}{o:Obj}(e:X.base.get? b=some o):b∉X.fs:=fun hb=>by
 have:=(ok.funs.mem hb).1
 rw[e] at this;cases this
theorem Inv.bs(I:Inv X a6 σ H s): ∀b o,X.base.get? b=some o->s.heap.get? b=some o/\H b=none:=fun b o e=>
 ⟨I.base.keep b o (I.ok.bs b o e).1 (I.ok.bs b o e).2 (I.ok.nofr e) (I.ok.noex b o e),I.base.free b o (I.ok.bs b o e).1 (I.ok.bs b o e).2 (I.ok.noex b o e)⟩
theorem Inv.bk(I:Inv X a6 σ H s): ∀b o,X.base.get? b=some o->s.heap.get? b=some o:=fun b o e=>(I.bs b o e).1
theorem Inv.mod(I:Inv X a6 σ H s):Mod X.K X.mg X.base:=I.ok.mod
theorem Inv.kIn(I:Inv X a6 σ H s):X.K.In s.heap:=I.ok.mod.kin.keeps I.bk
theorem Inv.lt(I:Inv X a6 σ H s):X.env.locals<s.heap.objs.size:=let ⟨_,hn,_⟩:=I.loc;hn.lt
theorem Inv.sz(I:Inv X a6 σ H s):X.s₀.heap.objs.size<=s.heap.objs.size:=Nat.le_trans I.ok.above (Nat.le_of_lt I.lt)
theorem Inv.nofs(I:Inv X a6 σ H s){a:Addr}(h:s.heap.objs.size<=a):a∉X.fs:=fun hb=>by
 obtain⟨_,o,ho,_⟩:=I.ok.funs.mem hb
 exact absurd (Nat.lt_of_lt_of_le (Heap.lt_size ho) (Nat.le_trans I.sz h)) (Nat.lt_irrefl _)
theorem Inv.cne(I:Inv X a6 σ H s): ∀x c,X.env.cells.lookup x=some c->c≠X.env.locals:=fun x c e z=>by
 obtain⟨v,o,ho,hd⟩:=I.cell x c e
 obtain⟨m,⟨o',es,ep,ho',hd',_⟩,_⟩:=I.loc
 rw[z,ho'] at ho;cases ho;rw[hd'] at hd;cases hd
theorem Inv.funs(I:Inv X a6 σ H s):s.heap.FunFrames X.base X.outer:=by
 have all: ∀(l:List Env),(∀b∈frs l,b∈X.fs)->X.s₀.heap.FunFrames X.base l->s.heap.FunFrames X.base l:=by
  intro l
  induction l with
  |nil=>intro _ _;trivial
  |cons env r ih=>
   intro hs hl
   obtain⟨hk,⟨L,o,hf,hn,ho,hd⟩,hr⟩:=hl
   have hL:L∈X.fs:=hs L (by unfold frs;rw[List.filterMap_cons,hf];exact List.mem_cons_self)
   obtain⟨sl,e⟩:=I.base.slot L o ho (I.ok.frf L hL) hL fun z=>I.ok.exfs L z hL
   exact⟨hk,⟨L,_,hf,hn,e,hd⟩,ih (fun b hb=>hs b (by unfold frs;rw[List.filterMap_cons,hf];exact List.mem_cons_of_mem _ hb)) hr⟩
 exact all X.outer (fun _ hb=>hb) I.ok.funs
theorem Inv.stack(I:Inv X a6 σ H s):s.heap.FunFrames X.base X.stack:=by
 rcases I.ok.stk with e|⟨e,hf⟩
 ·rw[e];exact I.funs
 ·rw[e]
  obtain⟨m,hn,_⟩:=I.loc
  refine .cons (by rw[I.ok.kind];decide) hf hn ?_ I.funs
  exact Heap.get?_none_of_le (Nat.le_trans I.ok.bsz I.ok.above)
theorem Inv.stkSub(I:Inv X a6 σ H s): ∀b∈frs X.stack,b∈X.env.locals::X.fs:=fun b hb=>by
 rcases I.ok.stk with e|⟨e,hf⟩
 ·rw[e] at hb;exact List.mem_cons_of_mem _ hb
 ·rw[e] at hb
  unfold frs at hb
  rw[List.filterMap_cons,hf] at hb
  exact hb
theorem Inv.stkFree(I:Inv X a6 σ H s): ∀b∈frs X.stack,H b=none:=fun b hb=>by
 rcases List.mem_cons.mp (I.stkSub b hb) with e|hb
 ·rw[e];exact I.free
 ·obtain⟨_,o,ho,_⟩:=I.ok.funs.mem hb
  exact I.base.free b o ho (I.ok.frf b hb) fun z=>I.ok.exfs b z hb
theorem Inv.step{g':Array GenState}{t':Nat}{d':Drawn}{ch:List Addr}(I:Inv X a6 σ H s)
  (hch: ∀b∈ch,(b∈X.ex∨X.s₀.heap.objs.size<=b)/\b≠X.env.locals/\(∀x c,X.env.cells.lookup x=some c->c≠b)/\ ∀p∈X.pn++a6,p.1≠b)
  (keep: ∀b o,b≠X.env.locals->b∉X.fs->b∉ch->s.heap.get? b=some o->H b=none->h'.get? b=some o)
  (slot: ∀b o,b≠X.env.locals->b∈X.fs->b∉ch->s.heap.get? b=some o->H b=none-> ∃sl,h'.get? b=some {o with slots:=sl}) (free: ∀b o,b∉ch->s.heap.get? b=some o->H b=none->H' b=none)
  (there: ∀b o,b∉ch->s.heap.get? b=some o-> ∃o',h'.get? b=some o')
  (tups: ∀b xs,H b=some (.tup xs)->H' b=some (.tup xs)) (frzs: ∀b o u,H b=some (.frz o u)->H' b=some (.frz o u)) (tbls: ∀b ps,H b=some (.tbl ps)-> ∃more,H' b=some (.tbl (ps++more)))
  (ns: ∀m,s.heap.Ns X.env.locals m->h'.Ns X.env.locals m) (hok:HOk X.prog X.w H' h') (hg:AllBare g'):
  Inv X a6 σ H' {s with heap:=h',gens:=g',drawn:=d',toks:=t'}:=by
 have neL: ∀b o,X.s₀.heap.get? b=some o->b≠X.env.locals:=fun b o e=>Nat.ne_of_lt (Nat.lt_of_lt_of_le (Heap.lt_size e) I.ok.above)
 have neC: ∀b o,X.s₀.heap.get? b=some o->b∉X.ex->b∉ch:=fun b o e hx hb=>by
  rcases(hch b hb).1 with z|z
  ·exact hx z
  ·exact absurd (Nat.lt_of_lt_of_le (Heap.lt_size e) z) (Nat.lt_irrefl _)
 have gv: ∀x c,X.env.cells.lookup x=some c-> ∀v,s.heap.IsCell c v->h'.IsCell c v:=fun x c e v q0=>by
  obtain⟨o,ho,hd⟩:=q0
  have nch:c∉ch:=fun z=>(hch c z).2.2.1 x c e rfl
  by_cases hc:c∈X.fs
  ·obtain⟨sl,q⟩:=slot c o (I.cne x c e) hc nch ho (I.freeC x c e)
   exact⟨_,q,hd⟩
  ·exact⟨o,keep c o (I.cne x c e) hc nch ho (I.freeC x c e),hd⟩
 refine⟨I.ok,I.os,hg,⟨fun b o e n hb hx=> ?_,fun b o e n hb hx=> ?_,fun b o e n hx=> ?_,fun b o e hx=> ?_,fun b xs e=>tups b xs (I.base.tups b xs e),fun b o xs e=>frzs b o xs (I.base.frzs b o xs e),fun b ps e=> ?_⟩,?_,fun x c e=> ?_,?_,fun x c e=> ?_,fun p hp=> ?_,hok,I.len⟩
 ·exact keep b o (neL b o e) hb (neC b o e hx) (I.base.keep b o e n hb hx) (I.base.free b o e n hx)
 ·obtain⟨sl,e1⟩:=I.base.slot b o e n hb hx
  obtain⟨sl',e2⟩:=slot b _ (neL b o e) hb (neC b o e hx) e1 (I.base.free b o e n hx)
  exact⟨sl',e2⟩
 ·obtain⟨o',e1⟩:=I.base.there b o e hx
  exact free b o' (neC b o e hx) e1 (I.base.free b o e n hx)
 ·obtain⟨o',e1⟩:=I.base.there b o e hx
  exact there b o' (neC b o e hx) e1
 ·obtain⟨m1,e1⟩:=I.base.tbls b ps e
  obtain⟨m2,e2⟩:=tbls b _ e1
  exact⟨m1++m2,by rw[e2,Array.append_assoc]⟩
 ·obtain⟨m,hn,hl⟩:=I.loc
  refine⟨m,ns m hn,fun i x v e1 e2 e3=> ?_⟩
  obtain⟨u,r,l⟩:=hl i x v e1 e2 e3
  refine⟨u,r,?_⟩
  rcases l with l|⟨k,c,e,z⟩
  ·exact .inl l
  ·exact .inr ⟨k,c,e,gv x c e _ z⟩
 ·obtain⟨v,z⟩:=I.cell x c e
  exact⟨v,gv x c e v z⟩
 ·obtain⟨m,⟨o,_,_,ho,_⟩,_⟩:=I.loc
  exact free _ o (fun z=>(hch _ z).2.1 rfl) ho I.free
 ·obtain⟨v,o,ho,hd⟩:=I.cell x c e
  exact free c o (fun z=>(hch c z).2.2.1 x c e rfl) ho (I.freeC x c e)
 ·obtain⟨e,n,ne,nf,d⟩:=I.pin p hp
  have nch:p.1∉ch:=fun z=>(hch p.1 z).2.2.2 p hp rfl
  exact⟨keep p.1 p.2 ne nf nch e n,free p.1 p.2 nch e n,ne,nf,d⟩
theorem Inv.un{t':Nat}(I:Inv X a6 σ H s)(u:Un X.fs [] H H' s.heap h')(hok:HOk X.prog X.w H' h'):Inv X a6 σ H' {s with heap:=h',toks:=t'}:=by
 obtain⟨m,⟨o,es,ep,ho,r⟩,_⟩:=id I.loc
 obtain⟨sl,hL⟩:=u.any ho I.free (by simp)
 exact I.step (g':=s.gens) (d':=s.drawn) (ch:=[]) (fun _ z=>nomatch z) (fun b o _ hb _ e n=>u.keep b o e n hb (by simp)) (fun b o _ hb _ e n=>u.slot b o e n hb (by simp)) (fun b o _ e n=>u.free b o e n (by simp)) (fun b o _ e=>u.there b o e (by simp)) u.tups u.frzs u.tbls (fun m' hm=>by
  obtain⟨o',es',ep',ho',r'⟩:=hm
  rw[ho] at ho';cases ho'
  exact⟨_,es',ep',hL,r'⟩) hok I.bare
theorem Inv.call{g':Array GenState}{t':Nat}{d':Drawn}{ch:List Addr}(I:Inv X a6 σ H s)(u:Un (frs X.stack) ch H H' s.heap h')(hok:HOk X.prog X.w H' h')(hg:AllBare g')
  (hch: ∀b∈ch,(b∈X.ex∨X.s₀.heap.objs.size<=b)/\b≠X.env.locals/\(∀x c,X.env.cells.lookup x=some c->c≠b)/\ ∀p∈X.pn++a6,p.1≠b):
  Inv X a6 σ H' {s with heap:=h',gens:=g',drawn:=d',toks:=t'}:=by
 obtain⟨m,⟨o,es,ep,ho,r⟩,_⟩:=id I.loc
 obtain⟨sl,hL⟩:=u.any ho I.free fun z=>(hch _ z).2.1 rfl
 exact I.step (ch:=ch) hch (fun b o hL hb hc e n=>u.keep b o e n (fun z=>(List.mem_cons.mp (I.stkSub b z)).elim hL hb) hc) (fun b o _ _ hc e n=>u.any e n hc) (fun b o hc e n=>u.free b o e n hc) (fun b o hc e=>u.there b o e hc) u.tups u.frzs u.tbls (fun m' hm=>by
  obtain⟨o',es',ep',ho',r'⟩:=hm
  rw[ho] at ho';cases ho'
  exact⟨_,es',ep',hL,r'⟩) hok hg
theorem Inv.turned{t':Nat}{it:Addr}(I:Inv X a6 σ H s)(k: ∀b o,b≠it->s.heap.get? b=some o->h'.get? b=some o)(hn:H it=none)(hL:it≠X.env.locals)
  (h1:it∈X.ex∨X.s₀.heap.objs.size<=it) (h2: ∀x c,X.env.cells.lookup x=some c->c≠it) (h3: ∀p∈X.pn++a6,p.1≠it):Inv X a6 σ H {s with heap:=h',toks:=t'}:=by
 have nit: ∀b u,H b=some u->b≠it:=fun b u e z=>by rw[z,hn] at e;cases e
 refine I.step (g':=s.gens) (d':=s.drawn) (ch:=[it]) (fun b hb=> ?_) (fun b o _ _ hc e _=>k b o (fun z=>hc (by simp[z])) e) (fun b o _ _ hc e _=>⟨o.slots,k b o (fun z=>hc (by simp[z])) e⟩) (fun _ _ _ _ n=>n)
  (fun b o hc e=>⟨o,k b o (fun z=>hc (by simp[z])) e⟩) (fun _ _ e=>e) (fun _ _ _ e=>e) (fun b ps e=>⟨#[],by rw[e];simp⟩) (fun m hm=> ?_) (fun b u e=> ?_) I.bare
 ·have e : b = it := by simpa using hb
  subst e
  exact⟨h1,hL,h2,h3⟩
 ·obtain⟨o,es,ep,ho,r⟩:=hm
  exact⟨o,es,ep,k _ o (Ne.symm hL) ho,r⟩
 ·refine (I.hok b u e).stay (fun c v hc q => k c v ?_ q) (fun _ q => q) fun _ _ q => q
  rcases hc with z|z
  ·rw[z];exact nit b u e
  ·exact nit c _ z
theorem Inv.tok(I:Inv X a6 σ H s)(t:Nat):Inv X a6 σ H {s with toks:=t}:=I.un (h':=s.heap) (t':=t) Un.refl I.hok
theorem Inv.kept{t':Nat}(I:Inv X a6 σ H s)(k: ∀b u,s.heap.get? b=some u->h'.get? b=some u):Inv X a6 σ H {s with heap:=h',toks:=t'}:=I.un (Un.kept k) (I.hok.kept k)
theorem Inv.laid{a:Addr}{o:HO}{t':Nat}(I:Inv X a6 σ H s)(k: ∀b u,s.heap.get? b=some u->h'.get? b=some u)(hp:s.heap.objs.size<=a)(new:zCI X.prog X.w (upd H a o) h' a o):
  Inv X a6 σ (upd H a o) {s with heap:=h',toks:=t'}:=I.un (Un.laid k hp (I.hok.fresh hp)) (I.hok.laid k hp new)
theorem Inv.write{x e:Addr}{o:HO}{t':Nat}(I:Inv X a6 σ H s)(mu:Mut (H x))(he:e=x∨H e=some (.own x))(k: ∀b u,b≠e->s.heap.get? b=some u->h'.get? b=some u)(heo: ∃u,h'.get? e=some u)
  (new:zCI X.prog X.w (upd H x o) h' x o):Inv X a6 σ (upd H x o) {s with heap:=h',toks:=t'}:=I.un (Un.write mu he k heo) (I.hok.write mu he k heo new)
theorem Inv.weak{σ':List (Option V)}(I:Inv X a6 σ H s)(hl:σ'.length=σ.length)(w: ∀(i:Nat) v,σ'[i]? =some (some v)->σ[i]? =some (some v)):Inv X a6 σ' H s:=
 ⟨I.ok,I.os,I.bare,I.base,let ⟨m,hn,hl'⟩:=I.loc;⟨m,hn,fun i x v e1 e2 e3=>hl' i x v e1 (w i v e2) e3⟩,I.cell,I.free,I.freeC,I.pin,I.hok,hl.trans I.len⟩
theorem Inv.pins_of{gn:List (Addr×Obj)}(I:Inv X a6 σ H s)(h: ∀p∈gn,s.heap.get? p.1=some p.2/\H p.1=none/\p.1≠X.env.locals/\p.1∉X.fs/\ ∀v,p.2.data≠ .cell v):Inv X gn σ H s:=
 ⟨I.ok,I.os,I.bare,I.base,I.loc,I.cell,I.free,I.freeC,fun p hp=>(List.mem_append.mp hp).elim (fun z=>I.pin p (List.mem_append_left _ z)) (h p),I.hok,I.len⟩
theorem zMK{N:List Str}(hN:N.Nodup){i j:Nat}{x:Str}(a:N[i]? =some x)(b:N[j]? =some x):i=j:=by
 obtain⟨h1,e1⟩:=List.getElem?_eq_some_iff.mp a
 obtain⟨h2,e2⟩:=List.getElem?_eq_some_iff.mp b
 exact(List.getElem_inj hN).mp (e1.trans e2.symm)
theorem zJK{M:Model}{A:Around}{E:Value->Shared->Prop}{i:Nat}{x:Str}{v:V}{u:Value}{Q:Unit->Shared->Prop}(I:Inv X a6 σ H s)(hN:X.N.Nodup)(hi:X.N[i]? =some x)(hx:Loc X.env.scope x)(r:RelV v u)
  (h : ∀ s',Inv X a6 (σ.set i (some v)) H s' -> (∃ a,Heap.SameBut a s.heap s'.heap /\ (a = X.env.locals ∨ X.env.cells.lookup x = some a)) -> Q () s') (hf : X.fn x = true ∨ X.env.scope.names.lookup x = some .local := by first | exact .inl rfl | exact .inr rfl | assumption) : wpAny M A (storeName X.env x u) Q E s := by
 obtain⟨m,hn,hl⟩:=id I.loc
 have oa:(X.env.scope.kind== .class || (X.env.scope.kind== .module && X.env.locals !=X.env.globals))=false:=by rw[I.ok.kind];rfl
 have hiσ:i<σ.length:=by rw[I.len];exact(List.getElem?_eq_some_iff.mp hi).1
 have cne:=I.cne
 have cy: ∀{a:Addr} {h':Heap},(∃o,s.heap.get? a=some o/\H a=none)->Heap.SameBut a s.heap h'->HOk X.prog X.w H h':=fun{a h'} ha hs b ob e=>by
  obtain⟨_,_,az⟩:=ha
  refine(I.hok b ob e).stay (fun c w' hc q=>(hs.2 c ?_).trans q) (fun _ q=>q) fun _ _ q=>q
  rintro rfl
  rcases hc with rfl|hc
  ·rw[az] at e;cases e
  ·rw[az] at hc;cases hc
 rcases hx with hk|hk
 ·refine wpAny_storeName_local hk hn (fun h' hn' hs => ?_) oa
  obtain⟨oL,_,_,hoL,_⟩:=id hn
  refine h _ ⟨I.ok,I.os,I.bare,⟨fun b o e n hb hx=> ?_,fun b o e n hb hx=> ?_,I.base.free,fun b o e hx=> ?_,I.base.tups,I.base.frzs,I.base.tbls⟩,⟨_,hn',fun j y v' e1 e2 e3=> ?_⟩,fun y c e=> ?_,I.free,I.freeC,fun p hp=> ?_,cy ⟨oL,hoL,I.free⟩ hs,by simpa using I.len⟩ ⟨_,hs,.inl rfl⟩
  ·exact(hs.2 b (Nat.ne_of_lt (Nat.lt_of_lt_of_le (Heap.lt_size e) I.ok.above))).trans (I.base.keep b o e n hb hx)
  ·obtain⟨sl,e1⟩:=I.base.slot b o e n hb hx
   exact⟨sl,(hs.2 b (Nat.ne_of_lt (Nat.lt_of_lt_of_le (Heap.lt_size e) I.ok.above))).trans e1⟩
  ·obtain⟨o',e1⟩:=I.base.there b o e hx
   exact⟨o',(hs.2 b (Nat.ne_of_lt (Nat.lt_of_lt_of_le (Heap.lt_size e) I.ok.above))).trans e1⟩
  ·by_cases hj:j=i
   ·subst hj
    rw[hi] at e1;cases e1
    rw[List.getElem?_set_self hiσ] at e2
    cases e2
    exact⟨u,r,.inl ⟨hk,by simp⟩⟩
   ·rw[List.getElem?_set_ne (Ne.symm hj)] at e2
    obtain⟨u',r',q⟩:=hl j y v' e1 e2 e3
    refine⟨u',r',?_⟩
    rcases q with⟨k,e⟩|⟨k,c,e,z⟩
    ·refine .inl ⟨k,?_⟩
     have:y≠x:=fun e=>hj (zMK hN e1 (e▸hi))
     simp[this,e]
    ·exact .inr ⟨k,c,e,z.sameBut hs (cne y c e)⟩
  ·obtain⟨w',z⟩:=I.cell y c e
   exact⟨w',z.sameBut hs (cne y c e)⟩
  ·obtain⟨e,n,ne,nf,d⟩:=I.pin p hp
   exact⟨(hs.2 p.1 ne).trans e,n,ne,nf,d⟩
 ·have hfn:X.fn x=true:=by
   rcases hf with z|z
   ·exact z
   ·rw[z] at hk;cases hk
  obtain⟨c,hc⟩:=I.ok.has x (.inl hk)
  obtain⟨w',z⟩:=I.cell x c hc
  refine wpAny_storeName_cell I.ok.kind hk hc z (fun h' hc' hs=> ?_)
  obtain⟨oc,hoc,nk⟩:=id z
  refine h {s with heap:=h'} ⟨I.ok,I.os,I.bare,⟨fun b o e n hb hx=> ?_,fun b o e n hb hx=> ?_,I.base.free,fun b o e hx=> ?_,I.base.tups,I.base.frzs,I.base.tbls⟩,⟨m,hn.sameBut hs (Ne.symm (cne x c hc)),fun j y v' e1 e2 e3=> ?_⟩,fun y c' e=> ?_,I.free,I.freeC,fun p hp=> ?_,cy ⟨oc,hoc,I.freeC x c hc⟩ hs,by simpa using I.len⟩ ⟨c,hs,.inr hc⟩
  ·exact(hs.2 b (Nat.ne_of_lt (Nat.lt_of_lt_of_le (Heap.lt_size e) (I.ok.cab x c hfn hc)))).trans (I.base.keep b o e n hb hx)
  ·obtain⟨sl,e1⟩:=I.base.slot b o e n hb hx
   exact⟨sl,(hs.2 b (Nat.ne_of_lt (Nat.lt_of_lt_of_le (Heap.lt_size e) (I.ok.cab x c hfn hc)))).trans e1⟩
  ·obtain⟨o',e1⟩:=I.base.there b o e hx
   exact⟨o',(hs.2 b (Nat.ne_of_lt (Nat.lt_of_lt_of_le (Heap.lt_size e) (I.ok.cab x c hfn hc)))).trans e1⟩
  ·by_cases hj:j=i
   ·subst hj
    rw[hi] at e1;cases e1
    rw[List.getElem?_set_self hiσ] at e2
    cases e2
    exact⟨u,r,.inr ⟨.inl hk,c,hc,hc'⟩⟩
   ·rw[List.getElem?_set_ne (Ne.symm hj)] at e2
    obtain⟨u',r',q⟩:=hl j y v' e1 e2 e3
    refine⟨u',r',?_⟩
    rcases q with q|⟨k,c',e,z'⟩
    ·exact .inl q
    ·refine .inr ⟨k,c',e,z'.sameBut hs ?_⟩
     rintro rfl
     exact hj (zMK hN e1 (I.ok.inj _ _ _ e hc▸hi))
  ·by_cases hcc:c'=c
   ·subst hcc;exact⟨_,hc'⟩
   ·obtain⟨w2,z2⟩:=I.cell y c' e
    exact⟨w2,z2.sameBut hs hcc⟩
  ·obtain⟨e,n,ne,nf,d⟩:=I.pin p hp
   refine⟨(hs.2 p.1 ?_).trans e,n,ne,nf,d⟩
   intro q
   rw[q,hoc] at e
   have q':oc=p.2:=Option.some.inj e
   exact d w' (by rw[<- q'];exact nk)
theorem zCS{M:Model}{A:Around}{E:Value->Shared->Prop}{i:Nat}{x:Str}{v:V}{u:Value}{Q:Unit->Shared->Prop}(I:Inv X a6 σ H s)(hN:X.N.Nodup)(hi:X.N[i]? =some x)(hx:Loc X.env.scope x)(r:RelV v u)
  (h: ∀s',Inv X a6 (σ.set i (some v)) H s'->Q () s') (hf:X.fn x=true∨X.env.scope.names.lookup x=some .local:=by first|exact .inl rfl|exact .inr rfl|assumption):wpAny M A (storeName X.env x u) Q E s:=
 zJK I hN hi hx r (fun s' I' _=>h s' I') hf
theorem Inv.call'{s':Shared}{ch:List Addr}(I:Inv X a6 σ H s)(ho:s'.os=s.os)(u:Un (frs X.stack) ch H H' s.heap s'.heap)(hok:HOk X.prog X.w H' s'.heap)(hg:AllBare s'.gens)
  (hch: ∀b∈ch,(b∈X.ex∨X.s₀.heap.objs.size<=b)/\b≠X.env.locals/\(∀x c,X.env.cells.lookup x=some c->c≠b)/\ ∀p∈X.pn++a6,p.1≠b):Inv X a6 σ H' s':=by
 obtain⟨h',g',d',t',o'⟩:=s'
 have e:o'=s.os:=ho
 subst e
 exact I.call (g':=g') (t':=t') (d':=d') u hok hg hch
end
abbrev XK:=Value->Option Addr->Hp->Prop
abbrev St:=List (Option V)
abbrev VK:=V->Hp->Prop
abbrev TE:=St->Hp->VK->Prop
abbrev TT:=St->Hp->(Bool->Hp->Prop)->Prop
abbrev TA:=St->Hp->(List V->Hp->Prop)->Prop
structure Ends where
 nx:St->Hp->Prop
 rt:VK
 bk:St->Hp->Prop:=fun _ _=>False
 ct:St->Hp->Prop:=fun _ _=>False
abbrev TS:=Ends->St->Hp->Prop
def EP(X:Cx)(a6:List (Addr×Obj))(σ:St)(Q:VK)(u:Value)(s':Shared):Prop:= ∃v H',Inv X a6 σ H' s'/\RelV v u/\Q v H'
def TP(X:Cx)(a6:List (Addr×Obj))(σ:St)(Q:Bool->Hp->Prop)(b:Bool)(s':Shared):Prop:= ∃H',Inv X a6 σ H' s'/\Q b H'
def AP(X:Cx)(a6:List (Addr×Obj))(σ:St)(Q:List V->Hp->Prop)(us:List Value)(s':Shared):Prop:= ∃vs H',Inv X a6 σ H' s'/\Vals vs us/\Q vs H'
def SP(X:Cx)(a6:List (Addr×Obj))(D:Ends)(f:Flow)(s':Shared):Prop:=
 match f with
 | .next=> ∃σ' H',Inv X a6 σ' H' s'/\D.nx σ' H'
 | .brk=> ∃σ' H',Inv X a6 σ' H' s'/\D.bk σ' H'
 | .cont=> ∃σ' H',Inv X a6 σ' H' s'/\D.ct σ' H'
 | .ret u=> ∃v σ' H',Inv X a6 σ' H' s'/\RelV v u/\D.rt v H'
def PE(X:Cx)(e:Expr)(t:TE):Prop:=
 ∀(a6:List (Addr×Obj)) (s:Shared) (σ:St) (H:Hp) (Q:VK),Inv X a6 σ H s->t σ H Q->wpAny (model X.prog X.w) X.A (eval e X.env) (EP X a6 σ Q) X.xe s
def PT(X:Cx)(e:Expr)(t:TT):Prop:=
 ∀(a6:List (Addr×Obj)) (s:Shared) (σ:St) (H:Hp) (Q:Bool->Hp->Prop),Inv X a6 σ H s->t σ H Q->wpAny (model X.prog X.w) X.A (isTrue e X.env (eval e X.env)) (TP X a6 σ Q) X.xe s
def PW(X:Cx)(e:Expr)(t:TT):Prop:=
 ∀(ax:Sem Value) (a6:List (Addr×Obj)) (s:Shared) (σ:St) (H:Hp) (Q:Bool->Hp->Prop),Inv X a6 σ H s->t σ H Q->wpAny (model X.prog X.w) X.A (isTrue e X.env ax) (TP X a6 σ Q) X.xe s
theorem PW.pt{X:Cx}{e:Expr}{t:TT}(h:PW X e t):PT X e t:=h _
def PA(X:Cx)(es:List Expr)(t:TA):Prop:=
 ∀(pos:Pos) (a6:List (Addr×Obj)) (s:Shared) (σ:St) (H:Hp) (Q:List V->Hp->Prop),Inv X a6 σ H s->t σ H Q->wpAny (model X.prog X.w) X.A (spliced (backTo pos (starEach es X.env))) (AP X a6 σ Q) X.xe s
def PS(X:Cx)(st:Stmt)(t:TS):Prop:=
 ∀(a6:List (Addr×Obj)) (s:Shared) (σ:St) (H:Hp) (D:Ends),Inv X a6 σ H s->t D σ H->wpAny (model X.prog X.w) X.A (exec st X.env) (SP X a6 D) X.xe s
def PSs(X:Cx)(st:List Stmt)(t:TS):Prop:=
 ∀(a6:List (Addr×Obj)) (s:Shared) (σ:St) (H:Hp) (D:Ends),Inv X a6 σ H s->t D σ H->wpAny (model X.prog X.w) X.A (execs st X.env) (SP X a6 D) X.xe s
theorem thn{α:Type}{t:Sem α}{Q Q':α->Shared->Prop}{M:Model}{A:Around}{E:Value->Shared->Prop}{s:Shared}(h:wpAny M A t Q E s)(hQ: ∀a s,Q a s->Q' a s):wpAny M A t Q' E s:=wpAny_mono h hQ fun _ _ x=>x
section
variable{X:Cx}
def tVar(i:Nat):TE:=fun σ H Q=> ∃v,σ[i]? =some (some v)/\Q v H
def tC(v:V):TE:=fun _ H Q=>Q v H
theorem zPH{i:Nat}{x:Str}{pos:Pos}(hN:X.N[i]? =some x)(hv:Vis X.env.scope x)(hd:(x==("__debug__":Str))=false:=by decide) (hcd:(x==("__classdict__":Str))=false:=by decide):PE X (.Name x pos) (tVar i):=by
 intro a6 s σ H Q I h
 obtain⟨v,e,h⟩:=h
 obtain⟨m,hn,hl⟩:=I.loc
 obtain⟨u,r,l⟩:=hl i x v hN e hv
 have fin:EP X a6 σ Q u s:=⟨v,H,I,r,h⟩
 rcases l with⟨hk,hm⟩|⟨hk,c,hc,gu⟩
 ·exact wpAny_Name (wpAny_loadName_local I.ok.kind hk hn hm fin) hd
 ·rcases hk with hk|hk
  ·exact wpAny_Name (wpAny_loadName_cell I.ok.kind hk hc gu fin) hd
  ·exact wpAny_Name (wpAny_loadName_free I.ok.kind hk hc gu fin hcd) hd
theorem zY8{i j pos}:PE X (.Constant (.int i) j pos) (tC (.int i)):=fun _ _ _ H _ I h=>wpAny_Constant_int ⟨.int i,H,I.tok _,⟨_,rfl⟩,h⟩
theorem yCJ{b j pos}:PE X (.Constant (.bool b) j pos) (tC (.bl b)):=fun _ _ _ H _ I h=>Constant_bool ⟨.bl b,H,I,rfl,h⟩
theorem zY6{j pos}:PE X (.Constant .none j pos) (tC .non):=fun _ _ _ H _ I h=>Constant_none ⟨.non,H,I,rfl,h⟩
theorem zY3{x j pos}:PE X (.Constant (.str x) j pos) (tC (.str x)):=fun _ _ _ H _ I h=>Calls.Constant_str ⟨.str x,H,I.tok _,⟨_,rfl⟩,h⟩
def Gl(X:Cx)(x:Str):Prop:=X.env.kindOf x=some .globalImplicit
theorem zPZ{E:Value->Shared->Prop}{a6:List (Addr×Obj)}{s:Shared}{σ:St}{H:Hp}{x:Str}{u:Value}{pos:Pos}{Q:Value->Shared->Prop}(I:Inv X a6 σ H s)(hg:Gl X x)(hm:X.mg x=some u)(h:Q u s)
  (hd:(x==("__debug__":Str))=false:=by decide):wpAny (model X.prog X.w) X.A (eval (.Name x pos) X.env) Q E s:=
 Calls.Name_function_global I.ok.kind hg (Calls.loadGlobal_global (by rw[I.ok.glob];exact I.mod.glob.keeps I.bk) hm h) hd
theorem zH6{E:Value->Shared->Prop}{a6:List (Addr×Obj)}{s:Shared}{σ:St}{H:Hp}{x:Str}{u:Value}{pos:Pos}{Q:Value->Shared->Prop}(I:Inv X a6 σ H s)(hg:Gl X x)(hm:X.mg x=none)(hv:bootBuiltins x=some u)(h:Q u s)
  (hn:x≠ "__name__":=by decide) (hd:(x==("__debug__":Str))=false:=by decide):wpAny (model X.prog X.w) X.A (eval (.Name x pos) X.env) Q E s:=by
 obtain⟨mb,h1,h2⟩:=I.mod.blt
 exact Calls.Name_function_global I.ok.kind hg (Calls.loadGlobal_builtin (by rw[I.ok.glob];exact I.mod.glob.keeps I.bk) hm (by rw[I.ok.blt];exact h1.keeps I.bk) ((h2 x hn).trans hv) h) hd
theorem zV6{x:Str}{v:V}{u:Value}{pos:Pos}(hg:Gl X x)(hm:X.mg x=some u)(r:RelV v u)(hd:(x==("__debug__":Str))=false:=by decide):PE X (.Name x pos) (tC v):=
 fun _ _ _ H _ I h=>zPZ I hg hm ⟨v,H,I,r,h⟩ hd
theorem zV8{x:Str}{v:V}{u:Value}{pos:Pos}(hg:Gl X x)(hm:X.mg x=none)(hv:bootBuiltins x=some u)(r:RelV v u)(hn:x≠ "__name__":=by decide) (hd:(x==("__debug__":Str))=false:=by decide):PE X (.Name x pos) (tC v):=
 fun _ _ _ H _ I h=>zH6 I hg hm hv ⟨v,H,I,r,h⟩ hn hd
variable{a b:Expr}{ta tb:TE}{pos:Pos}
def tB(t:TE):TT:=fun σ H Q=>t σ H fun x H1=> ∃c,x= .bl c/\Q c H1
theorem zXS{e:Expr}{t:TE}(h:PE X e t)(he: ∀ax,isTrue e X.env ax=(do let v<- ax;standAt e.pos;holding [v] (truthy v)):=by intro _;rfl):PT X e (tB t):=by
 intro a6 s σ H Q I hw
 refine isTrue_plain (thn (h a6 s σ H _ I hw) fun v s1 ⟨x,H1,I1,r1,q1⟩=> ?_) (he _)
 obtain⟨d,rfl,q⟩:=q1
 cases r1
 exact wpAny_truthy_bool ⟨H1,I1,q⟩
variable{tA tB':TT}{rest:List Expr}
def tAnd(t u:TT):TT:=fun σ H Q=>t σ H fun c H1=>if c=true then u σ H1 Q else Q false H1
def tOr(t u:TT):TT:=fun σ H Q=>t σ H fun c H1=>if c=true then Q true H1 else u σ H1 Q
def tNot(t:TT):TT:=fun σ H Q=>t σ H fun c H1=>Q (!c) H1
theorem zUU(ha:PT X a tA):PW X (.BoolOp .And [a] pos) tA:=by
 intro wh a6 s σ H Q I h
 refine isTrue_and (thn (ha a6 s σ H Q I h) fun c s1 e=> ?_)
 cases c with
 |true=>exact isTrue_and_nil e
 |false=>exact e
theorem zXQ(ha:PT X a tA):PW X (.BoolOp .Or [a] pos) tA:=by
 intro wh a6 s σ H Q I h
 refine isTrue_or (thn (ha a6 s σ H Q I h) fun c s1 e=> ?_)
 cases c with
 |false=>exact isTrue_or_nil e
 |true=>exact e
theorem zXR(ha:PT X a tA)(hb:PW X (.BoolOp .And (b::rest) pos) tB'):PW X (.BoolOp .And (a::b::rest) pos) (tAnd tA tB'):=by
 intro wh a6 s σ H Q I h
 refine isTrue_and (thn (ha a6 s σ H _ I h) fun c s1 ⟨H1,I1,q1⟩=> ?_)
 cases c with
 |true=>exact hb wh a6 s1 σ H1 Q I1 q1
 |false=>exact⟨H1,I1,q1⟩
theorem yC8(ha:PT X a tA)(hb:PW X (.BoolOp .Or (b::rest) pos) tB'):PW X (.BoolOp .Or (a::b::rest) pos) (tOr tA tB'):=by
 intro wh a6 s σ H Q I h
 refine isTrue_or (thn (ha a6 s σ H _ I h) fun c s1 ⟨H1,I1,q1⟩=> ?_)
 cases c with
 |true=>exact⟨H1,I1,q1⟩
 |false=>exact hb wh a6 s1 σ H1 Q I1 q1
theorem zXT(ha:PT X a tA):PT X (.UnaryOp .Not a pos) (tNot tA):=by
 intro a6 s σ H Q I h
 exact isTrue_not (ha a6 s σ H (fun c H1=>Q (!c) H1) I h)
def yBD(ta tb:TE):TE:=fun σ H Q=>ta σ H fun x H1=> ∃c,x= .bl c/\if c=true then tb σ H1 Q else Q (.bl false) H1
def tOrV(ta tb:TE):TE:=fun σ H Q=>ta σ H fun x H1=> ∃c,x= .bl c/\if c=true then Q (.bl true) H1 else tb σ H1 Q
theorem zY5{op}{t:TE}(h:PE X a t):PE X (.BoolOp op [a] pos) t:=fun a6 s σ H Q I hw=>BoolOp_one (h a6 s σ H Q I hw)
theorem zY9(ha:PE X a ta)(hb:PE X (.BoolOp .And (b::rest) pos) tb):PE X (.BoolOp .And (a::b::rest) pos) (yBD ta tb):=by
 intro a6 s σ H Q I h
 refine BoolOp_and (thn (ha a6 s σ H _ I h) fun v s1 ⟨x,H1,I1,r1,q1⟩=> ?_)
 obtain⟨c,rfl,q1⟩:=q1
 cases r1
 refine wpAny_truthy_bool ?_
 cases c with
 |true=>exact hb a6 s1 σ H1 Q I1 q1
 |false=>exact⟨.bl false,H1,I1,rfl,q1⟩
theorem yCG(ha:PE X a ta)(hb:PE X (.BoolOp .Or (b::rest) pos) tb):PE X (.BoolOp .Or (a::b::rest) pos) (tOrV ta tb):=by
 intro a6 s σ H Q I h
 refine BoolOp_or (thn (ha a6 s σ H _ I h) fun v s1 ⟨x,H1,I1,r1,q1⟩=> ?_)
 obtain⟨c,rfl,q1⟩:=q1
 cases r1
 refine wpAny_truthy_bool ?_
 cases c with
 |false=>exact hb a6 s1 σ H1 Q I1 q1
 |true=>exact⟨.bl true,H1,I1,rfl,q1⟩
def tIf(t:TT)(ta tb:TE):TE:=fun σ H Q=>t σ H fun c H1=>if c=true then ta σ H1 Q else tb σ H1 Q
theorem zS4{c:Expr}(hc:PT X c tA)(ha:PE X a ta)(hb:PE X b tb):PE X (.IfExp c a b pos) (tIf tA ta tb):=by
 intro a6 s σ H Q I h
 refine wpAny_IfExp (thn (hc a6 s σ H _ I h) fun d s1 ⟨H1,I1,q1⟩=> ?_)
 cases d with
 |true=>exact ha a6 s1 σ H1 Q I1 q1
 |false=>exact hb a6 s1 σ H1 Q I1 q1
end
def SqL(K:W.Frag)(H:Hp)(a:Addr)(xs:List V):Prop:=
 Rd H a (.lst xs)∨
  ∃(o:Obj) (its:Array Value) (n:Nat),K.lookup a=some o/\o.cls= .type "list" /\o.dict=none/\o.data= .seq its n/\its.size<=sizeLine/\Vals xs its.toList
def SqT(K:W.Frag)(H:Hp)(a:Addr)(xs:List V):Prop:=
 Rd H a (.tup xs)∨
  ∃(o:Obj) (its:Array Value) (n:Nat),K.lookup a=some o/\o.cls= .type "tuple" /\o.data= .seq its n/\its.size<=sizeLine/\Vals xs its.toList
noncomputable def absV:Value->Option V
 | .none=>some .non
 | .bool b=>some (.bl b)
 | .int i _=>some (.int i)
 | .str x _=>some (.str x)
 | .bytes b _=>some (.byt b)
 | .float b _=>some (.flt b)
 | .ref a=>some (.ref a)
 | .type n=>some (.ty n)
 |_=>none
theorem RelV.abs{x:V}{u:Value}(r:RelV x u):absV u=some x:=by
 cases x with
 |non=>cases r;rfl
 |bl _=>cases r;rfl
 |int _=>obtain⟨t,rfl⟩:=r;rfl
 |str _=>obtain⟨t,rfl⟩:=r;rfl
 |byt _=>obtain⟨t,rfl⟩:=r;rfl
 |flt _=>obtain⟨t,rfl⟩:=r;rfl
 |ref _=>cases r;rfl
 |ty _=>cases r;rfl
theorem RelV.inj{x y:V}{u:Value}(r:RelV x u)(q:RelV y u):x=y:=Option.some.inj (r.abs.symm.trans q.abs)
theorem Vals.inj: ∀{xs ys:List V} {us:List Value},Vals xs us->Vals ys us->xs=ys
 |_,_,_,.nil,.nil=>rfl
 |_,_,_,.cons r t,.cons r' t'=>by rw[r.inj r',Vals.inj t t']
section
variable{X:Cx}{a6:List (Addr×Obj)}{σ:St}{H:Hp}{s:Shared}{a:Addr}{xs ys:List V}
theorem SqL.of{K:W.Frag}(h:H a=some (.lst xs)):SqL K H a xs:= .inl (.inl h)
theorem SqT.of{K:W.Frag}(h:H a=some (.tup xs)):SqT K H a xs:= .inl (.inl h)
theorem Inv.list(I:Inv X a6 σ H s)(h:SqL X.K H a xs): ∃its:List Value,Vals xs its/\PlainL s.heap a its.toArray/\xs.length<=sizeLine:=by
 rcases h with h|⟨o,its,n,hk,hc,hd,hs,hz,r⟩
 ·obtain⟨z,its,n,r,e⟩:=h.ok I.hok
  exact⟨its,r,⟨_,n,e,rfl,rfl,rfl⟩,z⟩
 ·refine ⟨its.toList,r,⟨o,n,I.kIn a o hk,hc,hd,by simpa using hs⟩,?_⟩
  have e:=r.length
  simp only[Array.length_toList] at e
  omega
theorem Inv.tuple(I:Inv X a6 σ H s)(h:SqT X.K H a xs): ∃its:List Value,Vals xs its/\IsTup s.heap a its.toArray/\xs.length<=sizeLine:=by
 rcases h with h|⟨o,its,n,hk,hc,hs,hz,r⟩
 ·obtain⟨z,its,r,p⟩:=h.ok I.hok
  exact⟨its,r,p,z⟩
 ·refine ⟨its.toList,r,⟨o,I.kIn a o hk,hc,n,by simpa using hs⟩,?_⟩
  have e:=r.length
  simp only[Array.length_toList] at e
  omega
theorem Inv.list_inj(I:Inv X a6 σ H s)(h:SqL X.K H a xs)(h':SqL X.K H a ys):xs=ys:=by
 obtain⟨its,r,⟨o,n,e,_,_,d⟩,_⟩:=I.list h
 obtain⟨its',r',⟨o',n',e',_,_,d'⟩,_⟩:=I.list h'
 rw[e] at e';cases e'
 rw[d] at d'
 injection d' with d1 _
 have:its=its':=by simpa using congrArg Array.toList d1
 subst this
 exact r.inj r'
theorem Inv.tuple_inj(I:Inv X a6 σ H s)(h:SqT X.K H a xs)(h':SqT X.K H a ys):xs=ys:=by
 obtain⟨its,r,⟨o,e,_,n,d⟩,_⟩:=I.tuple h
 obtain⟨its',r',⟨o',e',_,n',d'⟩,_⟩:=I.tuple h'
 rw[e] at e';cases e'
 rw[d] at d'
 injection d' with d1 _
 have:its=its':=by simpa using congrArg Array.toList d1
 subst this
 exact r.inj r'
end
abbrev Cx.wish(X:Cx)(E:Value->Shared->Prop):Cx:={X with xe:=E}
abbrev Cx.nox(X:Cx):Cx:=X.wish fun _ _=>False
theorem Cx.Ok.wish{X:Cx}(ok:X.Ok)(E:Value->Shared->Prop):(X.wish E).Ok:=
 ⟨ok.mod,ok.kind,ok.glob,ok.blt,ok.above,ok.inj,ok.has,ok.cab,ok.hd,ok.frames,ok.stk,ok.exf,ok.bs,ok.bsz,ok.noex,ok.exfs,ok.funs,ok.frf⟩
theorem Cx.Ok.unwish{X:Cx}{E:Value->Shared->Prop}(ok:(X.wish E).Ok):X.Ok:=
 ⟨ok.mod,ok.kind,ok.glob,ok.blt,ok.above,ok.inj,ok.has,ok.cab,ok.hd,ok.frames,ok.stk,ok.exf,ok.bs,ok.bsz,ok.noex,ok.exfs,ok.funs,ok.frf⟩
section
variable{X:Cx}{a6:List (Addr×Obj)}{σ:St}{H:Hp}{s:Shared}{E:Value->Shared->Prop}
theorem Inv.wish(I:Inv X a6 σ H s)(E:Value->Shared->Prop):Inv (X.wish E) a6 σ H s:=⟨I.ok.wish E,I.os,I.bare,I.base,I.loc,I.cell,I.free,I.freeC,I.pin,I.hok,I.len⟩
theorem Inv.unwish(I:Inv (X.wish E) a6 σ H s):Inv X a6 σ H s:=⟨I.ok.unwish,I.os,I.bare,I.base,I.loc,I.cell,I.free,I.freeC,I.pin,I.hok,I.len⟩
theorem SP.unwish{D:Ends}{f:Flow}{s':Shared}(h:SP (X.wish E) a6 D f s'):SP X a6 D f s':=by
 cases f with
 |next=>obtain⟨σ',H',I,q⟩:=h;exact⟨σ',H',I.unwish,q⟩
 |brk=>obtain⟨σ',H',I,q⟩:=h;exact⟨σ',H',I.unwish,q⟩
 |cont=>obtain⟨σ',H',I,q⟩:=h;exact⟨σ',H',I.unwish,q⟩
 |ret u=>obtain⟨v,σ',H',I,r,q⟩:=h;exact⟨v,σ',H',I.unwish,r,q⟩
theorem PSs.nox{st:List Stmt}{t:TS}(h:PSs X.nox st t):PSs X st t:=fun a6 s σ H D I hw=>
 wpAny_mono (h a6 s σ H D (I.wish _) hw) (fun _ _ q=>q.unwish) fun _ _ z=>False.elim z
end
section
variable{X:Cx}{st:Stmt}{rest:List Stmt}{t u:TS}{e:Expr}{te:TE}{pos:Pos}
def yBA:TS:=fun D σ H=>D.nx σ H
def tSeq(t u:TS):TS:=fun D σ H=>t {D with nx:=u D} σ H
theorem zP6:PSs X [] yBA:=fun _ _ σ H _ I h=>wpAny_execs_nil ⟨σ,H,I,h⟩
theorem zMC(h1:PS X st t)(h2:PSs X rest u):PSs X (st::rest) (tSeq t u):=by
 intro a6 s σ H D I h
 refine wpAny_execs_cons (thn (h1 a6 s σ H {D with nx:=u D} I h) fun f s1 q=> ?_)
 cases f with
 |next=>
  obtain⟨σ',H',I',q⟩:=q
  exact h2 a6 s1 σ' H' D I' q
 |ret v=>exact q
 |brk=>exact q
 |cont=>exact q
theorem Inv.quiet{a6:List (Addr×Obj)}{σ:St}{H:Hp}{s:Shared}(I:Inv X a6 σ H s):interactive X.env=false:=by simp[interactive,I.ok.kind]
def yBC(te:TE):TS:=fun D σ H=>te σ H fun _ H1=>D.nx σ H1
theorem zP7(he:PE X e te)(hs:swapsWith e none pos.line X.env=pure false:=by rfl):PS X (.Expr e pos) (yBC te):=by
 intro a6 s σ H D I h
 exact wpAny_Expr_any (thn (he a6 s σ H _ I h) fun v s1 ⟨x,H1,I1,r1,q1⟩=>⟨σ,H1,I1,q1⟩) I.quiet hs
def tRet(te:TE):TS:=fun D σ H=>te σ H D.rt
theorem zTG(he:PE X e te):PS X (.Return (some e) pos) (tRet te):=by
 intro a6 s σ H D I h
 exact wpAny_Return_some (thn (he a6 s σ H _ I h) fun v s1 ⟨x,H1,I1,r1,q1⟩=>⟨x,σ,H1,I1,r1,q1⟩)
def tIfS(c:TT)(t u:TS):TS:=fun D σ H=>c σ H fun b H1=>if b=true then t D σ H1 else u D σ H1
theorem yC9{c:Expr}{a b:List Stmt}{tc:TT}(hc:PT X c tc)(ha:PSs X a t)(hb:PSs X b u):PS X (.If c a b pos) (tIfS tc t u):=by
 intro a6 s σ H D I h
 refine wpAny_If (thn (hc a6 s σ H _ I h) fun d s1 ⟨H1,I1,q1⟩=> ?_)
 cases d with
 |true=>exact ha a6 s1 σ H1 D I1 q1
 |false=>exact hb a6 s1 σ H1 D I1 q1
end
abbrev TG:=V->St->Hp->(St->Hp->Prop)->Prop
abbrev TGs:=List V->St->Hp->(St->Hp->Prop)->Prop
def PG(X:Cx)(b6:Expr)(t:TG):Prop:=
 ∀(a6:List (Addr×Obj)) (s:Shared) (σ:St) (H:Hp) (v:V) (u:Value) (Q:St->Hp->Prop),Inv X a6 σ H s->RelV v u->t v σ H Q→
  wpAny (model X.prog X.w) X.A (assign b6 X.env u) (fun _ s'=> ∃σ' H',Inv X a6 σ' H' s'/\Q σ' H') X.xe s
def PGs(X:Cx)(ts:List Expr)(t:TGs):Prop:=
 ∀(a6:List (Addr×Obj)) (s:Shared) (σ:St) (H:Hp) (vs:List V) (us:List Value) (Q:St->Hp->Prop),Inv X a6 σ H s->Vals vs us->t vs σ H Q→
  wpAny (model X.prog X.w) X.A (assignInOrder ((assignEach ts X.env).map (·.2)) us) (fun _ s'=> ∃σ' H',Inv X a6 σ' H' s'/\Q σ' H') X.xe s
abbrev TSet:=V->V->V->Hp->(Hp->Prop)->Prop
def PSet(X:Cx)(t:TSet):Prop:=
 ∀(a6:List (Addr×Obj)) (s:Shared) (σ:St) (H:Hp) (o i v:V) (ov iv u:Value) (Q:Hp->Prop),Inv X a6 σ H s->RelV o ov->RelV i iv->RelV v u->t o i v H Q→
  wpAny (model X.prog X.w) X.A (setItem ov iv u) (fun _ s'=> ∃H',Inv X a6 σ H' s'/\Q H') X.xe s
section
variable{X:Cx}{pos:Pos}
def zSQ(i:Nat):TG:=fun v σ H Q=>Q (σ.set i (some v)) H
theorem zIO{i:Nat}{x:Str}(hN:X.N.Nodup)(hi:X.N[i]? =some x)(hx:Loc X.env.scope x)(hf:X.fn x=true∨X.env.scope.names.lookup x=some .local:=by first|exact .inl rfl|exact .inr rfl|assumption):PG X (.Name x pos) (zSQ i):=by
 intro a6 s σ H v u Q I r h
 exact wpAny_assign_Name (zCS I hN hi hx r (fun s' I'=>⟨_,H,I',h⟩) hf)
def gNil:TGs:=fun vs σ H Q=>vs=[]/\Q σ H
def yDZ(t:TG)(u:TGs):TGs:=fun vs σ H Q=> ∃v r,vs=v::r/\t v σ H fun σ' H'=>u r σ' H' Q
theorem zPG:PGs X [] gNil:=by
 intro a6 s σ H vs us Q I r h
 obtain⟨e,h⟩:=h
 subst e
 cases r
 exact assignInOrder_nil ⟨σ,H,I,h⟩
theorem zGS{e:Expr}{es:List Expr}{t:TG}{u:TGs}(h1:PG X e t)(h2:PGs X es u)
  (hs:(assignEach (e::es) X.env).map (·.2)=assign e X.env::(assignEach es X.env).map (·.2):=by rfl):PGs X (e::es) (yDZ t u):=by
 intro a6 s σ H vs us Q I r h
 obtain⟨v,vr,e1,h⟩:=h
 subst e1
 cases r with
 |cons r rr=>
  rw[hs]
  refine assignInOrder_cons (thn (h1 a6 s σ H _ _ _ I r h) fun _ s1 ⟨σ1,H1,I1,q1⟩=> ?_)
  exact h2 a6 s1 σ1 H1 _ _ Q I1 rr q1
def gTup(K:W.Frag)(n:Nat)(t:TGs):TG:=fun v σ H Q=> ∃a xs,v= .ref a/\SqT K H a xs/\xs.length=n/\t xs σ H Q
theorem zY0{es:List Expr}{k:Nat}{t:TGs}{n:Nat}(hc:X.calm=true)(h:PGs X es t)
  (hn:(assignEach es X.env).length=n:=by rfl) (hst:(assignEach es X.env).findIdx? (·.1)=none:=by rfl):PG X (.Tuple es k pos) (gTup X.K n t):=by
 intro a6 s σ H v u Q I r hw
 obtain⟨a,xs,e1,hq,hl,hw⟩:=hw
 subst e1
 cases r
 obtain⟨its,rv,ht,hz⟩:=I.tuple hq
 refine assign_Tuple_tuple (I.ok.hd hc) ht (by simp[hn,<- hl,rv.length]) hst fun h' hx=> ?_
 have I1:Inv X a6 σ H {s with heap:=h'}:=I.kept (t':=s.toks) fun b o e=>hx b o (Nat.ne_of_lt (Heap.lt_size e)) e
 exact h a6 _ σ H xs _ Q I1 (by simpa using rv) hw
def gSub(to ti:TE)(t:TSet):TG:=fun v σ H Q=>to σ H fun o H1=>ti σ H1 fun i H2=>t o i v H2 fun H3=>Q σ H3
theorem zY1{o i:Expr}{to ti:TE}{t:TSet}(ho:PE X o to)(hi:PE X i ti)(hs:PSet X t)
  (ha: ∀v,assign (.Subscript o i pos) X.env v=(do
   let ov<- holding [v] (eval o X.env)
   let iv<- holding [v,ov] (eval i X.env)
   standAt pos
   holding [v,ov,iv] (setItem ov iv v)
   release [v,ov,iv] []):=by intro _;rfl):PG X (.Subscript o i pos) (gSub to ti t):=by
 intro a6 s σ H v u Q I r h
 rw[ha]
 refine wpAny_bind (wpAny_holding (thn (ho a6 s σ H _ I h) fun ov s1 ⟨x,H1,I1,r1,q1⟩=> ?_))
 refine wpAny_bind (wpAny_holding (thn (hi a6 s1 σ H1 _ I1 q1) fun iv s2 ⟨y,H2,I2,r2,q2⟩=> ?_))
 refine wpAny_bind (wpAny_standAt (wpAny_bind (wpAny_holding (thn (hs a6 s2 σ H2 x y v ov iv u _ I2 r1 r2 r q2) fun _ s3 ⟨H3,I3,q3⟩=> ?_))))
 exact wpAny_release ⟨σ,H3,I3,q3⟩
def tAsg(te:TE)(g:TG):TS:=fun D σ H=>te σ H fun x H1=>g x σ H1 D.nx
theorem zME{tg e:Expr}{te:TE}{g:TG}(he:PE X e te)(hg:PG X tg g)(hs:swapsWithSole [tg] e pos.line X.env=pure false:=by rfl)(hw:swappedStores [tg] e X.env=pure none:=by rfl)
  (h1:(assignEach [tg] X.env).map (·.2)=[assign tg X.env]:=by rfl):PS X (.Assign [tg] e pos) (tAsg te g):=by
 intro a6 s σ H D I h
 refine wpAny_Assign_stores (thn (he a6 s σ H _ I h) fun v s1 ⟨x,H1,I1,r1,q1⟩=> ?_) hs hw
 rw[h1]
 exact thn (hg a6 s1 σ H1 x v _ I1 r1 q1) fun _ s2 q=>q
theorem zXU{i:Nat}{x:Str}{e:Expr}{te:TE}{ap:Pos}(hN:X.N.Nodup)(hi:X.N[i]? =some x)(hx:Loc X.env.scope x)(he:PE X e te)(hs:swapsWith e (some (.Name x ap)) pos.line X.env=pure false:=by rfl)(hf:X.fn x=true∨X.env.scope.names.lookup x=some .local:=by first|exact .inl rfl|exact .inr rfl|assumption):
  PS X (.Assign [.Name x ap] e pos) (tAsg te (zSQ i)):=by
 intro a6 s σ H D I h
 refine wpAny_Assign_Name (thn (he a6 s σ H _ I h) fun v s1 ⟨y,H1,I1,r1,q1⟩=> ?_) hs
 exact zCS I1 hN hi hx r1 (fun s2 I2=>⟨_,H1,I2,q1⟩) hf
def tPar(i j:Nat)(ta:TA):TS:=fun D σ H=>ta σ H fun vs H1=> ∃v w,vs=[v,w]/\D.nx ((σ.set i (some v)).set j (some w)) H1
theorem zXV{i j:Nat}{x y:Str}{a b:Expr}{ta:TA}{px py pt:Pos}{kt k2 pt2}(hc:X.calm=true)(hN:X.N.Nodup)(hi:X.N[i]? =some x)(hj:X.N[j]? =some y)(hij:i≠j)
  (hx:X.env.scope.names.lookup x=some .local) (hy:X.env.scope.names.lookup y=some .local) (ha:PA X [a,b] ta)
  (hw:swappedStores [.Tuple [.Name x px,.Name y py] kt pt] (.Tuple [a,b] k2 pt2) X.env=pure (some [x,y]))
  (hs : swapsWithSole [.Tuple [.Name x px,.Name y py] kt pt] (.Tuple [a,b] k2 pt2) pos.line X.env = pure false := by rfl) :
  PS X (.Assign [.Tuple [.Name x px,.Name y py] kt pt] (.Tuple [a,b] k2 pt2) pos) (tPar i j ta):=by
 intro a6 s σ H D I h
 rw[exec_Assign_arm]
 refine wpAny_bind (wpAny_standAt ?_)
 rw[hs]
 refine wpAny_bind (wpAny_pure ?_)
 rw [if_neg (by decide)]
 refine wpAny_bind (Tuple_ (thn (ha _ a6 s σ H _ I h) fun us s1 ⟨vs,H1,I1,r1,q1⟩=> ?_))
 obtain⟨v,w,e1,q1⟩:=q1
 subst e1
 obtain⟨u1,u2,rfl,rv,rw'⟩: ∃u1 u2,us=[u1,u2]/\RelV v u1/\RelV w u2:=by
  cases r1 with
  |cons p q=>
   cases q with
   |cons p' q'=>
    cases q'
    exact⟨_,_,rfl,p,p'⟩
 refine wpAny_newObj_type ?_ (by show 2<=sizeLine;decide)
 have I2:Inv X a6 σ H1 {s1 with heap:=s1.heap.push {cls:= .type "tuple",data:= .seq [u1,u2].toArray}}:=I1.kept (t':=s1.toks) fun b o e=>Heap.get?_push_of_some _ e
 rw[hw]
 refine wpAny_bind (wpAny_pure ?_)
 show wpAny (model X.prog X.w) X.A (do rule "assign.swapped-stores";let items<- unpackItems (.ref s1.heap.objs.size) 2 none;assignInOrder [fun v=>bindName X.env y v,fun v=>bindName X.env x v] items.reverse;pure Flow.next) _ _ _
 refine wpAny_bind (wpAny_rule (wpAny_bind (unpackItems_tuple (items:= #[u1,u2]) (I.ok.hd hc) (IsTup.new s1.heap _) fun h' hx'=> ?_)))
 have I3:=I2.kept (h':=h') (t':=s1.toks) fun b o e=>hx' b o (Nat.ne_of_lt (Heap.lt_size e)) e
 show wpAny _ _ (assignInOrder [fun v=>bindName X.env y v,fun v=>bindName X.env x v] [u2,u1]>>=fun _=>pure Flow.next) _ _ _
 refine wpAny_bind (assignInOrder_cons (wpAny_bindName (zCS I3 hN hj (.inl hy) rw' (fun s2 I4=> ?_) (.inr hy))))
 refine assignInOrder_cons (wpAny_bindName (zCS I4 hN hi (.inl hx) rv (fun s3 I5=>assignInOrder_nil (wpAny_pure ?_)) (.inr hx)))
 rw[List.set_comm _ _ (Ne.symm hij)] at I5
 exact⟨_,H1,I5,q1⟩
end
section
variable{X:Cx}{pos:Pos}
def zWL(c:TT)(tb:TS):TS:=fun D σ H=> ∃W:Nat->St->Hp->Prop,(∃m,W m σ H)/\ ∀m σ H,W m σ H→
 c σ H fun b H1=>if b=true then∃N:St->Hp->Prop,(∀σ' H',N σ' H'-> ∃m',m'<m/\W m' σ' H')/\tb {D with nx:=N,ct:=N,bk:=D.nx} σ H1 else D.nx σ H1
theorem zS1{c:Expr}{body:List Stmt}{tc:TT}{tb:TS}(hp:PassesOwn (model X.prog X.w) X.A X.env X.xe)(hc:PT X c tc)(hb:PSs X body tb):PS X (.While c body [] pos) (zWL tc tb):=by
 intro a6 s σ H D I h
 obtain⟨W,⟨m0,w0⟩,turn⟩:=h
 refine wpAny_While (codeAny_whileLoop (fun n s'=> ∃σ' H',Inv X a6 σ' H' s'/\W n σ' H') ?_ m0 ⟨σ,H,I,w0⟩)
 rintro n s1 ⟨σ1,H1,I1,w1⟩
 refine wpAny_passesOwn hp (thn (hc a6 s1 σ1 H1 _ I1 (turn n σ1 H1 w1)) fun b s2 ⟨H2,I2,q2⟩=> ?_)
 cases b with
 |true=>
  obtain⟨N,hN,q2⟩:=q2
  rw[if_pos rfl]
  refine wpAny_passesOwn hp (thn (hb a6 s2 σ1 H2 _ I2 q2) fun f s3 q3=> ?_)
  cases f with
  |next=>
   obtain⟨σ3,H3,I3,n3⟩:=q3
   obtain⟨m',hm,w3⟩:=hN σ3 H3 n3
   exact⟨m',hm,σ3,H3,I3,w3⟩
  |cont=>
   obtain⟨σ3,H3,I3,n3⟩:=q3
   obtain⟨m',hm,w3⟩:=hN σ3 H3 n3
   exact⟨m',hm,σ3,H3,I3,w3⟩
  |brk=>exact q3
  |ret v=>exact q3
 |false=>
  rw[if_neg Bool.false_ne_true]
  exact wpAny_execs_nil ⟨σ1,H2,I2,q2⟩
end
structure It where
 go:Nat->Hp->Prop
 yld:Nat->Hp->V->Hp->Prop
 stop:Nat->Hp->Prop
def FpOk(X:Cx)(a6:List (Addr×Obj))(H:Hp)(b:Addr):Prop:=
 H b=none/\b≠X.env.locals/\b∉X.fs/\(b∈X.ex∨X.s₀.heap.objs.size<=b)/\(∀x c,X.env.cells.lookup x=some c->c≠b)/\ ∀p∈X.pn++a6,p.1≠b
theorem Inv.fpOk{X:Cx}{a6:List (Addr×Obj)}{σ:St}{H H':Hp}{s:Shared}{b:Addr}(I:Inv X a6 σ H s)(hb:s.heap.objs.size<=b)(hn:H' b=none):FpOk X a6 H' b:=by
 refine⟨hn,Nat.ne_of_gt (Nat.lt_of_lt_of_le I.lt hb),I.nofs hb,.inr (Nat.le_trans I.sz hb),fun x c e z=> ?_,fun p hp z=> ?_⟩
 ·obtain⟨v,q⟩:=I.cell x c e
  exact absurd (Nat.lt_of_lt_of_le q.lt (by rw[z];exact hb)) (Nat.lt_irrefl _)
 ·exact absurd (Nat.lt_of_lt_of_le (Heap.lt_size (I.pin p hp).1) (by rw[z];exact hb)) (Nat.lt_irrefl _)
structure Turn(P:Program)(w:World)(K:W.Frag)(tg:Expr)(J:It)(fp:List Addr)(it:Addr)(tn:Nat->Heap->Prop):Prop where
 mem:it∈fp
 obj: ∀i h,tn i h-> ∀b∈fp,∃o,h.get? b=some o/\ ∀v,o.data≠ .cell v
 keep: ∀i h h',tn i h->(∀b∈fp,∀o,h.get? b=some o->h'.get? b=some o)->tn i h'
 item: ∀(X:Cx),X.prog=P->X.w=w->X.K=K->X.calm=true-> ∀(i:Nat) (a6:List (Addr×Obj)) (s:Shared) (σ:St) (H:Hp) (E:Value->Shared->Prop),Inv X a6 σ H s->(∀b∈fp,FpOk X a6 H b)->tn i s.heap->J.go i H→
  wpAny (model P w) X.A (pyNext (.ref it)) (fun r s1=> ∃u,r=some u∧
   wpAny (model P w) X.A (letOwnedTupleGo tg (.ref it) u) (fun _ s2=> ∃x H',Inv X a6 σ H' s2/\RelV x u/\J.yld i H x H'/\tn (i+1) s2.heap/\ ∀b∈fp,H' b=none) E s1) E s
 done: ∀(X:Cx),X.prog=P->X.w=w->X.K=K->X.calm=true-> ∀(i:Nat) (a6:List (Addr×Obj)) (s:Shared) (σ:St) (H:Hp) (E:Value->Shared->Prop),Inv X a6 σ H s->(∀b∈fp,FpOk X a6 H b)->tn i s.heap->J.stop i H→
  wpAny (model P w) X.A (pyNext (.ref it)) (fun r s1=>r=none/\Inv X a6 σ H s1) E s
 self: ∀(A:Around) (i:Nat) (s:Shared) (Q:Value->Shared->Prop) (E:Value->Shared->Prop),tn i s.heap->Q (.ref it) s->wpAny (model P w) A (pyIter (.ref it)) Q E s
abbrev TI:=St->Hp->(It->Hp->Prop)->Prop
def PIE(X:Cx)(a6:List (Addr×Obj))(σ:St)(tg:Expr)(R:It->Hp->Prop)(itv:Value)(s2:Shared):Prop:=
 ∃(it:Addr) (fp:List Addr) (tn:Nat->Heap->Prop) (J:It) (H':Hp),itv= .ref it/\Inv X a6 σ H' s2/\Turn X.prog X.w X.K tg J fp it tn/\tn 0 s2.heap/\(∀b∈fp,FpOk X a6 H' b)/\R J H'
def PI(X:Cx)(tg iter:Expr)(wi:TI):Prop:=
 ∀(a6:List (Addr×Obj)) (s:Shared) (σ:St) (H:Hp) (R:It->Hp->Prop),Inv X a6 σ H s->wi σ H R→
  wpAny (model X.prog X.w) X.A (eval iter X.env) (fun v s1=>wpAny (model X.prog X.w) X.A (pyIter v) (PIE X a6 σ tg R) X.xe s1) X.xe s
theorem zVX{M:Model}{A:Around}{E:Value->Shared->Prop}{s:Shared}{tg:Expr}{it:Addr}{u:Value}{o:Obj}{n:String}{vs:Array Value}{Q:Unit->Shared->Prop}(ho:s.heap.get? it=some o)(hc:o.cls= .type n)(hd:o.data= .fields vs)
    (hn:["enumerate","zip","dict_itemiterator","dict_reverseitemiterator","odict_iterator","itertools.zip_longest","itertools.pairwise"].contains n=false) (hQ:Q () s):wpAny M A (letOwnedTupleGo tg (.ref it) u) Q E s:=by
  unfold letOwnedTupleGo
  cases tg<;>first
    |exact wpAny_pure hQ
    |(cases u<;>first
        |exact wpAny_pure hQ
        | (refine wpAny_bind (wpAny_load ho ?_)
           rw[hc,hd]
           show wpAny M A (if(["enumerate","zip","dict_itemiterator","dict_reverseitemiterator","odict_iterator","itertools.zip_longest","itertools.pairwise"].contains n && vs[0]? ==some (rawInt _))=true then _ else _) Q E s
           rw[if_neg (by intro h;rw[hn,Bool.false_and] at h;cases h)]
           exact wpAny_pure hQ))
noncomputable def Itl(K:W.Frag)(a:Addr):It:=
 ⟨fun i H=> ∃xs x,SqL K H a xs/\xs[i]? =some x,fun i H x H'=>H'=H/\ ∀xs,SqL K H a xs->xs[i]? =some x,fun i H=> ∃xs,SqL K H a xs/\xs.length<=i⟩
noncomputable def Itt(K:W.Frag)(a:Addr):It:=
 ⟨fun i H=> ∃xs x,SqT K H a xs/\xs[i]? =some x,fun i H x H'=>H'=H/\ ∀xs,SqT K H a xs->xs[i]? =some x,fun i H=> ∃xs,SqT K H a xs/\xs.length<=i⟩
noncomputable def Itr(lo:Int)(n:Nat):It:=⟨fun i _=>i<n,fun i H x H'=>H'=H/\x= .int (lo+i),fun i _=>n<=i⟩
theorem zOA{P:Program}{w:World}{K:W.Frag}{tg:Expr}(a it:Addr):Turn P w K tg (Itl K a) [it] it (fun i h=>h.IsListIter it a i) where
 mem:=by simp
 obj:=fun i h st b hb=>by
  have e:b=it:=by simpa using hb
  subst e
  obtain⟨o,e,c,d⟩:=st
  exact⟨o,e,fun v z=>by rw[d] at z;cases z⟩
 keep:=fun i h h' st k=>st.at fun o e=>k it (by simp) o e
 item:=by
  intro X hP hw hK hc i a6 s σ H E I hf st hg
  subst hP hw hK
  obtain⟨xs,x,hq,hx⟩:=hg
  obtain⟨its,rv,p,hz⟩:=I.list hq
  obtain⟨u,hu,ru⟩:=rv.get hx
  obtain⟨f0,f1,f2,f3,f4,f5⟩:=hf it (by simp)
  refine wpAny_pyNext_list_item st p.isList (x:=u) (by simpa using hu) fun h' st' sb=> ?_
  have I1:Inv X a6 σ H {s with heap:=h'}:=I.turned (t':=s.toks) (fun b o hb e=>(sb.2 b hb).trans e) f0 f1 f3 f4 f5
  obtain⟨o,e,c,d⟩:=id st'
  exact⟨u,rfl,zVX (s:={s with heap:=h'}) e c d (by decide) ⟨x,H,I1,ru,⟨rfl,fun ys hy=>by rw[I.list_inj hy hq];exact hx⟩,st',fun b hb=>(hf b hb).1⟩⟩
 done:=by
  intro X hP hw hK hc i a6 s σ H E I hf st hg
  subst hP hw hK
  obtain⟨xs,hq,hx⟩:=hg
  obtain⟨its,rv,p,hz⟩:=I.list hq
  obtain⟨f0,f1,f2,f3,f4,f5⟩:=hf it (by simp)
  have hl:=rv.length
  exact wpAny_pyNext_list_end (I.ok.hd hc) st p.isList (by simp;omega) fun h' eb=>⟨rfl,I.turned (t':=s.toks) (fun b o hb e=>eb b o hb e) f0 f1 f3 f4 f5⟩
 self:=fun _ _ _ _ _ st h=>wpAny_pyIter_listiter st h
theorem zN9{P:Program}{w:World}{K:W.Frag}{tg:Expr}(a it:Addr):Turn P w K tg (Itt K a) [it] it (fun i h=>h.IsTupleIter it a i) where
 mem:=by simp
 obj:=fun i h st b hb=>by
  have e:b=it:=by simpa using hb
  subst e
  obtain⟨o,e,c,d⟩:=st
  exact⟨o,e,fun v z=>by rw[d] at z;cases z⟩
 keep:=fun i h h' st k=>st.at fun o e=>k it (by simp) o e
 item:=by
  intro X hP hw hK hc i a6 s σ H E I hf st hg
  subst hP hw hK
  obtain⟨xs,x,hq,hx⟩:=hg
  obtain⟨its,rv,p,hz⟩:=I.tuple hq
  obtain⟨u,hu,ru⟩:=rv.get hx
  obtain⟨f0,f1,f2,f3,f4,f5⟩:=hf it (by simp)
  refine wpAny_pyNext_tuple_item st (show s.heap.IsTuple a its.toArray from p) (x:=u) (by simpa using hu) fun h' st' sb=> ?_
  have I1:Inv X a6 σ H {s with heap:=h'}:=I.turned (t':=s.toks) (fun b o hb e=>(sb.2 b hb).trans e) f0 f1 f3 f4 f5
  obtain⟨o,e,c,d⟩:=id st'
  exact⟨u,rfl,zVX (s:={s with heap:=h'}) e c d (by decide) ⟨x,H,I1,ru,⟨rfl,fun ys hy=>by rw[I.tuple_inj hy hq];exact hx⟩,st',fun b hb=>(hf b hb).1⟩⟩
 done:=by
  intro X hP hw hK hc i a6 s σ H E I hf st hg
  subst hP hw hK
  obtain⟨xs,hq,hx⟩:=hg
  obtain⟨its,rv,p,hz⟩:=I.tuple hq
  obtain⟨f0,f1,f2,f3,f4,f5⟩:=hf it (by simp)
  have hl:=rv.length
  exact wpAny_pyNext_tuple_end (I.ok.hd hc) st (show s.heap.IsTuple a its.toArray from p) (by simp;omega) fun h' eb=>⟨rfl,I.turned (t':=s.toks) (fun b o hb e=>eb b o hb e) f0 f1 f3 f4 f5⟩
 self:=fun _ _ _ _ _ st h=>wpAny_pyIter_tupleiter st h
theorem zNA{P:Program}{w:World}{K:PySem.W.Frag}{tg:Expr}(it:Addr)(lo:Int)(n:Nat):Turn P w K tg (Itr lo n) [it] it (fun i h=>IsRangeIter h it (lo+(i:Nat)*1) ((n:Int) - (i:Nat)) 1) where
 mem:=by simp
 obj:=fun i h st b hb=>by
  have e:b=it:=by simpa using hb
  subst e
  exact⟨_,st,fun v z=>by
   have z':Data.fields _=Data.cell v:=z
   cases z'⟩
 keep:=fun i h h' st k=>k it (by simp) _ st
 item:=by
  intro X hP hw hK hc i a6 s σ H E I hf st hg
  subst hP hw hK
  obtain⟨f0,f1,f2,f3,f4,f5⟩:=hf it (by simp)
  have W:=Walks.range (prog:=X.prog) (w:=X.w) (I.ok.hd hc) it lo 1 n
  refine W.item i s _ _ hg st fun v h' tk hv st' kk=> ?_
  obtain⟨t,rfl⟩:=hv
  have I1:Inv X a6 σ H {s with heap:=h',toks:=tk}:=I.turned (fun b o hb e=>kk b o (by simpa using hb) e) f0 f1 f3 f4 f5
  refine⟨_,rfl,zVX (s:={s with heap:=h',toks:=tk}) (n:= "range_iterator") st' rfl rfl (by decide) ⟨.int (lo+i),H,I1,⟨t,?_⟩,⟨rfl,rfl⟩,st',fun b hb=>(hf b hb).1⟩⟩
  rw[Int.mul_one]
 done:=by
  intro X hP hw hK hc i a6 s σ H E I hf st hg
  subst hP hw hK
  obtain⟨f0,f1,f2,f3,f4,f5⟩:=hf it (by simp)
  exact wpAny_pyNext_range_end (I.ok.hd hc) st (by have:n<=i:=hg;omega) fun h' eb=>⟨rfl,I.turned (t':=s.toks) (fun b o hb e=>eb b o hb e) f0 f1 f3 f4 f5⟩
 self:=fun _ _ _ _ _ st h=>wpAny_pyIter_rangeiter st h
section
variable{X:Cx}{tg:Expr}
def yA7(K:W.Frag)(tl:TE):TI:=fun σ H R=>tl σ H fun x H1=> ∃a,x= .ref a/\(∃xs,SqL K H1 a xs)/\R (Itl K a) H1
def iTup(K:W.Frag)(tl:TE):TI:=fun σ H R=>tl σ H fun x H1=> ∃a,x= .ref a/\(∃xs,SqT K H1 a xs)/\R (Itt K a) H1
theorem zV3{l:Expr}{tl:TE}(hl:PE X l tl):PI X tg l (yA7 X.K tl):=by
 intro a6 s σ H R I h
 refine thn (hl a6 s σ H _ I h) fun v s1 ⟨x,H1,I1,r1,q1⟩=> ?_
 obtain⟨a,e,⟨xs,hq⟩,q⟩:=q1
 subst e
 cases r1
 obtain⟨its,rv,p,hz⟩:=I1.list hq
 refine wpAny_pyIter_list p.isList ?_
 refine⟨s1.heap.objs.size,[s1.heap.objs.size],_,_,H1,rfl,I1.kept (t':=s1.toks) fun b o e=>Heap.get?_push_of_some _ e,zOA a _,⟨_,Heap.get?_push_size _ rfl,rfl,rfl⟩,fun b hb=> ?_,q⟩
 have e:b=s1.heap.objs.size:=by simpa using hb
 subst e
 exact I1.fpOk (Nat.le_refl _) (I1.hok.fresh (Nat.le_refl _))
theorem zXZ{l:Expr}{tl:TE}(hl:PE X l tl):PI X tg l (iTup X.K tl):=by
 intro a6 s σ H R I h
 refine thn (hl a6 s σ H _ I h) fun v s1 ⟨x,H1,I1,r1,q1⟩=> ?_
 obtain⟨a,e,⟨xs,hq⟩,q⟩:=q1
 subst e
 cases r1
 obtain⟨its,rv,p,hz⟩:=I1.tuple hq
 refine wpAny_pyIter_tuple (show s1.heap.IsTuple a its.toArray from p) ?_
 refine⟨s1.heap.objs.size,[s1.heap.objs.size],_,_,H1,rfl,I1.kept (t':=s1.toks) fun b o e=>Heap.get?_push_of_some _ e,zN9 a _,⟨_,Heap.get?_push_size _ rfl,rfl,rfl⟩,fun b hb=> ?_,q⟩
 have e:b=s1.heap.objs.size:=by simpa using hb
 subst e
 exact I1.fpOk (Nat.le_refl _) (I1.hok.fresh (Nat.le_refl _))
theorem zM9{a6:List (Addr×Obj)}{σ:St}{H:Hp}{s:Shared}{R:It->Hp->Prop}{E:Value->Shared->Prop}{lo hi:Int}{t u v:Tok}{tk:Nat}(I:Inv X a6 σ H s)(h1: -(2 ^ 62)<=lo)(h2:lo<2 ^ 62)(h3: -(2 ^ 62)<=hi)(h4:hi<2 ^ 62)
  (q:R (Itr lo (hi - lo).toNat) H):wpAny (model X.prog X.w) X.A (pyIter (.ref s.heap.objs.size)) (PIE X a6 σ tg R) E {s with heap:=s.heap.push {cls:= .type "range",data:= .fields #[.int lo t,.int hi u,.int 1 v]},toks:=tk}:=by
 refine wpAny_pyIter_range (IsRange.new ..) (small_one h1 h2 h3 h4) ?_
 have I1:Inv X a6 σ H {s with heap:=s.heap.push {cls:= .type "range",data:= .fields #[.int lo t,.int hi u,.int 1 v]},toks:=tk}:=I.kept fun b o e=>Heap.get?_push_of_some _ e
 refine⟨(s.heap.push {cls:= .type "range",data:= .fields #[.int lo t,.int hi u,.int 1 v]}).objs.size,[(s.heap.push {cls:= .type "range",data:= .fields #[.int lo t,.int hi u,.int 1 v]}).objs.size],_,_,H,rfl,
  I1.kept (t':=tk) fun b o e=>Heap.get?_push_of_some _ e,zNA _ lo (hi - lo).toNat,?_,fun b hb=> ?_,q⟩
 ·have e1 : lo + ((0 : Nat) : Int) * 1 = lo := by simp
  have e2:(((hi - lo).toNat:Nat):Int) - ((0:Nat):Int)=Builtin.Range.rangeSize lo hi 1:=by rw[rangeSize_one];split<;>omega
  show IsRangeIter _ _ (lo+((0:Nat):Int)*1) ((((hi - lo).toNat:Nat):Int) - ((0:Nat):Int)) 1
  rw[e1,e2]
  exact Heap.get?_push_size _ rfl
 ·have e : b = (s.heap.push { cls := .type "range",data := .fields #[.int lo t,.int hi u,.int 1 v] }).objs.size := by simpa using hb
  subst e
  exact I1.fpOk (Nat.le_refl _) (I1.hok.fresh (Nat.le_refl _))
def yDU(ta:TA):TI:=fun σ H R=>ta σ H fun vs H1=> ∃j:Int,vs=[.int j]/\ -(2 ^ 62)<=j/\j<2 ^ 62/\R (Itr 0 j.toNat) H1
def yDT(ta:TA):TI:=fun σ H R=>ta σ H fun vs H1=> ∃i j:Int,vs=[.int i,.int j]/\(-(2 ^ 62)<=i/\i<2 ^ 62/\ -(2 ^ 62)<=j/\j<2 ^ 62)/\R (Itr i (j - i).toNat) H1
theorem zPF{a:Expr}{ta:TA}{p pos:Pos}(hg:Gl X "range") (hm:X.mg "range"=none) (ha:PA X [a] ta) (hs:starEach [a] X.env=[(false,eval a X.env)]:=by rfl):PI X tg (.Call (.Name "range" p) [a] [] pos) (yDU ta):=by
 intro a6 s σ H R I h
 refine Call_ (zH6 I hg hm boot_range (PyProof.Rows.callWith_type1 (thn (ha pos a6 s σ H _ I h) fun us s1 ⟨vs,H1,I1,r1,q1⟩=> ?_) hs rfl))
 obtain⟨j,e,q1,q2,q⟩:=q1
 subst e
 cases r1 with
 |cons r rr=>
  cases rr
  obtain⟨t,rfl⟩:=r
  exact call_range_1 (zM9 I1 (by omega) (by omega) q1 q2 (by simpa using q))
theorem zPE{a b:Expr}{ta:TA}{p pos:Pos}(hg:Gl X "range") (hm:X.mg "range"=none) (ha:PA X [a,b] ta) (hs:starEach [a,b] X.env=[(false,eval a X.env),(false,eval b X.env)]:=by rfl) (hs2:starEach [b] X.env=[(false,eval b X.env)]:=by rfl):
  PI X tg (.Call (.Name "range" p) [a,b] [] pos) (yDT ta):=by
 intro a6 s σ H R I h
 refine Call_ (zH6 I hg hm boot_range (PyProof.Rows.callWith_type1 (thn (ha pos a6 s σ H _ I h) fun us s1 ⟨vs,H1,I1,r1,q1⟩=> ?_) (by rw[hs,hs2]) (by rw[hs2];rfl)))
 obtain⟨i,j,e,⟨q1,q2,q3,q4⟩,q⟩:=q1
 subst e
 cases r1 with
 |cons r rr=>
  cases rr with
  |cons r' rr=>
   cases rr
   obtain⟨t,rfl⟩:=r
   obtain⟨t',rfl⟩:=r'
   exact call_range_2 (zM9 I1 q1 q2 q3 q4 q)
def tFor(wi:TI)(g:TG)(tb:TS):TS:=fun D σ H=>wi σ H fun J H1=> ∃W:Nat->Nat->St->Hp->Prop,(∃m,W 0 m σ H1)/\ ∀i m σ H,W i m σ H→
 (J.stop i H/\D.nx σ H)∨(J.go i H/\ ∃N:St->Hp->Prop,(∀σ' H',N σ' H'-> ∃m',m'<m/\W (i+1) m' σ' H')/\ ∀x H',J.yld i H x H'->g x σ H' fun σ2 H2=>tb {D with nx:=N,ct:=N,bk:=D.nx} σ2 H2)
noncomputable def zJY(fp:List Addr)(h:Heap):List (Addr×Obj):=fp.filterMap fun b=>(h.get? b).map fun o=>(b,o)
theorem zE9{fp:List Addr}{h:Heap}{b:Addr}{o:Obj}(hb:b∈fp)(e:h.get? b=some o):(b,o)∈zJY fp h:=List.mem_filterMap.mpr ⟨b,hb,by rw[e];rfl⟩
theorem zPO{fp:List Addr}{h:Heap}{p:Addr×Obj}(hp:p∈zJY fp h):p.1∈fp/\h.get? p.1=some p.2:=by
 obtain⟨b,hb,e⟩:=List.mem_filterMap.mp hp
 cases q:h.get? b with
 |none=>rw[q] at e;cases e
 |some o=>
  rw[q] at e
  have e':(b,o)=p:=Option.some.inj e
  subst e'
  exact⟨hb,q⟩
theorem Inv.pinned{a6:List (Addr×Obj)}{σ:St}{H:Hp}{s:Shared}{fp:List Addr}(I:Inv X a6 σ H s)(hf: ∀b∈fp,FpOk X a6 H b)(ho: ∀b∈fp,∃o,s.heap.get? b=some o/\ ∀v,o.data≠ .cell v):Inv X (a6++zJY fp s.heap) σ H s:=
 I.pins_of fun p hp=>(List.mem_append.mp hp).elim (fun z=>I.pin p (List.mem_append_right _ z)) fun z=>by
  obtain⟨hb,e⟩:=zPO z
  obtain⟨f0,f1,f2,_⟩:=hf p.1 hb
  obtain⟨o,e',d⟩:=ho p.1 hb
  rw[e] at e';cases e'
  exact⟨e,f0,f1,f2,d⟩
theorem Inv.unpinned{a6 pl:List (Addr×Obj)}{σ:St}{H:Hp}{s:Shared}(I:Inv X (a6++pl) σ H s):Inv X a6 σ H s:=I.pins_of fun p hp=>I.pin p (List.mem_append_right _ (List.mem_append_left _ hp))
theorem zXW{iter:Expr}{body:List Stmt}{wi:TI}{g:TG}{tb:TS}{pos:Pos}(hp:PassesOwn (model X.prog X.w) X.A X.env X.xe)(hc:X.calm=true)(hi:PI X tg iter wi)(hg:PG X tg g)(hb:PSs X body tb)
  (hs : ∀ x,foldedSetIterable iter X.env x = pure x := by intro _;rfl) : PS X (.For tg iter body [] pos) (tFor wi g tb) := by
 intro a6 s σ H D I h
 refine wpAny_For (thn (hi a6 s σ H _ I h) fun v s1 h1=>thn h1 fun itv s2 h2=> ?_) hs
 obtain⟨it,fp,tn,J,H2,e,I2,T,st2,f2,W,⟨m0,w0⟩,turn⟩:=h2
 subst e
 have stat: ∀{H':Hp},(∀b∈fp,H' b=none)-> ∀b∈fp,FpOk X a6 H' b:=fun hn b hb=>⟨hn b hb,(f2 b hb).2⟩
 refine codeAny_forLoop_any (fun n s'=> ∃i σ' H',Inv X a6 σ' H' s'/\tn i s'.heap/\(∀b∈fp,H' b=none)/\W i n σ' H') ?_ m0 ⟨0,σ,H2,I2,st2,fun b hb=>(f2 b hb).1,w0⟩
 rintro n s3 ⟨i,σ3,H3,I3,st3,fr3,w3⟩
 rcases turn i n σ3 H3 w3 with⟨stop,qn⟩|⟨go,N,hN,step⟩
 ·refine wpAny_passesOwn hp (thn (T.done X rfl rfl rfl hc i a6 s3 σ3 H3 X.xe I3 (stat fr3) st3 stop) fun r s4 ⟨hr,I4⟩ => ?_)
  subst hr
  exact wpAny_execs_nil ⟨σ3,H3,I4,qn⟩
 ·refine wpAny_passesOwn hp (thn (T.item X rfl rfl rfl hc i a6 s3 σ3 H3 X.xe I3 (stat fr3) st3 go) fun r s4 ⟨u,hr,h4⟩ => ?_)
  subst hr
  refine wpAny_passesOwn hp (thn h4 fun _ s5 ⟨x,H5,I5,r5,y5,st5,fr5⟩=> ?_)
  have I5':=I5.pinned (stat fr5) (T.obj _ _ st5)
  refine wpAny_passesOwn hp (thn (hg _ s5 σ3 H5 x u _ I5' r5 (step x H5 y5)) fun _ s6 ⟨σ6,H6,I6,q6⟩=> ?_)
  refine wpAny_passesOwn hp (thn (hb _ s6 σ6 H6 _ I6 q6) fun f s7 q7=> ?_)
  have zDU: ∀{σ7:St} {H7:Hp},Inv X (a6++zJY fp s5.heap) σ7 H7 s7->N σ7 H7-> ∃m,m<n/\ ∃i σ' H',Inv X a6 σ' H' s7/\tn i s7.heap/\(∀b∈fp,H' b=none)/\W i m σ' H':=fun{σ7 H7} I7 n7=>by
   obtain⟨m',hm,w7⟩:=hN σ7 H7 n7
   refine⟨m',hm,i+1,σ7,H7,I7.unpinned,T.keep _ _ _ st5 fun b hb o e=>(I7.pin (b,o) (List.mem_append_right _ (List.mem_append_right _ (zE9 hb e)))).1,fun b hb=> ?_,w7⟩
   obtain⟨o,e,d⟩:=T.obj _ _ st5 b hb
   exact(I7.pin (b,o) (List.mem_append_right _ (List.mem_append_right _ (zE9 hb e)))).2.1
  cases f with
  |next=>obtain⟨σ7,H7,I7,n7⟩:=q7;exact zDU I7 n7
  |cont=>obtain⟨σ7,H7,I7,n7⟩:=q7;exact zDU I7 n7
  |brk=>obtain⟨σ7,H7,I7,q7⟩:=q7;exact⟨σ7,H7,I7.unpinned,q7⟩
  |ret v=>obtain⟨x7,σ7,H7,I7,r7,q7⟩:=q7;exact⟨x7,σ7,H7,I7.unpinned,r7,q7⟩
end
abbrev R2:=V->V->Hp->VK->Prop
def OpR(X:Cx)(f:Value->Value->Sem Value)(r:R2):Prop:=
 ∀(a6:List (Addr×Obj)) (s:Shared) (σ:St) (H:Hp) (x y:V) (v u:Value) (Q:VK),Inv X a6 σ H s->RelV x v->RelV y u->r x y H Q→
  wpAny (model X.prog X.w) X.A (f v u) (EP X a6 σ Q) X.xe s
def UnR(X:Cx)(f:Value->Sem Value)(r:V->Hp->VK->Prop):Prop:=
 ∀(a6:List (Addr×Obj)) (s:Shared) (σ:St) (H:Hp) (x:V) (v:Value) (Q:VK),Inv X a6 σ H s->RelV x v->r x H Q→
  wpAny (model X.prog X.w) X.A (f v) (EP X a6 σ Q) X.xe s
def zC7(X:Cx)(f:Value)(r:List V->Hp->VK->Prop):Prop:=
 ∀(a6:List (Addr×Obj)) (s:Shared) (σ:St) (H:Hp) (xs:List V) (us:List Value) (Q:VK),Inv X a6 σ H s->Vals xs us->r xs H Q→
  wpAny (model X.prog X.w) X.A (call f us) (EP X a6 σ Q) X.xe s
def tOp(r:R2)(ta tb:TE):TE:=fun σ H Q=>ta σ H fun x H1=>tb σ H1 fun y H2=>r x y H2 Q
def tUn(r:V->Hp->VK->Prop)(ta:TE):TE:=fun σ H Q=>ta σ H fun x H1=>r x H1 Q
def rI(C:Int->Int->Prop)(g:Int->Int->V):R2:=fun x y H Q=> ∃i j,x= .int i/\y= .int j/\C i j/\Q (g i j) H
def rI0(g:Int->Int->V):R2:=fun x y H Q=> ∃i j,x= .int i/\y= .int j/\Q (g i j) H
def rU(g:Int->V):V->Hp->VK->Prop:=fun x H Q=> ∃i,x= .int i/\Q (g i) H
section
variable{X:Cx}{a b c:Expr}{ta tb tc:TE}{pos:Pos}
theorem binT(ha:PE X a ta)(hb:PE X b tb){a6:List (Addr×Obj)}{s:Shared}{σ:St}{H:Hp}{R:V->V->Hp->Prop}(I:Inv X a6 σ H s)
  (h:ta σ H fun x H1=>tb σ H1 fun y H2=>R x y H2) {Q:Value->Shared->Prop} {f:Value->Value->Sem Value}
  (hf: ∀v u s2 x y H2,Inv X a6 σ H2 s2->RelV x v->RelV y u->R x y H2->wpAny (model X.prog X.w) X.A (f v u) Q X.xe s2):
  wpAny (model X.prog X.w) X.A (eval a X.env) (fun v s₁=>wpAny (model X.prog X.w) X.A (eval b X.env) (fun u s₂=>wpAny (model X.prog X.w) X.A (f v u) Q X.xe s₂) X.xe s₁) X.xe s:=by
 refine thn (ha a6 s σ H _ I h) fun v s1 ⟨x,H1,I1,r1,q1⟩=> ?_
 refine thn (hb a6 s1 σ H1 _ I1 q1) fun u s2 ⟨y,H2,I2,r2,q2⟩=> ?_
 exact hf v u s2 x y H2 I2 r1 r2 q2
theorem zY4{op:Operator}{r:R2}(ho:OpR X (binaryOp op) r)(ha:PE X a ta)(hb:PE X b tb):PE X (.BinOp a op b pos) (tOp r ta tb):=by
 intro a6 s σ H Q I h
 exact wpAny_BinOp (binT ha hb I h fun v u s2 x y H2 I2 rx ry q=>ho a6 s2 σ H2 x y v u Q I2 rx ry q)
theorem yCF{op:UnaryOp}{r:V->Hp->VK->Prop}(ho:UnR X (unaryOp op) r)(ha:PE X a ta):PE X (.UnaryOp op a pos) (tUn r ta):=by
 intro a6 s σ H Q I h
 exact UnaryOp_ (thn (ha a6 s σ H _ I h) fun v s1 ⟨x,H1,I1,r1,q1⟩=>ho a6 s1 σ H1 x v Q I1 r1 q1)
theorem opI{f:Value->Value->Sem Value}{C:Int->Int->Prop}{g:Int->Int->Int}
  (rule: ∀(i j:Int) (t u:Tok) (s:Shared) (Q:Value->Shared->Prop) (E:Value->Shared->Prop),C i j->Q (.int (g i j) s.toks) {s with toks:=s.toks+1}->wpAny (model X.prog X.w) X.A (f (.int i t) (.int j u)) Q E s):
  OpR X f (rI C fun i j=> .int (g i j)):=by
 intro a6 s σ H x y v u Q I rx ry h
 obtain⟨i,j,rfl,rfl,hc,q⟩:=h
 obtain⟨t,rfl⟩:=rx
 obtain⟨t',rfl⟩:=ry
 exact rule i j t t' s _ _ hc ⟨.int (g i j),H,I.tok _,⟨_,rfl⟩,q⟩
theorem opI0{f:Value->Value->Sem Value}{g:Int->Int->Int}
  (rule: ∀(i j:Int) (t u:Tok) (s:Shared) (Q:Value->Shared->Prop) (E:Value->Shared->Prop),Q (.int (g i j) s.toks) {s with toks:=s.toks+1}->wpAny (model X.prog X.w) X.A (f (.int i t) (.int j u)) Q E s):
  OpR X f (rI0 fun i j=> .int (g i j)):=by
 intro a6 s σ H x y v u Q I rx ry h
 obtain⟨i,j,rfl,rfl,q⟩:=h
 obtain⟨t,rfl⟩:=rx
 obtain⟨t',rfl⟩:=ry
 exact rule i j t t' s _ _ ⟨.int (g i j),H,I.tok _,⟨_,rfl⟩,q⟩
theorem opB0{f:Value->Value->Sem Value}{g:Int->Int->Bool}
  (rule: ∀(i j:Int) (t u:Tok) (s:Shared) (Q:Value->Shared->Prop) (E:Value->Shared->Prop),Q (.bool (g i j)) s->wpAny (model X.prog X.w) X.A (f (.int i t) (.int j u)) Q E s):
  OpR X f (rI0 fun i j=> .bl (g i j)):=by
 intro a6 s σ H x y v u Q I rx ry h
 obtain⟨i,j,rfl,rfl,q⟩:=h
 obtain⟨t,rfl⟩:=rx
 obtain⟨t',rfl⟩:=ry
 exact rule i j t t' s _ _ ⟨.bl (g i j),H,I,rfl,q⟩
def CDiv(i j:Int):Prop:=0<j/\j<1073741824
def CPow(i j:Int):Prop:=0<=j/\j<=1000000/\i.natAbs<2 ^ 64
def CMul(i j:Int):Prop:=(-(2 ^ 64)<i/\i<2 ^ 64)∨(-(2 ^ 64)<j/\j<2 ^ 64)
theorem CMul.ok{i j:Int}(h:CMul i j):IntMulOk i j:=by
 rcases h with⟨h1,h2⟩|⟨h1,h2⟩
 ·exact .of_left (intBits_le_64 h1 h2)
 ·exact .of_right (intBits_le_64 h1 h2)
theorem zYG:OpR X (binaryOp .Add) (rI0 fun i j=> .int (i+j)):=opI0 fun _ _ _ _ _ _ _ q=>add_int q
theorem zGE:OpR X (binaryOp .Sub) (rI0 fun i j=> .int (i - j)):=opI0 fun _ _ _ _ _ _ _ q=>sub_int q
theorem zYC:OpR X (binaryOp .Mult) (rI CMul fun i j=> .int (i*j)):=opI fun _ _ _ _ _ _ _ hc q=>mul_int q hc.ok
theorem zL4:OpR X (binaryOp .FloorDiv) (rI CDiv fun i j=> .int (i/j)):=opI fun i j _ _ _ _ _ hc q=>by
 have h1:(0:Int)<j:=hc.1
 have h2:j<1073741824:=hc.2
 exact floordiv_int (by omega) (by rw[Int.fdiv_eq_ediv_of_nonneg i (by omega)];exact q) (.inl (PyProof.noPylong_small (by omega)))
theorem zE1:OpR X (binaryOp .Mod) (rI (fun _ j=>0<j) fun i j=> .int (i % j)):=opI fun i j _ _ _ _ _ hc q=>by
 have h1:(0:Int)<j:=hc
 exact mod_int' (by omega) (by rw[Int.fmod_eq_emod_of_nonneg i (by omega)];exact q)
theorem zYA:OpR X (binaryOp .Pow) (rI CPow fun i j=> .int (i ^ j.toNat)):=opI fun _ _ _ _ _ _ _ hc q=>pow_int_small hc.1 hc.2.1 hc.2.2 q
theorem unI{f:Value->Sem Value}{g:Int->Int}
  (rule: ∀(i:Int) (t:Tok) (s:Shared) (Q:Value->Shared->Prop) (E:Value->Shared->Prop),Q (.int (g i) s.toks) {s with toks:=s.toks+1}->wpAny (model X.prog X.w) X.A (f (.int i t)) Q E s):
  UnR X f (rU fun i=> .int (g i)):=by
 intro a6 s σ H x v Q I rx h
 obtain⟨i,rfl,q⟩:=h
 obtain⟨t,rfl⟩:=rx
 exact rule i t s _ _ ⟨.int (g i),H,I.tok _,⟨_,rfl⟩,q⟩
theorem zWE:UnR X (unaryOp .USub) (rU fun i=> .int (-i)):=unI fun _ _ _ _ _ q=>neg_int q
end
section
variable{X:Cx}{a b c:Expr}{ta tb tc:TE}{pos:Pos}
theorem zMX{a6:List (Addr×Obj)}{σ:St}{H:Hp}{s:Shared}{Q:VK}{k k':Bool}(I:Inv X a6 σ H s)(q:Q (.bl k) H)(e:k=k'):EP X a6 σ Q (.bool k') s:=by
 subst e
 exact⟨.bl k,H,I,rfl,q⟩
theorem zPL:OpR X (compareOp .Lt) (rI0 fun i j=> .bl (decide (i<j))):=opB0 fun _ _ _ _ _ _ _ q=>lt_int q
theorem zPM:OpR X (compareOp .LtE) (rI0 fun i j=> .bl (decide (i<=j))):=opB0 fun _ _ _ _ _ _ _ q=>le_int q
theorem zYD:OpR X (compareOp .Gt) (rI0 fun i j=> .bl (decide (j<i))):=opB0 fun _ _ _ _ _ _ _ q=>gt_int q
theorem zYE:OpR X (compareOp .GtE) (rI0 fun i j=> .bl (decide (j<=i))):=opB0 fun _ _ _ _ _ _ _ q=>ge_int q
theorem zPN:OpR X (compareOp .Is) (fun x y H Q=>y= .non/\Q (.bl (decide (x= .non))) H):=by
 intro a6 s σ H x y v u Q I rx ry h
 obtain⟨rfl,q⟩:=h
 cases ry
 refine is_none_gen (zMX I q ?_)
 cases x<;>first
  |(cases rx;rfl)
  |(obtain⟨t,rfl⟩:=rx;rfl)
theorem zL3:OpR X (compareOp .IsNot) (fun x y H Q=>y= .non/\Q (.bl (!decide (x= .non))) H):=by
 intro a6 s σ H x y v u Q I rx ry h
 obtain⟨rfl,q⟩:=h
 cases ry
 refine isnot_none_gen (zMX I q ?_)
 cases x<;>first
  |(cases rx;rfl)
  |(obtain⟨t,rfl⟩:=rx;rfl)
theorem OpR.or{f:Value->Value->Sem Value}{r r':R2}(h:OpR X f r)(h':OpR X f r'):OpR X f (fun x y H Q=>r x y H Q∨r' x y H Q):=by
 intro a6 s σ H x y v u Q I rx ry q
 rcases q with q|q
 ·exact h a6 s σ H x y v u Q I rx ry q
 ·exact h' a6 s σ H x y v u Q I rx ry q
theorem zBC(b:Expr){op:CmpOp}(h:op≠ .In:=by decide)(h2:op≠ .NotIn:=by decide):behindInMarks op b=false:=by
 have e1:(op==CmpOp.In)=false:=by cases op<;>first|rfl|exact absurd rfl h
 have e2:(op==CmpOp.NotIn)=false:=by cases op<;>first|rfl|exact absurd rfl h2
 cases b<;>simp[behindInMarks,e1,e2]
theorem zV7{op:CmpOp}{r:R2}(ho:OpR X (compareOp op) r)(ha:PE X a ta)(hb:PE X b tb)(hm:behindInMarks op b=false):PE X (.Compare a [op] [b] pos) (tOp r ta tb):=by
 intro a6 s σ H Q I h
 exact wpAny_Compare1 (binT ha hb I h fun v u s2 x y H2 I2 rx ry q=>ho a6 s2 σ H2 x y v u Q I2 rx ry q) hm
def zWM(t:TE):TT:=fun σ H Q=>t σ H fun x H'=> ∃k,x= .bl k/\Q k H'
theorem zUX{op:CmpOp}{r:R2}(ho:OpR X (compareOp op) r)(ha:PE X a ta)(hb:PE X b tb)(hm:behindInMarks op b=false):PT X (.Compare a [op] [b] pos) (zWM (tOp r ta tb)):=by
 intro a6 s σ H Q I h
 refine wpAny_isTrue_Compare1 (thn (ha a6 s σ H _ I h) fun v s1 ⟨x,H1,I1,r1,q1⟩=>thn (hb a6 s1 σ H1 _ I1 q1) fun u s2 ⟨y,H2,I2,r2,q2⟩=>
  thn (ho a6 s2 σ H2 x y v u _ I2 r1 r2 q2) fun c s3 ⟨z,H3,I3,r3,k,e,q3⟩=> ?_) hm
 subst e
 cases r3
 exact wpAny_truthy_bool ⟨H3,I3,q3⟩
def zOD(r r':R2)(ta tb tc:TE):TE:=fun σ H Q=>ta σ H fun x H1=>tb σ H1 fun y H2=>r x y H2 fun z H3=> ∃k,z= .bl k∧
 (if k=true then tc σ H3 fun w' H4=>r' y w' H4 Q else Q (.bl false) H3)
theorem zS9{op op':CmpOp}{r r':R2}(ho:OpR X (compareOp op) r)(ho':OpR X (compareOp op') r')(ha:PE X a ta)(hb:PE X b tb)(hc:PE X c tc)
  (hm:lastMarks [op,op'] [b,c]=false:=by with_unfolding_all rfl):PE X (.Compare a [op,op'] [b,c] pos) (zOD r r' ta tb tc):=by
 intro a6 s σ H Q I h
 refine Compare_chain (thn (ha a6 s σ H _ I h) fun v s1 ⟨x,H1,I1,r1,q1⟩=>chain_link (thn (hb a6 s1 σ H1 _ I1 q1) fun u s2 ⟨y,H2,I2,r2,q2⟩=>
  thn (ho a6 s2 σ H2 x y v u _ I2 r1 r2 q2) fun d s3 ⟨z,H3,I3,r3,k,e,q3⟩=> ?_)) hm
 subst e
 cases r3
 refine wpAny_truthy_bool ?_
 cases k with
 |false=>exact ite_ff ⟨.bl false,H3,I3,rfl,q3⟩
 |true=>exact ite_tt (chain_last (thn (hc a6 s3 σ H3 _ I3 q3) fun w' s4 ⟨z',H4,I4,r4,q4⟩=>ho' a6 s4 σ H4 y z' u w' Q I4 r2 r4 q4))
theorem zS0{op op':CmpOp}{r r':R2}(ho:OpR X (compareOp op) r)(ho':OpR X (compareOp op') r')(ha:PE X a ta)(hb:PE X b tb)(hc:PE X c tc)
  (hm:lastMarks [op,op'] [b,c]=false:=by with_unfolding_all rfl):PT X (.Compare a [op,op'] [b,c] pos) (zWM (zOD r r' ta tb tc)):=by
 intro a6 s σ H Q I h
 refine isTrue_chain (thn (ha a6 s σ H _ I h) fun v s1 ⟨x,H1,I1,r1,q1⟩=>test_link (thn (hb a6 s1 σ H1 _ I1 q1) fun u s2 ⟨y,H2,I2,r2,q2⟩=>
  thn (ho a6 s2 σ H2 x y v u _ I2 r1 r2 q2) fun d s3 ⟨z,H3,I3,r3,k,e,q3⟩=> ?_)) hm
 subst e
 cases r3
 refine wpAny_truthy_bool ?_
 cases k with
 |false=>
  obtain⟨k',e',q'⟩:=q3
  cases e'
  exact ite_ff ⟨H3,I3,q'⟩
 |true=>
  refine ite_tt (test_last (thn (hc a6 s3 σ H3 _ I3 q3) fun w' s4 ⟨z',H4,I4,r4,q4⟩=>thn (ho' a6 s4 σ H4 y z' u w' _ I4 r2 r4 q4) fun d' s5 ⟨z2,H5,I5,r5,k2,e2,q5⟩=> ?_))
  subst e2
  cases r5
  exact wpAny_truthy_bool ⟨H5,I5,q5⟩
theorem zI2:(sizeLine:Nat)<2 ^ 63:=by rw[sizeLine_eq];decide
theorem zNJ:OpR X (binaryOp .Add) (fun x y H Q=> ∃i j,x= .str i/\y= .str j/\i.length+j.length<=sizeLine/\Q (.str (i++j)) H):=by
 intro a6 s σ H x y v u Q I rx ry h
 obtain⟨i,j,rfl,rfl,hz,q⟩:=h
 obtain⟨t,rfl⟩:=rx
 obtain⟨t',rfl⟩:=ry
 exact add_str (fun t' tk=>⟨.str (i++j),H,I.tok _,⟨_,rfl⟩,q⟩) hz
theorem zHO{x:V}{us:List Value}(r:Vals [x] us): ∃u,us=[u]/\RelV x u:=by
 cases r with
 |cons r1 r2=>cases r2;exact⟨_,rfl,r1⟩
theorem zRF{x y:V}{us:List Value}(r:Vals [x,y] us): ∃u w',us=[u,w']/\RelV x u/\RelV y w':=by
 cases r with
 |cons r1 r2=>
  cases r2 with
  |cons r3 r4=>cases r4;exact⟨_,_,rfl,r1,r3⟩
theorem zKM(hc:X.calm=true):zC7 X (.builtin "max") (fun xs H Q=> ∃i j,xs=[.int i,.int j]/\Q (.int (if j>i then j else i)) H):=by
 intro a6 s σ H xs us Q I r h
 obtain⟨i,j,rfl,q⟩:=h
 obtain⟨u,w',rfl,⟨t,rfl⟩,⟨t',rfl⟩⟩:=zRF r
 refine max_two_ints (I.ok.hd hc) fun h' tk k=>⟨_,H,I.kept k,?_,q⟩
 by_cases hj:j>i
 ·rw[if_pos hj,if_pos hj];exact⟨_,rfl⟩
 ·rw[if_neg hj,if_neg hj];exact⟨_,rfl⟩
theorem zHJ(hc:X.calm=true):zC7 X (.builtin "min") (fun xs H Q=> ∃i j,xs=[.int i,.int j]/\Q (.int (if j<i then j else i)) H):=by
 intro a6 s σ H xs us Q I r h
 obtain⟨i,j,rfl,q⟩:=h
 obtain⟨u,w',rfl,⟨t,rfl⟩,⟨t',rfl⟩⟩:=zRF r
 refine min_two_ints (I.ok.hd hc) fun h' tk k=>⟨_,H,I.kept k,?_,q⟩
 by_cases hj:j<i
 ·rw[if_pos hj,if_pos hj];exact⟨_,rfl⟩
 ·rw[if_neg hj,if_neg hj];exact⟨_,rfl⟩
end
structure ObjM(h:Heap)(x dx C:Addr)(mA:Str->Option Value):Prop where
 obj:h.get? x=some (W.instObj C dx)
 ns:h.Ns1 dx mA
 ne:dx≠x
theorem zPY{h:Heap}{dx:Addr}{mA:Str->Option Value}(n:h.Ns1 dx mA): ∃od,h.get? dx=some od/\ ∀name,W.lookIn name od=some (mA name):=by
 obtain⟨o,es,ep,ho,hd,hk,_,hm⟩:=n
 refine⟨o,ho,fun name=> ?_⟩
 have e:=hm name
 unfold nsFind findBy at e
 rw[<- Array.find?_toList] at e
 unfold W.lookIn
 rw[hd]
 dsimp only
 split
 ·rename_i y q
  rw[q] at e
  exact congrArg some e
 ·rename_i q
  rw[q] at e
  have a:es.toList.any (·.refKey)=false:=by
   rw[List.any_eq_false]
   intro y hy
   obtain⟨z,t,o8⟩:=hk y (Array.mem_toList_iff.mp hy)
   simp[DictEntry.refKey,o8]
  have a': ¬es.toList.any (·.refKey)=true:=by rw[a];exact Bool.false_ne_true
  rw[if_neg a']
  exact congrArg some e
theorem ObjM.look{h:Heap}{x dx C:Addr}{mA:Str->Option Value}(I:ObjM h x dx C mA): ∃od,W.InstAt h x (W.instObj C dx) C (some od)/\ ∀name,W.lookIn name od=some (mA name):=
 let ⟨od,ho,hl⟩:=zPY I.ns
 ⟨od,⟨I.obj,rfl,rfl,ho⟩,hl⟩
theorem RelO.some_of{v:V}{o:Option Value}(r:RelO (some v) o): ∃u,o=some u/\RelV v u:=by
 cases o with
 |none=>exact(show False from r).elim
 |some u=>exact⟨u,rfl,r⟩
section
variable{P:Program}{w:World}{H H':Hp}{h h':Heap}{a C dx:Addr}{fs fs':List (Str×V)}
theorem zVU(hok:HOk P w H h)(e:H a=some (.ins C dx fs)): ∃mA,ObjM h a dx C mA/\(∀f,RelO (fs.lookup f) (mA f))/\PySem.Within mA (fs.map (·.1))/\fs.length<=1000/\H dx=some (.own a):=by
 obtain⟨d,z,ne,ob,mA,n,r,q⟩:=(show zCI P w H h a (.ins C dx fs) from hok a _ e)
 exact⟨mA,⟨ob,n,ne⟩,r,q,z,d⟩
end
structure Cls(K:W.Frag)(C:Addr):Prop where
 pg:W.plainGet K C Str.empty=true
 hd:W.hasDictIn K C=true
 po:W.plainOver K C=true
 sa:W.findIn K (.ref C) "__setattr__"=some (some (.builtin "object.__setattr__"))
theorem Cls.get{K:W.Frag}{C:Addr}(c:Cls K C)(f:Str):W.plainGet K C f=true:=c.pg
section
variable{X:Cx}{a6:List (Addr×Obj)}{σ:St}{H:Hp}{s:Shared}{A:Around}{E:Value->Shared->Prop}{Q:Value->Shared->Prop}{c:Value}{b:Bool}
inductive TyOf(K:W.Frag)(H:Hp):V->Value->Prop where
 |non:TyOf K H .non (.type "NoneType")
 |bl (x:Bool):TyOf K H (.bl x) (.type "bool")
 |int (i:Int):TyOf K H (.int i) (.type "int")
 |str (x:Str):TyOf K H (.str x) (.type "str")
 |flt (x:UInt64):TyOf K H (.flt x) (.type "float")
 |lst {a:Addr} {xs:List V} (e:H a=some (.lst xs)):TyOf K H (.ref a) (.type "list")
 |frz {a:Addr} {o:Obj} {xs:List V} (e:H a=some (.frz o (.lst xs))):TyOf K H (.ref a) (.type "list")
 |tup {a:Addr} {xs:List V} (e:H a=some (.tup xs)):TyOf K H (.ref a) (.type "tuple")
 |dK {a:Addr} {kvs:List (Key×V)} (e:H a=some (.dK kvs)):TyOf K H (.ref a) (.type "dict")
 |dT {a:Addr} {kvs:List (List Key×V)} (e:H a=some (.dT kvs)):TyOf K H (.ref a) (.type "dict")
 |ins {a C dx:Addr} {fs:List (Str×V)} (e:H a=some (.ins C dx fs)) (cl:Cls K C) (ha:W.findIn K (.ref C) "__class__"=some (some (.builtin "object.__class__")))
   (hn:W.specialIn K (.builtin "object.__class__") "__get__"=some (some (.builtin "getset_descriptor.__get__"))) (htk:W.takesIn K (.builtin "object.__class__")=some true)
   (hm:W.mroIn K C (.type "object")=some true):TyOf K H (.ref a) (.ref C)
theorem zF8{x:V}{u t:Value}(I:Inv X a6 σ H s)(rx:RelV x u)(ty:TyOf X.K H x t)(e:W.kitOne X.K t c=some b)(h: ∀tk,Q (.bool b) {s with toks:=tk}):
  wpAny (model X.prog X.w) A (call (.builtin "isinstance") [u,c]) Q E s:=by
 cases ty with
 |non=>cases (show u=Value.none from rx);exact W.kia_one W.kitx_none I.kIn True.intro e (fun z=>nomatch z) h
 |bl y=>cases (show u=Value.bool y from rx);exact W.kia_one W.kitx_bool I.kIn True.intro e (fun z=>nomatch z) h
 |int i=>obtain⟨t,q⟩:=(show∃t,u=Value.int i t from rx);cases q;exact W.kia_one W.kitx_int I.kIn True.intro e (fun z=>nomatch z) h
 |str y=>obtain⟨t,q⟩:=(show∃t,u=Value.str y t from rx);cases q;exact W.kia_one W.kitx_str I.kIn True.intro e (fun z=>nomatch z) h
 |flt y=>obtain⟨t,q⟩:=(show∃t,u=Value.float y t from rx);cases q;exact W.kia_one W.kitx_float I.kIn True.intro e (fun z=>nomatch z) h
 | @lst a xs ea=>
  cases (show u=Value.ref a from rx)
  obtain⟨_,_,n,_,h1⟩:=(show zCI X.prog X.w H s.heap a (.lst xs) from I.hok a _ ea)
  exact W.kia_one W.kitx_list I.kIn ⟨_,h1,rfl⟩ e (fun z=>nomatch z) h
 | @frz a ob xs ea=>
  cases (show u=Value.ref a from rx)
  obtain⟨_,_,_,n,_,h1⟩:=(show zCI X.prog X.w H s.heap a (.frz ob (.lst xs)) from I.hok a _ ea)
  exact W.kia_one W.kitx_list I.kIn ⟨_,h1,rfl⟩ e (fun z=>nomatch z) h
 | @tup a xs ea=>
  cases (show u=Value.ref a from rx)
  obtain⟨_,_,_,p⟩:=(show zCI X.prog X.w H s.heap a (.tup xs) from I.hok a _ ea)
  obtain⟨o,h1,h2,_⟩:=p
  exact W.kia_one W.kitx_tuple I.kIn ⟨o,h1,h2⟩ e (fun z=>nomatch z) h
 | @dK a kvs ea=>
  cases (show u=Value.ref a from rx)
  obtain⟨_,_,vs,_,p⟩:=(show zCI X.prog X.w H s.heap a (.dK kvs) from I.hok a _ ea)
  obtain⟨o,es,ep,h1,h2,_⟩:=p
  exact W.kia_one W.kitx_dict I.kIn ⟨o,h1,h2.1⟩ e (fun z=>nomatch z) h
 | @dT a kvs ea=>
  cases (show u=Value.ref a from rx)
  obtain⟨_,_,xs,_,o,es,ep,h1,h2,_⟩:=(show zCI X.prog X.w H s.heap a (.dT kvs) from I.hok a _ ea)
  exact W.kia_one W.kitx_dict I.kIn ⟨o,h1,h2.1⟩ e (fun z=>nomatch z) h
 | @ins a C dx fs ea cl ha hn htk hm=>
  cases (show u=Value.ref a from rx)
  obtain⟨mA,O,_⟩:=zVU I.hok ea
  obtain⟨od,J,_⟩:=O.look
  exact W.kia_one (W.kitx_own (cl.get _) cl.hd ha hn htk hm) I.kIn J e (fun z=>nomatch z) h
end
structure Room(k:Nat)(A:Around):Prop where
 hd:A.handled=none
 dp:A.depth+3*k+5<recursionLimit
 un:A.units+16*k+200<cLine
theorem Room.mono{j k:Nat}{A:Around}(r:Room k A)(h:j<=k):Room j A:=⟨r.hd,by have:=r.dp;omega,by have:=r.un;omega⟩
theorem Room.deeper{k:Nat}{A:Around}(r:Room (k+1) A)(env:Env):Room k (A.deeper env):=
 ⟨r.hd,by have:=r.dp;show A.depth+1+3*k+5<_;omega,by have:=r.un;show A.units+3+16*k+200<_;omega⟩
theorem Room.depth{k:Nat}{A:Around}(r:Room k A):A.depth<recursionLimit:=by have:=r.dp;omega
theorem Room.units{k:Nat}{A:Around}(r:Room k A):A.units+64<cLine:=by have:=r.un;omega
def tNil:TA:=fun _ H Q=>Q [] H
def zNB(ta:TE)(tr:TA):TA:=fun σ H Q=>ta σ H fun x H1=>tr σ H1 fun xs H2=>Q (x::xs) H2
section
variable{X:Cx}{e:Expr}{es:List Expr}{te:TE}{t:TA}{pos:Pos}
theorem zC1:PA X [] tNil:=fun _ _ _ _ H Q I h=>Calls.spliced_nil ⟨[],H,I,.nil,h⟩
theorem zAQ(ha:PE X e te)(hr:PA X es t)(hs:starEach (e::es) X.env=(false,eval e X.env)::starEach es X.env:=by rfl):PA X (e::es) (zNB te t):=by
 intro pos a6 s σ H Q I h
 rw[hs]
 show wpAny _ _ (spliced ((false,eval e X.env)::backTo pos (starEach es X.env))) _ _ s
 refine Calls.spliced_cons (thn (ha a6 s σ H _ I h) fun u s1 ⟨x,H1,I1,r1,q1⟩=> ?_)
 exact thn (hr pos a6 s1 σ H1 _ I1 q1) fun us s2 ⟨xs,H2,I2,r2,q2⟩=>⟨x::xs,H2,I2,.cons r1 r2,q2⟩
def tTup(t:TA):TE:=fun σ H Q=>t σ H fun xs H1=>xs.length<=sizeLine/\ ∀p,H1 p=none->Q (.ref p) (upd H1 p (.tup xs))
def tLst(t:TA):TE:=fun σ H Q=>t σ H fun xs H1=>xs.length<=sizeLine/\ ∀p,H1 p=none->Q (.ref p) (upd H1 p (.lst xs))
theorem zTH{x1}(h:PA X es t):PE X (.Tuple es x1 pos) (tTup t):=by
 intro a6 s σ H Q I hq
 refine wpAny_Tuple_spliced (thn (h pos a6 s σ H _ I hq) fun us s1 ⟨xs,H1,I1,r,z,q⟩=>⟨by rw[<- r.length];exact z,?_⟩)
 have hf:H1 s1.heap.objs.size=none:=I1.hok.fresh (Nat.le_refl _)
 refine⟨.ref s1.heap.objs.size,upd H1 s1.heap.objs.size (.tup xs),I1.laid (t':=s1.toks) (fun b u e=>Heap.get?_push_of_some _ e) (Nat.le_refl _) ?_,rfl,q _ hf⟩
 exact⟨z,us,r,⟨_,Heap.get?_push_size _ rfl,rfl,_,rfl⟩⟩
theorem zY7(h:PA X es t):PE X (.List es pos) (tLst t):=by
 intro a6 s σ H Q I hq
 refine wpAny_List_spliced (thn (h pos a6 s σ H _ I hq) fun us s1 ⟨xs,H1,I1,r,z,q⟩=>⟨by rw[<- r.length];exact z,?_⟩)
 have hf:H1 s1.heap.objs.size=none:=I1.hok.fresh (Nat.le_refl _)
 refine⟨.ref s1.heap.objs.size,upd H1 s1.heap.objs.size (.lst xs),I1.laid (t':=s1.toks) (fun b u e=>Heap.get?_push_of_some _ e) (Nat.le_refl _) ?_,rfl,q _ hf⟩
 exact⟨z,us,0,r,Heap.get?_push_size _ rfl⟩
end
abbrev Sp:=List V->Hp->VK->XK->Prop
abbrev CXT:=List Env->Hp->Shared->XK->Value->Shared->Prop
structure Env0(P:Program)(w:World)(K:W.Frag)(mg:Str->Option Value)(base:Heap)(A:Around)(outer:List Env)(s:Shared)(H:Hp):Prop where
 frames:A.frames=some outer
 mod:Mod K mg base
 bs: ∀b o,base.get? b=some o->s.heap.get? b=some o/\H b=none
 bsz:base.objs.size<=s.heap.objs.size
 funs:s.heap.FunFrames base outer
 frf: ∀b∈frs outer,H b=none
 hok:HOk P w H s.heap
 bare:AllBare s.gens
def CE(outer:List Env)(P:Program)(w:World)(H:Hp)(s:Shared)(Q:VK)(u:Value)(s':Shared):Prop:=
 ∃v H',s'.os=s.os/\AllBare s'.gens/\Un (frs outer) [] H H' s.heap s'.heap/\HOk P w H' s'.heap/\RelV v u/\Q v H'
def CR(CX:CXT)(outer:List Env)(P:Program)(w:World)(H:Hp)(s:Shared)(Q:VK)(E:XK)(r:Result)(s':Shared):Prop:=
 match r with
 | .ok (.ret u)=>CE outer P w H s Q u s'
 | .ok _=>False
 | .error e=>CX outer H s E e s'
structure FnOk(P:Program)(w:World)(K:W.Frag)(mg:Str->Option Value)(base:Heap)(CX:CXT)(k:Nat)(f:Addr)(fd:FuncData)(ps:List Str)(sp:Sp):Prop where
 len: ∀vs H Q E,sp vs H Q E->vs.length=ps.length
 run: ∀(A:Around) (outer:List Env) (s:Shared) (H:Hp) (args:Args) (us:List Value) (vs:List V) (Q:VK) (E:XK),Room k A->Env0 P w K mg base A outer s H->BindsTo s fd args (ps.zip us)->Vals vs us->sp vs H Q E→
  codeAny (model P w) A (.call (.ref f) args) (CR CX outer P w H s Q E) s
section
variable{X:Cx}{a6:List (Addr×Obj)}{σ:St}{H:Hp}{s s':Shared}
theorem Inv.env0(I:Inv X a6 σ H s):Env0 X.prog X.w X.K X.mg X.base X.A X.stack s H:=
 ⟨I.ok.frames,I.ok.mod,I.bs,Nat.le_trans I.ok.bsz I.sz,I.stack,I.stkFree,I.hok,I.bare⟩
theorem Inv.after{Q:VK}{u:Value}(I:Inv X a6 σ H s)(h:CE X.stack X.prog X.w H s Q u s'):EP X a6 σ Q u s':=by
 obtain⟨v,H',os,bare,un,hok,r,q⟩:=h
 obtain⟨hh,g,d,t,os'⟩:=s'
 obtain rfl:os'=s.os:=os
 exact⟨v,H',I.call (h':=hh) (g':=g) (d':=d) (t':=t) (ch:=[]) un hok bare (fun b z=>absurd z (by simp)),r,q⟩
end
def zUI(sp:Sp)(dvs:List V)(E:XK)(t:TA):TE:=fun σ H Q=>t σ H fun vs H1=>sp (vs++dvs) H1 Q E
def zJB(K:W.Frag)(fd:FuncData)(ps:List Str)(ds:List Value):Prop:=
 ∀(s:Shared) (us:List Value),K.In s.heap->(us++ds).length=ps.length->BindsTo s fd ⟨us,[]⟩ (ps.zip (us++ds))
theorem zJB.all{K:W.Frag}{fd:FuncData}{ps:List Str}(h: ∀us:List Value,us.length=ps.length->bindArgs fd ⟨us,[]⟩=pure (ps.zip us)):zJB K fd ps []:=fun s us _ hl=>by
 rw[List.append_nil] at hl⊢
 exact .of_eq (h us hl)
def zR1(CX:CXT)(X:Cx)(E:XK):Prop:= ∀(a6:List (Addr×Obj)) (σ:St) (H:Hp) (s:Shared) (e:Value) (s':Shared),Inv X a6 σ H s->CX X.stack H s E e s'->X.xe e s'
section
variable{X:Cx}{CX:CXT}{k:Nat}{f C:Addr}{fd:FuncData}{ps:List Str}{sp:Sp}{dvs:List V}{ds:List Value}{E:XK}{x m:Str}{p pos aj:Pos}{e o:Expr}{es:List Expr}{ta:TE}{t:TA}
theorem zT8{a6:List (Addr×Obj)}{σ:St}{H:Hp}{s:Shared}{Q:VK}{us:List Value}{vs:List V}(F:FnOk X.prog X.w X.K X.mg X.base CX k f fd ps sp)(hr:Room k X.A)(hb:zJB X.K fd ps ds)(hd:Vals dvs ds)(hx:zR1 CX X E)
  (I:Inv X a6 σ H s) (r:Vals vs us) (h:sp (vs++dvs) H Q E):wpAny (model X.prog X.w) X.A (call (.ref f) us) (EP X a6 σ Q) X.xe s:=by
 have r2:Vals (vs++dvs) (us++ds):=r.append hd
 have hl:(us++ds).length=ps.length:=by rw[<- r2.length];exact F.len _ _ _ _ h
 refine wpAny_call (codeAny_mono (F.run X.A X.stack s H ⟨us,[]⟩ (us++ds) (vs++dvs) Q E hr I.env0 (hb s us I.kIn hl) r2 h) fun r s' hq=> ?_)
 cases r with
 |error e=>exact hx a6 σ H s e s' I hq
 |ok fl=>
  cases fl with
  |ret u=>exact I.after hq
  |next=>exact False.elim hq
  |brk=>exact False.elim hq
  |cont=>exact False.elim hq
theorem zPI(F:FnOk X.prog X.w X.K X.mg X.base CX k f fd ps sp)(hr:Room k X.A)(hg:Gl X x)(hm:X.mg x=some (.ref f))(hk:W.keepIn X.K (.ref f)=true)(hb:zJB X.K fd ps ds)(hd:Vals dvs ds)(hx:zR1 CX X E)
  (ha:PA X (e::es) t) (hdb:(x==("__debug__":Str))=false:=by decide) (he:starEach (e::es) X.env=(false,eval e X.env)::starEach es X.env:=by rfl) (hpl:(backTo pos (starEach es X.env)).any (·.1)=false:=by rfl):
  PE X (.Call (.Name x p) (e::es) [] pos) (zUI sp dvs E t):=by
 intro a6 s σ H Q I h
 refine wpAny_Call_Name_kw (zPZ I hg hm ?_ hdb)
 refine W.callWith_K (h₀:=X.base) I.ok.mod.kin hk (thn (ha pos a6 s σ H _ I h) fun us s1 ⟨vs,H1,I1,r,q⟩=>⟨I1.kIn,?_⟩) he hpl
 exact zT8 F hr hb hd hx I1 r q
end
structure zAE(N P:List Str)(sc:Scope):Prop where
 kind:sc.kind= .function
 co:sc.isCoroutine=false
 gen:sc.isGenerator=false
 nd:N.Nodup
 pre:N.take P.length=P
 par: ∀x∈P,sc.names.lookup x=some .local∨sc.names.lookup x=some .cell
 nofree: ∀y∈sc.names,y.2≠ .free
theorem zKR{kindOf:Str->Option NameKind}{x:Str}: ∀{binds:List (Str×Value)} {m:Str->Option Value},(∀v,(x,v)∉binds)->bindL kindOf binds m x=m x
 | [],_,_ => rfl
 | (n,v) :: r,m,h => by
  unfold bindL
  rw[zKR fun w hw=>h w (List.mem_cons_of_mem _ hw)]
  split
  ·have : x ≠ n := by rintro rfl;exact h v List.mem_cons_self
   simp[this]
  ·rfl
theorem zKT{kindOf:Str->Option NameKind}{x:Str}: ∀{binds:List (Str×Value)} {m:Str->Option Value},(∀v,(x,v)∉binds)->bindC kindOf binds m x=m x
 | [],_,_ => rfl
 | (n,v) :: r,m,h => by
  unfold bindC
  rw[zKT fun w hw=>h w (List.mem_cons_of_mem _ hw)]
  split
  ·rfl
  ·have : x ≠ n := by rintro rfl;exact h v List.mem_cons_self
   simp[this]
theorem zKS{kindOf:Str->Option NameKind}{x:Str}{v:Value}: ∀{P:List Str} {vs:List Value} {i:Nat} {m:Str->Option Value},P.Nodup->P[i]? =some x->vs[i]? =some v->kindOf x=some .local→
  bindL kindOf (P.zip vs) m x=some v
 |[],_,_,_,_,h,_,_=>by simp at h
 |_::_,[],_,_,_,_,h,_=>by simp at h
 |p::P,w::vs,0,m,nd,h1,h2,hk=>by
  simp at h1 h2;subst h1;subst h2
  show bindL kindOf ((p,w)::P.zip vs) m p=_
  unfold bindL
  rw[zKR fun v hv=>(List.nodup_cons.mp nd).1 (List.of_mem_zip hv).1,if_pos hk]
  simp
 |p::P,w::vs,i+1,m,nd,h1,h2,hk=>by
  show bindL kindOf ((p,w)::P.zip vs) m x=_
  unfold bindL
  exact zKS (i:=i) (List.nodup_cons.mp nd).2 (by simpa using h1) (by simpa using h2) hk
theorem zKU{kindOf:Str->Option NameKind}{x:Str}{v:Value}: ∀{P:List Str} {vs:List Value} {i:Nat} {m:Str->Option Value},P.Nodup->P[i]? =some x->vs[i]? =some v->kindOf x≠some .local→
  bindC kindOf (P.zip vs) m x=some v
 |[],_,_,_,_,h,_,_=>by simp at h
 |_::_,[],_,_,_,_,h,_=>by simp at h
 |p::P,w::vs,0,m,nd,h1,h2,hk=>by
  simp at h1 h2;subst h1;subst h2
  show bindC kindOf ((p,w)::P.zip vs) m p=_
  unfold bindC
  rw[zKT fun v hv=>(List.nodup_cons.mp nd).1 (List.of_mem_zip hv).1,if_neg hk]
  simp
 |p::P,w::vs,i+1,m,nd,h1,h2,hk=>by
  show bindC kindOf ((p,w)::P.zip vs) m x=_
  unfold bindC
  exact zKU (i:=i) (List.nodup_cons.mp nd).2 (by simpa using h1) (by simpa using h2) hk
noncomputable def zFL(N:List Str)(vs:List V):St:=vs.map some++List.replicate (N.length - vs.length) none
noncomputable def cxOf(CX:CXT)(P:Program)(w:World)(K:W.Frag)(mg:Str->Option Value)(base:Heap)(N:List Str)(qual:Str)(scope:Scope)(f:Addr)(cd:Value)(A:Around)(outer:List Env)(s:Shared)(H:Hp)(E:XK):Cx where
 prog:=P
 w:=w
 K:=K
 mg:=mg
 base:=base
 A:=A.deeper (envOfC qual scope s.heap.objs.size f cd)
 N:=N
 s₀:=s
 H₀:=H
 env:=envOfC qual scope s.heap.objs.size f cd
 outer:=outer
 stack:=envOfC qual scope s.heap.objs.size f cd::outer
 ex:=[]
 calm:=true
 fn:=fun _=>true
 pn:=[]
 xe:=fun e s'=>wpAny (model P w) (A.deeper (envOfC qual scope s.heap.objs.size f cd)) (leaving (envOfC qual scope s.heap.objs.size f cd) e) (fun _ s''=>CX outer H s E e s'') (fun e' s''=>CX outer H s E e' s'') s'
theorem zN3{sc:Scope}{n:Nat}{x:Str}(h:sc.names.lookup x=some .cell): ∃c,(cellsFrom n sc.names []).lookup x=some c:=by
 have q:=W.cellsFrom_some sc.names n [] (.inl h)
 exact Option.isSome_iff_exists.mp q
theorem zQ5{CX:CXT}{P:Program}{w:World}{K:W.Frag}{mg:Str->Option Value}{base:Heap}{N ps:List Str}{qual:Str}{scope:Scope}{f:Addr}{cd:Value}{A:Around}{outer:List Env}{s s1:Shared}{H:Hp}{E:XK}{us:List Value}{vs:List V}
  (S:zAE N ps scope) (hd:A.handled=none) (e0:Env0 P w K mg base A outer s H) (hl:vs.length=ps.length) (r:Vals vs us)
  (x : InCallC s s.heap.objs.size (bindL (envOfC qual scope s.heap.objs.size f cd).kindOf (ps.zip us) fun _ => none) (cellsFrom (s.heap.objs.size + 1) scope.names []) (bindC (envOfC qual scope s.heap.objs.size f cd).kindOf (ps.zip us) fun _ => none) s1) :
  Inv (cxOf CX P w K mg base N qual scope f cd A outer s H E) [] (zFL N vs) H s1:=by
 have hpl:ps.length<=N.length:=by have:=congrArg List.length S.pre;rw[List.length_take] at this;omega
 obtain⟨h1,tk,rfl,hk⟩:=x.done
 have noA: ∀b:Addr,b∉(cxOf CX P w K mg base N qual scope f cd A outer s H E).ex:=fun b z=>absurd (show b∈([]:List Addr) from z) (by simp)
 refine⟨⟨e0.mod,S.kind,rfl,rfl,Nat.le_refl _,fun y z c h1 h2=> ?_,fun y hy=> ?_,fun y c _ h=> ?_,fun _=>hd,Around.frames_deeper e0.frames,.inr ⟨rfl,rfl⟩,fun b z=>absurd z (noA b),e0.bs,e0.bsz,fun b _ _=>noA b,fun b z=>absurd z (noA b),e0.funs,e0.frf⟩,
  rfl,e0.bare,Un.kept hk,⟨_,x.toInCall.ns,fun i y v h1 h2 h3=> ?_⟩,fun y c h=>⟨_,x.cell y c h⟩,e0.hok.fresh (Nat.le_refl _),fun y c h=> ?_,fun p hp=>absurd (show p∈([]:List (Addr×Obj)) from hp) (by simp),e0.hok.kept hk,?_⟩
 ·exact name_of_addr x.apart (PySem.mem_of_lookup h1) (PySem.mem_of_lookup h2)
 ·have hy:scope.names.lookup y=some .cell∨scope.names.lookup y=some .free:=hy
  rcases hy with hy|hy
  ·exact zN3 hy
  ·exact absurd rfl (S.nofree _ (PySem.mem_of_lookup hy))
 ·exact Nat.le_of_lt (x.above y c (PySem.mem_of_lookup h))
 ·have hi:i<vs.length:=by
   unfold zFL at h2
   by_cases hi:i<vs.length
   ·exact hi
   ·rw [List.getElem?_append_right (by simpa using hi)] at h2
    rw[List.getElem?_replicate] at h2
    split at h2<;>cases h2
  have ha:vs[i]? =some v:=by
   unfold zFL at h2
   rw[List.getElem?_append_left (by simpa using hi),List.getElem?_map] at h2
   cases e:vs[i]? with
   |none=>rw[e] at h2;cases h2
   |some a=>rw[e] at h2;cases h2;rfl
  obtain⟨u,hu,rv⟩:=r.get ha
  have hp:ps[i]? =some y:=by rw[<- S.pre,List.getElem?_take_of_lt (by omega)];exact h1
  have ndP:ps.Nodup:=by rw[<- S.pre];exact S.nd.sublist (List.take_sublist _ _)
  refine⟨u,rv,?_⟩
  rcases S.par y (List.mem_of_getElem? hp) with k|k
  ·exact .inl ⟨k,zKS ndP hp hu k⟩
  ·obtain⟨c,e⟩:=zN3 (n:=s.heap.objs.size+1) k
   refine .inr ⟨.inl k,c,e,?_⟩
   have q:=x.cell y c e
   rw[zKU ndP hp hu (by show scope.names.lookup y≠_;rw[k];decide)] at q
   exact q
 ·exact e0.hok.fresh (Nat.le_of_lt (x.above y c (PySem.mem_of_lookup h)))
 ·unfold zFL
  show _=N.length
  rw[List.length_append,List.length_map,List.length_replicate]
  omega
theorem yA9{CX:CXT}{P:Program}{w:World}{K:W.Frag}{mg:Str->Option Value}{base:Heap}{k:Nat}{f:Addr}{name qual:Str}{params:Arguments}{body:List Stmt}{scope:Scope}{dV kV doc pm cdv ct oc:Value}{an od:Option Addr}
  {osl:Array (Option Value)} {N ps:List Str} {sp:Sp} (lk:K.lookup f=some ⟨oc,od,.func (W.fnOf name qual params body scope dV kV doc pm an cdv ct),osl⟩) (hcd:W.codeIn K cdv qual=true) (S:zAE N ps scope)
  (len: ∀vs H Q E,sp vs H Q E->vs.length=ps.length)
  (b5: ∀(A:Around) (outer:List Env) (s:Shared) (H:Hp) (vs:List V) (Q:VK) (E:XK),Room k (A.deeper (envOfC qual scope s.heap.objs.size f cdv))->sp vs H Q E→
   ∃t,PSs (cxOf CX P w K mg base N qual scope f cdv A outer s H E) body t/\t {nx:=fun _ H'=>Q .non H',rt:=Q} (zFL N vs) H):
  FnOk P w K mg base CX (k+1) f (W.fnOf name qual params body scope dV kV doc pm an cdv ct) ps sp:=by
 refine⟨len,fun A outer s H args us vs Q E hr e0 hb r hsp=> ?_⟩
 have hl:=len _ _ _ _ hsp
 have KX:K.In s.heap:=e0.mod.kin.keeps fun b o e=>(e0.bs b o e).1
 have lim:s.heap.NoLimit:=e0.mod.nolimit.keeps fun b o e=>(e0.bs b o e).1
 have lr: ∀y∈ps.zip us,scope.names.lookup y.1=some .local∨(scope.names.lookup y.1=some .cell/\((cellsFrom (s.heap.objs.size+1) scope.names []).lookup y.1).isSome=true):=fun⟨n,v⟩ hy=>by
  rcases S.par n (List.of_mem_zip hy).1 with q|q
  ·exact .inl q
  ·exact .inr ⟨q,W.cellsFrom_some _ _ _ (.inl q)⟩
 refine codeAny_call_function hr.depth (KX _ _ lk) rfl S.co S.gen rfl (W.codeRec_of KX hcd) (hb _ _ _ _ ?_)
 refine wpAny_newFunctionEnv_cells S.kind lr fun env he s1 x=> ?_
 subst he
 refine⟨lim.keeps x.toInCall.keep,codeAny_func ?_⟩
 obtain⟨t,ht,hq⟩:=b5 A outer s H vs Q E (hr.deeper _) hsp
 have I:Inv (cxOf CX P w K mg base N qual scope f cdv A outer s H E) [] (zFL N vs) H s1:=zQ5 S hr.hd e0 hl r x
 refine wpAny_mono (ht [] s1 (zFL N vs) H _ I hq) (fun fl s' hs=> ?_) fun e s' hs=>hs
 have fin: ∀{σ':St} {H':Hp} {v:V} {u:Value},Inv (cxOf CX P w K mg base N qual scope f cdv A outer s H E) [] σ' H' s'->RelV v u->Q v H'->CE outer P w H s Q u s':=
  fun{σ' H' v u} J rv q=>⟨v,H',J.os,J.bare,J.base,J.hok,rv,q⟩
 cases fl with
 |ret u=>
  obtain⟨v,σ',H',J,rv,q⟩:=hs
  exact fin J rv q
 |next=>
  obtain⟨σ',H',J,q⟩:=hs
  exact fin (v:=V.non) (u:=Value.none) J rfl q
 |brk=>
  obtain⟨_,_,_,q⟩:=hs
  exact False.elim q
 |cont=>
  obtain⟨_,_,_,q⟩:=hs
  exact False.elim q
section
variable{X:Cx}{x:Str}{p pos:Pos}{e:Expr}{es:List Expr}{t:TA}{id T:String}{r:List V->Hp->VK->Prop}
def tCB(r:List V->Hp->VK->Prop)(t:TA):TE:=fun σ H Q=>t σ H fun vs H1=>r vs H1 Q
theorem zIP(hc:zC7 X (.builtin id) r)(hg:Gl X x)(hm:X.mg x=none)(hv:bootBuiltins x=some (.builtin id))(ha:PA X (e::es) t)(hn:x≠ "__name__":=by decide) (hdb:(x==("__debug__":Str))=false:=by decide)
  (he:starEach (e::es) X.env=(false,eval e X.env)::starEach es X.env:=by rfl) (hpl:(backTo pos (starEach es X.env)).any (·.1)=false:=by rfl):PE X (.Call (.Name x p) (e::es) [] pos) (tCB r t):=by
 intro a6 s σ H Q I h
 refine wpAny_Call_Name_kw (zH6 I hg hm hv ?_ hn hdb)
 exact PyProof.Rows.callWith_builtin1 (thn (ha pos a6 s σ H _ I h) fun us s1 ⟨vs,H1,I1,r1,q1⟩=>hc a6 s1 σ H1 vs us Q I1 r1 q1) he hpl
theorem zDJ(hc:zC7 X (.type T) r)(hg:Gl X x)(hm:X.mg x=none)(hv:bootBuiltins x=some (.type T))(ha:PA X (e::es) t)(hn:x≠ "__name__":=by decide) (hdb:(x==("__debug__":Str))=false:=by decide)
  (he:starEach (e::es) X.env=(false,eval e X.env)::starEach es X.env:=by rfl) (hpl:(backTo pos (starEach es X.env)).any (·.1)=false:=by rfl):PE X (.Call (.Name x p) (e::es) [] pos) (tCB r t):=by
 intro a6 s σ H Q I h
 refine wpAny_Call_Name_kw (zH6 I hg hm hv ?_ hn hdb)
 exact PyProof.Rows.callWith_type1 (thn (ha pos a6 s σ H _ I h) fun us s1 ⟨vs,H1,I1,r1,q1⟩=>hc a6 s1 σ H1 vs us Q I1 r1 q1) he hpl
end
end L2
namespace HT
open PySem PyProof.Rows
section
variable{prog:Program}{w:World}{A:Around}{E:Value->Shared->Prop}{s:Shared}
theorem zW3{t b:Addr}{vs ws:List Value}{Q:Value->Shared->Prop}(ht:IsTup s.heap t vs.toArray)(hb:IsTup s.heap b ws.toArray)(hv:vs≠[])
  (h1:ws=[]->Q (.ref t) s) (h2:ws≠[]->Q (.ref s.heap.objs.size) {s with heap:=s.heap.push {cls:= .type "tuple",data:= .seq (vs++ws).toArray}})
  (hsz:vs.length+ws.length<=sizeLine):wpAny (model prog w) A (binaryOp .Add (.ref t) (.ref b)) Q E s:=by
 obtain⟨⟨cls,dd,data,sl⟩,ho,hc,n,hd⟩:=id ht
 obtain⟨⟨lz,dd2,data2,sl2⟩,ho2,hc2,n2,hd2⟩:=id hb
 simp only at hc hd hc2 hd2
 subst hc hd hc2 hd2
 have e:vs.toArray++ws.toArray=(vs++ws).toArray:=by simp
 by_cases hw:ws=[]
 ·exact concat_meets ⟨_,ho,rfl⟩ ⟨_,ho2,rfl⟩ noFill_tuple_add seq_tuple_add PySem.F.slot_tuple_add PySem.F.entry_tuple_add (PySem.F.args_tuple_add_2 _ _)
   (tuple_addW1 t b vs.toArray ws.toArray n n2 dd dd2 sl sl2 (by simpa using hv) (by simp[hw])) ⟨ho,ho2,h1 hw⟩
 ·refine concat_meets ⟨_,ho,rfl⟩ ⟨_,ho2,rfl⟩ noFill_tuple_add seq_tuple_add PySem.F.slot_tuple_add PySem.F.entry_tuple_add (PySem.F.args_tuple_add_2 _ _)
   (tuple_addW2 t b vs.toArray ws.toArray n n2 dd dd2 sl sl2 (by simpa using hv) (by simpa using hw) (by rw[List.size_toArray,List.size_toArray];exact hsz)) ⟨ho,ho2,?_⟩
  rw[e]
  exact h2 hw
noncomputable def sIx(n d:Nat):Option Int->Nat
 |none=>d
 |some v=>if v<0 then(v+(n:Int)).toNat else min v.toNat n
theorem zM6(n d:Nat):sIx n d none=d:=rfl
theorem zOQ(n d k:Nat):sIx n d (some (k:Int))=min k n:=by
 show(if(k:Int)<0 then((k:Int)+(n:Int)).toNat else min (k:Int).toNat n)=min k n
 rw[if_neg (by omega),Int.toNat_natCast]
theorem zXB(n d:Nat)(hd:d<=n)(o:Option Int):sIx n d o<=n:=by
 cases o with
 |none=>exact hd
 |some v=>
  show(if v<0 then(v+(n:Int)).toNat else min v.toNat n)<=n
  by_cases hv:v<0
  ·rw[if_pos hv];omega
  ·rw[if_neg hv];exact Nat.min_le_right _ _
theorem zQP(v:Int)(n d:Nat):(if v<0 then max (v+(n:Int)) 0 else min v (n:Int))=((sIx n d (some v):Nat):Int):=by
 show(if v<0 then max (v+(n:Int)) 0 else min v (n:Int))=(((if v<0 then(v+(n:Int)).toNat else min v.toNat n):Nat):Int)
 by_cases hv:v<0
 ·simp only[if_pos hv];omega
 ·simp only[if_neg hv];omega
theorem zNT(lo hi:Option Int)(n:Nat):Builtin.Slice.sliceAdjust lo hi 1 (n:Int)=(((sIx n 0 lo:Nat):Int),((sIx n n hi:Nat):Int)):=by
 have h1: ¬((1:Int)<0):=by omega
 unfold Builtin.Slice.sliceAdjust
 simp only[h1,if_false]
 refine Prod.ext ?_ ?_
 ·cases lo with
  |none=>rfl
  |some v=>exact zQP v n 0
 ·cases hi with
  |none=>rfl
  |some v=>exact zQP v n n
theorem zNH(i j:Nat):Builtin.Slice.slicePlaces (i:Int) (j:Int) 1=j - i:=by
 unfold Builtin.Slice.slicePlaces
 have h1:(1:Int)>0:=by omega
 simp only[h1,if_true,Int.ediv_one]
 split<;>omega
theorem zHS{v:Value}{o:Option Int}{Q:Option Int->Shared->Prop}(p:IsPart v o)(h:Q o s):wpAny (model prog w) A (Builtin.Slice.slicePartIndex v) Q E s:=by
 cases p with
 |none=>exact slicePart_none h
 |int i t=>exact slicePart_int h
theorem zDW{sl:Addr}{vl vu:Value}{lo hi:Option Int}{n:Nat}{Q:Int×Int×Nat->Shared->Prop}(hs:s.heap.IsSliceOf sl vl vu .none)(pl:IsPart vl lo)(pu:IsPart vu hi)
  (h:Q (((sIx n 0 lo:Nat):Int),1,sIx n n hi - sIx n 0 lo) s):wpAny (model prog w) A (Builtin.Slice.sliceApplied (.ref sl) (pure (n:Int))) Q E s:=by
 obtain⟨os,hos,hcs,hds⟩:=id hs
 unfold Builtin.Slice.sliceApplied Builtin.Slice.sliceFields
 refine wpAny_bind (wpAny_bind (wpAny_field hos hds (x:=vl) rfl (wpAny_bind (wpAny_field hos hds (x:=vu) rfl (wpAny_bind (wpAny_field hos hds (x:= .none) rfl (wpAny_pure ?_)))))))
 refine wpAny_bind (slicePart_none ?_)
 show wpAny _ _ (if((1:Int)==0)=true then _ else _) _ _ s
 rw[if_neg (by decide)]
 refine wpAny_bind (zHS pl (wpAny_bind (zHS pu (wpAny_bind (wpAny_pure ?_)))))
 show wpAny _ _ (match Builtin.Slice.sliceAdjust lo hi 1 (n:Int) with|(lo,hi)=>pure (lo,(1:Int),Builtin.Slice.slicePlaces lo hi 1)) _ _ s
 rw[zNT lo hi n]
 show wpAny _ _ (pure (((sIx n 0 lo:Nat):Int),(1:Int),Builtin.Slice.slicePlaces ((sIx n 0 lo:Nat):Int) ((sIx n n hi:Nat):Int) 1)) _ _ s
 rw[zNH]
 exact wpAny_pure h
theorem zS2(xs:Array Value)(i k:Nat):((List.range k).filterMap fun(m:Nat)=>xs[((i:Int)+(m:Int)*1).toNat]?).toArray=((xs.toList.drop i).take k).toArray:=by
 have e:(fun(m:Nat)=>xs[((i:Int)+(m:Int)*1).toNat]?)=fun m=>xs[i+m]? :=by
  funext m
  have:((i:Int)+(m:Int)*1).toNat=i+m:=by omega
  rw[this]
 rw[e]
 have:=pick_run xs i k
 rw[List.filterMap_map] at this
 have e2:((fun x=>xs[x]?)∘fun x=>i+x)=fun m=>xs[i+m]? :=rfl
 rw[e2] at this
 rw[this]
theorem zFQ{t sl:Addr}{items:Array Value}{vl vu:Value}{lo hi:Option Int}{Q:Value->Shared->Prop}(ht:IsTup s.heap t items)(hs:s.heap.IsSliceOf sl vl vu .none)(pl:IsPart vl lo)(pu:IsPart vu hi)
  (hw: ¬(sIx items.size 0 lo=0/\sIx items.size items.size hi=items.size))
  (h:Q (.ref s.heap.objs.size) {s with heap:=s.heap.push {cls:= .type "tuple",data:= .seq ((items.toList.drop (sIx items.size 0 lo)).take (sIx items.size items.size hi - sIx items.size 0 lo)).toArray}})
  (hsz:items.size<=sizeLine):wpAny (model prog w) A (getItem (.ref t) (.ref sl)) Q E s:=by
 have ao:sizeOk (.seq ((items.toList.drop (sIx items.size 0 lo)).take (sIx items.size items.size hi - sIx items.size 0 lo)).toArray):=by
  show((items.toList.drop (sIx items.size 0 lo)).take (sIx items.size items.size hi - sIx items.size 0 lo)).toArray.size<=sizeLine
  rw[List.size_toArray,List.length_take,List.length_drop,Array.length_toList]
  omega
 have hj:sIx items.size items.size hi<=items.size:=zXB _ _ (Nat.le_refl _) hi
 obtain⟨os,hos,hcs,hds⟩:=id hs
 have hTs:s.TypeIs (.ref sl) "slice":=⟨os,hos,hcs⟩
 unfold getItem
 try with_reducible refine wpAny_holding ?_
 first|refine wpAny_bind (wpAny_pure ?_)|skip
 refine wpAny_bind (wpAny_sequenceKey ht.typeIs (by decide) ?_)
 refine wpAny_bind (wpAny_callSpecial?_slot (name:=Str.ofString "__getitem__") ht.typeIs PyProof.Rows.slot_tuple_getitem
  (wpAny_call_entry PyProof.Rows.slot_tuple_getitem ht.typeIs entry_tuple_getitem ?_ (args_tuple_getitem _ _)))
 show wpAny _ _ (Builtin.Tuple.tupleItemsOf (.ref t)>>=_) _ _ s
 refine wpAny_bind (tupleItemsOf_ ht ?_)
 refine wpAny_bind (wpAny_typeOf hTs ?_)
 rw[if_pos (by decide)]
 refine wpAny_bind (zDW hs pl pu ?_)
 have hno: ¬((((sIx items.size 0 lo:Nat):Int)==0 && (1:Int)==1 && (sIx items.size items.size hi - sIx items.size 0 lo)==items.size)=true):=by
  intro q
  rw[Bool.and_eq_true,Bool.and_eq_true] at q
  have q1:((sIx items.size 0 lo:Nat):Int)=0:=eq_of_beq q.1.1
  have q2:sIx items.size items.size hi - sIx items.size 0 lo=items.size:=eq_of_beq q.2
  exact hw ⟨by omega,by omega⟩
 show wpAny _ _ (if(((sIx items.size 0 lo:Nat):Int)==0 && (1:Int)==1 && (sIx items.size items.size hi - sIx items.size 0 lo)==items.size)=true then _ else _) _ _ s
 rw[if_neg hno,zS2]
 first
  |exact wpAny_bind (m:=Builtin.Tuple.tupleExact _) (wpAny_newObj_type (wpAny_pure ⟨_,rfl,wpAny_pure h⟩) ao)
  |exact wpAny_bind (m:=Builtin.Tuple.tupleExact _) (wpAny_newObj_type (wpAny_bind (wpAny_pure (wpAny_pure ⟨_,rfl,wpAny_pure h⟩))) ao)
  |exact wpAny_bind (wpAny_bind (m:=Builtin.Tuple.tupleExact _) (wpAny_newObj_type (wpAny_pure (wpAny_pure ⟨_,rfl,wpAny_pure h⟩)) ao))
  |exact wpAny_bind (wpAny_bind (m:=Builtin.Tuple.tupleExact _) (wpAny_newObj_type (wpAny_pure ⟨_,rfl,wpAny_pure h⟩) ao))
end
end HT
namespace L2
open PySem PySem.Spec PyProof.Rows
abbrev TO:=St->Hp->(Option Int->Hp->Prop)->Prop
def PO(X:Cx)(e:Option Expr)(t:TO):Prop:=
 ∀(a6:List (Addr×Obj)) (s:Shared) (σ:St) (H:Hp) (Q:Option Int->Hp->Prop),Inv X a6 σ H s->t σ H Q→
  wpAny (model X.prog X.w) X.A (evalPart e X.env) (fun u s'=> ∃o H',Inv X a6 σ H' s'/\IsPart u o/\Q o H') X.xe s
def zUH:TO:=fun _ H Q=>Q none H
def yB8(t:TE):TO:=fun σ H Q=>t σ H fun x H1=> ∃i,x= .int i/\Q (some i) H1
section
variable{X:Cx}{e:Expr}{te:TE}{lo hi:Option Expr}{tl th:TO}{pos p2:Pos}
theorem zV1:PO X none zUH:=by
 intro a6 s σ H Q I h
 rw[evalPart_none]
 exact wpAny_pure ⟨none,H,I,.none,h⟩
theorem zV0(h:PE X e te):PO X (some e) (yB8 te):=by
 intro a6 s σ H Q I hw
 rw[evalPart_some]
 refine thn (h a6 s σ H _ I hw) fun u s1 ⟨x,H1,I1,r1,q1⟩=> ?_
 obtain⟨i,rfl,q⟩:=q1
 obtain⟨t,rfl⟩:=r1
 exact⟨some i,H1,I1,.int i t,q⟩
def SlR(X:Cx)(r:V->Option Int->Option Int->Hp->VK->Prop):Prop:=
 ∀(a6:List (Addr×Obj)) (s:Shared) (σ:St) (H:Hp) (x:V) (v vl vu:Value) (lo hi:Option Int) (sl:Addr) (Q:VK),Inv X a6 σ H s->RelV x v->s.heap.IsSliceOf sl vl vu .none->IsPart vl lo->IsPart vu hi->r x lo hi H Q→
  ∃T id,typeLookup (.type T) "__getitem__"=pure (some (.builtin id))/\s.TypeIs v T/\wpAny (model X.prog X.w) X.A (getItem v (.ref sl)) (EP X a6 σ Q) X.xe s
theorem SlR.or{r r':V->Option Int->Option Int->Hp->VK->Prop}(h:SlR X r)(h':SlR X r'):SlR X (fun x lo hi H Q=>r x lo hi H Q∨r' x lo hi H Q):=by
 intro a6 s σ H x v vl vu lo hi sl Q I rx hs pl pu q
 rcases q with q|q
 ·exact h a6 s σ H x v vl vu lo hi sl Q I rx hs pl pu q
 ·exact h' a6 s σ H x v vl vu lo hi sl Q I rx hs pl pu q
def tSl(r:V->Option Int->Option Int->Hp->VK->Prop)(te:TE)(tl th:TO):TE:=fun σ H Q=>te σ H fun x H1=>tl σ H1 fun l H2=>th σ H2 fun u H3=>r x l u H3 Q
theorem zS3{r:V->Option Int->Option Int->Hp->VK->Prop}(hr:SlR X r)(he:PE X e te)(hl:PO X lo tl)(hu:PO X hi th):PE X (.Subscript e (.Slice lo hi none p2) pos) (tSl r te tl th):=by
 intro a6 s σ H Q I h
 refine Subscript_ (thn (he a6 s σ H _ I h) fun v s1 ⟨x,H1,I1,r1,q1⟩=> ?_)
 refine wpAny_Slice (thn (hl a6 s1 σ H1 _ I1 q1) fun vl s2 ⟨l,H2,I2,pl,q2⟩=>thn (hu a6 s2 σ H2 _ I2 q2) fun vu s3 ⟨u,H3,I3,pu,q3⟩=> ?_)
 rw[evalPart_none]
 refine wpAny_pure ?_
 have I4:Inv X a6 σ H3 {s3 with heap:=s3.heap.push {cls:= .type "slice",data:= .fields #[vl,vu,.none]}}:=I3.kept (t':=s3.toks) fun b ob q=>Heap.get?_push_of_some _ q
 obtain⟨T,id,hT,ht,hg⟩:=hr a6 {s3 with heap:=s3.heap.push {cls:= .type "slice",data:= .fields #[vl,vu,.none]}} σ H3 x v vl vu l u s3.heap.objs.size Q I4 r1 (Heap.IsSliceOf.new ..) pl pu q3
 show wpAny (model X.prog X.w) X.A (subscriptTail e (.Slice lo hi none p2) v (.ref s3.heap.objs.size)) (EP X a6 σ Q) X.xe {s3 with heap:=s3.heap.push {cls:= .type "slice",data:= .fields #[vl,vu,.none]}}
 exact tail_any (ops:=[.ref s3.heap.objs.size,v]) ht hT hg (by with_unfolding_all rfl)
noncomputable def cutV(xs:List V)(lo hi:Option Int):List V:=(xs.drop (HT.sIx xs.length 0 lo)).take (HT.sIx xs.length xs.length hi - HT.sIx xs.length 0 lo)
theorem zHH(xs:List V)(lo hi:Option Int):(cutV xs lo hi).length<=xs.length:=by
 unfold cutV
 rw[List.length_take,List.length_drop]
 omega
def rSlT(K:W.Frag):V->Option Int->Option Int->Hp->VK->Prop:=fun x lo hi H Q=> ∃a xs,x= .ref a/\SqT K H a xs∧
 ¬(HT.sIx xs.length 0 lo=0/\HT.sIx xs.length xs.length hi=xs.length)/\ ∀p,H p=none->Q (.ref p) (upd H p (.tup (cutV xs lo hi)))
theorem zWR:SlR X (rSlT X.K):=by
 intro a6 s σ H x v vl vu lo hi sl Q I rx hs pl pu h
 obtain⟨a,xs,rfl,hx,hw,q⟩:=h
 cases rx
 obtain⟨its,r,ht,hz⟩:=I.tuple hx
 have aa:its.toArray.size=xs.length:=by rw[List.size_toArray];exact r.length.symm
 refine⟨"tuple",_,PyProof.Rows.slot_tuple_getitem.lookup,ht.typeIs,?_⟩
 refine HT.zFQ ht hs pl pu (by rw[aa];exact hw) ?_ (by rw[aa];exact hz)
 rw[aa]
 refine⟨.ref s.heap.objs.size,_,I.laid (t':=s.toks) (o:= .tup (cutV xs lo hi)) (fun b ob q=>Heap.get?_push_of_some _ q) (Nat.le_refl _) ?_,rfl,q _ (I.hok.fresh (Nat.le_refl _))⟩
 exact⟨Nat.le_trans (zHH xs lo hi) hz,_,(r.drop (HT.sIx xs.length 0 lo)).take (HT.sIx xs.length xs.length hi - HT.sIx xs.length 0 lo),IsTup.new _ _⟩
theorem Vals.nil_iff{xs:List V}{us:List Value}(r:Vals xs us):us=[]↔xs=[]:=by
 cases r with
 |nil=>simp
 |cons _ _=>simp
end
noncomputable def ixN(n:Nat)(i:Int):Option Nat:=if 0<=i then(if i<n then some i.toNat else none) else if -(n:Int)<=i then some (i+n).toNat else none
noncomputable def atI{α:Type}(xs:List α)(i:Int):Option α:=(ixN xs.length i).bind fun j=>xs[j]?
theorem zQ4{n:Nat}{i:Int}{j:Nat}(h:ixN n i=some j):seqIndex? i n=some j/\j<n/\ -(n:Int)<=i/\i<n:=by
 unfold ixN at h
 by_cases h0:0<=i
 ·rw[if_pos h0] at h
  by_cases h1:i<n
  ·rw[if_pos h1] at h
   have e:i.toNat=j:=Option.some.inj h
   exact⟨by rw[seqIndex_of h0 h1,e],by omega,by omega,h1⟩
  ·rw[if_neg h1] at h;cases h
 ·rw[if_neg h0] at h
  by_cases h1: -(n:Int)<=i
  ·rw[if_pos h1] at h
   have e:(i+n).toNat=j:=Option.some.inj h
   exact⟨by rw[seqIndex_neg (by omega) h1,e],by omega,h1,by omega⟩
  ·rw[if_neg h1] at h;cases h
theorem zLM{α:Type}{xs:List α}{i:Int}{v:α}(h:atI xs i=some v): ∃j,seqIndex? i xs.length=some j/\xs[j]? =some v/\j<xs.length/\ -(xs.length:Int)<=i/\i<xs.length:=by
 unfold atI at h
 cases e:ixN xs.length i with
 |none=>rw[e] at h;cases h
 |some j=>
  rw[e] at h
  obtain⟨h1,h2,h3,h4⟩:=zQ4 e
  exact⟨j,h1,h,h2,h3,h4⟩
theorem zGV{α:Type}(xs:List α)(v:α):atI (xs++[v]) (-1)=some v:=by
 have hl:(xs++[v]).length=xs.length+1:=by simp
 have e:ixN (xs++[v]).length (-1)=some xs.length:=by
  unfold ixN
  rw[hl,if_neg (by decide),if_pos (by omega)]
  congr 1
  omega
 unfold atI
 rw[e]
 show(xs++[v])[xs.length]? =some v
 simp
def zLN(b:Expr):Prop:= ∀o i,subscripted b false o i=operate [o,i] (getItem o i)
def IxR(X:Cx)(r:R2):Prop:=
 ∀(value slice:Expr) (a6:List (Addr×Obj)) (s:Shared) (σ:St) (H:Hp) (x y:V) (v u:Value) (Q:VK),Inv X a6 σ H s->RelV x v->RelV y u->r x y H Q→
  subscripted slice false v u=operate [v,u] (getItem v u)->wpAny (model X.prog X.w) X.A (subscriptTail value slice v u) (EP X a6 σ Q) X.xe s
def MtR(X:Cx)(id:String)(r:V->List V->Hp->VK->Prop):Prop:=
 ∀(a6:List (Addr×Obj)) (s:Shared) (σ:St) (H:Hp) (x:V) (xs:List V) (v:Value) (us:List Value) (Q:VK),Inv X a6 σ H s->RelV x v->Vals xs us->r x xs H Q→
  wpAny (model X.prog X.w) X.A (call (.builtin id) (v::us)) (EP X a6 σ Q) X.xe s
section
variable{X:Cx}{a b:Expr}{ta tb:TE}{pos:Pos}
theorem IxR.or{r r':R2}(h:IxR X r)(h':IxR X r'):IxR X (fun x y H Q=>r x y H Q∨r' x y H Q):=by
 intro value slice a6 s σ H x y v u Q I rx ry q hs
 rcases q with q|q
 ·exact h value slice a6 s σ H x y v u Q I rx ry q hs
 ·exact h' value slice a6 s σ H x y v u Q I rx ry q hs
theorem yCH{r:R2}(hr:IxR X r)(ha:PE X a ta)(hb:PE X b tb)(hs:zLN b):PE X (.Subscript a b pos) (tOp r ta tb):=by
 intro a6 s σ H Q I h
 exact Subscript_ (binT ha hb I h fun v u s2 x y H2 I2 rx ry q=>hr a b a6 s2 σ H2 x y v u Q I2 rx ry q (hs _ _))
def rIxL(K:W.Frag):R2:=fun x y H Q=> ∃p xs i v,x= .ref p/\y= .int i/\SqL K H p xs/\atI xs i=some v/\Q v H
def rIxT(K:W.Frag):R2:=fun x y H Q=> ∃p xs i v,x= .ref p/\y= .int i/\SqT K H p xs/\atI xs i=some v/\Q v H
def rIxS:R2:=fun x y H Q=> ∃z i c,x= .str z/\y= .int i/\z.length<=sizeLine/\atI z.cps.toList i=some c/\Q (.str ⟨#[c]⟩) H
theorem zVR:IxR X (rIxL X.K):=by
 intro value slice a6 s σ H x y v u Q I rx ry h hs
 obtain⟨p,xs,i,z,rfl,rfl,hq,he,q⟩:=h
 cases rx
 obtain⟨t,rfl⟩:=ry
 obtain⟨its,r,pl,hz⟩:=I.list hq
 obtain⟨j,h1,h2,h3,h4,h5⟩:=zLM he
 obtain⟨w,ew,rw'⟩:=r.get h2
 have hl:=r.length
 have hn:=zI2
 have fin:EP X a6 σ Q w s:=⟨z,H,I,rw',q⟩
 by_cases h0:0<=i
 ·have hj:i.toNat=j:=by
   rw[seqIndex_of h0 h5] at h1
   exact Option.some.inj h1
  exact item_listR pl.isList h0 (by omega) (by rw[hj];simpa using ew) fin hs
 ·have hj:(i+(its.toArray.size:Int)).toNat=j:=by
   rw[seqIndex_neg (by omega) h4] at h1
   rw[List.size_toArray,<- hl]
   exact Option.some.inj h1
  exact subscriptTail_builtinR (x:=w) pl.isList.typeIs slot_list_getitem.lookup
   (wpAny_getItem_list_neg (Q:=fun r s'=>r=w/\EP X a6 σ Q r s') pl.isList (by omega) (by rw[List.size_toArray]<;>omega) (by omega) (by rw[hj];simpa using ew) ⟨rfl,fin⟩) hs
theorem yA2:IxR X (rIxT X.K):=by
 intro value slice a6 s σ H x y v u Q I rx ry h hs
 obtain⟨p,xs,i,z,rfl,rfl,hq,he,q⟩:=h
 cases rx
 obtain⟨t,rfl⟩:=ry
 obtain⟨its,r,pl,hz⟩:=I.tuple hq
 obtain⟨j,h1,h2,h3,h4,h5⟩:=zLM he
 obtain⟨w,ew,rw'⟩:=r.get h2
 have hl:=r.length
 have hn:=zI2
 have fin:EP X a6 σ Q w s:=⟨z,H,I,rw',q⟩
 exact subscriptTail_builtinR (x:=w) pl.typeIs slot_tuple_getitem.lookup
  (getItem_tuple (j:=j) (Q:=fun r s'=>r=w/\EP X a6 σ Q r s') pl (by omega) (by omega) (by rw[List.size_toArray,<- hl];exact h1) (by simpa using ew) ⟨rfl,fin⟩) hs
theorem yA3:IxR X rIxS:=by
 intro value slice a6 s σ H x y v u Q I rx ry h hs
 obtain⟨z,i,c,rfl,rfl,hz,he,q⟩:=h
 obtain⟨t,rfl⟩:=rx
 obtain⟨t',rfl⟩:=ry
 obtain⟨j,h1,h2,h3,h4,h5⟩:=zLM he
 have hl:z.cps.toList.length=z.length:=by simp[Str.length]
 rw[hl] at h1 h4 h5
 have hn:=zI2
 exact tail_any (typeIs_str s z t) slot_str_getitem.lookup (getItem_str (c:=c) (by
  have e1:decide (i< -(2 ^ 63:Int))=false:=decide_eq_false (by omega)
  have e2:decide (i≥2 ^ 63)=false:=decide_eq_false (by omega)
  rw[e1,e2,Bool.or_false]) (by rw[h1];simpa using h2) ⟨.str ⟨#[c]⟩,H,I.tok _,⟨_,rfl⟩,q⟩) hs
def rIx(K:W.Frag):R2:=fun x y H Q=>rIxL K x y H Q∨rIxT K x y H Q∨rIxS x y H Q
theorem yA4:IxR X (rIx X.K):=zVR.or (yA2.or yA3)
theorem zNM(its:List Value)(n j:Nat)(u:Value):Obj.mapSeq (·.setIfInBounds j u) {cls:= .type "list",data:= .seq its.toArray n}={cls:= .type "list",data:= .seq (its.set j u).toArray n}:=by simp[Obj.mapSeq]
theorem Inv.lst{a6:List (Addr×Obj)}{σ:St}{H:Hp}{s:Shared}{p:Addr}{xs:List V}(I:Inv X a6 σ H s)(h:H p=some (.lst xs)):
  ∃(its:List Value) (n:Nat),Vals xs its/\s.heap.get? p=some {cls:= .type "list",data:= .seq its.toArray n}/\xs.length<=sizeLine:=by
 obtain⟨z,its,n,r,e⟩:=I.hok p _ h
 exact⟨its,n,r,e,z⟩
theorem Inv.lstUpd{a6:List (Addr×Obj)}{σ:St}{H:Hp}{s:Shared}{p:Addr}{xs ys:List V}{its its':List Value}{n n':Nat}{f:Obj->Obj}(I:Inv X a6 σ H s)(h:H p=some (.lst xs))
  (ho:s.heap.get? p=some {cls:= .type "list",data:= .seq its.toArray n}) (hf:f {cls:= .type "list",data:= .seq its.toArray n}={cls:= .type "list",data:= .seq its'.toArray n'}) (r:Vals ys its') (hz:ys.length<=sizeLine) (t:Nat):
  Inv X a6 σ (upd H p (.lst ys)) {s with heap:=s.heap.update p f,toks:=t}:=by
 have e:(s.heap.update p f).get? p=some {cls:= .type "list",data:= .seq its'.toArray n'}:=by rw[Heap.get?_update_self f ho (by rw[hf]<;>rfl),hf]
 refine I.write (x:=p) (e:=p) (by rw[h];trivial) (.inl rfl) (fun b u hb q=>(Heap.get?_update_other _ _ (Ne.symm hb)).trans q) ⟨_,e⟩ ?_
 exact⟨hz,its',n',r,e⟩
def yBY:V->V->V->Hp->(Hp->Prop)->Prop:=fun o i v H Q=> ∃p xs k j,o= .ref p/\i= .int k/\H p=some (.lst xs)/\ixN xs.length k=some j/\Q (upd H p (.lst (xs.set j v)))
theorem zRQ:PSet X yBY:=by
 intro a6 s σ H o i v ov iv u Q I ro ri rv h
 obtain⟨p,xs,k,j,rfl,rfl,hp,hj,q⟩:=h
 cases ro
 obtain⟨t,rfl⟩:=ri
 obtain⟨its,n,r,ho,hz⟩:=I.lst hp
 obtain⟨h1,h2,h3,h4⟩:=zQ4 hj
 have hl:=r.length
 have hn:=zI2
 have I':Inv X a6 σ (upd H p (.lst (xs.set j v))) {s with heap:=s.heap.update p (Obj.mapSeq (·.setIfInBounds j u))}:=
  I.lstUpd hp ho (zNM its n j u) (r.set rv j) (by rw[List.length_set];exact hz) s.toks
 by_cases h0:0<=k
 ·have hk:k.toNat=j:=by
   rw[seqIndex_of h0 h4] at h1
   exact Option.some.inj h1
  exact W.ki_setAt ho h0 (by omega) (by rw[List.size_toArray,<- hl];exact h4) (by rw[hk];exact⟨_,I',q⟩)
 ·have hk:(k+(its.toArray.size:Int)).toNat=j:=by
   rw[seqIndex_neg (by omega) h3] at h1
   rw[List.size_toArray,<- hl]
   exact Option.some.inj h1
  exact W.ki_setBack ho (by omega) (by rw[List.size_toArray,<- hl];exact h3) (by omega) (by rw[hk];exact⟨_,I',q⟩)
theorem zJN(lo hi:Option Int)(n:Nat):(sliceBounds lo hi none n).1=((HT.sIx n 0 lo:Nat):Int)/\(sliceBounds lo hi none n).2.1=((HT.sIx n n hi:Nat):Int)/\(sliceBounds lo hi none n).2.2=1:=by
 refine⟨?_,?_,rfl⟩
 ·cases lo with
  |none=>simp[sliceBounds,HT.sIx]
  |some i=>
   simp only[sliceBounds,HT.sIx,Option.getD_none,show(1:Int)>0 by decide,if_true]
   by_cases h:i<0
   ·simp only[h,if_true]<;>omega
   ·simp only[h,if_false]<;>omega
 ·cases hi with
  |none=>simp[sliceBounds,HT.sIx]
  |some i=>
   simp only[sliceBounds,HT.sIx,Option.getD_none,show(1:Int)>0 by decide,if_true]
   by_cases h:i<0
   ·simp only[h,if_true]<;>omega
   ·simp only[h,if_false]<;>omega
theorem zIL(its:List Value)(lo hi:Option Int):slicePick its.toArray lo hi none=((its.drop (HT.sIx its.length 0 lo)).take (HT.sIx its.length its.length hi - HT.sIx its.length 0 lo)).toArray:=by
 obtain⟨h1,h2,h3⟩:=zJN lo hi its.toArray.size
 unfold slicePick
 rw[h1,h2,h3]
 simp only[sliceRange_one,pick_run,List.size_toArray]<;>rfl
def rSlL(K:W.Frag):V->Option Int->Option Int->Hp->VK->Prop:=fun x lo hi H Q=> ∃a xs,x= .ref a/\SqL K H a xs/\ ∀p,H p=none->Q (.ref p) (upd H p (.lst (cutV xs lo hi)))
theorem zUL:SlR X (rSlL X.K):=by
 intro a6 s σ H x v vl vu lo hi sl Q I rx hs pl pu h
 obtain⟨a,xs,rfl,hx,q⟩:=h
 cases rx
 obtain⟨its,r,ht,hz⟩:=I.list hx
 have aa:=r.length
 refine⟨"list",_,slot_list_getitem.lookup,ht.isList.typeIs,?_⟩
 refine wpAny_getItem_list_slice ht.isList hs pl pu .none (by simp) ?_ (by rw[List.size_toArray]<;>omega)
 rw[zIL,<- aa]
 refine⟨.ref s.heap.objs.size,_,I.laid (t':=s.toks) (o:= .lst (cutV xs lo hi)) (fun b ob q=>Heap.get?_push_of_some _ q) (Nat.le_refl _) ?_,rfl,q _ (I.hok.fresh (Nat.le_refl _))⟩
 exact⟨Nat.le_trans (zHH xs lo hi) hz,_,0,(r.drop (HT.sIx xs.length 0 lo)).take (HT.sIx xs.length xs.length hi - HT.sIx xs.length 0 lo),Heap.get?_push_size _ rfl⟩
theorem zKP:zC7 X (.builtin "len") (fun xs H Q=> ∃p ys,xs=[.ref p]/\(SqL X.K H p ys∨SqT X.K H p ys)/\Q (.int ys.length) H):=by
 intro a6 s σ H xs us Q I r h
 obtain⟨p,ys,rfl,hq,q⟩:=h
 obtain⟨u,rfl,rx⟩:=zHO r
 cases rx
 have hn:=zI2
 rcases hq with hq|hq
 ·obtain⟨its,r',pl,hz⟩:=I.list hq
  have aa:=r'.length
  exact Calls.call_len_list pl.isList (by simp only[List.size_toArray]<;>omega) ⟨.int ys.length,H,I.tok _,⟨s.toks+1,by rw[List.size_toArray,aa]⟩,q⟩
 ·obtain⟨its,r',pl,hz⟩:=I.tuple hq
  have aa:=r'.length
  exact len_tuple pl (by simp only[List.size_toArray]<;>omega) ⟨.int ys.length,H,I.tok _,⟨s.toks+1,by rw[List.size_toArray,aa]⟩,q⟩
theorem zKO:zC7 X (.builtin "len") (fun xs H Q=> ∃z,xs=[.str z]/\z.length<=sizeLine/\Q (.int z.length) H):=by
 intro a6 s σ H xs us Q I r h
 obtain⟨z,rfl,hz,q⟩:=h
 obtain⟨u,rfl,t,rfl⟩:=zHO r
 have hn:=zI2
 exact len_str (by omega) ⟨.int z.length,H,I.tok _,⟨_,rfl⟩,q⟩
theorem zC7.or{f:Value}{r r':List V->Hp->VK->Prop}(h:zC7 X f r)(h':zC7 X f r'):zC7 X f (fun xs H Q=>r xs H Q∨r' xs H Q):=by
 intro a6 s σ H xs us Q I rs q
 rcases q with q|q
 ·exact h a6 s σ H xs us Q I rs q
 ·exact h' a6 s σ H xs us Q I rs q
theorem zKN:zC7 X (.type "list") (fun xs H Q=> ∃p ys,xs=[.ref p]/\(SqL X.K H p ys∨SqT X.K H p ys)/\ ∀l,H l=none->Q (.ref l) (upd H l (.lst ys))):=by
 intro a6 s σ H xs us Q I r h
 obtain⟨p,ys,rfl,hq,q⟩:=h
 obtain⟨u,rfl,rx⟩:=zHO r
 cases rx
 have fin: ∀(its:List Value),Vals ys its->ys.length<=sizeLine-> ∀(h':Heap) (c':Nat),(∀b o',s.heap.get? b=some o'->h'.get? b=some o')→
   h'.get? s.heap.objs.size=some {cls:= .type "list",dict:=none,data:= .seq its.toArray c',slots:= #[]}->EP X a6 σ Q (.ref s.heap.objs.size) {s with heap:=h'}:=fun its r' hz h' c' kp e=>
  ⟨.ref s.heap.objs.size,_,I.laid (t':=s.toks) kp (Nat.le_refl _) (show zCI X.prog X.w _ h' _ (.lst ys) from⟨hz,its,c',r',e⟩),rfl,q _ (I.hok.fresh (Nat.le_refl _))⟩
 rcases hq with hq|hq
 ·obtain⟨its,r',pl,hz⟩:=I.list hq
  have aa:=r'.length
  obtain⟨o,ho,hc,n,hd⟩:=pl.isList
  exact call_list_seq p (.inl rfl) ho hc hd (fun h' c' kp e=>fin its r' hz h' c' kp e) (by simp only[List.size_toArray]<;>omega)
 ·obtain⟨its,r',pl,hz⟩:=I.tuple hq
  have aa:=r'.length
  obtain⟨o,ho,hc,n,hd⟩:=pl
  exact call_list_seq p (.inr rfl) ho hc hd (fun h' c' kp e=>fin its r' hz h' c' kp e) (by simp only[List.size_toArray]<;>omega)
theorem zJ6:zC7 X (.type "tuple") (fun xs H Q=> ∃p ys,xs=[.ref p]/\((SqL X.K H p ys/\ ∀l,H l=none->Q (.ref l) (upd H l (.tup ys)))∨(SqT X.K H p ys/\Q (.ref p) H))):=by
 intro a6 s σ H xs us Q I r h
 obtain⟨p,ys,rfl,h⟩:=h
 obtain⟨u,rfl,rx⟩:=zHO r
 cases rx
 rcases h with⟨hq,q⟩|⟨hq,q⟩
 ·obtain⟨its,r',pl,hz⟩:=I.list hq
  have aa:=r'.length
  refine call_tuple_list pl.isList (fun h' kp=> ?_) (by simp only[List.size_toArray]<;>omega)
  have I1:Inv X a6 σ H {s with heap:=h'}:=I.kept (t':=s.toks) kp
  have I2:Inv X a6 σ (upd H h'.objs.size (.tup ys)) {s with heap:=h'.push {cls:= .type "tuple",data:= .seq its.toArray}}:=
   I1.laid (t':=s.toks) (fun b o e=>Heap.get?_push_of_some _ e) (Nat.le_refl _) (show zCI X.prog X.w _ _ _ (.tup ys) from⟨hz,its,r',IsTup.new _ _⟩)
  exact⟨.ref h'.objs.size,_,I2,rfl,q _ (I1.hok.fresh (Nat.le_refl _))⟩
 ·obtain⟨its,r',pl,hz⟩:=I.tuple hq
  exact call_tuple_same pl ⟨.ref p,H,I,rfl,q⟩
def tyV(K:W.Frag)(T:String)(x:V)(H:Hp):Prop:=match x with
 | .str _ => T = "str"
 | .int _ => T = "int"
 | .ref p => (T = "list" /\ ∃ xs,SqL K H p xs) ∨ (T = "tuple" /\ ∃ o,K.lookup p = some o /\ o.cls = .type "tuple" /\ o.dict = none) ∨
   (T= "dict" /\((∃kvs,H p=some (.dK kvs))∨ ∃kvs,H p=some (.dT kvs)))∨(T= "set" /\ ∃S n,H p=some (.set S n))
 |_=>False
theorem zWF{a6:List (Addr×Obj)}{σ:St}{H:Hp}{s:Shared}{T:String}{x:V}{v:Value}(I:Inv X a6 σ H s)(r:RelV x v)(ty:tyV X.K T x H):
  s.TypeIs v T/\ ∀a,v= .ref a-> ∃ob,s.heap.get? a=some ob/\ob.dict=none:=by
 cases x with
 |str z=>
  obtain⟨t,rfl⟩:=r
  cases (show T= "str" from ty)
  exact⟨typeIs_str s z t,fun _ e=>nomatch e⟩
 |int i=>
  obtain⟨t,rfl⟩:=r
  cases (show T= "int" from ty)
  exact⟨typeIs_int s i t,fun _ e=>nomatch e⟩
 |ref p=>
  cases r
  rcases ty with⟨rfl,xs,hq⟩|⟨rfl,o,hk,hc,hd⟩|⟨rfl,hk⟩|⟨rfl,S,n,hk⟩
  ·obtain⟨its,_,pl,_⟩:=I.list hq
   refine⟨pl.isList.typeIs,fun a e=> ?_⟩
   cases e
   obtain⟨o,n,e,c,hd,_⟩:=pl
   exact⟨o,e,hd⟩
  ·refine ⟨⟨o,I.kIn p o hk,hc⟩,fun a e => ?_⟩
   cases e
   exact⟨o,I.kIn _ o hk,hd⟩
  ·have z: ∃o,s.heap.get? p=some o/\o.ExactDict:=by
    rcases hk with⟨kvs,hk⟩|⟨kvs,hk⟩
    ·obtain⟨_,_,_,_,o,_,_,e,ex,_⟩:=I.hok p _ hk
     exact⟨o,e,ex⟩
    ·obtain⟨_,_,_,_,o,_,_,e,ex,_⟩:=I.hok p _ hk
     exact⟨o,e,ex⟩
   obtain⟨o,e,ex⟩:=z
   refine⟨⟨o,e,ex.1⟩,fun a e2=> ?_⟩
   cases e2
   exact⟨o,e,ex.2.1⟩
  ·obtain⟨o,_,_,_,e,ex,_⟩:=I.hok p _ hk
   refine⟨⟨o,e,ex.1⟩,fun a e2=> ?_⟩
   cases e2
   exact⟨o,e,ex.2.1⟩
 |_=>exact False.elim ty
def tBM(K:W.Frag)(T:String)(r:V->List V->Hp->VK->Prop)(to:TE)(t:TA):TE:=fun σ H Q=>to σ H fun x H1=>tyV K T x H1/\t σ H1 fun xs H2=>r x xs H2 Q
variable{o e:Expr}{es:List Expr}{to:TE}{t:TA}{name:Str}{aj a8:Pos}{T id:String}{r:V->List V->Hp->VK->Prop}
theorem yCI(pa:PlainAttrs T)(slot:Slot T name id)(hty:typeOf (.builtin id)=pure (.type "method_descriptor")) (hm:MtR X id r) (ho:PE X o to) (ha:PA X (e::es) t)
  (b9 : attributeBase o name X.env (eval o X.env) = eval o X.env := by rfl)
  (cu : ((backTo a8 (starEach (e :: es) X.env)).all (fun x => !x.1) && (backToKw a8 (keywordEach [] X.env)).all (fun x => x.1.isSome)
   && decide ((e::es).length+([]:List Keyword).length+(if([]:List Keyword).isEmpty then 0 else 1)<30))=true:=by rfl)
  (b8:(aj.endLine==a8.line)=true:=by rfl) (hs:starEach (e::es) X.env=(false,eval e X.env)::starEach es X.env:=by rfl) (aw:(backTo a8 (starEach es X.env)).any (·.1)=false:=by rfl):
  PE X (.Call (.Attribute o name aj) (e::es) [] a8) (tBM X.K T r to t):=by
 intro a6 s σ H Q I h
 refine wpAny_Call_method_late b9 cu b8 rfl (thn (ho a6 s σ H _ I h) fun v s1 ⟨x,H1,I1,r1,ty,q1⟩=> ?_)
 obtain⟨h1,h2⟩:=zWF I1 r1 ty
 refine⟨T,id,pa,slot,hty,h1,h2,?_⟩
 have hA:=ha a8 a6 s1 σ H1 _ I1 q1
 rw[hs] at hA⊢
 refine Calls.callWith_builtin (by show(false || (backTo a8 (starEach es X.env)).any (·.1))=false;rw[aw]<;>rfl) (Calls.evalArgs_plain ?_)
 exact thn hA fun us s2 ⟨vs,H2,I2,r2,q2⟩=>hm a6 s2 σ H2 x vs v us Q I2 r1 r2 q2
end
def MtM(X:Cx)(id:String)(r:V->List V->Hp->VK->Prop):Prop:=
 ∀(a6:List (Addr×Obj)) (s:Shared) (σ:St) (H:Hp) (x:V) (xs:List V) (v:Value) (us:List Value) (Q:VK),Inv X a6 σ H s->RelV x v->Vals xs us->r x xs H Q→
  wpAny (model X.prog X.w) X.A (call (.builtin id) (v::us)) (EP X a6 σ Q) X.xe s
theorem Vals.one: ∀{x:V} {us:List Value},Vals [x] us-> ∃u,us=[u]/\RelV x u
 |_,_,.cons r .nil=>⟨_,rfl,r⟩
theorem Vals.eraseIdx: ∀{xs:List V} {us:List Value} (i:Nat),Vals xs us->Vals (xs.eraseIdx i) (us.eraseIdx i)
 |_,_,_,.nil=> .nil
 |_,_,0,.cons _ t=>t
 |_,_,i+1,.cons r t=> .cons r (Vals.eraseIdx i t)
section
variable{X:Cx}{a6:List (Addr×Obj)}{σ:St}{H:Hp}{s:Shared}{l b:Addr}{xs ys zs:List V}
theorem Inv.lset{its its':List Value}{n:Nat}{f:Array Value->Array Value}{t':Nat}(I:Inv X a6 σ H s)(hH:H l=some (.lst xs))
  (e:s.heap.get? l=some {cls:= .type "list",data:= .seq its.toArray n}) (hf:f its.toArray=its'.toArray) (hv:Vals ys its') (hz:ys.length<=sizeLine):
  Inv X a6 σ (upd H l (.lst ys)) {s with heap:=s.heap.update l (Obj.mapSeq f),toks:=t'}:=by
 have q:=PySem.IsL.update e f
 rw[hf] at q
 refine I.write (x:=l) (e:=l) (by rw[hH];exact trivial) (.inl rfl) (fun b' u hb hu=>(Heap.get?_update_other s.heap (Obj.mapSeq f) (Ne.symm hb)).trans hu) ⟨_,q⟩ ?_
 exact⟨hz,its',_,hv,q⟩
theorem Inv.lnew{its:List Value}{t':Nat}(I:Inv X a6 σ H s)(hv:Vals ys its)(hz:ys.length<=sizeLine):
  Inv X a6 σ (upd H s.heap.objs.size (.lst ys)) {s with heap:=s.heap.push {cls:= .type "list",data:= .seq its.toArray},toks:=t'}:=
 I.laid (fun _ _ q=>Heap.get?_push_of_some _ q) (Nat.le_refl _) ⟨hz,its,0,hv,Heap.get?_push_size _ rfl⟩
theorem Inv.fresh(I:Inv X a6 σ H s):H s.heap.objs.size=none:=I.hok.fresh (Nat.le_refl _)
theorem Inv.lstM(I:Inv X a6 σ H s)(hH:H l=some (.lst xs)):xs.length<=sizeLine/\ ∃(its:List Value) (n:Nat),Vals xs its/\xs.length=its.length/\s.heap.get? l=some {cls:= .type "list",data:= .seq its.toArray n}:=by
 obtain⟨z,its,n,r,e⟩:=I.hok l _ hH
 exact⟨z,its,n,r,r.length,e⟩
end
section
variable{X:Cx}
def zP4:V->List V->Hp->VK->Prop:=fun x vs H Q=> ∃l xs y,x= .ref l/\vs=[y]/\H l=some (.lst xs)/\xs.length<sizeLine/\Q .non (upd H l (.lst (xs++[y])))
theorem zBF:MtM X "list.append" zP4:=by
 intro a6 s σ H x vs v us Q I rx rv h
 obtain⟨l,xs,y,rfl,rfl,hH,hz,q⟩:=h
 cases rx
 obtain⟨u,rfl,ru⟩:=rv.one
 obtain⟨z,its,n,r,hl,e⟩:=I.lstM hH
 refine call_meets F.slot_list_append ⟨_,e,rfl⟩ F.entry_list_append (F.args_list_append_2 _ _) (PySem.list_append l its.toArray n u (by rw[List.size_toArray];omega)) ⟨e,?_⟩
 refine⟨.non,_,I.lset (its':=its++[u]) hH e (by simp) (r.append (.cons ru .nil)) ?_,rfl,q⟩
 rw[List.length_append,List.length_singleton]
 omega
end
section
variable{prog:Program}{w:World}{A:Around}{E:Value->Shared->Prop}{s:Shared}
set_option maxRecDepth 100000 in
end
section
variable{κ:Type}[DecidableEq κ]
noncomputable def valV(kvs:List (κ×V))(k:κ):Option V:=(kvs.find? fun kv=>decide (kv.1=k)).map (·.2)
noncomputable def putK(kvs:List (κ×V))(k:κ)(v:V):List (κ×V):=
 if(kvs.any fun kv=>decide (kv.1=k))=true then kvs.map (fun kv=>if kv.1=k then(kv.1,v) else kv) else kvs++[(k,v)]
theorem zGP{p:κ×V}{r:List (κ×V)}{k:κ}(e:p.1=k):valV (p::r) k=some p.2:=by simp[valV,List.find?_cons,e]
theorem zF1{p:κ×V}{r:List (κ×V)}{k:κ}(e: ¬p.1=k):valV (p::r) k=valV r k:=by simp[valV,List.find?_cons,e]
theorem zII(k:κ): ∀kvs:List (κ×V),(kvs.any fun kv=>decide (kv.1=k))=(valV kvs k).isSome
 |[]=>rfl
 |p::r=>by
  rw[List.any_cons]
  by_cases e:p.1=k
  ·simp only[zGP e,decide_eq_true e,Bool.true_or,Option.isSome_some]
  ·rw[zF1 e,decide_eq_false e,Bool.false_or];exact zII k r
theorem zH5(kvs:List (κ×V))(k:κ)(v:V):(putK kvs k v).length<=kvs.length+1:=by
 unfold putK
 split
 ·rw[List.length_map];omega
 ·rw[List.length_append,List.length_cons,List.length_nil];omega
theorem zRZ{kvs:List (κ×V)}{k:κ}(v:V)(h:valV kvs k=none):putK kvs k v=kvs++[(k,v)]:=by
 unfold putK
 rw[zII,h]
 exact if_neg (by decide)
theorem RelO.isSome_eq{o:Option V}{u:Option Value}(r:RelO o u):o.isSome=u.isSome:=by
 cases o with
 |none=>cases u with
  |none=>rfl
  |some _=>exact(show False from r).elim
 |some _=>cases u with
  |none=>exact(show False from r).elim
  |some _=>rfl
theorem RelO.getD{o:Option V}{u:Option Value}{d:V}{d':Value}(r:RelO o u)(rd:RelV d d'):RelV (o.getD d) (u.getD d'):=by
 cases o with
 |none=>cases u with
  |none=>exact rd
  |some _=>exact(show False from r).elim
 |some _=>cases u with
  |none=>exact(show False from r).elim
  |some _=>exact r
theorem KV.val{kvs:List (κ×V)}{vs:List (κ×Value)}(r:KV kvs vs)(k:κ):RelO (valV kvs k) (valueAt vs k):=by
 unfold KV at r
 induction r with
 | nil => exact True.intro
 | @cons p q ps qs h t ih=>
  obtain⟨h1,h2⟩:=h
  by_cases e:p.1=k
  ·have e':q.1=k:=h1.symm.trans e
   have b:valueAt (q::qs) k=some q.2:=by simp[valueAt,List.find?_cons,e']
   rw[zGP e,b];exact h2
  ·have e' : ¬ q.1 = k := fun z => e (h1.trans z)
   have b:valueAt (q::qs) k=valueAt qs k:=by simp[valueAt,List.find?_cons,e']
   rw[zF1 e,b];exact ih
theorem KV.any{kvs:List (κ×V)}{vs:List (κ×Value)}(r:KV kvs vs)(k:κ):(kvs.any fun kv=>decide (kv.1=k))=vs.any fun kv=>decide (kv.1=k):=by
 unfold KV at r
 induction r with
 |nil=>rfl
 |cons h t ih=>rw[List.any_cons,List.any_cons,ih,h.1]
theorem KV.repl{kvs:List (κ×V)}{vs:List (κ×Value)}(r:KV kvs vs)(k:κ){y:V}{u:Value}(ry:RelV y u):
  KV (kvs.map fun kv=>if kv.1=k then(kv.1,y) else kv) (vs.map fun kv=>if kv.1=k then(kv.1,u) else kv):=by
 unfold KV at r⊢
 induction r with
 |nil=>exact .nil
 | @cons p q ps qs h t ih=>
  rw[List.map_cons,List.map_cons]
  refine .cons ?_ ih
  obtain⟨h1,h2⟩:=h
  by_cases e:p.1=k
  ·rw[if_pos e,if_pos (h1.symm.trans e)];exact⟨h1,ry⟩
  ·rw[if_neg e,if_neg (fun z=>e (h1.trans z))];exact⟨h1,h2⟩
theorem KV.put{kvs:List (κ×V)}{vs:List (κ×Value)}(r:KV kvs vs)(k:κ){y:V}{u:Value}(ry:RelV y u):KV (putK kvs k y) (stored vs k u):=by
 unfold putK stored
 rw[r.any k]
 by_cases e:(vs.any fun kv=>decide (kv.1=k))=true
 ·rw[if_pos e,if_pos e];exact r.repl k ry
 ·rw[if_neg e,if_neg e];exact Paired.snoc r ⟨rfl,ry⟩
theorem KV.length{kvs:List (κ×V)}{vs:List (κ×Value)}(r:KV kvs vs):kvs.length=vs.length:=Paired.length r
end
theorem zNO{P:Program}{w:World}{k:Key}{u:Value}(r:RelV (kV k) u):(zBD P w).is k u=true:=by
 cases k with
 |inl i=>obtain⟨t,e⟩:=(show∃t,u=Value.int i t from r);subst e;exact zL9 P w i t
 |inr x=>obtain⟨t,e⟩:=(show∃t,u=Value.str x t from r);subst e;exact zL8 P w x t
theorem zK6{P:Program}{w:World}: ∀{ks:List Key} {us:List Value},Vals (ks.map kV) us->ItemsAre (zBD P w) ks us
 |[],_,r=>by rw[List.map_nil] at r;cases r;exact .nil
 |k::ks,_,r=>by
  rw[List.map_cons] at r
  cases r with
  |cons h t=>exact .cons (zNO h) (zK6 t)
abbrev KT(H:Hp):List (List Key×V)->List (List Key×Addr×Value)->Prop:=Paired fun p q=>p.1=q.1/\H q.2.1=some (.tup (p.1.map kV))/\RelV p.2 q.2.2
theorem KT.val{H:Hp}{kvs:List (List Key×V)}{xs:List (List Key×Addr×Value)}(r:KT H kvs xs)(k:List Key):RelO (valV kvs k) ((atKey xs k).map (·.2)):=by
 induction r with
 | nil => exact True.intro
 | @cons p q ps qs h t ih=>
  obtain⟨h1,_,h2⟩:=h
  by_cases e:p.1=k
  ·have e':q.1=k:=h1.symm.trans e
   have b:atKey (q::qs) k=some q.2:=by simp[atKey,List.find?_cons,e']
   rw[zGP e,b];exact h2
  ·have e' : ¬ q.1 = k := fun z => e (h1.trans z)
   have b:atKey (q::qs) k=atKey qs k:=by simp[atKey,List.find?_cons,e']
   rw[zF1 e,b];exact ih
theorem KT.repl{H:Hp}{kvs:List (List Key×V)}{xs:List (List Key×Addr×Value)}(r:KT H kvs xs)(k:List Key){y:V}{u:Value}(ry:RelV y u):
  KT H (kvs.map fun kv=>if kv.1=k then(kv.1,y) else kv) (xs.map (putAt k u)):=by
 induction r with
 |nil=>exact .nil
 | @cons p q ps qs h t ih=>
  rw[List.map_cons,List.map_cons]
  refine .cons ?_ ih
  obtain⟨h1,h2,h3⟩:=h
  unfold putAt
  by_cases e:p.1=k
  ·rw[if_pos e,if_pos (h1.symm.trans e)];exact⟨h1,h2,ry⟩
  ·rw[if_neg e,if_neg (fun z=>e (h1.trans z))];exact⟨h1,h2,h3⟩
theorem KT.put{H:Hp}{kvs:List (List Key×V)}{xs:List (List Key×Addr×Value)}(r:KT H kvs xs)(k:List Key){b:Addr}{y:V}{u:Value}(hb:H b=some (.tup (k.map kV)))(ry:RelV y u):
  KT H (putK kvs k y) (storedH xs k b u):=by
 have e:(kvs.any fun kv=>decide (kv.1=k))=(atKey xs k).isSome:=by rw[zII,(r.val k).isSome_eq,Option.isSome_map]
 unfold putK storedH
 rw[e]
 by_cases q:(atKey xs k).isSome=true
 ·rw[if_pos q,if_pos q];exact r.repl k ry
 ·rw[if_neg q,if_neg q];exact Paired.snoc r ⟨rfl,hb,ry⟩
theorem KT.keeps{H H':Hp}{kvs:List (List Key×V)}{xs:List (List Key×Addr×Value)}(r:KT H kvs xs)(ht: ∀b ys,H b=some (.tup ys)->H' b=some (.tup ys)):KT H' kvs xs:=
 Paired.mapP r fun _ _ z=>⟨z.1,ht _ _ z.2.1,z.2.2⟩
section
variable{P:Program}{w:World}{H:Hp}{h:Heap}{a:Addr}
theorem zXI{u:HO}(ok:HOk P w H h)(e:Rd H a u):zCI P w H h a u:=e.ok ok
theorem zNQ{kvs:List (Key×V)}(ok:HOk P w H h)(e:Rd H a (.dK kvs)):kvs.length<=sizeLine/\(a==sysModules)=false/\ ∃vs,KV kvs vs/\h.DictOf (zBD P w) a vs:=
 show zCI P w H h a (.dK kvs) from zXI ok e
theorem yE4{kvs:List (Key×V)}(ok:HOk P w H h)(e:H a=some (.dK kvs)):kvs.length<=sizeLine/\(a==sysModules)=false/\ ∃vs,KV kvs vs/\h.DictOf (zBD P w) a vs:=zNQ ok (.inl e)
theorem zK4{ks:List Key}(ok:HOk P w H h)(e:H a=some (.tup (ks.map kV))):(tupleKind (zBD P w)).is h ks a:=by
 obtain⟨_,its,r,o,h1,h2,n,h3⟩:=(show zCI P w H h a (.tup (ks.map kV)) from ok a _ e)
 exact⟨o,its.toArray,n,h1,h2,h3,by simpa using zK6 r⟩
theorem zNP{kvs:List (List Key×V)}(ok:HOk P w H h)(e:Rd H a (.dT kvs)):kvs.length<=sizeLine/\(a==sysModules)=false∧
  ∃xs,KT H kvs xs/\h.DictOfH (tupleKind (zBD P w)) a xs:=by
 obtain⟨z,y,xs,r,o,es,ep,h1,h2,h3,h4,h5⟩:=(show zCI P w H h a (.dT kvs) from zXI ok e)
 refine⟨z,y,xs,r,o,es,ep,h1,h2,h3,h4,fun x hx=> ?_,h5⟩
 have all: ∀{l:List (List Key×V)} {m:List (List Key×Addr×Value)},KT H l m-> ∀x∈m,(tupleKind (zBD P w)).is h x.1 x.2.1:=by
  intro l m q
  induction q with
  | nil => intro x hx;exact nomatch hx
  | @cons p q ps qs hq t ih=>
   intro x hx
   rcases List.mem_cons.mp hx with e|hx
   ·subst e
    exact zK4 ok (by rw[<- hq.1];exact hq.2.1)
   ·exact ih x hx
 exact all r x hx
theorem yE3{kvs:List (List Key×V)}(ok:HOk P w H h)(e:H a=some (.dT kvs)):kvs.length<=sizeLine/\(a==sysModules)=false∧
  ∃xs,KT H kvs xs/\h.DictOfH (tupleKind (zBD P w)) a xs:=zNP ok (.inl e)
end
def DGet(H:Hp)(a:Addr)(y:V)(r:Option V):Prop:=
 (∃kvs k,Rd H a (.dK kvs)/\y=kV k/\r=valV kvs k)∨ ∃kvs k b,Rd H a (.dT kvs)/\y= .ref b/\H b=some (.tup (k.map kV))/\r=valV kvs k
def DPut(H:Hp)(a:Addr)(y v:V)(H':Hp):Prop:=
 (∃kvs k,H a=some (.dK kvs)/\y=kV k/\kvs.length<sizeLine/\H'=upd H a (.dK (putK kvs k v)))∨
 ∃kvs k b,H a=some (.dT kvs)/\y= .ref b/\H b=some (.tup (k.map kV))/\kvs.length<sizeLine/\H'=upd H a (.dT (putK kvs k v))
theorem DGet.k{H:Hp}{a:Addr}{kvs:List (Key×V)}{k:Key}(e:H a=some (.dK kvs)):DGet H a (kV k) (valV kvs k):= .inl ⟨kvs,k,.inl e,rfl,rfl⟩
theorem DPut.k{H:Hp}{a:Addr}{kvs:List (Key×V)}{k:Key}{v:V}(e:H a=some (.dK kvs))(hl:kvs.length<sizeLine):DPut H a (kV k) v (upd H a (.dK (putK kvs k v))):= .inl ⟨kvs,k,e,rfl,hl,rfl⟩
section
variable{X:Cx}{a6:List (Addr×Obj)}{σ:St}{H:Hp}{s:Shared}{a:Addr}{y v:V}{u r:Value}{o:Option V}{A:Around}{E:Value->Shared->Prop}
theorem Inv.big(I:Inv X a6 σ H s):sysModules<s.heap.objs.size:=by
 have h:mainGlobals<s.heap.objs.size:=(I.mod.glob.keeps I.bk).lt
 exact Nat.lt_trans (by decide) h
theorem zQM{Q:Value->Shared->Prop}(hu:A.units+1<cLine)(I:Inv X a6 σ H s)(g:DGet H a y (some v))(ry:RelV y u)(h: ∀w' s',Inv X a6 σ H s'->RelV v w'->Q w' s'):
  wpAny (model X.prog X.w) A (getItem (.ref a) u) Q E s:=by
 rcases g with⟨kvs,k,e,ey,l⟩|⟨kvs,k,b,e,ey,eb,l⟩
 ·subst ey
  obtain⟨z,hd,vs,rel,dd⟩:=zNQ I.hok e
  obtain⟨w',hw,rw'⟩:=RelO.some_of (v:=v) (o:=valueAt vs k) (by rw[l];exact rel.val k)
  exact wpAny_getItem_of (zNO ry) dd.mapOf hw (h w' _ (I.tok _) rw')
 ·subst ey
  cases (show u=Value.ref b from ry)
  obtain⟨z,hd,xs,rel,dd⟩:=zNP I.hok e
  obtain⟨w',hw,rw'⟩:=RelO.some_of (v:=v) (o:=(atKey xs k).map (·.2)) (by rw[l];exact rel.val k)
  obtain⟨p,hp,hp2⟩:=Option.map_eq_some_iff.mp hw
  refine wpAny_getItem_heap (tupleKind_room_in1 hu) (zK4 I.hok eb) dd hp ?_
  rw[hp2]
  exact h w' _ (I.tok _) rw'
theorem zQK{h':Heap}{t':Nat}{ob:HO}(I:Inv X a6 σ H s)(mu:Mut (H a))(hs:Heap.SameBut a s.heap h')(he: ∃q,h'.get? a=some q)(new:zCI X.prog X.w (upd H a ob) h' a ob):
  Inv X a6 σ (upd H a ob) {s with heap:=h',toks:=t'}:=
 I.write (x:=a) (e:=a) mu (.inl rfl) (fun b q hb z=>(hs.2 b hb).trans z) he new
theorem zTW{P:Program}{w:World}{H':Hp}{h':Heap}{kvs:List (Key×V)}{vs:List (Key×Value)}(z:kvs.length<=sizeLine)(hd:(a==sysModules)=false)(rel:KV kvs vs)(dd:h'.DictOf (zBD P w) a vs):
  zCI P w H' h' a (.dK kvs):=⟨z,hd,vs,rel,dd⟩
theorem zQL{H':Hp}{Q:Unit->Shared->Prop}(hu:A.units+1<cLine)(I:Inv X a6 σ H s)(g:DPut H a y v H')(ry:RelV y u)(rv:RelV v r)(h: ∀s',Inv X a6 σ H' s'->Q () s'):
  wpAny (model X.prog X.w) A (setItem (.ref a) u r) Q E s:=by
 rcases g with⟨kvs,k,e,ey,l,eH⟩|⟨kvs,k,b,e,ey,eb,l,eH⟩
 ·subst ey eH
  obtain⟨z,hd,vs,rel,dd⟩:=yE4 I.hok e
  have hz:vs.length<=sizeLine:=by rw[<- rel.length];exact z
  have hl:(putK kvs k v).length<=sizeLine:=by have:=zH5 kvs k v;omega
  refine wpAny_setItem_pairs (hsz:=hz) (zNO ry) dd fun h' dd' hs=>h _ ?_
  have he: ∃q,h'.get? a=some q:=let ⟨q,_,_,hq,_⟩:=dd';⟨q,hq⟩
  exact zQK I (by rw[e];exact True.intro) hs he (zTW hl hd (rel.put k rv) dd')
 ·subst ey eH
  cases (show u=Value.ref b from ry)
  obtain⟨z,hd,xs,rel,dd⟩:=yE3 I.hok e
  have hz:xs.length<=sizeLine:=by rw[<- Paired.length rel];exact z
  have hl:(putK kvs k v).length<=sizeLine:=by have:=zH5 kvs k v;omega
  refine wpAny_setItem_heap (hsz:=hz) (tupleKind_room_in1 hu) (zK4 I.hok eb) dd fun h' dd' hs=>h _ ?_
  obtain⟨q,es,ep,hq,h2,h3,h4,_,h5⟩:=dd'
  refine zQK I (by rw[e];exact True.intro) hs ⟨q,hq⟩ ⟨hl,hd,_,(rel.put k eb rv).keeps fun c ys ec=> ?_,q,es,ep,hq,h2,h3,h4,h5⟩
  rw[zB3 (yDE ec e (fun z=>nomatch z))]
  exact ec
end
theorem zLG{X:Cx}{a6:List (Addr×Obj)}{σ:St}{H:Hp}{s:Shared}{a:Addr}{y:V}{o:Option V}(I:Inv X a6 σ H s)(g:DGet H a y o):s.TypeIs (.ref a) "dict":=by
 rcases g with⟨kvs,k,e,_,_⟩|⟨kvs,k,b,e,_,_,_⟩
 ·obtain⟨_,_,vs,_,dd⟩:=zNQ I.hok e
  exact dd.typeIs
 ·obtain⟨_,_,xs,_,dd⟩:=zNP I.hok e
  exact dd.typeIs
def yBX(td ty tv:TE):TS:=fun D σ H=>tv σ H fun v H1=>td σ H1 fun x H2=>ty σ H2 fun y H3=> ∃a H4,x= .ref a/\DPut H3 a y v H4/\D.nx σ H4
section
variable{X:Cx}{o i e value:Expr}{pos ap cg:Pos}{td ty tv:TE}
theorem zUZ(hu:X.A.units+1<cLine)(ho:PE X o td)(hi:PE X i ty)(hv:PE X value tv)(hs:swapsWith value (some (.Subscript o i ap)) pos.line X.env=pure false):
  PS X (.Assign [.Subscript o i ap] value pos) (yBX td ty tv):=by
 intro a6 s σ H D I h
 refine wpAny_Assign_Subscript (thn (hv a6 s σ H _ I h) fun r s1 ⟨v,H1,I1,rv,q1⟩=>thn (ho a6 s1 σ H1 _ I1 q1) fun u s2 ⟨x,H2,I2,rx,q2⟩=>thn (hi a6 s2 σ H2 _ I2 q2) fun iv s3 ⟨y,H3,I3,ry,a,H4,ex,g,q3⟩=> ?_) hs
 subst ex
 obtain rfl:u=Value.ref a:=rx
 exact zQL hu I3 g ry rv fun s4 I4=>⟨σ,H4,I4,q3⟩
end
theorem zSS{P:Program}{w:World}{H:Hp}(h:Heap)(hb:sysModules<h.objs.size):zCI P w H (h.push {cls:= .type "dict",data:= .dict #[]}) h.objs.size (.dK []):=
 ⟨Nat.zero_le _,beq_eq_false_iff_ne.mpr (Ne.symm (Nat.ne_of_lt hb)),[],.nil,Heap.DictOf.new h⟩
def zWN:TE:=fun _ H Q=> ∀p,H p=none->Q (.ref p) (upd H p (.dK []))
section
variable{X:Cx}{pos:Pos}
theorem zS6:PE X (.Dict [] [] pos) zWN:=fun a6 s σ H Q I h=>
 wpAny_Dict_empty ⟨.ref s.heap.objs.size,_,I.laid (a:=s.heap.objs.size) (o:= .dK []) (t':=s.toks) (fun _ _ q=>Heap.get?_push_of_some _ q) (Nat.le_refl _) (zSS s.heap I.big),rfl,h _ (I.hok.fresh (Nat.le_refl _))⟩
end
noncomputable def zK3(kvs more:List (Key×V)):List (Key×V):=more.foldl (fun acc kv=>putK acc kv.1 kv.2) kvs
theorem KV.merge: ∀{more:List (Key×V)} {rs:List (Key×Value)} {kvs:List (Key×V)} {vs:List (Key×Value)},KV more rs->KV kvs vs->KV (zK3 kvs more) (merged vs rs):=by
 intro more rs kvs vs r
 unfold KV at r
 induction r generalizing kvs vs with
 | nil => intro q;exact q
 | @cons p q ps qs h t ih=>
  intro r0
  have e:KV (putK kvs p.1 p.2) (stored vs q.1 q.2):=by
   have:=r0.put p.1 h.2
   rw[<- h.1];exact this
  exact ih e
structure M1(X:Cx)(o:Expr)(m:Str)(aj:Pos)(e:Expr)(a8:Pos):Prop where
 base:attributeBase o m X.env (eval o X.env)=eval o X.env
 few:((backTo a8 (starEach [e] X.env)).all (fun x=> !x.1) && (backToKw a8 (keywordEach [] X.env)).all (fun x=>x.1.isSome)
  && decide (([e]:List Expr).length+([]:List Keyword).length+(if([]:List Keyword).isEmpty then 0 else 1)<30))=true
 line:(aj.endLine==a8.line)=true
 trees:backTo a8 (starEach [e] X.env)=[(false,eval e X.env)]
structure M2(X:Cx)(o:Expr)(m:Str)(aj:Pos)(e f:Expr)(a8:Pos):Prop where
 base:attributeBase o m X.env (eval o X.env)=eval o X.env
 few:((backTo a8 (starEach [e,f] X.env)).all (fun x=> !x.1) && (backToKw a8 (keywordEach [] X.env)).all (fun x=>x.1.isSome)
  && decide (([e,f]:List Expr).length+([]:List Keyword).length+(if([]:List Keyword).isEmpty then 0 else 1)<30))=true
 line:(aj.endLine==a8.line)=true
 trees:backTo a8 (starEach [e,f] X.env)=[(false,eval e X.env),(false,eval f X.env)]
def IsD(H:Hp)(a:Addr):Prop:=(∃kvs,Rd H a (.dK kvs))∨ ∃kvs,Rd H a (.dT kvs)
theorem zTR{X:Cx}{a6:List (Addr×Obj)}{σ:St}{H:Hp}{s:Shared}{a:Addr}(I:Inv X a6 σ H s)(d:IsD H a):
  s.TypeIs (.ref a) "dict" /\(∀b,Value.ref a= .ref b-> ∃ob,s.heap.get? b=some ob/\ob.dict=none)/\(a==sysModules)=false:=by
 rcases d with⟨kvs,e⟩|⟨kvs,e⟩
 ·obtain⟨_,hd,vs,_,dd⟩:=zNQ I.hok e
  refine⟨dd.typeIs,fun b q=> ?_,hd⟩
  cases q
  obtain⟨ob,_,_,h1,h2,_⟩:=dd
  exact⟨ob,h1,h2.2.1⟩
 ·obtain⟨_,hd,xs,_,dd⟩:=zNP I.hok e
  refine⟨dd.typeIs,fun b q=> ?_,hd⟩
  cases q
  obtain⟨ob,_,_,h1,h2,_⟩:=dd
  exact⟨ob,h1,h2.2.1⟩
section
variable{X:Cx}{a6:List (Addr×Obj)}{σ:St}{H:Hp}{s:Shared}{a:Addr}{y d:V}{u r:Value}{o:Option V}{A:Around}{E:Value->Shared->Prop}
theorem yAF{Q:Value->Shared->Prop}(hu:A.units+1<cLine)(I:Inv X a6 σ H s)(g:DGet H a y o)(ry:RelV y u)(h: ∀w' s',Inv X a6 σ H s'->RelV (o.getD .non) w'->Q w' s'):
  wpAny (model X.prog X.w) A (call (.builtin "dict.get") [.ref a,u]) Q E s:=by
 rcases g with⟨kvs,k,e,ey,l⟩|⟨kvs,k,b,e,ey,eb,l⟩
 ·subst ey
  obtain⟨z,hd,vs,rel,dd⟩:=zNQ I.hok e
  refine call_meetsIn PySem.F.slot_dict_get dd.typeIs PySem.F.entry_dict_get (PySem.F.args_dict_get_2 _ _) (meets_dict_get (zBD X.prog X.w) a (zNO ry) hd) ⟨_,dd.mapOf,h _ _ (I.tok _) ?_⟩
  rw[l]
  exact(rel.val k).getD rfl
 ·subst ey
  cases (show u=Value.ref b from ry)
  obtain⟨z,hd,xs,rel,dd⟩:=zNP I.hok e
  refine call_meetsIn PySem.F.slot_dict_get dd.typeIs PySem.F.entry_dict_get (PySem.F.args_dict_get_2 _ _) (meetsH_dict_get (tupleKind (zBD X.prog X.w)) a b hd) ⟨tupleKind_room_in1 hu,k,xs,zK4 I.hok eb,dd,h _ _ (I.tok _) ?_⟩
  rw[l]
  exact(rel.val k).getD rfl
theorem yAE{Q:Value->Shared->Prop}(hu:A.units+1<cLine)(I:Inv X a6 σ H s)(g:DGet H a y o)(ry:RelV y u)(rd:RelV d r)(h: ∀w' s',Inv X a6 σ H s'->RelV (o.getD d) w'->Q w' s'):
  wpAny (model X.prog X.w) A (call (.builtin "dict.get") [.ref a,u,r]) Q E s:=by
 rcases g with⟨kvs,k,e,ey,l⟩|⟨kvs,k,b,e,ey,eb,l⟩
 ·subst ey
  obtain⟨z,hd,vs,rel,dd⟩:=zNQ I.hok e
  refine call_meetsIn PySem.F.slot_dict_get dd.typeIs PySem.F.entry_dict_get (PySem.F.args_dict_get_3 _ _ _) (meets_dict_get_default (zBD X.prog X.w) a (zNO ry) hd r) ⟨_,dd.mapOf,h _ _ (I.tok _) ?_⟩
  rw[l]
  exact(rel.val k).getD rd
 ·subst ey
  cases (show u=Value.ref b from ry)
  obtain⟨z,hd,xs,rel,dd⟩:=zNP I.hok e
  refine call_meetsIn PySem.F.slot_dict_get dd.typeIs PySem.F.entry_dict_get (PySem.F.args_dict_get_3 _ _ _) (meetsH_dict_get_default (tupleKind (zBD X.prog X.w)) a b hd r) ⟨tupleKind_room_in1 hu,k,xs,zK4 I.hok eb,dd,h _ _ (I.tok _) ?_⟩
  rw[l]
  exact(rel.val k).getD rd
end
def zWO(td ty tx:TE):TE:=fun σ H Q=>td σ H fun x H1=> ∃a,x= .ref a/\IsD H1 a/\ty σ H1 fun y H2=>tx σ H2 fun z H3=> ∃o,DGet H3 a y o/\Q (o.getD z) H3
section
variable{X:Cx}{o e f:Expr}{aj a8:Pos}{td ty tx:TE}
theorem zS7(hu:X.A.units+1<cLine)(ho:PE X o td)(he:PE X e ty)(hf:PE X f tx)(m:M2 X o "get" aj e f a8):PE X (.Call (.Attribute o "get" aj) [e,f] [] a8) (zWO td ty tx):=by
 intro a6 s σ H Q I h
 refine wpAny_Call_method m.base m.few m.line PySem.F.plainAttrs_dict PySem.F.slot_dict_get PySem.F.type_dict_get (thn (ho a6 s σ H _ I h) fun u s1 ⟨x,H1,I1,rx,a,ex,d,q1⟩=> ?_)
 subst ex
 obtain rfl:u=Value.ref a:=rx
 obtain⟨t1,t2,_⟩:=zTR I1 d
 refine⟨t1,t2,?_⟩
 rw[m.trees]
 refine Calls.callWith_builtin rfl (Calls.evalArgs_plain (Calls.spliced_cons (thn (he a6 s1 σ H1 _ I1 q1) fun iv s2 ⟨y,H2,I2,ry,q2⟩=>
  Calls.spliced_cons (thn (hf a6 s2 σ H2 _ I2 q2) fun fv s3 ⟨z,H3,I3,rz,ov,g,q3⟩=>Calls.spliced_nil ?_))))
 exact yAE hu I3 g ry rz fun w' s4 I4 rw'=>⟨_,H3,I4,rw',q3⟩
end
end L2
namespace Att
open PySem PySem.W PySem.Calls PyProof.Rows
theorem zHA{P:Params}{h:Heap}: ∀(ns:List Int) (vs:List Value),WellAll P h vs (ns.map WData.int)->IntsAre vs ns:=by
 intro ns
 induction ns with
 |nil=>
  intro vs w
  rw[List.map_nil] at w
  cases w
  exact .nil
 |cons n ns ih=>
  intro vs w
  rw[List.map_cons] at w
  cases w with
  |cons a b=>
   cases a
   exact .cons _ _ (ih _ b)
theorem zOI{l:OpenLaw}{n:Nat}(hn:l.most=some n){P:Params}{h:Heap}{args:List WData}{vals:List Value}
  (hpre:l.row.toRowW.claim.pre args=true) (hwl:WellAll P h vals args):
  ∃a vs ns,vals=[Value.ref a]/\args=[WData.list (ns.map WData.int)]/\h.get? a=some {cls:= .type "list",data:= .seq vs.toArray}/\IntsAre vs ns/\ns.length<=n:=by
 have hsh:WShape.hasAll [] args [.list .int]=true:=(pre_splitW hpre).1
 have hc:l.pre.holds [] {args:=args}=true:=(pre_splitW hpre).2
 obtain⟨d,r,rfl,h1,h2⟩:=hasAllW_cons hsh
 obtain rfl:=hasAllW_nil h2
 obtain⟨xs,rfl,h3⟩:=hasW_list h1
 obtain⟨ns,rfl⟩:=items_int h3
 have aa:ns.length<=n:=by
  unfold OpenLaw.pre at hc
  have h4:(WTm.not (.lt (.lit (.int (n:Int))) (.len (.arg 0)))).holds [] {args:=[.list (ns.map .int)]}=true:=by
   have h4:=(holds_andW hc).1
   rw[hn] at h4
   exact h4
  have h5:=condW_of h4 (w_not (w_lt w_lit (w_len_list (w_arg rfl))))
  rw[List.length_map] at h5
  refine Nat.le_of_not_lt fun q=> ?_
  have q':(n:Int)<((ns.length:Nat):Int):=by omega
  first
   |(rw[decide_eq_true q'] at h5;exact absurd h5 (by decide))
   |(simp at h5;omega)
 cases hwl with
 |cons w1 w2=>
  cases w2
  cases w1 with
  |list ho i5=>exact⟨_,_,ns,rfl,rfl,ho,zHA ns _ i5,aa⟩
theorem zPA(l:OpenLaw)(args:List WData):l.row.toRowW.claim.post args (.bool true) args=true:=
 postW_of (r:=l.row.toRowW) (X:=(true==true))
  (show WShape.has [] (.bool true) .bool=true by first|rfl|decide|simp[WShape.has,WShape.arms,WShape.armsAll])
  (show(WTm.eq .res (.lit (.bool true))).value [] {args:=args,res:=some (.bool true),after:=args}=some (.bool (true==true)) from w_eq_bool (w_res rfl) w_lit) rfl
theorem zLL{l:OpenLaw}{n:Nat}{q:Program}{loose:List Str}{XP:(Str->Option Value)->Heap->Prop}{YP:World->Heap->Prop}{d:DefRec}
  (hn:l.most=some n) (hdf:d.params.defaults=[])
  (call: ∀(w:World) (s₀ s₁:Shared) (mg mb:Str->Option Value) (fa:Addr) (o:Obj) (pm cd doc:Value) (a:Addr) (vs:List Value) (ns:List Int),
   Ground q loose [] XP w s₀ mg mb s₁.heap->YP w s₁.heap→
   s₁.heap.get? fa=some o->o.data= .func (docDef d.name d.params d.body d.scope pm cd doc)->s₁.heap.CodeRec cd d.name->mg d.name=some (.ref fa)→
   s₁.heap.get? a=some {cls:= .type "list",data:= .seq vs.toArray}->IntsAre vs ns->ns.length<=n->s₁.gens= #[]→
   codeAny (model l.prog w) callerA (.call (.ref fa) ⟨[.ref a],[]⟩) (fun r s'=>r= .ok (.ret (.bool true))/\OldK s₁.heap s'.heap/\s'.os=s₁.os/\AllBare s'.gens) s₁):
  WalkO q loose XP YP l.row.toRowW d [] (fun f vs=>PySem.call f vs):=by
 intro w s₀ s₁ mg mb G Y fa o pm cd doc dV kV ho hd hcd hD hmg hg args vals as hpre hlay hrd hwl hlo
 obtain rfl:dV= .none:=Dflts.none hD hdf
 obtain rfl:kV= .none:=Dflts.noKw hD
 obtain⟨a,vs,ns,rfl,rfl,hobj,hints,aa⟩:=zOI hn hpre hwl
 refine enter_call (codeAny_mono (call w s₀ s₁ mg mb fa o pm cd doc a vs ns G Y ho (fd_plain hd) hcd hmg hobj hints aa hg) fun r s' hq=> ?_)
 obtain⟨rfl,h2,h3,h4⟩:=hq
 exact⟨.inl ⟨.bool true,.bool true,[],rfl,fun _=>rfl,.bool true,zPA l _,fun _=>⟨List.Pairwise.nil,fun _ hm=>(nomatch hm)⟩⟩,h2,h3,h4⟩
end Att
namespace L2
open PySem PySem.Spec PyProof.Rows
theorem zJG: ∀{vs:List Value} {ns:List Int},IntsAre vs ns->Vals (ns.map V.int) vs
 |_,_,.nil=> .nil
 |_,_,.cons n t h=> .cons ⟨t,rfl⟩ (zJG h)
def Only(H:Hp):Prop:= ∀b,H b=none∨ ∃o xs,H b=some (.frz o (.lst xs))
theorem zSI{P:Program}{w:World}{K:W.Frag}{mg mb:Str->Option Value}{CX:CXT}{k:Nat}{fa a:Addr}{fd:FuncData}{x:Str}{sp:Sp}{s₁:Shared}{vs:List Value}{ns:List Int}
  (KX:K.In s₁.heap) (hns:s₁.heap.Ns mainGlobals mg) (hb:s₁.heap.Ns builtinsNs mb) (hbb: ∀x:Str,x≠ "__name__" ->mb x=bootBuiltins x) (o6:s₁.heap.NoLimit) (hg:s₁.gens= #[])
  (ha:s₁.heap.get? a=some {cls:= .type "list",data:= .seq vs.toArray}) (hi:IntsAre vs ns) (hl:ns.length<=sizeLine) (hr:Room k callerA)
  (F: ∀base:Heap,K.In base->base.Ns mainGlobals mg->FnOk P w K mg base CX k fa fd [x] sp) (lx: ∀(s:Shared) (u:Value),BindsTo s fd ⟨[u],[]⟩ [(x,u)])
  (hsp : ∀ H : Hp,Only H -> SqL K H a (ns.map V.int) -> sp [.ref a] H (fun v _ => v = .bl true) fun _ _ _ => False)
  (hCX : ∀ H e s',CX [] H s₁ (fun _ _ _ => False) e s' -> False) :
  codeAny (model P w) callerA (.call (.ref fa) ⟨[.ref a],[]⟩) (fun r s'=>r= .ok (.ret (.bool true))/\OldK s₁.heap s'.heap/\s'.os=s₁.os/\AllBare s'.gens) s₁:=by
 have rv:=zJG hi
 have mq:=hi.length
 have ly: ∀H:Hp,Only H->SqL K H a (ns.map V.int)->HOk P w H s₁.heap->(∀b,H b≠none->b=a)->(H a≠none->K.lookup a=none)→
   codeAny (model P w) callerA (.call (.ref fa) ⟨[.ref a],[]⟩) (fun r s'=>r= .ok (.ret (.bool true))/\OldK s₁.heap s'.heap/\s'.os=s₁.os/\AllBare s'.gens) s₁:=by
  intro H hO hS hok hA hK
  have d7: ∀{b:Addr} {o:Obj},s₁.heap.get? b=some o->H b=none->(hidT s₁.heap H).get? b=some o:=fun e n=>zSP e n
  have noA: ∀{b:Addr} {o:Obj} {es:Array DictEntry} {ep:Nat},s₁.heap.get? b=some o->o.data= .dict es ep->H b=none:=fun{b o es ep} e d=>by
   cases q:H b with
   | none => rfl
   |some u=>
    have e':b=a:=hA b (by rw[q];simp)
    subst e'
    rw[ha] at e;cases e
    have d':Data.seq vs.toArray _=Data.dict es ep:=d
    cases d'
  have nsK: ∀{b:Addr} {m:Str->Option Value},s₁.heap.Ns b m->(hidT s₁.heap H).Ns b m:=fun{b m} ⟨o,es,ep,e,d,r⟩=>⟨o,es,ep,d7 e (noA e d),d,r⟩
  have hKb:K.In (hidT s₁.heap H):=fun b o e=>d7 (KX b o e) (by
   cases q:H b with
   | none => rfl
   |some u=>
    have e':b=a:=hA b (by rw[q];simp)
    subst e'
    rw[hK (by rw[q];simp)] at e;cases e)
  have hM:Mod K mg (hidT s₁.heap H):=⟨hKb,nsK hns,⟨mb,nsK hb,hbb⟩,let ⟨mc,h1,h2⟩:=o6;⟨mc,nsK h1,h2⟩⟩
  have e0:Env0 P w K mg (hidT s₁.heap H) callerA [] s₁ H:=⟨rfl,hM,fun b o e=>zVE e,Nat.le_of_eq (zQ7 _ _),trivial,fun b hb=>absurd (show b∈([]:List Addr) from hb) (by simp),hok,.of_eq hg⟩
  refine codeAny_mono ((F _ hKb (nsK hns)).run callerA [] s₁ H ⟨[.ref a],[]⟩ [.ref a] [.ref a] _ _ hr e0 (lx s₁ (.ref a)) (.cons rfl .nil) (hsp H hO hS)) fun r s' h=> ?_
  cases r with
  | error e => exact (hCX H e s' h).elim
  |ok fl=>
   cases fl with
   | next => exact False.elim h
   | brk => exact False.elim h
   | cont => exact False.elim h
   |ret u=>
    obtain⟨v,H',os,bare,un,nj,r',q⟩:=h
    have q':v= .bl true:=q
    subst q'
    obtain rfl:u=Value.bool true:=r'
    refine⟨rfl,OldK.of_keep fun b o e=> ?_,os,bare⟩
    cases q:H b with
    | none => exact un.keep b o e q (by intro z;exact absurd (show b ∈ ([] : List Addr) from z) (by simp)) (by simp)
    |some u=>
     rcases hO b with z|⟨ob,xs,z⟩
     ·rw[q] at z;cases z
     ·have z2:=un.frzs b ob _ z
      obtain⟨e1,_⟩:=hok b _ z
      obtain⟨e2,_⟩:=nj b _ z2
      rw[e] at e1;cases e1
      exact e2
 cases hk:K.lookup a with
 |some o=>
  have e:=KX a o hk
  rw[ha] at e
  cases e
  refine ly (fun _=>none) (fun _=> .inl rfl) (.inr ⟨_,vs.toArray,_,hk,rfl,rfl,rfl,by rw[List.size_toArray,mq];exact hl,by simpa using rv⟩) (fun b u z=>by have z':(none:Option HO)=some u:=z;cases z') (fun b z=>absurd rfl z) fun z=>absurd rfl z
 |none=>
  refine ly (fun b=>if b=a then some (.frz {cls:= .type "list",data:= .seq vs.toArray} (.lst (ns.map V.int))) else none) (fun b=> ?_) (.inl (.inr ⟨{cls:= .type "list",data:= .seq vs.toArray},if_pos rfl⟩)) (fun b u z=> ?_) (fun b z=> ?_) fun _=>hk
  ·by_cases hb:b=a
   ·exact .inr ⟨_,_,if_pos hb⟩
   ·exact .inl (if_neg hb)
  ·by_cases hb:b=a
   ·have z':=(if_pos hb).symm.trans z
    cases z'
    subst hb
    exact⟨ha,by rw[List.length_map];exact hl,vs,_,rv,ha⟩
   ·have z':=(if_neg hb).symm.trans z
    cases z'
  ·by_cases hb:b=a
   ·exact hb
   ·exact absurd (if_neg hb) z
theorem zU4{l:W.OpenLaw}{n k:Nat}{q:Program}{loose:List Str}{XP:(Str->Option Value)->Heap->Prop}{YP:World->Heap->Prop}{d:DefRec}{K:Params->W.Frag}{CX:World->CXT}{sp:World->Sp}{x:Str}
  (hn:l.most=some n) (hn2:n<=sizeLine) (hdf:d.params.defaults=[]) (hr:Room k callerA)
  (hY: ∀(w:World) (h:Heap),YP w h->(K w.params).In h)
  (F: ∀(w:World) (mg:Str->Option Value) (fa:Addr) (h:Heap),(K w.params).In h->h.Ns mainGlobals mg->mg d.name=some (.ref fa)→
   ∃fd:FuncData,(∀(s:Shared) (u:Value),BindsTo s fd ⟨[u],[]⟩ [(x,u)])∧
    ∀base:Heap,(K w.params).In base->base.Ns mainGlobals mg->FnOk l.prog w (K w.params) mg base (CX w) k fa fd [x] (sp w))
  (hsp: ∀(w:World) (H:Hp) (a:Addr) (ns:List Int),ns.length<=n->Only H->SqL (K w.params) H a (ns.map V.int)->sp w [.ref a] H (fun v _=>v= .bl true) fun _ _ _=>False)
  (hCX: ∀(w:World) (H:Hp) (s:Shared) (e:Value) (s':Shared),CX w [] H s (fun _ _ _=>False) e s'->False):
  W.WalkO q loose XP YP l.row.toRowW d [] (fun f vs=>PySem.call f vs):=by
 refine Att.zLL hn hdf fun w s₀ s₁ mg mb fa o pm cd doc a vs ns G Y ho hd hcd hmg hobj hints aa hg=> ?_
 have KX:=hY w _ Y
 obtain⟨fd,hb,hF⟩:=F w mg fa _ KX G.T.g hmg
 exact zSI KX G.T.g G.T.b G.T.builtins G.T.nolimit hg hobj hints (Nat.le_trans aa hn2) hr hF hb (fun H hO hS=>hsp w H a ns aa hO hS) fun H e s'=>hCX w H s₁ e s'
theorem zR5{l:W.OpenLaw}{n k:Nat}{q:Program}{loose:List Str}{XP:(Str->Option Value)->Heap->Prop}{YP:World->Heap->Prop}{d:DefRec}{K:Params->W.Frag}{CX:CXT}{sp:W.Frag->Sp}{x:Str}
  (hn:l.most=some n) (hn2:n<=sizeLine) (hdf:d.params.defaults=[]) (hr:Room k callerA)
  (hY: ∀(w:World) (h:Heap),YP w h->(K w.params).In h)
  (F: ∀(w:World) (mg:Str->Option Value) (fa:Addr) (h:Heap),(K w.params).In h->h.Ns mainGlobals mg->mg d.name=some (.ref fa)→
   ∃fd:FuncData,(∀(s:Shared) (u:Value),BindsTo s fd ⟨[u],[]⟩ [(x,u)])∧
    ∀base:Heap,(K w.params).In base->base.Ns mainGlobals mg->FnOk l.prog w (K w.params) mg base CX k fa fd [x] (sp (K w.params)))
  (hsp: ∀(K:W.Frag) (H:Hp) (a:Addr) (ns:List Int),ns.length<=n->Only H->SqL K H a (ns.map V.int)->sp K [.ref a] H (fun v _=>v= .bl true) fun _ _ _=>False)
  (hCX: ∀(H:Hp) (s:Shared) (e:Value) (s':Shared),CX [] H s (fun _ _ _=>False) e s'->False):
  W.WalkO q loose XP YP l.row.toRowW d [] (fun f vs=>PySem.call f vs):=
 zU4 (K:=K) (CX:=fun _=>CX) (sp:=fun w=>sp (K w.params)) hn hn2 hdf hr hY F (fun w H a ns h1 h2 h3=>hsp (K w.params) H a ns h1 h2 h3) fun _ H s e s'=>hCX H s e s'
noncomputable def zBX(s:Stmt):Arguments:=match s with
 | .FunctionDef _ a _ _ _ _ _ _ _ _=>a
 |_=>{posonlyargs:=[],args:=[],vararg:=none,kwonlyargs:=[],kw_defaults:=[],kwarg:=none,defaults:=[]}
noncomputable def zBL(s:Stmt):List Stmt:=match s with
 | .FunctionDef _ _ b _ _ _ _ _ _ _=>b
 |_=>[]
noncomputable def zA5(s:Stmt):Scope:=match s with
 | .FunctionDef _ _ _ _ _ _ sc _ _ _=>sc
 |_=>{kind:= .function,names:=[],isGenerator:=false,isCoroutine:=false}
abbrev CX0:CXT:=fun _ _ _ _ _ _=>False
abbrev E0:XK:=fun _ _ _=>False
theorem zV9{X:Cx}:zR1 CX0 X E0:=fun _ _ _ _ _ _ _ h=>h.elim
structure Fun(K:W.Frag)(x qual:Str)(st:Stmt)(f:Addr)(fd:FuncData):Prop where
 ex: ∃(oc:Value) (od:Option Addr) (kV doc pm:Value) (an:Option Addr) (cdv ct:Value) (osl:Array (Option Value)),
  fd=W.fnOf x qual (zBX st) (zBL st) (zA5 st) .none kV doc pm an cdv ct/\K.lookup f=some ⟨oc,od,.func fd,osl⟩/\W.codeIn K cdv qual=true
 kp:W.keepIn K (.ref f)=true
section
variable{P:Program}{w:World}{K:W.Frag}{mg:Str->Option Value}{base:Heap}
theorem Fun.ok{x qual:Str}{st:Stmt}{f:Addr}{fd:FuncData}{N ps:List Str}{k:Nat}{sp:Sp}(F:Fun K x qual st f fd)(S:zAE N ps (zA5 st))(len: ∀vs H Q E,sp vs H Q E->vs.length=ps.length)
  (b5: ∀(cdv:Value) (A:Around) (outer:List Env) (s:Shared) (H:Hp) (vs:List V) (Q:VK) (E:XK),Room k (A.deeper (envOfC qual (zA5 st) s.heap.objs.size f cdv))->sp vs H Q E→
   ∃t,PSs (cxOf CX0 P w K mg base N qual (zA5 st) f cdv A outer s H E).nox (zBL st) t/\t {nx:=fun _ H'=>Q .non H',rt:=Q} (zFL N vs) H):FnOk P w K mg base CX0 (k+1) f fd ps sp:=by
 obtain⟨oc,od,kV,doc,pm,an,cdv,ct,osl,rfl,lk,hcd⟩:=F.ex
 refine yA9 lk hcd S len fun A outer s H vs Q E hr hsp=> ?_
 obtain⟨t,h,q⟩:=b5 cdv A outer s H vs Q E hr hsp
 exact⟨t,h.nox,q⟩
theorem Fun.binds{x qual:Str}{st:Stmt}{f:Addr}{fd:FuncData}{ps:List Str}(F:Fun K x qual st f fd)
  (h: ∀(kV doc pm:Value) (an:Option Addr) (cdv ct:Value) (us:List Value),us.length=ps.length->bindArgs (W.fnOf x qual (zBX st) (zBL st) (zA5 st) .none kV doc pm an cdv ct) ⟨us,[]⟩=pure (ps.zip us)):zJB K fd ps []:=by
 obtain⟨oc,od,kV,doc,pm,an,cdv,ct,osl,rfl,lk,hcd⟩:=F.ex
 exact .all (h kV doc pm an cdv ct)
theorem zTU{x qual:Str}{st:Stmt}{f:Addr}{oc:Value}{od an:Option Addr}{osl:Array (Option Value)}{kV doc pm cdv ct:Value}(l:K.lookup f=some ⟨oc,od,.func (W.fnOf x qual (zBX st) (zBL st) (zA5 st) .none kV doc pm an cdv ct),osl⟩)
  (c:W.codeIn K cdv qual=true) (k:W.keepIn K (.ref f)=true):Fun K x qual st f (W.fnOf x qual (zBX st) (zBL st) (zA5 st) .none kV doc pm an cdv ct):=⟨⟨oc,od,kV,doc,pm,an,cdv,ct,osl,rfl,l,c⟩,k⟩
end
theorem yA8{A:Around}{k:Nat}(hr:Room k A):A.units+1<cLine:=Nat.lt_of_le_of_lt (Nat.add_le_add_left (by decide:1<=64) _) hr.units
section
variable{X:Cx}
theorem pv(i:Nat){x:Str}{pos:Pos}(hN:X.N[i]? =some x:=by rfl)(hv:Vis X.env.scope x:=by first|exact Or.inl rfl|exact Or.inr (Or.inl rfl)|exact Or.inr (Or.inr rfl))(hd:(x==("__debug__":Str))=false:=by decide)
  (hcd:(x==("__classdict__":Str))=false:=by decide):PE X (.Name x pos) (tVar i):=zPH hN hv hd hcd
end
theorem iteF{A B:Prop}(h:B):if false=true then A else B:=by
 rw[if_neg Bool.false_ne_true]
 exact h
theorem iteT{A B:Prop}(h:A):if true=true then A else B:=by
 rw[if_pos rfl]
 exact h
def Same(H H':Hp):Prop:= ∀b o,H b=some o->H' b=some o
theorem Same.refl(H:Hp):Same H H:=fun _ _ h=>h
theorem Same.trans{H H1 H2:Hp}(a:Same H H1)(b:Same H1 H2):Same H H2:=fun c o h=>b c o (a c o h)
theorem Same.seq{K:W.Frag}{H H':Hp}{a:Addr}{xs:List V}(e:Same H H')(h:SqL K H a xs):SqL K H' a xs:=by
 rcases h with(h|⟨o,h⟩)|h
 ·exact .inl (.inl (e _ _ h))
 ·exact .inl (.inr ⟨o,e _ _ h⟩)
 ·exact .inr h
theorem zLH{env:Env}{f:Str×NameKind->List (Str×Addr)->Sem (ForInStep (List (Str×Addr)))}
  (hf : ∀ n k r,f (n,k) r = if (k == NameKind.free) = true then (cellOf env n >>= fun c => pure (ForInStep.yield ((n,c) :: r))) else pure (ForInStep.yield r)) :
  ∀(names:List (Str×NameKind)) (cs:List (Str×Addr)),(∀y∈names,y.2= .free-> ∃c,env.cells.lookup y.1=some c)→
   ∃cl,forIn names cs f=(pure cl:Sem (List (Str×Addr)))/\(∀x c,cl.lookup x=some c->cs.lookup x=some c∨env.cells.lookup x=some c)∧
    (∀x c,cs.lookup x=some c-> ∃c',cl.lookup x=some c')/\ ∀x,(x,NameKind.free)∈names-> ∃c,cl.lookup x=some c
 | [],cs,_ => ⟨cs,rfl,fun _ _ e => .inl e,fun _ c e => ⟨c,e⟩,fun _ h => nomatch h⟩
 | (n,k) :: r,cs,h => by
  have hr: ∀y∈r,y.2= .free-> ∃c,env.cells.lookup y.1=some c:=fun y hy=>h y (List.mem_cons_of_mem _ hy)
  by_cases hk:k= .free
  ·subst hk
   obtain⟨c,hc⟩:=h (n,.free) List.mem_cons_self rfl
   have hc:env.cells.lookup n=some c:=hc
   obtain⟨cl,e1,e2,e3,e4⟩:=zLH hf r ((n,c)::cs) hr
   refine⟨cl,?_,fun x c' e=> ?_,fun x c' e=> ?_,fun x hx=> ?_⟩
   ·rw [List.forIn_cons,hf,if_pos (show (NameKind.free == NameKind.free) = true by decide)]
    have ec:cellOf env n=pure c:=by unfold cellOf;rw[hc]
    rw[ec,pure_bind,pure_bind]
    exact e1
   ·rcases e2 x c' e with q|q
    ·by_cases hx:x=n
     ·subst hx
      rw[List.lookup_cons_self] at q
      cases q
      exact .inr hc
     ·rw[List.lookup_cons,beq_eq_false_iff_ne.mpr hx] at q
      exact .inl q
    ·exact .inr q
   ·by_cases hx:x=n
    ·subst hx
     exact e3 x c (List.lookup_cons_self ..)
    ·refine e3 x c' ?_
     rw[List.lookup_cons,beq_eq_false_iff_ne.mpr hx]
     exact e
   ·rcases List.mem_cons.mp hx with q|q
    ·cases q
     exact e3 n c (List.lookup_cons_self ..)
    ·exact e4 x q
  ·obtain⟨cl,e1,e2,e3,e4⟩:=zLH hf r cs hr
   refine⟨cl,?_,e2,e3,fun x hx=> ?_⟩
   ·have hb : ¬ (k == NameKind.free) = true := by simpa using hk
    rw[List.forIn_cons,hf,if_neg hb,pure_bind]
    exact e1
   ·rcases List.mem_cons.mp hx with q|q
    ·cases q
     exact absurd rfl hk
    ·exact e4 x q
theorem zQO{env:Env}{scope:Scope}(h: ∀y∈scope.names,y.2= .free-> ∃c,env.cells.lookup y.1=some c):
  ∃cl,closureFor scope env=pure cl/\(∀x c,cl.lookup x=some c->env.cells.lookup x=some c)/\ ∀x,(x,NameKind.free)∈scope.names-> ∃c,cl.lookup x=some c:=by
 simp only[closureFor]
 obtain⟨cl,e1,e2,_,e4⟩:=zLH (env:=env) (f:=fun x r=>match x with
  |(name,kind)=>if(kind==NameKind.free)=true then(cellOf env name>>=fun c=>pure (ForInStep.yield ((name,c)::r))) else pure (ForInStep.yield r)) (fun _ _ _=>rfl) scope.names [] h
 refine⟨cl,?_,fun x c e=> ?_,e4⟩
 ·first
   |exact e1
   |(refine Eq.trans (congrArg (fun m=>m>>=pure) e1) ?_;exact pure_bind _ _)
 ·rcases e2 x c e with q|q
  ·cases q
  ·exact q
noncomputable def caps(ix:List Nat)(σ:St):St:=ix.map fun i=>(σ[i]?).join
def PTs(Y:Cx)(ifs:List Expr)(tt:TT):Prop:=
 ∀(a6:List (Addr×Obj)) (s:Shared) (σ:St) (H:Hp) (Q:Bool->Hp->Prop),Inv Y a6 σ H s->tt σ H Q→
  wpAny (model Y.prog Y.w) Y.A (forIn ifs true fun c r=>if r=true then do let ok<- isTrue c Y.env (eval c Y.env);pure (ForInStep.yield ok) else pure (ForInStep.yield r)) (TP Y a6 σ Q) Y.xe s
def tYes:TT:=fun _ H Q=>Q true H
theorem zUW{Y:Cx}:PTs Y [] tYes:=fun _ _ _ H _ I h=>wpAny_tests_nil ⟨H,I,h⟩
theorem zUV{Y:Cx}{c:Expr}{tt:TT}(h:PT Y c tt):PTs Y [c] tt:=fun a6 s σ H Q I hw=>wpAny_tests_one (h a6 s σ H Q I hw)
structure Blk(Y:Cx)(tg:Expr)(ifs:List Expr)(elt:Expr)(g:TG)(tt:TT)(te:TE):Prop where
 tg:PG Y tg g
 ts:PTs Y ifs tt
 el:PE Y elt te
theorem zQN{prog:Program}{w:World}{A:Around}{s:Shared}{elt b6 iter:Expr}{ifs:List Expr}{scope:Scope}{pos:Pos}{it acc:Value}{env:Env}{R:Result->Shared->Prop}(I:Nat->Shared->Prop)
  (turn : ∀ n s,I n s -> wpAny (model prog w) A (pyNext it) (fun r s₁ => match r with
   | none => R (.ok .next) s₁
   | some v => wpAny (model prog w) A (letOwnedTupleGo b6 it v) (fun _ s₀ => wpAny (model prog w) A (assign b6 env v) (fun _ s₂ =>
     wpAny (model prog w) A (forIn ifs true fun c r=>if r=true then do let ok<- isTrue c env (eval c env);pure (ForInStep.yield ok) else pure (ForInStep.yield r)) (fun ok s₃=>if ok=true then wpAny (model prog w) A (eval elt env) (fun x s₄=>
      wpAny (model prog w) A (call (.builtin "list.append") [acc,x]) (fun _ s₅=> ∃m,m<n/\I m s₅) (fun _ _=>False) s₄) (fun _ _=>False) s₃
      else∃m,m<n/\I m s₃) (fun _ _=>False) s₂)
     (fun _ _=>False) s₀) (fun _ _=>False) s₁) (fun _ _=>False) s)
  (n:Nat) (h:I n s):codeAny (model prog w) A (.compLoop (.ListComp elt [⟨b6,iter,ifs,0⟩] scope pos) 0 it acc env) R s:=by
 refine codeAny_loop rfl I (fun n s hI=> ?_) n h
 show wpAny _ A ((compTurn (.ListComp elt [⟨b6,iter,ifs,0⟩] scope pos) 0 it acc env).onRaise (fun x=>do noteFrame x env;theTreesLotGoes x)) _ _ s
 refine wpAny_noted ?_
 rw[compTurn_list]
 refine wpAny_bind (wpAny_standAt (wpAny_bind (wpAny_mono (turn n s hI) (fun r s₁ h₁=> ?_) fun _ _ h'=>h'.elim)))
 cases r with
 |none=>exact wpAny_pure h₁
 |some v=>
  refine wpAny_bind (wpAny_mono h₁ (fun _ s₀ h₀'=> ?_) fun _ _ h'=>h'.elim)
  refine wpAny_bind (wpAny_mono h₀' (fun _ s₂ h₂=> ?_) fun _ _ h'=>h'.elim)
  refine wpAny_bind (wpAny_mono h₂ (fun okb s₃ h₃=> ?_) fun _ _ h'=>h'.elim)
  cases okb with
  |false=>exact wpAny_pure ⟨rfl,h₃⟩
  |true=>exact wpAny_bind (wpAny_bind (wpAny_mono h₃ (fun x s₄ h₄=>wpAny_bind (wpAny_mono h₄ (fun _ s₅ h₅=>wpAny_pure (wpAny_pure ⟨rfl,h₅⟩)) fun _ _ h'=>h'.elim)) fun _ _ h'=>h'.elim))
section
variable{X:Cx}{a6:List (Addr×Obj)}{σ:St}{H H':Hp}{s s1 s':Shared}{h'':Heap}
theorem Inv.offNew{σ':St}{H1:Hp}(I1:Inv X a6 σ H1 s1)(I':Inv X a6 σ' H' s')(hn:H' s1.heap.objs.size=none)(sb: ∀b o,b≠s1.heap.objs.size->s'.heap.get? b=some o->h''.get? b=some o):
  Inv X a6 σ' H' {s' with heap:=h''}:=
 I'.turned (t':=s'.toks) (it:=s1.heap.objs.size) sb hn (Nat.ne_of_gt I1.lt) (.inr I1.sz)
  (fun x c e z => by
   obtain⟨v,q⟩:=I1.cell x c e
   have:=q.lt
   rw[z] at this
   exact Nat.lt_irrefl _ this)
  fun p hp z=>by
   have:=Heap.lt_size (I1.pin p hp).1
   rw[z] at this
   exact Nat.lt_irrefl _ this
end
def yAR(D:Addr)(ix:List Nat)(nl:Nat)(J:It)(g:TG)(tt:TT)(te:TE)(σ:St)(H0:Hp)(Q:Hp->Prop):Prop:=
 ∃W:Nat->Nat->List V->Hp->Prop,(∃m,W 0 m [] (upd H0 D (.lst [])))/\ ∀i m acc H1,W i m acc H1→
  (J.stop i H1/\Q H1)∨
  (J.go i H1/\ ∃N:List V->Hp->Prop,(∀ar H',N ar H'-> ∃m',m'<m/\W (i+1) m' ar H')∧
   ∀x H2,J.yld i H1 x H2->g x (caps ix σ++List.replicate nl none) H2 fun σ2 H3=>σ2.take ix.length=caps ix σ∧
    tt σ2 H3 fun b H4=>if b=true then te σ2 H4 fun v H5=>H5 D=some (.lst acc)/\acc.length<sizeLine/\N (acc++[v]) (upd H5 D (.lst (acc++[v]))) else N acc H4)
theorem zGD{env:Env}{x:Str}: ∀{l:List (Str×NameKind)},l.lookup x=some .free→
  (l.map fun (n,k) => if (k == NameKind.free && env.scope.kind == .function && env.kindOf n == some .cell) then (n,NameKind.cell) else (n,k)).lookup x = some .cell ∨
  (l.map fun (n,k) => if (k == NameKind.free && env.scope.kind == .function && env.kindOf n == some .cell) then (n,NameKind.cell) else (n,k)).lookup x = some .free
 | [],h => by cases h
 | (n,k) :: r,h => by
  show List.lookup x ((if(k==NameKind.free && env.scope.kind== .function && env.kindOf n==some .cell)=true then(n,NameKind.cell) else(n,k))::_)=some .cell∨List.lookup x ((if(k==NameKind.free && env.scope.kind== .function && env.kindOf n==some .cell)=true then(n,NameKind.cell) else(n,k))::_)=some .free
  by_cases hx:x=n
  ·subst hx
   rw[List.lookup_cons_self] at h
   cases h
   by_cases hc:(NameKind.free==NameKind.free && env.scope.kind== .function && env.kindOf x==some .cell)=true
   ·left
    rw[if_pos hc,List.lookup_cons_self]
   ·right
    rw[if_neg hc,List.lookup_cons_self]
  ·have hb:(x==n)=false:=beq_eq_false_iff_ne.mpr hx
   simp only[List.lookup_cons,hb] at h
   have ih:=zGD (env:=env) h
   by_cases hc:(k==NameKind.free && env.scope.kind== .function && env.kindOf n==some .cell)=true
   ·rw[if_pos hc]
    simp only[List.lookup_cons,hb]
    exact ih
   ·rw[if_neg hc]
    simp only[List.lookup_cons,hb]
    exact ih
def zRL(ix:List Nat)(nl:Nat)(wi:TI)(g:TG)(tt:TT)(te:TE):TE:=fun σ H Q=>wi σ H fun J H0=> ∀D,H0 D=none->yAR D ix nl J g tt te σ H0 fun H'=>Q (.ref D) H'
mutual
inductive Dp(K:W.Frag)(H:Hp):V->PyData->Prop
 |non:Dp K H .non .none
 |bl (b:Bool):Dp K H (.bl b) (.bool b)
 |int (i:Int):Dp K H (.int i) (.int i)
 |str (x:Str):Dp K H (.str x) (.str x)
 |lst {a:Addr} {xs:List V} {ds:List PyData}:SqL K H a xs->zLP K H xs ds->Dp K H (.ref a) (.list ds)
 |tup {a:Addr} {xs:List V} {ds:List PyData}:SqT K H a xs->zLP K H xs ds->Dp K H (.ref a) (.tuple ds)
inductive zLP(K:W.Frag)(H:Hp):List V->List PyData->Prop
 |nil:zLP K H [] []
 |cons {v:V} {vs:List V} {d:PyData} {ds:List PyData}:Dp K H v d->zLP K H vs ds->zLP K H (v::vs) (d::ds)
end
section
variable{X:Cx}{a6:List (Addr×Obj)}{σ:St}{H:Hp}{s:Shared}
mutual
theorem Inv.reads(I:Inv X a6 σ H s): ∀{v:V} {d:PyData} {u:Value},Dp X.K H v d->RelV v u-> ∃as,Reads s.heap u d as
 |_,_,_,.non,r=>by cases r;exact⟨_,.none⟩
 |_,_,_,.bl b,r=>by cases r;exact⟨_,.bool b⟩
 |_,_,_,.int i,r=>by obtain⟨t,rfl⟩:=r;exact⟨_,.int i t⟩
 |_,_,_,.str x,r=>by obtain⟨t,rfl⟩:=r;exact⟨_,.str x t⟩
 |_,_,_,.lst q all,r=>by
  cases r
  obtain⟨its,rv,⟨o,n,e,c,_,d⟩,_⟩:=I.list q
  obtain⟨as,h⟩:=Inv.readsAll I all rv
  exact⟨_,.list e c d (by simpa using h)⟩
 |_,_,_,.tup q all,r=>by
  cases r
  obtain⟨its,rv,⟨o,e,c,n,d⟩,_⟩:=I.tuple q
  obtain⟨as,h⟩:=Inv.readsAll I all rv
  exact⟨_,.tuple e c d (by simpa using h)⟩
theorem Inv.readsAll(I:Inv X a6 σ H s): ∀{vs:List V} {ds:List PyData} {us:List Value},zLP X.K H vs ds->Vals vs us-> ∃as,ReadsAll s.heap us ds as
 | _,_,_,.nil,r => by cases r;exact ⟨_,.nil⟩
 | _,_,_,.cons h t,r => by
  cases r with
  |cons r1 r2=>
   obtain⟨as,h1⟩:=Inv.reads I h r1
   obtain⟨bs,h2⟩:=Inv.readsAll I t r2
   exact⟨_,.cons h1 h2⟩
end
end
def rEqD(K:W.Frag):R2:=fun x y H Q=> ∃d e,Dp K H x d/\Dp K H y e/\SeqAt.shaped d=true/\SeqAt.shaped e=true/\Q (.bl (PyData.eqv d e)) H
def rNeD(K:W.Frag):R2:=fun x y H Q=> ∃d e,Dp K H x d/\Dp K H y e/\SeqAt.shaped d=true/\SeqAt.shaped e=true/\Q (.bl (!PyData.eqv d e)) H
section
variable{X:Cx}
theorem zYF(hu:X.A.units+64<cLine):OpR X (compareOp .Eq) (rEqD X.K):=by
 intro a6 s σ H x y v u Q I rx ry h
 obtain⟨d,e,hd,he,sd,se,q⟩:=h
 obtain⟨as,h1⟩:=I.reads hd rx
 obtain⟨bs,h2⟩:=I.reads he ry
 exact eq_dataH h1 h2 sd se hu (zMX I q rfl)
theorem zYB(hu:X.A.units+64<cLine):OpR X (compareOp .NotEq) (rNeD X.K):=by
 intro a6 s σ H x y v u Q I rx ry h
 obtain⟨d,e,hd,he,sd,se,q⟩:=h
 obtain⟨as,h1⟩:=I.reads hd rx
 obtain⟨bs,h2⟩:=I.reads he ry
 exact ne_dataH h1 h2 sd se hu (zMX I q rfl)
def rngP(p:Addr)(a b c:Int):Heap->Prop:=fun h=> ∃t u v,IsRange h p a b c t u v
inductive zNU:List DictEntry->List (Str×V)->Prop
 |nil:zNU [] []
 |cons {e:DictEntry} {es:List DictEntry} {x:Str} {t:Tok} {v:V} {D:List (Str×V)}:e.key= .str x t->RelV v e.val->zNU es D->zNU (e::es) ((x,v)::D)
def KTab(K:W.Frag)(a:Addr)(D:List (Str×V)):Prop:=
 (a==sysModules)=false/\ ∃o es ep,K.lookup a=some o/\o.ExactDict/\o.data= .dict es ep/\zNU es.toList D
theorem zNU.rows{es:List DictEntry}{D:List (Str×V)}(h:zNU es D):KTD.Rows RelV es D:=by
 induction h with
 |nil=>exact .nil
 |cons h1 h2 _ ih=>exact .cons h1 h2 ih
theorem zMQ{A:Around}{E:Value->Shared->Prop}{s:Shared}{K:W.Frag}{prog:Program}{w:World}{a:Addr}{D:List (Str×V)}{k:Str}{tk:Tok}{Q:Option Value->Shared->Prop}(hK:K.In s.heap)(T:KTab K a D)
  (h1: ∀d v,KTD.datumAt k D=some d->RelV d v->Q (some v) {s with toks:=s.toks+1}) (h2:KTD.datumAt k D=none->Q none {s with toks:=s.toks+1}):
  wpAny (model prog w) A (dictGet a (.str k tk)) Q E s:=by
 obtain⟨_,o,es,ep,ho,hc,hd,hr⟩:=T
 have ho:=hK _ _ ho
 have hr:=hr.rows
 unfold dictGet
 try with_reducible refine wpAny_holding ?_
 refine wpAny_bind (wpAny_pyHash_str (wpAny_bind (KTD.kt_dictFind_strs (s:={s with toks:=s.toks+1}) ho hd (by obtain⟨l⟩:=es;simpa using hr.exact) ?_)))
 have hq:Q (findBy (fun k v=>v.isStr k) es k) {s with toks:=s.toks+1}:=by
  have hf:findBy (fun k v=>v.isStr k) es k=(es.toList.find? fun e=>e.key.isStr k).map (·.val):=by
   obtain⟨l⟩:=es
   simp[findBy]
  rw[hf]
  cases hat:KTD.datumAt k D with
  |some d=>obtain⟨v,hv,hfl⟩:=hr.find_some hat;rw[hv];exact h1 d v hat hfl
  |none=>rw[hr.find_none hat];exact h2 hat
 rw[findBy_of_findIdx?] at hq
 cases hi:es.findIdx? fun e=>e.key.isStr k with
 |none=>rw[hi] at hq;exact wpAny_pure hq
 |some i=>rw[hi] at hq;exact wpAny_bind (wpAny_dictEntries (s:={s with toks:=s.toks+1}) ho hd (wpAny_pure hq))
theorem zVS:IxR X (fun x y H Q=> ∃a k D v,x= .ref a/\y= .str k/\KTab X.K a D/\KTD.datumAt k D=some v/\Q v H):=by
 intro value slice a6 s σ H x y v u Q I rx ry h hs
 obtain⟨a,k,D,d,rfl,rfl,T,hk,q⟩:=h
 cases rx
 obtain⟨t,rfl⟩:=ry
 have hT:s.TypeIs (.ref a) "dict":=by
  obtain⟨_,o,es,ep,ho,hc,_⟩:=T
  exact⟨o,I.kIn _ _ ho,hc.1⟩
 have main:wpAny (model X.prog X.w) X.A (getItem (.ref a) (.str k t)) (EP X a6 σ Q) X.xe s:=by
  unfold getItem
  try with_reducible refine wpAny_holding ?_
  refine wpAny_bind (wpAny_sequenceKey hT (by decide) ?_)
  refine wpAny_bind (wpAny_callSpecial?_slot (name:=Str.ofString "__getitem__") hT PySem.F.slot_dict_getitem
   (wpAny_call_entry PySem.F.slot_dict_getitem hT PySem.F.entry_dict_getitem ?_ (PySem.F.args_dict_getitem_2 _ _)))
  show wpAny _ _ (dictGet a (.str k t)>>=_) _ _ s
  exact wpAny_bind (zMQ I.kIn T (fun d' v' ha hv=>wpAny_pure ⟨v',rfl,wpAny_pure (by
   rw[hk] at ha;cases ha
   exact⟨d,H,I.tok _,hv,q⟩)⟩) fun hn=>by rw[hk] at hn;cases hn)
 exact tail_any hT PySem.F.slot_dict_getitem.lookup main hs
end
section
variable{prog:Program}{w:World}{A:Around}{E:Value->Shared->Prop}{s:Shared}
theorem zKH{it t:Addr}{items:Array Value}(hne:t≠it): ∀(n i:Nat) (s:Shared) (Q:List Value->Shared->Prop),s.heap.IsListIter it t i->s.heap.IsList t items->i+n<=items.size→
  (∀h',h'.IsListIter it t (i+n)->Heap.SameBut it s.heap h'->Q ((items.toList.drop i).take n) {s with heap:=h'})->wpAny (model prog w) A (draw (.ref it) n) Q E s
 |0,i,s,Q,hit,_,_,hQ=>by
  show wpAny _ _ (pure []) Q E s
  exact wpAny_pure (by simpa using hQ s.heap hit (Heap.SameBut.refl ..))
 |n+1,i,s,Q,hit,ht,hle,hQ=>by
  have hlt:i<items.size:=by omega
  show wpAny _ _ (pyNext (.ref it)>>=_) Q E s
  refine wpAny_bind (wpAny_pyNext_list_item hit ht (x:=items[i]) (by simp[hlt]) fun h₁ hit₁ hs₁=> ?_)
  refine wpAny_bind (wpAny_holding (zKH hne n (i+1) _ _ hit₁ (ht.extBut hs₁.extBut hne) (by omega) fun h₂ hit₂ hs₂=>wpAny_pure ?_))
  have hd:items.toList.drop i=items[i]::items.toList.drop (i+1):=by simp[List.drop_eq_getElem_cons,hlt]
  have:=hQ h₂ (by rw[show i+(n+1)=i+1+n by omega];exact hit₂) (hs₁.trans hs₂)
  rw[hd,List.take_succ_cons] at this
  exact this
theorem zGK{t:Addr}{items:Array Value}{Q:List Value->Shared->Prop}(hh:A.handled=none)(ht:s.heap.IsList t items)
  (hQ: ∀h',Heap.ExtBut s.heap.objs.size s.heap h'->Q items.toList {s with heap:=h'}):wpAny (model prog w) A (unpackItems (.ref t) items.size none) Q E s:=by
 have hlt:t≠s.heap.objs.size:=by obtain⟨o,ho,_⟩:=ht;exact Nat.ne_of_lt (Heap.lt_size ho)
 unfold unpackItems
 refine wpAny_bind ?_
 ·unfold notIterableAtAll
  refine wpAny_bind (wpAny_specialOf ht.typeIs PySem.F.slot_list_iter.lookup ?_)
  refine wpAny_pure ?_
  simp only[Bool.false_eq_true,if_false]
  refine wpAny_bind (wpAny_holding (wpAny_pyIter_list ht ?_))
  have htp:(s.heap.push {cls:= .type "list_iterator",data:= .fields #[.ref t,.int 0 0]}).IsList t items:=by
   obtain⟨o,ho,r⟩:=ht
   exact⟨o,Heap.get?_push_of_some _ ho,r⟩
  refine wpAny_bind (wpAny_holding (zKH hlt items.size 0 _ _ ⟨_,Heap.get?_push_size _ rfl,rfl,rfl⟩ htp (by omega) fun h₁ hit₁ hs₁=> ?_))
  have i5:List.take items.size (List.drop 0 items.toList)=items.toList:=by rw[List.drop_zero];exact List.take_of_length_le (by simp)
  rw[i5]
  rw[if_neg (by simp)]
  have ht₁:h₁.IsList t items:=htp.extBut hs₁.extBut hlt
  refine wpAny_bind (wpAny_holding (wpAny_pyNext_list_end hh hit₁ ht₁ (by simp) fun h₂ he₂=> ?_))
  simp only[Option.isSome_none,Bool.false_eq_true,if_false]
  refine wpAny_pure (hQ h₂ fun b o hb e=>he₂ b o hb (hs₁.extBut b o hb (Heap.get?_push_of_some _ e)))
theorem zG3{env:Env}{gm:List Expr}{x1}{pos:Pos}{t:Addr}{items:Array Value}{Q:Unit->Shared->Prop}(hh:A.handled=none)(ht:s.heap.IsList t items)
  (hn:(assignEach gm env).length=items.size) (ll:(assignEach gm env).findIdx? (·.1)=none)
  (h: ∀h',Heap.ExtBut s.heap.objs.size s.heap h'->wpAny (model prog w) A (assignInOrder ((assignEach gm env).map (·.2)) items.toList) Q E {s with heap:=h'}):
  wpAny (model prog w) A (assign (.Tuple gm x1 pos) env (.ref t)) Q E s:=by
 rw[assign_Tuple]
 refine wpAny_bind (wpAny_standAt ?_)
 unfold unpack
 rw[hn,ll]
 exact wpAny_bind (wpAny_holding (zGK hh ht h))
end
section
variable{X:Cx}{pos:Pos}
def gLst(K:W.Frag)(n:Nat)(t:TGs):TG:=fun v σ H Q=> ∃a xs,v= .ref a/\SqL K H a xs/\xs.length=n/\t xs σ H Q
theorem zY2{es:List Expr}{k:Nat}{t:TGs}{n:Nat}(hc:X.calm=true)(h:PGs X es t)
  (hn:(assignEach es X.env).length=n:=by rfl) (hst:(assignEach es X.env).findIdx? (·.1)=none:=by rfl):PG X (.Tuple es k pos) (gLst X.K n t):=by
 intro a6 s σ H v u Q I r hw
 obtain⟨a,xs,e1,hq,hl,hw⟩:=hw
 subst e1
 cases r
 obtain⟨its,rv,ht,hz⟩:=I.list hq
 refine zG3 (I.ok.hd hc) ht.isList (by simp[hn,<- hl,rv.length]) hst fun h' hx=> ?_
 have I1:Inv X a6 σ H {s with heap:=h'}:=I.kept (t':=s.toks) fun b o e=>hx b o (Nat.ne_of_lt (Heap.lt_size e)) e
 exact h a6 _ σ H xs _ Q I1 (by simpa using rv) hw
def FnAt(X:Cx)(f:Addr)(sp:Sp):Prop:= ∃(k:Nat) (fd:FuncData) (ps:List Str),FnOk X.prog X.w X.K X.mg X.base CX0 k f fd ps sp/\Room k X.A/\W.keepIn X.K (.ref f)=true/\zJB X.K fd ps []
def zWP(X:Cx)(tf:TE)(t:TA):TE:=fun σ H Q=>tf σ H fun x H1=> ∃f sp,x= .ref f/\FnAt X f sp/\t σ H1 fun vs H2=>sp vs H2 Q E0
theorem zSA{x:Str}{p pos:Pos}{e:Expr}{es:List Expr}{tf:TE}{t:TA}(hf:PE X (.Name x p) tf)(ha:PA X (e::es) t)
  (he:starEach (e::es) X.env=(false,eval e X.env)::starEach es X.env:=by rfl) (hpl:(backTo pos (starEach es X.env)).any (·.1)=false:=by rfl):
  PE X (.Call (.Name x p) (e::es) [] pos) (zWP X tf t):=by
 intro a6 s σ H Q I h
 refine wpAny_Call_Name_kw (thn (hf a6 s σ H _ I h) fun u s1 ⟨x,H1,I1,rx,f,sp,ex,F,q⟩=> ?_)
 subst ex
 obtain rfl:u=Value.ref f:=rx
 obtain⟨k,fd,ps,F,hr,hk,hb⟩:=F
 refine W.callWith_K (h₀:=X.base) I.ok.mod.kin hk (thn (ha pos a6 s1 σ H1 _ I1 q) fun us s2 ⟨vs,H2,I2,r,q2⟩=>⟨I2.kIn,?_⟩) he hpl
 refine zT8 (dvs:=[]) (ds:=[]) F hr hb .nil zV9 I2 r ?_
 rw[List.append_nil]
 exact q2
end
section
variable{X:Cx}{K:W.Frag}
theorem yDN(h:X.K=K):zC7 X (.type "list") (fun xs H Q=> ∃p ys,xs=[.ref p]/\(SqL K H p ys∨SqT K H p ys)/\ ∀l,H l=none->Q (.ref l) (upd H l (.lst ys))):=by subst h;exact zKN
theorem zZY(h:X.K=K):zC7 X (.type "tuple") (fun xs H Q=> ∃p ys,xs=[.ref p]/\((SqL K H p ys/\ ∀l,H l=none->Q (.ref l) (upd H l (.tup ys)))∨(SqT K H p ys/\Q (.ref p) H))):=by subst h;exact zJ6
theorem kEqD(h:X.K=K)(hu:X.A.units+64<cLine):OpR X (compareOp .Eq) (rEqD K):=by subst h;exact zYF hu
theorem kNeD(h:X.K=K)(hu:X.A.units+64<cLine):OpR X (compareOp .NotEq) (rNeD K):=by subst h;exact zYB hu
theorem zZT(h:X.K=K){es:List Expr}{k:Nat}{t:TGs}{n:Nat}{pos:Pos}(hc:X.calm=true)(hg:PGs X es t)(hn:(assignEach es X.env).length=n:=by rfl)(hst:(assignEach es X.env).findIdx? (·.1)=none:=by rfl):PG X (.Tuple es k pos) (gTup K n t):=by subst h;exact zY0 hc hg hn hst
theorem yDM(h:X.K=K){es:List Expr}{k:Nat}{t:TGs}{n:Nat}{pos:Pos}(hc:X.calm=true)(hg:PGs X es t)(hn:(assignEach es X.env).length=n:=by rfl)(hst:(assignEach es X.env).findIdx? (·.1)=none:=by rfl):PG X (.Tuple es k pos) (gLst K n t):=by subst h;exact zY2 hc hg hn hst
theorem zTQ(h:X.K=K){tg l:Expr}{tl:TE}(hl:PE X l tl):PI X tg l (yA7 K tl):=by subst h;exact zV3 hl
theorem zZR(h:X.K=K){tg l:Expr}{tl:TE}(hl:PE X l tl):PI X tg l (iTup K tl):=by subst h;exact zXZ hl
theorem kBm(h:X.K=K){o e:Expr}{es:List Expr}{to:TE}{t:TA}{name:Str}{aj a8:Pos}{T id:String}{r:V->List V->Hp->VK->Prop}(pa:PlainAttrs T)(slot:Slot T name id)(hty:typeOf (.builtin id)=pure (.type "method_descriptor")) (hm:MtR X id r) (ho:PE X o to) (ha:PA X (e::es) t)
  (b9 : attributeBase o name X.env (eval o X.env) = eval o X.env := by rfl)
  (cu : ((backTo a8 (starEach (e :: es) X.env)).all (fun x => !x.1) && (backToKw a8 (keywordEach [] X.env)).all (fun x => x.1.isSome)
   && decide ((e::es).length+([]:List Keyword).length+(if([]:List Keyword).isEmpty then 0 else 1)<30))=true:=by rfl)
  (b8:(aj.endLine==a8.line)=true:=by rfl) (hs:starEach (e::es) X.env=(false,eval e X.env)::starEach es X.env:=by rfl) (aw:(backTo a8 (starEach es X.env)).any (·.1)=false:=by rfl):
  PE X (.Call (.Attribute o name aj) (e::es) [] a8) (tBM K T r to t):=by
 subst h;exact yCI pa slot hty hm ho ha b9 cu b8 hs aw
end
theorem yAJ:bootBuiltins "len"=some (.builtin "len"):=by decide+kernel
theorem zQY:bootBuiltins "min"=some (.builtin "min"):=by decide+kernel
theorem zTZ:bootBuiltins "max"=some (.builtin "max"):=by decide+kernel
theorem zQX:bootBuiltins "sorted"=some (.builtin "sorted"):=by decide+kernel
theorem zJ8:bootBuiltins "isinstance"=some (.builtin "isinstance"):=by decide+kernel
theorem zG2:bootBuiltins "list"=some (.type "list"):=by decide+kernel
theorem zD9:bootBuiltins "tuple"=some (.type "tuple"):=by decide+kernel
theorem zSV:bootBuiltins "range"=some (.type "range"):=by decide+kernel
theorem zW5:bootBuiltins "bool"=some (.type "bool"):=by decide+kernel
theorem yAK:bootBuiltins "int"=some (.type "int"):=by decide+kernel
theorem yAI:bootBuiltins "str"=some (.type "str"):=by decide+kernel
structure Def(P:Program)(w:World)(K:W.Frag)(mg:Str->Option Value)(base:Heap)(x:Str)(k:Nat)(ps:List Str)(sp:Sp)(f:Addr):Prop where
 at_:mg x=some (.ref f)
 ok: ∃fd,FnOk P w K mg base CX0 k f fd ps sp/\zJB K fd ps []
 kp:W.keepIn K (.ref f)=true
section
variable{X:Cx}{x:Str}{k j:Nat}{ps:List Str}{sp:Sp}{f:Addr}{p pos:Pos}{e:Expr}{es:List Expr}{t:TA}
theorem zMG(D:Def X.prog X.w X.K X.mg X.base x k ps sp f)(hr:Room j X.A)(hk:k<=j)(hg:Gl X x)(ha:PA X (e::es) t)(hdb:(x==("__debug__":Str))=false:=by decide)
  (he:starEach (e::es) X.env=(false,eval e X.env)::starEach es X.env:=by rfl) (hpl:(backTo pos (starEach es X.env)).any (·.1)=false:=by rfl):
  PE X (.Call (.Name x p) (e::es) [] pos) (zUI sp [] E0 t):=by
 obtain⟨fd,F,B⟩:=D.ok
 exact zPI F (hr.mono hk) hg D.at_ D.kp B .nil zV9 ha hdb he hpl
theorem Def.fnAt(D:Def X.prog X.w X.K X.mg X.base x k ps sp f)(hr:Room j X.A)(hk:k<=j):FnAt X f sp:=by
 obtain⟨fd,F,B⟩:=D.ok
 exact⟨k,fd,ps,F,hr.mono hk,D.kp,B⟩
end
theorem zA4{H:Hp}{p:Addr}{o:HO}(hp:H p=none):Same H (upd H p o):=fun b o' e=>by
 rw[zB3 (zCU e hp)]
 exact e
theorem zL0(ns:List Int):SeqAt.shaped (.list (ns.map PyData.int))=true:=by
 have h1:PyData.canLay0 (.list (ns.map PyData.int))=true:=by simp only[PyData.canLay0,canLayAll_ints]
 have h2:PyData.depth (.list (ns.map PyData.int))<=64:=by
  simp only[PyData.depth,depthAll_ints]
  decide
 unfold SeqAt.shaped
 rw[h1,decide_eq_true h2]
 rfl
inductive Dat where
 |non|bl (b:Bool)|int (i:Int)|str (x:Str)|ty (n:String)|fn (x:Str)|tup (ds:List Dat)|lst (ds:List Dat)|dct (ks:List Key) (ds:List Dat)
def FzL(K:W.Frag)(H:Hp)(a:Addr)(xs:List V):Prop:=
 (∃o,H a=some (.frz o (.lst xs)))∨
  ∃(o:Obj) (its:Array Value) (n:Nat),K.lookup a=some o/\o.cls= .type "list" /\o.dict=none/\o.data= .seq its n/\its.size<=sizeLine/\Vals xs its.toList
theorem FzL.sq{K:W.Frag}{H:Hp}{a:Addr}{xs:List V}(h:FzL K H a xs):SqL K H a xs:=by
 rcases h with⟨o,h⟩|h
 ·exact .inl (.inr ⟨o,h⟩)
 ·exact .inr h
mutual
inductive Rep(K:W.Frag)(N:Addr->Prop)(H:Hp):(Addr->Prop)->V->Dat->Prop
 |non {M:Addr->Prop}:Rep K N H M .non .non
 |bl {M:Addr->Prop} (b:Bool):Rep K N H M (.bl b) (.bl b)
 |int {M:Addr->Prop} (i:Int):Rep K N H M (.int i) (.int i)
 |str {M:Addr->Prop} (x:Str):Rep K N H M (.str x) (.str x)
 |ty {M:Addr->Prop} (n:String):Rep K N H M (.ty n) (.ty n)
 |fn {M:Addr->Prop} {a:Addr} {x:Str}:W.nsIn K mainGlobals x=some (some (.ref a))->Rep K N H M (.ref a) (.fn x)
 |tup {M:Addr->Prop} {a:Addr} {xs:List V} {ds:List Dat}:SqT K H a xs->RepA K N H xs ds->Rep K N H M (.ref a) (.tup ds)
 |lst {M:Addr->Prop} {a:Addr} {xs:List V} {ds:List Dat}:H a=some (.lst xs)-> ¬M a->RepA K N H xs ds->Rep K N H M (.ref a) (.lst ds)
 |fzl {M:Addr->Prop} {a:Addr} {xs:List V} {ds:List Dat}:FzL K H a xs->RepA K N H xs ds->Rep K N H M (.ref a) (.lst ds)
 |dct {M:Addr->Prop} {a:Addr} {kvs:List (Key×V)} {ds:List Dat}:H a=some (.dK kvs)-> ¬M a->RepA K N H (kvs.map Prod.snd) ds->Rep K N H M (.ref a) (.dct (kvs.map Prod.fst) ds)
 |ktb {M:Addr->Prop} {a:Addr} {D:List (Str×V)} {ds:List Dat}:KTab K a D->RepA K N H (D.map Prod.snd) ds->Rep K N H M (.ref a) (.dct (D.map fun p=> .inr p.1) ds)
inductive RepA(K:W.Frag)(N:Addr->Prop)(H:Hp):List V->List Dat->Prop
 |nil:RepA K N H [] []
 |cons {v:V} {vs:List V} {d:Dat} {ds:List Dat}:Rep K N H N v d->RepA K N H vs ds->RepA K N H (v::vs) (d::ds)
end
def Hard:HO->Prop
 | .tup _=>True
 | .frz _ _=>True
 |_=>False
def Fr(P:Addr->Prop)(H H':Hp):Prop:= ∀b o,H b=some o->(P b->Hard o)->H' b=some o
theorem Fr.refl(P:Addr->Prop)(H:Hp):Fr P H H:=fun _ _ h _=>h
theorem Fr.trans{P:Addr->Prop}{H H1 H2:Hp}(a:Fr P H H1)(b:Fr P H1 H2):Fr P H H2:=fun c o h n=>b c o (a c o h n) n
theorem Fr.mono{P P':Addr->Prop}{H H':Hp}(a:Fr P H H')(h: ∀b,P b->P' b):Fr P' H H':=fun c o e n=>a c o e fun z=>n (h c z)
theorem Same.fr{P:Addr->Prop}{H H':Hp}(a:Same H H'):Fr P H H':=fun c o h _=>a c o h
section
variable{K:W.Frag}{N N' M M' P:Addr->Prop}{H H':Hp}
theorem Fr.tup(f:Fr P H H'){a:Addr}{xs:List V}(h:SqT K H a xs):SqT K H' a xs:=by
 rcases h with(h|⟨o,h⟩)|h
 ·exact .inl (.inl (f _ _ h fun _=>trivial))
 ·exact .inl (.inr ⟨o,f _ _ h fun _=>trivial⟩)
 ·exact .inr h
theorem Fr.fzl(f:Fr P H H'){a:Addr}{xs:List V}(h:FzL K H a xs):FzL K H' a xs:=by
 rcases h with⟨o,h⟩|h
 ·exact .inl ⟨o,f _ _ h fun _=>trivial⟩
 ·exact .inr h
mutual
theorem Rep.fr(f:Fr P H H')(hN: ∀a,P a->N a): ∀{M:Addr->Prop} {v:V} {d:Dat},(∀a,P a->M a)->Rep K N H M v d->Rep K N H' M v d
 |_,_,_,_,.non=> .non
 |_,_,_,_,.bl b=> .bl b
 |_,_,_,_,.int i=> .int i
 |_,_,_,_,.str x=> .str x
 |_,_,_,_,.ty n=> .ty n
 |_,_,_,_,.fn h=> .fn h
 |_,_,_,_,.tup q r=> .tup (f.tup q) (RepA.fr f hN r)
 |_,_,_,hM,.lst q n r=> .lst (f _ _ q fun z=>absurd (hM _ z) n) n (RepA.fr f hN r)
 |_,_,_,_,.fzl q r=> .fzl (f.fzl q) (RepA.fr f hN r)
 |_,_,_,hM,.dct q n r=> .dct (f _ _ q fun z=>absurd (hM _ z) n) n (RepA.fr f hN r)
 |_,_,_,_,.ktb q r=> .ktb q (RepA.fr f hN r)
theorem RepA.fr(f:Fr P H H')(hN: ∀a,P a->N a): ∀{vs:List V} {ds:List Dat},RepA K N H vs ds->RepA K N H' vs ds
 |_,_,.nil=> .nil
 |_,_,.cons h t=> .cons (Rep.fr f hN hN h) (RepA.fr f hN t)
end
mutual
theorem Rep.mono(hN: ∀a,N' a->N a): ∀{M M':Addr->Prop} {v:V} {d:Dat},(∀a,M' a->M a)->Rep K N H M v d->Rep K N' H M' v d
 |_,_,_,_,_,.non=> .non
 |_,_,_,_,_,.bl b=> .bl b
 |_,_,_,_,_,.int i=> .int i
 |_,_,_,_,_,.str x=> .str x
 |_,_,_,_,_,.ty n=> .ty n
 |_,_,_,_,_,.fn h=> .fn h
 |_,_,_,_,_,.tup q r=> .tup q (RepA.mono hN r)
 |_,_,_,_,hM,.lst q n r=> .lst q (fun z=>n (hM _ z)) (RepA.mono hN r)
 |_,_,_,_,_,.fzl q r=> .fzl q (RepA.mono hN r)
 |_,_,_,_,hM,.dct q n r=> .dct q (fun z=>n (hM _ z)) (RepA.mono hN r)
 |_,_,_,_,_,.ktb q r=> .ktb q (RepA.mono hN r)
theorem RepA.mono(hN: ∀a,N' a->N a): ∀{vs:List V} {ds:List Dat},RepA K N H vs ds->RepA K N' H vs ds
 |_,_,.nil=> .nil
 |_,_,.cons h t=> .cons (Rep.mono hN hN h) (RepA.mono hN t)
end
theorem Rep.same(f:Same H H'){v:V}{d:Dat}(h:Rep K N H M v d):Rep K N H' M v d:=h.fr f.fr (fun _ z=>z.elim) (P:=fun _=>False) fun _ z=>z.elim
theorem RepA.same(f:Same H H'){vs:List V}{ds:List Dat}(h:RepA K N H vs ds):RepA K N H' vs ds:=h.fr f.fr (P:=fun _=>False) fun _ z=>z.elim
theorem RepA.length: ∀{vs:List V} {ds:List Dat},RepA K N H vs ds->vs.length=ds.length
 |_,_,.nil=>rfl
 |_,_,.cons _ t=>congrArg (· +1) (RepA.length t)
theorem RepA.append: ∀{vs ws:List V} {ds es:List Dat},RepA K N H vs ds->RepA K N H ws es->RepA K N H (vs++ws) (ds++es)
 |_,_,_,_,.nil,s=>s
 |_,_,_,_,.cons h t,s=> .cons h (RepA.append t s)
theorem RepA.get: ∀{vs:List V} {ds:List Dat} {i:Nat} {d:Dat},RepA K N H vs ds->ds[i]? =some d-> ∃v,vs[i]? =some v/\Rep K N H N v d
 |_,_,_,_,.nil,e=>by simp at e
 |_,_,0,_,.cons r _,e=>by simp at e;subst e;exact⟨_,rfl,r⟩
 |_,_,i+1,x,.cons _ t,e=>by
  obtain⟨u,h1,h2⟩:=RepA.get (i:=i) (d:=x) t (by simpa using e)
  exact⟨u,by simpa using h1,h2⟩
theorem RepA.take: ∀{vs:List V} {ds:List Dat} (n:Nat),RepA K N H vs ds->RepA K N H (vs.take n) (ds.take n)
 |_,_,0,_=> .nil
 |_,_,_+1,.nil=> .nil
 |_,_,n+1,.cons r t=> .cons r (RepA.take n t)
theorem RepA.drop: ∀{vs:List V} {ds:List Dat} (n:Nat),RepA K N H vs ds->RepA K N H (vs.drop n) (ds.drop n)
 |_,_,0,r=>r
 |_,_,_+1,.nil=> .nil
 |_,_,n+1,.cons _ t=>RepA.drop n t
theorem RepA.set{v:V}{d:Dat}(h:Rep K N H N v d): ∀{vs:List V} {ds:List Dat} (i:Nat),RepA K N H vs ds->RepA K N H (vs.set i v) (ds.set i d)
 |_,_,_,.nil=> .nil
 |_,_,0,.cons _ t=> .cons h t
 |_,_,i+1,.cons q t=> .cons q (RepA.set h i t)
theorem RepA.snoc{vs:List V}{ds:List Dat}{v:V}{d:Dat}(r:RepA K N H vs ds)(h:Rep K N H N v d):RepA K N H (vs++[v]) (ds++[d]):=r.append (.cons h .nil)
end
mutual
def Dat.isD:Dat->Bool
 | .non=>true
 | .bl _=>true
 | .int _=>true
 | .str _=>true
 | .ty _=>false
 | .fn _=>false
 | .tup ds=>isDs ds
 | .lst ds=>isDs ds
 | .dct _ _=>false
def isDs:List Dat->Bool
 |[]=>true
 |d::ds=>d.isD && isDs ds
end
mutual
def Dat.pd:Dat->PyData
 | .non=> .none
 | .bl b=> .bool b
 | .int i=> .int i
 | .str x=> .str x
 | .ty _=> .none
 | .fn _=> .none
 | .tup ds=> .tuple (pds ds)
 | .lst ds=> .list (pds ds)
 | .dct _ _=> .none
def pds:List Dat->List PyData
 |[]=>[]
 |d::ds=>d.pd::pds ds
end
mutual
def Dat.hard:Dat->Bool
 | .tup ds=>zGN ds
 | .lst _=>false
 | .dct _ _=>false
 |_=>true
def zGN:List Dat->Bool
 |[]=>true
 |d::ds=>d.hard && zGN ds
end
section
variable{K:W.Frag}{N:Addr->Prop}{H:Hp}
mutual
theorem Rep.dp: ∀{M:Addr->Prop} {v:V} {d:Dat},Rep K N H M v d->d.isD=true->Dp K H v d.pd
 |_,_,_,.non,_=> .non
 |_,_,_,.bl b,_=> .bl b
 |_,_,_,.int i,_=> .int i
 |_,_,_,.str x,_=> .str x
 |_,_,_,.ty n,h=>by simp[Dat.isD] at h
 |_,_,_,.fn _,h=>by simp[Dat.isD] at h
 |_,_,_,.tup q r,h=> .tup q (RepA.dp r (by simpa[Dat.isD] using h))
 |_,_,_,.lst q n r,h=> .lst (SqL.of q) (RepA.dp r (by simpa[Dat.isD] using h))
 |_,_,_,.fzl q r,h=> .lst q.sq (RepA.dp r (by simpa[Dat.isD] using h))
 |_,_,_,.dct _ _ _,h=>by simp[Dat.isD] at h
 |_,_,_,.ktb _ _,h=>by simp[Dat.isD] at h
theorem RepA.dp: ∀{vs:List V} {ds:List Dat},RepA K N H vs ds->isDs ds=true->zLP K H vs (pds ds)
 |_,_,.nil,_=> .nil
 |_,_,.cons h t,e=> .cons (Rep.dp h (by simp[isDs] at e;exact e.1)) (RepA.dp t (by simp[isDs] at e;exact e.2))
end
mutual
theorem Rep.hard{N':Addr->Prop}: ∀{M M':Addr->Prop} {v:V} {d:Dat},Rep K N H M v d->d.hard=true->Rep K N' H M' v d
 |_,_,_,_,.non,_=> .non
 |_,_,_,_,.bl b,_=> .bl b
 |_,_,_,_,.int i,_=> .int i
 |_,_,_,_,.str x,_=> .str x
 |_,_,_,_,.ty n,h=> .ty n
 |_,_,_,_,.fn q,h=> .fn q
 |_,_,_,_,.tup q r,h=> .tup q (RepA.hard r (by simpa[Dat.hard] using h))
 |_,_,_,_,.lst q n r,h=>by simp[Dat.hard] at h
 |_,_,_,_,.fzl q r,h=>by simp[Dat.hard] at h
 |_,_,_,_,.dct _ _ _,h=>by simp[Dat.hard] at h
 |_,_,_,_,.ktb _ _,h=>by simp[Dat.hard] at h
theorem RepA.hard{N':Addr->Prop}: ∀{vs:List V} {ds:List Dat},RepA K N H vs ds->zGN ds=true->RepA K N' H vs ds
 |_,_,.nil,_=> .nil
 |_,_,.cons h t,e=> .cons (Rep.hard h (by simp[zGN] at e;exact e.1)) (RepA.hard t (by simp[zGN] at e;exact e.2))
end
end
inductive Sl where
 |no|va (d:Dat)|ow (d:Dat)
abbrev Ev:=List Sl
structure Bs where
 Z:Addr->Prop
 P:Addr->Prop
 H0:Hp
 mu:Nat->Option Addr
 kp:List (V×Dat)
def Nn(B:Bs)(O:Nat->Option Addr):Addr->Prop:=fun a=>B.Z a∨ ∃i,O i=some a
def OA(O:Nat->Option Addr):Addr->Prop:=fun a=> ∃i,O i=some a
inductive Own(K:W.Frag)(N:Addr->Prop)(H:Hp)(a:Addr):Dat->Prop
 |lst {xs:List V} {ds:List Dat}:H a=some (.lst xs)->RepA K N H xs ds->Own K N H a (.lst ds)
 |dct {kvs:List (Key×V)} {ds:List Dat}:H a=some (.dK kvs)->RepA K N H (kvs.map Prod.snd) ds->Own K N H a (.dct (kvs.map Prod.fst) ds)
theorem Own.fr{K:W.Frag}{N P:Addr->Prop}{H H':Hp}{a:Addr}{d:Dat}(f:Fr P H H')(hN: ∀a,P a->N a)(ha: ¬P a):Own K N H a d->Own K N H' a d
 | .lst q r=> .lst (f _ _ q fun z=>absurd z ha) (r.fr f hN)
 | .dct q r=> .dct (f _ _ q fun z=>absurd z ha) (r.fr f hN)
theorem Own.mono{K:W.Frag}{N N':Addr->Prop}{H:Hp}{a:Addr}{d:Dat}(h: ∀b,N' b->N b):Own K N H a d->Own K N' H a d
 | .lst q r=> .lst q (r.mono h)
 | .dct q r=> .dct q (r.mono h)
theorem Own.soft{K:W.Frag}{N:Addr->Prop}{H:Hp}{a:Addr}{d:Dat}(h:Own K N H a d): ∃o,H a=some o/\¬Hard o:=by
 cases h with
 |lst q _=>exact⟨_,q,fun z=>z⟩
 |dct q _=>exact⟨_,q,fun z=>z⟩
theorem Own.rep{K:W.Frag}{N M:Addr->Prop}{H:Hp}{a:Addr}{d:Dat}(h:Own K N H a d)(hM: ¬M a):Rep K N H M (.ref a) d:=by
 cases h with
 |lst q r=>exact .lst q hM r
 |dct q r=>exact .dct q hM r
structure Sta(K:W.Frag)(ml:List Nat)(B:Bs)(O:Nat->Option Addr)(H:Hp)(σ:St)(δ:Ev):Prop where
 len:σ.length=δ.length
 va: ∀(i:Nat) (d:Dat),δ[i]? =some (Sl.va d)-> ∃v,σ[i]? =some (some v)/\Rep K (Nn B O) H (Nn B O) v d
 ow: ∀(i:Nat) (d:Dat),δ[i]? =some (Sl.ow d)-> ∃a,O i=some a/\σ[i]? =some (some (.ref a))/\Own K (Nn B O) H a d
 dom: ∀(i:Nat) a,O i=some a-> ∃d,δ[i]? =some (Sl.ow d)
 inj: ∀i j a,O i=some a->O j=some a->i=j
 old: ∀i a,O i=some a-> ¬B.Z a/\(B.P a∨B.H0 a=none)
 zin: ∀a,B.Z a-> ∃o,H a=some o
 frm:Fr B.P B.H0 H
 par:(∀i a,B.mu i=some a->i∈ml)/\ ∀i∈ml,O i=B.mu i
 pin: ∀a,B.P a-> ∃o,H a=some o
 kep: ∀p∈B.kp,Rep K (Nn B O) H (Nn B O) p.1 p.2
section
variable{K:W.Frag}{ml:List Nat}{B:Bs}{O:Nat->Option Addr}{H H':Hp}{σ:St}{δ δ':Ev}
theorem Sta.nin(S:Sta K ml B O H σ δ){a:Addr}(h:Nn B O a): ∃o,H a=some o:=by
 rcases h with h|⟨i,h⟩
 ·exact S.zin a h
 ·obtain⟨d,e⟩:=S.dom i a h
  obtain⟨a',e1,_,w⟩:=S.ow i d e
  rw[h] at e1
  cases e1
  obtain⟨o,q,_⟩:=w.soft
  exact⟨o,q⟩
theorem Sta.new(S:Sta K ml B O H σ δ){a:Addr}(h:H a=none): ¬Nn B O a:=fun z=>by
 obtain⟨o,q⟩:=S.nin z
 rw[h] at q
 cases q
theorem Sta.same(S:Sta K ml B O H σ δ)(f:Same H H'):Sta K ml B O H' σ δ where
 len:=S.len
 va:=fun i d e=>let ⟨v,a,b⟩:=S.va i d e;⟨v,a,b.same f⟩
 ow:=fun i d e=>let ⟨a,b,c,w⟩:=S.ow i d e;⟨a,b,c,w.fr (P:=fun _=>False) f.fr (fun _ z=>z.elim) fun z=>z⟩
 dom:=S.dom
 inj:=S.inj
 old:=S.old
 zin:=fun a h=>let ⟨o,q⟩:=S.zin a h;⟨o,f _ _ q⟩
 frm:=S.frm.trans f.fr
 par:=S.par
 pin:=fun a h=>let ⟨o,q⟩:=S.pin a h;⟨o,f _ _ q⟩
 kep:=fun p h=>(S.kep p h).same f
theorem Sta.fresh(S:Sta K ml B O H σ δ){a:Addr}(h:H a=none):B.H0 a=none:=by
 cases q:B.H0 a with
 | none => rfl
 |some o=>
  by_cases hp:B.P a
  ·obtain⟨o',e⟩:=S.pin a hp
   rw[h] at e
   cases e
  ·have := S.frm a o q fun z => absurd z hp
   rw[h] at this
   cases this
def Bs.add(B:Bs)(p:Addr):Bs:={B with Z:=fun a=>B.Z a∨a=p}
theorem zH4{p:Addr}: ∀a,Nn B O a->Nn (B.add p) O a:=fun a h=>by
 rcases h with h|h
 ·exact .inl (.inl h)
 ·exact .inr h
mutual
theorem Rep.away{p:Addr}(hp:H p=none)(N N':Addr->Prop)(hN: ∀a,N' a->N a∨a=p): ∀{M M':Addr->Prop} {v:V} {d:Dat},(∀a,M' a->M a∨a=p)->Rep K N H M v d->Rep K N' H M' v d
 |_,_,_,_,_,.non=> .non
 |_,_,_,_,_,.bl b=> .bl b
 |_,_,_,_,_,.int i=> .int i
 |_,_,_,_,_,.str x=> .str x
 |_,_,_,_,_,.ty n=> .ty n
 |_,_,_,_,_,.fn h=> .fn h
 |_,_,_,_,_,.tup q r=> .tup q (RepA.away hp N N' hN r)
 |_,_,_,_,hM,.lst q n r=> .lst q (fun z=>by rcases hM _ z with z|z;exact n z;rw[z,hp] at q;cases q) (RepA.away hp N N' hN r)
 |_,_,_,_,_,.fzl q r=> .fzl q (RepA.away hp N N' hN r)
 |_,_,_,_,hM,.dct q n r=> .dct q (fun z=>by rcases hM _ z with z|z;exact n z;rw[z,hp] at q;cases q) (RepA.away hp N N' hN r)
 |_,_,_,_,_,.ktb q r=> .ktb q (RepA.away hp N N' hN r)
theorem RepA.away{p:Addr}(hp:H p=none)(N N':Addr->Prop)(hN: ∀a,N' a->N a∨a=p): ∀{vs:List V} {ds:List Dat},RepA K N H vs ds->RepA K N' H vs ds
 |_,_,.nil=> .nil
 |_,_,.cons h t=> .cons (Rep.away hp N N' hN hN h) (RepA.away hp N N' hN t)
end
theorem zE2{p:Addr}: ∀a,Nn (B.add p) O a->Nn B O a∨a=p:=fun a h=>by
 rcases h with(h|h)|h
 ·exact .inl (.inl h)
 ·exact .inr h
 ·exact .inl (.inr h)
theorem Sta.laid(S:Sta K ml B O H σ δ){p:Addr}{o:HO}(hp:H p=none):Sta K ml (B.add p) O (upd H p o) σ δ where
 len:=S.len
 va:=fun i d e=>let ⟨v,a,b⟩:=S.va i d e;⟨v,a,(b.away hp _ _ zE2 zE2).same (zA4 hp)⟩
 ow:=fun i d e=>by
  obtain⟨a,b,c,w⟩:=S.ow i d e
  refine⟨a,b,c,?_⟩
  have hne: ∀o,H a=some o->upd H p o=upd H p o:=fun _ _=>rfl
  cases w with
  |lst q r=>exact .lst (zA4 hp _ _ q) ((r.away hp _ _ zE2).same (zA4 hp))
  |dct q r=>exact .dct (zA4 hp _ _ q) ((r.away hp _ _ zE2).same (zA4 hp))
 dom:=S.dom
 inj:=S.inj
 old:=fun i a h=>by
  refine⟨fun z=> ?_,(S.old i a h).2⟩
  rcases z with z|z
  ·exact(S.old i a h).1 z
  ·obtain⟨o,q⟩:=S.nin (.inr ⟨i,h⟩)
   rw[z,hp] at q
   cases q
 zin:=fun a h=>by
  rcases h with h|h
  ·obtain⟨o,q⟩:=S.zin a h
   exact⟨o,zA4 hp _ _ q⟩
  ·exact⟨_,by rw[h];exact zAK⟩
 frm:=S.frm.trans (zA4 hp).fr
 par:=S.par
 pin:=fun a h=>let ⟨o,q⟩:=S.pin a h;⟨o,zA4 hp _ _ q⟩
 kep:=fun p h=>((S.kep p h).away hp _ _ zE2 zE2).same (zA4 hp)
theorem zK0{i:Nat}{o:Option Addr}: ∀a,Nn B (fun j=>if j=i then none else O j) a->Nn B O a:=fun a h=>by
 rcases h with h|⟨j,h⟩
 ·exact .inl h
 ·refine .inr ⟨j,?_⟩
  by_cases hj:j=i
  ·simp[hj] at h
  ·simpa[hj] using h
theorem zFM{α:Type}{l:List α}{i j:Nat}{x y:α}(h:(l.set i x)[j]? =some y):(j=i/\y=x/\i<l.length)∨(j≠i/\l[j]? =some y):=by
 by_cases hj:j=i
 ·subst hj
  rw[List.getElem?_set_self'] at h
  cases q:l[j]? with
  |none=>rw[q] at h;cases h
  |some z=>
   rw[q] at h
   cases h
   exact .inl ⟨rfl,rfl,(List.getElem?_eq_some_iff.mp q).1⟩
 ·rw[List.getElem?_set_ne (Ne.symm hj)] at h
  exact .inr ⟨hj,h⟩
theorem Sta.setVa(S:Sta K ml B O H σ δ){i:Nat}{v:V}{d:Dat}(hm:i∉ml)(h:Rep K (Nn B O) H (Nn B O) v d):Sta K ml B (fun j=>if j=i then none else O j) H (σ.set i (some v)) (δ.set i (.va d)) where
 len:=by rw[List.length_set,List.length_set,S.len]
 va:=fun j e q=>by
  rcases zFM q with⟨rfl,z,hl⟩|⟨hj,q⟩
  ·cases z
   exact⟨v,by rw[List.getElem?_set_self (by rw[S.len];exact hl)],h.mono (zK0 (o:=none)) (zK0 (o:=none))⟩
  ·obtain⟨u,e1,r⟩:=S.va j e q
   exact⟨u,by rw[List.getElem?_set_ne (Ne.symm hj)];exact e1,r.mono (zK0 (o:=none)) (zK0 (o:=none))⟩
 ow:=fun j e q=>by
  rcases zFM q with⟨rfl,z,hl⟩|⟨hj,q⟩
  ·cases z
  ·obtain⟨a,e1,e2,w⟩:=S.ow j e q
   exact⟨a,by simpa[hj] using e1,by rw[List.getElem?_set_ne (Ne.symm hj)];exact e2,w.mono (zK0 (o:=none))⟩
 dom:=fun j a e=>by
  by_cases hj:j=i
  ·simp[hj] at e
  ·obtain ⟨d,q⟩ := S.dom j a (by simpa [hj] using e)
   exact⟨d,by rw[List.getElem?_set_ne (Ne.symm hj)];exact q⟩
 inj:=fun j k a e1 e2=>by
  by_cases hj:j=i
  ·simp[hj] at e1
  ·by_cases hk:k=i
   ·simp[hk] at e2
   ·exact S.inj j k a (by simpa[hj] using e1) (by simpa[hk] using e2)
 old:=fun j a e=>by
  by_cases hj:j=i
  ·simp[hj] at e
  ·exact S.old j a (by simpa[hj] using e)
 zin:=S.zin
 frm:=S.frm
 par:=⟨S.par.1,fun j hj=>by
  have hne:j≠i:=fun z=>hm (z▸hj)
  have h2:O j=B.mu j:=S.par.2 j hj
  simpa[hne] using h2⟩
 pin:=S.pin
 kep:=fun p hp=>(S.kep p hp).mono (zK0 (o:=none)) (zK0 (o:=none))
theorem zHZ{i:Nat}{p:Addr}: ∀a,Nn B (fun j=>if j=i then some p else O j) a->Nn (B.add p) O a:=fun a h=>by
 rcases h with h|⟨j,h⟩
 ·exact .inl (.inl h)
 ·by_cases hj:j=i
  ·simp[hj] at h
   exact .inl (.inr h.symm)
  ·exact .inr ⟨j,by simpa[hj] using h⟩
theorem Sta.setOw{p:Addr}(S:Sta K ml (B.add p) O H σ δ){i:Nat}{d:Dat}(hm:i∉ml)(hl:i<δ.length)(hz: ¬B.Z p)(h0:B.H0 p=none)(h:Own K (Nn (B.add p) O) H p d):
  Sta K ml B (fun j=>if j=i then some p else O j) H (σ.set i (some (.ref p))) (δ.set i (.ow d)) where
 len:=by rw[List.length_set,List.length_set,S.len]
 va := fun j e q => by
  rcases zFM q with⟨rfl,z,_⟩|⟨hj,q⟩
  ·cases z
  ·obtain⟨u,e1,r⟩:=S.va j e q
   exact⟨u,by rw[List.getElem?_set_ne (Ne.symm hj)];exact e1,r.mono zHZ zHZ⟩
 ow := fun j e q => by
  rcases zFM q with⟨rfl,z,hl⟩|⟨hj,q⟩
  ·cases z
   exact⟨p,by simp,by rw[List.getElem?_set_self (by rw[S.len];exact hl)],h.mono zHZ⟩
  ·obtain⟨a,e1,e2,w⟩:=S.ow j e q
   exact⟨a,by simpa[hj] using e1,by rw[List.getElem?_set_ne (Ne.symm hj)];exact e2,w.mono zHZ⟩
 dom:=fun j a e=>by
  by_cases hj:j=i
  ·subst hj
   exact⟨d,by rw[List.getElem?_set_self hl]⟩
  ·obtain ⟨d,q⟩ := S.dom j a (by simpa [hj] using e)
   exact⟨d,by rw[List.getElem?_set_ne (Ne.symm hj)];exact q⟩
 inj:=fun j k a e1 e2=>by
  by_cases hj:j=i
  ·by_cases hk:k=i
   ·rw[hj,hk]
   ·simp[hj] at e1
    simp[hk] at e2
    exact absurd (.inr e1.symm) (S.old k a e2).1
  ·by_cases hk:k=i
   ·simp[hk] at e2
    simp[hj] at e1
    exact absurd (.inr e2.symm) (S.old j a e1).1
   ·exact S.inj j k a (by simpa[hj] using e1) (by simpa[hk] using e2)
 old:=fun j a e=>by
  by_cases hj:j=i
  ·simp[hj] at e
   subst e
   exact⟨hz,.inr h0⟩
  ·have := S.old j a (by simpa [hj] using e)
   exact⟨fun z=>this.1 (.inl z),this.2⟩
 zin:=fun a h=>S.zin a (.inl h)
 frm:=S.frm
 par:=⟨S.par.1,fun j hj=>by
  have hne:j≠i:=fun z=>hm (z▸hj)
  have h2:O j=B.mu j:=S.par.2 j hj
  simpa[hne] using h2⟩
 pin:=S.pin
 kep:=fun p hp=>(S.kep p hp).mono zHZ zHZ
theorem Sta.wrote(S:Sta K ml B O H σ δ){i:Nat}{a:Addr}{d:Dat}{o:HO}(e:O i=some a)(ho: ¬Hard o)(h:Own K (Nn B O) (upd H a o) a d):Sta K ml B O (upd H a o) σ (δ.set i (.ow d)):=by
 have hf:Fr (fun b=>b=a) H (upd H a o):=fun b u q n=>by
  by_cases hb:b=a
  ·subst hb
   obtain⟨d',q'⟩:=S.dom i b e
   obtain⟨a',e1,_,w⟩:=S.ow i d' q'
   rw[e] at e1
   cases e1
   obtain⟨u',q1,hh⟩:=w.soft
   rw[q] at q1
   cases q1
   exact absurd (n rfl) hh
  ·rw[zB3 hb]
   exact q
 have hN: ∀b,b=a->Nn B O b:=fun b z=> .inr ⟨i,z▸e⟩
 have hin: ∀b,(∃u,H b=some u)-> ∃u,upd H a o b=some u:=fun b q0=>by
  obtain⟨u,q⟩:=q0
  by_cases hb:b=a
  ·exact ⟨o,by rw [hb];exact zAK⟩
  ·exact ⟨u,by rw [zB3 hb];exact q⟩
 refine⟨by rw[List.length_set,S.len],fun j d' q=> ?_,fun j d' q=> ?_,fun j b q=> ?_,S.inj,S.old,fun b h=>hin b (S.zin b h),?_,S.par,fun b h=>hin b (S.pin b h),fun p hp=>(S.kep p hp).fr hf hN hN⟩
 ·rcases zFM q with⟨_,z,_⟩|⟨hj,q⟩
  ·cases z
  ·obtain⟨v,e1,r⟩:=S.va j d' q
   exact⟨v,e1,r.fr hf hN hN⟩
 ·rcases zFM q with⟨rfl,z,hl⟩|⟨hj,q⟩
  ·cases z
   obtain⟨d0,q0⟩:=S.dom j a e
   obtain⟨a',e1,e2,_⟩:=S.ow j d0 q0
   rw[e] at e1
   cases e1
   exact⟨a,e,e2,h⟩
  ·obtain⟨a',e1,e2,w⟩:=S.ow j d' q
   exact⟨a',e1,e2,w.fr hf hN fun z=>hj (S.inj j i a (z▸e1) e)⟩
 ·by_cases hj:j=i
  ·subst hj
   obtain⟨d0,q0⟩:=S.dom j b q
   exact⟨d,by rw[List.getElem?_set_self (List.getElem?_eq_some_iff.mp q0).1]⟩
  ·obtain⟨d0,q0⟩:=S.dom j b q
   exact⟨d0,by rw[List.getElem?_set_ne (Ne.symm hj)];exact q0⟩
 ·intro b u q n
  have h1:=S.frm b u q n
  by_cases hb:b=a
  ·subst hb
   rcases(S.old i b e).2 with z|z
   ·obtain⟨d',q'⟩:=S.dom i b e
    obtain⟨a',e1,_,w⟩:=S.ow i d' q'
    rw[e] at e1
    cases e1
    obtain⟨u',q1,hh⟩:=w.soft
    rw[h1] at q1
    cases q1
    exact absurd (n z) hh
   ·rw[q] at z
    cases z
  ·rw[zB3 hb]
   exact h1
theorem Sta.keepV(S:Sta K ml B O H σ δ){ps:List (V×Dat)}(h: ∀p∈ps,Rep K (Nn B O) H (Nn B O) p.1 p.2):Sta K ml {B with kp:=ps++B.kp} O H σ δ:=
 ⟨S.len,S.va,S.ow,S.dom,S.inj,S.old,S.zin,S.frm,S.par,S.pin,fun p hp=>(List.mem_append.mp hp).elim (h p) (S.kep p)⟩
theorem Sta.unkeep{ps:List (V×Dat)}(S:Sta K ml {B with kp:=ps++B.kp} O H σ δ):Sta K ml B O H σ δ:=
 ⟨S.len,S.va,S.ow,S.dom,S.inj,S.old,S.zin,S.frm,S.par,S.pin,fun p hp=>S.kep p (List.mem_append_right _ hp)⟩
end
def rz(B:Bs):Addr->Prop:=fun a=>B.Z a∨ ∃i,B.mu i=some a
def av(B:Bs)(O:Nat->Option Addr)(b:Bool):Addr->Prop:=if b then Nn B O else fun a=>Nn B O a/\rz B a
def at_(B:Bs)(O:Nat->Option Addr)(b:Bool):Addr->Prop:=if b then Nn B O else fun _=>False
theorem yAO{B:Bs}{O:Nat->Option Addr}{b:Bool}: ∀a,at_ B O b a->av B O b a:=fun a h=>by
 cases b with
 |true=>exact h
 |false=>exact h.elim
theorem zW7{B:Bs}{O:Nat->Option Addr}{b c:Bool}(h:b=true->c=true): ∀a,at_ B O b a->at_ B O c a:=fun a z=>by
 cases b with
 |true=>rw[h rfl];exact z
 |false=>exact z.elim
theorem Sta.rzn{K:W.Frag}{ml:List Nat}{B:Bs}{O:Nat->Option Addr}{H:Hp}{σ:St}{δ:Ev}(S:Sta K ml B O H σ δ): ∀a,rz B a->Nn B O a:=fun a h=>by
 rcases h with h|⟨i,h⟩
 ·exact .inl h
 ·exact .inr ⟨i,(S.par.2 i (S.par.1 i a h)).trans h⟩
theorem Sta.rza{K:W.Frag}{ml:List Nat}{B:Bs}{O:Nat->Option Addr}{H:Hp}{σ:St}{δ:Ev}(S:Sta K ml B O H σ δ){b:Bool}: ∀a,rz B a->av B O b a:=fun a h=>by
 cases b with
 |true=>exact S.rzn a h
 |false=>exact⟨S.rzn a h,h⟩
theorem zHN{B:Bs}{O:Nat->Option Addr}{b c:Bool}(h:b=true->c=true): ∀a,av B O b a->av B O c a:=fun a z=>by
 cases b with
 |true=>rw[h rfl];exact z
 |false=>cases c with
  |true=>exact z.1
  |false=>exact z
structure Res(K:W.Frag)(ml:List Nat)(B:Bs)(O:Nat->Option Addr)(H:Hp)(σ:St)(pu bt bi:Bool)(H':Hp)(δ':Ev)(v:V)(d:Dat):Prop where
 sta:Sta K ml B O H' σ δ'
 frm:Fr (OA O) H H'
 pur:pu=true->Same H H'
 rep:Rep K (av B O bi) H' (at_ B O bt) v d
abbrev VF:=Ev->Option (Dat×Ev)
def TV(K:W.Frag)(ml:List Nat)(pu bt bi:Bool)(f:VF):TE:=fun σ H Q=> ∃B O δ d δ',Sta K ml B O H σ δ/\f δ=some (d,δ')/\ ∀v H',Res K ml B O H σ pu bt bi H' δ' v d->Q v H'
theorem PE.imp{X:Cx}{e:Expr}{t u:TE}(h:PE X e t)(k: ∀σ H Q,u σ H Q->t σ H Q):PE X e u:=fun a6 s σ H Q I w=>h a6 s σ H Q I (k σ H Q w)
theorem PT.imp{X:Cx}{e:Expr}{t u:TT}(h:PT X e t)(k: ∀σ H Q,u σ H Q->t σ H Q):PT X e u:=fun a6 s σ H Q I w=>h a6 s σ H Q I (k σ H Q w)
theorem PW.imp{X:Cx}{e:Expr}{t u:TT}(h:PW X e t)(k: ∀σ H Q,u σ H Q->t σ H Q):PW X e u:=fun ax a6 s σ H Q I w=>h ax a6 s σ H Q I (k σ H Q w)
theorem PA.imp{X:Cx}{e:List Expr}{t u:TA}(h:PA X e t)(k: ∀σ H Q,u σ H Q->t σ H Q):PA X e u:=fun pos a6 s σ H Q I w=>h pos a6 s σ H Q I (k σ H Q w)
theorem PS.imp{X:Cx}{e:Stmt}{t u:TS}(h:PS X e t)(k: ∀D σ H,u D σ H->t D σ H):PS X e u:=fun a6 s σ H D I w=>h a6 s σ H D I (k D σ H w)
theorem PSs.imp{X:Cx}{e:List Stmt}{t u:TS}(h:PSs X e t)(k: ∀D σ H,u D σ H->t D σ H):PSs X e u:=fun a6 s σ H D I w=>h a6 s σ H D I (k D σ H w)
section
variable{X:Cx}{K:W.Frag}{ml:List Nat}{e a b c:Expr}{pa ta ia pb tb ib pc tc ic:Bool}{fa fb fc:VF}{r:R2}{o:Dat->Dat->Option Dat}{B:Bs}{O:Nat->Option Addr}{H H1 H':Hp}{σ:St}{δ δ':Ev}{v:V}{d:Dat}
noncomputable def fC(d:Dat):VF:=fun δ=>some (d,δ)
theorem Res.refl{pu bt bi:Bool}(S:Sta K ml B O H σ δ)(h:Rep K (av B O bi) H (at_ B O bt) v d):Res K ml B O H σ pu bt bi H δ v d:=⟨S,Fr.refl _ _,fun _=>Same.refl _,h⟩
theorem ve_c(h:PE X e (tC v))(hr: ∀N H M,Rep K N H M v d):PE X e (TV K ml true true true (fC d)):=h.imp fun σ H Q q0=>by
 obtain⟨B,O,δ,d',δ',S,q,k⟩:=q0
 cases q
 exact k v H (Res.refl S (hr _ _ _))
theorem zA1{i j pos}:PE X (.Constant (.int i) j pos) (TV K ml true true true (fC (.int i))):=ve_c zY8 fun _ _ _=> .int i
theorem zEF{i j pos}:PE X (.Constant (.bool i) j pos) (TV K ml true true true (fC (.bl i))):=ve_c yCJ fun _ _ _=> .bl i
theorem zCD{j pos}:PE X (.Constant .none j pos) (TV K ml true true true (fC .non)):=ve_c zY6 fun _ _ _=> .non
theorem zAD{i j pos}:PE X (.Constant (.str i) j pos) (TV K ml true true true (fC (.str i))):=ve_c zY3 fun _ _ _=> .str i
noncomputable def fV(i:Nat):VF:=fun δ=>match δ[i]? with
 |some (.va d)=>some (d,δ)
 |_=>none
noncomputable def fO(i:Nat):VF:=fun δ=>match δ[i]? with
 |some (.va d)=>some (d,δ)
 |some (.ow d)=>some (d,δ)
 |_=>none
theorem zWC{i:Nat}(h:PE X e (tVar i)):PE X e (TV K ml true true true (fV i)):=h.imp fun σ H Q q0=>by
 obtain⟨B,O,δ,d',δ',S,q,k⟩:=q0
 unfold fV at q
 split at q
 ·rename_i d hd
  cases q
  obtain⟨v,e1,r⟩:=S.va i _ hd
  exact⟨v,e1,k v H (Res.refl S r)⟩
 ·cases q
theorem zWD{i:Nat}(h:PE X e (tVar i)):PE X e (TV K ml true false true (fO i)):=h.imp fun σ H Q q0=>by
 obtain⟨B,O,δ,d',δ',S,q,k⟩:=q0
 unfold fO at q
 split at q
 ·rename_i d hd
  cases q
  obtain⟨v,e1,r⟩:=S.va i _ hd
  exact⟨v,e1,k v H (Res.refl S (r.mono (fun _ z=>z) fun a z=>z.elim))⟩
 ·rename_i d hd
  cases q
  obtain⟨a,e1,e2,w⟩:=S.ow i _ hd
  exact⟨.ref a,e2,k _ H (Res.refl S (w.rep fun z=>z))⟩
 ·cases q
theorem Res.live{H2:Hp}{v2:V}{d2:Dat}(R2:Res K ml B O H1 σ pb tb ib H2 δ' v2 d2)(hs:(pb || (ta && ia))=true)(h:Rep K (av B O ia) H1 (at_ B O ta) v d):Rep K (av B O ia) H2 (at_ B O ta) v d:=by
 cases pb with
 |true=>exact h.same (R2.pur rfl)
 |false=>
  have hs:(ta && ia)=true:=by simpa using hs
  obtain⟨h1,h2⟩:=(Bool.and_eq_true _ _).mp hs
  subst h1 h2
  exact h.fr R2.frm (fun a z=> .inr z) fun a z=> .inr z
noncomputable def f2(o:Dat->Dat->Option Dat)(fa fb:VF):VF:=fun δ=>(fa δ).bind fun p=>(fb p.2).bind fun q=>(o p.1 q.1).map fun c=>(c,q.2)
theorem zI7{δ2:Ev}(h:f2 o fa fb δ=some (d,δ2)): ∃x δ1 y,fa δ=some (x,δ1)/\fb δ1=some (y,δ2)/\o x y=some d:=by
 unfold f2 at h
 cases h1:fa δ with
 | none => rw [h1] at h;cases h
 |some p=>
  rw[h1] at h
  cases h2:fb p.2 with
  | none => simp [h2] at h
  |some q=>
   simp only[Option.bind_some,h2] at h
   cases h3:o p.1 q.1 with
   |none=>rw[h3] at h;cases h
   |some c=>
    rw[h3] at h
    cases h
    exact⟨p.1,p.2,q.1,rfl,h2,h3⟩
def OpS(K:W.Frag)(r:R2)(o:Dat->Dat->Option Dat):Prop:= ∀(H:Hp) (N N' M M':Addr->Prop) (x y:V) (d e c:Dat) (Q:VK),Rep K N H M x d->Rep K N' H M' y e->o d e=some c->(∀v,(∀H' N M,Rep K N H' M v c)->Q v H)->r x y H Q
def OpC(K:W.Frag)(r:R2)(o:Dat->Dat->Option Dat):Prop:= ∀(H:Hp) (N M M':Addr->Prop) (x y:V) (d e c:Dat) (Q:VK),Rep K N H M x d->Rep K N H M' y e->o d e=some c→
 (∀v H',Same H H'->(∀M,(∀a,M a-> ∃o,H a=some o)->Rep K N H' M v c)->Q v H')->r x y H Q
def OpI(K:W.Frag)(r:R2)(o:Dat->Dat->Option Dat):Prop:= ∀(H:Hp) (N N' M M':Addr->Prop) (x y:V) (d e c:Dat) (Q:VK),Rep K N H M x d->Rep K N' H M' y e->o d e=some c->(∀v,Rep K N H N v c->Q v H)->r x y H Q
theorem zO5(ho:OpS K r o)(hs:(pb || (ta && ia))=true){Q:VK}(h:TV K ml (pa && pb) true true (f2 o fa fb) σ H Q):tOp r (TV K ml pa ta ia fa) (TV K ml pb tb ib fb) σ H Q:=by
 obtain⟨B,O,δ,d,δ2,S,q,k⟩:=h
 obtain⟨x,δ1,y,h1,h2,h3⟩:=zI7 q
 refine⟨B,O,δ,x,δ1,S,h1,fun v1 H1 R1=>⟨B,O,δ1,y,δ2,R1.sta,h2,fun v2 H2 R2=> ?_⟩⟩
 exact ho H2 _ _ _ _ v1 v2 x y d Q (R2.live hs R1.rep) R2.rep h3 fun v hv=>k v H2 ⟨R2.sta,R1.frm.trans R2.frm,fun z=>by
  obtain⟨z1,z2⟩:=(Bool.and_eq_true _ _).mp z
  exact(R1.pur z1).trans (R2.pur z2),hv _ _ _⟩
theorem zWI(ho:OpC K r o)(hs:(pb || (ta && ia))=true){Q:VK}(h:TV K ml (pa && pb) true (ia && ib) (f2 o fa fb) σ H Q):tOp r (TV K ml pa ta ia fa) (TV K ml pb tb ib fb) σ H Q:=by
 obtain⟨B,O,δ,d,δ2,S,q,k⟩:=h
 obtain⟨x,δ1,y,h1,h2,h3⟩:=zI7 q
 refine⟨B,O,δ,x,δ1,S,h1,fun v1 H1 R1=>⟨B,O,δ1,y,δ2,R1.sta,h2,fun v2 H2 R2=> ?_⟩⟩
 have g1: ∀a,av B O (ia && ib) a->av B O ia a:=zHN fun z=>((Bool.and_eq_true _ _).mp z).1
 have g2: ∀a,av B O (ia && ib) a->av B O ib a:=zHN fun z=>((Bool.and_eq_true _ _).mp z).2
 refine ho H2 (av B O (ia && ib)) _ _ v1 v2 x y d Q ((R2.live hs R1.rep).mono g1 fun _ z=>z) (R2.rep.mono g2 fun _ z=>z) h3 fun v H3 s3 hv=>k v H3 ⟨R2.sta.same s3,(R1.frm.trans R2.frm).trans s3.fr,fun z=> ?_,hv _ fun a z=>R2.sta.nin z⟩
 obtain⟨z1,z2⟩:=(Bool.and_eq_true _ _).mp z
 exact((R1.pur z1).trans (R2.pur z2)).trans s3
theorem zWH(ho:OpI K r o)(hs:(pb || (ta && ia))=true){Q:VK}(h:TV K ml (pa && pb) ia ia (f2 o fa fb) σ H Q):tOp r (TV K ml pa ta ia fa) (TV K ml pb tb ib fb) σ H Q:=by
 obtain⟨B,O,δ,d,δ2,S,q,k⟩:=h
 obtain⟨x,δ1,y,h1,h2,h3⟩:=zI7 q
 refine⟨B,O,δ,x,δ1,S,h1,fun v1 H1 R1=>⟨B,O,δ1,y,δ2,R1.sta,h2,fun v2 H2 R2=> ?_⟩⟩
 exact ho H2 _ _ _ _ v1 v2 x y d Q (R2.live hs R1.rep) R2.rep h3 fun v hv=>k v H2 ⟨R2.sta,R1.frm.trans R2.frm,fun z=>by
  obtain⟨z1,z2⟩:=(Bool.and_eq_true _ _).mp z
  exact(R1.pur z1).trans (R2.pur z2),hv.mono (fun _ z=>z) yAO⟩
theorem zD0{op:Operator}{pos:Pos}(ho:OpR X (binaryOp op) r)(hv:OpS K r o)(ha:PE X a (TV K ml pa ta ia fa))(hb:PE X b (TV K ml pb tb ib fb))(hs:(pb || (ta && ia))=true:=by rfl):PE X (.BinOp a op b pos) (TV K ml (pa && pb) true true (f2 o fa fb)):=
 (zY4 ho ha hb).imp fun _ _ _ h=>zO5 hv hs h
theorem zBQ{op:Operator}{pos:Pos}(ho:OpR X (binaryOp op) r)(hv:OpC K r o)(ha:PE X a (TV K ml pa ta ia fa))(hb:PE X b (TV K ml pb tb ib fb))(hs:(pb || (ta && ia))=true:=by rfl):PE X (.BinOp a op b pos) (TV K ml (pa && pb) true (ia && ib) (f2 o fa fb)):=
 (zY4 ho ha hb).imp fun _ _ _ h=>zWI hv hs h
theorem zDH{op:CmpOp}{pos:Pos}(ho:OpR X (compareOp op) r)(hv:OpS K r o)(ha:PE X a (TV K ml pa ta ia fa))(hb:PE X b (TV K ml pb tb ib fb))(hm:behindInMarks op b=false)(hs:(pb || (ta && ia))=true:=by rfl):PE X (.Compare a [op] [b] pos) (TV K ml (pa && pb) true true (f2 o fa fb)):=
 (zV7 ho ha hb hm).imp fun _ _ _ h=>zO5 hv hs h
theorem yB6{pos:Pos}(ho:IxR X r)(hv:OpI K r o)(ha:PE X a (TV K ml pa ta ia fa))(hb:PE X b (TV K ml pb tb ib fb))(hx:zLN b)(hs:(pb || (ta && ia))=true:=by rfl):PE X (.Subscript a b pos) (TV K ml (pa && pb) ia ia (f2 o fa fb)):=
 (yCH ho ha hb hx).imp fun _ _ _ h=>zWH hv hs h
noncomputable def oI(C:Int->Int->Bool)(g:Int->Int->Dat):Dat->Dat->Option Dat
 | .int i,.int j=>if C i j=true then some (g i j) else none
 |_,_=>none
theorem zTL{C:Int->Int->Bool}{g:Int->Int->Dat}{d e c:Dat}(h:oI C g d e=some c): ∃i j,d= .int i/\e= .int j/\C i j=true/\c=g i j:=by
 unfold oI at h
 split at h
 ·split at h
  ·rename_i hc
   cases h
   exact⟨_,_,rfl,rfl,hc,rfl⟩
  ·cases h
 ·cases h
theorem zSC{C:Int->Int->Prop}{C':Int->Int->Bool}{g:Int->Int->V}{g':Int->Int->Dat}(hC: ∀i j,C' i j=true->C i j)(hg: ∀i j N H M,Rep K N H M (g i j) (g' i j)):OpS K (rI C g) (oI C' g'):=by
 intro H N N' M M' x y d e c Q hx hy h k
 obtain⟨i,j,rfl,rfl,hc,rfl⟩:=zTL h
 cases hx
 cases hy
 exact⟨_,_,rfl,rfl,hC _ _ hc,k _ fun _ _ _=>hg ..⟩
theorem zJZ{g:Int->Int->V}{g':Int->Int->Dat}(hg: ∀i j N H M,Rep K N H M (g i j) (g' i j)):OpS K (rI0 g) (oI (fun _ _=>true) g'):=by
 intro H N N' M M' x y d e c Q hx hy h k
 obtain⟨i,j,rfl,rfl,hc,rfl⟩:=zTL h
 cases hx
 cases hy
 exact⟨_,_,rfl,rfl,k _ fun _ _ _=>hg ..⟩
noncomputable def cMul(i j:Int):Bool:=(decide (-18446744073709551616<i) && decide (i<18446744073709551616)) || (decide (-18446744073709551616<j) && decide (j<18446744073709551616))
noncomputable def cDiv(i j:Int):Bool:=decide (0<j) && decide (j<1073741824)
noncomputable def cPow(i j:Int):Bool:=decide (0<=j) && decide (j<=1000000) && decide (i.natAbs<18446744073709551616)
noncomputable abbrev oSub:=oI (fun _ _=>true) fun i j=> .int (i - j)
noncomputable abbrev oMul:=oI cMul fun i j=> .int (i*j)
noncomputable abbrev zPR:=oI cDiv fun i j=> .int (i/j)
noncomputable abbrev oMod:=oI (fun _ j=>decide (0<j)) fun i j=> .int (i % j)
noncomputable abbrev oPow:=oI cPow fun i j=> .int (i ^ j.toNat)
noncomputable abbrev oLt:=oI (fun _ _=>true) fun i j=> .bl (decide (i<j))
noncomputable abbrev oLe:=oI (fun _ _=>true) fun i j=> .bl (decide (i<=j))
noncomputable abbrev oGt:=oI (fun _ _=>true) fun i j=> .bl (decide (j<i))
noncomputable abbrev oGe:=oI (fun _ _=>true) fun i j=> .bl (decide (j<=i))
theorem zJR:OpS K (rI0 fun i j=> .int (i - j)) oSub:=zJZ fun i j _ _ _=> .int _
theorem yBO:OpS K (rI CMul fun i j=> .int (i*j)) oMul:=zSC (fun i j h=>by
 have p:(2:Int) ^ 64=18446744073709551616:=by decide
 unfold CMul
 rw[p]
 simpa[cMul] using h) fun i j _ _ _=> .int _
theorem zOP:OpS K (rI CDiv fun i j=> .int (i/j)) zPR:=zSC (fun i j h=>by show 0<j/\j<1073741824;simpa[cDiv] using h) fun i j _ _ _=> .int _
theorem zGZ:OpS K (rI (fun _ j=>0<j) fun i j=> .int (i % j)) oMod:=zSC (fun i j h=>by simpa using h) fun i j _ _ _=> .int _
theorem yBN:OpS K (rI CPow fun i j=> .int (i ^ j.toNat)) oPow:=zSC (fun i j h=>by
 have p:(2:Nat) ^ 64=18446744073709551616:=by decide
 unfold CPow
 rw[p]
 simpa[cPow,and_assoc] using h) fun i j _ _ _=> .int _
theorem s_lt:OpS K (rI0 fun i j=> .bl (decide (i<j))) oLt:=zJZ fun i j _ _ _=> .bl _
theorem s_le:OpS K (rI0 fun i j=> .bl (decide (i<=j))) oLe:=zJZ fun i j _ _ _=> .bl _
theorem s_gt:OpS K (rI0 fun i j=> .bl (decide (j<i))) oGt:=zJZ fun i j _ _ _=> .bl _
theorem s_ge:OpS K (rI0 fun i j=> .bl (decide (j<=i))) oGe:=zJZ fun i j _ _ _=> .bl _
noncomputable def okD(d:Dat):Bool:=d.isD && SeqAt.shaped d.pd
noncomputable def eqD(d e:Dat):Bool:=PyData.eqv d.pd e.pd
noncomputable def oEq(d e:Dat):Option Dat:=if(okD d && okD e)=true then some (.bl (eqD d e)) else none
noncomputable def oNe(d e:Dat):Option Dat:=if(okD d && okD e)=true then some (.bl (!eqD d e)) else none
theorem s_eq:OpS K (rEqD K) oEq:=by
 intro H N N' M M' x y d e c Q hx hy h k
 unfold oEq at h
 split at h
 ·rename_i hh
  cases h
  simp only[okD,Bool.and_eq_true] at hh
  exact⟨d.pd,e.pd,hx.dp hh.1.1,hy.dp hh.2.1,hh.1.2,hh.2.2,k _ fun _ _ _=> .bl _⟩
 ·cases h
theorem s_ne:OpS K (rNeD K) oNe:=by
 intro H N N' M M' x y d e c Q hx hy h k
 unfold oNe at h
 split at h
 ·rename_i hh
  cases h
  simp only[okD,Bool.and_eq_true] at hh
  exact⟨d.pd,e.pd,hx.dp hh.1.1,hy.dp hh.2.1,hh.1.2,hh.2.2,k _ fun _ _ _=> .bl _⟩
 ·cases h
noncomputable def isN:Dat->Bool
 | .non=>true
 |_=>false
noncomputable def oIsN:Dat->Dat->Option Dat
 |d,.non=>some (.bl (isN d))
 |_,_=>none
noncomputable def zIR:Dat->Dat->Option Dat
 |d,.non=>some (.bl (!isN d))
 |_,_=>none
theorem zOX{N M:Addr->Prop}(h:Rep K N H M v d):decide (v=V.non)=isN d:=by
 cases h<;>simp[isN]
theorem zUO:OpS K (fun x y H Q=>y= .non/\Q (.bl (decide (x= .non))) H) oIsN:=by
  intro H N N' M M' x y d e c Q hx hy h k
  cases hy<;>first
    | (cases h
       refine⟨rfl,?_⟩
       rw[zOX hx]
       exact k _ fun _ _ _=> .bl _)
    |(simp[oIsN] at h)
theorem zOO:OpS K (fun x y H Q=>y= .non/\Q (.bl (!decide (x= .non))) H) zIR:=by
  intro H N N' M M' x y d e c Q hx hy h k
  cases hy<;>first
    | (cases h
       refine⟨rfl,?_⟩
       rw[zOX hx]
       exact k _ fun _ _ _=> .bl _)
    |(simp[zIR] at h)
noncomputable def seqD:Dat->Option (List Dat)
 | .tup ds=>some ds
 | .lst ds=>some ds
 |_=>none
theorem Rep.seq{N M:Addr->Prop}{ds:List Dat}(h:Rep K N H M v d)(e:seqD d=some ds): ∃a xs,v= .ref a/\(SqL K H a xs∨SqT K H a xs)/\RepA K N H xs ds:=by
 cases h<;>first
  |(cases e;rename_i q r;exact⟨_,_,rfl,.inr q,r⟩)
  |(cases e;rename_i q n r;exact⟨_,_,rfl,.inl (SqL.of q),r⟩)
  |(cases e;rename_i q r;exact⟨_,_,rfl,.inl q.sq,r⟩)
  |cases e
theorem zW8{N:Addr->Prop}{xs:List V}{ds:List Dat}{i:Int}(r:RepA K N H xs ds)(h:atI ds i=some d): ∃v,atI xs i=some v/\Rep K N H N v d:=by
 unfold atI at h⊢
 rw[r.length]
 cases hi:ixN ds.length i with
 |none=>rw[hi] at h;cases h
 |some j=>
  rw[hi] at h
  exact r.get h
end
section
variable{X:Cx}{K:W.Frag}{ml:List Nat}{e a b c:Expr}{es:List Expr}{pa ta ia pb tb ib pc tc ic pu bt bi ps bs:Bool}{fa fb fc:VF}{r r':R2}{o o':Dat->Dat->Option Dat}{B:Bs}{O:Nat->Option Addr}{H H1 H':Hp}{σ:St}{δ δ':Ev}{v:V}{d:Dat}{p:Addr}{pos:Pos}
theorem Sta.unadd(S:Sta K ml (B.add p) O H σ δ):Sta K ml B O H σ δ where
 len:=S.len
 va:=fun i d e=>let ⟨v,a,b⟩:=S.va i d e;⟨v,a,b.mono zH4 zH4⟩
 ow:=fun i d e=>let ⟨a,b,c,w⟩:=S.ow i d e;⟨a,b,c,w.mono zH4⟩
 dom:=S.dom
 inj:=S.inj
 old:=fun i a h=>⟨fun z=>(S.old i a h).1 (.inl z),(S.old i a h).2⟩
 zin:=fun a h=>S.zin a (.inl h)
 frm:=S.frm
 par:=S.par
 pin:=S.pin
 kep:=fun p h=>(S.kep p h).mono zH4 zH4
structure ResN(K:W.Frag)(ml:List Nat)(B:Bs)(O:Nat->Option Addr)(H:Hp)(σ:St)(pu:Bool)(H':Hp)(δ':Ev)(p:Addr)(d:Dat):Prop where
 sta:Sta K ml (B.add p) O H' σ δ'
 frm:Fr (OA O) H H'
 pur:pu=true->Same H H'
 own:Own K (Nn (B.add p) O) H' p d
 nz: ¬Nn B O p
 h0:B.H0 p=none
def TN(K:W.Frag)(ml:List Nat)(pu:Bool)(f:VF):TE:=fun σ H Q=> ∃B O δ d δ',Sta K ml B O H σ δ/\f δ=some (d,δ')/\ ∀p H',ResN K ml B O H σ pu H' δ' p d->Q (.ref p) H'
theorem zBB{f:VF}(h:PE X e (TN K ml pu f)):PE X e (TV K ml pu true true f):=h.imp fun σ H Q ⟨B,O,δ,d,δ',S,q,k⟩=>
 ⟨B,O,δ,d,δ',S,q,fun p H' R=>k _ H' ⟨R.sta.unadd,R.frm,R.pur,(R.own.mono zH4).rep R.nz⟩⟩
theorem mkN{xs:List V}{ds:List Dat}(S:Sta K ml B O H1 σ δ')(f:Fr (OA O) H H1)(s:pu=true->Same H H1)(hp:H1 p=none)(r:RepA K (Nn B O) H1 xs ds):ResN K ml B O H σ pu (upd H1 p (.lst xs)) δ' p (.lst ds):=
 ⟨S.laid hp,f.trans (zA4 hp).fr,fun z=>(s z).trans (zA4 hp),.lst zAK ((r.away hp _ _ zE2).same (zA4 hp)),S.new hp,S.fresh hp⟩
theorem mkD(S:Sta K ml B O H1 σ δ')(f:Fr (OA O) H H1)(s:pu=true->Same H H1)(hp:H1 p=none):ResN K ml B O H σ pu (upd H1 p (.dK [])) δ' p (.dct [] []):=
 ⟨S.laid hp,f.trans (zA4 hp).fr,fun z=>(s z).trans (zA4 hp),.dct (kvs:=[]) zAK .nil,S.new hp,S.fresh hp⟩
theorem zR8:PE X (.Dict [] [] pos) (TN K ml true (fC (.dct [] []))):=zS6.imp fun σ H Q q0=>by
 obtain⟨B,O,δ,d,δ',S,q,k⟩:=q0
 cases q
 exact fun p hp=>k p _ (mkD S (Fr.refl _ _) (fun _=>Same.refl _) hp)
abbrev VFs:=Ev->Option (List Dat×Ev)
structure ResA(K:W.Frag)(ml:List Nat)(B:Bs)(O:Nat->Option Addr)(H:Hp)(σ:St)(pu b:Bool)(H':Hp)(δ':Ev)(vs:List V)(ds:List Dat):Prop where
 sta:Sta K ml B O H' σ δ'
 frm:Fr (OA O) H H'
 pur:pu=true->Same H H'
 rep:RepA K (av B O b) H' vs ds
def TAV(K:W.Frag)(ml:List Nat)(pu b:Bool)(f:VFs):TA:=fun σ H Q=> ∃B O δ d δ',Sta K ml B O H σ δ/\f δ=some (d,δ')/\ ∀vs H',ResA K ml B O H σ pu b H' δ' vs d->Q vs H'
noncomputable def fNil:VFs:=fun δ=>some ([],δ)
noncomputable def zA6(fa:VF)(fs:VFs):VFs:=fun δ=>(fa δ).bind fun p=>(fs p.2).map fun q=>(p.1::q.1,q.2)
theorem zKC{fs:VFs}{ds:List Dat}(h:zA6 fa fs δ=some (ds,δ')): ∃x δ1 xs,fa δ=some (x,δ1)/\fs δ1=some (xs,δ')/\ds=x::xs:=by
 unfold zA6 at h
 cases h1:fa δ with
 | none => rw [h1] at h;cases h
 |some p=>
  rw[h1] at h
  cases h2:fs p.2 with
  |none=>simp[h2] at h
  |some q=>
   simp only[Option.bind_some,h2] at h
   cases h
   exact⟨p.1,p.2,q.1,rfl,h2,rfl⟩
theorem zAB:PA X [] (TAV K ml true true fNil):=zC1.imp fun σ H Q q0=>by
 obtain⟨B,O,δ,d,δ',S,q,k⟩:=q0
 cases q
 exact k [] H ⟨S,Fr.refl _ _,fun _=>Same.refl _,.nil⟩
theorem zA0{fs:VFs}(ha:PE X a (TV K ml pa ta ia fa))(hr:PA X es (TAV K ml ps bs fs))(hs:starEach (a::es) X.env=(false,eval a X.env)::starEach es X.env:=by rfl)(hl:(ps || (ta && ia))=true:=by rfl)(ht:ta=true:=by rfl):
  PA X (a::es) (TAV K ml (pa && ps) (ta && ia && bs) (zA6 fa fs)):=(zAQ ha hr hs).imp fun σ H Q ⟨B,O,δ,d,δ2,S,q,k⟩=>by
 obtain⟨x,δ1,xs,h1,h2,rfl⟩:=zKC q
 refine⟨B,O,δ,x,δ1,S,h1,fun v1 H1 R1=>⟨B,O,δ1,xs,δ2,R1.sta,h2,fun vs H2 R2=>k _ H2 ⟨R2.sta,R1.frm.trans R2.frm,fun z=> ?_,?_⟩⟩⟩
 ·obtain⟨z1,z2⟩:=(Bool.and_eq_true _ _).mp z
  exact(R1.pur z1).trans (R2.pur z2)
 ·have g : ∀ c,((ta && ia && bs) = true -> c = true) -> ∀ a,av B O (ta && ia && bs) a -> av B O c a := fun c h => zHN h
  have g1:=g ta fun z=>by simp only[Bool.and_eq_true] at z;exact z.1.1
  have g2:=g ia fun z=>by simp only[Bool.and_eq_true] at z;exact z.1.2
  have g3:=g bs fun z=>by simp only[Bool.and_eq_true] at z;exact z.2
  refine .cons ?_ (R2.rep.mono g3)
  have h:Rep K (av B O ia) H2 (at_ B O ta) v1 x:=by
   cases ps with
   |true=>exact R1.rep.same (R2.pur rfl)
   |false=>
    have hs:(ta && ia)=true:=by simpa using hl
    obtain⟨h1,h2⟩:=(Bool.and_eq_true _ _).mp hs
    subst h1 h2
    exact R1.rep.fr R2.frm (fun a z=> .inr z) fun a z=> .inr z
  subst ht
  exact h.mono g2 g1
theorem Sta.lone(S:Sta K ml B O H σ δ){i:Nat}{x:Dat}(hm:i∉ml)(h:fO i δ=some (x,δ')):δ'=δ/\ ∃v,σ[i]? =some (some v)/\Rep K (av B O false) H (av B O false) v x:=by
 unfold fO at h
 split at h
 ·rename_i d hd
  cases h
  obtain⟨v,e1,r⟩:=S.va i _ hd
  exact⟨rfl,v,e1,r.mono (fun a z=>z.1) fun a z=>z.1⟩
 ·rename_i d hd
  cases h
  obtain⟨a,e1,e2,w⟩:=S.ow i _ hd
  refine⟨rfl,.ref a,e2,(w.mono fun a z=>z.1).rep fun z=> ?_⟩
  rcases z.2 with z|⟨j,z⟩
  ·exact(S.old i a e1).1 z
  ·have hj:=S.par.1 j a z
   have:i=j:=S.inj i j a e1 ((S.par.2 j hj).trans z)
   exact hm (this▸hj)
 ·cases h
theorem zIJ{i:Nat}{fs:VFs}(ha:PE X a (tVar i))(hr:PA X es (TAV K ml ps bs fs))(hs:starEach (a::es) X.env=(false,eval a X.env)::starEach es X.env:=by rfl)(hl:ps=true:=by rfl)(hm:i∉ml:=by decide):
  PA X (a::es) (TAV K ml ps false (zA6 (fO i) fs)):=(zAQ ha hr hs).imp fun σ H Q ⟨B,O,δ,d,δ2,S,q,k⟩=>by
 obtain⟨x,δ1,xs,h1,h2,rfl⟩:=zKC q
 obtain⟨rfl,v,e1,r⟩:=S.lone hm h1
 exact⟨v,e1,B,O,δ1,xs,δ2,S,h2,fun vs H2 R2=>k _ H2 ⟨R2.sta,R2.frm,R2.pur,.cons (r.same (R2.pur hl)) (R2.rep.mono (zHN (b:=false) fun z=>nomatch z))⟩⟩
noncomputable def fTup(fs:VFs):VF:=fun δ=>(fs δ).bind fun p=>if p.1.length<=16777216 then some (.tup p.1,p.2) else none
noncomputable def fLst(fs:VFs):VF:=fun δ=>(fs δ).bind fun p=>if p.1.length<=16777216 then some (.lst p.1,p.2) else none
theorem zMY{fs:VFs}{g:List Dat->Dat}(h:((fs δ).bind fun p=>if p.1.length<=16777216 then some (g p.1,p.2) else none)=some (d,δ')): ∃ds,fs δ=some (ds,δ')/\ds.length<=16777216/\d=g ds:=by
 cases h1:fs δ with
 | none => rw [h1] at h;cases h
 |some p=>
  rw[h1] at h
  have h:(if p.1.length<=16777216 then some (g p.1,p.2) else none)=some (d,δ'):=h
  split at h
  ·cases h
   exact⟨p.1,rfl,by assumption,rfl⟩
  ·cases h
theorem zAT{x1}{fs:VFs}(h:PA X es (TAV K ml pu bs fs)):PE X (.Tuple es x1 pos) (TV K ml pu true bs (fTup fs)):=(zTH h).imp fun σ H Q q0=>by
 obtain⟨B,O,δ,d,δ',S,q,k⟩:=q0
 obtain⟨ds,h1,hl,rfl⟩:=zMY (g:=Dat.tup) q
 refine⟨B,O,δ,ds,δ',S,h1,fun vs H1 R=>⟨by rw[R.rep.length,sizeLine_eq];exact hl,fun p hp=>k _ _ ⟨R.sta.same (zA4 hp),R.frm.trans (zA4 hp).fr,fun z=>(R.pur z).trans (zA4 hp),.tup (SqT.of zAK) (R.rep.same (zA4 hp))⟩⟩⟩
theorem zBO{fs:VFs}(h:PA X es (TAV K ml pu true fs)):PE X (.List es pos) (TN K ml pu (fLst fs)):=(zY7 h).imp fun σ H Q q0=>by
 obtain⟨B,O,δ,d,δ',S,q,k⟩:=q0
 obtain⟨ds,h1,hl,rfl⟩:=zMY (g:=Dat.lst) q
 exact⟨B,O,δ,ds,δ',S,h1,fun vs H1 R=>⟨by rw[R.rep.length,sizeLine_eq];exact hl,fun p hp=>k p _ (mkN R.sta R.frm R.pur hp R.rep)⟩⟩
abbrev VB:=Ev->Option (Bool×Ev)
structure ResB(K:W.Frag)(ml:List Nat)(B:Bs)(O:Nat->Option Addr)(H:Hp)(σ:St)(pu:Bool)(H':Hp)(δ':Ev):Prop where
 sta:Sta K ml B O H' σ δ'
 frm:Fr (OA O) H H'
 pur:pu=true->Same H H'
def TB(K:W.Frag)(ml:List Nat)(pu:Bool)(f:VB):TT:=fun σ H Q=> ∃B O δ k δ',Sta K ml B O H σ δ/\f δ=some (k,δ')/\ ∀H',ResB K ml B O H σ pu H' δ'->Q k H'
noncomputable def fB(f:VF):VB:=fun δ=>(f δ).bind fun p=>match p.1 with
 | .bl k=>some (k,p.2)
 |_=>none
theorem yAA{f:VF}{k:Bool}(h:fB f δ=some (k,δ')):f δ=some (.bl k,δ'):=by
 unfold fB at h
 cases h1:f δ with
 | none => rw [h1] at h;cases h
 |some p=>
  obtain⟨x,δ1⟩:=p
  rw[h1] at h
  cases x<;>first
   |(cases h;rfl)
   |cases h
theorem zKY{f:VF}{t:TE}(ht: ∀σ H Q,TV K ml pu bt bi f σ H Q->t σ H Q){Q:Bool->Hp->Prop}(h:TB K ml pu (fB f) σ H Q):t σ H fun x H'=> ∃k,x= .bl k/\Q k H':=by
 obtain⟨B,O,δ,k,δ',S,q,w⟩:=h
 refine ht σ H _ ⟨B,O,δ,.bl k,δ',S,yAA q,fun v H' R=>⟨k,?_,w H' ⟨R.sta,R.frm,R.pur⟩⟩⟩
 cases R.rep
 rfl
theorem zAR{op:CmpOp}(ho:OpR X (compareOp op) r)(hv:OpS K r o)(ha:PE X a (TV K ml pa ta ia fa))(hb:PE X b (TV K ml pb tb ib fb))(hm:behindInMarks op b=false)(hs:(pb || (ta && ia))=true:=by rfl):PT X (.Compare a [op] [b] pos) (TB K ml (pa && pb) (fB (f2 o fa fb))):=
 (zUX ho ha hb hm).imp fun _ _ _ h=>zKY (fun _ _ _=>zO5 hv hs) h
theorem zCZ{f:VF}(h:PE X e (TV K ml pu bt bi f))(he: ∀ax,isTrue e X.env ax=(do let v<- ax;standAt e.pos;holding [v] (truthy v)):=by intro _;rfl):PT X e (TB K ml pu (fB f)):=
 (zXS h he).imp fun _ _ _ h=>zKY (fun _ _ _ z=>z) h
noncomputable def bAnd(x y:VB):VB:=fun δ=>(x δ).bind fun p=>if p.1=true then y p.2 else some (false,p.2)
noncomputable def bOr(x y:VB):VB:=fun δ=>(x δ).bind fun p=>if p.1=true then some (true,p.2) else y p.2
noncomputable def bNot(x:VB):VB:=fun δ=>(x δ).map fun p=>(!p.1,p.2)
theorem ResB.refl(S:Sta K ml B O H σ δ):ResB K ml B O H σ pu H δ:=⟨S,Fr.refl _ _,fun _=>Same.refl _⟩
theorem zWK{x y:VB}{Q:Bool->Hp->Prop}(h:TB K ml (pa && pb) (bAnd x y) σ H Q):tAnd (TB K ml pa x) (TB K ml pb y) σ H Q:=by
 obtain⟨B,O,δ,k,δ',S,q,w⟩:=h
 unfold bAnd at q
 cases h1:x δ with
 | none => rw [h1] at q;cases q
 |some p=>
  obtain⟨kk,δ1⟩:=p
  rw[h1] at q
  refine⟨B,O,δ,kk,δ1,S,h1,fun H1 R1=> ?_⟩
  cases kk with
  |true=>
   have q:y δ1=some (k,δ'):=q
   exact iteT ⟨B,O,δ1,k,δ',R1.sta,q,fun H2 R2=>w H2 ⟨R2.sta,R1.frm.trans R2.frm,fun z=>by
    obtain⟨z1,z2⟩:=(Bool.and_eq_true _ _).mp z
    exact(R1.pur z1).trans (R2.pur z2)⟩⟩
  |false=>
   have q:some (false,δ1)=some (k,δ'):=q
   cases q
   exact iteF (w H1 ⟨R1.sta,R1.frm,fun z=>R1.pur ((Bool.and_eq_true _ _).mp z).1⟩)
theorem yB7{x y:VB}{Q:Bool->Hp->Prop}(h:TB K ml (pa && pb) (bOr x y) σ H Q):tOr (TB K ml pa x) (TB K ml pb y) σ H Q:=by
 obtain⟨B,O,δ,k,δ',S,q,w⟩:=h
 unfold bOr at q
 cases h1:x δ with
 | none => rw [h1] at q;cases q
 |some p=>
  obtain⟨kk,δ1⟩:=p
  rw[h1] at q
  refine⟨B,O,δ,kk,δ1,S,h1,fun H1 R1=> ?_⟩
  cases kk with
  |false=>
   have q:y δ1=some (k,δ'):=q
   exact iteF ⟨B,O,δ1,k,δ',R1.sta,q,fun H2 R2=>w H2 ⟨R2.sta,R1.frm.trans R2.frm,fun z=>by
    obtain⟨z1,z2⟩:=(Bool.and_eq_true _ _).mp z
    exact(R1.pur z1).trans (R2.pur z2)⟩⟩
  |true=>
   have q:some (true,δ1)=some (k,δ'):=q
   cases q
   exact iteT (w H1 ⟨R1.sta,R1.frm,fun z=>R1.pur ((Bool.and_eq_true _ _).mp z).1⟩)
theorem zD4{x:VB}(h:PT X a (TB K ml pu x)):PT X (.UnaryOp .Not a pos) (TB K ml pu (bNot x)):=(zXT h).imp fun σ H Q q0=>by
 obtain⟨B,O,δ,k,δ',S,q,w⟩:=q0
 unfold bNot at q
 cases h1:x δ with
 |none=>rw[h1] at q;cases q
 |some p=>
  rw[h1] at q
  cases q
  exact⟨B,O,δ,p.1,p.2,S,h1,w⟩
theorem zGW{x:VB}(h:PT X a (TB K ml pu x)):PW X (.BoolOp .And [a] pos) (TB K ml pu x):=zUU h
theorem zEX{x:VB}(h:PT X a (TB K ml pu x)):PW X (.BoolOp .Or [a] pos) (TB K ml pu x):=zXQ h
theorem zJD{x y:VB}(ha:PT X a (TB K ml pa x))(hb:PW X (.BoolOp .And (b::es) pos) (TB K ml pb y)):PW X (.BoolOp .And (a::b::es) pos) (TB K ml (pa && pb) (bAnd x y)):=(zXR ha hb).imp fun _ _ _ h=>zWK h
theorem zIE{x y:VB}(ha:PT X a (TB K ml pa x))(hb:PW X (.BoolOp .Or (b::es) pos) (TB K ml pb y)):PW X (.BoolOp .Or (a::b::es) pos) (TB K ml (pa && pb) (bOr x y)):=(yC8 ha hb).imp fun _ _ _ h=>yB7 h
theorem vt_w{x:VB}(h:PW X e (TB K ml pu x)):PT X e (TB K ml pu x):=h.pt
noncomputable def fAnd(x y:VF):VF:=fun δ=>(x δ).bind fun p=>match p.1 with
 | .bl true=>y p.2
 | .bl false=>some (.bl false,p.2)
 |_=>none
noncomputable def fOr(x y:VF):VF:=fun δ=>(x δ).bind fun p=>match p.1 with
 | .bl false=>y p.2
 | .bl true=>some (.bl true,p.2)
 |_=>none
theorem zGX{op}{f:VF}(h:PE X a (TV K ml pu bt bi f)):PE X (.BoolOp op [a] pos) (TV K ml pu bt bi f):=zY5 h
theorem zGA(ha:PE X a (TV K ml pa ta ia fa))(hb:PE X (.BoolOp .And (b::es) pos) (TV K ml pb tb ib fb)):PE X (.BoolOp .And (a::b::es) pos) (TV K ml (pa && pb) tb ib (fAnd fa fb)):=(zY9 ha hb).imp fun σ H Q q0=>by
 obtain⟨B,O,δ,d,δ',S,q,k⟩:=q0
 unfold fAnd at q
 cases h1:fa δ with
 | none => rw [h1] at q;cases q
 |some p=>
  obtain⟨x,δ1⟩:=p
  rw[h1] at q
  refine⟨B,O,δ,x,δ1,S,h1,fun v1 H1 R1=> ?_⟩
  cases x with
  |bl kk=>
   have e1:v1= .bl kk:=by cases R1.rep;rfl
   refine⟨kk,e1,?_⟩
   cases kk with
   |true=>
    exact iteT ⟨B,O,δ1,d,δ',R1.sta,q,fun v2 H2 R2=>k v2 H2 ⟨R2.sta,R1.frm.trans R2.frm,fun z=>by
     obtain⟨z1,z2⟩:=(Bool.and_eq_true _ _).mp z
     exact(R1.pur z1).trans (R2.pur z2),R2.rep⟩⟩
   |false=>
    cases q
    exact iteF (k _ H1 ⟨R1.sta,R1.frm,fun z=>R1.pur ((Bool.and_eq_true _ _).mp z).1,.bl _⟩)
  |_=>cases q
theorem yB5(ha:PE X a (TV K ml pa ta ia fa))(hb:PE X (.BoolOp .Or (b::es) pos) (TV K ml pb tb ib fb)):PE X (.BoolOp .Or (a::b::es) pos) (TV K ml (pa && pb) tb ib (fOr fa fb)):=(yCG ha hb).imp fun σ H Q q0=>by
 obtain⟨B,O,δ,d,δ',S,q,k⟩:=q0
 unfold fOr at q
 cases h1:fa δ with
 | none => rw [h1] at q;cases q
 |some p=>
  obtain⟨x,δ1⟩:=p
  rw[h1] at q
  refine⟨B,O,δ,x,δ1,S,h1,fun v1 H1 R1=> ?_⟩
  cases x with
  |bl kk=>
   have e1:v1= .bl kk:=by cases R1.rep;rfl
   refine⟨kk,e1,?_⟩
   cases kk with
   |false=>
    exact iteF ⟨B,O,δ1,d,δ',R1.sta,q,fun v2 H2 R2=>k v2 H2 ⟨R2.sta,R1.frm.trans R2.frm,fun z=>by
     obtain⟨z1,z2⟩:=(Bool.and_eq_true _ _).mp z
     exact(R1.pur z1).trans (R2.pur z2),R2.rep⟩⟩
   |true=>
    cases q
    exact iteT (k _ H1 ⟨R1.sta,R1.frm,fun z=>R1.pur ((Bool.and_eq_true _ _).mp z).1,.bl _⟩)
  |_=>cases q
noncomputable def fIf(t:VB)(x y:VF):VF:=fun δ=>(t δ).bind fun p=>if p.1=true then x p.2 else y p.2
theorem zGY{t:VB}(ht:PT X c (TB K ml pc t))(ha:PE X a (TV K ml pa ta ia fa))(hb:PE X b (TV K ml pb tb ib fb)):PE X (.IfExp c a b pos) (TV K ml (pc && pa && pb) (ta && tb) (ia && ib) (fIf t fa fb)):=(zS4 ht ha hb).imp fun σ H Q q0=>by
 obtain⟨B,O,δ,d,δ',S,q,k⟩:=q0
 unfold fIf at q
 cases h1:t δ with
 | none => rw [h1] at q;cases q
 |some p=>
  obtain⟨kk,δ1⟩:=p
  rw[h1] at q
  refine⟨B,O,δ,kk,δ1,S,h1,fun H1 R1=> ?_⟩
  have g1: ∀c,((ta && tb)=true->c=true)-> ∀a,at_ B O (ta && tb) a->at_ B O c a:=fun c h=>zW7 h
  have g2: ∀c,((ia && ib)=true->c=true)-> ∀a,av B O (ia && ib) a->av B O c a:=fun c h=>zHN h
  cases kk with
  |true=>
   exact iteT ⟨B,O,δ1,d,δ',R1.sta,q,fun v2 H2 R2=>k v2 H2 ⟨R2.sta,R1.frm.trans R2.frm,fun z=>by
    simp only[Bool.and_eq_true] at z
    exact(R1.pur z.1.1).trans (R2.pur z.1.2),R2.rep.mono (g2 _ fun z=>((Bool.and_eq_true _ _).mp z).1) (g1 _ fun z=>((Bool.and_eq_true _ _).mp z).1)⟩⟩
  |false=>
   exact iteF ⟨B,O,δ1,d,δ',R1.sta,q,fun v2 H2 R2=>k v2 H2 ⟨R2.sta,R1.frm.trans R2.frm,fun z=>by
    simp only[Bool.and_eq_true] at z
    exact(R1.pur z.1.1).trans (R2.pur z.2),R2.rep.mono (g2 _ fun z=>((Bool.and_eq_true _ _).mp z).2) (g1 _ fun z=>((Bool.and_eq_true _ _).mp z).2)⟩⟩
noncomputable def f3(o o':Dat->Dat->Option Dat)(fa fb fc:VF):VF:=fun δ=>(fa δ).bind fun p=>(fb p.2).bind fun q=>(o p.1 q.1).bind fun z=>match z with
 | .bl true=>(fc q.2).bind fun s=>(o' q.1 s.1).map fun u=>(u,s.2)
 | .bl false=>some (.bl false,q.2)
 |_=>none
theorem zLZ(ho:OpS K r o)(ho':OpS K r' o')(hs:(pb || (ta && ia))=true)(hs':(pc || (tb && ib))=true){Q:VK}(h:TV K ml (pa && pb && pc) true true (f3 o o' fa fb fc) σ H Q):zOD r r' (TV K ml pa ta ia fa) (TV K ml pb tb ib fb) (TV K ml pc tc ic fc) σ H Q:=by
 obtain⟨B,O,δ,d,δ3,S,q,k⟩:=h
 unfold f3 at q
 cases h1:fa δ with
 | none => rw [h1] at q;cases q
 |some p=>
  obtain⟨x,δ1⟩:=p
  rw[h1] at q
  cases h2:fb δ1 with
  | none => simp [h2] at q
  |some p2=>
   obtain⟨y,δ2⟩:=p2
   simp only[Option.bind_some,h2] at q
   refine⟨B,O,δ,x,δ1,S,h1,fun v1 H1 R1=>⟨B,O,δ1,y,δ2,R1.sta,h2,fun v2 H2 R2=> ?_⟩⟩
   cases h3:o x y with
   | none => rw [h3] at q;cases q
   |some z=>
    rw[h3] at q
    refine ho H2 _ _ _ _ v1 v2 x y z _ (R2.live hs R1.rep) R2.rep h3 fun v hv=> ?_
    have hv := hv (fun _ => none) (fun _ => True) fun _ => True
    cases z with
    |bl kk=>
     have e1:v= .bl kk:=by cases hv;rfl
     refine⟨kk,e1,?_⟩
     cases kk with
     |false=>
      cases q
      exact iteF (k _ H2 ⟨R2.sta,R1.frm.trans R2.frm,fun z=>by
       simp only[Bool.and_eq_true] at z
       exact(R1.pur z.1.1).trans (R2.pur z.1.2),.bl _⟩)
     |true=>
      have q:((fc δ2).bind fun s=>(o' y s.1).map fun u=>(u,s.2))=some (d,δ3):=q
      cases h4:fc δ2 with
      | none => rw [h4] at q;cases q
      |some p4=>
       obtain⟨z4,δ4⟩:=p4
       rw[h4] at q
       have q:((o' y z4).map fun u=>(u,δ4))=some (d,δ3):=q
       cases h5:o' y z4 with
       | none => rw [h5] at q;cases q
       |some u=>
        rw[h5] at q
        cases q
        refine iteT ⟨B,O,δ2,z4,_,R2.sta,h4,fun v4 H4 R4=> ?_⟩
        exact ho' H4 _ _ _ _ v2 v4 y z4 d Q (R4.live hs' R2.rep) R4.rep h5 fun v hv=>k v H4 ⟨R4.sta,(R1.frm.trans R2.frm).trans R4.frm,fun z=>by
         simp only[Bool.and_eq_true] at z
         exact((R1.pur z.1.1).trans (R2.pur z.1.2)).trans (R4.pur z.2),hv _ _ _⟩
    |_=>cases q
theorem zRB{op op':CmpOp}(ho:OpR X (compareOp op) r)(ho':OpR X (compareOp op') r')(hv:OpS K r o)(hv':OpS K r' o')(ha:PE X a (TV K ml pa ta ia fa))(hb:PE X b (TV K ml pb tb ib fb))(hc:PE X c (TV K ml pc tc ic fc))
  (hm:lastMarks [op,op'] [b,c]=false:=by with_unfolding_all rfl) (hs:(pb || (ta && ia))=true:=by rfl) (hs':(pc || (tb && ib))=true:=by rfl):PE X (.Compare a [op,op'] [b,c] pos) (TV K ml (pa && pb && pc) true true (f3 o o' fa fb fc)):=
 (zS9 ho ho' ha hb hc hm).imp fun _ _ _ h=>zLZ hv hv' hs hs' h
theorem zLU{op op':CmpOp}(ho:OpR X (compareOp op) r)(ho':OpR X (compareOp op') r')(hv:OpS K r o)(hv':OpS K r' o')(ha:PE X a (TV K ml pa ta ia fa))(hb:PE X b (TV K ml pb tb ib fb))(hc:PE X c (TV K ml pc tc ic fc))
  (hm:lastMarks [op,op'] [b,c]=false:=by with_unfolding_all rfl) (hs:(pb || (ta && ia))=true:=by rfl) (hs':(pc || (tb && ib))=true:=by rfl):PT X (.Compare a [op,op'] [b,c] pos) (TB K ml (pa && pb && pc) (fB (f3 o o' fa fb fc))):=
 (zS0 ho ho' ha hb hc hm).imp fun _ _ _ h=>zKY (fun _ _ _=>zLZ hv hv' hs hs') h
end
section
variable{X:Cx}{K:W.Frag}{ml:List Nat}{e a b c:Expr}{es:List Expr}{pa ta ia pb tb ib pc tc ic pu bt bi ps bs:Bool}{fa fb fc:VF}{B:Bs}{O:Nat->Option Addr}{H H1 H':Hp}{σ:St}{δ δ':Ev}{v:V}{d:Dat}{p:Addr}{pos:Pos}
noncomputable def f1(o:Dat->Option Dat)(fa:VF):VF:=fun δ=>(fa δ).bind fun p=>(o p.1).map fun c=>(c,p.2)
theorem zKE{o:Dat->Option Dat}(h:f1 o fa δ=some (d,δ')): ∃x,fa δ=some (x,δ')/\o x=some d:=by
 unfold f1 at h
 cases h1:fa δ with
 | none => rw [h1] at h;cases h
 |some p=>
  rw[h1] at h
  have h:((o p.1).map fun c=>(c,p.2))=some (d,δ'):=h
  cases h3:o p.1 with
  |none=>rw[h3] at h;cases h
  |some c=>
   rw[h3] at h
   cases h
   exact⟨p.1,rfl,h3⟩
abbrev RC:=List V->Hp->VK->Prop
def CalS(K:W.Frag)(r:RC)(o:Dat->Option Dat):Prop:= ∀(H:Hp) (N M:Addr->Prop) (x:V) (d c:Dat) (Q:VK),Rep K N H M x d->o d=some c->(∀v,(∀H' N M,Rep K N H' M v c)->Q v H)->r [x] H Q
def CalC(K:W.Frag)(r:RC)(o:Dat->Option Dat):Prop:= ∀(H:Hp) (N M:Addr->Prop) (x:V) (d c:Dat) (Q:VK),Rep K N H M x d->o d=some c→
 (∀v H',Same H H'->(∀M,(∀a,M a-> ∃o,H a=some o)->Rep K N H' M v c)->Q v H')->r [x] H Q
def CalN(K:W.Frag)(r:RC)(o:Dat->Option Dat):Prop:= ∀(H:Hp) (N M:Addr->Prop) (x:V) (d c:Dat) (Q:VK),Rep K N H M x d->o d=some c→
 (∀p xs ds,H p=none->RepA K N H xs ds->c= .lst ds->Q (.ref p) (upd H p (.lst xs)))->r [x] H Q
def zNV(K:W.Frag)(r:RC)(o:Dat->Dat->Option Dat):Prop:= ∀(H:Hp) (N N' M M':Addr->Prop) (x y:V) (d e c:Dat) (Q:VK),Rep K N H M x d->Rep K N' H M' y e->o d e=some c->(∀v,(∀H' N M,Rep K N H' M v c)->Q v H)->r [x,y] H Q
theorem zO8{r:RC}{o:Dat->Option Dat}(ho:CalS K r o){Q:VK}(h:TV K ml pa true true (f1 o fa) σ H Q):tCB r (zNB (TV K ml pa ta ia fa) tNil) σ H Q:=by
 obtain⟨B,O,δ,d,δ',S,q,k⟩:=h
 obtain⟨x,h1,h2⟩:=zKE q
 exact⟨B,O,δ,x,δ',S,h1,fun v1 H1 R1=>ho H1 _ _ v1 x d Q R1.rep h2 fun v hv=>k v H1 ⟨R1.sta,R1.frm,R1.pur,hv _ _ _⟩⟩
theorem zO9{r:RC}{o:Dat->Option Dat}(ho:CalC K r o){Q:VK}(h:TV K ml pa true ia (f1 o fa) σ H Q):tCB r (zNB (TV K ml pa ta ia fa) tNil) σ H Q:=by
 obtain⟨B,O,δ,d,δ',S,q,k⟩:=h
 obtain⟨x,h1,h2⟩:=zKE q
 exact⟨B,O,δ,x,δ',S,h1,fun v1 H1 R1=>ho H1 _ _ v1 x d Q R1.rep h2 fun v H2 s2 hv=>k v H2 ⟨R1.sta.same s2,R1.frm.trans s2.fr,fun z=>(R1.pur z).trans s2,hv _ fun a z=>R1.sta.nin z⟩⟩
theorem zJH{r:RC}{o:Dat->Option Dat}(ho:CalN K r o){Q:VK}(h:TN K ml pa (f1 o fa) σ H Q):tCB r (zNB (TV K ml pa ta true fa) tNil) σ H Q:=by
 obtain⟨B,O,δ,d,δ',S,q,k⟩:=h
 obtain⟨x,h1,h2⟩:=zKE q
 refine⟨B,O,δ,x,δ',S,h1,fun v1 H1 R1=>ho H1 _ _ v1 x d Q R1.rep h2 fun p xs ds hp hr he=> ?_⟩
 subst he
 exact k p _ (mkN R1.sta R1.frm R1.pur hp hr)
theorem zO7{r:RC}{o:Dat->Dat->Option Dat}(ho:zNV K r o)(hs:(pb || (ta && ia))=true){Q:VK}(h:TV K ml (pa && pb) true true (f2 o fa fb) σ H Q):tCB r (zNB (TV K ml pa ta ia fa) (zNB (TV K ml pb tb ib fb) tNil)) σ H Q:=by
 obtain⟨B,O,δ,d,δ2,S,q,k⟩:=h
 obtain⟨x,δ1,y,h1,h2,h3⟩:=zI7 q
 refine⟨B,O,δ,x,δ1,S,h1,fun v1 H1 R1=>⟨B,O,δ1,y,δ2,R1.sta,h2,fun v2 H2 R2=> ?_⟩⟩
 exact ho H2 _ _ _ _ v1 v2 x y d Q (R2.live hs R1.rep) R2.rep h3 fun v hv=>k v H2 ⟨R2.sta,R1.frm.trans R2.frm,fun z=>by
  obtain⟨z1,z2⟩:=(Bool.and_eq_true _ _).mp z
  exact(R1.pur z1).trans (R2.pur z2),hv _ _ _⟩
section
variable{x:Str}{p':Pos}{id T:String}{r:RC}
theorem zUF{o:Dat->Option Dat}(hc:zC7 X (.builtin id) r)(ho:CalS K r o)(hg:Gl X x)(hm:X.mg x=none)(hv:bootBuiltins x=some (.builtin id))(ha:PE X a (TV K ml pa ta ia fa))(hn:x≠ "__name__":=by decide) (hdb:(x==("__debug__":Str))=false:=by decide)
  (he:starEach (a::[]) X.env=(false,eval a X.env)::starEach [] X.env:=by rfl):PE X (.Call (.Name x p') [a] [] pos) (TV K ml pa true true (f1 o fa)):=
 (zIP hc hg hm hv (zAQ ha zC1 he) hn hdb he).imp fun _ _ _ h=>zO8 ho h
theorem zN8{o:Dat->Dat->Option Dat}(hc:zC7 X (.builtin id) r)(ho:zNV K r o)(hg:Gl X x)(hm:X.mg x=none)(hv:bootBuiltins x=some (.builtin id))(ha:PE X a (TV K ml pa ta ia fa))(hb:PE X b (TV K ml pb tb ib fb))(hn:x≠ "__name__":=by decide) (hdb:(x==("__debug__":Str))=false:=by decide)
  (he:starEach (a::[b]) X.env=(false,eval a X.env)::starEach [b] X.env:=by rfl) (he2:starEach (b::[]) X.env=(false,eval b X.env)::starEach [] X.env:=by rfl) (hpl:(backTo pos (starEach [b] X.env)).any (·.1)=false:=by rfl) (hs:(pb || (ta && ia))=true:=by rfl):
  PE X (.Call (.Name x p') [a,b] [] pos) (TV K ml (pa && pb) true true (f2 o fa fb)):=
 (zIP hc hg hm hv (zAQ ha (zAQ hb zC1 he2) he) hn hdb he hpl).imp fun _ _ _ h=>zO7 ho hs h
theorem zO3{o:Dat->Option Dat}(hc:zC7 X (.type T) r)(ho:CalC K r o)(hg:Gl X x)(hm:X.mg x=none)(hv:bootBuiltins x=some (.type T))(ha:PE X a (TV K ml pa ta ia fa))(hn:x≠ "__name__":=by decide) (hdb:(x==("__debug__":Str))=false:=by decide)
  (he:starEach (a::[]) X.env=(false,eval a X.env)::starEach [] X.env:=by rfl):PE X (.Call (.Name x p') [a] [] pos) (TV K ml pa true ia (f1 o fa)):=
 (zDJ hc hg hm hv (zAQ ha zC1 he) hn hdb he).imp fun _ _ _ h=>zO9 ho h
theorem zUA{o:Dat->Option Dat}(hc:zC7 X (.type T) r)(ho:CalN K r o)(hg:Gl X x)(hm:X.mg x=none)(hv:bootBuiltins x=some (.type T))(ha:PE X a (TV K ml pa ta true fa))(hn:x≠ "__name__":=by decide) (hdb:(x==("__debug__":Str))=false:=by decide)
  (he:starEach (a::[]) X.env=(false,eval a X.env)::starEach [] X.env:=by rfl):PE X (.Call (.Name x p') [a] [] pos) (TN K ml pa (f1 o fa)):=
 (zDJ hc hg hm hv (zAQ ha zC1 he) hn hdb he).imp fun _ _ _ h=>zJH ho h
theorem yB3{o:Dat->Option Dat}(hc:zC7 X (.builtin id) r)(ho:CalN K r o)(hg:Gl X x)(hm:X.mg x=none)(hv:bootBuiltins x=some (.builtin id))(ha:PE X a (TV K ml pa ta true fa))(hn:x≠ "__name__":=by decide) (hdb:(x==("__debug__":Str))=false:=by decide)
  (he:starEach (a::[]) X.env=(false,eval a X.env)::starEach [] X.env:=by rfl):PE X (.Call (.Name x p') [a] [] pos) (TN K ml pa (f1 o fa)):=
 (zIP hc hg hm hv (zAQ ha zC1 he) hn hdb he).imp fun _ _ _ h=>zJH ho h
end
noncomputable def oLen:Dat->Option Dat
 | .tup ds=>some (.int ds.length)
 | .lst ds=>some (.int ds.length)
 | .str z=>if z.length<=16777216 then some (.int z.length) else none
 |_=>none
def rLen(K:W.Frag):RC:=fun xs H Q=>(∃p ys,xs=[.ref p]/\(SqL K H p ys∨SqT K H p ys)/\Q (.int ys.length) H)∨ ∃z,xs=[.str z]/\z.length<=sizeLine/\Q (.int z.length) H
theorem yDO(h:X.K=K):zC7 X (.builtin "len") (rLen K):=by subst h;exact zKP.or zKO
theorem yBP:CalS K (rLen K) oLen:=by
  intro H N M x d c Q hx h k
  cases d<;>first
    | (rename_i ds
       obtain⟨a,xs,rfl,sq,r⟩:=hx.seq rfl
       cases h
       refine .inl ⟨a,xs,rfl,sq,?_⟩
       rw[r.length]
       exact k _ fun _ _ _=> .int _)
    | (cases hx
       simp only[oLen] at h
       split at h
       · cases h
         exact .inr ⟨_,rfl,by rw[sizeLine_eq];assumption,k _ fun _ _ _=> .int _⟩
       · cases h)
    |cases h
noncomputable def zNK(d:Dat):Option Dat:=(seqD d).map Dat.lst
noncomputable def zGF(d:Dat):Option Dat:=(seqD d).map Dat.tup
def zMA(K:W.Frag):RC:=fun xs H Q=> ∃p ys,xs=[.ref p]/\(SqL K H p ys∨SqT K H p ys)/\ ∀l,H l=none->Q (.ref l) (upd H l (.lst ys))
def zP2(K:W.Frag):RC:=fun xs H Q=> ∃p ys,xs=[.ref p]/\((SqL K H p ys/\ ∀l,H l=none->Q (.ref l) (upd H l (.tup ys)))∨(SqT K H p ys/\Q (.ref p) H))
theorem zMT(h:X.K=K):zC7 X (.type "list") (zMA K):=yDN h
theorem zH8(h:X.K=K):zC7 X (.type "tuple") (zP2 K):=zZY h
theorem zM2{d:Dat}{g:List Dat->Dat}{c:Dat}(h:(seqD d).map g=some c): ∃ds,seqD d=some ds/\c=g ds:=by
 cases h1:seqD d with
 |none=>rw[h1] at h;cases h
 |some ds=>rw[h1] at h;cases h;exact⟨ds,rfl,rfl⟩
theorem zEH:CalN K (zMA K) zNK:=by
 intro H N M x d c Q hx h k
 obtain⟨ds,h1,rfl⟩:=zM2 h
 obtain⟨a,xs,rfl,sq,r⟩:=hx.seq h1
 exact⟨a,xs,rfl,sq,fun l hl=>k l xs ds hl r rfl⟩
theorem zHK:CalC K (zP2 K) zGF:=by
 intro H N M x d c Q hx h k
 obtain⟨ds,h1,rfl⟩:=zM2 h
 obtain⟨a,xs,rfl,sq,r⟩:=hx.seq h1
 rcases sq with sq|sq
 ·exact⟨a,xs,rfl,.inl ⟨sq,fun l hl=>k _ _ (zA4 hl) fun M hM=> .tup (SqT.of zAK) (r.same (zA4 hl))⟩⟩
 ·exact⟨a,xs,rfl,.inr ⟨sq,k _ _ (Same.refl _) fun M hM=> .tup sq r⟩⟩
noncomputable def o2I(g:Int->Int->Int):Dat->Dat->Option Dat
 | .int i,.int j=>some (.int (g i j))
 |_,_=>none
theorem zT7{g:Int->Int->Int}:zNV K (fun xs H Q=> ∃i j,xs=[.int i,.int j]/\Q (.int (g i j)) H) (o2I g):=by
 intro H N N' M M' x y d e c Q hx hy h k
 unfold o2I at h
 split at h
 ·cases h
  cases hx
  cases hy
  exact⟨_,_,rfl,k _ fun _ _ _=> .int _⟩
 ·cases h
noncomputable abbrev oMax:=o2I fun i j=>if j>i then j else i
noncomputable abbrev oMin:=o2I fun i j=>if j<i then j else i
theorem zX8:zNV K (fun xs H Q=> ∃i j,xs=[.int i,.int j]/\Q (.int (if j>i then j else i)) H) oMax:=zT7
theorem zUN:zNV K (fun xs H Q=> ∃i j,xs=[.int i,.int j]/\Q (.int (if j<i then j else i)) H) oMin:=zT7
noncomputable def tyD:Dat->Option String
 | .non=>some "NoneType"
 | .bl _=>some "bool"
 | .int _=>some "int"
 | .str _=>some "str"
 | .tup _=>some "tuple"
 | .lst _=>some "list"
 |_=>none
noncomputable def isiT(t n:String):Option Bool:=if((Value.type t)==(Value.type n))=true then some true else if W.kitMeta n=true then(PySem.fastBuiltinMro t).map (·.contains (.type n)) else none
theorem zVT{t n:String}{k:Bool}(h:isiT t n=some k):W.kitOne K (.type t) (.type n)=some k:=h
noncomputable def oIsi:Dat->Dat->Option Dat
 |d,.ty n=>(tyD d).bind fun t=>(isiT t n).map Dat.bl
 |_,_=>none
def rIsi(K:W.Frag):RC:=fun xs H Q=> ∃x n d N M t k,xs=[x,.ty n]/\Rep K N H M x d/\tyD d=some t/\isiT t n=some k/\Q (.bl k) H
theorem zQT:zC7 X (.builtin "isinstance") (rIsi X.K):=by
 intro a6 s σ H xs us Q I r h
 obtain⟨x,n,d,N,M,t,k,rfl,hx,ht,hk,q⟩:=h
 obtain⟨u,c,rfl,rx,rc⟩:=zRF r
 cases (show c=Value.type n from rc)
 have e:=zVT (K:=X.K) hk
 have fin: ∀tk,EP X a6 σ Q (.bool k) {s with toks:=tk}:=fun tk=>⟨.bl k,H,I.tok tk,rfl,q⟩
 cases hx with
 |non=>cases ht;exact zF8 I rx (.non) e fin
 |bl y=>cases ht;exact zF8 I rx (.bl y) e fin
 |int i=>cases ht;exact zF8 I rx (.int i) e fin
 |str y=>cases ht;exact zF8 I rx (.str y) e fin
 |ty n=>cases ht
 |fn _=>cases ht
 |dct _ _ _=>cases ht
 |ktb _ _=>cases ht
 |tup q _=>
  cases ht
  cases rx
  obtain⟨its,_,⟨o,h1,h2,_⟩,_⟩:=I.tuple q
  exact W.kia_one W.kitx_tuple I.kIn ⟨o,h1,h2⟩ e (fun z=>nomatch z) fin
 |lst q _ _=>
  cases ht
  cases rx
  obtain⟨its,_,⟨o,n,h1,h2,_⟩,_⟩:=I.list (SqL.of q)
  exact W.kia_one W.kitx_list I.kIn ⟨o,h1,h2⟩ e (fun z=>nomatch z) fin
 |fzl q _=>
  cases ht
  cases rx
  obtain⟨its,_,⟨o,n,h1,h2,_⟩,_⟩:=I.list q.sq
  exact W.kia_one W.kitx_list I.kIn ⟨o,h1,h2⟩ e (fun z=>nomatch z) fin
theorem kIsi(h:X.K=K):zC7 X (.builtin "isinstance") (rIsi K):=by subst h;exact zQT
theorem yBQ:zNV K (rIsi K) oIsi:=by
  intro H N N' M M' x y d e c Q hx hy h k
  cases hy<;>first
    | (simp only [oIsi] at h
       cases h1:tyD d with
       | none => rw [h1] at h;cases h
       |some t=>
         rw[h1] at h
         rename_i n
         have h:(isiT t n).map Dat.bl=some c:=h
         cases h2:isiT t n with
         | none => rw [h2] at h;cases h
         |some kk=>
           rw[h2] at h
           cases h
           exact⟨x,n,d,N,M,t,kk,rfl,hx,h1,h2,k _ fun _ _ _=> .bl _⟩)
    |cases h
noncomputable def oNeg:Dat->Option Dat
 | .int i=>some (.int (-i))
 |_=>none
theorem zHR(ha:PE X a (TV K ml pa ta ia fa)):PE X (.UnaryOp .USub a pos) (TV K ml pa true true (f1 oNeg fa)):=(yCF zWE ha).imp fun σ H Q q0=>by
 obtain⟨B,O,δ,d,δ',S,q,k⟩:=q0
 obtain⟨x,h1,h2⟩:=zKE q
 refine⟨B,O,δ,x,δ',S,h1,fun v1 H1 R1=> ?_⟩
 cases x with
 |int i=>
  cases h2
  have e1:v1= .int i:=by cases R1.rep;rfl
  exact⟨i,e1,k _ H1 ⟨R1.sta,R1.frm,R1.pur,.int _⟩⟩
 |_=>cases h2
abbrev VP:=Ev->Option (Option Int×Ev)
def TPO(K:W.Frag)(ml:List Nat)(pu:Bool)(f:VP):TO:=fun σ H Q=> ∃B O δ k δ',Sta K ml B O H σ δ/\f δ=some (k,δ')/\ ∀H',ResB K ml B O H σ pu H' δ'->Q k H'
noncomputable def pNo:VP:=fun δ=>some (none,δ)
noncomputable def pSo(f:VF):VP:=fun δ=>(f δ).bind fun p=>match p.1 with
 | .int i=>some (some i,p.2)
 |_=>none
theorem PO.imp{e:Option Expr}{t u:TO}(h:PO X e t)(k: ∀σ H Q,u σ H Q->t σ H Q):PO X e u:=fun a6 s σ H Q I w=>h a6 s σ H Q I (k σ H Q w)
theorem zIG:PO X none (TPO K ml true pNo):=zV1.imp fun σ H Q q0=>by
 obtain⟨B,O,δ,d,δ',S,q,k⟩:=q0
 cases q
 exact k H (ResB.refl S)
theorem zIF(h:PE X a (TV K ml pa ta ia fa)):PO X (some a) (TPO K ml pa (pSo fa)):=(zV0 h).imp fun σ H Q q0=>by
 obtain⟨B,O,δ,d,δ',S,q,k⟩:=q0
 unfold pSo at q
 cases h1:fa δ with
 | none => rw [h1] at q;cases q
 |some p=>
  obtain⟨x,δ1⟩:=p
  rw[h1] at q
  refine⟨B,O,δ,x,δ1,S,h1,fun v1 H1 R1=> ?_⟩
  cases x with
  |int i=>
   have e1:v1= .int i:=by cases R1.rep;rfl
   cases q
   exact⟨i,e1,k H1 ⟨R1.sta,R1.frm,R1.pur⟩⟩
  |_=>cases q
noncomputable def cutD(ds:List Dat)(lo hi:Option Int):List Dat:=(ds.drop (HT.sIx ds.length 0 lo)).take (HT.sIx ds.length ds.length hi - HT.sIx ds.length 0 lo)
theorem zJ4{N:Addr->Prop}{xs:List V}{ds:List Dat}(r:RepA K N H xs ds)(lo hi:Option Int):RepA K N H (cutV xs lo hi) (cutD ds lo hi):=by
 unfold cutV cutD
 rw[r.length]
 exact(r.drop _).take _
noncomputable def oSl(d:Dat)(lo hi:Option Int):Option Dat:=match d with
 | .lst ds=>some (.lst (cutD ds lo hi))
 | .tup ds=>some (.tup (cutD ds lo hi))
 |_=>none
noncomputable def fSl(fa:VF)(fl fh:VP):VF:=fun δ=>(fa δ).bind fun p=>(fl p.2).bind fun l=>(fh l.2).bind fun u=>(oSl p.1 l.1 u.1).map fun c=>(c,u.2)
theorem zOC{prog:Program}{w:World}{A:Around}{E:Value->Shared->Prop}{s:Shared}{t sl:Addr}{items:Array Value}{vl vu:Value}{lo hi:Option Int}{Q:Value->Shared->Prop}(ht:IsTup s.heap t items)(hs:s.heap.IsSliceOf sl vl vu .none)(pl:IsPart vl lo)
  (pu:IsPart vu hi) (h1:HT.sIx items.size 0 lo=0) (h2:HT.sIx items.size items.size hi=items.size) (h:Q (.ref t) s):wpAny (model prog w) A (getItem (.ref t) (.ref sl)) Q E s:=by
 obtain⟨os,hos,hcs,hds⟩:=id hs
 have hT:s.TypeIs (.ref sl) "slice":=⟨os,hos,hcs⟩
 unfold getItem
 try with_reducible refine wpAny_holding ?_
 first|refine wpAny_bind (wpAny_pure ?_)|skip
 refine wpAny_bind (wpAny_sequenceKey ht.typeIs (by decide) ?_)
 refine wpAny_bind (wpAny_callSpecial?_slot (name:=Str.ofString "__getitem__") ht.typeIs PyProof.Rows.slot_tuple_getitem
  (wpAny_call_entry PyProof.Rows.slot_tuple_getitem ht.typeIs PyProof.Rows.entry_tuple_getitem ?_ (PyProof.Rows.args_tuple_getitem _ _)))
 show wpAny _ _ (Builtin.Tuple.tupleItemsOf (.ref t)>>=_) _ _ s
 refine wpAny_bind (PyProof.Rows.tupleItemsOf_ ht ?_)
 refine wpAny_bind (wpAny_typeOf hT ?_)
 rw[if_pos (by decide)]
 refine wpAny_bind (HT.zDW hs pl pu ?_)
 rw[h1,h2]
 show wpAny _ _ (if((((0:Nat):Int)==0 && (1:Int)==1 && (items.size - 0)==items.size)=true) then _ else _) _ _ s
 rw[if_pos (by simp)]
 refine wpAny_bind (m:=Builtin.Tuple.tupleIsExact _) (wpAny_bind (wpAny_typeOf ht.typeIs (wpAny_pure ?_)))
 rw[if_pos (by decide)]
 exact wpAny_bind (wpAny_rule (wpAny_pure ⟨_,rfl,wpAny_pure h⟩))
def rSlW(K:W.Frag):V->Option Int->Option Int->Hp->VK->Prop:=fun x lo hi H Q=> ∃a xs,x= .ref a/\SqT K H a xs/\(HT.sIx xs.length 0 lo=0/\HT.sIx xs.length xs.length hi=xs.length)/\Q (.ref a) H
theorem zUK:SlR X (rSlW X.K):=by
 intro a6 s σ H x v vl vu lo hi sl Q I rx hs pl pu h
 obtain⟨a,xs,rfl,hx,hw,q⟩:=h
 cases rx
 obtain⟨its,r,ht,hz⟩:=I.tuple hx
 have aa:its.toArray.size=xs.length:=by rw[List.size_toArray];exact r.length.symm
 refine⟨"tuple",_,PyProof.Rows.slot_tuple_getitem.lookup,ht.typeIs,?_⟩
 exact zOC ht hs pl pu (by rw[aa];exact hw.1) (by rw[aa];exact hw.2) ⟨.ref a,H,I,rfl,q⟩
def rSl(K:W.Frag):V->Option Int->Option Int->Hp->VK->Prop:=fun x lo hi H Q=>(rSlT K x lo hi H Q∨rSlL K x lo hi H Q)∨rSlW K x lo hi H Q
theorem kSl(h:X.K=K):SlR X (rSl K):=by subst h;exact(zWR.or zUL).or zUK
theorem zW1{fl fh:VP}(h:fSl fa fl fh δ=some (d,δ')): ∃x δ1 l δ2 u,fa δ=some (x,δ1)/\fl δ1=some (l,δ2)/\fh δ2=some (u,δ')/\oSl x l u=some d:=by
 unfold fSl at h
 cases h1:fa δ with
 | none => rw [h1] at h;cases h
 |some p=>
  rw[h1] at h
  cases h2:fl p.2 with
  | none => simp [h2] at h
  |some q=>
   simp only[Option.bind_some,h2] at h
   cases h3:fh q.2 with
   | none => simp [h3] at h
   |some s=>
    simp only[Option.bind_some,h3] at h
    cases h4:oSl p.1 q.1 s.1 with
    |none=>rw[h4] at h;cases h
    |some c=>
     rw[h4] at h
     cases h
     exact⟨p.1,p.2,q.1,q.2,s.1,rfl,h2,h3,h4⟩
theorem zIH{lo hi:Option Expr}{p2:Pos}{fl fh:VP}(hK:X.K=K)(ha:PE X a (TV K ml pa ta ia fa))(hl:PO X lo (TPO K ml pb fl))(hh:PO X hi (TPO K ml pc fh))(hs:(pb && pc || (ta && ia))=true:=by rfl):
  PE X (.Subscript a (.Slice lo hi none p2) pos) (TV K ml (pa && pb && pc) true ia (fSl fa fl fh)) := (zS3 (kSl hK) ha hl hh).imp fun σ H Q ⟨B,O,δ,d,δ3,S,q,k⟩ => by
 obtain⟨x,δ1,l,δ2,u,h1,h2,h3,h4⟩:=zW1 q
 refine⟨B,O,δ,x,δ1,S,h1,fun v1 H1 R1=>⟨B,O,δ1,l,δ2,R1.sta,h2,fun H2 R2=>⟨B,O,δ2,u,δ3,R2.sta,h3,fun H3 R3=> ?_⟩⟩⟩
 have hx:Rep K (av B O ia) H3 (at_ B O ta) v1 x:=by
  rcases(Bool.or_eq_true _ _).mp hs with z|z
  ·obtain⟨z1,z2⟩:=(Bool.and_eq_true _ _).mp z
   exact(R1.rep.same (R2.pur z1)).same (R3.pur z2)
  ·obtain⟨z1,z2⟩:=(Bool.and_eq_true _ _).mp z
   subst z1 z2
   exact(R1.rep.fr R2.frm (fun a z=> .inr z) fun a z=> .inr z).fr R3.frm (fun a z=> .inr z) fun a z=> .inr z
 have dr:(pa && pb && pc)=true->Same H H3:=fun z=>by
  simp only[Bool.and_eq_true] at z
  exact((R1.pur z.1.1).trans (R2.pur z.1.2)).trans (R3.pur z.2)
 have hfr:=(R1.frm.trans R2.frm).trans R3.frm
 cases x with
 |lst ds=>
  cases h4
  obtain⟨a,xs,rfl,sq,r⟩:=hx.seq rfl
  rcases sq with sq|sq
  ·exact .inl (.inr ⟨a,xs,rfl,sq,fun p hp => k _ _ ⟨R3.sta.same (zA4 hp),hfr.trans (zA4 hp).fr,fun z => (dr z).trans (zA4 hp),.lst zAK (R3.sta.new hp) ((zJ4 r l u).same (zA4 hp))⟩⟩)
  ·cases hx with
   | lst q n r' => exact .inl (.inr ⟨a,_,rfl,SqL.of q,fun p hp => k _ _ ⟨R3.sta.same (zA4 hp),hfr.trans (zA4 hp).fr,fun z => (dr z).trans (zA4 hp),.lst zAK (R3.sta.new hp) ((zJ4 r' l u).same (zA4 hp))⟩⟩)
   | fzl q r' => exact .inl (.inr ⟨a,_,rfl,q.sq,fun p hp => k _ _ ⟨R3.sta.same (zA4 hp),hfr.trans (zA4 hp).fr,fun z => (dr z).trans (zA4 hp),.lst zAK (R3.sta.new hp) ((zJ4 r' l u).same (zA4 hp))⟩⟩)
 |tup ds=>
  cases h4
  cases hx with
  |tup q r'=>
   by_cases hw:HT.sIx ds.length 0 l=0/\HT.sIx ds.length ds.length u=ds.length
   ·refine .inr ⟨_,_,rfl,q,by rw [r'.length];exact hw,k _ _ ⟨R3.sta,hfr,dr,?_⟩⟩
    have e:cutD ds l u=ds:=by
     unfold cutD
     rw[hw.1,hw.2]
     simp
    rw[e]
    exact .tup q r'
   ·exact .inl (.inl ⟨_,_,rfl,q,by rw[r'.length];exact hw,fun p hp=>k _ _ ⟨R3.sta.same (zA4 hp),hfr.trans (zA4 hp).fr,fun z=>(dr z).trans (zA4 hp),.tup (SqT.of zAK) ((zJ4 r' l u).same (zA4 hp))⟩⟩)
 |_=>cases h4
end
inductive Ou where
 |nx (δ:Ev)|rt (d:Dat) (δ:Ev)|bk (δ:Ev)|ct (δ:Ev)
abbrev VS:=Ev->Option Ou
def Post(K:W.Frag)(ml:List Nat)(B:Bs)(D:Ends):Ou->Prop
 | .nx δ'=> ∀σ' H' O',Sta K ml B O' H' σ' δ'->D.nx σ' H'
 | .rt d δ'=> ∀v σ' H' O',Sta K ml B O' H' σ' δ'->Rep K (rz B) H' (rz B) v d->D.rt v H'
 | .bk δ'=> ∀σ' H' O',Sta K ml B O' H' σ' δ'->D.bk σ' H'
 | .ct δ'=> ∀σ' H' O',Sta K ml B O' H' σ' δ'->D.ct σ' H'
def TSt(K:W.Frag)(ml:List Nat)(g:VS):TS:=fun D σ H=> ∃B O δ o,Sta K ml B O H σ δ/\g δ=some o/\Post K ml B D o
section
variable{X:Cx}{K:W.Frag}{ml:List Nat}{e a b c:Expr}{es:List Expr}{pa ta ia pb tb ib pc tc ic pu bt bi ps bs:Bool}{fa fb fc f:VF}{B B':Bs}{O:Nat->Option Addr}{H H1 H':Hp}{σ:St}{δ δ':Ev}{v:V}{d:Dat}{p:Addr}{pos:Pos}{st:Stmt}{rest:List Stmt}{g g':VS}
noncomputable def sNil:VS:=fun δ=>some (.nx δ)
noncomputable def sSeq(g g':VS):VS:=fun δ=>(g δ).bind fun o=>match o with
 | .nx δ'=>g' δ'
 |o=>some o
theorem zAF:PSs X [] (TSt K ml sNil):=zP6.imp fun D σ H q0=>by
 obtain⟨B,O,δ,o,S,q,k⟩:=q0
 cases q
 exact k σ H O S
theorem zA2(h1:PS X st (TSt K ml g))(h2:PSs X rest (TSt K ml g')):PSs X (st::rest) (TSt K ml (sSeq g g')):=(zMC h1 h2).imp fun D σ H q0=>by
 obtain⟨B,O,δ,o,S,q,k⟩:=q0
 unfold sSeq at q
 cases h1:g δ with
 |none=>rw[h1] at q;cases q
 |some z=>
  rw[h1] at q
  refine⟨B,O,δ,z,S,h1,?_⟩
  cases z with
  |nx δ1=>exact fun σ' H' O' S'=>⟨B,O',δ1,o,S',q,k⟩
  |rt d δ1=>cases q;exact k
  |bk δ1=>cases q;exact k
  |ct δ1=>cases q;exact k
theorem zA3(h1:PS X st (TSt K ml g)):PSs X [st] (TSt K ml g):=(zMC h1 zP6).imp fun D σ H ⟨B,O,δ,o,S,q,k⟩=>⟨B,O,δ,o,S,q,by cases o<;>exact k⟩
noncomputable def sRet(f:VF):VS:=fun δ=>(f δ).map fun p=> .rt p.1 p.2
theorem zAA(h:PE X e (TV K ml pu bt bi f))(ht:bt=true:=by rfl):PS X (.Return (some e) pos) (TSt K ml (sRet f)):=(zTG h).imp fun D σ H q0=>by
 obtain⟨B,O,δ,o,S,q,k⟩:=q0
 unfold sRet at q
 cases h1:f δ with
 |none=>rw[h1] at q;cases q
 |some p=>
  rw[h1] at q
  cases q
  subst ht
  exact⟨B,O,δ,p.1,p.2,S,h1,fun v H' R=>k v σ H' O R.sta (R.rep.mono R.sta.rza R.sta.rzn)⟩
theorem zU7{i:Nat}(h:PE X e (tVar i))(hm:i∉ml:=by decide):PS X (.Return (some e) pos) (TSt K ml (sRet (fO i))):=(zTG h).imp fun D σ H q0=>by
 obtain⟨B,O,δ,o,S,q,k⟩:=q0
 unfold sRet at q
 cases h1:fO i δ with
 |none=>rw[h1] at q;cases q
 |some p=>
  obtain⟨x,δ1⟩:=p
  rw[h1] at q
  cases q
  obtain⟨rfl,v,e1,r⟩:=S.lone hm h1
  exact⟨v,e1,k v σ H O S (r.mono S.rza S.rza)⟩
noncomputable def zOR(f:VF):VS:=fun δ=>(f δ).map fun p=> .nx p.2
theorem zNY(h:PE X e (TV K ml pu bt bi f))(hs:swapsWith e none pos.line X.env=pure false:=by rfl):PS X (.Expr e pos) (TSt K ml (zOR f)):=(zP7 h hs).imp fun D σ H q0=>by
 obtain⟨B,O,δ,o,S,q,k⟩:=q0
 unfold zOR at q
 cases h1:f δ with
 |none=>rw[h1] at q;cases q
 |some p=>
  rw[h1] at q
  cases q
  exact⟨B,O,δ,p.1,p.2,S,h1,fun v H' R=>k σ H' O R.sta⟩
noncomputable def sIf(t:VB)(g g':VS):VS:=fun δ=>(t δ).bind fun p=>if p.1=true then g p.2 else g' p.2
theorem zAY{x y:List Stmt}{t:VB}(ht:PT X c (TB K ml pc t))(ha:PSs X x (TSt K ml g))(hb:PSs X y (TSt K ml g')):PS X (.If c x y pos) (TSt K ml (sIf t g g')):=(yC9 ht ha hb).imp fun D σ H q0=>by
 obtain⟨B,O,δ,o,S,q,k⟩:=q0
 unfold sIf at q
 cases h1:t δ with
 |none=>rw[h1] at q;cases q
 |some p=>
  obtain⟨kk,δ1⟩:=p
  rw[h1] at q
  refine⟨B,O,δ,kk,δ1,S,h1,fun H1 R1=> ?_⟩
  cases kk with
  |true=>exact iteT ⟨B,O,δ1,o,R1.sta,q,k⟩
  |false=>exact iteF ⟨B,O,δ1,o,R1.sta,q,k⟩
abbrev VX:=Ev->Option (Sl×Ev)
inductive St1(K:W.Frag)(B:Bs)(O:Nat->Option Addr)(H:Hp):Bs->V->Sl->Prop
 |va {v:V} {d:Dat}:St1 K B O H {B with kp:=[(v,d)]++B.kp} v (.va d)
 |ol {p:Addr} {xs:List V} {ds:List Dat}:H p=some (.lst xs)->xs.length=ds.length-> ¬Nn B O p->B.H0 p=none->St1 K B O H {B.add p with kp:=xs.zip ds++B.kp} (.ref p) (.ow (.lst ds))
 |od {p:Addr} {kvs:List (Key×V)} {ds:List Dat}:H p=some (.dK kvs)->kvs.length=ds.length-> ¬Nn B O p->B.H0 p=none->St1 K B O H {B.add p with kp:=(kvs.map Prod.snd).zip ds++B.kp} (.ref p) (.ow (.dct (kvs.map Prod.fst) ds))
theorem St1.fr{s:Sl}(h:St1 K B O H B' v s)(f:Fr (OA O) H H'):St1 K B O H' B' v s:=by
 cases h with
 |va=>exact .va
 |ol q l n z=>exact .ol (f _ _ q fun w=>absurd (.inr w) n) l n z
 |od q l n z=>exact .od (f _ _ q fun w=>absurd (.inr w) n) l n z
def TX(K:W.Frag)(ml:List Nat)(f:VX):TE:=fun σ H Q=> ∃B O δ s δ',Sta K ml B O H σ δ/\f δ=some (s,δ')/\ ∀v H' B',Sta K ml B' O H' σ δ'->St1 K B O H' B' v s->Fr (OA O) H H'->Q v H'
noncomputable def xV(f:VF):VX:=fun δ=>(f δ).map fun p=>(.va p.1,p.2)
noncomputable def xO(f:VF):VX:=fun δ=>(f δ).map fun p=>(.ow p.1,p.2)
theorem zC6(h:PE X e (TV K ml pu true true f)):PE X e (TX K ml (xV f)):=h.imp fun σ H Q q0=>by
 obtain⟨B,O,δ,o,δ',S,q,k⟩:=q0
 unfold xV at q
 cases h1:f δ with
 | none => rw [h1] at q;cases q
 |some p=>
  rw[h1] at q
  cases q
  exact⟨B,O,δ,p.1,p.2,S,h1,fun v H' R=>k v H' _ (R.sta.keepV (ps:=[(v,p.1)]) fun z hz=>by
   rw[List.mem_singleton.mp hz]
   exact R.rep) .va R.frm⟩
theorem zFI{N:Addr->Prop}: ∀{xs:List V} {ds:List Dat},RepA K N H xs ds-> ∀z∈xs.zip ds,Rep K N H N z.1 z.2
 |_,_,.nil,z,hz=>nomatch hz
 |_,_,.cons h t,z,hz=>by
  rcases List.mem_cons.mp hz with e|e
  ·rw[e];exact h
  ·exact zFI t z e
theorem zFN{N:Addr->Prop}: ∀{xs:List V} {ds:List Dat},xs.length=ds.length->(∀z∈xs.zip ds,Rep K N H N z.1 z.2)->RepA K N H xs ds
 |[],[],_,_=> .nil
 |x::xs,d::ds,hl,h=> .cons (h (x,d) (List.mem_cons_self ..)) (zFN (by simpa using hl) fun z hz=>h z (List.mem_cons_of_mem _ hz))
theorem zGJ(h:PE X e (TN K ml pu f)):PE X e (TX K ml (xO f)):=h.imp fun σ H Q q0=>by
 obtain⟨B,O,δ,o,δ',S,q,k⟩:=q0
 unfold xO at q
 cases h1:f δ with
 |none=>rw[h1] at q;cases q
 |some p=>
  obtain⟨d,δ1⟩:=p
  rw[h1] at q
  cases q
  refine⟨B,O,δ,d,δ1,S,h1,fun p H' R=> ?_⟩
  have w:=R.own
  cases w with
  |lst q r=>exact k _ H' _ (R.sta.keepV (zFI r)) (.ol q r.length R.nz R.h0) R.frm
  |dct q r=>exact k _ H' _ (R.sta.keepV (zFI r)) (.od q (by simpa using r.length) R.nz R.h0) R.frm
theorem St1.bind{O':Nat->Option Addr}{s:Sl}{i:Nat}(h:St1 K B O H' B' v s)(S:Sta K ml B' O' H' σ δ)(hm:i∉ml)(hl:i<δ.length): ∃O'',Sta K ml B O'' H' (σ.set i (some v)) (δ.set i s):=by
 cases h with
 |va=>
  refine⟨_,Sta.unkeep (ps:=_) (S.setVa hm (S.kep _ (List.mem_append_left _ (List.mem_singleton.mpr rfl))))⟩
 |ol q l n z=>
  refine⟨_,Sta.setOw (Sta.unkeep (B:=B.add _) S) hm hl (fun w=>n (.inl w)) z (.lst q (zFN l fun z hz=>S.kep z (List.mem_append_left _ hz)))⟩
 |od q l n z=>
  refine⟨_,Sta.setOw (Sta.unkeep (B:=B.add _) S) hm hl (fun w=>n (.inl w)) z (.dct q (zFN (by simpa using l) fun z hz=>S.kep z (List.mem_append_left _ hz)))⟩
noncomputable def sSet(i:Nat)(x:VX):VS:=fun δ=>(x δ).bind fun p=>if i<p.2.length then some (.nx (p.2.set i p.1)) else none
theorem zB1{i:Nat}{y:Str}{x:VX}{ap:Pos}(hN:X.N.Nodup)(he:PE X e (TX K ml x))(hi:X.N[i]? =some y:=by rfl)(hx:Loc X.env.scope y:=by first|exact .inl rfl|exact .inr rfl)(hm:i∉ml:=by decide)(hs:swapsWith e (some (.Name y ap)) pos.line X.env=pure false:=by rfl)
  (hf : X.fn y = true ∨ X.env.scope.names.lookup y = some .local := by first | exact .inl rfl | exact .inr rfl | assumption) : PS X (.Assign [.Name y ap] e pos) (TSt K ml (sSet i x)) := (zXU hN hi hx he hs hf).imp fun D σ H ⟨B,O,δ,o,S,q,k⟩ => by
 unfold sSet at q
 cases h1:x δ with
 | none => rw [h1] at q;cases q
 |some p=>
  obtain⟨s,δ1⟩:=p
  rw[h1] at q
  have q:(if i<δ1.length then some (Ou.nx (δ1.set i s)) else none)=some o:=q
  split at q
  ·rename_i hl
   cases q
   refine⟨B,O,δ,s,δ1,S,h1,fun v H' B' S' h' f'=> ?_⟩
   obtain⟨O'',S''⟩:=h'.bind S' hm hl
   exact k _ _ _ S''
  ·cases q
noncomputable def zRS(i j:Nat)(x y:VX):VS:=fun δ=>(x δ).bind fun p=>(y p.2).bind fun q=>if i<q.2.length/\j<q.2.length then some (.nx ((q.2.set j q.1).set i p.1)) else none
theorem zU9{i j:Nat}{y z:Str}{fx fy:VX}{px py pt:Pos}{kt k2 pt2}(hc:X.calm=true)(hN:X.N.Nodup)(hi:X.N[i]? =some y)(hj:X.N[j]? =some z)(hij:i≠j)
  (hx:X.env.scope.names.lookup y=some .local) (hy:X.env.scope.names.lookup z=some .local) (ha:PE X a (TX K ml fx)) (hb:PE X b (TX K ml fy))
  (hw : swappedStores [.Tuple [.Name y px,.Name z py] kt pt] (.Tuple [a,b] k2 pt2) X.env = pure (some [y,z])) (hmi : i ∉ ml := by decide) (hmj : j ∉ ml := by decide)
  (hs : swapsWithSole [.Tuple [.Name y px,.Name z py] kt pt] (.Tuple [a,b] k2 pt2) pos.line X.env = pure false := by rfl)
  (he : starEach (a :: [b]) X.env = (false,eval a X.env) :: starEach [b] X.env := by rfl) (he2 : starEach (b :: []) X.env = (false,eval b X.env) :: starEach [] X.env := by rfl) :
  PS X (.Assign [.Tuple [.Name y px,.Name z py] kt pt] (.Tuple [a,b] k2 pt2) pos) (TSt K ml (zRS i j fx fy)):=(zXV hc hN hi hj hij hx hy (zAQ ha (zAQ hb zC1 he2) he) hw hs).imp fun D σ H ⟨B,O,δ,o,S,q,k⟩=>by
 unfold zRS at q
 cases h1:fx δ with
 | none => rw [h1] at q;cases q
 |some p=>
  obtain⟨s,δ1⟩:=p
  rw[h1] at q
  cases h2:fy δ1 with
  | none => simp [h2] at q
  |some p2=>
   obtain⟨s2,δ2⟩:=p2
   simp only[Option.bind_some,h2] at q
   split at q
   ·rename_i hl
    cases q
    refine⟨B,O,δ,s,δ1,S,h1,fun v H1 B1 S1 w1 f1=>⟨B1,O,δ1,s2,δ2,S1,h2,fun v2 H2 B2 S2 w2 f2=>⟨v,v2,rfl,?_⟩⟩⟩
    obtain⟨O3,S3⟩:=w2.bind S2 hmj hl.2
    obtain⟨O4,S4⟩:=(w1.fr f2).bind S3 hmi (by rw[List.length_set];exact hl.1)
    rw[List.set_comm _ _ (Ne.symm hij)] at S4
    exact k _ _ _ S4
   ·cases q
abbrev VG:=Dat->Ev->Option Ev
def TGV(K:W.Frag)(ml:List Nat)(h:VG):TG:=fun v σ H Q=> ∃B O δ d δ',Sta K ml B O H σ δ/\Rep K (Nn B O) H (Nn B O) v d/\h d δ=some δ'/\ ∀σ' O',Sta K ml B O' H σ' δ'->(∀i∈ml,σ'[i]? =σ[i]?)->Q σ' H
theorem PG.imp{t u:TG}(h:PG X e t)(k: ∀v σ H Q,u v σ H Q->t v σ H Q):PG X e u:=fun a6 s σ H v w Q I r z=>h a6 s σ H v w Q I r (k v σ H Q z)
theorem PGs.imp{t u:TGs}(h:PGs X es t)(k: ∀v σ H Q,u v σ H Q->t v σ H Q):PGs X es u:=fun a6 s σ H v w Q I r z=>h a6 s σ H v w Q I r (k v σ H Q z)
theorem PG.or{t u:TG}(h:PG X e t)(h':PG X e u):PG X e (fun v σ H Q=>t v σ H Q∨u v σ H Q):=fun a6 s σ H v w Q I r z=>by
 rcases z with z|z
 ·exact h a6 s σ H v w Q I r z
 ·exact h' a6 s σ H v w Q I r z
noncomputable def gN(i:Nat):VG:=fun d δ=>some (δ.set i (.va d))
theorem zAH{i:Nat}{x:Str}(hN:X.N.Nodup)(hi:X.N[i]? =some x:=by rfl)(hx:Loc X.env.scope x:=by first|exact .inl rfl|exact .inr rfl)(hm:i∉ml:=by decide)(hf:X.fn x=true∨X.env.scope.names.lookup x=some .local:=by first|exact .inl rfl|exact .inr rfl|assumption):PG X (.Name x pos) (TGV K ml (gN i)):=
 (zIO hN hi hx hf).imp fun v σ H Q q0 => by
  obtain⟨B,O,δ,d,δ',S,r,q,k⟩:=q0
  cases q
  exact k _ _ (S.setVa hm r) fun j hj=>List.getElem?_set_ne fun(z:i=j)=>hm (z▸hj)
abbrev VGs:=List Dat->Ev->Option Ev
def TGVs(K:W.Frag)(ml:List Nat)(h:VGs):TGs:=fun vs σ H Q=> ∃B O δ ds δ',Sta K ml B O H σ δ/\RepA K (Nn B O) H vs ds/\h ds δ=some δ'/\ ∀σ' O',Sta K ml B O' H σ' δ'->(∀i∈ml,σ'[i]? =σ[i]?)->Q σ' H
noncomputable def zDR:VGs:=fun ds δ=>match ds with
 |[]=>some δ
 |_=>none
noncomputable def zAW(g:VG)(gs:VGs):VGs:=fun ds δ=>match ds with
 |d::r=>(g d δ).bind fun δ1=>gs r δ1
 |[]=>none
theorem zC9:PGs X [] (TGVs K ml zDR):=zPG.imp fun vs σ H Q q0=>by
 obtain⟨B,O,δ,ds,δ',S,r,q,k⟩:=q0
 cases r with
 |nil=>cases q;exact⟨rfl,k _ _ S fun _ _=>rfl⟩
 |cons _ _=>cases q
theorem zAN{g:VG}{gs:VGs}(h1:PG X e (TGV K ml g))(h2:PGs X es (TGVs K ml gs))(hs:(assignEach (e::es) X.env).map (·.2)=assign e X.env::(assignEach es X.env).map (·.2):=by rfl):PGs X (e::es) (TGVs K ml (zAW g gs)):=
 (zGS h1 h2 hs).imp fun vs σ H Q q0 => by
  obtain⟨B,O,δ,ds,δ',S,r,q,k⟩:=q0
  cases r with
  | nil => cases q
  | @cons v vs d ds h t=>
   have q:((g d δ).bind fun δ1=>gs ds δ1)=some δ':=q
   cases h1:g d δ with
   |none=>rw[h1] at q;cases q
   |some δ1=>
    rw[h1] at q
    have S0:=S.keepV (zFI t)
    exact⟨v,vs,rfl,_,O,δ,d,δ1,S0,h,h1,fun σ1 O1 S1 m1=>⟨B,O1,δ1,ds,δ',S1.unkeep,zFN t.length fun z hz=>S1.kep z (List.mem_append_left _ hz),q,fun σ2 O2 S2 m2=>k σ2 O2 S2 fun i hi=>(m2 i hi).trans (m1 i hi)⟩⟩
noncomputable def gTp(n:Nat)(gs:VGs):VG:=fun d δ=>(seqD d).bind fun ds=>if ds.length=n then gs ds δ else none
theorem zD6{gs:VGs}{k n:Nat}(hK:X.K=K)(hc:X.calm=true)(h:PGs X es (TGVs K ml gs))(hn:(assignEach es X.env).length=n:=by rfl)(hst:(assignEach es X.env).findIdx? (·.1)=none:=by rfl):PG X (.Tuple es k pos) (TGV K ml (gTp n gs)):=
 ((zZT (K := K) hK hc h hn hst).or (yDM (K := K) hK hc h hn hst)).imp fun v σ H Q q0 => by
  obtain⟨B,O,δ,d,δ',S,r,q,k⟩:=q0
  unfold gTp at q
  cases h1:seqD d with
  | none => rw [h1] at q;cases q
  |some ds=>
   rw[h1] at q
   have q:(if ds.length=n then gs ds δ else none)=some δ':=q
   split at q
   ·rename_i hl
    obtain⟨a,xs,rfl,sq,ra⟩:=r.seq h1
    have fin:TGVs K ml gs xs σ H Q:=⟨B,O,δ,ds,δ',S,ra,q,k⟩
    rcases sq with sq|sq
    ·exact .inr ⟨a,xs,rfl,sq,ra.length.trans hl,fin⟩
    ·exact .inl ⟨a,xs,rfl,sq,ra.length.trans hl,fin⟩
   ·cases q
noncomputable def sAsg(f:VF)(g:VG):VS:=fun δ=>(f δ).bind fun p=>(g p.1 p.2).map Ou.nx
theorem zJE{tg:Expr}{gg:VG}(he:PE X e (TV K ml pu true true f))(hg:PG X tg (TGV K ml gg))(hs:swapsWithSole [tg] e pos.line X.env=pure false:=by rfl)(hw:swappedStores [tg] e X.env=pure none:=by rfl)
  (h1 : (assignEach [tg] X.env).map (·.2) = [assign tg X.env] := by rfl) : PS X (.Assign [tg] e pos) (TSt K ml (sAsg f gg)) := (zME he hg hs hw h1).imp fun D σ H ⟨B,O,δ,o,S,q,k⟩ => by
 unfold sAsg at q
 cases h1:f δ with
 | none => rw [h1] at q;cases q
 |some p=>
  obtain⟨d,δ1⟩:=p
  rw[h1] at q
  have q:(gg d δ1).map Ou.nx=some o:=q
  cases h2:gg d δ1 with
  |none=>rw[h2] at q;cases q
  |some δ2=>
   rw[h2] at q
   cases q
   exact⟨B,O,δ,d,δ1,S,h1,fun v H' R=>⟨B,O,δ1,d,δ2,R.sta,R.rep,h2,fun σ' O' S' _=>k σ' H' O' S'⟩⟩
def MuV(K:W.Frag)(r:V->List V->Hp->VK->Prop)(m:List Dat->List Dat->Option (List Dat)):Prop:= ∀(H:Hp) (N:Addr->Prop) (l:Addr) (xs vs:List V) (ds es ds':List Dat) (Q:VK),
 H l=some (.lst xs)->N l->RepA K N H xs ds->RepA K N H vs es->m ds es=some ds'->(∀v xs',RepA K N H xs' ds'->Q v (upd H l (.lst xs')))->r (.ref l) vs H Q
noncomputable def ownL(δ:Ev)(i:Nat):Option (List Dat):=match δ[i]? with
 |some (.ow (.lst ds))=>some ds
 |_=>none
noncomputable def sMut(i:Nat)(m:List Dat->List Dat->Option (List Dat))(fs:VFs):VS:=fun δ=>(ownL δ i).bind fun _=>(fs δ).bind fun p=>(ownL p.2 i).bind fun ds=>(m ds p.1).map fun ds'=> .nx (p.2.set i (.ow (.lst ds')))
theorem zF4{i:Nat}{ds:List Dat}(h:ownL δ i=some ds):δ[i]? =some (.ow (.lst ds)):=by
 unfold ownL at h
 split at h
 ·cases h;assumption
 ·cases h
theorem zH1{N:Addr->Prop}{l:Addr}{o:HO}{xs:List V}{ds ys:List Dat}{zs:List V}(ho:H l=some (.lst zs))(hN:N l)(h:RepA K N H xs ds):RepA K N (upd H l o) xs ds:=
 h.fr (P:=fun b=>b=l) (fun b u q n=>by
  by_cases hb:b=l
  ·subst hb
   rw[ho] at q
   cases q
   exact absurd (n rfl) fun z=>z
  ·rw[zB3 hb]
   exact q) fun a z=>z▸hN
theorem zD5{i:Nat}{x:Str}{name:Str}{aj a8 de:Pos}{id:String}{r:V->List V->Hp->VK->Prop}{m:List Dat->List Dat->Option (List Dat)}{fs:VFs}(hK:X.K=K)(slot:Slot "list" name id) (hty:typeOf (.builtin id)=pure (.type "method_descriptor")) (hm:MtR X id r) (hmu:MuV K r m)
  (ho:PE X (.Name x de) (tVar i)) (ha:PA X (e::es) (TAV K ml pu true fs))
  (b9 : attributeBase (.Name x de) name X.env (eval (.Name x de) X.env) = eval (.Name x de) X.env := by rfl)
  (cu : ((backTo a8 (starEach (e :: es) X.env)).all (fun x => !x.1) && (backToKw a8 (keywordEach [] X.env)).all (fun x => x.1.isSome)
   && decide ((e :: es).length + ([] : List Keyword).length + (if ([] : List Keyword).isEmpty then 0 else 1) < 30)) = true := by rfl)
  (b8 : (aj.endLine == a8.line) = true := by rfl) (hs : starEach (e :: es) X.env = (false,eval e X.env) :: starEach es X.env := by rfl) (aw : (backTo a8 (starEach es X.env)).any (·.1) = false := by rfl)
  (hsw : swapsWith (.Call (.Attribute (.Name x de) name aj) (e :: es) [] a8) none pos.line X.env = pure false := by rfl) :
  PS X (.Expr (.Call (.Attribute (.Name x de) name aj) (e::es) [] a8) pos) (TSt K ml (sMut i m fs)):=
 (zP7 (kBm (K := K) hK PySem.F.plainAttrs_list slot hty hm ho ha b9 cu b8 hs aw) hsw).imp fun D σ H q0 => by
  obtain⟨B,O,δ,o,S,q,k⟩:=q0
  unfold sMut at q
  cases h0:ownL δ i with
  | none => rw [h0] at q;cases q
  |some ds0=>
   rw[h0] at q
   have q : ((fs δ).bind fun p => (ownL p.2 i).bind fun ds => (m ds p.1).map fun ds' => Ou.nx (p.2.set i (.ow (.lst ds')))) = some o := q
   cases h1:fs δ with
   | none => rw [h1] at q;cases q
   |some p=>
    obtain⟨es',δ1⟩:=p
    rw[h1] at q
    have q:((ownL δ1 i).bind fun ds=>(m ds es').map fun ds'=>Ou.nx (δ1.set i (.ow (.lst ds'))))=some o:=q
    cases h2:ownL δ1 i with
    | none => rw [h2] at q;cases q
    |some ds=>
     rw[h2] at q
     have q:((m ds es').map fun ds'=>Ou.nx (δ1.set i (.ow (.lst ds'))))=some o:=q
     cases h3:m ds es' with
     | none => rw [h3] at q;cases q
     |some ds'=>
      rw[h3] at q
      cases q
      obtain⟨l,e1,e2,w⟩:=S.ow i _ (zF4 h0)
      cases w with
      |lst hl0 _=>
       refine⟨.ref l,e2,.inl ⟨rfl,_,SqL.of hl0⟩,B,O,δ,es',δ1,S,h1,fun vs H1 R=> ?_⟩
       obtain⟨l',e3,_,w1⟩:=R.sta.ow i _ (zF4 h2)
       rw[e1] at e3
       cases e3
       cases w1 with
       |lst hl1 r1=>
        refine hmu H1 (Nn B O) l _ vs ds es' ds' _ hl1 (.inr ⟨i,e1⟩) r1 R.rep h3 fun v xs' r2=> ?_
        exact k σ _ O (R.sta.wrote e1 (fun z=>z) (.lst zAK (zH1 (ys:=[]) hl1 (.inr ⟨i,e1⟩) r2)))
noncomputable def mApp:List Dat->List Dat->Option (List Dat)
 |ds,[d]=>if ds.length<16777216 then some (ds++[d]) else none
 |_,_=>none
theorem zDK:MuV K zP4 mApp:=by
 intro H N l xs vs ds es ds' Q hl hN rx re h k
 cases re with
 | nil => cases h
 | @cons v vs d es hd t=>
  cases t with
  | cons _ _ => cases h
  |nil=>
   simp only[mApp] at h
   split at h
   ·rename_i hz
    cases h
    exact⟨l,xs,v,rfl,rfl,hl,by rw[rx.length,sizeLine_eq];exact hz,k _ _ (rx.snoc hd)⟩
   ·cases h
end
section
variable{X:Cx}{K:W.Frag}{ml:List Nat}{e a b c:Expr}{es:List Expr}{pa ta ia pb tb ib pc tc ic pu bt bi ps bs:Bool}{fa fb fc f:VF}{B B':Bs}{O:Nat->Option Addr}{H H1 H':Hp}{σ:St}{δ δ':Ev}{v:V}{d:Dat}{p:Addr}{pos:Pos}{st:Stmt}{rest:List Stmt}{g g':VS}
noncomputable def zDU(nxt:VS):Ou->Option Ou
 | .nx δ=>nxt δ
 | .ct δ=>nxt δ
 | .bk δ=>some (.nx δ)
 | .rt d δ=>some (.rt d δ)
noncomputable def zBI(t:VB)(g:VS):Nat->VS
 |0=>fun _=>none
 |n+1=>fun δ=>(t δ).bind fun p=>if p.1=true then(g p.2).bind (zDU (zBI t g n)) else some (.nx p.2)
theorem zEM{t:VB}: ∀{n:Nat} {δ:Ev} {o:Ou},zBI t g n δ=some o->zBI t g (n+1) δ=some o
 | 0,_,_,h => by cases h
 | n + 1,δ,o,h => by
  dsimp only[zBI] at h
  show((t δ).bind fun p=>if p.1=true then(g p.2).bind (zDU (zBI t g (n+1))) else some (.nx p.2))=some o
  cases h1:t δ with
  | none => rw [h1] at h;cases h
  |some p=>
   rw[h1] at h
   obtain⟨kk,δ1⟩:=p
   cases kk with
   | false => exact h
   |true=>
    have h:(g δ1).bind (zDU (zBI t g n))=some o:=h
    show(g δ1).bind (zDU (zBI t g (n+1)))=some o
    cases h2:g δ1 with
    |none=>rw[h2] at h;cases h
    |some z=>
     rw[h2] at h
     cases z with
     |nx δ2=>exact zEM (n:=n) h
     |ct δ2=>exact zEM (n:=n) h
     |bk δ2=>exact h
     |rt d δ2=>exact h
theorem zFJ{t:VB}{n:Nat}{o:Ou}(h:zBI t g n δ=some o): ∀k,zBI t g (n+k) δ=some o
 |0=>h
 |k+1=>zEM (zFJ h k)
theorem zN7{t:VB}{n m:Nat}{o o':Ou}(h:zBI t g n δ=some o)(h':zBI t g m δ=some o'):o=o':=by
 have e1:=zFJ h m
 have e2:=zFJ h' n
 rw[Nat.add_comm] at e2
 rw[e1] at e2
 exact Option.some.inj e2
open Classical in
noncomputable def zH0(t:VB)(g:VS):VS:=fun δ=>if h: ∃o n,zBI t g n δ=some o then some (Classical.choose h) else none
theorem zJS{t:VB}{n:Nat}{o:Ou}(h:zBI t g n δ=some o):zH0 t g δ=some o:=by
 have hx: ∃o n,zBI t g n δ=some o:=⟨o,n,h⟩
 unfold zH0
 rw[dif_pos hx]
 obtain⟨m,hm⟩:=Classical.choose_spec hx
 rw[zN7 hm h]
theorem zND{t:VB}{o:Ou}(h:zH0 t g δ=some o): ∃n,zBI t g n δ=some o:=by
 unfold zH0 at h
 split at h
 ·rename_i hx
  cases h
  exact Classical.choose_spec hx
 ·cases h
theorem zLV{body:List Stmt}{t:VB}(hp:PassesOwn (model X.prog X.w) X.A X.env X.xe)(hc:PT X c (TB K ml pc t))(hb:PSs X body (TSt K ml g)):PS X (.While c body [] pos) (TSt K ml (zH0 t g)):=(zS1 hp hc hb).imp fun D σ H q0=>by
 obtain⟨B,O,δ,o,S,q,k⟩:=q0
 obtain⟨n,hn⟩:=zND q
 refine⟨fun m σ H=> ∃O δ,Sta K ml B O H σ δ/\zBI t g m δ=some o,⟨n,O,δ,S,hn⟩,?_⟩
 rintro m σ H ⟨O,δ,S,hm⟩
 cases m with
 | zero => cases hm
 |succ m=>
  dsimp only[zBI] at hm
  cases h1:t δ with
  | none => rw [h1] at hm;cases hm
  |some p=>
   obtain⟨kk,δ1⟩:=p
   rw[h1] at hm
   refine⟨B,O,δ,kk,δ1,S,h1,fun H1 R1=> ?_⟩
   cases kk with
   |false=>
    have hm:some (Ou.nx δ1)=some o:=hm
    cases hm
    exact iteF (k σ H1 O R1.sta)
   |true=>
    have hm:(g δ1).bind (zDU (zBI t g m))=some o:=hm
    cases h2:g δ1 with
    |none=>rw[h2] at hm;cases hm
    |some z=>
     rw[h2] at hm
     refine iteT ⟨fun σ' H'=> ∃O δ,Sta K ml B O H' σ' δ/\zBI t g m δ=some o,fun σ' H' w=>⟨m,Nat.lt_succ_self _,w⟩,B,O,δ1,z,R1.sta,h2,?_⟩
     cases z with
     |nx δ2=>exact fun σ' H' O' S'=>⟨O',δ2,S',hm⟩
     |ct δ2=>exact fun σ' H' O' S'=>⟨O',δ2,S',hm⟩
     |bk δ2=>cases hm;exact fun σ' H' O' S'=>k σ' H' O' S'
     |rt d δ2=>cases hm;exact fun v σ' H' O' S' r=>k v σ' H' O' S' r
def Walk(K:W.Frag)(J:It)(kps:List (V×Dat))(ds:List Dat):Prop:= ∀(N:Addr->Prop) (H:Hp),(∀p∈kps,Rep K N H N p.1 p.2)→
 (∀(i:Nat) (d:Dat),ds[i]? =some d->J.go i H/\ ∀x H',J.yld i H x H'->Same H H'/\Rep K N H' N x d)/\J.stop ds.length H
abbrev VI:=Ev->Option (List Dat×Ev)
def TIV(K:W.Frag)(ml:List Nat)(pu:Bool)(f:VI):TI:=fun σ H R=> ∃B O δ ds δ',Sta K ml B O H σ δ/\f δ=some (ds,δ')∧
 ∀J kps H',Sta K ml {B with kp:=kps++B.kp} O H' σ δ'->Fr (OA O) H H'->(pu=true->Same H H')->Walk K J kps ds->R J H'
theorem PI.imp{tg:Expr}{t u:TI}(h:PI X tg e t)(k: ∀σ H R,u σ H R->t σ H R):PI X tg e u:=fun a6 s σ H R I w=>h a6 s σ H R I (k σ H R w)
theorem PI.or{tg:Expr}{t u:TI}(h:PI X tg e t)(h':PI X tg e u):PI X tg e (fun σ H R=>t σ H R∨u σ H R):=fun a6 s σ H R I z=>by
 rcases z with z|z
 ·exact h a6 s σ H R I z
 ·exact h' a6 s σ H R I z
noncomputable def iSeq(f:VF):VI:=fun δ=>(f δ).bind fun p=>(seqD p.1).map fun ds=>(ds,p.2)
theorem zR6{a:Addr}{ds:List Dat}:Walk K (Itl K a) [(.ref a,.lst ds)] ds:=by
 intro N H h
 have r:=h _ (List.mem_singleton.mpr rfl)
 have fin: ∀xs,SqL K H a xs->RepA K N H xs ds->(∀(i:Nat) (d:Dat),ds[i]? =some d->(Itl K a).go i H/\ ∀x H',(Itl K a).yld i H x H'->Same H H'/\Rep K N H' N x d)/\(Itl K a).stop ds.length H:=fun xs sq r=>by
  refine⟨fun i d e=> ?_,xs,sq,by rw[r.length];exact Nat.le_refl _⟩
  obtain⟨x,e1,r1⟩:=r.get e
  refine⟨⟨xs,x,sq,e1⟩,fun y H' hy=> ?_⟩
  obtain⟨e2,e3⟩:=hy
  subst e2
  have:=e3 xs sq
  rw[e1] at this
  cases this
  exact⟨Same.refl _,r1⟩
 cases r with
 |lst q n r=>exact fin _ (SqL.of q) r
 |fzl q r=>exact fin _ q.sq r
theorem zR4{a:Addr}{ds:List Dat}:Walk K (Itt K a) [(.ref a,.tup ds)] ds:=by
 intro N H h
 have r:=h _ (List.mem_singleton.mpr rfl)
 cases r with
 |tup sq r=>
  refine⟨fun i d e=> ?_,_,sq,by rw[r.length];exact Nat.le_refl _⟩
  obtain⟨x,e1,r1⟩:=r.get e
  refine⟨⟨_,x,sq,e1⟩,fun y H' hy=> ?_⟩
  obtain⟨e2,e3⟩:=hy
  subst e2
  have:=e3 _ sq
  rw[e1] at this
  cases this
  exact⟨Same.refl _,r1⟩
theorem zEZ{tg:Expr}(hK:X.K=K)(h:PE X e (TV K ml pu true true f)):PI X tg e (TIV K ml pu (iSeq f)):=((zTQ (K:=K) hK h).or (zZR (K:=K) hK h)).imp fun σ H R q0=>by
 obtain⟨B,O,δ,ds,δ',S,q,k⟩:=q0
 unfold iSeq at q
 cases h1:f δ with
 | none => rw [h1] at q;cases q
 |some p=>
  obtain⟨x,δ1⟩:=p
  rw[h1] at q
  cases x with
  |lst ds'=>
   cases q
   refine .inl ⟨B,O,δ,_,δ1,S,h1,fun v H1 R1=> ?_⟩
   obtain⟨a,xs,rfl,sq,r⟩:=R1.rep.seq rfl
   refine⟨a,rfl,?_,k _ [(.ref a,.lst ds)] H1 (R1.sta.keepV fun p hp=>by rw[List.mem_singleton.mp hp];exact R1.rep) R1.frm R1.pur zR6⟩
   have r:=R1.rep
   cases r with
   |lst q _ _=>exact⟨_,SqL.of q⟩
   |fzl q _=>exact⟨_,q.sq⟩
  |tup ds'=>
   cases q
   refine .inr ⟨B,O,δ,_,δ1,S,h1,fun v H1 R1=> ?_⟩
   obtain⟨a,xs,rfl,sq,r⟩:=R1.rep.seq rfl
   refine⟨a,rfl,?_,k _ [(.ref a,.tup ds)] H1 (R1.sta.keepV fun p hp=>by rw[List.mem_singleton.mp hp];exact R1.rep) R1.frm R1.pur zR4⟩
   have r:=R1.rep
   cases r with
   |tup q _=>exact⟨_,q⟩
  |_=>cases q
noncomputable def rngD(lo:Int)(n:Nat):List Dat:=(List.range n).map fun k:Nat=> .int (lo+k)
noncomputable def iR1(f:VF):VI:=fun δ=>(f δ).bind fun p=>match p.1 with
 | .int j=>if -4611686018427387904<=j/\j<4611686018427387904 then some (rngD 0 j.toNat,p.2) else none
 |_=>none
noncomputable def iR2(f g:VF):VI:=fun δ=>(f δ).bind fun p=>(g p.2).bind fun q=>match p.1,q.1 with
 | .int i,.int j=>if(-4611686018427387904<=i/\i<4611686018427387904)/\ -4611686018427387904<=j/\j<4611686018427387904 then some (rngD i (j - i).toNat,q.2) else none
 |_,_=>none
theorem zRU{lo:Int}{n i:Nat}{d:Dat}(h:(rngD lo n)[i]? =some d):i<n/\d= .int (lo+i):=by
 unfold rngD at h
 rw[List.getElem?_map] at h
 cases h1:(List.range n)[i]? with
 |none=>rw[h1] at h;cases h
 |some k=>
  rw[h1] at h
  cases h
  have:=List.getElem?_eq_some_iff.mp h1
  obtain⟨hl,e⟩:=this
  rw[List.length_range] at hl
  rw[List.getElem_range] at e
  subst e
  exact⟨hl,rfl⟩
theorem zLT{lo:Int}{n:Nat}:Walk K (Itr lo n) [] (rngD lo n):=by
 intro N H _
 refine⟨fun i d e=> ?_,by simp[Itr,rngD]⟩
 obtain⟨hl,rfl⟩:=zRU e
 refine⟨hl,fun x H' hy=> ?_⟩
 obtain⟨rfl,rfl⟩:=hy
 exact⟨Same.refl _,.int _⟩
theorem zF0{tg:Expr}{p':Pos}(hg:Gl X "range") (hm:X.mg "range"=none) (h:PE X a (TV K ml pa ta ia fa)) (hs:starEach [a] X.env=[(false,eval a X.env)]:=by rfl) (hs1:starEach (a::[]) X.env=(false,eval a X.env)::starEach [] X.env:=by rfl):
  PI X tg (.Call (.Name "range" p') [a] [] pos) (TIV K ml pa (iR1 fa)):=(zPF hg hm (zAQ h zC1 hs1) hs).imp fun σ H R ⟨B,O,δ,ds,δ',S,q,k⟩=>by
 unfold iR1 at q
 cases h1:fa δ with
 | none => rw [h1] at q;cases q
 |some p=>
  obtain⟨x,δ1⟩:=p
  rw[h1] at q
  cases x with
  |int j=>
   have q:(if -4611686018427387904<=j/\j<4611686018427387904 then some (rngD 0 j.toNat,δ1) else none)=some (ds,δ'):=q
   split at q
   ·rename_i hj
    cases q
    have p62:(2:Int) ^ 62=4611686018427387904:=by decide
    refine⟨B,O,δ,_,_,S,h1,fun v H1 R1=>⟨j,?_,by rw[p62];exact hj.1,by rw[p62];exact hj.2,k _ [] H1 (R1.sta.keepV fun _ z=>nomatch z) R1.frm R1.pur zLT⟩⟩
    have r:=R1.rep
    cases r
    rfl
   ·cases q
  |_=>cases q
theorem zO2{tg:Expr}{p':Pos}(hg:Gl X "range") (hm:X.mg "range"=none) (h:PE X a (TV K ml pa ta ia fa)) (h':PE X b (TV K ml pb tb ib fb)) (hs:starEach [a,b] X.env=[(false,eval a X.env),(false,eval b X.env)]:=by rfl) (hs2:starEach [b] X.env=[(false,eval b X.env)]:=by rfl)
  (he : starEach (a :: [b]) X.env = (false,eval a X.env) :: starEach [b] X.env := by rfl) (he2 : starEach (b :: []) X.env = (false,eval b X.env) :: starEach [] X.env := by rfl) :
  PI X tg (.Call (.Name "range" p') [a,b] [] pos) (TIV K ml (pa && pb) (iR2 fa fb)) := (zPE hg hm (zAQ h (zAQ h' zC1 he2) he) hs hs2).imp fun σ H R ⟨B,O,δ,ds,δ',S,q,k⟩ => by
 unfold iR2 at q
 cases h1:fa δ with
 | none => rw [h1] at q;cases q
 |some p=>
  obtain⟨x,δ1⟩:=p
  rw[h1] at q
  cases h2:fb δ1 with
  | none => simp [h2] at q
  |some p2=>
   obtain⟨y,δ2⟩:=p2
   simp only[Option.bind_some,h2] at q
   cases x with
   |int i=>
    cases y with
    |int j=>
     have q:(if(-4611686018427387904<=i/\i<4611686018427387904)/\ -4611686018427387904<=j/\j<4611686018427387904 then some (rngD i (j - i).toNat,δ2) else none)=some (ds,δ'):=q
     split at q
     ·rename_i hj
      cases q
      have p62:(2:Int) ^ 62=4611686018427387904:=by decide
      refine⟨B,O,δ,_,_,S,h1,fun v H1 R1=>⟨B,O,δ1,_,_,R1.sta,h2,fun v2 H2 R2=>⟨i,j,?_,by rw[p62];exact⟨hj.1.1,hj.1.2,hj.2.1,hj.2.2⟩,k _ [] H2 (R2.sta.keepV fun _ z=>nomatch z) (R1.frm.trans R2.frm) (fun z=>by
       obtain⟨z1,z2⟩:=(Bool.and_eq_true _ _).mp z
       exact(R1.pur z1).trans (R2.pur z2)) zLT⟩⟩⟩
      have r1:=R1.rep
      have r2:=R2.rep
      cases r1
      cases r2
      rfl
     ·cases q
    |_=>cases q
   |_=>cases q
noncomputable def forV(gg:VG)(s:VS):List Dat->VS
 |[]=>fun δ=>some (.nx δ)
 |d::r=>fun δ=>(gg d δ).bind fun δ1=>(s δ1).bind (zDU (forV gg s r))
noncomputable def sFor(fi:VI)(gg:VG)(s:VS):VS:=fun δ=>(fi δ).bind fun p=>forV gg s p.1 p.2
theorem zEY{tg iter:Expr}{body:List Stmt}{fi:VI}{gg:VG}(hp:PassesOwn (model X.prog X.w) X.A X.env X.xe)(hc:X.calm=true)(hi:PI X tg iter (TIV K ml pu fi))(hg:PG X tg (TGV K ml gg))(hb:PSs X body (TSt K ml g))
  (hs : ∀ x,foldedSetIterable iter X.env x = pure x := by intro _;rfl) : PS X (.For tg iter body [] pos) (TSt K ml (sFor fi gg g)) := (zXW hp hc hi hg hb hs).imp fun D σ H ⟨B,O,δ,o,S,q,k⟩ => by
 unfold sFor at q
 cases h1:fi δ with
 | none => rw [h1] at q;cases q
 |some p=>
  obtain⟨ds,δ1⟩:=p
  rw[h1] at q
  have q:forV gg g ds δ1=some o:=q
  refine⟨B,O,δ,ds,δ1,S,h1,fun J kps H1 S1 _ _ wk=> ?_⟩
  refine⟨fun i m σ H=>m=ds.length - i/\i<=ds.length/\ ∃O δ,Sta K ml {B with kp:=kps++B.kp} O H σ δ/\forV gg g (ds.drop i) δ=some o,⟨ds.length,rfl,Nat.zero_le _,O,δ1,S1,q⟩,?_⟩
  rintro i m σ H ⟨rfl,hi,O,δ,S,hf⟩
  have w:=wk (Nn B O) H fun p hp=>S.kep p (List.mem_append_left _ hp)
  by_cases hlt:i<ds.length
  ·obtain ⟨go,yl⟩ := w.1 i ds[i] (by simp [hlt])
   rw[List.drop_eq_getElem_cons hlt] at hf
   refine .inr ⟨go,fun σ' H'=> ∃O δ,Sta K ml {B with kp:=kps++B.kp} O H' σ' δ/\forV gg g (ds.drop (i+1)) δ=some o,fun σ' H' w'=>⟨ds.length - (i+1),by omega,rfl,hlt,w'⟩,fun x H' hy=> ?_⟩
   obtain⟨sm,rx⟩:=yl x H' hy
   have hf:((gg ds[i] δ).bind fun δ1=>(g δ1).bind (zDU (forV gg g (ds.drop (i+1)))))=some o:=hf
   cases h2:gg ds[i] δ with
   | none => rw [h2] at hf;cases hf
   |some δ2=>
    rw[h2] at hf
    have hf:(g δ2).bind (zDU (forV gg g (ds.drop (i+1))))=some o:=hf
    refine⟨_,O,δ,ds[i],δ2,S.same sm,rx,h2,fun σ2 O2 S2 _=> ?_⟩
    cases h3:g δ2 with
    |none=>rw[h3] at hf;cases hf
    |some z=>
     rw[h3] at hf
     refine⟨_,O2,δ2,z,S2,h3,?_⟩
     cases z with
     |nx δ3=>exact fun σ' H' O' S'=>⟨O',δ3,S',hf⟩
     |ct δ3=>exact fun σ' H' O' S'=>⟨O',δ3,S',hf⟩
     |bk δ3=>cases hf;exact fun σ' H' O' S'=>k σ' H' O' S'.unkeep
     |rt d δ3=>cases hf;exact fun v σ' H' O' S' r=>k v σ' H' O' S'.unkeep r
  ·have e : i = ds.length := by omega
   subst e
   rw[List.drop_length] at hf
   cases hf
   exact .inl ⟨w.2,k σ H O S.unkeep⟩
end
section
variable{X:Cx}{K:W.Frag}{ml:List Nat}{e a b c:Expr}{es:List Expr}{pa ta ia pb tb ib pc tc ic pu bt bi ps bs:Bool}{fa fb fc f:VF}{B B':Bs}{O:Nat->Option Addr}{H H1 H':Hp}{σ:St}{δ δ':Ev}{v:V}{d:Dat}{p:Addr}{pos:Pos}{st:Stmt}{rest:List Stmt}{g g':VS}
theorem Sta.call{P:Addr->Prop}(S:Sta K ml B O H σ δ)(hl:δ'.length=δ.length)(h: ∀i:Nat,(δ'[i]? =δ[i]? /\ ∀a,O i=some a-> ¬P a)∨ ∃a d',O i=some a/\δ'[i]? =some (Sl.ow d')/\Own K (Nn B O) H' a d')
  (f:Fr P H H') (hP: ∀a,P a->OA O a):Sta K ml B O H' σ δ' where
 len:=by rw[hl,S.len]
 va := fun i d e => by
  rcases h i with⟨e1,_⟩|⟨a,d',_,e1,_⟩
  ·rw[e1] at e
   obtain⟨v,e2,r⟩:=S.va i d e
   exact⟨v,e2,r.fr f (fun a z=> .inr (hP a z)) fun a z=> .inr (hP a z)⟩
  ·rw[e1] at e
   cases e
 ow := fun i d e => by
  rcases h i with⟨e1,n⟩|⟨a,d',e2,e1,w⟩
  ·rw[e1] at e
   obtain⟨a,e2,e3,w⟩:=S.ow i d e
   exact⟨a,e2,e3,w.fr f (fun a z=> .inr (hP a z)) (n a e2)⟩
  ·rw[e1] at e
   cases e
   obtain⟨d0,q0⟩:=S.dom i a e2
   obtain⟨a',e3,e4,_⟩:=S.ow i d0 q0
   rw[e2] at e3
   cases e3
   exact⟨a,e2,e4,w⟩
 dom:=fun i a e=>by
  rcases h i with⟨e1,n⟩|⟨a,d',e2,e1,w⟩
  ·obtain⟨d0,q0⟩:=S.dom i a e
   exact⟨d0,e1.trans q0⟩
  ·exact⟨d',e1⟩
 inj:=S.inj
 old:=S.old
 zin:=fun a h'=>by
  obtain⟨o,q⟩:=S.zin a h'
  exact⟨o,f a o q fun z=>by
   obtain⟨i,e⟩:=hP a z
   exact absurd h' (S.old i a e).1⟩
 frm:=fun b o q n=>by
  have h1:=S.frm b o q n
  refine f b o h1 fun z=> ?_
  obtain⟨i,e⟩:=hP b z
  rcases(S.old i b e).2 with w|w
  ·exact n w
  ·rw[q] at w;cases w
 par:=S.par
 pin:=fun a h'=>by
  obtain⟨o,q⟩:=S.pin a h'
  by_cases z:P a
  ·obtain⟨i,e⟩:=hP a z
   rcases h i with⟨_,n⟩|⟨a',d',e2,e1,w⟩
   ·exact absurd z (n a e)
   ·rw[e] at e2
    cases e2
    obtain⟨o,q,_⟩:=w.soft
    exact⟨o,q⟩
  ·exact⟨o,f a o q fun y=>absurd y z⟩
 kep:=fun p hp=>(S.kep p hp).fr f (fun a z=> .inr (hP a z)) fun a z=> .inr (hP a z)
abbrev VFun:=List Dat->Option (Dat×List Dat)
def argP(ml:List Nat)(vs:List V):Addr->Prop:=fun a=> ∃i∈ml,vs[i]? =some (.ref a)
def Zp(Z:Addr->Prop)(ml:List Nat)(vs:List V):Addr->Prop:=fun a=>Z a∨argP ml vs a
structure yAS(K:W.Frag)(ml:List Nat)(Z:Addr->Prop)(H:Hp)(vs:List V)(ds:List Dat):Prop where
 len:vs.length=ds.length
 mem: ∀i∈ml,i<ds.length
 va: ∀(i:Nat) (d:Dat),i∉ml->ds[i]? =some d-> ∃v,vs[i]? =some v/\Rep K (Zp Z ml vs) H (Zp Z ml vs) v d
 ow: ∀(i:Nat) (d:Dat),i∈ml->ds[i]? =some d-> ∃a,vs[i]? =some (.ref a)/\Own K (Zp Z ml vs) H a d/\¬Z a
 inj: ∀(i j:Nat) (a:Addr),i∈ml->j∈ml->vs[i]? =some (.ref a)->vs[j]? =some (.ref a)->i=j
 zin: ∀a,Z a-> ∃o,H a=some o
def spV(K:W.Frag)(ml:List Nat)(n:Nat)(F:VFun):Sp:=fun vs H Q _=> ∃(Z:Addr->Prop) (ds:List Dat) (r:Dat) (os:List Dat),ds.length=n/\yAS K ml Z H vs ds/\F ds=some (r,os)∧
 ∀v H',Fr (argP ml vs) H H'->(∀(k i:Nat) (a:Addr) (o:Dat),ml[k]? =some i->vs[i]? =some (.ref a)->os[k]? =some o->Own K (Zp Z ml vs) H' a o)->Rep K (Zp Z ml vs) H' (Zp Z ml vs) v r->Q v H'
noncomputable def envD(ml:List Nat)(n:Nat)(ds:List Dat):Ev:=ds.mapIdx (fun i d=>if i∈ml then Sl.ow d else Sl.va d)++List.replicate (n - ds.length) Sl.no
noncomputable def outs(ml:List Nat)(δ:Ev):Option (List Dat):=ml.mapM fun(i:Nat)=>match(δ[i]? :Option Sl) with
 |some (Sl.ow d)=>some d
 |_=>none
noncomputable def runV(n:Nat)(ml:List Nat)(g:VS):VFun:=fun ds=>(g (envD ml n ds)).bind fun o=>match o with
 | .rt d δ=>(outs ml δ).map fun os=>(d,os)
 | .nx δ=>(outs ml δ).map fun os=>(.non,os)
 |_=>none
theorem zMI: ∀{ml:List Nat} {δ:Ev} {os:List Dat},outs ml δ=some os-> ∀(k i:Nat) (o:Dat),ml[k]? =some i->os[k]? =some o->δ[i]? =some (.ow o)
 | [],_,_,h,k,i,o,e1,e2 => by simp at e1
 | j :: ml,δ,os,h,k,i,o,e1,e2 => by
  unfold outs at h
  rw[List.mapM_cons] at h
  split at h
  ·rename_i d hd
   cases h2:(ml.mapM fun(i:Nat)=>match(δ[i]? :Option Sl) with
    |some (Sl.ow d)=>some d
    |_=>none:Option (List Dat)) with
   | none => rw [h2] at h;cases h
   |some os2=>
    rw[h2] at h
    cases h
    cases k with
    |zero=>
     cases e1
     cases e2
     exact hd
    |succ k=>exact zMI (ml:=ml) h2 k i o (by simpa using e1) (by simpa using e2)
  ·cases h
theorem zOF{N:List Str}{Z:Addr->Prop}{vs:List V}{ds:List Dat}(A:yAS K ml Z H vs ds)(hn:ds.length<=N.length):
  ∃mu:Nat->Option Addr,(∀i a,mu i=some a↔i∈ml/\vs[i]? =some (.ref a))/\Sta K ml ⟨Z,argP ml vs,H,mu,[]⟩ mu H (zFL N vs) (envD ml N.length ds):=by
 classical
 let mu : Nat -> Option Addr := fun i => if i ∈ ml then (match vs[i]? with
  | some (.ref a) => some a
  | _ => none) else none
 have hmu: ∀i a,mu i=some a↔i∈ml/\vs[i]? =some (.ref a):=fun i a=>by
  show(if i∈ml then(match vs[i]? with
   | some (.ref a) => some a
   | _ => none) else none) = some a ↔ _
  by_cases hi:i∈ml
  ·rw[if_pos hi]
   constructor
   ·intro h
    split at h
    ·rename_i b hb
     cases h
     exact⟨hi,hb⟩
    ·cases h
   ·rintro ⟨_,h⟩
    rw[h]
  ·rw[if_neg hi]
   exact⟨(fun h=>nomatch h),fun h=>absurd h.1 hi⟩
 have hN: ∀a,Nn ⟨Z,argP ml vs,H,mu,[]⟩ mu a->Zp Z ml vs a:=fun a h=>by
  rcases h with h|⟨i,h⟩
  ·exact .inl h
  ·exact .inr ⟨i,(hmu i a).mp h⟩
 have df: ∀(i:Nat) (s:Sl),(envD ml N.length ds)[i]? =some s->(∃d,ds[i]? =some d/\s=if i∈ml then .ow d else .va d)∨s= .no:=fun i s h=>by
  unfold envD at h
  by_cases hi:i<ds.length
  ·rw [List.getElem?_append_left (by simpa using hi),List.getElem?_mapIdx] at h
   cases q:ds[i]? with
   |none=>rw[q] at h;cases h
   |some d=>rw[q] at h;cases h;exact .inl ⟨d,rfl,rfl⟩
  ·rw [List.getElem?_append_right (by simpa using hi),List.getElem?_replicate] at h
   split at h
   ·cases h;exact .inr rfl
   ·cases h
 have hst: ∀(i:Nat) (v:V),vs[i]? =some v->(zFL N vs)[i]? =some (some v):=fun i v h=>by
  unfold zFL
  have hi:i<vs.length:=(List.getElem?_eq_some_iff.mp h).1
  rw[List.getElem?_append_left (by simpa using hi),List.getElem?_map,h]
  rfl
 refine⟨mu,hmu,?_,fun i d q=> ?_,fun i d q=> ?_,fun i a q=> ?_,fun i j a q1 q2=> ?_,fun i a q=> ?_,A.zin,Fr.refl _ _,⟨fun i a q=>((hmu i a).mp q).1,fun i _=>rfl⟩,fun a q=> ?_,fun p hp=>nomatch hp⟩
 ·unfold zFL envD
  have:=A.len
  simp
  omega
 ·rcases df i _ q with⟨e,h1,h2⟩|h
  ·by_cases hi:i∈ml
   ·rw[if_pos hi] at h2;cases h2
   ·rw[if_neg hi] at h2
    cases h2
    obtain⟨v,e1,r⟩:=A.va i d hi h1
    exact⟨v,hst i v e1,r.mono hN hN⟩
  ·cases h
 ·rcases df i _ q with⟨e,h1,h2⟩|h
  ·by_cases hi:i∈ml
   ·rw[if_pos hi] at h2
    cases h2
    obtain⟨a,e1,w,_⟩:=A.ow i d hi h1
    exact⟨a,(hmu i a).mpr ⟨hi,e1⟩,hst i _ e1,w.mono hN⟩
   ·rw[if_neg hi] at h2;cases h2
  ·cases h
 ·obtain⟨hi,e1⟩:=(hmu i a).mp q
  have hl:=A.mem i hi
  refine⟨ds[i],?_⟩
  unfold envD
  rw[List.getElem?_append_left (by simpa using hl),List.getElem?_mapIdx]
  simp[hl,hi]
 ·exact A.inj i j a ((hmu i a).mp q1).1 ((hmu j a).mp q2).1 ((hmu i a).mp q1).2 ((hmu j a).mp q2).2
 ·obtain⟨hi,e1⟩:=(hmu i a).mp q
  refine⟨fun z=> ?_,.inl ⟨i,hi,e1⟩⟩
  obtain⟨a',e2,_,n⟩:=A.ow i (ds[i]'(A.mem i hi)) hi (by simp[A.mem i hi])
  rw[e1] at e2
  cases e2
  exact n z
 ·obtain⟨i,hi,e1⟩:=q
  obtain⟨a',e2,w,n⟩:=A.ow i (ds[i]'(A.mem i hi)) hi (by simp[A.mem i hi])
  rw[e1] at e2
  cases e2
  obtain⟨o,q,_⟩:=w.soft
  exact⟨o,q⟩
theorem yAL{N ps:List Str}{vs:List V}{Q:VK}{E:XK}(hps:ps.length<=N.length)(h:spV K ml ps.length (runV N.length ml g) vs H Q E):TSt K ml g {nx:=fun _ H'=>Q .non H',rt:=Q} (zFL N vs) H:=by
 obtain⟨Z,ds,r,os,hn,AV,hF,k⟩:=h
 obtain⟨mu,hmu,S0⟩:=zOF (N:=N) AV (by rw[hn];exact hps)
 unfold runV at hF
 cases h1:g (envD ml N.length ds) with
 | none => rw [h1] at hF;cases hF
 |some o=>
  rw[h1] at hF
  refine⟨_,mu,_,o,S0,h1,?_⟩
  have fin: ∀(δ':Ev) (v:V) (σ':St) (H':Hp) (O':Nat->Option Addr),outs ml δ'=some os->Sta K ml ⟨Z,argP ml vs,H,mu,[]⟩ O' H' σ' δ'->Rep K (rz ⟨Z,argP ml vs,H,mu,[]⟩) H' (rz ⟨Z,argP ml vs,H,mu,[]⟩) v r->Q v H':=fun δ' v σ' H' O' ho S' hr'=>by
   have hz: ∀a,Zp Z ml vs a->rz ⟨Z,argP ml vs,H,mu,[]⟩ a:=fun a h=>by
    rcases h with h|⟨i,hi,e⟩
    ·exact .inl h
    ·exact .inr ⟨i,(hmu i a).mpr ⟨hi,e⟩⟩
   refine k v H' S'.frm (fun kk i a o e1 e2 e3=> ?_) (hr'.mono hz hz)
   have hd:=zMI ho kk i o e1 e3
   obtain⟨a',e4,_,w⟩:=S'.ow i o hd
   have hi:i∈ml:=List.mem_of_getElem? e1
   have:=(S'.par.2 i hi).trans ((hmu i a).mpr ⟨hi,e2⟩)
   rw[this] at e4
   cases e4
   refine w.mono fun b hb=> ?_
   rcases hb with hb|⟨j,hj,e5⟩
   ·exact .inl hb
   ·exact .inr ⟨j,(S'.par.2 j hj).trans ((hmu j b).mpr ⟨hj,e5⟩)⟩
  cases o with
  |rt d δ'=>
   have hF:(outs ml δ').map (fun os=>(d,os))=some (r,os):=hF
   cases h2:outs ml δ' with
   |none=>rw[h2] at hF;cases hF
   |some os'=>
    rw[h2] at hF
    cases hF
    exact fun v σ' H' O' S' hr'=>fin δ' v σ' H' O' h2 S' hr'
  |nx δ'=>
   have hF:(outs ml δ').map (fun os=>(Dat.non,os))=some (r,os):=hF
   cases h2:outs ml δ' with
   |none=>rw[h2] at hF;cases hF
   |some os'=>
    rw[h2] at hF
    cases hF
    exact fun σ' H' O' S'=>fin δ' .non σ' H' O' h2 S' .non
  |bk δ'=>cases hF
  |ct δ'=>cases hF
theorem Fun.okV{P:Program}{w:World}{mg:Str->Option Value}{base:Heap}{x qual:Str}{st:Stmt}{f:Addr}{fd:FuncData}{N ps:List Str}{k:Nat}(F:Fun K x qual st f fd)(S:zAE N ps (zA5 st))(hps:ps.length<=N.length)
  (b5: ∀(cdv:Value) (A:Around) (outer:List Env) (s:Shared) (H:Hp) (E:XK),Room k (A.deeper (envOfC qual (zA5 st) s.heap.objs.size f cdv))→
   PSs (cxOf CX0 P w K mg base N qual (zA5 st) f cdv A outer s H E).nox (zBL st) (TSt K ml g)):FnOk P w K mg base CX0 (k+1) f fd ps (spV K ml ps.length (runV N.length ml g)):=by
 refine F.ok S (fun vs H Q E h=> ?_) (fun cdv A outer s H vs Q E hr h=>⟨_,b5 cdv A outer s H E hr,yAL hps h⟩)
 obtain⟨Z,ds,r,os,hn,AV,_⟩:=h
 rw[AV.len,hn]
inductive AV where
 |d (d:Dat)|o (j:Nat)
inductive RepG(K:W.Frag)(N:Addr->Prop)(H:Hp)(σ:St):List V->List AV->Prop
 |nil:RepG K N H σ [] []
 |d {v:V} {vs:List V} {d:Dat} {as:List AV}:Rep K N H N v d->RepG K N H σ vs as->RepG K N H σ (v::vs) (.d d::as)
 |o {v:V} {vs:List V} {j:Nat} {as:List AV}:σ[j]? =some (some v)->RepG K N H σ vs as->RepG K N H σ (v::vs) (.o j::as)
abbrev VFg:=Ev->Option (List AV×Ev)
structure ResG(K:W.Frag)(ml:List Nat)(B:Bs)(O:Nat->Option Addr)(H:Hp)(σ:St)(pu:Bool)(H':Hp)(δ':Ev)(vs:List V)(as:List AV):Prop where
 sta:Sta K ml B O H' σ δ'
 frm:Fr (OA O) H H'
 pur:pu=true->Same H H'
 rep:RepG K (Nn B O) H' σ vs as
def TAG(K:W.Frag)(ml:List Nat)(pu:Bool)(f:VFg):TA:=fun σ H Q=> ∃B O δ as δ',Sta K ml B O H σ δ/\f δ=some (as,δ')/\ ∀vs H',ResG K ml B O H σ pu H' δ' vs as->Q vs H'
noncomputable def aNil:VFg:=fun δ=>some ([],δ)
noncomputable def aE(f:VF)(fs:VFg):VFg:=fun δ=>(f δ).bind fun p=>(fs p.2).map fun q=>(.d p.1::q.1,q.2)
noncomputable def slot(δ:Ev)(j:Nat):Option Dat:=match δ[j]? with
 |some (.va d)=>some d
 |some (.ow d)=>some d
 |_=>none
noncomputable def aO(j:Nat)(fs:VFg):VFg:=fun δ=>(slot δ j).bind fun _=>(fs δ).map fun q=>(.o j::q.1,q.2)
theorem zA9:PA X [] (TAG K ml true aNil):=zC1.imp fun σ H Q q0=>by
 obtain⟨B,O,δ,d,δ',S,q,k⟩:=q0
 cases q
 exact k [] H ⟨S,Fr.refl _ _,fun _=>Same.refl _,.nil⟩
theorem zA8{fs:VFg}(ha:PE X a (TV K ml pa true true fa))(hr:PA X es (TAG K ml ps fs))(hs:starEach (a::es) X.env=(false,eval a X.env)::starEach es X.env:=by rfl):PA X (a::es) (TAG K ml (pa && ps) (aE fa fs)):=(zAQ ha hr hs).imp fun σ H Q q0=>by
 obtain⟨B,O,δ,as,δ2,S,q,k⟩:=q0
 unfold aE at q
 cases h1:fa δ with
 | none => rw [h1] at q;cases q
 |some p=>
  obtain⟨x,δ1⟩:=p
  rw[h1] at q
  have q:((fs δ1).map fun q=>(AV.d x::q.1,q.2))=some (as,δ2):=q
  cases h2:fs δ1 with
  |none=>rw[h2] at q;cases q
  |some p2=>
   rw[h2] at q
   cases q
   refine⟨B,O,δ,x,δ1,S,h1,fun v1 H1 R1=>⟨B,O,δ1,_,_,R1.sta,h2,fun vs H2 R2=>k _ H2 ⟨R2.sta,R1.frm.trans R2.frm,fun z=> ?_,.d (R1.rep.fr R2.frm (fun a z=> .inr z) fun a z=> .inr z) R2.rep⟩⟩⟩
   obtain⟨z1,z2⟩:=(Bool.and_eq_true _ _).mp z
   exact(R1.pur z1).trans (R2.pur z2)
theorem zJM{j:Nat}{d:Dat}(h:slot δ j=some d):δ[j]? =some (.va d)∨δ[j]? =some (.ow d):=by
 unfold slot at h
 split at h
 ·cases h;exact .inl (by assumption)
 ·cases h;exact .inr (by assumption)
 ·cases h
theorem Sta.slot(S:Sta K ml B O H σ δ){j:Nat}{d:Dat}(h:slot δ j=some d): ∃v,σ[j]? =some (some v):=by
 rcases zJM h with h|h
 ·obtain⟨v,e,_⟩:=S.va j d h
  exact⟨v,e⟩
 ·obtain⟨a,_,e,_⟩:=S.ow j d h
  exact⟨_,e⟩
theorem zBA{fs:VFg}{j:Nat}(ha:PE X a (tVar j))(hr:PA X es (TAG K ml ps fs))(hs:starEach (a::es) X.env=(false,eval a X.env)::starEach es X.env:=by rfl):PA X (a::es) (TAG K ml ps (aO j fs)):=(zAQ ha hr hs).imp fun σ H Q q0=>by
 obtain⟨B,O,δ,as,δ2,S,q,k⟩:=q0
 unfold aO at q
 cases h1:slot δ j with
 | none => rw [h1] at q;cases q
 |some d=>
  rw[h1] at q
  have q:((fs δ).map fun q=>(AV.o j::q.1,q.2))=some (as,δ2):=q
  cases h2:fs δ with
  |none=>rw[h2] at q;cases q
  |some p2=>
   rw[h2] at q
   cases q
   obtain⟨v,e⟩:=S.slot h1
   exact⟨v,e,B,O,δ,_,_,S,h2,fun vs H2 R2=>k _ H2 ⟨R2.sta,R2.frm,R2.pur,.o e R2.rep⟩⟩
theorem RepG.length: ∀{N:Addr->Prop} {vs:List V} {as:List AV},RepG K N H σ vs as->vs.length=as.length
 |_,_,_,.nil=>rfl
 |_,_,_,.d _ t=>congrArg (· +1) (RepG.length t)
 |_,_,_,.o _ t=>congrArg (· +1) (RepG.length t)
theorem RepG.getD: ∀{N:Addr->Prop} {vs:List V} {as:List AV} {i:Nat} {d:Dat},RepG K N H σ vs as->as[i]? =some (.d d)-> ∃v,vs[i]? =some v/\Rep K N H N v d
 |_,_,_,_,_,.nil,e=>by simp at e
 |_,_,_,0,_,.d h _,e=>by simp at e;subst e;exact⟨_,rfl,h⟩
 |_,_,_,0,_,.o h _,e=>by simp at e
 |_,_,_,i+1,_,.d _ t,e=>by
  obtain⟨u,h1,h2⟩:=RepG.getD (i:=i) t (by simpa using e)
  exact⟨u,by simpa using h1,h2⟩
 |_,_,_,i+1,_,.o _ t,e=>by
  obtain⟨u,h1,h2⟩:=RepG.getD (i:=i) t (by simpa using e)
  exact⟨u,by simpa using h1,h2⟩
theorem RepG.getO: ∀{N:Addr->Prop} {vs:List V} {as:List AV} {i j:Nat},RepG K N H σ vs as->as[i]? =some (.o j)-> ∃v,vs[i]? =some v/\σ[j]? =some (some v)
 |_,_,_,_,_,.nil,e=>by simp at e
 |_,_,_,0,_,.d h _,e=>by simp at e
 |_,_,_,0,_,.o h _,e=>by simp at e;subst e;exact⟨_,rfl,h⟩
 |_,_,_,i+1,_,.d _ t,e=>by
  obtain⟨u,h1,h2⟩:=RepG.getO (i:=i) t (by simpa using e)
  exact⟨u,by simpa using h1,h2⟩
 |_,_,_,i+1,_,.o _ t,e=>by
  obtain⟨u,h1,h2⟩:=RepG.getO (i:=i) t (by simpa using e)
  exact⟨u,by simpa using h1,h2⟩
noncomputable def argD(δ:Ev):AV->Option Dat
 | .d d=>some d
 | .o j=>slot δ j
noncomputable def zEV(δ:Ev):List AV->Option (List Dat)
 |[]=>some []
 |a::as=>(argD δ a).bind fun d=>(zEV δ as).map fun ds=>d::ds
theorem zKV: ∀{as:List AV} {ds:List Dat},zEV δ as=some ds->as.length=ds.length/\ ∀(i:Nat) (d:Dat),ds[i]? =some d-> ∃a,as[i]? =some a/\argD δ a=some d
 | [],ds,h => by cases h;exact ⟨rfl,fun i d e => by simp at e⟩
 | a :: as,ds,h => by
  unfold zEV at h
  cases h1:argD δ a with
  | none => rw [h1] at h;cases h
  |some d=>
   rw[h1] at h
   cases h2:zEV δ as with
   | none => simp [h2] at h
   |some ds'=>
    simp only[Option.bind_some,h2] at h
    cases h
    obtain⟨l,g⟩:=zKV h2
    refine⟨by simp[l],fun i e he=> ?_⟩
    cases i with
    |zero=>cases he;exact⟨a,rfl,h1⟩
    |succ i=>
     obtain⟨b,e1,e2⟩:=g i e (by simpa using he)
     exact⟨b,by simpa using e1,e2⟩
noncomputable def jsOf:List AV->List Nat
 |[]=>[]
 | .d _::as=>jsOf as
 | .o j::as=>j::jsOf as
theorem zI3: ∀{as:List AV} {i j:Nat},as[i]? =some (.o j)->j∈jsOf as
 |[],_,_,e=>by simp at e
 | .d _::as,0,j,e=>by simp at e
 | .o k::as,0,j,e=>by simp at e;subst e;exact List.mem_cons_self
 | .d _::as,i+1,j,e=>zI3 (as:=as) (i:=i) (by simpa using e)
 | .o k::as,i+1,j,e=>List.mem_cons_of_mem _ (zI3 (as:=as) (i:=i) (by simpa using e))
theorem zSL: ∀{as:List AV} {j:Nat},j∈jsOf as-> ∃i:Nat,as[i]? =some (AV.o j)
 | [],_,h => nomatch h
 | .d _ :: as,j,h => by
  obtain⟨i,e⟩:=zSL (as:=as) h
  exact⟨i+1,by simpa using e⟩
 | .o k :: as,j,h => by
  rcases List.mem_cons.mp h with e|e
  ·exact ⟨0,by rw [e];rfl⟩
  ·obtain⟨i,e⟩:=zSL (as:=as) e
   exact⟨i+1,by simpa using e⟩
theorem zMU: ∀{as:List AV} {i k j:Nat},(jsOf as).Nodup->as[i]? =some (.o j)->as[k]? =some (.o j)->i=k
 |[],_,_,_,_,e,_=>by simp at e
 | .d _::as,0,_,j,_,e,_=>by simp at e
 | .d _::as,_+1,0,j,_,_,e=>by simp at e
 | .d _::as,i+1,k+1,j,n,e1,e2=>congrArg (· +1) (zMU (as:=as) n (by simpa using e1) (by simpa using e2))
 | .o x::as,0,0,j,_,_,_=>rfl
 | .o x::as,0,k+1,j,n,e1,e2=>by
  simp at e1
  subst e1
  have h:as[k]? =some (.o x):=by simpa using e2
  exact absurd (zI3 h) (List.nodup_cons.mp n).1
 | .o x::as,i+1,0,j,n,e1,e2=>by
  simp at e2
  subst e2
  have h:as[i]? =some (.o x):=by simpa using e1
  exact absurd (zI3 h) (List.nodup_cons.mp n).1
 | .o x::as,i+1,k+1,j,n,e1,e2=>congrArg (· +1) (zMU (as:=as) (List.nodup_cons.mp n).2 (by simpa using e1) (by simpa using e2))
noncomputable def zSG(δ:Ev)(as:List AV)(i:Nat):Bool:=match as[i]? with
 |some (.o j)=>match δ[j]? with
  |some (.ow _)=>true
  |_=>false
 |_=>false
noncomputable def zEW(mF:List Nat):List AV->Nat->Bool
 |[],_=>true
 | .d _::as,i=>zEW mF as (i+1)
 | .o _::as,i=>decide (i∈mF) && zEW mF as (i+1)
theorem zFH{mF:List Nat}: ∀{as:List AV} {k i j:Nat},zEW mF as k=true->as[i]? =some (.o j)->k+i∈mF
 |[],_,_,_,_,e=>by simp at e
 | .d _::as,k,0,j,h,e=>by simp at e
 | .o _::as,k,0,j,h,e=>by
  simp only[zEW,Bool.and_eq_true,decide_eq_true_eq] at h
  exact h.1
 | .d _::as,k,i+1,j,h,e=>by
  have:=zFH (as:=as) (k:=k+1) (i:=i) (j:=j) h (by simpa using e)
  rwa[show k+(i+1)=k+1+i by omega]
 | .o _::as,k,i+1,j,h,e=>by
  simp only[zEW,Bool.and_eq_true] at h
  have:=zFH (as:=as) (k:=k+1) (i:=i) (j:=j) h.2 (by simpa using e)
  rwa[show k+(i+1)=k+1+i by omega]
noncomputable def zF7:Dat->Bool
 | .lst ds=>zGN ds
 | .dct _ ds=>zGN ds
 |_=>false
theorem Own.kids{N N':Addr->Prop}{a:Addr}(w:Own K N H a d)(h:zF7 d=true):Own K N' H a d:=by
 cases w with
 |lst q r=>exact .lst q (r.hard h)
 |dct q r=>exact .dct q (r.hard h)
noncomputable def putO(as:List AV):List Nat->List Dat->Ev->Ev
 |i::is,o::os,δ=>match as[i]? with
  |some (.o j)=>putO as is os (δ.set j (.ow o))
  |_=>putO as is os δ
 |_,_,δ=>δ
theorem zGR{as:List AV}: ∀{is:List Nat} {os:List Dat} {δ:Ev},(putO as is os δ).length=δ.length
 |[],_,_=>rfl
 |_::_,[],_=>rfl
 |i::is,o::os,δ=>by
  unfold putO
  split
  ·rw[zGR,List.length_set]
  ·rw[zGR]
theorem zIN{as:List AV}: ∀{is:List Nat} {os:List Dat} {δ:Ev} (j:Nat),is.length=os.length->j<δ.length→
  (∃(k i:Nat) (o:Dat),is[k]? =some i/\os[k]? =some o/\as[i]? =some (AV.o j)/\(putO as is os δ)[j]? =some (Sl.ow o))∨((∀i∈is,as[i]? ≠some (AV.o j))/\(putO as is os δ)[j]? =δ[j]?)
 | [],[],δ,j,_,_ => .inr ⟨(fun i h => nomatch h),rfl⟩
 | i :: is,o :: os,δ,j,hl,hj => by
  unfold putO
  split
  ·rename_i j0 e0
   rcases zIN (is:=is) (os:=os) (δ:=δ.set j0 (.ow o)) j (by simpa using hl) (by rw[List.length_set];exact hj) with⟨k,i',o',h1,h2,h3,h4⟩|⟨h1,h2⟩
   ·exact .inl ⟨k + 1,i',o',by simpa using h1,by simpa using h2,h3,h4⟩
   ·by_cases hjj:j=j0
    ·subst hjj
     rw[List.getElem?_set_self hj] at h2
     exact .inl ⟨0,i,o,rfl,rfl,e0,h2⟩
    ·rw[List.getElem?_set_ne (Ne.symm hjj)] at h2
     refine .inr ⟨fun i' hi'=> ?_,h2⟩
     rcases List.mem_cons.mp hi' with z|z
     ·rw[z,e0]
      intro w
      cases w
      exact hjj rfl
     ·exact h1 i' z
  ·rename_i hn
   rcases zIN (is:=is) (os:=os) (δ:=δ) j (by simpa using hl) hj with⟨k,i',o',h1,h2,h3,h4⟩|⟨h1,h2⟩
   ·exact .inl ⟨k + 1,i',o',by simpa using h1,by simpa using h2,h3,h4⟩
   ·refine .inr ⟨fun i' hi' => ?_,h2⟩
    rcases List.mem_cons.mp hi' with z|z
    ·rw[z]
     exact fun w=>hn j w
    ·exact h1 i' z
noncomputable def zFF(mF:List Nat)(as:List AV)(δ:Ev):Bool:=mF.all (zSG δ as) && decide (jsOf as).Nodup
noncomputable def zEK(mF:List Nat)(as:List AV)(r:Dat)(os:List Dat):Bool:=(zEW mF as 0 || r.hard) && (zEW mF as 0 || os.all zF7) && decide (mF.length=os.length)
noncomputable def zAG(n:Nat)(mF:List Nat)(F:VFun)(fs:VFg):VF:=fun δ=>(fs δ).bind fun p=>(zEV p.2 p.1).bind fun ds=>if ds.length=n/\zFF mF p.1 p.2=true then(F ds).bind fun q=>if zEK mF p.1 q.1 q.2=true then some (q.1,putO p.1 mF q.2 p.2) else none else none
theorem zIK{n:Nat}{mF:List Nat}{F:VFun}{fs:VFg}{Q:VK}(h:TV K ml (ps && mF.isEmpty) true true (zAG n mF F fs) σ H Q):zUI (spV K mF n F) [] E0 (TAG K ml ps fs) σ H Q:=by
 obtain⟨B,O,δ,d,δ2,S,q,k⟩:=h
 unfold zAG at q
 cases h1:fs δ with
 | none => rw [h1] at q;cases q
 |some p=>
  obtain⟨as,δ1⟩:=p
  rw[h1] at q
  have q : ((zEV δ1 as).bind fun ds => if ds.length = n /\ zFF mF as δ1 = true then (F ds).bind fun q => if zEK mF as q.1 q.2 = true then some (q.1,putO as mF q.2 δ1) else none else none) = some (d,δ2) := q
  cases h2:zEV δ1 as with
  | none => rw [h2] at q;cases q
  |some ds=>
   rw[h2] at q
   have q : (if ds.length = n /\ zFF mF as δ1 = true then (F ds).bind fun q => if zEK mF as q.1 q.2 = true then some (q.1,putO as mF q.2 δ1) else none else none) = some (d,δ2) := q
   split at q
   ·rename_i hc
    cases h3:F ds with
    | none => rw [h3] at q;cases q
    |some z=>
     obtain⟨r,os⟩:=z
     rw[h3] at q
     have q:(if zEK mF as r os=true then some (r,putO as mF os δ1) else none)=some (d,δ2):=q
     split at q
     ·rename_i hb
      cases q
      obtain⟨hn,hc⟩:=hc
      simp only[zFF,Bool.and_eq_true,decide_eq_true_eq,List.all_eq_true] at hc
      simp only[zEK,Bool.and_eq_true,decide_eq_true_eq] at hb
      obtain⟨hmu,hnd⟩:=hc
      obtain⟨⟨nh,o7⟩,aa⟩:=hb
      refine⟨B,O,δ,as,δ1,S,h1,fun vs H1 R=> ?_⟩
      show spV K mF n F (vs++[]) H1 Q E0
      rw[List.append_nil]
      obtain⟨hal,hag⟩:=zKV h2
      have hm: ∀i∈mF,∃j a x,as[i]? =some (.o j)/\δ1[j]? =some (.ow x)/\O j=some a/\vs[i]? =some (.ref a)/\Own K (Nn B O) H1 a x:=fun i hi=>by
       have:=hmu i hi
       unfold zSG at this
       split at this
       ·rename_i j ej
        split at this
        ·rename_i x ex
         obtain⟨a,e1,e2,w⟩:=R.sta.ow j x ex
         obtain⟨v,e3,e4⟩:=R.rep.getO ej
         rw[e2] at e4
         cases e4
         exact⟨j,a,x,ej,ex,e1,e3,w⟩
        ·cases this
       ·cases this
      have hP: ∀a,argP mF vs a-> ∃i j,i∈mF/\as[i]? =some (.o j)/\O j=some a:=fun a q0=>by
       obtain⟨i,hi,e⟩:=q0
       obtain⟨j,a',x,e1,_,e2,e3,_⟩:=hm i hi
       rw[e] at e3
       cases e3
       exact⟨i,j,hi,e1,e2⟩
      have hPO: ∀a,argP mF vs a->OA O a:=fun a h=>by
       obtain⟨i,j,_,_,e⟩:=hP a h
       exact⟨j,e⟩
      have hZp: ∀a,Zp (fun a=>Nn B O a/\ ∀j∈jsOf as,O j≠some a) mF vs a->Nn B O a:=fun a h=>by
       rcases h with h|h
       ·exact h.1
       ·exact .inr (hPO a h)
      refine⟨fun a=>Nn B O a/\ ∀j∈jsOf as,O j≠some a,ds,_,os,hn,⟨by rw[<- hal,R.rep.length],fun i hi=> ?_,fun i x hi e=> ?_,fun i x hi e=> ?_,fun i j a hi hj e1 e2=> ?_,fun a h=>R.sta.nin h.1⟩,h3,fun v H2 f2 w2 r2=> ?_⟩
      ·obtain⟨j,a,x,e1,_⟩:=hm i hi
       rw[<- hal]
       exact(List.getElem?_eq_some_iff.mp e1).1
      ·obtain⟨a,e1,e2⟩:=hag i x e
       cases a with
       |d y=>
        cases e2
        obtain⟨v,e3,r⟩:=R.rep.getD e1
        exact⟨v,e3,r.mono hZp hZp⟩
       |o j=>
        obtain⟨v,e3,e4⟩:=R.rep.getO e1
        refine⟨v,e3,?_⟩
        rcases zJM e2 with e5|e5
        ·obtain⟨v',e6,r⟩:=R.sta.va j x e5
         rw[e4] at e6
         cases e6
         exact r.mono hZp hZp
        ·obtain⟨a,e7,e6,w⟩:=R.sta.ow j x e5
         rw[e4] at e6
         cases e6
         refine(w.mono hZp).rep fun z=> ?_
         rcases z with z|z
         ·exact z.2 j (zI3 e1) e7
         ·obtain⟨i',j',hi',e8,e9⟩:=hP a z
          have:j=j':=R.sta.inj j j' a e7 e9
          subst this
          have:=zMU hnd e1 e8
          subst this
          exact hi hi'
      ·obtain⟨a,e1,e2⟩:=hag i x e
       obtain⟨j,b,y,e3,e4,e5,e6,w⟩:=hm i hi
       rw[e3] at e1
       cases e1
       have e7 : slot δ1 j = some y := by unfold slot;rw [e4]
       have e2:slot δ1 j=some x:=e2
       rw[e7] at e2
       cases e2
       exact⟨b,e6,w.mono hZp,fun z=>z.2 j (zI3 e3) e5⟩
      ·obtain⟨j1,b1,_,e3,_,e4,e5,_⟩:=hm i hi
       obtain⟨j2,b2,_,e6,_,e7,e8,_⟩:=hm j hj
       rw[e1] at e5
       cases e5
       rw[e2] at e8
       cases e8
       have:j1=j2:=R.sta.inj j1 j2 a e4 e7
       subst this
       exact zMU hnd e3 e6
      ·have S2:Sta K ml B O H2 σ (putO as mF os δ1):=by
        refine R.sta.call zGR (fun j=> ?_) f2 hPO
        by_cases hj:j<δ1.length
        ·rcases zIN (as:=as) (is:=mF) (os:=os) (δ:=δ1) j aa hj with⟨kk,i,o,e1,e2,e3,e4⟩|⟨e1,e2⟩
         ·obtain⟨j',a,x,e5,_,e6,e7,_⟩:=hm i (List.mem_of_getElem? e1)
          rw[e3] at e5
          cases e5
          have w:=w2 kk i a o e1 e7 e2
          refine .inr ⟨a,o,e6,e4,?_⟩
          rcases(Bool.or_eq_true _ _).mp o7 with z|z
          ·refine w.mono fun b hb => ?_
           by_cases hjs: ∃j'∈jsOf as,O j'=some b
           ·obtain⟨j',hj',e8⟩:=hjs
            obtain⟨i',e9⟩:=zSL hj'
            have hi':=zFH z e9
            rw[Nat.zero_add] at hi'
            obtain⟨j'',a'',_,e10,_,e11,e12,_⟩:=hm i' hi'
            rw[e9] at e10
            cases e10
            rw[e8] at e11
            cases e11
            exact .inr ⟨i',hi',e12⟩
           ·exact .inl ⟨hb,fun j' hj' e=>hjs ⟨j',hj',e⟩⟩
          ·exact w.kids (List.all_eq_true.mp z o (List.mem_of_getElem? e2))
         ·refine .inl ⟨e2,fun a ea hPa => ?_⟩
          obtain⟨i,j',hi,e3,e4⟩:=hP a hPa
          have:j=j':=R.sta.inj j j' a ea e4
          subst this
          exact e1 i hi e3
        ·refine .inl ⟨?_,fun a ea => ?_⟩
         ·rw [List.getElem?_eq_none (by rw [zGR];omega),List.getElem?_eq_none (by omega)]
         ·obtain⟨x,ex⟩:=R.sta.dom j a ea
          exact absurd (List.getElem?_eq_some_iff.mp ex).1 hj
       refine k v H2 ⟨S2,R.frm.trans (f2.mono hPO),fun z=> ?_,?_⟩
       ·obtain⟨z1,z2⟩:=(Bool.and_eq_true _ _).mp z
        refine(R.pur z1).trans fun b o e=>f2 b o e fun w=> ?_
        obtain⟨i,hi,_⟩:=w
        rw[List.isEmpty_iff.mp z2] at hi
        cases hi
       ·rcases(Bool.or_eq_true _ _).mp nh with z|z
        ·have hN : ∀ a,Nn B O a -> Zp (fun a => Nn B O a /\ ∀ j ∈ jsOf as,O j ≠ some a) mF vs a := fun b hb => by
          by_cases hjs: ∃j'∈jsOf as,O j'=some b
          ·obtain⟨j',hj',e8⟩:=hjs
           obtain⟨i',e9⟩:=zSL hj'
           have hi':=zFH z e9
           rw[Nat.zero_add] at hi'
           obtain⟨j'',a'',_,e10,_,e11,e12,_⟩:=hm i' hi'
           rw[e9] at e10
           cases e10
           rw[e8] at e11
           cases e11
           exact .inr ⟨i',hi',e12⟩
          ·exact .inl ⟨hb,fun j' hj' e=>hjs ⟨j',hj',e⟩⟩
         exact r2.mono hN hN
        ·exact r2.hard z
     ·cases q
   ·cases q
theorem zUE{x:Str}{kk j n:Nat}{qs:List Str}{mF:List Nat}{F:VFun}{ff:Addr}{p':Pos}{fs:VFg}(hK:X.K=K)(D:Def X.prog X.w K X.mg X.base x kk qs (spV K mF n F) ff)(hr:Room j X.A)(hk:kk<=j)(hg:Gl X x)(ha:PA X (e::es) (TAG K ml ps fs))(hdb:(x==("__debug__":Str))=false:=by decide)
  (he:starEach (e::es) X.env=(false,eval e X.env)::starEach es X.env:=by rfl) (hpl:(backTo pos (starEach es X.env)).any (·.1)=false:=by rfl):
  PE X (.Call (.Name x p') (e::es) [] pos) (TV K ml (ps && mF.isEmpty) true true (zAG n mF F fs)):=by
 subst hK
 exact(zMG D hr hk hg ha hdb he hpl).imp fun _ _ _ h=>zIK h
end
section
variable{X:Cx}{K:W.Frag}{ml:List Nat}{e a b c:Expr}{es:List Expr}{pi pt pe pu bt bi ps bs:Bool}{f:VF}{B B':Bs}{O:Nat->Option Addr}{H H0 H1 H':Hp}{σ:St}{δ δ':Ev}{v:V}{d:Dat}{p:Addr}{pos:Pos}{ix:List Nat}{nl:Nat}
noncomputable def zAZ(ix:List Nat)(δ:Ev):Ev:=ix.map fun i=>(δ[i]?).getD .no
noncomputable def nos(nl:Nat):Ev:=List.replicate nl Sl.no
noncomputable def zBS(n nl:Nat)(gg:VG)(tb:VB)(fe:VF):List Dat->List Dat->Ev->Option (List Dat×Ev)
 |[],acc,δ=>some (acc,δ)
 |d::r,acc,δ=>(gg d (δ++nos nl)).bind fun δ1=>(tb δ1).bind fun p=>if p.1=true then(fe p.2).bind fun q=>if acc.length<16777216 then zBS n nl gg tb fe r (acc++[q.1]) (q.2.take n) else none else zBS n nl gg tb fe r acc (p.2.take n)
noncomputable def zD3:List Nat->Ev->Ev->Ev
 |i::is,s::ss,δ=>match s with
  | .ow d=>zD3 is ss (δ.set i (.ow d))
  |_=>zD3 is ss δ
 |_,_,δ=>δ
noncomputable def zCM(ix:List Nat)(nl:Nat)(fi:VI)(gg:VG)(tb:VB)(fe:VF):VF:=fun δ=>(fi δ).bind fun p=>(zBS ix.length nl gg tb fe p.1 [] (zAZ ix p.2)).map fun q=>(.lst q.1,zD3 ix q.2 p.2)
noncomputable def bYes:VB:=fun δ=>some (true,δ)
theorem zE6: ∀{ix:List Nat} {ss δ:Ev},(zD3 ix ss δ).length=δ.length
 |[],_,_=>rfl
 |_::_,[],_=>rfl
 |i::is,s::ss,δ=>by
  cases s<;>simp only[zD3]<;>rw[zE6]<;>try rw[List.length_set]
theorem zE7: ∀{ix:List Nat} {ss δ:Ev} (i:Nat),i<δ.length->ix.length=ss.length→
  (∃(j:Nat) (d:Dat),ix[j]? =some i/\ss[j]? =some (Sl.ow d)/\(zD3 ix ss δ)[i]? =some (Sl.ow d))∨((∀(j:Nat) (d:Dat),ix[j]? =some i->ss[j]? ≠some (Sl.ow d))/\(zD3 ix ss δ)[i]? =δ[i]?)
 | [],ss,δ,i,hi,hl => .inr ⟨(fun j d h => by simp at h),rfl⟩
 | k :: is,[],δ,i,hi,hl => by cases hl
 | k :: is,s :: ss,δ,i,hi,hl => by
  have hl2:is.length=ss.length:=by simpa using hl
  cases s with
  |ow d=>
   simp only[zD3]
   rcases zE7 (ix:=is) (ss:=ss) (δ:=δ.set k (.ow d)) i (by rw[List.length_set];exact hi) hl2 with⟨j,d',h1,h2,h3⟩|⟨h1,h2⟩
   ·exact .inl ⟨j + 1,d',by simpa using h1,by simpa using h2,h3⟩
   ·by_cases hk:i=k
    ·subst hk
     rw[List.getElem?_set_self hi] at h2
     exact .inl ⟨0,d,rfl,rfl,h2⟩
    ·rw[List.getElem?_set_ne (Ne.symm hk)] at h2
     refine .inr ⟨fun j d' e=> ?_,h2⟩
     cases j with
     |zero=>cases e;exact absurd rfl hk
     |succ j=>simpa using h1 j d' (by simpa using e)
  |va d=>
   simp only[zD3]
   rcases zE7 (ix:=is) (ss:=ss) (δ:=δ) i hi hl2 with⟨j,d',h1,h2,h3⟩|⟨h1,h2⟩
   ·exact .inl ⟨j + 1,d',by simpa using h1,by simpa using h2,h3⟩
   ·refine .inr ⟨fun j d' e => ?_,h2⟩
    cases j with
    |zero=>simp
    |succ j=>simpa using h1 j d' (by simpa using e)
  |no=>
   simp only[zD3]
   rcases zE7 (ix:=is) (ss:=ss) (δ:=δ) i hi hl2 with⟨j,d',h1,h2,h3⟩|⟨h1,h2⟩
   ·exact .inl ⟨j + 1,d',by simpa using h1,by simpa using h2,h3⟩
   ·refine .inr ⟨fun j d' e => ?_,h2⟩
    cases j with
    |zero=>simp
    |succ j=>simpa using h1 j d' (by simpa using e)
noncomputable def Oc(ix:List Nat)(O:Nat->Option Addr):Nat->Option Addr:=fun j=>(ix[j]?).bind O
noncomputable def Bc(ix:List Nat)(B:Bs)(O:Nat->Option Addr)(H0:Hp)(D:Addr)(kp:List (V×Dat)):Bs:=
 ⟨fun a=>(B.Z a∨a=D)∨ ∃i,O i=some a/\i∉ix,OA (Oc ix O),H0,Oc ix O,kp⟩
theorem zL6{D:Addr}{kp:List (V×Dat)}: ∀a,Nn (Bc ix B O H0 D kp) (Oc ix O) a->Nn B O a∨a=D:=fun a h=>by
 rcases h with((h|h)|⟨i,h,_⟩)|⟨j,h⟩
 ·exact .inl (.inl h)
 ·exact .inr h
 ·exact .inl (.inr ⟨i,h⟩)
 ·unfold Oc at h
  cases q:ix[j]? with
  |none=>rw[q] at h;cases h
  |some i=>rw[q] at h;exact .inl (.inr ⟨i,h⟩)
theorem zI0{D:Addr}{kp:List (V×Dat)}: ∀a,Nn (B.add D) O a->Nn (Bc ix B O H0 D kp) (Oc ix O) a:=fun a h=>by
 rcases h with h|⟨i,h⟩
 ·exact .inl (.inl h)
 ·by_cases hi:i∈ix
  ·obtain⟨j,hj⟩:=List.mem_iff_getElem?.mp hi
   exact .inr ⟨j,by unfold Oc;rw[hj];exact h⟩
  ·exact .inl (.inr ⟨i,h,hi⟩)
theorem Sta.withKp{kp:List (V×Dat)}(S:Sta K ml B O H σ δ)(h: ∀p∈kp,Rep K (Nn B O) H (Nn B O) p.1 p.2):Sta K ml {B with kp:=kp} O H σ δ:=
 ⟨S.len,S.va,S.ow,S.dom,S.inj,S.old,S.zin,S.frm,S.par,S.pin,h⟩
theorem Sta.writeZ{D:Addr}{o:HO}{acc:List V}(S:Sta K ml B O H σ δ)(hD:B.Z D)(hl:H D=some (.lst acc))(h0:B.H0 D=none):Sta K ml B O (upd H D o) σ δ:=by
 have hf:Fr (fun b=>b=D) H (upd H D o):=fun b u q n=>by
  by_cases hb:b=D
  ·subst hb
   rw[hl] at q
   cases q
   exact absurd (n rfl) fun z=>z
  ·rw[zB3 hb]
   exact q
 have hN: ∀b,b=D->Nn B O b:=fun b z=> .inl (z▸hD)
 have hin: ∀b,(∃u,H b=some u)-> ∃u,upd H D o b=some u:=fun b q0=>by
  obtain⟨u,q⟩:=q0
  by_cases hb:b=D
  ·exact⟨o,by rw[hb];exact zAK⟩
  ·exact⟨u,by rw[zB3 hb];exact q⟩
 refine⟨S.len,fun i d q=> ?_,fun i d q=> ?_,S.dom,S.inj,S.old,fun b h=>hin b (S.zin b h),fun b u q n=> ?_,S.par,fun b h=>hin b (S.pin b h),fun p hp=>(S.kep p hp).fr hf hN hN⟩
 ·obtain⟨v,e,r⟩:=S.va i d q
  exact⟨v,e,r.fr hf hN hN⟩
 ·obtain⟨a,e,e2,w⟩:=S.ow i d q
  exact⟨a,e,e2,w.fr hf hN fun z=>(S.old i a e).1 (z▸hD)⟩
 ·have hb : b ≠ D := fun z => by rw [z,h0] at q;cases q
  rw[zB3 hb]
  exact S.frm b u q n
theorem zKL{j:Nat}{s:Sl}(h:(zAZ ix δ++nos nl)[j]? =some s):(∃i,ix[j]? =some i/\s=(δ[i]?).getD .no)∨s= .no:=by
 unfold zAZ nos at h
 by_cases hj:j<ix.length
 ·rw [List.getElem?_append_left (by simpa using hj),List.getElem?_map] at h
  cases q:ix[j]? with
  |none=>rw[q] at h;cases h
  |some i=>rw[q] at h;cases h;exact .inl ⟨i,rfl,rfl⟩
 ·rw [List.getElem?_append_right (by simpa using hj),List.getElem?_replicate] at h
  split at h
  ·cases h;exact .inr rfl
  ·cases h
theorem zN4{i j:Nat}{v:V}(hi:ix[j]? =some i)(h:σ[i]? =some (some v)):(caps ix σ++List.replicate nl none)[j]? =some (some v):=by
 have hj:j<ix.length:=(List.getElem?_eq_some_iff.mp hi).1
 unfold caps
 rw[List.getElem?_append_left (by simpa using hj),List.getElem?_map,hi]
 show some ((σ[i]?).join)=_
 rw[h]
 rfl
theorem Sta.inner{D:Addr}(S:Sta K ml B O H0 σ δ)(hD:H0 D=none)(hnd:ix.Nodup){kps:List (V×Dat)}(hk: ∀p∈kps,Rep K (Nn B O) H0 (Nn B O) p.1 p.2):
  Sta K (List.range ix.length) (Bc ix B O H0 D kps) (Oc ix O) (upd H0 D (.lst [])) (caps ix σ++List.replicate nl none) (zAZ ix δ++nos nl) where
 len:=by simp[caps,zAZ,nos]
 va := fun j d e => by
  rcases zKL e with⟨i,hi,q⟩|q
  ·have q:δ[i]? =some (.va d):=by
    cases w:δ[i]? with
    |none=>rw[w] at q;cases q
    |some s=>rw[w] at q;rw[show s= .va d from q.symm]
   obtain⟨v,e1,r⟩:=S.va i d q
   exact⟨v,zN4 hi e1,(r.away hD _ _ zL6 zL6).same (zA4 hD)⟩
  ·cases q
 ow := fun j d e => by
  rcases zKL e with⟨i,hi,q⟩|q
  ·have q:δ[i]? =some (.ow d):=by
    cases w:δ[i]? with
    |none=>rw[w] at q;cases q
    |some s=>rw[w] at q;rw[show s= .ow d from q.symm]
   obtain⟨a,e1,e2,w⟩:=S.ow i d q
   refine⟨a,by unfold Oc;rw[hi];exact e1,zN4 hi e2,?_⟩
   cases w with
   |lst q' r=>exact .lst (zA4 hD _ _ q') ((r.away hD _ _ zL6).same (zA4 hD))
   |dct q' r=>exact .dct (zA4 hD _ _ q') ((r.away hD _ _ zL6).same (zA4 hD))
  ·cases q
 dom:=fun j a e=>by
  unfold Oc at e
  cases hi:ix[j]? with
  | none => rw [hi] at e;cases e
  |some i=>
   rw[hi] at e
   obtain⟨d,q⟩:=S.dom i a e
   refine⟨d,?_⟩
   have hj:j<ix.length:=(List.getElem?_eq_some_iff.mp hi).1
   unfold zAZ
   rw[List.getElem?_append_left (by simpa using hj),List.getElem?_map,hi]
   show some ((δ[i]?).getD .no)=_
   rw[q]
   rfl
 inj:=fun j k a e1 e2=>by
  unfold Oc at e1 e2
  cases hi:ix[j]? with
  | none => rw [hi] at e1;cases e1
  |some i=>
   cases hk:ix[k]? with
   |none=>rw[hk] at e2;cases e2
   |some i'=>
    rw[hi] at e1
    rw[hk] at e2
    have:i=i':=S.inj i i' a e1 e2
    subst this
    obtain⟨l1,q1⟩:=List.getElem?_eq_some_iff.mp hi
    obtain⟨l2,q2⟩:=List.getElem?_eq_some_iff.mp hk
    exact(List.getElem_inj hnd).mp (q1.trans q2.symm)
 old:=fun j a e=>by
  have e':=e
  unfold Oc at e'
  cases hi:ix[j]? with
  | none => rw [hi] at e';cases e'
  |some i=>
   rw[hi] at e'
   refine⟨fun z=> ?_,.inl ⟨j,e⟩⟩
   rcases z with(z|z)|⟨i',z,n⟩
   ·exact(S.old i a e').1 z
   ·obtain⟨o,q⟩:=S.nin (.inr ⟨i,e'⟩)
    rw[z,hD] at q
    cases q
   ·have:i=i':=S.inj i i' a e' z
    subst this
    exact n (List.mem_of_getElem? hi)
 zin:=fun a h=>by
  rcases h with(h|h)|⟨i,h,_⟩
  ·obtain⟨o,q⟩:=S.zin a h
   exact⟨o,zA4 hD _ _ q⟩
  ·exact ⟨_,by rw [h];exact zAK⟩
  ·obtain⟨o,q⟩:=S.nin (.inr ⟨i,h⟩)
   exact⟨o,zA4 hD _ _ q⟩
 frm:=(zA4 hD).fr
 par:=⟨fun j a e=>by
  have e:(ix[j]?).bind O=some a:=e
  cases hi:ix[j]? with
  |none=>rw[hi] at e;cases e
  |some i=>exact List.mem_range.mpr (List.getElem?_eq_some_iff.mp hi).1,fun j _=>rfl⟩
 pin:=fun a q0=>by
  obtain⟨j,e⟩:=q0
  unfold Oc at e
  cases hi:ix[j]? with
  |none=>rw[hi] at e;cases e
  |some i=>
   rw[hi] at e
   obtain⟨o,q⟩:=S.nin (.inr ⟨i,e⟩)
   exact⟨o,zA4 hD _ _ q⟩
 kep:=fun p hp=>((hk p hp).away hD _ _ zL6 zL6).same (zA4 hD)
theorem Sta.turn{O':Nat->Option Addr}{σ':St}{n:Nat}{m:St}(S:Sta K (List.range n) B O' H σ' δ)(hmu: ∀j,n<=j->B.mu j=none)(hm:m.length=n)(hσ:σ'.take n=m)(hn:n<=δ.length):Sta K (List.range n) B B.mu H (m++List.replicate nl none) (δ.take n++nos nl):=by
 have hO: ∀j,j<n->O' j=B.mu j:=fun j hj=>S.par.2 j (List.mem_range.mpr hj)
 have hle: ∀j a,B.mu j=some a->O' j=some a:=fun j a e=>by rw[hO j (List.mem_range.mp (S.par.1 j a e))];exact e
 have hN: ∀a,Nn B B.mu a->Nn B O' a:=fun a h=>by
  rcases h with h|⟨j,h⟩
  ·exact .inl h
  ·exact .inr ⟨j,hle j a h⟩
 have hg: ∀(j:Nat) (s:Sl),(δ.take n++nos nl)[j]? =some s->(j<n/\δ[j]? =some s)∨s= .no:=fun j s h=>by
  have hl:(δ.take n).length=n:=by rw[List.length_take];omega
  by_cases hj:j<n
  ·rw [List.getElem?_append_left (by rw [hl];exact hj),List.getElem?_take_of_lt hj] at h
   exact .inl ⟨hj,h⟩
  ·unfold nos at h
   rw[List.getElem?_append_right (by rw[hl];omega),List.getElem?_replicate] at h
   split at h
   ·cases h;exact .inr rfl
   ·cases h
 have hs: ∀(j:Nat) (v:V),j<n->σ'[j]? =some (some v)->(m++List.replicate nl none)[j]? =some (some v):=fun j v hj e=>by
  rw[List.getElem?_append_left (by rw[hm];exact hj),<- hσ,List.getElem?_take_of_lt hj]
  exact e
 refine⟨?_,fun j d e=> ?_,fun j d e=> ?_,fun j a e=> ?_,fun j k a e1 e2=>S.inj j k a (hle j a e1) (hle k a e2),fun j a e=>S.old j a (hle j a e),S.zin,S.frm,⟨S.par.1,fun j _=>rfl⟩,S.pin,fun p hp=>(S.kep p hp).mono hN hN⟩
 ·simp[hm,nos,List.length_take]
  omega
 ·rcases hg j _ e with⟨hj,e⟩|e
  ·obtain⟨v,e1,r⟩:=S.va j d e
   exact⟨v,hs j v hj e1,r.mono hN hN⟩
  ·cases e
 ·rcases hg j _ e with⟨hj,e⟩|e
  ·obtain⟨a,e1,e2,w⟩:=S.ow j d e
   exact⟨a,(hO j hj)▸e1,hs j _ hj e2,w.mono hN⟩
  ·cases e
 ·have hj:=List.mem_range.mp (S.par.1 j a e)
  obtain⟨d,q⟩:=S.dom j a (hle j a e)
  refine⟨d,?_⟩
  rw[List.getElem?_append_left (by rw[List.length_take];omega),List.getElem?_take_of_lt hj]
  exact q
theorem zD8(ix:List Nat)(σ:St):(caps ix σ).length=ix.length:=by simp[caps]
theorem zJJ{σ':St}(hl:ix.length<=σ'.length)(h: ∀i∈List.range ix.length,σ'[i]? =(caps ix σ++List.replicate nl none)[i]?):σ'.take ix.length=caps ix σ:=by
 refine List.ext_getElem? fun j=> ?_
 by_cases hj:j<ix.length
 ·rw[List.getElem?_take_of_lt hj,h j (List.mem_range.mpr hj),List.getElem?_append_left (by rw[zD8];exact hj)]
 ·rw[List.getElem?_eq_none (by rw[List.length_take];omega),List.getElem?_eq_none (by rw[zD8];omega)]
theorem zO6{fi:VI}{gg:VG}{tb:VB}{fe:VF}(hnd:ix.Nodup){Q:VK}(h:TN K ml (pi && pt && pe) (zCM ix nl fi gg tb fe) σ H Q):
  zRL ix nl (TIV K ml pi fi) (TGV K (List.range ix.length) gg) (TB K (List.range ix.length) pt tb) (TV K (List.range ix.length) pe true true fe) σ H Q:=by
 obtain⟨B,O,δ,d,δ2,S,q,k⟩:=h
 unfold zCM at q
 cases h1:fi δ with
 | none => rw [h1] at q;cases q
 |some p=>
  obtain⟨ds,δ1⟩:=p
  rw[h1] at q
  have q : ((zBS ix.length nl gg tb fe ds [] (zAZ ix δ1)).map fun q => (Dat.lst q.1,zD3 ix q.2 δ1)) = some (d,δ2) := q
  cases h2:zBS ix.length nl gg tb fe ds [] (zAZ ix δ1) with
  | none => rw [h2] at q;cases q
  |some z=>
   obtain⟨res,δf⟩:=z
   rw[h2] at q
   cases q
   refine⟨B,O,δ,ds,δ1,S,h1,fun J kps H0 S0 f0 p0 wk D hD=> ?_⟩
   have hDO : ∀ j,Oc ix O j ≠ some D := fun j e => by
    unfold Oc at e
    cases hi:ix[j]? with
    | none => rw [hi] at e;cases e
    |some i=>
     rw[hi] at e
     obtain⟨o,q⟩:=S0.nin (.inr ⟨i,e⟩)
     rw[hD] at q
     cases q
   have du : ∀ kp j,ix.length <= j -> (Bc ix B O H0 D kp).mu j = none := fun kp j hj => by
    show(ix[j]?).bind O=none
    rw[List.getElem?_eq_none hj]
    rfl
   refine⟨fun i m acc H1=>m=ds.length - i/\i<=ds.length/\ ∃(ai:List Dat) (δc:Ev),δc.length=ix.length/\acc.length=ai.length∧
     Sta K (List.range ix.length) (Bc ix B O H0 D (kps++acc.zip ai)) (Oc ix O) H1 (caps ix σ++List.replicate nl none) (δc++nos nl)/\H1 D=some (.lst acc)/\((pt && pe)=true->Same H0 H1)∧
     zBS ix.length nl gg tb fe (ds.drop i) ai δc=some (res,δf),
    ⟨ds.length,rfl,Nat.zero_le _,[],zAZ ix δ1,by simp [zAZ],rfl,by
     rw[List.zip_nil_left,List.append_nil]
     exact S0.unkeep.inner hD hnd fun p hp=>S0.kep p (List.mem_append_left _ hp),zAK,fun _=>zA4 hD,h2⟩,?_⟩
   rintro i m acc H1 ⟨rfl,hi,ai,δc,hlc,aq,S1,hD1,c7,hc⟩
   have w := wk (Nn (Bc ix B O H0 D (kps ++ acc.zip ai)) (Oc ix O)) H1 fun p hp => S1.kep p (List.mem_append_left _ hp)
   by_cases hlt:i<ds.length
   ·obtain ⟨go,yl⟩ := w.1 i ds[i] (by simp [hlt])
    rw[List.drop_eq_getElem_cons hlt] at hc
    simp only[zBS] at hc
    cases g1:gg ds[i] (δc++nos nl) with
    | none => rw [g1] at hc;cases hc
    |some δ3=>
     rw[g1] at hc
     simp only[Option.bind_some] at hc
     cases g2:tb δ3 with
     | none => rw [g2] at hc;cases hc
     |some z=>
      obtain⟨kk,δ4⟩:=z
      rw[g2] at hc
      simp only[Option.bind_some] at hc
      refine .inr ⟨go,fun ar H'=> ∃(ai:List Dat) (δc:Ev),δc.length=ix.length/\ar.length=ai.length∧
       Sta K (List.range ix.length) (Bc ix B O H0 D (kps++ar.zip ai)) (Oc ix O) H' (caps ix σ++List.replicate nl none) (δc++nos nl)/\H' D=some (.lst ar)/\((pt && pe)=true->Same H0 H')∧
       zBS ix.length nl gg tb fe (ds.drop (i + 1)) ai δc = some (res,δf),fun ar H' w' => ⟨ds.length - (i + 1),by omega,rfl,hlt,w'⟩,fun x H2 hy => ?_⟩
      obtain⟨sm,rx⟩:=yl x H2 hy
      refine⟨_,_,_,ds[i],δ3,S1.same sm,rx,g1,fun σ3 O3 S3 m3=> ?_⟩
      have ln3:ix.length<=σ3.length:=by
       by_cases hz:ix.length=0
       ·omega
       ·have hj : ix.length - 1 < ix.length := by omega
        have:=m3 (ix.length - 1) (List.mem_range.mpr hj)
        have hs:(caps ix σ++List.replicate nl none)[ix.length - 1]? ≠none:=by
         rw [List.getElem?_append_left (by rw [zD8];exact hj)]
         simp[caps,hj]
        rw[<- this] at hs
        have ny:ix.length - 1<σ3.length:=Nat.lt_of_not_le fun z=>hs (List.getElem?_eq_none_iff.mpr z)
        omega
      have hσ3:=zJJ ln3 m3
      refine⟨hσ3,_,_,δ3,kk,δ4,S3,g2,fun H4 R4=> ?_⟩
      have hD4 : H4 D = some (.lst acc) := R4.frm _ _ (sm _ _ hD1) fun z => by
       obtain⟨j,e⟩:=z
       have:=(R4.sta.old j D e).1
       exact absurd (.inl (.inr rfl)) this
      have ln4 : ix.length <= δ4.length := by rw [<- R4.sta.len];exact ln3
      cases kk with
      |false=>
       rw[if_neg Bool.false_ne_true] at hc
       refine iteF ⟨ai,δ4.take ix.length,by rw[List.length_take];omega,aq,R4.sta.turn (du _) (zD8 ix σ) hσ3 ln4,hD4,fun z=> ?_,hc⟩
       exact((c7 z).trans sm).trans (R4.pur ((Bool.and_eq_true _ _).mp z).1)
      |true=>
       rw[if_pos rfl] at hc
       cases g3:fe δ4 with
       | none => rw [g3] at hc;cases hc
       |some z=>
        obtain⟨dv,δ5⟩:=z
        rw[g3] at hc
        simp only[Option.bind_some] at hc
        split at hc
        ·rename_i hz
         refine iteT ⟨_,_,δ4,dv,δ5,R4.sta,g3,fun v H5 R5=> ?_⟩
         have hD5:H5 D=some (.lst acc):=R5.frm _ _ hD4 fun z=>by
          obtain⟨j,e⟩:=z
          have:=(R5.sta.old j D e).1
          exact absurd (.inl (.inr rfl)) this
         have ln5:ix.length<=δ5.length:=by rw[<- R5.sta.len];exact ln3
         have S6:=R5.sta.turn (nl:=nl) (du _) (zD8 ix σ) hσ3 ln5
         have hv:Rep K (Nn (Bc ix B O H0 D (kps++acc.zip ai)) (Oc ix O)) H5 (Nn (Bc ix B O H0 D (kps++acc.zip ai)) (Oc ix O)) v dv:=by
          have hN: ∀a,Nn (Bc ix B O H0 D (kps++acc.zip ai)) (Oc ix O) a->av (Bc ix B O H0 D (kps++acc.zip ai)) O3 true a:=fun a h=>by
           rcases h with h|⟨j,h⟩
           ·exact .inl h
           ·refine .inr ⟨j,?_⟩
            have hj:j∈List.range ix.length:=R5.sta.par.1 j a h
            rw[R5.sta.par.2 j hj]
            exact h
          exact R5.rep.mono hN hN
         have S7:=S6.withKp (kp:=kps++(acc++[v]).zip (ai++[dv])) fun p hp=>by
          rw[List.zip_append aq,<- List.append_assoc] at hp
          rcases List.mem_append.mp hp with z|z
          ·exact S6.kep p z
          ·rw[List.mem_singleton.mp (show p∈[(v,dv)] from z)]
           exact hv
         refine⟨hD5,by rw[aq,sizeLine_eq];exact hz,ai++[dv],δ5.take ix.length,by rw[List.length_take];omega,by simp[aq],?_,zAK,fun z=> ?_,hc⟩
         ·exact S7.writeZ (.inl (.inr rfl)) hD5 hD
         ·intro b o e
          have hb:b≠D:=fun z=>by rw[z,hD] at e;cases e
          rw[zB3 hb]
          obtain⟨z1,z2⟩:=(Bool.and_eq_true _ _).mp z
          exact(((c7 z).trans sm).trans ((R4.pur z1).trans (R5.pur z2))) b o e
        ·cases hc
   ·have e : i = ds.length := by omega
    subst e
    rw[List.drop_length] at hc
    cases hc
    refine .inl ⟨w.2,k D H1 ?_⟩
    have fP:Fr (OA (Oc ix O)) H0 H1:=S1.frm
    have hPO: ∀a,OA (Oc ix O) a->OA O a:=fun a q0=>by
     obtain⟨j,e⟩:=q0
     unfold Oc at e
     cases hi:ix[j]? with
     | none => rw [hi] at e;cases e
     | some i => rw [hi] at e;exact ⟨i,e⟩
    have SL:=S0.unkeep.laid (o:= .lst acc) hD
    have fL:Fr (OA (Oc ix O)) (upd H0 D (.lst acc)) H1:=fun b o e n=>by
     by_cases hb:b=D
     ·subst hb
      rw[zAK] at e
      cases e
      exact hD1
     ·rw[zB3 hb] at e
      exact fP b o e n
    refine⟨SL.call (zE6) (fun i=> ?_) fL hPO,f0.trans (fP.mono hPO),fun z=> ?_,.lst hD1 (zFN aq fun p hp=>(S1.kep p (List.mem_append_right _ hp)).mono zI0 zI0),S0.unkeep.new hD,S0.fresh hD⟩
    ·by_cases dw:i<δ1.length
     ·rcases zE7 (ix:=ix) (ss:=δf) (δ:=δ1) i dw hlc.symm with⟨j,x,e1,e2,e3⟩|⟨e1,e2⟩
      ·have e4:(δf++nos nl)[j]? =some (.ow x):=by
        rw[List.getElem?_append_left (List.getElem?_eq_some_iff.mp e2).1]
        exact e2
       obtain⟨a,e5,_,w⟩:=S1.ow j x e4
       refine .inr ⟨a,x,?_,e3,w.mono zI0⟩
       unfold Oc at e5
       rw[e1] at e5
       exact e5
      ·refine .inl ⟨e2,fun a ea ⟨j,ej⟩ => ?_⟩
       obtain⟨x,ex⟩:=S1.dom j a ej
       unfold Oc at ej
       cases hi:ix[j]? with
       |none=>rw[hi] at ej;cases ej
       |some i'=>
        rw[hi] at ej
        have:i=i':=S0.inj i i' a ea ej
        subst this
        have hj:j<δf.length:=by rw[hlc];exact(List.getElem?_eq_some_iff.mp hi).1
        rw[List.getElem?_append_left hj] at ex
        exact e1 j x hi ex
     ·refine .inl ⟨?_,fun a ea => ?_⟩
      ·rw [List.getElem?_eq_none (by rw [zE6];omega),List.getElem?_eq_none (by omega)]
      ·obtain⟨x,ex⟩:=S0.dom i a ea
       exact absurd (List.getElem?_eq_some_iff.mp ex).1 dw
    ·simp only[Bool.and_eq_true] at z
     exact(p0 z.1.1).trans (c7 (by simp[z.1.2,z.2]))
theorem zWJ{Q:Bool->Hp->Prop}(h:TB K ml true bYes σ H Q):tYes σ H Q:=by
 obtain⟨B,O,δ,k,δ',S,q,w⟩:=h
 cases q
 exact w H (ResB.refl S)
theorem zLX{Y:Cx}{t:VB}(h:PT Y c (TB K ml pt t)):PTs Y [c] (TB K ml pt t):=zUV h
theorem zEG{Y:Cx}:PTs Y [] (TB K ml true bYes):=fun a6 s σ H Q I hw=>zUW a6 s σ H Q I (zWJ hw)
theorem zWG{Q:VK}{o:Bool}(h:TX K ml (if o then xO f else xV f) σ H Q):TN K ml pu f σ H Q:=by
 obtain⟨B,O,δ,s,δ',S,q,k⟩:=h
 have e: ∃d,f δ=some (d,δ')/\s=if o then .ow d else .va d:=by
  cases o with
  |true=>
   have q:(f δ).map (fun p=>(Sl.ow p.1,p.2))=some (s,δ'):=q
   cases h1:f δ with
   |none=>rw[h1] at q;cases q
   |some p=>rw[h1] at q;cases q;exact⟨p.1,rfl,rfl⟩
  |false=>
   have q:(f δ).map (fun p=>(Sl.va p.1,p.2))=some (s,δ'):=q
   cases h1:f δ with
   |none=>rw[h1] at q;cases q
   |some p=>rw[h1] at q;cases q;exact⟨p.1,rfl,rfl⟩
 obtain⟨d,h1,hs⟩:=e
 refine⟨B,O,δ,d,δ',S,h1,fun p H' R=> ?_⟩
 cases o with
 |true=>
  cases hs
  have w:=R.own
  cases w with
  |lst q1 r=>exact k _ H' _ (R.sta.keepV (zFI r)) (.ol q1 r.length R.nz R.h0) R.frm
  |dct q1 r=>exact k _ H' _ (R.sta.keepV (zFI r)) (.od q1 (by simpa using r.length) R.nz R.h0) R.frm
 |false=>
  cases hs
  exact k _ H' _ (R.sta.unadd.keepV (ps:=[(.ref p,d)]) fun z hz=>by
   rw[List.mem_singleton.mp hz]
   exact(R.own.mono zH4).rep R.nz) .va R.frm
theorem zT0{i:Nat}{x:VX}{te:TE}(hte: ∀σ H Q,TX K ml x σ H Q->te σ H Q)(hm:i∉ml){D:Ends}(h:TSt K ml (sSet i x) D σ H):tAsg te (zSQ i) D σ H:=by
 obtain⟨B,O,δ,o,S,q,k⟩:=h
 unfold sSet at q
 cases h1:x δ with
 | none => rw [h1] at q;cases q
 |some p=>
  obtain⟨s,δ1⟩:=p
  rw[h1] at q
  have q:(if i<δ1.length then some (Ou.nx (δ1.set i s)) else none)=some o:=q
  split at q
  ·rename_i hl
   cases q
   refine hte _ _ _ ⟨B,O,δ,s,δ1,S,h1,fun v H' B' S' h' f'=> ?_⟩
   obtain⟨O'',S''⟩:=h'.bind S' hm hl
   exact k _ _ _ S''
  ·cases q
end
abbrev DefV(P:Program)(w:World)(K:W.Frag)(mg:Str->Option Value)(base:Heap)(x:Str)(k:Nat)(ps:List Str)(mF:List Nat)(F:VFun)(f:Addr):Prop:=Def P w K mg base x k ps (spV K mF ps.length F) f
section
variable{X:Cx}{K:W.Frag}{ml:List Nat}{e a b c:Expr}{es:List Expr}{pa ta ia pb tb ib pc tc ic pu bt bi ps bs:Bool}{fa fb fc f:VF}{B B':Bs}{O:Nat->Option Addr}{H H0 H1 H':Hp}{σ:St}{δ δ':Ev}{v:V}{d:Dat}{p:Addr}{pos:Pos}
theorem zBE{x:Str}(hg:Gl X x)(h: ∃u v,X.mg x=some u/\RelV v u/\ ∀N H M,Rep K N H M v d)(hd:(x==("__debug__":Str))=false:=by decide):PE X (.Name x pos) (TV K ml true true true (fC d)):=by
 obtain⟨u,v,h1,h2,h3⟩:=h
 exact ve_c (zV6 hg h1 h2 hd) h3
def zXL(K:W.Frag):R2:=fun x y H Q=> ∃a b xs ys,x= .ref a/\y= .ref b/\SqT K H a xs/\SqT K H b ys/\xs.length+ys.length<=sizeLine∧
 (xs=[]->Q (.ref b) H)/\(xs≠[]->ys=[]->Q (.ref a) H)/\(xs≠[]->ys≠[]-> ∀p,H p=none->Q (.ref p) (upd H p (.tup (xs++ys))))
theorem zVC:OpR X (binaryOp .Add) (zXL X.K):=by
 intro a6 s σ H x y v u Q I rx ry h
 obtain⟨a,b,xs,ys,rfl,rfl,ha,hb,hz,q0,q1,q2⟩:=h
 cases rx
 cases ry
 obtain⟨its,r1,p1,_⟩:=I.tuple ha
 obtain⟨dn,r2,p2,_⟩:=I.tuple hb
 by_cases hx:xs=[]
 ·subst hx
  have e0:its=[]:=r1.nil_iff.mpr rfl
  subst e0
  obtain⟨⟨cls,dd,data,sl⟩,ho,hc,n,hd⟩:=id p1
  obtain⟨⟨lz,dd2,data2,sl2⟩,ho2,hc2,n2,hd2⟩:=id p2
  simp only at hc hd hc2 hd2
  subst hc hd hc2 hd2
  exact concat_meets ⟨_,ho,rfl⟩ ⟨_,ho2,rfl⟩ noFill_tuple_add seq_tuple_add PySem.F.slot_tuple_add PySem.F.entry_tuple_add (PySem.F.args_tuple_add_2 _ _)
   (tuple_addW0 a b _ dn.toArray n n2 dd dd2 sl sl2 (by simp)) ⟨ho,ho2,⟨.ref b,H,I,rfl,q0 rfl⟩⟩
 ·refine HT.zW3 p1 p2 (fun z => hx (r1.nil_iff.mp z)) (fun z => ⟨.ref a,H,I,rfl,q1 hx (r2.nil_iff.mp z)⟩) (fun z => ?_) (by rw [<- r1.length,<- r2.length];exact hz)
  refine⟨.ref s.heap.objs.size,_,I.laid (t':=s.toks) (o:= .tup (xs++ys)) (fun b ob q=>Heap.get?_push_of_some _ q) (Nat.le_refl _) ?_,rfl,q2 hx (fun w=>z (r2.nil_iff.mpr w)) _ (I.hok.fresh (Nat.le_refl _))⟩
  exact⟨by rw[List.length_append];exact hz,_,r1.append r2,IsTup.new _ _⟩
def zXK(K:W.Frag):R2:=fun x y H Q=> ∃l b xs zs,x= .ref l/\y= .ref b/\SqL K H l xs/\SqL K H b zs/\xs.length+zs.length<=sizeLine/\ ∀p,H p=none->Q (.ref p) (upd H p (.lst (xs++zs)))
theorem zVB:OpR X (binaryOp .Add) (zXK X.K):=by
 intro a6 s σ H x y v u Q I rx ry h
 obtain⟨l,b,xs,zs,rfl,rfl,hH,hB,hz,q⟩:=h
 cases rx
 cases ry
 obtain⟨its,r,p1,_⟩:=I.list hH
 obtain⟨dn,r2,p2,_⟩:=I.list hB
 obtain⟨⟨cls,dd,data,sl⟩,n,ho,hc,_,hd⟩:=id p1
 obtain⟨⟨lz,dd2,data2,sl2⟩,n2,ho2,hc2,_,hd2⟩:=id p2
 simp only at hc hd hc2 hd2
 subst hc hd hc2 hd2
 have ea:its.toArray++dn.toArray=(its++dn).toArray:=by simp
 have hl:=r.length
 have hl2:=r2.length
 refine concat_meets ⟨_,ho,rfl⟩ ⟨_,ho2,rfl⟩ noFill_list_add seq_list_add PySem.F.slot_list_add PySem.F.entry_list_add (PySem.F.args_list_add_2 _ _) (list_addW l b its.toArray dn.toArray n n2 dd dd2 sl sl2 (by rw[List.size_toArray,List.size_toArray,<- hl,<- hl2];exact hz)) ⟨ho,ho2,?_⟩
 rw[ea]
 exact⟨.ref _,_,I.lnew (t':=s.toks) (r.append r2) (by rw[List.length_append];omega),rfl,q _ I.fresh⟩
def zXJ(K:W.Frag):R2:=fun x y H Q=>((rI0 (fun i j=> .int (i+j)) x y H Q∨zXL K x y H Q)∨zXK K x y H Q)∨ ∃i j,x= .str i/\y= .str j/\i.length+j.length<=sizeLine/\Q (.str (i++j)) H
theorem zDZ(h:X.K=K):OpR X (binaryOp .Add) (zXJ K):=by subst h;exact((zYG.or zVC).or zVB).or zNJ
noncomputable def zCQ:Dat->Dat->Option Dat
 | .int i,.int j=>some (.int (i+j))
 | .tup ds,.tup es=>if ds.length+es.length<=16777216 then some (.tup (ds++es)) else none
 | .lst ds,.lst es=>if ds.length+es.length<=16777216 then some (.lst (ds++es)) else none
 | .str x,.str y=>if x.length+y.length<=16777216 then some (.str (x++y)) else none
 |_,_=>none
theorem Rep.tupE{N M:Addr->Prop}{ds:List Dat}(h:Rep K N H M v (.tup ds)): ∃a xs,v= .ref a/\SqT K H a xs/\RepA K N H xs ds:=by
 cases h with
 |tup q r=>exact⟨_,_,rfl,q,r⟩
theorem Rep.lstE{N M:Addr->Prop}{ds:List Dat}(h:Rep K N H M v (.lst ds)): ∃a xs,v= .ref a/\SqL K H a xs/\RepA K N H xs ds:=by
 cases h with
 |lst q n r=>exact⟨_,_,rfl,SqL.of q,r⟩
 |fzl q r=>exact⟨_,_,rfl,q.sq,r⟩
theorem zCF:OpC K (zXJ K) zCQ:=by
 intro H N M M' x y d e c Q hx hy h k
 cases d with
 |int i=>
  cases e with
  |int j=>
   cases h
   cases hx
   cases hy
   exact .inl (.inl (.inl ⟨_,_,rfl,rfl,k _ _ (Same.refl _) fun _ _=> .int _⟩))
  | _ => cases h
 |str i=>
  cases e with
  |str j=>
   simp only[zCQ] at h
   split at h
   ·cases h
    cases hx
    cases hy
    exact .inr ⟨_,_,rfl,rfl,by rw[sizeLine_eq];assumption,k _ _ (Same.refl _) fun _ _=> .str _⟩
   ·cases h
  | _ => cases h
 |tup ds=>
  cases e with
  |tup es=>
   simp only[zCQ] at h
   split at h
   ·rename_i hz
    cases h
    obtain⟨a,xs,rfl,q1,r1⟩:=hx.tupE
    obtain⟨b,ys,rfl,q2,r2⟩:=hy.tupE
    refine .inl (.inl (.inr ⟨a,b,xs,ys,rfl,rfl,q1,q2,by rw[r1.length,r2.length,sizeLine_eq];exact hz,fun z=> ?_,fun z1 z2=> ?_,fun z1 z2 p hp=> ?_⟩))
    ·subst z
     have:ds=[]:=List.length_eq_zero_iff.mp r1.length.symm
     subst this
     exact k _ _ (Same.refl _) fun M hM=> .tup q2 r2
    ·subst z2
     have:es=[]:=List.length_eq_zero_iff.mp r2.length.symm
     subst this
     rw[List.append_nil] at k
     exact k _ _ (Same.refl _) fun M hM=> .tup q1 r1
    ·exact k _ _ (zA4 hp) fun M hM => .tup (SqT.of zAK) ((r1.append r2).same (zA4 hp))
   ·cases h
  | _ => cases h
 |lst ds=>
  cases e with
  |lst es=>
   simp only[zCQ] at h
   split at h
   ·rename_i hz
    cases h
    obtain⟨a,xs,rfl,q1,r1⟩:=hx.lstE
    obtain⟨b,ys,rfl,q2,r2⟩:=hy.lstE
    exact .inl (.inr ⟨a,b,xs,ys,rfl,rfl,q1,q2,by rw[r1.length,r2.length,sizeLine_eq];exact hz,fun p hp=>k _ _ (zA4 hp) fun M hM=> .lst zAK (fun z=>by
     obtain⟨o,q⟩:=hM _ z
     rw[hp] at q
     cases q) ((r1.append r2).same (zA4 hp))⟩)
   ·cases h
  |_=>cases h
 |_=>cases h
def zTC:W.Frag->R2:=fun _=>rI CMul fun i j=> .int (i*j)
theorem zK5(h:X.K=K):OpR X (binaryOp .Mult) (zTC K):=zYC
noncomputable abbrev zHY:=oMul
theorem zHL:OpC K (zTC K) zHY:=by
 intro H N M M' x y d e c Q hx hy h k
 exact yBO H N N M M' x y d e c Q hx hy h fun v hv=>k v H (Same.refl _) fun M _=>hv _ _ _
noncomputable def keyD:Dat->Option Key
 | .int i=>some (.inl i)
 | .str x=>some (.inr x)
 |_=>none
theorem Rep.key{N M:Addr->Prop}{k:Key}(h:Rep K N H M v d)(e:keyD d=some k):v=kV k:=by
 cases h<;>first
  |(cases e;rfl)
  |cases e
noncomputable def zB6(ks:List Key)(ds:List Dat)(k:Key):Option Dat:=match ks,ds with
 |k'::ks,d::ds=>if k'=k then some d else zB6 ks ds k
 |_,_=>none
theorem zGT{N:Addr->Prop}{k:Key}: ∀{kvs:List (Key×V)} {ds:List Dat},RepA K N H (kvs.map Prod.snd) ds→
  (∃v d,valV kvs k=some v/\zB6 (kvs.map Prod.fst) ds k=some d/\Rep K N H N v d)∨(valV kvs k=none/\zB6 (kvs.map Prod.fst) ds k=none)
 | [],_,.nil => .inr ⟨rfl,rfl⟩
 | (k',v) :: kvs,_,.cons h t => by
  by_cases hk:k'=k
  ·refine .inl ⟨v,_,zGP (p:=(k',v)) hk,?_,h⟩
   simp[zB6,hk]
  ·rcases zGT (k:=k) t with⟨v',d',h1,h2,h3⟩|⟨h1,h2⟩
   ·exact .inl ⟨v',d',(zF1 (p:=(k',v)) hk).trans h1,by simpa[zB6,hk] using h2,h3⟩
   ·exact .inr ⟨(zF1 (p:=(k',v)) hk).trans h1,by simpa[zB6,hk] using h2⟩
theorem yDP(hu:X.A.units+1<cLine):IxR X (fun x y H Q=> ∃a v,x= .ref a/\DGet H a y (some v)/\Q v H):=by
 intro value slice a6 s σ H x y v u Q I rx ry h hs
 obtain⟨a,w,rfl,g,q⟩:=h
 cases rx
 exact tail_any (zLG I g) PySem.F.slot_dict_getitem.lookup (zQM hu I g ry fun w' s3 I3 rw'=>⟨w,H,I3,rw',q⟩) hs
def rIxA(K:W.Frag):R2:=fun x y H Q=>(rIx K x y H Q∨ ∃a v,x= .ref a/\DGet H a y (some v)/\Q v H)∨ ∃a k D v,x= .ref a/\y= .str k/\KTab K a D/\KTD.datumAt k D=some v/\Q v H
theorem kIxA(h:X.K=K)(hu:X.A.units+1<cLine):IxR X (rIxA K):=by subst h;exact(yA4.or (yDP hu)).or zVS
noncomputable def oIxA:Dat->Dat->Option Dat
 | .tup ds,.int i=>atI ds i
 | .lst ds,.int i=>atI ds i
 | .dct ks ds,e=>(keyD e).bind (zB6 ks ds)
 | .str z,.int i=>if z.length<=16777216 then(atI z.cps.toList i).map fun c=> .str ⟨#[c]⟩ else none
 |_,_=>none
theorem zHG{N:Addr->Prop}{k:Str}: ∀{D:List (Str×V)} {ds:List Dat},RepA K N H (D.map Prod.snd) ds→
  (∃ v d,KTD.datumAt k D = some v /\ zB6 (D.map fun p => .inr p.1) ds (.inr k) = some d /\ Rep K N H N v d) ∨ (KTD.datumAt k D = none /\ zB6 (D.map fun p => .inr p.1) ds (.inr k) = none)
 | [],_,.nil => .inr ⟨rfl,rfl⟩
 | (k',v) :: D,_,.cons h t => by
  by_cases hk:k'=k
  ·subst hk
   exact .inl ⟨v,_,by simp[KTD.datumAt],by simp[zB6],h⟩
  ·have hk2 : ¬ k = k' := fun z => hk z.symm
   rcases zHG (k:=k) t with⟨v',d',h1,h2,h3⟩|⟨h1,h2⟩
   ·exact .inl ⟨v',d',by simpa[KTD.datumAt,hk,hk2] using h1,by simpa[zB6,hk] using h2,h3⟩
   ·exact .inr ⟨by simpa[KTD.datumAt,hk,hk2] using h1,by simpa[zB6,hk] using h2⟩
theorem zMO{i:Int}: ∀{D:List (Str×V)} {ds:List Dat},zB6 (D.map fun p=> .inr p.1) ds (.inl i)=none
 |[],_=>by simp[zB6]
 |_::_,[]=>by simp[zB6]
 |p::D,d::ds=>by simpa[zB6] using zMO (D:=D) (ds:=ds)
theorem yDS:OpI K (rIxA K) oIxA:=by
 intro H N N' M M' x y d e c Q hx hy h k
 have seq : ∀ ds i,seqD d = some ds -> e = .int i -> atI ds i = some c -> rIxA K x y H Q := fun ds i h1 h2 h3 => by
  subst h2
  cases hy
  obtain⟨a,xs,rfl,sq,r⟩:=hx.seq h1
  obtain⟨v,hv,rv⟩:=zW8 r h3
  rcases sq with sq|sq
  ·exact .inl (.inl (.inl ⟨a,xs,i,v,rfl,rfl,sq,hv,k v rv⟩))
  ·exact .inl (.inl (.inr (.inl ⟨a,xs,i,v,rfl,rfl,sq,hv,k v rv⟩)))
 cases d with
 |tup ds=>
  cases e with
  | int i => exact seq ds i rfl rfl h
  | _ => cases h
 |lst ds=>
  cases e with
  | int i => exact seq ds i rfl rfl h
  | _ => cases h
 |str z=>
  cases e with
  |int i=>
   simp only[oIxA] at h
   split at h
   ·cases hc:atI z.cps.toList i with
    | none => rw [hc] at h;cases h
    |some ch=>
     rw[hc] at h
     cases h
     cases hx
     cases hy
     exact .inl (.inl (.inr (.inr ⟨z,i,ch,rfl,rfl,by rw[sizeLine_eq];assumption,hc,k _ (.str _)⟩)))
   ·cases h
  | _ => cases h
 |dct ks ds=>
  simp only[oIxA] at h
  cases hk:keyD e with
  | none => rw [hk] at h;cases h
  |some kk=>
   rw[hk] at h
   have h:zB6 ks ds kk=some c:=h
   have ey:=hy.key hk
   subst ey
   cases hx with
   |dct q n r=>
    rcases zGT (k:=kk) r with⟨v,d',h1,h2,h3⟩|⟨h1,h2⟩
    ·rw[h] at h2
     cases h2
     exact .inl (.inr ⟨_,v,rfl,h1▸DGet.k q,k v h3⟩)
    ·rw[h] at h2;cases h2
   |ktb T r=>
    cases kk with
    | inl i => rw [zMO] at h;cases h
    |inr x=>
     rcases zHG (k:=x) r with⟨v,d',h1,h2,h3⟩|⟨h1,h2⟩
     ·rw[h] at h2
      cases h2
      exact .inr ⟨_,x,_,v,rfl,rfl,T,h1,k v h3⟩
     ·rw[h] at h2;cases h2
 |_=>cases h
noncomputable def ownD(δ:Ev)(i:Nat):Option (List Key×List Dat):=match δ[i]? with
 |some (.ow (.dct ks ds))=>some (ks,ds)
 |_=>none
theorem zF5{i:Nat}{ks:List Key}{ds:List Dat}(h:ownD δ i=some (ks,ds)):δ[i]? =some (.ow (.dct ks ds)):=by
 unfold ownD at h
 split at h
 ·cases h;assumption
 ·cases h
noncomputable def zMZ(i:Nat)(fk fx:VF):VF:=fun δ=>(ownD δ i).bind fun _=>(fk δ).bind fun p=>(fx p.2).bind fun q=>(keyD p.1).bind fun k=>(ownD q.2 i).map fun z=>((zB6 z.1 z.2 k).getD q.1,q.2)
theorem zRA{i:Nat}{fk fx:VF}{aj a8:Pos}(hu:X.A.units+1<cLine)(ho:PE X a (tVar i))(hk:PE X b (TV K ml pa ta ia fk))(hx:PE X c (TV K ml pb true true fx))(m:M2 X a "get" aj b c a8):
  PE X (.Call (.Attribute a "get" aj) [b,c] [] a8) (TV K ml (pa && pb) true true (zMZ i fk fx)) := (zS7 hu ho hk hx m).imp fun σ H Q ⟨B,O,δ,d,δ3,S,q,k⟩ => by
 unfold zMZ at q
 cases h0:ownD δ i with
 | none => rw [h0] at q;cases q
 |some z0=>
  obtain⟨ks0,ds0⟩:=z0
  rw[h0] at q
  cases h1:fk δ with
  | none => simp [h1] at q
  |some p1=>
   obtain⟨y,δ1⟩:=p1
   simp only[Option.bind_some,h1] at q
   cases h2:fx δ1 with
   | none => simp [h2] at q
   |some p2=>
    obtain⟨z,δ2⟩:=p2
    simp only[Option.bind_some,h2] at q
    cases h3:keyD y with
    | none => simp [h3] at q
    |some kk=>
     simp only[Option.bind_some,h3] at q
     cases h4:ownD δ2 i with
     | none => simp [h4] at q
     |some zz=>
      obtain⟨ks,ds⟩:=zz
      simp only[h4] at q
      cases q
      obtain⟨l,e1,e2,w⟩:=S.ow i _ (zF5 h0)
      refine⟨.ref l,e2,l,rfl,?_,B,O,δ,y,δ1,S,h1,fun v1 H1 R1=>⟨B,O,δ1,z,_,R1.sta,h2,fun v2 H2 R2=> ?_⟩⟩
      ·generalize hw:Dat.dct ks0 ds0=dd at w
       cases w with
       |lst _ _=>cases hw
       |dct q _=>exact .inl ⟨_,.inl q⟩
      ·have ey:=R1.rep.key h3
       subst ey
       obtain⟨l',e3,_,w2⟩:=R2.sta.ow i _ (zF5 h4)
       rw[e1] at e3
       cases e3
       have fin: ∀o,Rep K (Nn B O) H2 (Nn B O) (o:V) ((zB6 ks ds kk).getD z)->Q o H2:=fun o ho=>k o H2 ⟨R2.sta,R1.frm.trans R2.frm,fun z=>by
        obtain⟨z1,z2⟩:=(Bool.and_eq_true _ _).mp z
        exact(R1.pur z1).trans (R2.pur z2),ho⟩
       generalize hw:Dat.dct ks ds=dd at w2
       cases w2 with
       |lst _ _=>cases hw
       |dct q r=>
        cases hw
        refine⟨_,DGet.k q,fin _ ?_⟩
        rcases zGT (k:=kk) r with⟨v,d',g1,g2,g3⟩|⟨g1,g2⟩
        ·rw[g1,g2];exact g3
        ·rw[g1,g2];exact R2.rep
noncomputable def zDO:List Key->List Dat->Key->Dat->List Key×List Dat
 |k'::ks,d::ds,k,v=>if k'=k then(k'::ks,v::ds) else let r:=zDO ks ds k v;(k'::r.1,d::r.2)
 |_,_,k,v=>([k],[v])
noncomputable def zOS(i:Nat)(fk fv:VF):VS:=fun δ=>(fv δ).bind fun p=>(ownD p.2 i).bind fun _=>(fk p.2).bind fun q=>(keyD q.1).bind fun k=>(ownD q.2 i).bind fun z=>if z.1.length<16777216/\z.1.Nodup then some (.nx (q.2.set i (.ow (let r:=zDO z.1 z.2 k p.1;.dct r.1 r.2)))) else none
theorem zJW{N:Addr->Prop}{k:Key}{v:V}(h:Rep K N H N v d): ∀{kvs:List (Key×V)} {ds:List Dat},(kvs.map Prod.fst).Nodup->RepA K N H (kvs.map Prod.snd) ds→
  (putK kvs k v).map Prod.fst=(zDO (kvs.map Prod.fst) ds k d).1/\RepA K N H ((putK kvs k v).map Prod.snd) (zDO (kvs.map Prod.fst) ds k d).2
 | [],_,_,.nil => ⟨rfl,.cons h .nil⟩
 | (k',u) :: kvs,_,nd,.cons hu t => by
  obtain⟨n1,n2⟩:=List.nodup_cons.mp nd
  by_cases hk:k'=k
  ·subst hk
   have e:putK ((k',u)::kvs) k' v=(k',v)::kvs:=by
    unfold putK
    rw[if_pos (by simp)]
    simp only[List.map_cons,if_true]
    congr 1
    refine(List.map_congr_left fun p hp=> ?_).trans (List.map_id _)
    have:p.1≠k':=fun z=>n1 (List.mem_map.mpr ⟨p,hp,z⟩)
    simp[this]
   rw[e]
   exact⟨by simp[zDO],by simpa[zDO] using RepA.cons h t⟩
  ·obtain⟨h1,h2⟩:=zJW (k:=k) h n2 t
   have e:putK ((k',u)::kvs) k v=(k',u)::putK kvs k v:=by
    unfold putK
    simp only[List.any_cons,hk,decide_false,Bool.false_or]
    split
    ·simp[hk]
    ·rfl
   rw[e]
   exact⟨by simpa[zDO,hk] using h1,by simpa[zDO,hk] using RepA.cons hu h2⟩
theorem zJU{N:Addr->Prop}{l:Addr}{o:HO}{xs:List V}{ds:List Dat}{kvs:List (Key×V)}(ho:H l=some (.dK kvs))(hN:N l)(h:RepA K N H xs ds):RepA K N (upd H l o) xs ds:=
 h.fr (P:=fun b=>b=l) (fun b u q n=>by
  by_cases hb:b=l
  ·subst hb
   rw[ho] at q
   cases q
   exact absurd (n rfl) fun z=>z
  ·rw[zB3 hb]
   exact q) fun a z=>z▸hN
theorem zNZ{i:Nat}{fk fv:VF}{ap:Pos}(hu:X.A.units+1<cLine)(ho:PE X a (tVar i))(hk:PE X b (TV K ml pa ta ia fk))(hv:PE X c (TV K ml pb true true fv))(hs:swapsWith c (some (.Subscript a b ap)) pos.line X.env=pure false):
  PS X (.Assign [.Subscript a b ap] c pos) (TSt K ml (zOS i fk fv)) := (zUZ hu ho hk hv hs).imp fun D σ H ⟨B,O,δ,o,S,q,k⟩ => by
 unfold zOS at q
 cases h1:fv δ with
 | none => rw [h1] at q;cases q
 |some p1=>
  obtain⟨z,δ1⟩:=p1
  rw[h1] at q
  have q : ((ownD δ1 i).bind fun _ => (fk δ1).bind fun q => (keyD q.1).bind fun k => (ownD q.2 i).bind fun z_1 => if z_1.1.length < 16777216 /\ z_1.1.Nodup then some (Ou.nx (q.2.set i (.ow (let r := zDO z_1.1 z_1.2 k z;.dct r.1 r.2)))) else none) = some o := q
  cases h0:ownD δ1 i with
  | none => rw [h0] at q;cases q
  |some z0=>
  obtain⟨ks0,ds0⟩:=z0
  rw[h0] at q
  cases h2:fk δ1 with
  | none => simp [h2] at q
  |some p2=>
   obtain⟨y,δ2⟩:=p2
   simp only[Option.bind_some,h2] at q
   cases h3:keyD y with
   | none => simp [h3] at q
   |some kk=>
    simp only[Option.bind_some,h3] at q
    cases h4:ownD δ2 i with
    | none => simp [h4] at q
    |some zz=>
     obtain⟨ks,ds⟩:=zz
     simp only[h4,Option.bind_some] at q
     split at q
     ·rename_i hz
      cases q
      refine⟨B,O,δ,z,δ1,S,h1,fun v1 H1 R1=> ?_⟩
      obtain⟨l,e1,e2,_⟩:=R1.sta.ow i _ (zF5 h0)
      refine⟨.ref l,e2,B,O,δ1,y,δ2,R1.sta,h2,fun v2 H2 R2=> ?_⟩
      have ey:=R2.rep.key h3
      subst ey
      obtain⟨l',e3,_,w2⟩:=R2.sta.ow i _ (zF5 h4)
      rw[e1] at e3
      cases e3
      generalize hw:Dat.dct ks ds=dd at w2
      cases w2 with
      |lst _ _=>cases hw
      |dct qd r=>
       cases hw
       have rv:=R1.rep.fr R2.frm (fun a z=> .inr z) fun a z=> .inr z
       obtain⟨g1,g2⟩:=zJW (k:=kk) rv hz.2 r
       refine⟨l,_,rfl,DPut.k qd (by rw[sizeLine_eq];simpa using hz.1),k σ _ O (R2.sta.wrote e1 (fun z=>z) ?_)⟩
       have w:Own K (Nn B O) (upd H2 l (.dK (putK _ kk v1))) l (.dct ((putK _ kk v1).map Prod.fst) _):= .dct zAK (zJU qd (.inr ⟨i,e1⟩) g2)
       rw[g1] at w
       exact w
     ·cases q
end
section
variable{X:Cx}{K:W.Frag}{ml:List Nat}{e a b c:Expr}{es:List Expr}{pa ta ia pb tb ib pc tc ic pu bt bi ps bs:Bool}{fa fb fc f:VF}{B B':Bs}{O:Nat->Option Addr}{H H0 H1 H':Hp}{σ:St}{δ δ':Ev}{v:V}{d:Dat}{p:Addr}{pos:Pos}
def yB9(i j k:Nat)(ta:TA):TS:=fun D σ H=>ta σ H fun vs H1=> ∃v w u,vs=[v,w,u]/\D.nx (((σ.set i (some v)).set j (some w)).set k (some u)) H1
theorem zUY{i j k:Nat}{x y z:Str}{a b c:Expr}{ta:TA}{px py pz pt:Pos}{kt k2 pt2}(hc:X.calm=true)(hN:X.N.Nodup)(hi:X.N[i]? =some x)(hj:X.N[j]? =some y)(hk:X.N[k]? =some z)(hij:i≠j)(hik:i≠k)(hjk:j≠k)
  (hx:X.env.scope.names.lookup x=some .local) (hy:X.env.scope.names.lookup y=some .local) (hz:X.env.scope.names.lookup z=some .local) (ha:PA X [a,b,c] ta)
  (hw:swappedStores [.Tuple [.Name x px,.Name y py,.Name z pz] kt pt] (.Tuple [a,b,c] k2 pt2) X.env=pure (some [x,y,z]))
  (hs : swapsWithSole [.Tuple [.Name x px,.Name y py,.Name z pz] kt pt] (.Tuple [a,b,c] k2 pt2) pos.line X.env = pure false := by rfl) :
  PS X (.Assign [.Tuple [.Name x px,.Name y py,.Name z pz] kt pt] (.Tuple [a,b,c] k2 pt2) pos) (yB9 i j k ta):=by
 intro a6 s σ H D I h
 rw[exec_Assign_arm]
 refine wpAny_bind (wpAny_standAt ?_)
 rw[hs]
 refine wpAny_bind (wpAny_pure ?_)
 rw [if_neg (by decide)]
 refine wpAny_bind (Tuple_ (thn (ha _ a6 s σ H _ I h) fun us s1 ⟨vs,H1,I1,r1,q1⟩=> ?_))
 obtain⟨v,w,u,e1,q1⟩:=q1
 subst e1
 obtain⟨u1,u2,u3,rfl,rv,rw',ru⟩: ∃u1 u2 u3,us=[u1,u2,u3]/\RelV v u1/\RelV w u2/\RelV u u3:=by
  cases r1 with
  |cons p q=>
   cases q with
   |cons p' q'=>
    cases q' with
    |cons p'' q''=>
     cases q''
     exact⟨_,_,_,rfl,p,p',p''⟩
 refine wpAny_newObj_type ?_ (by show 3<=sizeLine;decide)
 have I2:Inv X a6 σ H1 {s1 with heap:=s1.heap.push {cls:= .type "tuple",data:= .seq [u1,u2,u3].toArray}}:=I1.kept (t':=s1.toks) fun b o e=>Heap.get?_push_of_some _ e
 rw[hw]
 refine wpAny_bind (wpAny_pure ?_)
 show wpAny (model X.prog X.w) X.A (do rule "assign.swapped-stores";let items<- unpackItems (.ref s1.heap.objs.size) 3 none;assignInOrder [fun v=>bindName X.env z v,fun v=>bindName X.env y v,fun v=>bindName X.env x v] items.reverse;pure Flow.next) _ _ _
 refine wpAny_bind (wpAny_rule (wpAny_bind (unpackItems_tuple (items:= #[u1,u2,u3]) (I.ok.hd hc) (IsTup.new s1.heap _) fun h' hx'=> ?_)))
 have I3:=I2.kept (h':=h') (t':=s1.toks) fun b o e=>hx' b o (Nat.ne_of_lt (Heap.lt_size e)) e
 show wpAny _ _ (assignInOrder [fun v=>bindName X.env z v,fun v=>bindName X.env y v,fun v=>bindName X.env x v] [u3,u2,u1]>>=fun _=>pure Flow.next) _ _ _
 refine wpAny_bind (assignInOrder_cons (wpAny_bindName (zCS I3 hN hk (.inl hz) ru (fun s2 I4=> ?_) (.inr hz))))
 refine assignInOrder_cons (wpAny_bindName (zCS I4 hN hj (.inl hy) rw' (fun s3 I5=> ?_) (.inr hy)))
 refine assignInOrder_cons (wpAny_bindName (zCS I5 hN hi (.inl hx) rv (fun s4 I6=>assignInOrder_nil (wpAny_pure ?_)) (.inr hx)))
 rw[List.set_comm _ _ (Ne.symm hij),List.set_comm _ _ (Ne.symm hik),List.set_comm _ _ (Ne.symm hjk)] at I6
 exact⟨_,H1,I6,q1⟩
noncomputable def zL1(i j k:Nat)(x y z:VX):VS:=fun δ=>(x δ).bind fun p=>(y p.2).bind fun q=>(z q.2).bind fun r=>if i<r.2.length/\j<r.2.length/\k<r.2.length then some (.nx (((r.2.set k r.1).set j q.1).set i p.1)) else none
theorem zJT{i j k:Nat}{x y z:VX}{o:Ou}(h:zL1 i j k x y z δ=some o): ∃s1 δ1 s2 δ2 s3 δ3,x δ=some (s1,δ1)/\y δ1=some (s2,δ2)/\z δ2=some (s3,δ3)/\(i<δ3.length/\j<δ3.length/\k<δ3.length)/\o= .nx (((δ3.set k s3).set j s2).set i s1):=by
 unfold zL1 at h
 cases h1:x δ with
 | none => rw [h1] at h;cases h
 |some p=>
  rw[h1] at h
  cases h2:y p.2 with
  | none => simp [h2] at h
  |some q=>
   simp only[Option.bind_some,h2] at h
   cases h3:z q.2 with
   | none => simp [h3] at h
   |some r=>
    simp only[Option.bind_some,h3] at h
    split at h
    ·cases h
     exact⟨p.1,p.2,q.1,q.2,r.1,r.2,rfl,h2,h3,by assumption,rfl⟩
    ·cases h
theorem zU8{i j k:Nat}{x y z:Str}{fx fy fz:VX}{px py pz pt:Pos}{kt k2 pt2}(hc:X.calm=true)(hN:X.N.Nodup)(hi:X.N[i]? =some x)(hj:X.N[j]? =some y)(hk:X.N[k]? =some z)(hij:i≠j)(hik:i≠k)(hjk:j≠k)
  (hx:X.env.scope.names.lookup x=some .local) (hy:X.env.scope.names.lookup y=some .local) (hz:X.env.scope.names.lookup z=some .local) (ha:PE X a (TX K ml fx)) (hb:PE X b (TX K ml fy)) (hcc:PE X c (TX K ml fz))
  (hw:swappedStores [.Tuple [.Name x px,.Name y py,.Name z pz] kt pt] (.Tuple [a,b,c] k2 pt2) X.env=pure (some [x,y,z])) (hmi:i∉ml:=by decide) (hmj:j∉ml:=by decide) (hmk:k∉ml:=by decide)
  (hs:swapsWithSole [.Tuple [.Name x px,.Name y py,.Name z pz] kt pt] (.Tuple [a,b,c] k2 pt2) pos.line X.env=pure false:=by rfl)
  (he:starEach (a::[b,c]) X.env=(false,eval a X.env)::starEach [b,c] X.env:=by rfl) (he2:starEach (b::[c]) X.env=(false,eval b X.env)::starEach [c] X.env:=by rfl) (he3:starEach (c::[]) X.env=(false,eval c X.env)::starEach [] X.env:=by rfl):
  PS X (.Assign [.Tuple [.Name x px,.Name y py,.Name z pz] kt pt] (.Tuple [a,b,c] k2 pt2) pos) (TSt K ml (zL1 i j k fx fy fz)):=(zUY hc hN hi hj hk hij hik hjk hx hy hz (zAQ ha (zAQ hb (zAQ hcc zC1 he3) he2) he) hw hs).imp fun D σ H ⟨B,O,δ,o,S,q,k⟩=>by
 obtain⟨s1,δ1,s2,δ2,s3,δ3,h1,h2,h3,hl,rfl⟩:=zJT q
 refine⟨B,O,δ,s1,δ1,S,h1,fun v H1 B1 S1 w1 f1=>⟨B1,O,δ1,s2,δ2,S1,h2,fun v2 H2 B2 S2 w2 f2=>⟨B2,O,δ2,s3,δ3,S2,h3,fun v3 H3 B3 S3 w3 f3=>⟨v,v2,v3,rfl,?_⟩⟩⟩⟩
 obtain⟨O4,S4⟩:=w3.bind S3 hmk hl.2.2
 obtain⟨O5,S5⟩:=(w2.fr f3).bind S4 hmj (by rw[List.length_set];exact hl.2.1)
 obtain⟨O6,S6⟩:=((w1.fr f2).fr f3).bind S5 hmi (by rw[List.length_set,List.length_set];exact hl.1)
 rw[List.set_comm _ _ (Ne.symm hij),List.set_comm _ _ (Ne.symm hik),List.set_comm _ _ (Ne.symm hjk)] at S6
 exact k _ _ _ S6
theorem zU6{i j k:Nat}{x y z:Str}{fx fy fz:VX}{px py pz pt:Pos}{kt k2 pt2}(hK:X.K=K)(hc:X.calm=true)(hN:X.N.Nodup)(hi:X.N[i]? =some x)(hj:X.N[j]? =some y)(hk:X.N[k]? =some z)(hij:i≠j)(hik:i≠k)(hjk:j≠k)
  (hx:Loc X.env.scope x) (hy:Loc X.env.scope y) (hz:Loc X.env.scope z) (ha:PE X a (TX K ml fx)) (hb:PE X b (TX K ml fy)) (hcc:PE X c (TX K ml fz))
  (hmi:i∉ml:=by decide) (hmj:j∉ml:=by decide) (hmk:k∉ml:=by decide)
  (hs:swapsWithSole [.Tuple [.Name x px,.Name y py,.Name z pz] kt pt] (.Tuple [a,b,c] k2 pt2) pos.line X.env=pure false:=by rfl)
  (hw:swappedStores [.Tuple [.Name x px,.Name y py,.Name z pz] kt pt] (.Tuple [a,b,c] k2 pt2) X.env=pure none:=by rfl)
  (hn:(assignEach [.Name x px,.Name y py,.Name z pz] X.env).length=3:=by rfl) (hst:(assignEach [.Name x px,.Name y py,.Name z pz] X.env).findIdx? (·.1)=none:=by rfl)
  (g1:(assignEach [.Name x px,.Name y py,.Name z pz] X.env).map (·.2)=assign (.Name x px) X.env::(assignEach [.Name y py,.Name z pz] X.env).map (·.2):=by rfl)
  (g2:(assignEach [.Name y py,.Name z pz] X.env).map (·.2)=assign (.Name y py) X.env::(assignEach [.Name z pz] X.env).map (·.2):=by rfl)
  (g3:(assignEach [.Name z pz] X.env).map (·.2)=assign (.Name z pz) X.env::(assignEach [] X.env).map (·.2):=by rfl)
  (fx':X.fn x=true∨X.env.scope.names.lookup x=some .local:=by first|exact .inl rfl|exact .inr rfl|assumption) (fy':X.fn y=true∨X.env.scope.names.lookup y=some .local:=by first|exact .inl rfl|exact .inr rfl|assumption) (fz':X.fn z=true∨X.env.scope.names.lookup z=some .local:=by first|exact .inl rfl|exact .inr rfl|assumption)
  (h1:(assignEach [.Tuple [.Name x px,.Name y py,.Name z pz] kt pt] X.env).map (·.2)=[assign (.Tuple [.Name x px,.Name y py,.Name z pz] kt pt) X.env]:=by rfl)
  (he:starEach (a::[b,c]) X.env=(false,eval a X.env)::starEach [b,c] X.env:=by rfl) (he2:starEach (b::[c]) X.env=(false,eval b X.env)::starEach [c] X.env:=by rfl) (he3:starEach (c::[]) X.env=(false,eval c X.env)::starEach [] X.env:=by rfl):
  PS X (.Assign [.Tuple [.Name x px,.Name y py,.Name z pz] kt pt] (.Tuple [a,b,c] k2 pt2) pos) (TSt K ml (zL1 i j k fx fy fz)):=
 (zME (zTH (zAQ ha (zAQ hb (zAQ hcc zC1 he3) he2) he)) (zZT (K := K) hK hc (zGS (zIO hN hi hx fx') (zGS (zIO hN hj hy fy') (zGS (zIO hN hk hz fz') zPG g3) g2) g1) hn hst) hs hw h1).imp fun D σ H q0 => by
  obtain⟨B,O,δ,o,S,q,k⟩:=q0
  obtain⟨s1,δ1,s2,δ2,s3,δ3,h1,h2,h3,hl,rfl⟩:=zJT q
  refine⟨B,O,δ,s1,δ1,S,h1,fun v H1 B1 S1 w1 f1=>⟨B1,O,δ1,s2,δ2,S1,h2,fun v2 H2 B2 S2 w2 f2=>⟨B2,O,δ2,s3,δ3,S2,h3,fun v3 H3 B3 S3 w3 f3=>⟨(by show 3<=sizeLine;decide),fun p hp=>⟨p,_,rfl,SqT.of zAK,rfl,v,_,rfl,v2,_,rfl,v3,_,rfl,rfl,?_⟩⟩⟩⟩⟩
  have f4:Fr (OA O) H3 (upd H3 p (.tup [v,v2,v3])):=(zA4 hp).fr
  obtain⟨O4,S4⟩:=(w3.fr f4).bind (S3.same (zA4 hp)) hmk hl.2.2
  obtain⟨O5,S5⟩:=((w2.fr f3).fr f4).bind S4 hmj (by rw[List.length_set];exact hl.2.1)
  obtain⟨O6,S6⟩:=(((w1.fr f2).fr f3).fr f4).bind S5 hmi (by rw[List.length_set,List.length_set];exact hl.1)
  rw[List.set_comm _ _ (Ne.symm hij),List.set_comm _ _ (Ne.symm hik),List.set_comm _ _ (Ne.symm hjk)] at S6
  exact k _ _ _ S6
noncomputable def zRR(i:Nat)(fi fv:VF):VS:=fun δ=>(fv δ).bind fun p=>(ownL p.2 i).bind fun _=>(fi p.2).bind fun q=>(ownL q.2 i).bind fun ds=>match q.1 with
 | .int k=>(ixN ds.length k).map fun j=> .nx (q.2.set i (.ow (.lst (ds.set j p.1))))
 |_=>none
theorem zWA{i:Nat}{fi fv:VF}{ap:Pos}(hK:X.K=K)(ho:PE X a (tVar i))(hi:PE X b (TV K ml pa ta ia fi))(hv:PE X c (TV K ml pb true true fv))
  (ha: ∀v,assign (.Subscript a b ap) X.env v=(do
   let ov<- holding [v] (eval a X.env)
   let iv<- holding [v,ov] (eval b X.env)
   standAt ap
   holding [v,ov,iv] (setItem ov iv v)
   release [v,ov,iv] []):=by intro _;rfl)
  (hs : swapsWithSole [.Subscript a b ap] c pos.line X.env = pure false := by rfl) (hw : swappedStores [.Subscript a b ap] c X.env = pure none := by rfl)
  (h1 : (assignEach [.Subscript a b ap] X.env).map (·.2) = [assign (.Subscript a b ap) X.env] := by rfl) : PS X (.Assign [.Subscript a b ap] c pos) (TSt K ml (zRR i fi fv)) :=
 (zME hv (zY1 ho hi zRQ ha) hs hw h1).imp fun D σ H q0 => by
  obtain⟨B,O,δ,o,S,q,k⟩:=q0
  unfold zRR at q
  cases h1:fv δ with
  | none => rw [h1] at q;cases q
  |some p1=>
   obtain⟨z,δ1⟩:=p1
   rw[h1] at q
   cases h0:ownL δ1 i with
   | none => simp [h0] at q
   |some ds0=>
    simp only[Option.bind_some,h0] at q
    cases h2:fi δ1 with
    | none => simp [h2] at q
    |some p2=>
     obtain⟨y,δ2⟩:=p2
     simp only[Option.bind_some,h2] at q
     cases h4:ownL δ2 i with
     | none => simp [h4] at q
     |some ds=>
      simp only[h4,Option.bind_some] at q
      cases y with
      |int kk=>
       have q:((ixN ds.length kk).map fun j=>Ou.nx (δ2.set i (.ow (.lst (ds.set j z)))))=some o:=q
       cases h5:ixN ds.length kk with
       | none => rw [h5] at q;cases q
       |some j=>
        rw[h5] at q
        cases q
        refine⟨B,O,δ,z,δ1,S,h1,fun v1 H1 R1=> ?_⟩
        obtain⟨l,e1,e2,_⟩:=R1.sta.ow i _ (zF4 h0)
        refine⟨.ref l,e2,B,O,δ1,_,δ2,R1.sta,h2,fun v2 H2 R2=> ?_⟩
        have ey:v2= .int kk:=by
         have r:=R2.rep
         cases r
         rfl
        subst ey
        obtain⟨l',e3,_,w2⟩:=R2.sta.ow i _ (zF4 h4)
        rw[e1] at e3
        cases e3
        cases w2 with
        |lst hl r=>
         have rv:=R1.rep.fr R2.frm (fun a z=> .inr z) fun a z=> .inr z
         refine⟨l,_,kk,j,rfl,rfl,hl,by rw[r.length];exact h5,k σ _ O (R2.sta.wrote e1 (fun z=>z) (.lst zAK (zH1 (ys:=[]) hl (.inr ⟨i,e1⟩) (r.set rv j))))⟩
      |_=>cases q
end
section
variable{prog:Program}{w:World}{A:Around}{E:Value->Shared->Prop}{s:Shared}
theorem zF6{it t:Addr}{i:Nat}{items:Array Value}{x:Value}{Q:Value->Shared->Prop}(hit:s.heap.IsTupleIter it t i)(ht:s.heap.IsTuple t items)(hx:items[i]? =some x)
  (hQ: ∀h',h'.IsTupleIter it t (i+1)->Heap.SameBut it s.heap h'->Q x {s with heap:=h'}):wpAny (model prog w) A (Builtin.SmallTypes.nextOf (.ref it)) Q E s:=by
 obtain⟨oi,g1,c1,d1⟩:=id hit
 obtain⟨ot,g2,_,nt,d2⟩:=ht
 unfold Builtin.SmallTypes.nextOf
 refine wpAny_bind (wpAny_callSpecial?_slot (name:=Str.ofString "__next__") hit.typeIs F.slot_tuple_iterator_next (wpAny_call_entry F.slot_tuple_iterator_next hit.typeIs F.entry_tuple_iterator_next ?_ (F.args_tuple_iterator_next_1 _)))
 show wpAny _ _ (field (Value.ref it) 0>>=_) _ _ s
 refine wpAny_bind (wpAny_field g1 d1 (x:= .ref t) rfl ?_)
 show wpAny _ _ (if(Value.ref t== .none)=true then _ else _) _ _ s
 rw[if_neg (show¬(Value.ref t==Value.none)=true from Bool.false_ne_true)]
 show wpAny _ _ (field (Value.ref it) 1>>=_) _ _ s
 refine wpAny_bind (wpAny_field g1 d1 (x:= .int i 0) rfl ?_)
 show wpAny _ _ (seqItems? (Value.ref t)>>=_) _ _ s
 refine wpAny_bind (wpAny_seqItems g2 d2 ?_)
 simp only[hx,Int.toNat_natCast]
 refine wpAny_bind (wpAny_setField g1 d1 (by simp) (wpAny_pure ⟨x,rfl,wpAny_pure (hQ _ ⟨_,Heap.get?_update_self _ g1 (Obj.isFreed_of_fields (Obj.data_mapFields d1 _)),(Obj.cls_mapFields ..).trans c1,?_⟩ (Heap.SameBut.update ..))⟩))
 rw[Obj.data_mapFields d1]
 simp[rawInt]
theorem zGG{it t:Addr}{i:Nat}{items:Array Value}{Q:Value->Shared->Prop}(hh:A.handled=none)(hit:s.heap.IsTupleIter it t i)(ht:s.heap.IsTuple t items)(hx:items[i]? =none)
  (hE: ∀h' e,Heap.ExtBut it s.heap h'->(∃o,h'.get? e=some o/\o.cls= .type "StopIteration")->E (.ref e) {s with heap:=h'}):wpAny (model prog w) A (Builtin.SmallTypes.nextOf (.ref it)) Q E s:=by
 obtain⟨oi,g1,c1,d1⟩:=id hit
 obtain⟨ot,g2,_,nt,d2⟩:=ht
 unfold Builtin.SmallTypes.nextOf
 refine wpAny_bind (wpAny_callSpecial?_slot (name:=Str.ofString "__next__") hit.typeIs F.slot_tuple_iterator_next (wpAny_call_entry F.slot_tuple_iterator_next hit.typeIs F.entry_tuple_iterator_next ?_ (F.args_tuple_iterator_next_1 _)))
 show wpAny _ _ (field (Value.ref it) 0>>=_) _ _ s
 refine wpAny_bind (wpAny_field g1 d1 (x:= .ref t) rfl ?_)
 show wpAny _ _ (if(Value.ref t== .none)=true then _ else _) _ _ s
 rw[if_neg (show¬(Value.ref t==Value.none)=true from Bool.false_ne_true)]
 show wpAny _ _ (field (Value.ref it) 1>>=_) _ _ s
 refine wpAny_bind (wpAny_field g1 d1 (x:= .int i 0) rfl ?_)
 show wpAny _ _ (seqItems? (Value.ref t)>>=_) _ _ s
 refine wpAny_bind (wpAny_seqItems g2 d2 ?_)
 simp only[hx,Int.toNat_natCast]
 refine wpAny_bind (wpAny_rule (wpAny_bind (wpAny_setField g1 d1 (by simp) ?_)))
 show wpAny _ _ (newExc (Value.type "StopIteration") []>>=_) _ _ _
 refine wpAny_bind ?_
 unfold newExc newTuple
 refine wpAny_bind (wpAny_newObj_type ?_ (by size_fits))
 refine wpAny_bind (m:=firstArgMember _ _) (wpAny_of_eq (a:=Value.none) (by first|rfl|(unfold firstArgMember;rfl)) (wpAny_newObj_type ?_ (by size_fits)))
 unfold raiseNew
 refine wpAny_bind (wpAny_handled ?_)
 first|rw[hh]|rw[show A.in1.handled=none from hh]
 refine wpAny_bind (wpAny_pure (wpAny_throw (hE _ _ (((Heap.SameBut.update ..).extBut.push _).push _) ⟨_,Heap.get?_push_size _ rfl,rfl⟩)))
end
theorem zQI{prog:Program}{w:World}{A:Around}(hh:A.handled=none)(it t:Addr)(hne:t≠it)(items:Array Value):
  Draws prog w A it [it,t] items.size (fun i v=>items[i]? =some v) (fun i h=>h.IsTupleIter it t i/\h.IsTuple t items) where
 live:=fun _ _ st=>let ⟨o,ho,_⟩:=st.1;⟨o,ho⟩
 frame:=fun _ _ _ st hk=>⟨st.1.at fun o e=>hk it (by simp) o e,by obtain⟨o,ho,r⟩:=st.2;exact⟨o,hk t (by simp) o ho,r⟩⟩
 item:=fun i s Q E hi st hQ=>zF6 st.1 st.2 (x:=items[i]) (by simp[hi]) fun h' a b=>hQ _ h' s.toks (by simp[hi]) ⟨a,st.2.extBut b.extBut hne⟩ b
 done:=fun s Q E st hE=>zGG hh st.1 st.2 (by simp) hE
section
variable{X:Cx}{a6:List (Addr×Obj)}{σ:St}{H:Hp}{s:Shared}{h':Heap}
theorem Inv.turnedL{t':Nat}{fp:List Addr}(I:Inv X a6 σ H s)(k: ∀b o,b∉fp->s.heap.get? b=some o->h'.get? b=some o)(there: ∀b∈fp,∃o,h'.get? b=some o)(hf: ∀b∈fp,FpOk X a6 H b):Inv X a6 σ H {s with heap:=h',toks:=t'}:=by
 have nit: ∀b u,H b=some u->b∉fp:=fun b u e z=>by rw[(hf b z).1] at e;cases e
 have hL:X.env.locals∉fp:=fun z=>(hf _ z).2.1 rfl
 refine I.step (g':=s.gens) (d':=s.drawn) (ch:=fp) (fun b hb=> ?_) (fun b o _ _ hc e _=>k b o hc e) (fun b o _ _ hc e _=>⟨o.slots,k b o hc e⟩) (fun _ _ _ _ n=>n)
  (fun b o hc e=>⟨o,k b o hc e⟩) (fun _ _ e=>e) (fun _ _ _ e=>e) (fun b ps e=>⟨#[],by rw[e];simp⟩) (fun m hm=> ?_) (fun b u e=> ?_) I.bare
 ·obtain⟨_,f1,f2,f3,f4,f5⟩:=hf b hb
  exact⟨f3,f1,f4,f5⟩
 ·obtain⟨o,es,ep,ho,r⟩:=hm
  exact⟨o,es,ep,k _ o hL ho,r⟩
 ·refine (I.hok b u e).stay (fun c v hc q => k c v ?_ q) (fun _ q => q) fun _ _ q => q
  rcases hc with z|z
  ·rw[z];exact nit b u e
  ·exact nit c _ z
end
section
variable{X:Cx}{a6:List (Addr×Obj)}{σ:St}{H:Hp}{s:Shared}{h':Heap}
theorem Inv.turnedL'{t':Nat}{fp:List Addr}(I:Inv X a6 σ H s)(k: ∀b o,b∉fp->s.heap.get? b=some o->h'.get? b=some o)(hf: ∀b∈fp,FpOk X a6 H b):Inv X a6 σ H {s with heap:=h',toks:=t'}:=by
 have nit: ∀b u,H b=some u->b∉fp:=fun b u e z=>by rw[(hf b z).1] at e;cases e
 have hL:X.env.locals∉fp:=fun z=>(hf _ z).2.1 rfl
 refine I.step (g':=s.gens) (d':=s.drawn) (ch:=fp) (fun b hb=> ?_) (fun b o _ _ hc e _=>k b o hc e) (fun b o _ _ hc e _=>⟨o.slots,k b o hc e⟩) (fun _ _ _ _ n=>n)
  (fun b o hc e=>⟨o,k b o hc e⟩) (fun _ _ e=>e) (fun _ _ _ e=>e) (fun b ps e=>⟨#[],by rw[e];simp⟩) (fun m hm=> ?_) (fun b u e=> ?_) I.bare
 ·obtain⟨_,f1,f2,f3,f4,f5⟩:=hf b hb
  exact⟨f3,f1,f4,f5⟩
 ·obtain⟨o,es,ep,ho,r⟩:=hm
  exact⟨o,es,ep,k _ o hL ho,r⟩
 ·refine (I.hok b u e).stay (fun c v hc q => k c v ?_ q) (fun _ q => q) fun _ _ q => q
  rcases hc with z|z
  ·rw[z];exact nit b u e
  ·exact nit c _ z
end
def SqA(K:W.Frag)(tup:Bool)(H:Hp)(a:Addr)(xs:List V):Prop:=if tup=true then SqT K H a xs else SqL K H a xs
def Src(tup:Bool)(h:Heap)(a:Addr)(items:Array Value):Prop:=if tup=true then h.IsTuple a items else h.IsList a items
def IsIt(tup:Bool)(h:Heap)(it a:Addr)(i:Nat):Prop:=if tup=true then h.IsTupleIter it a i else h.IsListIter it a i
theorem zTV{prog:Program}{w:World}{A:Around}(hh:A.handled=none)(tup:Bool)(it t:Addr)(hne:t≠it)(items:Array Value):
  Draws prog w A it [it,t] items.size (fun i v=>items[i]? =some v) (fun i h=>IsIt tup h it t i/\Src tup h t items):=by
 cases tup with
 |true=>exact zQI hh it t hne items
 |false=>exact Draws.list hh it t hne items
theorem Src.lt{tup:Bool}{h:Heap}{a:Addr}{items:Array Value}(s:Src tup h a items):a<h.objs.size:=by
 cases tup with
 |true=>obtain⟨o,e,_⟩:=s;exact Heap.lt_size e
 |false=>obtain⟨o,e,_⟩:=s;exact Heap.lt_size e
theorem Inv.srcA{X:Cx}{a6:List (Addr×Obj)}{σ:St}{H:Hp}{s:Shared}{a:Addr}{xs:List V}{tup:Bool}(I:Inv X a6 σ H s)(h:SqA X.K tup H a xs): ∃its:List Value,Vals xs its/\Src tup s.heap a its.toArray/\xs.length<=sizeLine:=by
 cases tup with
 |true=>
  obtain⟨its,r,p,z⟩:=I.tuple h
  exact⟨its,r,p,z⟩
 |false=>
  obtain⟨its,r,p,z⟩:=I.list h
  exact⟨its,r,p.isList,z⟩
theorem Inv.sq_inj{X:Cx}{a6:List (Addr×Obj)}{σ:St}{H:Hp}{s:Shared}{a:Addr}{xs ys:List V}{tup:Bool}(I:Inv X a6 σ H s)(h:SqA X.K tup H a xs)(h':SqA X.K tup H a ys):xs=ys:=by
 cases tup with
 |true=>exact I.tuple_inj h h'
 |false=>exact I.list_inj h h'
theorem IsIt.at{tup:Bool}{h h':Heap}{it a:Addr}{i:Nat}(st:IsIt tup h it a i)(k: ∀o,h.get? it=some o->h'.get? it=some o):IsIt tup h' it a i:=by
 cases tup with
 |true=>exact Heap.IsTupleIter.at st k
 |false=>exact Heap.IsListIter.at st k
theorem IsIt.obj{tup:Bool}{h:Heap}{it a:Addr}{i:Nat}(st:IsIt tup h it a i): ∃o,h.get? it=some o/\ ∀v,o.data≠ .cell v:=by
 cases tup with
 |true=>
  obtain⟨o,e,c,d⟩:=st
  exact⟨o,e,fun v z=>by rw[d] at z;cases z⟩
 |false=>
  obtain⟨o,e,c,d⟩:=st
  exact⟨o,e,fun v z=>by rw[d] at z;cases z⟩
noncomputable def Ite(K:W.Frag)(tup:Bool)(a:Addr):It:=
 ⟨fun i H=> ∃xs x,SqA K tup H a xs/\xs[i]? =some x,fun i H v H'=> ∃p x,(∀xs,SqA K tup H a xs->xs[i]? =some x)/\H p=none/\H'=upd H p (.tup [.int i,x])/\v= .ref p,fun i H=> ∃xs,SqA K tup H a xs/\xs.length=i⟩
theorem zOB{P:Program}{w:World}{K:W.Frag}{es:List Expr}{k:Nat}{pos:Pos}(tup:Bool)(a e it:Addr)(hei:e≠it)(hae:a≠e)(hai:a≠it):
  Turn P w K (.Tuple es k pos) (Ite K tup a) [e,it] e (fun i h=>(∃old,IsEnum h e it i old)/\IsIt tup h it a i) where
 mem := by simp
 obj := fun i h st b hb => by
  obtain⟨⟨old,he⟩,hi⟩:=st
  rcases List.mem_cons.mp hb with z|z
  ·subst z
   exact⟨_,he,fun v z=>by cases z⟩
  ·have:=List.mem_singleton.mp z
   subst this
   exact hi.obj
 keep:=fun i h h' st kk=>by
  obtain⟨⟨old,he⟩,hi⟩:=st
  exact⟨⟨old,kk e (by simp) _ he⟩,hi.at fun o q=>kk it (by simp) o q⟩
 item:=by
  intro X hP hw hK hc i a6 s σ H E I hf st hg
  subst hP hw hK
  obtain⟨⟨old,he⟩,hi⟩:=st
  obtain⟨xs,x,hq,hx⟩:=hg
  obtain⟨its,rv,src,hz⟩:=I.srcA hq
  have hlt:i<its.toArray.size:=by
   have:=(List.getElem?_eq_some_iff.mp hx).1
   have:=rv.length
   simp only[List.size_toArray]
   omega
  have hh:X.A.in1.handled=none:=I.ok.hd hc
  refine wpAny_pyNext_enum_itemD (zTV hh tup it a hai its.toArray) he ⟨hi,src⟩ hlt hei (by simp[hei,Ne.symm hae]) fun u h1 tk hu ho st1 ht hsz hk=>⟨_,rfl,?_⟩
  refine wpAny_letOwnedTupleGo_enum (s:={s with heap:=h1,toks:=tk+1}) ho fun h2 he2 sb2=> ?_
  have sb2:Heap.SameBut e h1 h2:=sb2
  obtain⟨u',hu',ru⟩:=rv.get hx
  have hu:its.toArray[i]? =some u:=hu
  rw[List.getElem?_toArray,hu'] at hu
  have hu:=Option.some.inj hu
  subst hu
  have kk: ∀b o,b∉[e,it]->s.heap.get? b=some o->h2.get? b=some o:=fun b o hb q=>by
   have h1b:b≠e:=fun z=>hb (by simp[z])
   have h2b:b≠it:=fun z=>hb (by simp[z])
   exact(sb2.2 b h1b).trans (hk b o h1b h2b q)
  have cr:h2.get? s.heap.objs.size=some {cls:= .type "tuple",data:= .seq #[.int i tk,u']}:=(sb2.2 _ (Nat.ne_of_gt (Heap.lt_size he))).trans ht
  have az:H s.heap.objs.size=none:=I.hok.fresh (Nat.le_refl _)
  have gj: ∀b∈[e,it],b<s.heap.objs.size:=fun b hb=>by
   rcases List.mem_cons.mp hb with z|z
   ·rw[z];exact Heap.lt_size he
   ·rw[List.mem_singleton.mp z]
    obtain⟨o,q,_⟩:=hi.obj
    exact Heap.lt_size q
  have I0:Inv X a6 σ (upd H s.heap.objs.size (.tup [.int i,x])) {s with heap:=s.heap.push {cls:= .type "tuple",data:= .seq #[.int i tk,u']},toks:=tk}:=
   I.laid (fun b o q=>Heap.get?_push_of_some _ q) (Nat.le_refl _) ⟨by show 2<=sizeLine;decide,[.int i tk,u'],.cons ⟨tk,rfl⟩ (.cons ru .nil),IsTup.new _ _⟩
  have I1:Inv X a6 σ (upd H s.heap.objs.size (.tup [.int i,x])) {s with heap:=h2,toks:=tk+1}:=by
   refine Inv.turnedL (s:={s with heap:=s.heap.push {cls:= .type "tuple",data:= .seq #[.int i tk,u']},toks:=tk}) (h':=h2) (t':=tk+1) (fp:=[e,it]) I0 (fun b o hb q=> ?_) (fun b hb=> ?_) fun b hb=>⟨by rw[zB3 (Nat.ne_of_lt (gj b hb))];exact(hf b hb).1,(hf b hb).2⟩
   ·by_cases hbn:b=s.heap.objs.size
    ·subst hbn
     have q:(s.heap.push {cls:= .type "tuple",data:= .seq #[.int i tk,u']}).get? s.heap.objs.size=some o:=q
     rw[Heap.get?_push_size _ rfl] at q
     cases q
     exact cr
    ·exact kk b o hb ((Heap.get?_push_ne _ _ _ hbn).symm.trans q)
   ·rcases List.mem_cons.mp hb with z|z
    ·rw[z];exact⟨_,he2⟩
    ·rw[List.mem_singleton.mp z]
     obtain⟨o,q,_⟩:=st1.1.obj
     exact⟨o,(sb2.2 it (Ne.symm hei)).trans q⟩
  refine⟨.ref s.heap.objs.size,upd H s.heap.objs.size (.tup [.int i,x]),?_,rfl,⟨_,x,fun ys hy=>by rw[I.sq_inj hy hq];exact hx,az,rfl,rfl⟩,⟨⟨_,by simpa using he2⟩,st1.1.at fun o q=>(sb2.2 it (Ne.symm hei)).trans q⟩,fun b hb=> ?_⟩
  ·exact I1
  ·rw[zB3 (Nat.ne_of_lt (gj b hb))]
   exact(hf b hb).1
 done:=by
  intro X hP hw hK hc i a6 s σ H E I hf st hg
  subst hP hw hK
  obtain⟨⟨old,he⟩,hi⟩:=st
  obtain⟨xs,hq,hx⟩:=hg
  obtain⟨its,rv,src,hz⟩:=I.srcA hq
  have hh:X.A.in1.handled=none:=I.ok.hd hc
  have hn:its.toArray.size=i:=by rw[List.size_toArray,<- rv.length];exact hx
  refine wpAny_pyNext_enum_endD (zTV hh tup it a hai its.toArray) he ⟨by rw[hn];exact hi,src⟩ fun h1 xb=>⟨rfl,?_⟩
  obtain⟨f0,f1,f2,f3,f4,f5⟩:=hf it (by simp)
  exact I.turned (t':=s.toks) (fun b o hb q=>xb b o hb q) f0 f1 f3 f4 f5
 self:=fun _ i _ _ _ st h=>wpAny_pyIter_enum st.1.choose_spec h
theorem zQG(a:Addr)(items:Array Value)(n:Nat)(dd:Option Addr)(sl:Array (Option Value)):
  Meets (Builtin.«enumerate.__new__» ⟨[.type "enumerate",.ref a],[]⟩) (fun _ R s=>s.heap.get? a=some {cls:= .type "tuple",dict:=dd,data:= .seq items n,slots:=sl}∧
   R (.ok (.ret (.ref (s.heap.push {cls:= .type "tuple_iterator",data:= .fields #[.ref a,.int 0 0]}).objs.size)))
    {s with heap:=(s.heap.push {cls:= .type "tuple_iterator",data:= .fields #[.ref a,.int 0 0]}).push {cls:= .type "enumerate",data:= .fields #[.none,.bool false,.ref s.heap.objs.size,rawInt 0,.none,.none]}}):=by
 refine .of_wp fun prog w A R s h=> ?_
 obtain⟨hp,g,d,tk,os⟩:=s
 obtain⟨ha,h⟩:=h
 have hs:=sub_enumerate
 have hT:Heap.IsTuple (Shared.heap ⟨hp,g,d,tk,os⟩) a items:=⟨_,ha,rfl,n,rfl⟩
 wp_walk using AutoSeq1.wpAny_loadPart' ha
 refine wpAny_stack_any fun st=>wpAny_pure ?_
 split
 ·rename_i c _ _ _ _ _
  cases (c==Value.type "enumerate")<;>(wp_walk using AutoSeq1.wpAny_loadPart' ha,wpAny_pyIter_tuple hT;exact⟨_,rfl,h⟩)
 ·wp_walk using AutoSeq1.wpAny_loadPart' ha,wpAny_pyIter_tuple hT
  exact⟨_,rfl,h⟩
theorem zNS{prog:Program}{w:World}{A:Around}{E:Value->Shared->Prop}{s:Shared}{a:Addr}{items:Array Value}{tup:Bool}{Q:Value->Shared->Prop}(hs:Src tup s.heap a items)
  (h: ∀h',IsEnum h' (s.heap.objs.size+1) s.heap.objs.size 0 .none->IsIt tup h' s.heap.objs.size a 0->(∀b o,s.heap.get? b=some o->h'.get? b=some o)->Q (.ref (s.heap.objs.size+1)) {s with heap:=h'}):
  wpAny (model prog w) A (call (.type "enumerate") [.ref a]) Q E s:=by
 cases tup with
 |false=>exact call_enumerate_list hs fun h' a1 a2 _ a4=>h h' a1 a2 a4
 |true=>
  obtain⟨⟨cc,dd,dt,sl⟩,g1,hc,n,hd⟩:=hs
  replace hc:cc= .type "tuple":=hc
  replace hd:dt= .seq items n:=hd
  subst hc hd
  have hz:(s.heap.push {cls:= .type "tuple_iterator",data:= .fields #[.ref a,.int 0 0]}).objs.size=s.heap.objs.size+1:=Heap.size_push ..
  refine callType_new F.called_enumerate (by decide) (F.typeCall_enumerate_1 _) (F.newCall_enumerate_1 _) (fun obj=>F.args_object_init_2 obj _) F.entry_enumerate_new (zQG a items n dd sl) ⟨g1,?_⟩
  show _/\_
  rw[hz]
  have he:=Heap.get?_push_size (s.heap.push {cls:= .type "tuple_iterator",data:= .fields #[.ref a,.int 0 0]}) (o:={cls:= .type "enumerate",data:= .fields #[.none,.bool false,.ref s.heap.objs.size,rawInt 0,.none,.none]}) rfl
  rw[hz] at he
  exact⟨⟨_,he,rfl⟩,h _ he ⟨_,Heap.get?_push_of_some _ (Heap.get?_push_size _ rfl),rfl,rfl⟩ fun b o x=>Heap.get?_push_of_some _ (Heap.get?_push_of_some _ x)⟩
theorem zKQ:bootBuiltins "enumerate"=some (.type "enumerate"):=by decide+kernel
theorem yAH:bootBuiltins "zip"=some (.type "zip"):=by decide+kernel
section
variable{X:Cx}{K:W.Frag}{ml:List Nat}{l:Expr}{pu:Bool}{f:VF}{p pos cg:Pos}{es:List Expr}{tk:Nat}{δ:Ev}
def iEnu(K:W.Frag)(tl:TE):TI:=fun σ H R=>tl σ H fun x H1=> ∃a tup,x= .ref a/\(∃xs,SqA K tup H1 a xs)/\R (Ite K tup a) H1
theorem zV4{tl:TE}(hg:Gl X "enumerate") (hm:X.mg "enumerate"=none) (hl:PE X l tl) (he:starEach (l::[]) X.env=(false,eval l X.env)::starEach [] X.env:=by rfl):
  PI X (.Tuple es tk cg) (.Call (.Name "enumerate" p) [l] [] pos) (iEnu X.K tl):=by
 intro a6 s σ H R I h
 refine wpAny_Call_Name_kw (zH6 I hg hm zKQ ?_ (by decide) (by decide))
 refine PyProof.Rows.callWith_type1 (thn (zAQ hl zC1 he pos a6 s σ H (fun vs H1=>match vs with
  | [x] => ∃ a tup,x = .ref a /\ (∃ xs,SqA X.K tup H1 a xs) /\ R (Ite X.K tup a) H1
  | _ => False) I h) fun us s1 ⟨vs,H1,I1,r1,q1⟩ => ?_) he (by rfl)
 match vs,r1,q1 with
 |[x],r1,q1=>
  obtain⟨a,tup,rfl,⟨xs,hq⟩,hR⟩:=q1
  obtain⟨u,rfl,ru⟩:=zHO r1
  cases ru
  obtain⟨its,rv,src,_⟩:=I1.srcA hq
  refine zNS src fun h' he' hi' kp=> ?_
  have I2:Inv X a6 σ H1 {s1 with heap:=h'}:=I1.kept (t':=s1.toks) kp
  have hn: ∀b,s1.heap.objs.size<=b->H1 b=none:=fun b hb=>I1.hok.fresh hb
  refine wpAny_pyIter_enum he' ⟨s1.heap.objs.size+1,[s1.heap.objs.size+1,s1.heap.objs.size],_,Ite X.K tup a,H1,rfl,I2,zOB tup a (s1.heap.objs.size+1) s1.heap.objs.size (Nat.succ_ne_self _) (fun z=> ?_) (fun z=> ?_),⟨⟨_,he'⟩,hi'⟩,fun b hb=> ?_,hR⟩
  ·have:=src.lt
   rw[z] at this
   exact absurd this (Nat.not_lt_of_le (Nat.le_succ _))
  ·have:=src.lt
   rw[z] at this
   exact absurd this (Nat.lt_irrefl _)
  ·have hb':s1.heap.objs.size<=b:=by
    rcases List.mem_cons.mp hb with z|z
    ·rw[z];exact Nat.le_succ _
    ·rw[List.mem_singleton.mp z];exact Nat.le_refl _
   exact I1.fpOk hb' (hn b hb')
theorem zZS(h:X.K=K){tl:TE}(hg:Gl X "enumerate") (hm:X.mg "enumerate"=none) (hl:PE X l tl) (he:starEach (l::[]) X.env=(false,eval l X.env)::starEach [] X.env:=by rfl):
  PI X (.Tuple es tk cg) (.Call (.Name "enumerate" p) [l] [] pos) (iEnu K tl):=by subst h;exact zV4 hg hm hl he
noncomputable def enuD:Nat->List Dat->List Dat
 |_,[]=>[]
 |i,d::ds=> .tup [.int i,d]::enuD (i+1) ds
noncomputable def zHQ(f:VF):VI:=fun δ=>(f δ).bind fun p=>(seqD p.1).map fun ds=>(enuD 0 ds,p.2)
theorem zJ2: ∀{ds:List Dat} {n i:Nat} {d:Dat},(enuD n ds)[i]? =some d-> ∃x,ds[i]? =some x/\d= .tup [.int (n+i:Nat),x]
 |[],_,_,_,h=>by simp[enuD] at h
 |x::ds,n,0,d,h=>by simp[enuD] at h;exact⟨x,rfl,h.symm⟩
 |x::ds,n,i+1,d,h=>by
  have h:(enuD (n+1) ds)[i]? =some d:=by simpa[enuD] using h
  obtain⟨y,h1,h2⟩:=zJ2 h
  exact⟨y,by simpa using h1,by rw[h2,show n+1+i=n+(i+1) by omega]⟩
theorem zJ1: ∀(ds:List Dat) (n:Nat),(enuD n ds).length=ds.length
 |[],_=>rfl
 |_::ds,n=>congrArg (· +1) (zJ1 ds (n+1))
theorem zJC{a:Addr}{tup:Bool}{ds:List Dat}:Walk K (Ite K tup a) [(.ref a,if tup=true then .tup ds else .lst ds)] (enuD 0 ds):=by
 intro N H h
 have r:=h _ (List.mem_singleton.mpr rfl)
 have fin: ∀xs,SqA K tup H a xs->RepA K N H xs ds->(∀(i:Nat) (d:Dat),(enuD 0 ds)[i]? =some d->(Ite K tup a).go i H/\ ∀x H',(Ite K tup a).yld i H x H'->Same H H'/\Rep K N H' N x d)/\(Ite K tup a).stop (enuD 0 ds).length H:=fun xs sq r=>by
  refine⟨fun i d e=> ?_,xs,sq,by rw[r.length,zJ1]⟩
  obtain⟨z,e1,rfl⟩:=zJ2 e
  obtain⟨x,e2,r1⟩:=r.get e1
  refine⟨⟨xs,x,sq,e2⟩,fun y H' hy=> ?_⟩
  obtain⟨p,x',e3,hp,rfl,rfl⟩:=hy
  have:=e3 xs sq
  rw[e2] at this
  cases this
  refine⟨zA4 hp,.tup (SqT.of zAK) (.cons ?_ (.cons (r1.same (zA4 hp)) .nil))⟩
  rw[Nat.zero_add]
  exact .int _
 cases tup with
 |true=>
  have r:Rep K N H N (.ref a) (.tup ds):=r
  cases r with
  |tup sq r=>exact fin _ sq r
 |false=>
  have r:Rep K N H N (.ref a) (.lst ds):=r
  cases r with
  |lst q n r=>exact fin _ (SqL.of q) r
  |fzl q r=>exact fin _ q.sq r
theorem zFK(hK:X.K=K)(hg:Gl X "enumerate") (hm:X.mg "enumerate"=none) (h:PE X l (TV K ml pu true true f)) (he:starEach (l::[]) X.env=(false,eval l X.env)::starEach [] X.env:=by rfl):
  PI X (.Tuple es tk cg) (.Call (.Name "enumerate" p) [l] [] pos) (TIV K ml pu (zHQ f)):=(zZS (K:=K) hK hg hm h he).imp fun σ H R ⟨B,O,δ,ds,δ',S,q,k⟩=>by
 unfold zHQ at q
 cases h1:f δ with
 | none => rw [h1] at q;cases q
 |some p=>
  obtain⟨x,δ1⟩:=p
  rw[h1] at q
  refine⟨B,O,δ,x,δ1,S,h1,fun v H1 R1=> ?_⟩
  cases x with
  |lst ds'=>
   cases q
   obtain⟨a,xs,rfl,sq,r⟩:=R1.rep.lstE
   exact⟨a,false,rfl,⟨xs,sq⟩,k _ [(.ref a,.lst ds')] H1 (R1.sta.keepV fun p hp=>by rw[List.mem_singleton.mp hp];exact R1.rep) R1.frm R1.pur (zJC (tup:=false))⟩
  |tup ds'=>
   cases q
   obtain⟨a,xs,rfl,sq,r⟩:=R1.rep.tupE
   exact⟨a,true,rfl,⟨xs,sq⟩,k _ [(.ref a,.tup ds')] H1 (R1.sta.keepV fun p hp=>by rw[List.mem_singleton.mp hp];exact R1.rep) R1.frm R1.pur (zJC (tup:=true))⟩
  |_=>cases q
end
section
variable{prog:Program}{w:World}{A:Around}{E:Value->Shared->Prop}{s:Shared}
theorem IsIt.ext{tup:Bool}{h h':Heap}{it a b:Addr}{i:Nat}(x:IsIt tup h it a i)(hs:Heap.ExtBut b h h')(hne:it≠b):IsIt tup h' it a i:=x.at fun o e=>hs _ _ hne e
theorem Src.ext{tup:Bool}{h h':Heap}{a b:Addr}{xs:Array Value}(x:Src tup h a xs)(hs:Heap.ExtBut b h h')(hne:a≠b):Src tup h' a xs:=by
 cases tup with
 |true=>obtain⟨o,e,r⟩:=x;exact⟨o,hs _ _ hne e,r⟩
 |false=>obtain⟨o,e,r⟩:=x;exact⟨o,hs _ _ hne e,r⟩
theorem zFO{tup:Bool}{it a:Addr}{i:Nat}{xs:Array Value}{x:Value}{Q:Value->Shared->Prop}(hi:IsIt tup s.heap it a i)(hs:Src tup s.heap a xs)(hx:xs[i]? =some x)
  (hQ: ∀h',IsIt tup h' it a (i+1)->Heap.SameBut it s.heap h'->Q x {s with heap:=h'}):wpAny (model prog w) A (Builtin.SmallTypes.nextOf (.ref it)) Q E s:=by
 cases tup with
 |true=>exact zF6 hi hs hx hQ
 |false=>exact wpAny_nextOf_list_item hi hs hx hQ
theorem zK1{tup:Bool}{it a:Addr}{i:Nat}{xs:Array Value}{Q:Value->Shared->Prop}(hh:A.handled=none)(hi:IsIt tup s.heap it a i)(hs:Src tup s.heap a xs)(hx:xs[i]? =none)
  (hE: ∀h' e,Heap.ExtBut it s.heap h'->(∃o,h'.get? e=some o/\o.cls= .type "StopIteration")->E (.ref e) {s with heap:=h'}):wpAny (model prog w) A (Builtin.SmallTypes.nextOf (.ref it)) Q E s:=by
 cases tup with
 |true=>exact zGG hh hi hs hx hE
 |false=>exact wpAny_nextOf_list_end hh hi hs hx hE
structure ZSt(t1 t2:Bool)(h:Heap)(z p q i1 i2 a b:Addr)(k:Nat)(f0:Value):Prop where
 zip:IsZip h z p q f0
 its:IsPair h p (.ref i1) (.ref i2)
 res: ∃u v,IsPair h q u v
 one:IsIt t1 h i1 a k
 two:IsIt t2 h i2 b k
theorem zNW{t1 t2:Bool}{z p q i1 i2 a b:Addr}{k:Nat}{xs ys:Array Value}{x y:Value}{Q:Value->Shared->Prop}(D:ZipApart z p q i1 i2 a b)(S:ZSt t1 t2 s.heap z p q i1 i2 a b k .none)
  (s1:Src t1 s.heap a xs) (s2:Src t2 s.heap b ys) (hx:xs[k]? =some x) (hy:ys[k]? =some y)
  (hQ: ∀h',ZSt t1 t2 h' z p q i1 i2 a b (k+1) (rawInt s.heap.objs.size)->IsPair h' s.heap.objs.size x y->h'.objs.size=s.heap.objs.size+1→
   (∀c o,c≠z->c≠q->c≠i1->c≠i2->s.heap.get? c=some o->h'.get? c=some o)->Q (.ref s.heap.objs.size) {s with heap:=h'}):
  wpAny (model prog w) A (Builtin.«zip.__next__» ⟨[.ref z],[]⟩) (fun fin s'=> ∃v,fin= .done (.ret v)/\Q v s') E s:=by
 obtain⟨gz,gi,⟨u,v,gr⟩,g1,g2⟩:=S
 show wpAny _ _ (field (Value.ref z) 2>>=_) _ _ _
 refine wpAny_bind (wpAny_field gz rfl (x:= .bool false) rfl ?_)
 show wpAny _ _ (field (Value.ref z) 3>>=_) _ _ _
 refine wpAny_bind (wpAny_field gz rfl (x:= .ref p) rfl (wpAny_bind (wpAny_seqItems gi rfl ?_)))
 show wpAny _ _ (Builtin.SmallTypes.ownedTupleIsFree (Value.ref z)>>=_) _ _ _
 refine wpAny_bind ?_
 (unfold Builtin.SmallTypes.ownedTupleIsFree)
 refine wpAny_bind (wpAny_field gz rfl (x:= .none) rfl (wpAny_pure ?_))
 simp only[if_true]
 refine wpAny_bind (wpAny_rule (wpAny_bind (wpAny_field gz rfl (x:= .ref q) rfl (wpAny_bind (wpAny_setField_rec gz (by simp) fun ha za ba=>wpAny_bind ?_)))))
 have za:IsZip ha z p q .ellipsis:=za
 simp only[List.zipIdx_nil,List.zipIdx_cons,List.forIn_nil,List.forIn_cons]
 refine wpAny_bind (wpAny_bind (wpAny_onRaise ?_))
 show wpAny _ _ (Builtin.SmallTypes.nextOf (Value.ref i1)>>=_) _ _ _
 refine wpAny_bind (zFO (g1.ext ba.extBut D.i1z) (s1.ext ba.extBut D.l1z) hx fun hb n1 bb=>wpAny_pure ?_)
 have rb:IsPair hb q u v:=bb.extBut _ _ D.TOi1 (ba.extBut _ _ D.TOz gr)
 refine wpAny_bind (wpAny_seqItems rb rfl (wpAny_bind (wpAny_updateSeq_pair rb fun hc rc bc=>wpAny_bind (wpAny_letGo (wpAny_pure ?_)))))
 have rc:IsPair hc q x v:=rc
 refine wpAny_bind (wpAny_bind (wpAny_onRaise ?_))
 show wpAny _ _ (Builtin.SmallTypes.nextOf (Value.ref i2)>>=_) _ _ _
 refine wpAny_bind (zFO (((g2.ext ba.extBut D.i2z).ext bb.extBut D.i12.symm).ext bc.extBut D.TOi2.symm) (((s2.ext ba.extBut D.l2z).ext bb.extBut D.l2i1).ext bc.extBut D.l2TO) hy fun hd n2 bd=>wpAny_pure ?_)
 have rd:IsPair hd q x v:=bd.extBut _ _ D.TOi2 rc
 refine wpAny_bind (wpAny_seqItems rd rfl (wpAny_bind (wpAny_updateSeq_pair rd fun he re be=>wpAny_bind (wpAny_letGo (wpAny_pure (wpAny_pure ?_))))))
 have re:IsPair he q x y:=re
 refine wpAny_bind (wpAny_seqItems re rfl (wpAny_bind (wpAny_newTuple ?_)))
 have size:he.objs.size=s.heap.objs.size:=by rw[be.1,bd.1,bc.1,bb.1,ba.1]
 have ze:IsZip he z p q .ellipsis:=be.extBut _ _ D.TOz.symm (bd.extBut _ _ D.i2z.symm (bc.extBut _ _ D.TOz.symm (bb.extBut _ _ D.i1z.symm za)))
 have ke: ∀c o,c≠z->c≠q->c≠i1->c≠i2->s.heap.get? c=some o->he.get? c=some o:=fun c o c1 c2 c3 c4 g=>be.extBut _ _ c2 (bd.extBut _ _ c4 (bc.extBut _ _ c2 (bb.extBut _ _ c3 (ba.extBut _ _ c1 g))))
 have e1:IsIt t1 he i1 a (k+1):=((n1.ext bc.extBut D.TOi1.symm).ext bd.extBut D.i12).ext be.extBut D.TOi1.symm
 have e2:IsIt t2 he i2 b (k+1):=n2.ext be.extBut D.TOi2.symm
 have ie:IsPair he p (.ref i1) (.ref i2):=ke _ _ D.TIz D.TITO D.TIi1 D.TIi2 gi
 have zlt:z<he.objs.size:=Heap.lt_size ze
 show wpAny _ _ (Builtin.SmallTypes.ownedTupleHandOut (Value.ref z) (.ref he.objs.size)>>=_) _ _ _
 refine wpAny_bind ?_
 (unfold Builtin.SmallTypes.ownedTupleHandOut)
 have zf:IsZip (he.push {cls:= .type "tuple",data:= .seq #[x,y]}) z p q .ellipsis:=Heap.get?_push_of_some _ ze
 refine wpAny_bind (wpAny_setField_rec zf (by simp) fun hg zg bg=> ?_)
 have zg:IsZip hg z p q (rawInt he.objs.size):=zg
 refine wpAny_setField_rec zg (by simp) fun hk zk bk=> ?_
 have zk:IsZip hk z p q (rawInt he.objs.size):=zk
 have up: ∀c o,c≠z->he.get? c=some o->hk.get? c=some o:=fun c o c1 g=>bk.extBut _ _ c1 (bg.extBut _ _ c1 (Heap.get?_push_of_some _ g))
 have tk:IsPair hk he.objs.size x y:=bk.extBut _ _ (Nat.ne_of_gt zlt) (bg.extBut _ _ (Nat.ne_of_gt zlt) (Heap.get?_push_size _ rfl))
 have szk:hk.objs.size=he.objs.size+1:=by rw[bk.1,bg.1,Heap.size_push]
 rw[size] at zk tk szk
 refine wpAny_pure ⟨_,rfl,?_⟩
 show Q (.ref he.objs.size) _
 rw[size]
 exact hQ hk ⟨zk,up _ _ D.TIz ie,⟨x,y,up _ _ D.TOz re⟩,e1.at fun o g=>up _ o D.i1z g,e2.at fun o g=>up _ o D.i2z g⟩ tk szk fun c o c1 c2 c3 c4 g=>up c o c1 (ke c o c1 c2 c3 c4 g)
theorem zR3{t1 t2:Bool}{z p q i1 i2 a b:Addr}{k:Nat}{xs ys:Array Value}{Q:Fin->Shared->Prop}(hh:A.handled=none)(D:ZipApart z p q i1 i2 a b)(S:ZSt t1 t2 s.heap z p q i1 i2 a b k .none)
  (s1:Src t1 s.heap a xs) (s2:Src t2 s.heap b ys) (ee:xs[k]? =none∨ys[k]? =none)
  (hE: ∀h' e,(∀c o,c≠z->c≠q->c≠i1->c≠i2->s.heap.get? c=some o->h'.get? c=some o)->(∃o,h'.get? e=some o/\o.cls= .type "StopIteration")->E (.ref e) {s with heap:=h'}):
  wpAny (model prog w) A (Builtin.«zip.__next__» ⟨[.ref z],[]⟩) Q E s:=by
 obtain⟨gz,gi,⟨u,v,gr⟩,g1,g2⟩:=S
 show wpAny _ _ (field (Value.ref z) 2>>=_) _ _ _
 refine wpAny_bind (wpAny_field gz rfl (x:= .bool false) rfl ?_)
 show wpAny _ _ (field (Value.ref z) 3>>=_) _ _ _
 refine wpAny_bind (wpAny_field gz rfl (x:= .ref p) rfl (wpAny_bind (wpAny_seqItems gi rfl ?_)))
 show wpAny _ _ (Builtin.SmallTypes.ownedTupleIsFree (Value.ref z)>>=_) _ _ _
 refine wpAny_bind ?_
 (unfold Builtin.SmallTypes.ownedTupleIsFree)
 refine wpAny_bind (wpAny_field gz rfl (x:= .none) rfl (wpAny_pure ?_))
 simp only[if_true]
 refine wpAny_bind (wpAny_rule (wpAny_bind (wpAny_field gz rfl (x:= .ref q) rfl (wpAny_bind (wpAny_setField_rec gz (by simp) fun ha za ba=>wpAny_bind ?_)))))
 have za:IsZip ha z p q .ellipsis:=za
 simp only[List.zipIdx_nil,List.zipIdx_cons,List.forIn_nil,List.forIn_cons]
 refine wpAny_bind (wpAny_bind (wpAny_onRaise ?_))
 show wpAny _ _ (Builtin.SmallTypes.nextOf (Value.ref i1)>>=_) _ _ _
 cases hx:xs[k]? with
 |none=>
  refine wpAny_bind (zK1 hh (g1.ext ba.extBut D.i1z) (s1.ext ba.extBut D.l1z) hx fun hb e bb ⟨oe,ge,ce⟩=> ?_)
  have zb:IsZip hb z p q .ellipsis:=bb _ _ D.i1z.symm za
  have ne:e≠z:=fun w=>by subst w;rw[zb] at ge;cases ge;simp at ce
  exact wpAny_setField_rec zb (by simp) fun hc _ bc=>hE hc e (fun c o c1 _ c3 _ g=>bc.extBut _ _ c1 (bb _ _ c3 (ba.extBut _ _ c1 g))) ⟨oe,bc.extBut _ _ ne ge,ce⟩
 |some x=>
  have hy:ys[k]? =none:=ee.resolve_left fun w=>by rw[hx] at w;cases w
  refine wpAny_bind (zFO (g1.ext ba.extBut D.i1z) (s1.ext ba.extBut D.l1z) hx fun hb n1 bb=>wpAny_pure ?_)
  have rb:IsPair hb q u v:=bb.extBut _ _ D.TOi1 (ba.extBut _ _ D.TOz gr)
  refine wpAny_bind (wpAny_seqItems rb rfl (wpAny_bind (wpAny_updateSeq_pair rb fun hc rc bc=>wpAny_bind (wpAny_letGo (wpAny_pure (wpAny_bind (wpAny_bind (wpAny_onRaise ?_))))))))
  show wpAny _ _ (Builtin.SmallTypes.nextOf (Value.ref i2)>>=_) _ _ _
  refine wpAny_bind (zK1 hh (((g2.ext ba.extBut D.i2z).ext bb.extBut D.i12.symm).ext bc.extBut D.TOi2.symm) (((s2.ext ba.extBut D.l2z).ext bb.extBut D.l2i1).ext bc.extBut D.l2TO) hy fun hd e bd ⟨oe,ge,ce⟩=> ?_)
  have zd:IsZip hd z p q .ellipsis:=bd _ _ D.i2z.symm (bc.extBut _ _ D.TOz.symm (bb.extBut _ _ D.i1z.symm za))
  have ne:e≠z:=fun w=>by subst w;rw[zd] at ge;cases ge;simp at ce
  exact wpAny_setField_rec zd (by simp) fun hf _ bf=>hE hf e (fun c o c1 c2 c3 c4 g=>bf.extBut _ _ c1 (bd _ _ c4 (bc.extBut _ _ c2 (bb.extBut _ _ c3 (ba.extBut _ _ c1 g))))) ⟨oe,bf.extBut _ _ ne ge,ce⟩
theorem zNL{t1 t2:Bool}{z p q i1 i2 a b:Addr}{k:Nat}{xs ys:Array Value}{x y:Value}{Q:Option Value->Shared->Prop}(D:ZipApart z p q i1 i2 a b)(S:ZSt t1 t2 s.heap z p q i1 i2 a b k .none)
  (s1:Src t1 s.heap a xs) (s2:Src t2 s.heap b ys) (hx:xs[k]? =some x) (hy:ys[k]? =some y)
  (hQ: ∀h',ZSt t1 t2 h' z p q i1 i2 a b (k+1) (rawInt s.heap.objs.size)->IsPair h' s.heap.objs.size x y->h'.objs.size=s.heap.objs.size+1→
   (∀c o,c≠z->c≠q->c≠i1->c≠i2->s.heap.get? c=some o->h'.get? c=some o)->Q (some (.ref s.heap.objs.size)) {s with heap:=h'}):wpAny (model prog w) A (pyNext (.ref z)) Q E s:=by
 have ty:s.TypeIs (.ref z) "zip":=⟨_,S.zip,rfl⟩
 (unfold pyNext)
 exact wpAny_bind (wpAny_attempt (wpAny_callSpecial?_slot (name:=Str.ofString "__next__") ty F.slot_zip_next (wpAny_call_entry F.slot_zip_next ty F.entry_zip_next (zNW D S s1 s2 hx hy fun h' a1 a2 a3 a4=>wpAny_pure (hQ h' a1 a2 a3 a4)) (F.args_zip_next_1 _))))
theorem zPT{t1 t2:Bool}{z p q i1 i2 a b:Addr}{k:Nat}{xs ys:Array Value}{Q:Option Value->Shared->Prop}(hh:A.handled=none)(D:ZipApart z p q i1 i2 a b)(S:ZSt t1 t2 s.heap z p q i1 i2 a b k .none)
  (s1:Src t1 s.heap a xs) (s2:Src t2 s.heap b ys) (ee:xs[k]? =none∨ys[k]? =none)
  (hQ: ∀h',(∀c o,c≠z->c≠q->c≠i1->c≠i2->s.heap.get? c=some o->h'.get? c=some o)->Q none {s with heap:=h'}):wpAny (model prog w) A (pyNext (.ref z)) Q E s:=by
 have ty:s.TypeIs (.ref z) "zip":=⟨_,S.zip,rfl⟩
 (unfold pyNext)
 refine wpAny_bind (wpAny_attempt (wpAny_callSpecial?_slot (name:=Str.ofString "__next__") ty F.slot_zip_next (wpAny_call_entry F.slot_zip_next ty F.entry_zip_next (zR3 hh D S s1 s2 ee fun h' e kk ⟨o,ge,ce⟩=> ?_) (F.args_zip_next_1 _))))
 exact wpAny_bind (wpAny_isInstance (T:= "StopIteration") (b:=true) ⟨o,ge,ce⟩ isSubtype_stop (wpAny_pure (hQ _ kk)))
end
noncomputable def yDQ(tup:Bool):String:=if tup=true then "tuple_iterator" else "list_iterator"
noncomputable abbrev zO(tup:Bool)(a:Addr):Obj:={cls:= .type (yDQ tup),data:= .fields #[.ref a,.int 0 0]}
theorem yA5{prog:Program}{w:World}{A:Around}{E:Value->Shared->Prop}{s:Shared}{tup:Bool}{a:Addr}{xs:Array Value}{Q:Value->Shared->Prop}(h:Src tup s.heap a xs)(hQ:Q (.ref s.heap.objs.size) {s with heap:=s.heap.push (zO tup a)}):
  wpAny (model prog w) A (pyIter (.ref a)) Q E s:=by
 cases tup with
 |true=>exact wpAny_pyIter_tuple h hQ
 |false=>exact wpAny_pyIter_list h hQ
theorem Src.push{tup:Bool}{h:Heap}{a:Addr}{xs:Array Value}(x:Src tup h a xs)(o:Obj):Src tup (h.push o) a xs:=by
 cases tup with
 |true=>obtain⟨o,e,r⟩:=x;exact⟨o,Heap.get?_push_of_some _ e,r⟩
 |false=>obtain⟨o,e,r⟩:=x;exact⟨o,Heap.get?_push_of_some _ e,r⟩
theorem zR2(t1 t2:Bool)(a b:Addr)(xs ys:Array Value):
  Meets (Builtin.«zip.__new__» ⟨[.type "zip",.ref a,.ref b],[]⟩) (fun _ R s=>Src t1 s.heap a xs/\Src t2 s.heap b ys/\ ∀h1 h2 h3 h4 h5,h1=s.heap.push (zO t1 a)->h2=h1.push (zO t2 b)->h3=h2.push {cls:= .type "tuple",data:= .seq #[.ref s.heap.objs.size,.ref h1.objs.size]}→
   h4=h3.push {cls:= .type "tuple",data:= .seq #[.none,.none]}->h5=h4.push {cls:= .type "zip",data:= .fields #[.none,.bool false,.bool false,.ref h2.objs.size,.ref h3.objs.size]}->R (.ok (.ret (.ref h4.objs.size))) {s with heap:=h5}):=by
 refine .of_wp fun prog w A R s h=> ?_
 obtain⟨hp,g,d,tk,os⟩:=s
 obtain⟨g1,g2,h⟩:=h
 have hs:=sub_zip
 have k1:Src t1 (Shared.heap ⟨hp,g,d,tk,os⟩) a xs:=g1
 have k2:Src t2 (Shared.heap ⟨hp.push (zO t1 a),g,d,tk,os⟩) b ys:=Src.push g2 _
 wp_walk using yA5 k1,yA5 k2
 exact⟨_,rfl,h _ _ _ _ _ rfl rfl rfl rfl rfl⟩
theorem zQS{prog:Program}{w:World}{A:Around}{E:Value->Shared->Prop}{s:Shared}{t1 t2:Bool}{a b:Addr}{xs ys:Array Value}{Q:Value->Shared->Prop}(g1:Src t1 s.heap a xs)(g2:Src t2 s.heap b ys)
  (h: ∀h',ZSt t1 t2 h' (s.heap.objs.size+4) (s.heap.objs.size+2) (s.heap.objs.size+3) s.heap.objs.size (s.heap.objs.size+1) a b 0 .none->(∀c o,s.heap.get? c=some o->h'.get? c=some o)->Q (.ref (s.heap.objs.size+4)) {s with heap:=h'}):
  wpAny (model prog w) A (call (.type "zip") [.ref a,.ref b]) Q E s:=by
 refine callType_new F.called_zip (by decide) (F.typeCall_zip_2 _ _) (F.newCall_zip_2 _ _) (fun obj=>F.args_object_init_3 obj _ _) F.entry_zip_new (zR2 t1 t2 a b xs ys) ⟨g1,g2,?_⟩
 rintro h1 h2 h3 h4 h5 e1 e2 e3 e4 e5
 have z1:h1.objs.size=s.heap.objs.size+1:=by rw[e1,Heap.size_push]
 have z2:h2.objs.size=s.heap.objs.size+2:=by rw[e2,Heap.size_push,z1]
 have z3:h3.objs.size=s.heap.objs.size+3:=by rw[e3,Heap.size_push,z2]
 have z4:h4.objs.size=s.heap.objs.size+4:=by rw[e4,Heap.size_push,z3]
 have u4: ∀c o,h4.get? c=some o->h5.get? c=some o:=fun c o q=>by rw[e5];exact Heap.get?_push_of_some _ q
 have u3: ∀c o,h3.get? c=some o->h5.get? c=some o:=fun c o q=>u4 c o (by rw[e4];exact Heap.get?_push_of_some _ q)
 have u2: ∀c o,h2.get? c=some o->h5.get? c=some o:=fun c o q=>u3 c o (by rw[e3];exact Heap.get?_push_of_some _ q)
 have u1: ∀c o,h1.get? c=some o->h5.get? c=some o:=fun c o q=>u2 c o (by rw[e2];exact Heap.get?_push_of_some _ q)
 have u0: ∀c o,s.heap.get? c=some o->h5.get? c=some o:=fun c o q=>u1 c o (by rw[e1];exact Heap.get?_push_of_some _ q)
 have o5:h5.get? h4.objs.size=some {cls:= .type "zip",data:= .fields #[.none,.bool false,.bool false,.ref h2.objs.size,.ref h3.objs.size]}:=by rw[e5];exact Heap.get?_push_size _ rfl
 have o4:h5.get? h3.objs.size=some {cls:= .type "tuple",data:= .seq #[.none,.none]}:=u4 _ _ (by rw[e4];exact Heap.get?_push_size _ rfl)
 have o3:h5.get? h2.objs.size=some {cls:= .type "tuple",data:= .seq #[.ref s.heap.objs.size,.ref h1.objs.size]}:=u3 _ _ (by rw[e3];exact Heap.get?_push_size _ rfl)
 have o2:h5.get? h1.objs.size=some (zO t2 b):=u2 _ _ (by rw[e2];exact Heap.get?_push_size _ rfl)
 have o1:h5.get? s.heap.objs.size=some (zO t1 a):=u1 _ _ (by rw[e1];exact Heap.get?_push_size _ rfl)
 show _/\_
 rw[z2,z3,z4] at o5
 rw[z3] at o4
 rw[z1,z2] at o3
 rw[z1] at o2
 rw[z4]
 refine⟨⟨_,o5,rfl⟩,h _ ⟨o5,o3,⟨_,_,o4⟩,?_,?_⟩ u0⟩
 ·cases t1 with
  |true=>exact⟨_,o1,rfl,rfl⟩
  |false=>exact⟨_,o1,rfl,rfl⟩
 ·cases t2 with
  |true=>exact⟨_,o2,rfl,rfl⟩
  |false=>exact⟨_,o2,rfl,rfl⟩
theorem zW9(n a b:Nat)(ha:a<n)(hb:b<n):ZipApart (n+4) (n+2) (n+3) n (n+1) a b:=by
 have f: ∀x y:Nat,x<y∨y<x->x≠y:=fun x y h=>by omega
 exact⟨f _ _ (by omega),f _ _ (by omega),f _ _ (by omega),f _ _ (by omega),f _ _ (by omega),f _ _ (by omega),f _ _ (by omega),f _ _ (by omega),f _ _ (by omega),f _ _ (by omega),f _ _ (by omega),f _ _ (by omega),f _ _ (by omega),f _ _ (by omega),f _ _ (by omega),f _ _ (by omega),f _ _ (by omega),f _ _ (by omega)⟩
noncomputable def Itz(K:W.Frag)(t1 t2:Bool)(a b:Addr):It:=
  ⟨fun i H => ∃ xs ys x y,SqA K t1 H a xs /\ SqA K t2 H b ys /\ xs[i]? = some x /\ ys[i]? = some y,
   fun i H v H'=> ∃p x y,(∀xs,SqA K t1 H a xs->xs[i]? =some x)/\(∀ys,SqA K t2 H b ys->ys[i]? =some y)/\H p=none/\H'=upd H p (.tup [x,y])/\v= .ref p,
   fun i H=> ∃xs ys,SqA K t1 H a xs/\SqA K t2 H b ys/\(xs.length<=i∨ys.length<=i)⟩
theorem zRH{P:Program}{w:World}{K:W.Frag}{es:List Expr}{k:Nat}{pos:Pos}(t1 t2:Bool)(z p q i1 i2 a b:Addr)(D:ZipApart z p q i1 i2 a b):
  Turn P w K (.Tuple es k pos) (Itz K t1 t2 a b) [z,p,q,i1,i2] z (fun i h=>ZSt t1 t2 h z p q i1 i2 a b i .none) where
 mem := by simp
 obj := fun i h st c hc => by
  simp only[List.mem_cons,List.not_mem_nil,or_false] at hc
  rcases hc with rfl|rfl|rfl|rfl|rfl
  ·exact ⟨_,st.zip,fun v e => by cases e⟩
  ·exact ⟨_,st.its,fun v e => by cases e⟩
  ·obtain⟨u,v,g⟩:=st.res
   exact⟨_,g,fun v e=>by cases e⟩
  ·exact st.one.obj
  ·exact st.two.obj
 keep:=fun i h h' st kk=>by
  obtain⟨u,v,g⟩:=st.res
  exact⟨kk z (by simp) _ st.zip,kk p (by simp) _ st.its,⟨u,v,kk q (by simp) _ g⟩,st.one.at fun o e=>kk i1 (by simp) o e,st.two.at fun o e=>kk i2 (by simp) o e⟩
 item:=by
  intro X hP hw hK hc i a6 s σ H E I hf st hg
  subst hP hw hK
  obtain⟨xs,ys,x,y,hq1,hq2,hx,hy⟩:=hg
  obtain⟨us,r1,g1,_⟩:=I.srcA hq1
  obtain⟨vs,r2,g2,_⟩:=I.srcA hq2
  obtain⟨u,hu,ru⟩:=r1.get hx
  obtain⟨v,hv,rv⟩:=r2.get hy
  refine zNL D st g1 g2 (by simpa using hu) (by simpa using hv) fun h1 st1 hp hsz hk=>⟨_,rfl,?_⟩
  refine wpAny_letOwnedTupleGo_zip (s:={s with heap:=h1}) st1.zip fun h2 z2 sb=> ?_
  have sb:Heap.SameBut z h1 h2:=sb
  have lt: ∀c∈[z,p,q,i1,i2],c<s.heap.objs.size:=fun c hc=>by
   simp only[List.mem_cons,List.not_mem_nil,or_false] at hc
   rcases hc with rfl|rfl|rfl|rfl|rfl
   ·exact Heap.lt_size st.zip
   ·exact Heap.lt_size st.its
   ·obtain⟨u,v,g⟩:=st.res
    exact Heap.lt_size g
   ·obtain⟨o,e,_⟩:=st.one.obj
    exact Heap.lt_size e
   ·obtain⟨o,e,_⟩:=st.two.obj
    exact Heap.lt_size e
  have up: ∀c o,c≠z->h1.get? c=some o->h2.get? c=some o:=fun c o hcz e=>(sb.2 c hcz).trans e
  have st2:ZSt t1 t2 h2 z p q i1 i2 a b (i+1) .none:=by
   obtain⟨u',v',g⟩:=st1.res
   exact⟨z2,up _ _ D.TIz st1.its,⟨u',v',up _ _ D.TOz g⟩,st1.one.at fun o e=>up _ o D.i1z e,st1.two.at fun o e=>up _ o D.i2z e⟩
  have cr:h2.get? s.heap.objs.size=some {cls:= .type "tuple",data:= .seq #[u,v]}:=up _ _ (Nat.ne_of_gt (lt z (by simp))) hp
  have az:H s.heap.objs.size=none:=I.hok.fresh (Nat.le_refl _)
  have I0:Inv X a6 σ (upd H s.heap.objs.size (.tup [x,y])) {s with heap:=s.heap.push {cls:= .type "tuple",data:= .seq #[u,v]},toks:=s.toks}:=
   I.laid (fun c o e=>Heap.get?_push_of_some _ e) (Nat.le_refl _) ⟨by show 2<=sizeLine;decide,[u,v],.cons ru (.cons rv .nil),IsTup.new _ _⟩
  have I1:Inv X a6 σ (upd H s.heap.objs.size (.tup [x,y])) {s with heap:=h2,toks:=s.toks}:=by
   refine Inv.turnedL (s:={s with heap:=s.heap.push {cls:= .type "tuple",data:= .seq #[u,v]},toks:=s.toks}) (h':=h2) (t':=s.toks) (fp:=[z,p,q,i1,i2]) I0 (fun c o hc e=> ?_) (fun c hc=> ?_) fun c hc=>⟨by rw[zB3 (Nat.ne_of_lt (lt c hc))];exact(hf c hc).1,(hf c hc).2⟩
   ·by_cases hcn:c=s.heap.objs.size
    ·subst hcn
     have e:(s.heap.push {cls:= .type "tuple",data:= .seq #[u,v]}).get? s.heap.objs.size=some o:=e
     rw[Heap.get?_push_size _ rfl] at e
     cases e
     exact cr
    ·have e':=(Heap.get?_push_ne _ _ _ hcn).symm.trans e
     exact up c o (fun w=>hc (by simp[w])) (hk c o (fun w=>hc (by simp[w])) (fun w=>hc (by simp[w])) (fun w=>hc (by simp[w])) (fun w=>hc (by simp[w])) e')
   ·simp only[List.mem_cons,List.not_mem_nil,or_false] at hc
    rcases hc with rfl|rfl|rfl|rfl|rfl
    ·exact⟨_,st2.zip⟩
    ·exact⟨_,st2.its⟩
    ·obtain⟨u,v,g⟩:=st2.res
     exact⟨_,g⟩
    ·obtain⟨o,e,_⟩:=st2.one.obj
     exact⟨o,e⟩
    ·obtain⟨o,e,_⟩:=st2.two.obj
     exact⟨o,e⟩
  exact⟨.ref s.heap.objs.size,_,I1,rfl,⟨_,x,y,fun zs hz=>by rw[I.sq_inj hz hq1];exact hx,fun zs hz=>by rw[I.sq_inj hz hq2];exact hy,az,rfl,rfl⟩,st2,fun c hc=>by
   rw[zB3 (Nat.ne_of_lt (lt c hc))]
   exact(hf c hc).1⟩
 done:=by
  intro X hP hw hK hc i a6 s σ H E I hf st hg
  subst hP hw hK
  obtain⟨xs,ys,hq1,hq2,ee⟩:=hg
  obtain⟨us,r1,g1,_⟩:=I.srcA hq1
  obtain⟨vs,r2,g2,_⟩:=I.srcA hq2
  have l1:=r1.length
  have l2:=r2.length
  have he:us.toArray[i]? =none∨vs.toArray[i]? =none:=by
   rcases ee with z|z
   ·exact .inl (by simp;omega)
   ·exact .inr (by simp;omega)
  refine zPT (I.ok.hd hc) D st g1 g2 he fun h1 hk=>⟨rfl,?_⟩
  have fq: ∀c∈[z,q,i1,i2],c∈[z,p,q,i1,i2]:=fun c hc=>by
   simp only[List.mem_cons,List.not_mem_nil,or_false] at hc⊢
   rcases hc with w|w|w|w<;>simp[w]
  have I':=Inv.turnedL' (s:=s) (h':=h1) (t':=s.toks) (fp:=[z,q,i1,i2]) I (fun c o hc e=>hk c o (fun w=>hc (by simp[w])) (fun w=>hc (by simp[w])) (fun w=>hc (by simp[w])) (fun w=>hc (by simp[w])) e) fun c hc=>hf c (fq c hc)
  exact I'
 self:=fun _ i _ _ _ st h=>wpAny_pyIter_zip st.zip h
section
variable{X:Cx}{K:W.Frag}{ml:List Nat}{l m:Expr}{pa ta ia pb tb ib:Bool}{f g:VF}{p pos cg:Pos}{es:List Expr}{tk:Nat}{δ:Ev}
def iZp(K:W.Frag)(tl tm:TE):TI:=fun σ H R=>tl σ H fun x H1=>tm σ H1 fun y H2=> ∃a b t1 t2,x= .ref a/\y= .ref b/\(∃xs,SqA K t1 H2 a xs)/\(∃ys,SqA K t2 H2 b ys)/\R (Itz K t1 t2 a b) H2
theorem zXY{tl tm:TE}(hg:Gl X "zip") (hm:X.mg "zip"=none) (hl:PE X l tl) (hr:PE X m tm) (he:starEach (l::[m]) X.env=(false,eval l X.env)::starEach [m] X.env:=by rfl) (he2:starEach (m::[]) X.env=(false,eval m X.env)::starEach [] X.env:=by rfl)
  (hpl : (backTo pos (starEach [m] X.env)).any (·.1) = false := by rfl) : PI X (.Tuple es tk cg) (.Call (.Name "zip" p) [l,m] [] pos) (iZp X.K tl tm) := by
 intro a6 s σ H R I h
 refine wpAny_Call_Name_kw (zH6 I hg hm yAH ?_ (by decide) (by decide))
 refine PyProof.Rows.callWith_type1 (thn (zAQ hl (zAQ hr zC1 he2) he pos a6 s σ H (fun vs H1=>match vs with
  |[x,y]=> ∃a b t1 t2,x= .ref a/\y= .ref b/\(∃xs,SqA X.K t1 H1 a xs)/\(∃ys,SqA X.K t2 H1 b ys)/\R (Itz X.K t1 t2 a b) H1
  |_=>False) I h) fun us s1 ⟨vs,H1,I1,r1,q1⟩=> ?_) he hpl
 match vs,r1,q1 with
 |[x,y],r1,q1=>
  obtain⟨a,b,t1,t2,rfl,rfl,⟨xs,hq1⟩,⟨ys,hq2⟩,hR⟩:=q1
  obtain⟨u,v,rfl,ru,rv⟩:=zRF r1
  cases ru
  cases rv
  obtain⟨us,w1,g1,_⟩:=I1.srcA hq1
  obtain⟨vs,w2,g2,_⟩:=I1.srcA hq2
  refine zQS g1 g2 fun h' st kp=> ?_
  have I2:Inv X a6 σ H1 {s1 with heap:=h'}:=I1.kept (t':=s1.toks) kp
  have ha:=g1.lt
  have hb:=g2.lt
  have D:ZipApart (s1.heap.objs.size+4) (s1.heap.objs.size+2) (s1.heap.objs.size+3) s1.heap.objs.size (s1.heap.objs.size+1) a b:=by exact zW9 _ a b ha hb
  refine wpAny_pyIter_zip st.zip ⟨s1.heap.objs.size+4,[s1.heap.objs.size+4,s1.heap.objs.size+2,s1.heap.objs.size+3,s1.heap.objs.size,s1.heap.objs.size+1],_,Itz X.K t1 t2 a b,H1,rfl,I2,zRH t1 t2 _ _ _ _ _ a b D,st,fun c hc=> ?_,hR⟩
  have hc':s1.heap.objs.size<=c:=by
   simp only[List.mem_cons,List.not_mem_nil,or_false] at hc
   rcases hc with w|w|w|w|w<;>rw[w]<;>first|exact Nat.le_add_right _ _|exact Nat.le_refl _
  exact I1.fpOk hc' (I1.hok.fresh hc')
theorem yDL(h:X.K=K){tl tm:TE}(hg:Gl X "zip") (hm:X.mg "zip"=none) (hl:PE X l tl) (hr:PE X m tm) (he:starEach (l::[m]) X.env=(false,eval l X.env)::starEach [m] X.env:=by rfl) (he2:starEach (m::[]) X.env=(false,eval m X.env)::starEach [] X.env:=by rfl)
  (hpl:(backTo pos (starEach [m] X.env)).any (·.1)=false:=by rfl):PI X (.Tuple es tk cg) (.Call (.Name "zip" p) [l,m] [] pos) (iZp K tl tm):=by subst h;exact zXY hg hm hl hr he he2 hpl
noncomputable def zipD:List Dat->List Dat->List Dat
 |d::ds,e::es=> .tup [d,e]::zipD ds es
 |_,_=>[]
noncomputable def iZip(f g:VF):VI:=fun δ=>(f δ).bind fun p=>(g p.2).bind fun q=>(seqD p.1).bind fun ds=>(seqD q.1).map fun es=>(zipD ds es,q.2)
theorem zLR: ∀{ds es:List Dat} {i:Nat} {d:Dat},(zipD ds es)[i]? =some d-> ∃x y,ds[i]? =some x/\es[i]? =some y/\d= .tup [x,y]
 |[],_,_,_,h=>by simp[zipD] at h
 |_::_,[],_,_,h=>by simp[zipD] at h
 |x::ds,y::es,0,d,h=>by simp[zipD] at h;exact⟨x,y,rfl,rfl,h.symm⟩
 |x::ds,y::es,i+1,d,h=>by
  obtain⟨x',y',h1,h2,h3⟩:=zLR (ds:=ds) (es:=es) (i:=i) (d:=d) (by simpa[zipD] using h)
  exact⟨x',y',by simpa using h1,by simpa using h2,h3⟩
theorem zLQ: ∀{ds es:List Dat},ds.length<=(zipD ds es).length∨es.length<=(zipD ds es).length
 |[],_=> .inl (Nat.zero_le _)
 |_::_,[]=> .inr (Nat.zero_le _)
 |x::ds,y::es=>by
  rcases zLQ (ds:=ds) (es:=es) with h|h
  ·exact .inl (Nat.succ_le_succ h)
  ·exact .inr (Nat.succ_le_succ h)
noncomputable def yDR:Dat->Bool
 | .tup _=>true
 |_=>false
theorem Rep.sqA{N M:Addr->Prop}{H:Hp}{v:V}{d:Dat}{ds:List Dat}(h:Rep K N H M v d)(e:seqD d=some ds): ∃a tup xs,v= .ref a/\SqA K tup H a xs/\RepA K N H xs ds/\tup=yDR d:=by
  cases d<;>first
    | (cases e
       obtain⟨a,xs,h1,h2,h3⟩:=h.tupE
       exact⟨a,true,xs,h1,h2,h3,rfl⟩)
    | (cases e
       obtain⟨a,xs,h1,h2,h3⟩:=h.lstE
       exact⟨a,false,xs,h1,h2,h3,rfl⟩)
    |cases e
theorem zSZ(hK:X.K=K)(hg:Gl X "zip") (hm:X.mg "zip"=none) (h:PE X l (TV K ml pa true true f)) (h':PE X m (TV K ml pb true true g)) (he:starEach (l::[m]) X.env=(false,eval l X.env)::starEach [m] X.env:=by rfl) (he2:starEach (m::[]) X.env=(false,eval m X.env)::starEach [] X.env:=by rfl)
  (hpl : (backTo pos (starEach [m] X.env)).any (·.1) = false := by rfl) : PI X (.Tuple es tk cg) (.Call (.Name "zip" p) [l,m] [] pos) (TIV K ml (pa && pb) (iZip f g)) := (yDL (K := K) hK hg hm h h' he he2 hpl).imp fun σ H R ⟨B,O,δ,ds,δ2,S,q,k⟩ => by
 unfold iZip at q
 cases h1:f δ with
 | none => rw [h1] at q;cases q
 |some p1=>
  obtain⟨x,δ1⟩:=p1
  rw[h1] at q
  cases h2:g δ1 with
  | none => simp [h2] at q
  |some p2=>
   obtain⟨y,δ3⟩:=p2
   simp only[Option.bind_some,h2] at q
   cases h3:seqD x with
   | none => rw [h3] at q;cases q
   |some xs=>
    rw[h3] at q
    have q:(seqD y).map (fun es=>(zipD xs es,δ3))=some (ds,δ2):=q
    cases h4:seqD y with
    | none => rw [h4] at q;cases q
    |some ys=>
     rw[h4] at q
     cases q
     refine⟨B,O,δ,x,δ1,S,h1,fun v1 H1 R1=>⟨B,O,δ1,y,_,R1.sta,h2,fun v2 H2 R2=> ?_⟩⟩
     have r1:=R1.rep.fr R2.frm (fun a z=> .inr z) fun a z=> .inr z
     obtain⟨a,t1,us,e1,q1,w1,et1⟩:=r1.sqA h3
     obtain⟨b,t2,vs,e2,q2,w2,et2⟩:=R2.rep.sqA h4
     refine⟨a,b,t1,t2,e1,e2,⟨us,q1⟩,⟨vs,q2⟩,k _ [(v1,x),(v2,y)] H2 (R2.sta.keepV fun z hz=> ?_) (R1.frm.trans R2.frm) (fun z=> ?_) ?_⟩
     ·simp only[List.mem_cons,List.not_mem_nil,or_false] at hz
      rcases hz with rfl|rfl
      ·exact r1
      ·exact R2.rep
     ·obtain⟨z1,z2⟩:=(Bool.and_eq_true _ _).mp z
      exact(R1.pur z1).trans (R2.pur z2)
     ·intro N H h
      obtain⟨a',t1',us',f1,f2,f3,f4⟩:=(h (v1,x) (by simp)).sqA h3
      obtain⟨b',t2',vs',g1,g2,g3,g4⟩:=(h (v2,y) (by simp)).sqA h4
      have f1:v1= .ref a':=f1
      have g1:v2= .ref b':=g1
      rw[e1] at f1
      rw[e2] at g1
      cases f1
      cases g1
      have:t1'=t1:=f4.trans et1.symm
      subst this
      have:t2'=t2:=g4.trans et2.symm
      subst this
      refine⟨fun i d e=> ?_,us',vs',f2,g2,?_⟩
      ·obtain⟨dx,dy,hx,hy,rfl⟩:=zLR e
       obtain⟨ux,ex,rx⟩:=f3.get hx
       obtain⟨uy,ey,ry⟩:=g3.get hy
       refine⟨⟨us',vs',ux,uy,f2,g2,ex,ey⟩,fun z H' hz=> ?_⟩
       obtain⟨pp,x',y',c1,c2,hp,rfl,rfl⟩:=hz
       have d1:=c1 us' f2
       have d2:=c2 vs' g2
       rw[ex] at d1
       rw[ey] at d2
       cases d1
       cases d2
       exact⟨zA4 hp,.tup (SqT.of zAK) (.cons (rx.same (zA4 hp)) (.cons (ry.same (zA4 hp)) .nil))⟩
      ·rcases zLQ (ds:=xs) (es:=ys) with w|w
       ·exact .inl (by rw[f3.length];exact w)
       ·exact .inr (by rw[g3.length];exact w)
end
end L2
namespace L2
open PySem PySem.Spec PyProof.Rows PySem.W
section
variable{prog:Program}{w:World}{A:Around}{E:Value->Shared->Prop}{s:Shared}
theorem zNC{t:Addr}{items:Array Value}{Q:List Value->Shared->Prop}(hh:A.handled=none)(ht:IsTup s.heap t items)(h1:1<=items.size)(hz:items.size<=16777216)
  (hQ: ∀(x:Value) (hb:Heap) (tk:Nat),items[0]? =some x->(∀b o,s.heap.get? b=some o->hb.get? b=some o)->Q [x,.ref hb.objs.size] {s with heap:=hb.push {cls:= .type "list",data:= .seq (items.toList.drop 1).toArray},toks:=tk}):
  wpAny (model prog w) A (unpackItems (.ref t) 2 (some 1)) Q E s:=by
 have hne:t≠s.heap.objs.size:=by obtain⟨o,e,_⟩:=ht;exact Nat.ne_of_lt (Heap.lt_size e)
 (unfold unpackItems)
 refine wpAny_bind ?_
 (unfold notIterableAtAll)
 refine wpAny_bind (wpAny_specialOf ht.typeIs slot_tuple_iter.lookup (wpAny_pure ?_))
 simp only[Bool.false_eq_true,if_false]
 refine wpAny_bind (wpAny_holding (iter_tuple ht (wpAny_bind (wpAny_holding (draw_tuple hne 1 0 _ _ ⟨_,Heap.get?_push_size _ rfl,rfl,rfl⟩ (ht.push _) (by omega) fun ha ia ba=> ?_)))))
 have ta:IsTup ha t items:=(ht.push _).extBut ba.extBut hne
 have ia:ha.IsTupleIter s.heap.objs.size t 1:=ia
 obtain⟨oi,gi,_⟩:=id ia
 obtain⟨ot,gt,_⟩:=id ta
 have hsz:ha.objs.size=s.heap.objs.size+1:=by rw[ba.1,Heap.size_push]
 have mv:((items.toList.drop 0).take 1).length=1:=by simp;omega
 rw[if_neg (show¬((items.toList.drop 0).take 1).length<1 by rw[mv];exact Nat.lt_irrefl _)]
 refine wpAny_bind (wpAny_holding (kun_collect (s:={s with heap:=ha}) (T:= "tuple_iterator") (.inr (.inr (.inr rfl))) (Walks.tuple (A:=A.in1) hh s.heap.objs.size t hne items) (fun j u st=>st.1.typeIs) (k:=1) h1 ⟨ia,ta⟩ (Heap.lt_size gi) (Heap.lt_size gt) (fun hb tk kb=> ?_) (by rw[sizeLine_eq];exact hz)))
 have on:(items.toList.drop 1).length=items.size - 1:=by simp
 show wpAny _ _ (if(items.toList.drop 1).length<2 - 1 - 1 then _ else _) _ _ _
 rw[if_neg (Nat.not_lt_zero _)]
 show wpAny _ _ (newList ((items.toList.drop 1).take ((items.toList.drop 1).length - (2 - 1 - 1)))>>=fun d=>pure ((items.toList.drop 0).take 1++[d]++(items.toList.drop 1).drop ((items.toList.drop 1).length - (2 - 1 - 1)))) _ _ _
 have e1:(items.toList.drop 1).take ((items.toList.drop 1).length - (2 - 1 - 1))=items.toList.drop 1:=List.take_of_length_le (Nat.le_refl _)
 have e2:(items.toList.drop 1).drop ((items.toList.drop 1).length - (2 - 1 - 1))=[]:=List.drop_length
 rw[e1,e2]
 refine wpAny_bind (wpAny_newObj_type (wpAny_pure ?_) (by show _<=sizeLine;rw[sizeLine_eq];simp;omega))
 obtain⟨x,hx⟩: ∃x,items[0]? =some x:=⟨items[0],by simp[show 0<items.size by omega]⟩
 have e3:(items.toList.drop 0).take 1=[x]:=by
  rw[List.drop_zero]
  have:items.toList[0]? =some x:=by simpa using hx
  cases hl:items.toList with
  |nil=>rw[hl] at this;cases this
  |cons y r=>rw[hl] at this;cases this;rfl
 rw[e3]
 have keep: ∀b o,s.heap.get? b=some o->hb.get? b=some o:=fun b o e=>kb b o (Nat.ne_of_lt (Heap.lt_size e)) (ba.extBut b o (Nat.ne_of_lt (Heap.lt_size e)) (Heap.get?_push_of_some _ e))
 exact hQ x hb tk hx keep
end
section
variable{X:Cx}{K:W.Frag}{ml:List Nat}{e a b c:Expr}{es:List Expr}{pa ta ia pb tb ib pc tc ic pu bt bi ps bs:Bool}{fa fb fc f:VF}{B B':Bs}{O:Nat->Option Addr}{H H0 H1 H':Hp}{σ:St}{δ δ':Ev}{v:V}{d:Dat}{p:Addr}{pos:Pos}
def yDY(K:W.Frag)(i j:Nat):TG:=fun v σ H Q=> ∃a x xs,v= .ref a/\SqT K H a (x::xs)/\ ∀p,H p=none->Q ((σ.set i (some x)).set j (some (.ref p))) (upd H p (.lst xs))
theorem zV5{i j:Nat}{x y:Str}{px py ps tp:Pos}{k:Nat}(hc:X.calm=true)(hN:X.N.Nodup)(hi:X.N[i]? =some x)(hj:X.N[j]? =some y)(hx:Loc X.env.scope x)(hy:Loc X.env.scope y)
  (fx:X.fn x=true∨X.env.scope.names.lookup x=some .local) (fy:X.fn y=true∨X.env.scope.names.lookup y=some .local)
  (hl:(assignEach [.Name x px,.Starred (.Name y py) ps] X.env).map (·.2)=[assign (.Name x px) X.env,assign (.Name y py) X.env]) (hn:(assignEach [.Name x px,.Starred (.Name y py) ps] X.env).length=2) (hst:(assignEach [.Name x px,.Starred (.Name y py) ps] X.env).findIdx? (·.1)=some 1):
  PG X (.Tuple [.Name x px,.Starred (.Name y py) ps] k tp) (yDY X.K i j):=by
 intro a6 s σ H v u Q I r hw
 obtain⟨a,z,zs,e1,hq,q⟩:=hw
 subst e1
 cases r
 obtain⟨its,rv,ht,hz⟩:=I.tuple hq
 rw[assign_Tuple]
 refine wpAny_bind (wpAny_standAt ?_)
 (unfold unpack)
 rw[hn,hst]
 have aa:=rv.length
 rw[List.length_cons] at aa
 have hz':its.length<=16777216:=by rw[<- sizeLine_eq,<- aa];exact hz
 refine wpAny_bind (wpAny_holding (zNC (I.ok.hd hc) ht (by rw[List.size_toArray];omega) (by rw[List.size_toArray];exact hz') fun u hb tk hu kp=> ?_))
 rw[hl]
 cases rv with
 | @cons _ w _ ws rz rzs=>
  have hu:some w=some u:=by simpa using hu
  cases hu
  have I1:Inv X a6 σ H {s with heap:=hb,toks:=tk}:=I.kept kp
  have I2:=Inv.lnew (s:={s with heap:=hb,toks:=tk}) (t':=tk) I1 rzs (by rw[sizeLine_eq];simp only[List.length_cons] at hz' aa;have:=rzs.length;omega)
  refine assignInOrder_cons (wpAny_assign_Name (zCS I2 hN hi hx rz (fun s3 I3=> ?_) fx))
  refine assignInOrder_cons (wpAny_assign_Name (zCS I3 hN hj hy (v:= .ref hb.objs.size) rfl (fun s4 I4=>assignInOrder_nil ⟨_,_,I4,q _ (I1.hok.fresh (Nat.le_refl _))⟩) fy))
noncomputable def zNE(i j:Nat)(f:VF):VS:=fun δ=>(f δ).bind fun p=>match p.1 with
 | .tup (d::ds)=>some (.nx ((p.2.set i (.va d)).set j (.va (.lst ds))))
 |_=>none
theorem zNX{i j:Nat}{x y:Str}{px py sp tp:Pos}{k:Nat}(hK:X.K=K)(hc:X.calm=true)(hN:X.N.Nodup)(hi:X.N[i]? =some x)(hj:X.N[j]? =some y)(hij:i≠j)(hx:Loc X.env.scope x)(hy:Loc X.env.scope y)(he:PE X e (TV K ml pu true true f))
  (hmi : i ∉ ml := by decide) (hmj : j ∉ ml := by decide)
  (fx : X.fn x = true ∨ X.env.scope.names.lookup x = some .local := by first | exact .inl rfl | exact .inr rfl | assumption) (fy : X.fn y = true ∨ X.env.scope.names.lookup y = some .local := by first | exact .inl rfl | exact .inr rfl | assumption)
  (hl : (assignEach [.Name x px,.Starred (.Name y py) sp] X.env).map (·.2) = [assign (.Name x px) X.env,assign (.Name y py) X.env] := by rfl) (hn : (assignEach [.Name x px,.Starred (.Name y py) sp] X.env).length = 2 := by rfl) (hst : (assignEach [.Name x px,.Starred (.Name y py) sp] X.env).findIdx? (·.1) = some 1 := by rfl)
  (hs : swapsWithSole [.Tuple [.Name x px,.Starred (.Name y py) sp] k tp] e pos.line X.env = pure false := by rfl) (hw : swappedStores [.Tuple [.Name x px,.Starred (.Name y py) sp] k tp] e X.env = pure none := by rfl)
  (h1 : (assignEach [.Tuple [.Name x px,.Starred (.Name y py) sp] k tp] X.env).map (·.2) = [assign (.Tuple [.Name x px,.Starred (.Name y py) sp] k tp) X.env] := by rfl) :
  PS X (.Assign [.Tuple [.Name x px,.Starred (.Name y py) sp] k tp] e pos) (TSt K ml (zNE i j f)):=by
 subst hK
 refine(zME he (zV5 hc hN hi hj hx hy fx fy hl hn hst) hs hw h1).imp fun D σ H ⟨B,O,δ,o,S,q,k⟩=> ?_
 unfold zNE at q
 cases h1:f δ with
 | none => rw [h1] at q;cases q
 |some p1=>
  obtain⟨z,δ1⟩:=p1
  rw[h1] at q
  refine⟨B,O,δ,z,δ1,S,h1,fun v H1 R=> ?_⟩
  cases z with
  |tup ds=>
   cases ds with
   | nil => cases q
   |cons d ds=>
    cases q
    obtain⟨a,xs,rfl,sq,r⟩:=R.rep.tupE
    cases r with
    | @cons v0 vs _ _ r1 r2=>
     refine⟨a,v0,vs,rfl,sq,fun p hp=> ?_⟩
     have S1:=(R.sta.same (zA4 (o:= .lst vs) hp)).setVa hmi (r1.same (zA4 (o:= .lst vs) hp))
     have N1: ∀c,Nn B (fun j=>if j=i then none else O j) c->Nn B O c:=zK0 (o:=none)
     refine k _ _ _ (S1.setVa hmj (.lst zAK (fun z=>R.sta.new hp (N1 _ z)) ((r2.same (zA4 hp)).mono N1)))
  |_=>cases q
end
end L2
namespace L2
open PySem PySem.Spec PyProof.Rows
section
variable{X:Cx}{K:W.Frag}{ml:List Nat}{e a b c:Expr}{es:List Expr}{pa ta ia pb tb ib pc tc ic pu bt bi ps bs:Bool}{fa fb fc f:VF}{B B':Bs}{O:Nat->Option Addr}{H H0 H1 H':Hp}{σ:St}{δ δ':Ev}{v:V}{d:Dat}{p:Addr}{pos:Pos}
def rInD(K:W.Frag)(neg:Bool):R2:=fun x y H Q=> ∃d e ds,Dp K H x d/\Dp K H y e/\(e= .list ds∨e= .tuple ds)/\SeqAt.shaped d=true/\SeqAt.shaped e=true/\Q (.bl (if neg then !ds.any (fun z=>PyData.eqv z d) else ds.any fun z=>PyData.eqv z d)) H
theorem zGB{d:PyData}(h:SeqAt.shaped d=true):d.canLay0=true/\d.depth<=64:=by
 unfold SeqAt.shaped at h
 simp only[Bool.and_eq_true,decide_eq_true_eq] at h
 exact h
theorem zTI(neg:Bool)(hu:X.A.units+64<cLine):OpR X (compareOp (if neg then .NotIn else .In)) (rInD X.K neg):=by
 intro a6 s σ H x y v u Q I rx ry h
 obtain⟨d,e,ds,hd,he,hk,sd,se,q⟩:=h
 obtain⟨as,h1⟩:=I.reads hd rx
 obtain⟨bs,h2⟩:=I.reads he ry
 obtain⟨c1,d1⟩:=zGB sd
 obtain⟨c2,d2⟩:=zGB se
 have fin: ∀k,(k=if neg then !ds.any (fun z=>PyData.eqv z d) else ds.any fun z=>PyData.eqv z d)->EP X a6 σ Q (.bool k) s:=fun k hk=>by subst hk;exact⟨.bl _,H,I,rfl,q⟩
 rcases hk with rfl|rfl
 ·have hc : PyData.canLayAll0 ds = true := by simpa [PyData.canLay0] using c2
  have o9:PyData.depthAll ds<=63:=by simp only[PyData.depth] at d2;omega
  have hm:X.A.units+1+min (PyData.depthAll ds) d.depth<cLine:=by have:=Nat.min_le_left (PyData.depthAll ds) d.depth;omega
  cases neg with
  |false=>exact SeqAt.in_list_reads h2 h1 hc c1 hm (fin _ rfl)
  |true=>exact SeqAt.notIn_list_reads h2 h1 hc c1 hm (fin _ rfl)
 ·have hc : PyData.canLayAll0 ds = true := by simpa [PyData.canLay0] using c2
  have o9:PyData.depthAll ds<=63:=by simp only[PyData.depth] at d2;omega
  have hm:X.A.units+1+min (PyData.depthAll ds) d.depth<cLine:=by have:=Nat.min_le_left (PyData.depthAll ds) d.depth;omega
  cases neg with
  |false=>exact SeqAt.in_tuple_reads h2 h1 hc c1 hm (fin _ rfl)
  |true=>exact SeqAt.notIn_tuple_reads h2 h1 hc c1 hm (fin _ rfl)
theorem kInD(h:X.K=K)(hu:X.A.units+64<cLine):OpR X (compareOp .In) (rInD K false):=by subst h;exact zTI false hu
theorem zH9(h:X.K=K)(hu:X.A.units+64<cLine):OpR X (compareOp .NotIn) (rInD K true):=by subst h;exact zTI true hu
noncomputable def inE(d:Dat)(ds:List Dat):Bool:=(pds ds).any fun z=>PyData.eqv z d.pd
noncomputable def oInD(neg:Bool)(d e:Dat):Option Dat:=(seqD e).bind fun ds=>if(okD d && okD e)=true then some (.bl (if neg then !inE d ds else inE d ds)) else none
theorem zCT{neg:Bool}:OpS K (rInD K neg) (oInD neg):=by
 intro H N N' M M' x y d e c Q hx hy h k
 unfold oInD at h
 cases hs:seqD e with
 | none => rw [hs] at h;cases h
 |some ds=>
  rw[hs] at h
  have h:(if(okD d && okD e)=true then some (Dat.bl (if neg then !inE d ds else inE d ds)) else none)=some c:=h
  split at h
  ·rename_i hh
   cases h
   simp only[okD,Bool.and_eq_true] at hh
   refine⟨d.pd,e.pd,pds ds,hx.dp hh.1.1,hy.dp hh.2.1,?_,hh.1.2,hh.2.2,k _ fun _ _ _=> .bl _⟩
   cases e<;>first
    |(cases hs;exact .inr rfl)
    |(cases hs;exact .inl rfl)
    |cases hs
  ·cases h
def yBB(K:W.Frag)(td ty:TE):TE:=fun σ H Q=>td σ H fun x H1=> ∃a,x= .ref a/\((IsD H1 a/\ty σ H1 fun y H2=> ∃o,DGet H2 a y o/\Q (o.getD .non) H2)∨ ∃D,KTab K a D/\ty σ H1 fun y H2=> ∃k,y= .str k/\Q ((KTD.datumAt k D).getD .non) H2)
theorem zS5{aj a8:Pos}{td ty:TE}(hu:X.A.units+1<cLine)(ho:PE X a td)(he:PE X e ty)(m:M1 X a "get" aj e a8):PE X (.Call (.Attribute a "get" aj) [e] [] a8) (yBB X.K td ty):=by
 intro a6 s σ H Q I h
 refine wpAny_Call_method m.base m.few m.line PySem.F.plainAttrs_dict PySem.F.slot_dict_get PySem.F.type_dict_get (thn (ho a6 s σ H _ I h) fun u s1 ⟨x,H1,I1,rx,l,ex,q1⟩=> ?_)
 subst ex
 obtain rfl:u=Value.ref l:=rx
 rcases q1 with⟨hd,q1⟩|⟨D,T,q1⟩
 ·obtain⟨t1,t2,_⟩:=zTR I1 hd
  refine⟨t1,t2,?_⟩
  rw[m.trees]
  refine Calls.callWith_builtin rfl (Calls.evalArgs_plain (Calls.spliced_cons (thn (he a6 s1 σ H1 _ I1 q1) fun iv s2 ⟨y,H2,I2,ry,ov,g,q2⟩=>Calls.spliced_nil ?_)))
  exact yAF hu I2 g ry fun w' s3 I3 rw'=>⟨_,H2,I3,rw',q2⟩
 ·obtain⟨mz,o,oq,ep,hk,hex,c8,_⟩:=id T
  refine⟨⟨o,I1.kIn _ _ hk,hex.1⟩,fun b q=> ?_,?_⟩
  ·cases q
   exact⟨o,I1.kIn _ _ hk,hex.2.1⟩
  rw[m.trees]
  refine Calls.callWith_builtin rfl (Calls.evalArgs_plain (Calls.spliced_cons (thn (he a6 s1 σ H1 _ I1 q1) fun iv s2 ⟨y,H2,I2,ry,k,ey,q2⟩=>Calls.spliced_nil ?_)))
  subst ey
  obtain⟨t,rfl⟩:=ry
  have hT:s2.TypeIs (.ref l) "dict":=⟨o,I2.kIn _ _ hk,hex.1⟩
  refine wpAny_call_entry PySem.F.slot_dict_get hT PySem.F.entry_dict_get ?_ (PySem.F.args_dict_get_2 _ _)
  show wpAny _ _ (dictGet l (.str k t)>>=_) _ _ s2
  refine wpAny_bind (zMQ I2.kIn T (fun d' v' ha hv=>wpAny_pure ⟨v',rfl,?_⟩) fun hn=> ?_)
  ·rw[ha] at q2
   exact⟨d',H2,I2.tok _,hv,q2⟩
  ·rw[hn] at q2
   show wpAny _ _ (Builtin.Dict.missed l (.str k t)>>=_) _ _ _
   unfold Builtin.Dict.missed
   rw[if_neg (by rw[mz];exact Bool.false_ne_true)]
   exact wpAny_bind (wpAny_pure (wpAny_pure ⟨.none,rfl,.non,H2,I2.tok _,rfl,q2⟩))
noncomputable def zZG:Dat->Dat->Option Dat
 | .dct ks ds,.str x=>some ((zB6 ks ds (.inr x)).getD .non)
 |_,_=>none
theorem zUD{aj a8:Pos}(hK:X.K=K)(hu:X.A.units+1<cLine)(ha:PE X a (TV K ml pa ta ia fa))(hb:PE X b (TV K ml pb tb ib fb))(m:M1 X a "get" aj b a8) (hs:(pb || (ta && ia))=true:=by rfl):
  PE X (.Call (.Attribute a "get" aj) [b] [] a8) (TV K ml (pa && pb) ia ia (f2 zZG fa fb)):=by
 subst hK
 refine(zS5 hu ha hb m).imp fun σ H Q ⟨B,O,δ,d,δ2,S,q,k⟩=> ?_
 obtain⟨x,δ1,y,h1,h2,h3⟩:=zI7 q
 refine⟨B,O,δ,x,δ1,S,h1,fun v1 H1 R1=> ?_⟩
 have fin : ∀ v2 H2 (R2 : Res X.K ml B O H1 σ pb tb ib H2 δ2 v2 y) o,Rep X.K (av B O ia) H2 (av B O ia) o d -> Q o H2 := fun v2 H2 R2 o ho => k o H2 ⟨R2.sta,R1.frm.trans R2.frm,fun z => by
  obtain⟨z1,z2⟩:=(Bool.and_eq_true _ _).mp z
  exact(R1.pur z1).trans (R2.pur z2),ho.mono (fun _ z=>z) yAO⟩
 cases x with
 |dct ks ds=>
  cases y with
  |str z=>
   cases h3
   generalize hx:Dat.dct ks ds=dd at R1
   have r1:=R1.rep
   cases r1 with
   | @dct _ l kvs ds' qd n r=>
    cases hx
    refine⟨l,rfl,.inl ⟨.inl ⟨_,.inl qd⟩,B,O,δ1,_,δ2,R1.sta,h2,fun v2 H2 R2=> ?_⟩⟩
    have r2:=R2.rep
    cases r2
    have h4:H2 l=some (.dK kvs)/\RepA X.K (av B O ia) H2 (kvs.map Prod.snd) ds:=by
     cases pb with
     |true=>exact⟨R2.pur rfl _ _ qd,r.same (R2.pur rfl)⟩
     |false=>
      have hs:(ta && ia)=true:=by simpa using hs
      obtain⟨z1,z2⟩:=(Bool.and_eq_true _ _).mp hs
      subst z1 z2
      exact⟨R2.frm _ _ qd fun w=>absurd (.inr w) n,r.fr R2.frm fun a z=> .inr z⟩
    refine⟨_,DGet.k (k:= .inr z) h4.1,fin _ _ R2 _ ?_⟩
    rcases zGT (k:= .inr z) h4.2 with⟨v,d',g1,g2,g3⟩|⟨g1,g2⟩
    ·rw[g1,g2];exact g3
    ·rw[g1,g2];exact .non
   | @ktb _ l D ds' T r=>
    cases hx
    refine⟨l,rfl,.inr ⟨D,T,B,O,δ1,_,δ2,R1.sta,h2,fun v2 H2 R2=> ?_⟩⟩
    have r2:=R2.rep
    cases r2
    refine⟨z,rfl,fin _ _ R2 _ ?_⟩
    have r':RepA X.K (av B O ia) H2 (D.map Prod.snd) ds:=by
     cases pb with
     |true=>exact r.same (R2.pur rfl)
     |false=>
      have hs:(ta && ia)=true:=by simpa using hs
      obtain⟨z1,z2⟩:=(Bool.and_eq_true _ _).mp hs
      subst z1 z2
      exact r.fr R2.frm fun a z=> .inr z
    rcases zHG (k:=z) r' with⟨v,d',g1,g2,g3⟩|⟨g1,g2⟩
    ·rw[g1,g2];exact g3
    ·rw[g1,g2];exact .non
   |_=>cases hx
  |_=>cases h3
 |_=>cases h3
end
theorem zU0:bootBuiltins "all"=some (.builtin "all"):=by decide+kernel
theorem zW4:bootBuiltins "dict"=some (.type "dict"):=by decide+kernel
section
variable{X:Cx}{K:W.Frag}{ml:List Nat}{e a b c:Expr}{es:List Expr}{pa ta ia pb tb ib pc tc ic pu bt bi ps bs:Bool}{fa fb fc f:VF}{B B':Bs}{O:Nat->Option Addr}{H H0 H1 H':Hp}{σ:St}{δ δ':Ev}{v:V}{d:Dat}{p:Addr}{pos:Pos}
theorem zW6{ks:List Bool}{us:List Value}(r:Vals (ks.map V.bl) us){i:Nat}{u:Value}(h:us[i]? =some u): ∃k,ks[i]? =some k/\u= .bool k:=by
 have hl:=r.length
 rw[List.length_map] at hl
 have hi:i<us.length:=(List.getElem?_eq_some_iff.mp h).1
 have e:(ks.map V.bl)[i]? =some (.bl ks[i]):=by simp[hl▸hi]
 obtain⟨w,h1,h2⟩:=r.get e
 rw[h] at h1
 cases h1
 exact⟨ks[i],by simp[hl▸hi],h2⟩
theorem zP1{ks:List Bool}:(List.range ks.length).all (fun i=>(ks[i]?).getD true)=ks.all id:=by
 induction ks with
 |nil=>rfl
 |cons k ks ih=>
  rw[List.length_cons,List.range_succ_eq_map,List.all_cons,List.all_map,List.all_cons,<- ih]
  rfl
def zRW(K:W.Frag)(g:List Bool->Bool):RC:=fun xs H Q=> ∃p ks,xs=[.ref p]/\SqL K H p (ks.map V.bl)/\Q (.bl (g ks)) H
theorem zRI{prog:Program}{w:World}{A:Around}{ks:List Bool}{us:List Value}(r:Vals (ks.map V.bl) us):TruthOf prog w A (fun i v=>us.toArray[i]? =some v) fun i=>(ks[i]?).getD true:=by
 intro i v s Q E hP hQ
 obtain⟨k,h1,rfl⟩:=zW6 r (by simpa using hP)
 have hQ:Q ((ks[i]?).getD true) s:=hQ
 rw[h1] at hQ
 exact wpAny_truthy_bool hQ
theorem zQV(hc:X.calm=true):zC7 X (.builtin "all") (zRW X.K fun ks=>ks.all id):=by
 intro a6 s σ H xs us Q I r h
 obtain⟨l,ks,rfl,hq,q⟩:=h
 obtain⟨u,rfl,rx⟩:=zHO r
 cases rx
 obtain⟨its,rv,pl,hz⟩:=I.list hq
 have hl:=pl.isList
 have hne:l≠s.heap.objs.size:=by obtain⟨o,g,_⟩:=hl;exact Nat.ne_of_lt (Heap.lt_size g)
 have aa:=rv.length
 rw[List.length_map] at aa
 refine call_all_walk (wpAny_pyIter_list hl ⟨_,_,_,_,_,_,_,rfl,Walks.list (show X.A.in1.handled=none from I.ok.hd hc) s.heap.objs.size l hne its.toArray,⟨⟨_,Heap.get?_push_size _ rfl,rfl,rfl⟩,?_⟩,zRI rv,fun h' tk hk=> ?_⟩)
 ·obtain⟨o,g,r⟩:=hl
  exact⟨o,Heap.get?_push_of_some _ g,r⟩
 ·rw[List.size_toArray,<- aa,zP1]
  exact⟨.bl _,H,I.kept (t':=tk) fun b o g=>hk b o (by simp;exact Nat.ne_of_lt (Heap.lt_size g)) (Heap.get?_push_of_some _ g),rfl,q⟩
theorem kAll(h:X.K=K)(hc:X.calm=true):zC7 X (.builtin "all") (zRW K fun ks=>ks.all id):=by subst h;exact zQV hc
noncomputable def blsD:List Dat->Option (List Bool)
 |[]=>some []
 | .bl k::ds=>(blsD ds).map fun ks=>k::ks
 |_=>none
theorem zQZ{N:Addr->Prop}: ∀{xs:List V} {ds:List Dat} {ks:List Bool},RepA K N H xs ds->blsD ds=some ks->xs=ks.map V.bl
 | _,_,_,.nil,h => by cases h;rfl
 | _,_,_,@RepA.cons _ _ _ v vs d ds h t,e => by
  cases d with
  |bl k=>
   cases h
   have e:(blsD ds).map (fun ks=>k::ks)=some _:=e
   cases h2:blsD ds with
   |none=>rw[h2] at e;cases e
   |some ks'=>
    rw[h2] at e
    cases e
    rw[zQZ t h2,List.map_cons]
  |_=>cases e
noncomputable def zVH(g:List Bool->Bool):Dat->Option Dat
 | .lst ds=>(blsD ds).map fun ks=> .bl (g ks)
 |_=>none
noncomputable abbrev oAll:=zVH fun ks=>ks.all id
theorem zX9{g:List Bool->Bool}:CalS K (zRW K g) (zVH g):=by
 intro H N M x d c Q hx h k
 cases d with
 |lst ds=>
  have h:(blsD ds).map (fun ks=>Dat.bl (g ks))=some c:=h
  cases h1:blsD ds with
  |none=>rw[h1] at h;cases h
  |some ks=>
   rw[h1] at h
   cases h
   obtain⟨a,xs,rfl,sq,r⟩:=hx.lstE
   have:=zQZ r h1
   subst this
   exact⟨a,ks,rfl,sq,k _ fun _ _ _=> .bl _⟩
 |_=>cases h
theorem zXA:CalS K (zRW K fun ks=>ks.all id) oAll:=zX9
noncomputable def zFB:List Dat->Option (List Int)
 |[]=>some []
 | .int i::ds=>(zFB ds).map fun ns=>i::ns
 |_=>none
theorem zIU{N:Addr->Prop}: ∀{xs:List V} {ds:List Dat} {ns:List Int},RepA K N H xs ds->zFB ds=some ns->xs=ns.map V.int
 | _,_,_,.nil,h => by cases h;rfl
 | _,_,_,@RepA.cons _ _ _ v vs d ds h t,e => by
  cases d with
  |int k=>
   cases h
   have e:(zFB ds).map (fun ks=>k::ks)=some _:=e
   cases h2:zFB ds with
   |none=>rw[h2] at e;cases e
   |some ks'=>
    rw[h2] at e
    cases e
    rw[zIU t h2,List.map_cons]
  |_=>cases e
theorem zM8{N:Addr->Prop}: ∀ns:List Int,RepA K N H (ns.map V.int) (ns.map Dat.int)
 |[]=> .nil
 |i::ns=> .cons (.int i) (zM8 ns)
theorem rngI{a:Int}{n:Nat}{acc:Array Value}(h:ItemsOf (fun i v=> ∃t,v= .int (a+i*1) t) acc n):Vals ((List.range n).map fun i:Nat=>V.int (a+i)) acc.toList:=by
 obtain⟨h1,h2⟩:=h
 have go: ∀(m:Nat) (us:List Value),us.length=m-> ∀k:Nat,(∀(i:Nat) (v:Value),us[i]? =some v-> ∃t,v= .int (a+((k+i:Nat):Int)*1) t)->Vals ((List.range m).map fun i:Nat=>V.int (a+((k+i:Nat):Int))) us:=by
  intro m
  induction m with
  | zero => intro us hl k _;rw [List.length_eq_zero_iff.mp hl];exact .nil
  |succ m ih=>
   intro us hl k hu
   cases us with
   | nil => cases hl
   |cons u us=>
    rw[List.range_succ_eq_map,List.map_cons,List.map_map]
    obtain⟨t,ht⟩:=hu 0 u rfl
    refine .cons ⟨t,by rw[ht];simp⟩ ?_
    have:=ih us (by simpa using hl) (k+1) fun i v e=>by
     obtain⟨t,h⟩:=hu (i+1) v (by simpa using e)
     exact⟨t,by rw[h,show k+(i+1)=k+1+i by omega]⟩
    have e:((fun i:Nat=>V.int (a+((k+i:Nat):Int)))∘Nat.succ)=fun i:Nat=>V.int (a+((k+1+i:Nat):Int)):=by
     funext i
     simp only[Function.comp,Nat.succ_eq_add_one]
     rw[show k+(i+1)=k+1+i by omega]
    rw[e]
    exact this
 have:=go n acc.toList (by simpa using h1) 0 fun i v e=>by
  have:=h2 i v (by simpa using e)
  simpa using this
 simpa using this
theorem zLK:zC7 X (.type "range") (fun xs H Q=> ∃j,xs=[.int j]/\ ∀p,H p=none->Q (.ref p) (upd H p (.ext (rngP p 0 j 1)))):=by
 intro a6 s σ H xs us Q I r h
 obtain⟨j,rfl,q⟩:=h
 obtain⟨u,rfl,t,rfl⟩:=zHO r
 refine call_range_1 ?_
 have hn:=I.hok.fresh (Nat.le_refl s.heap.objs.size)
 refine⟨.ref s.heap.objs.size,_,I.laid (a:=s.heap.objs.size) (o:= .ext (rngP s.heap.objs.size 0 j 1)) (t':=s.toks+1+1) (fun _ _ z=>Heap.get?_push_of_some _ z) (Nat.le_refl _) ?_,rfl,q _ hn⟩
 exact⟨⟨_,_,_,IsRange.new ..⟩,⟨_,Heap.get?_push_size _ rfl⟩,fun h1 h2 ⟨t,u,v,z⟩ k=>⟨t,u,v,k _ z⟩⟩
theorem zJ7(hc:X.calm=true):zC7 X (.type "list") (fun xs H Q=> ∃(p:Addr) (j:Int),xs=[.ref p]/\H p=some (.ext (rngP p 0 j 1))/\(0<=j/\j<=16777216)/\ ∀l,H l=none->Q (.ref l) (upd H l (.lst ((List.range j.toNat).map fun i:Nat=>V.int (0+i))))):=by
 intro a6 s σ H xs us Q I r h
 obtain⟨p,j,rfl,hp,hj,q⟩:=h
 obtain⟨u,rfl,rx⟩:=zHO r
 cases rx
 obtain⟨⟨t,u,v,z⟩,_⟩:=I.hok p _ hp
 have hn:Builtin.Range.rangeSize 0 j 1=(j.toNat:Int):=by
  unfold Builtin.Range.rangeSize
  rw[if_pos (by decide)]
  split
  ·rw[Int.ediv_one]
   omega
  ·omega
 have p62:(2:Int) ^ 62=4611686018427387904:=by decide
 have p24:(2:Nat) ^ 24=16777216:=by decide
 have sm:Builtin.Range.small 0 j 1=true:=small_one (a:=0) (b:=j) (by rw[p62];decide) (by rw[p62];decide) (by rw[p62];omega) (by rw[p62];omega)
 refine call_list_range (I.ok.hd hc) z sm hn (by rw[p24];omega) fun h' tk acc c kp hS hI=> ?_
 have rv:=rngI hI
 refine⟨.ref s.heap.objs.size,_,I.laid (a:=s.heap.objs.size) (o:= .lst ((List.range j.toNat).map fun i:Nat=>V.int (0+i))) (t':=tk) kp (Nat.le_refl _) ⟨?_,acc.toList,c,rv,by simpa using hS⟩,rfl,q _ (I.hok.fresh (Nat.le_refl _))⟩
 rw[List.length_map,List.length_range,sizeLine_eq]
 omega
noncomputable def zFZ(f:VF):VF:=fun δ=>(f δ).bind fun p=>match p.1 with
 | .int j=>if 0<=j/\j<=16777216 then some (.lst (rngD 0 j.toNat),p.2) else none
 |_=>none
theorem zUR{N:Addr->Prop}(lo:Int)(n:Nat):RepA K N H ((List.range n).map fun i:Nat=>V.int (lo+i)) (rngD lo n):=by
 unfold rngD
 induction (List.range n) with
 |nil=>exact .nil
 |cons x xs ih=>exact .cons (.int _) ih
theorem zO0{p1 p2 i4:Pos}(hc:X.calm=true)(hg:Gl X "list") (hm:X.mg "list"=none) (hv:bootBuiltins "list"=some (.type "list")) (hg2:Gl X "range") (hm2:X.mg "range"=none) (hv2:bootBuiltins "range"=some (.type "range")) (ha:PE X a (TV K ml pa ta ia fa))
  (he : starEach (a :: []) X.env = (false,eval a X.env) :: starEach [] X.env := by rfl) (he2 : starEach (.Call (.Name "range" p2) [a] [] i4 :: []) X.env = (false,eval (.Call (.Name "range" p2) [a] [] i4) X.env) :: starEach [] X.env := by rfl) :
  PE X (.Call (.Name "list" p1) [.Call (.Name "range" p2) [a] [] i4] [] pos) (TN K ml pa (zFZ fa)):=
 (zDJ (zJ7 hc) hg hm hv (zAQ (zDJ zLK hg2 hm2 hv2 (zAQ ha zC1 he) (by decide) (by decide) he) zC1 he2) (by decide) (by decide) he2).imp fun σ H Q q0 => by
  obtain⟨B,O,δ,d,δ',S,q,k⟩:=q0
  unfold zFZ at q
  cases h1:fa δ with
  | none => rw [h1] at q;cases q
  |some p1=>
   obtain⟨x,δ1⟩:=p1
   rw[h1] at q
   cases x with
   |int j=>
    have q:(if 0<=j/\j<=16777216 then some (Dat.lst (rngD 0 j.toNat),δ1) else none)=some (d,δ'):=q
    split at q
    ·rename_i hj
     cases q
     refine⟨B,O,δ,_,_,S,h1,fun v1 H1 R1=> ?_⟩
     have r1:=R1.rep
     cases r1
     refine⟨j,rfl,fun p hp=>⟨p,j,rfl,zAK,hj,fun l hl=> ?_⟩⟩
     have sm:Same H1 (upd H1 p (.ext (rngP p 0 j 1))):=zA4 hp
     exact k l _ (mkN (R1.sta.same sm) (R1.frm.trans sm.fr) (fun z=>(R1.pur z).trans sm) hl (zUR 0 j.toNat))
    ·cases q
   |_=>cases q
end
section
variable{X:Cx}{K:W.Frag}{ml:List Nat}{e a b c:Expr}{es:List Expr}{pa ta ia pb tb ib pc tc ic pu bt bi ps bs:Bool}{fa fb fc f:VF}{B B':Bs}{O:Nat->Option Addr}{H H0 H1 H':Hp}{σ:St}{δ δ':Ev}{v:V}{d:Dat}{p:Addr}{pos:Pos}
noncomputable def posI(n:Int):List Int->Option Nat
 |[]=>none
 |i::ns=>if i=n then some 0 else(posI n ns).map (· +1)
theorem zJX{n:Int}: ∀{ns:List Int} {j:Nat},posI n ns=some j->ns[j]? =some n/\ ∀m,m<j->ns[m]? ≠some n
 | [],_,h => by cases h
 | i :: ns,j,h => by
  unfold posI at h
  split at h
  ·rename_i hi
   cases h
   exact⟨by rw[hi];rfl,fun m hm=>absurd hm (Nat.not_lt_zero _)⟩
  ·rename_i hi
   cases h1:posI n ns with
   |none=>rw[h1] at h;cases h
   |some k=>
    rw[h1] at h
    cases h
    obtain⟨h2,h3⟩:=zJX h1
    refine⟨by simpa using h2,fun m hm=> ?_⟩
    cases m with
    |zero=>simpa using hi
    |succ m=>simpa using h3 m (Nat.lt_of_succ_lt_succ hm)
theorem zLY{ns:List Int}{us:List Value}(r:Vals (ns.map V.int) us){m:Nat}{u:Value}(h:us[m]? =some u): ∃i t,ns[m]? =some i/\u= .int i t:=by
 have hl:=r.length
 rw[List.length_map] at hl
 have hm:m<us.length:=(List.getElem?_eq_some_iff.mp h).1
 have e:(ns.map V.int)[m]? =some (.int ns[m]):=by simp[hl▸hm]
 obtain⟨u',e1,t,e2⟩:=r.get e
 rw[h] at e1
 cases e1
 exact⟨ns[m],t,by simp[hl▸hm],e2⟩
noncomputable def zK7(n:Int):Value->Bool
 | .int i _=>i==n
 |_=>false
theorem zTT{ns:List Int}{its:List Value}{n:Int}{j:Nat}(r:Vals (ns.map V.int) its)(h:posI n ns=some j):
  ∃hj:j<its.toArray.size,zK7 n its.toArray[j]=true/\(∀m (hm:m<its.toArray.size),m<j->zK7 n its.toArray[m]=false):=by
 obtain⟨h1,h2⟩:=zJX h
 have hl:=r.length
 rw[List.length_map] at hl
 have hj:j<ns.length:=(List.getElem?_eq_some_iff.mp h1).1
 have at_: ∀(m:Nat) (hm:m<its.toArray.size),∃i t,ns[m]? =some i/\its.toArray[m]= .int i t:=fun m hm=>by
  have hm':m<its.length:=by simpa using hm
  exact zLY r (u:=its.toArray[m]) (by simp[hm'])
 refine⟨by simpa[<- hl] using hj,?_,fun m hm hmj=> ?_⟩
 ·obtain ⟨i,t',e1,e2⟩ := at_ j (by simpa [<- hl] using hj)
  rw[h1] at e1
  cases e1
  rw[e2]
  simp[zK7]
 ·obtain⟨i,t',e1,e2⟩:=at_ m hm
  have:=h2 m hmj
  rw[e1] at this
  rw[e2]
  exact beq_eq_false_iff_ne.mpr fun z=>this (by rw[z])
theorem zTS{ns:List Int}{its:List Value}(r:Vals (ns.map V.int) its){y:Value}(hy:y∈its.toArray): ∃i t,y= .int i t:=by
 obtain⟨m,hm,rfl⟩:=Array.mem_iff_getElem.mp hy
 have hm':m<its.length:=by simpa using hm
 obtain⟨i,t,_,e⟩:=zLY r (m:=m) (u:=its.toArray[m]) (by simp[hm'])
 exact⟨i,t,e⟩
def zTE(K:W.Frag):V->List V->Hp->VK->Prop:=fun x vs H Q=> ∃(l:Addr) (ns:List Int) (n:Int) (j:Nat),x= .ref l/\vs=[.int n]/\SqL K H l (ns.map V.int)/\posI n ns=some j/\Q (.int j) H
theorem zPV:MtM X "list.index" (zTE X.K):=by
 intro a6 s σ H x vs v us Q I rx rv h
 obtain⟨l,ns,n,j,rfl,rfl,hq,hj,q⟩:=h
 cases rx
 obtain⟨u,rfl,t,rfl⟩:=rv.one
 obtain⟨its,r,⟨o,c,e,hc,hd,c8⟩,hz⟩:=I.list hq
 obtain⟨cls,dd,data,sl⟩:=o
 simp only at hc hd c8
 subst hc hd c8
 obtain⟨hjs,h1,h2⟩:=zTT r hj
 have hl:=r.length
 refine call_meets F.slot_list_index ⟨_,e,rfl⟩ F.entry_list_index (F.args_list_index_2 _ _) (SeqAt.list_indexAt l its.toArray c none sl (.int n t) (zK7 n) j hjs (by
  have h3:its.length<=16777216:=by rw[<- hl,<- sizeLine_eq];exact hz
  have h4:j<its.length:=by simpa using hjs
  omega) h1 h2) ⟨e,?_,?_⟩
 ·intro y hy
  obtain⟨i,t',rfl⟩:=zTS r hy
  exact SeqAt.EqAt.int_int i t' n t
 ·exact⟨.int j,H,I.tok _,⟨_,rfl⟩,q⟩
theorem yA0(h:X.K=K):MtM X "list.index" (zTE K):=by subst h;exact zPV
noncomputable def zPQ:Dat->Dat->Option Dat
 | .lst ds,.int n=>(zFB ds).bind fun ns=>(posI n ns).map fun j=> .int j
 |_,_=>none
theorem zR9{aj a8:Pos}(hK:X.K=K)(ha:PE X a (TV K ml pa ta ia fa))(hb:PE X b (TV K ml pb tb ib fb))
  (b9 : attributeBase a "index" X.env (eval a X.env) = eval a X.env := by rfl)
  (cu : ((backTo a8 (starEach (b :: []) X.env)).all (fun x => !x.1) && (backToKw a8 (keywordEach [] X.env)).all (fun x => x.1.isSome)
   && decide ((b :: ([] : List Expr)).length + ([] : List Keyword).length + (if ([] : List Keyword).isEmpty then 0 else 1) < 30)) = true := by rfl)
  (b8 : (aj.endLine == a8.line) = true := by rfl) (hs : starEach (b :: []) X.env = (false,eval b X.env) :: starEach [] X.env := by rfl) (aw : (backTo a8 (starEach [] X.env)).any (·.1) = false := by rfl) (hl : (pb || (ta && ia)) = true := by rfl) :
  PE X (.Call (.Attribute a "index" aj) [b] [] a8) (TV K ml (pa && pb) true true (f2 zPQ fa fb)):=
 (kBm (K := K) hK PySem.F.plainAttrs_list PySem.F.slot_list_index PySem.F.type_list_index (yA0 hK) ha (zAQ hb zC1 hs) b9 cu b8 hs aw).imp fun σ H Q q0 => by
  obtain⟨B,O,δ,d,δ2,S,q,k⟩:=q0
  obtain⟨x,δ1,y,h1,h2,h3⟩:=zI7 q
  refine⟨B,O,δ,x,δ1,S,h1,fun v1 H1 R1=> ?_⟩
  cases x with
  |lst ds=>
   cases y with
   |int n=>
    have h3:((zFB ds).bind fun ns=>(posI n ns).map fun j=>Dat.int j)=some d:=h3
    cases h4:zFB ds with
    | none => rw [h4] at h3;cases h3
    |some ns=>
     rw[h4] at h3
     have h3:(posI n ns).map (fun j=>Dat.int j)=some d:=h3
     cases h5:posI n ns with
     | none => rw [h5] at h3;cases h3
     |some j=>
      rw[h5] at h3
      cases h3
      obtain⟨l,xs,rfl,sq,_⟩:=R1.rep.lstE
      refine⟨.inl ⟨rfl,xs,sq⟩,B,O,δ1,_,δ2,R1.sta,h2,fun v2 H2 R2=> ?_⟩
      have r2:=R2.rep
      cases r2
      obtain⟨l',xs',e1,sq',r'⟩:=(R2.live hl R1.rep).lstE
      cases e1
      have:=zIU r' h4
      subst this
      exact⟨l,ns,n,j,rfl,rfl,sq',h5,k _ H2 ⟨R2.sta,R1.frm.trans R2.frm,fun z=>by
       obtain⟨z1,z2⟩:=(Bool.and_eq_true _ _).mp z
       exact(R1.pur z1).trans (R2.pur z2),.int _⟩⟩
   |_=>cases h3
  |_=>cases h3
def zP3:V->List V->Hp->VK->Prop:=fun x vs H Q=> ∃(l:Addr) (ns:List Int) (n:Int) (j:Nat),x= .ref l/\vs=[.int n]/\H l=some (.lst (ns.map V.int))/\posI n ns=some j/\Q .non (upd H l (.lst ((ns.eraseIdx j).map V.int)))
theorem zKF{α β:Type}(g:α->β): ∀(l:List α) (j:Nat),(l.map g).eraseIdx j=(l.eraseIdx j).map g
 |[],_=>by simp
 |_::_,0=>by simp
 |x::l,j+1=>by simp[zKF g l j]
theorem zPU:MtM X "list.remove" zP3:=by
 intro a6 s σ H x vs v us Q I rx rv h
 obtain⟨l,ns,n,j,rfl,rfl,hH,hj,q⟩:=h
 cases rx
 obtain⟨u,rfl,t,rfl⟩:=rv.one
 obtain⟨z,its,c,r,hl,e⟩:=I.lstM hH
 obtain⟨hjs,h1,h2⟩:=zTT r hj
 refine call_meets F.slot_list_remove ⟨_,e,rfl⟩ F.entry_list_remove (F.args_list_remove_2 _ _) (MeetsSeq.list_remove l its.toArray c (.int n t) (zK7 n) (fun y hy=> ?_) j hjs h1 h2 (by rw[List.size_toArray,<- hl];exact z)) ⟨e,?_⟩
 ·obtain⟨i,t',rfl⟩:=zTS r hy
  exact MeetsSeq.EqGives.int i n t' t
 ·have hlj : j < its.length := by simpa using hjs
  refine⟨.non,_,I.lset (its':=its.eraseIdx j) hH e (by simp[Array.eraseIdxIfInBounds,hlj]) (ys:=(ns.eraseIdx j).map V.int) ?_ ?_,rfl,q⟩
  ·have:=Vals.eraseIdx j r
   rwa[zKF] at this
  ·rw[List.length_map]
   have h1:=List.length_eraseIdx_le ns j
   rw[List.length_map] at z
   omega
noncomputable def mRem:List Dat->List Dat->Option (List Dat)
 |ds,[.int n]=>(zFB ds).bind fun ns=>(posI n ns).map fun j=>(ns.eraseIdx j).map Dat.int
 |_,_=>none
theorem zZL:MuV K zP3 mRem:=by
 intro H N l xs vs ds es ds' Q hl hN rx re h k
 cases re with
 | nil => cases h
 | @cons v vs d es hd t=>
  cases t with
  | cons _ _ => cases d <;> cases h
  |nil=>
   cases d with
   |int n=>
    cases hd
    have h:((zFB ds).bind fun ns=>(posI n ns).map fun j=>(ns.eraseIdx j).map Dat.int)=some ds':=h
    cases h4:zFB ds with
    | none => rw [h4] at h;cases h
    |some ns=>
     rw[h4] at h
     have h:(posI n ns).map (fun j=>(ns.eraseIdx j).map Dat.int)=some ds':=h
     cases h5:posI n ns with
     |none=>rw[h5] at h;cases h
     |some j=>
      rw[h5] at h
      cases h
      have:=zIU rx h4
      subst this
      exact⟨l,ns,n,j,rfl,rfl,hl,h5,k _ _ (zM8 _)⟩
   |_=>cases h
end
section
variable{X:Cx}{K:W.Frag}{ml:List Nat}{e:Expr}{es:List Expr}{pu bt bi bs:Bool}{f:VF}{fs:VFs}
theorem zA7(h:PE X e (TV K ml pu bt bi f))(hb:(bt && bi)=true:=by rfl):PE X e (TV K ml pu true true f):=by
 obtain⟨h1,h2⟩:=(Bool.and_eq_true _ _).mp hb
 subst h1 h2
 exact h
theorem zUC(h:PE X e (TV K ml pu bt bi f))(hb:bi=true:=by rfl):PE X e (TV K ml pu bt true f):=by
 subst hb
 exact h
theorem zAM(h:PA X es (TAV K ml pu bs fs))(hb:bs=true:=by rfl):PA X es (TAV K ml pu true fs):=by
 subst hb
 exact h
theorem zGO{st:Stmt}:PS X st (TSt K ml fun _=>none):=fun _ _ _ _ _ _ ⟨_,_,_,_,_,q,_⟩=>nomatch q
variable{a b c:Expr}{pa ta ia pb tb ib pc tc ic:Bool}{fa fb fc:VF}{pos:Pos}{δ:Ev}
end
section
variable{X:Cx}{K:W.Frag}{ml:List Nat}{e a b c:Expr}{pa ta ia pb tb ib pu:Bool}{fa fb fc f:VF}{B:Bs}{O:Nat->Option Addr}{H H':Hp}{σ:St}{δ δ':Ev}{v:V}{d:Dat}{p:Addr}{pos:Pos}{ks:List (Option Expr)}{vs:List Expr}
theorem zK2: ∀{more acc:List (Key×V)},((acc++more).map Prod.fst).Nodup->zK3 acc more=acc++more
 | [],acc,_ => by simp [zK3]
 | (k,v) :: more,acc,nd => by
  have hk: ∀q∈acc,q.1≠k:=fun q hq z=>by
   rw[List.map_append,List.map_cons] at nd
   exact(List.nodup_append.mp nd).2.2 q.1 (List.mem_map_of_mem hq) k (by simp) z
  have hn:valV acc k=none:=by
   unfold valV
   rw[List.find?_eq_none.mpr fun q hq=>by simpa using hk q hq]
   rfl
  show zK3 (putK acc k v) more=_
  rw[zRZ v hn,zK2 (by simpa using nd)]
  simp
end
theorem zHI: ∀(names:List (Str×NameKind)) (n:Nat) (acc:List (Str×Addr)),cellsFrom n names acc=cellsFrom n names []++acc
 | [],_,_ => rfl
 | (x,k) :: r,n,acc => by
  unfold cellsFrom
  split
  ·rw[zHI r (n+1) ((x,n)::acc),zHI r (n+1) [(x,n)]]
   simp
  ·exact zHI r n acc
theorem zQQ: ∀{names:List (Str×NameKind)} {n:Nat} {x:Str} {c:Addr},(x,c)∈cellsFrom n names []->(x,NameKind.cell)∈names
 | [],_,_,_,h => nomatch h
 | (y,k) :: r,n,x,c,h => by
  unfold cellsFrom at h
  split at h
  ·rename_i hk
   rw[zHI] at h
   rcases List.mem_append.mp h with h|h
   ·exact List.mem_cons_of_mem _ (zQQ h)
   ·cases List.mem_singleton.mp h
    rw[show k=NameKind.cell from beq_iff_eq.mp hk]
    exact List.mem_cons_self
  ·exact List.mem_cons_of_mem _ (zQQ h)
theorem zQR: ∀{names:List (Str×NameKind)} {n:Nat} {x:Str},(x,NameKind.cell)∈names-> ∃c,(x,c)∈cellsFrom n names []
 | (y,k) :: r,n,x,h => by
  unfold cellsFrom
  rcases List.mem_cons.mp h with e|h
  ·cases e
   rw[if_pos (by decide),zHI]
   exact⟨n,List.mem_append_right _ (List.mem_singleton.mpr rfl)⟩
  ·split
   ·rw[zHI]
    obtain⟨c,hc⟩:=zQR (n:=n+1) h
    exact⟨c,List.mem_append_left _ hc⟩
   ·exact zQR h
theorem zI1: ∀{l:List (Str×Addr)} {x:Str} {c:Addr},(x,c)∈l-> ∃c',l.lookup x=some c'
 | (y,d) :: r,x,c,h => by
  rw[List.lookup_cons]
  cases hb:x==y with
  | true => exact ⟨d,rfl⟩
  |false=>
   rcases List.mem_cons.mp h with e|h
   ·cases e
    simp at hb
   ·exact zI1 h
theorem zCG: ∀{l m:List (Str×Addr)} {x:Str} {c:Addr},(l++m).lookup x=some c->l.lookup x=some c∨(l.lookup x=none/\m.lookup x=some c)
 |[],_,_,_,h=> .inr ⟨rfl,h⟩
 |(y,d)::r,m,x,c,h=>by
  rw[List.cons_append,List.lookup_cons] at h
  rw[List.lookup_cons]
  cases hb:x==y with
  |true=>rw[hb] at h;exact .inl h
  |false=>rw[hb] at h;exact zCG h
theorem zG4: ∀{l m:List (Str×Addr)} {x:Str},l.lookup x=none->(l++m).lookup x=m.lookup x
 |[],_,_,_=>rfl
 |(y,d)::r,m,x,h=>by
  rw[List.lookup_cons] at h
  rw[List.cons_append,List.lookup_cons]
  cases hb:x==y with
  |true=>rw[hb] at h;cases h
  |false=>rw[hb] at h;exact zG4 h
theorem zL7{M:Model}{A:Around}{E:Value->Shared->Prop}{s:Shared}{scope:Scope}{globals:Addr}{cz:List (Str×Addr)}{qual:Str}{outer:Env}{Q:Env->Shared->Prop}
  (hQ:Q (newEnv scope s.heap.objs.size globals (cellsFrom (s.heap.objs.size+1) scope.names cz) qual none .none (some outer) builtinsNs) {s with heap:=pushCells (s.heap.push {cls:= .type "dict",data:= .dict #[]}) scope.names}):
  wpAny M A (newFunctionEnv scope globals cz [] qual none .none (some outer)) Q E s:=by
 simp only[newFunctionEnv,Option.isSome_some,if_true]
 refine wpAny_bind (wpAny_alloc ?_)
 refine wpAny_bind (wpAny_layCells _ (fun name kind cells=>by cases hkc:kind==NameKind.cell<;>simp[hkc]) _ _ _ _ ?_)
 rw[show({s with heap:=s.heap.push {cls:= .type "dict",data:= .dict #[]}}:Shared).heap.objs.size=s.heap.objs.size+1 from Heap.size_push ..]
 rw[List.forIn_nil]
 exact wpAny_bind (wpAny_pure (wpAny_pure hQ))
theorem zEO: ∀{l m:List (Str×Addr)} {x:Str} {c:Addr},l.lookup x=some c->(l++m).lookup x=some c
 |(y,d)::r,m,x,c,h=>by
  rw[List.lookup_cons] at h
  rw[List.cons_append,List.lookup_cons]
  cases hb:x==y with
  |true=>rw[hb] at h;exact h
  |false=>rw[hb] at h;exact zEO h
structure zJA(X:Cx)(N':List Str)(ix:List Nat)(scope:Scope):Prop where
 kind:scope.kind= .function
 cel: ∀y∈scope.names,y.2= .cell->scope.names.lookup y.1=some .cell
 names: ∀y∈scope.names,y.2= .local->scope.names.lookup y.1=some .local
 free: ∀y∈scope.names,y.2= .free->X.env.kindOf y.1=some .cell∨X.env.kindOf y.1=some .free
 nd:N'.Nodup
 cap: ∀j,j<ix.length->N'[j]? =(ix[j]?).bind fun i=>X.N[i]?
 capf: ∀x∈N'.take ix.length,scope.names.lookup x=some .free
noncomputable def zBY(X:Cx)(N':List Str)(scope:Scope)(cl:List (Str×Addr))(s1:Shared)(H1:Hp)(fp:List Addr):Cx:=
 {X with N:=N',s₀:=s1,H₀:=H1,env:=compEnvC scope cl s1.heap.objs.size X.env,outer:=X.stack,stack:=X.stack,ex:=fp,fn:=fun x=>scope.names.lookup x==some NameKind.cell,pn:=[],xe:=fun _ _=>False}
theorem zE0{env:Env}{x:Str}: ∀{l:List (Str×NameKind)},
  ((l.map fun (n,k) => if (k == NameKind.free && env.scope.kind == .function && env.kindOf n == some .cell) then (n,NameKind.cell) else (n,k)).lookup x = some .cell ∨
  (l.map fun (n,k) => if (k == NameKind.free && env.scope.kind == .function && env.kindOf n == some .cell) then (n,NameKind.cell) else (n,k)).lookup x = some .free) -> (x,NameKind.free) ∈ l ∨ (x,NameKind.cell) ∈ l
 | [],h => by rcases h with z | z <;> cases z
 | (n,k) :: r,h => by
  have h:List.lookup x ((if(k==NameKind.free && env.scope.kind== .function && env.kindOf n==some .cell)=true then(n,NameKind.cell) else(n,k))::r.map fun(n,k)=>if(k==NameKind.free && env.scope.kind== .function && env.kindOf n==some .cell) then(n,NameKind.cell) else(n,k))=some .cell∨
   List.lookup x ((if(k==NameKind.free && env.scope.kind== .function && env.kindOf n==some .cell)=true then(n,NameKind.cell) else(n,k))::r.map fun(n,k)=>if(k==NameKind.free && env.scope.kind== .function && env.kindOf n==some .cell) then(n,NameKind.cell) else(n,k))=some .free:=h
  by_cases hc:(k==NameKind.free && env.scope.kind== .function && env.kindOf n==some .cell)=true
  ·rw[if_pos hc] at h
   by_cases hx:x=n
   ·subst hx
    have hk:k= .free:=by
     simp only[Bool.and_eq_true] at hc
     exact beq_iff_eq.mp hc.1.1
    subst hk
    exact .inl List.mem_cons_self
   ·have hb:(x==n)=false:=beq_eq_false_iff_ne.mpr hx
    simp only[List.lookup_cons,hb] at h
    rcases zE0 (env:=env) h with z|z
    ·exact .inl (List.mem_cons_of_mem _ z)
    ·exact .inr (List.mem_cons_of_mem _ z)
  ·rw[if_neg hc] at h
   by_cases hx:x=n
   ·subst hx
    rw[List.lookup_cons_self] at h
    rcases h with z|z
    ·cases z;exact .inr List.mem_cons_self
    ·cases z;exact .inl List.mem_cons_self
   ·have hb:(x==n)=false:=beq_eq_false_iff_ne.mpr hx
    simp only[List.lookup_cons,hb] at h
    rcases zE0 (env:=env) h with z|z
    ·exact .inl (List.mem_cons_of_mem _ z)
    ·exact .inr (List.mem_cons_of_mem _ z)
theorem zI8{X:Cx}{a6:List (Addr×Obj)}{σ:St}{H2:Hp}{s2:Shared}{E:Value->Shared->Prop}{tg iter elt:Expr}{ifs:List Expr}{scope:Scope}{pos:Pos}{N':List Str}{ix:List Nat}{nl:Nat}{g:TG}{tt:TT}{te:TE}
  {cl:List (Str×Addr)} {J:It} {fp:List Addr} {it:Addr} {tn:Nat->Heap->Prop} {Q:V->Hp->Prop} {RR:Value->Addr->Result->Shared->Prop}
  (hc:X.calm=true) (S:zJA X N' ix scope) (hnl:N'.length=ix.length+nl)
  (cv: ∀x c,cl.lookup x=some c->X.env.cells.lookup x=some c) (lv: ∀x,(x,NameKind.free)∈scope.names-> ∃c,cl.lookup x=some c)
  (blk: ∀(cl:List (Str×Addr)) (s1:Shared) (H1:Hp) (fp:List Addr),Blk (zBY X N' scope cl s1 H1 fp) tg ifs elt g tt te)
  (I2:Inv X a6 σ H2 s2) (T:Turn X.prog X.w X.K tg J fp it tn) (st2:tn 0 s2.heap) (f2: ∀b∈fp,FpOk X a6 H2 b)
  (h : ∀ D,H2 D = none -> yAR D ix nl J g tt te σ H2 fun H' => Q (.ref D) H')
  (fin: ∀(D C:Addr) (s':Shared) (H':Hp),Inv X a6 σ H' s'->(∃m,s'.heap.Ns C m)->C≠X.env.locals->(∀x c,X.env.cells.lookup x=some c->c≠C)→
   (∀(σ':St) (s'':Shared) (h'':Heap),Inv X a6 σ' H' s''->Heap.SameBut C s''.heap h''->Inv X a6 σ' H' {s'' with heap:=h''})->Q (.ref D) H'->RR (.ref D) C (.ok .next) s'):
  wpAny (model X.prog X.w) X.A (newList []) (fun acc s₃=>wpAny (model X.prog X.w) X.A (newFunctionEnv scope X.env.globals cl [] X.env.qual none .none (some X.env)) (fun m6 s₄=>
   codeAny (model X.prog X.w) X.A (.compStart (.ListComp elt [⟨tg,iter,ifs,0⟩] scope pos) 0 (.ref it) acc {m6 with scope:=relabel scope X.env}) (RR acc m6.locals) s₄) E s₃) E s2:=by
 refine wpAny_newObj_type (zL7 ?_)
 dsimp only
 have I1:Inv X a6 σ (upd H2 s2.heap.objs.size (.lst [])) {s2 with heap:=s2.heap.push {cls:= .type "list",dict:=none,data:= .seq ([]:List Value).toArray}}:=
  I2.lnew (t':=s2.toks) (ys:=[]) (its:=[]) .nil (Nat.zero_le _)
 have hDn:H2 s2.heap.objs.size=none:=I2.hok.fresh (Nat.le_refl _)
 obtain⟨W,⟨m0,w0⟩,turn⟩:=h _ hDn
 generalize hs1:({s2 with heap:=s2.heap.push {cls:= .type "list",dict:=none,data:= .seq ([]:List Value).toArray}}:Shared)=s1 at I1
 have dz:s2.heap.push {cls:= .type "list",dict:=none,data:= .seq ([]:List Value).toArray}=s1.heap:=by rw[<- hs1]
 rw[dz]
 have old: ∀b o,s1.heap.get? b=some o->(pushCells (s1.heap.push {cls:= .type "dict",data:= .dict #[]}) scope.names).get? b=some o:=fun b o e=>pushCells_keeps _ _ _ _ (Heap.get?_push_of_some _ e)
 have hns₁:(pushCells (s1.heap.push {cls:= .type "dict",data:= .dict #[]}) scope.names).Ns s1.heap.objs.size (fun _=>none):=(Heap.Ns.new s1.heap (.type "dict")).keeps fun b o e=>pushCells_keeps _ _ _ _ e
 have okc:=cellsFrom_ok scope.names (s1.heap.push {cls:= .type "dict",data:= .dict #[]}) (s1.heap.objs.size+1) [] ⟨fun _ _ hm=>(nomatch hm),List.Pairwise.nil⟩ (by rw[Heap.size_push];exact Nat.le_refl _)
 rw[Heap.size_push] at okc
 generalize hz1:pushCells (s1.heap.push {cls:= .type "dict",data:= .dict #[]}) scope.names=h₁ at old hns₁ okc
 rw[zHI]
 generalize hnc:cellsFrom (s1.heap.objs.size+1) scope.names []=nc at okc
 have ncm: ∀x c,nc.lookup x=some c->(x,NameKind.cell)∈scope.names/\h₁.IsCell c none/\s1.heap.objs.size+1<=c:=fun x c e=>by
  have hm:=PySem.mem_of_lookup e
  exact⟨zQQ (n:=s1.heap.objs.size+1) (by rw[hnc];exact hm),okc.empty x c hm⟩
 have nch: ∀x,(x,NameKind.cell)∈scope.names-> ∃c,nc.lookup x=some c:=fun x h=>by
  obtain⟨c,hc⟩:=zQR (n:=s1.heap.objs.size+1) h
  rw[hnc] at hc
  exact zI1 hc
 have i7: ∀b∈fp,b<s2.heap.objs.size:=fun b hb=>by
  obtain⟨o,e,_⟩:=T.obj _ _ st2 b hb
  exact Heap.lt_size e
 have lj:s1.heap.objs.size=s2.heap.objs.size+1:=by rw[<- dz,Heap.size_push]
 have me: ∀b o,s2.heap.get? b=some o->s1.heap.get? b=some o:=fun b o e=>by rw[<- dz];exact Heap.get?_push_of_some _ e
 have eg: ∀x c,cl.lookup x=some c->c<s1.heap.objs.size:=fun x c e=>by
  obtain⟨v,q⟩:=I1.cell x c (cv x c e)
  exact q.lt
 have oo: ∀b∈frs X.stack,b<s1.heap.objs.size:=fun b hb=>by
  obtain⟨_,o,ho,_⟩:=(I1.stack).mem hb
  exact Heap.lt_size ho
 have okY:(zBY X N' scope (nc++cl) s1 (upd H2 s2.heap.objs.size (.lst [])) fp).Ok:=by
  refine⟨I1.ok.mod,S.kind,I1.ok.glob,I1.ok.blt,Nat.le_refl _,fun x y c e1 e2=> ?_,fun x hx=> ?_,fun x c hf e=> ?_,I1.ok.hd,I1.ok.frames,.inl rfl,fun b hb=>⟨?_,fun x c e=> ?_⟩,fun b o e=> ?_,
   Nat.le_trans I1.ok.bsz I1.sz,fun b o e hb=> ?_,fun b hb hb2=> ?_,I1.stack,I1.stkFree⟩
  ·rcases zCG e1 with n1|⟨_,o1⟩
   ·rcases zCG e2 with n2|⟨_,o2⟩
    ·exact PySem.name_of_addr okc.apart (PySem.mem_of_lookup n1) (PySem.mem_of_lookup n2)
    ·exact absurd (Nat.lt_of_lt_of_le (eg y c o2) (Nat.le_of_succ_le (ncm x c n1).2.2)) (Nat.lt_irrefl _)
   ·rcases zCG e2 with n2|⟨_,o2⟩
    ·exact absurd (Nat.lt_of_lt_of_le (eg x c o1) (Nat.le_of_succ_le (ncm y c n2).2.2)) (Nat.lt_irrefl _)
    ·exact I1.ok.inj x y c (cv x c o1) (cv y c o2)
  ·cases q:nc.lookup x with
   | some c => exact ⟨c,zEO q⟩
   |none=>
    rcases zE0 hx with h|h
    ·obtain⟨c,hc⟩:=lv x h
     exact⟨c,(zG4 q).trans hc⟩
    ·obtain⟨c,hc⟩:=nch x h
     rw[q] at hc
     cases hc
  ·have hx:(x,NameKind.cell)∈scope.names:=PySem.mem_of_lookup (beq_iff_eq.mp hf)
   obtain⟨c',hc'⟩:=nch x hx
   have:=zEO (m:=cl) hc'
   have e:(nc++cl).lookup x=some c:=e
   rw[this] at e
   cases e
   exact Nat.le_of_succ_le (ncm x c hc').2.2
  ·exact Nat.ne_of_lt (Nat.lt_of_lt_of_le (i7 b hb) (by show s2.heap.objs.size <= s1.heap.objs.size;rw [lj];exact Nat.le_succ _))
  ·rcases zCG e with n1|⟨_,o1⟩
   ·have h1:=i7 b hb
    have h2:=(ncm x c n1).2.2
    rw[lj] at h2
    exact fun z=>absurd (z▸h2) (Nat.not_le_of_lt (Nat.lt_of_lt_of_le h1 (Nat.le_trans (Nat.le_succ _) (Nat.le_succ _))))
   ·exact(f2 b hb).2.2.2.2.1 x c (cv x c o1)
  ·exact I1.bs b o e
  ·have:=(f2 b hb)
   obtain⟨o',e',_⟩:=T.obj _ _ st2 b hb
   have hlt:=Nat.lt_of_lt_of_le (Heap.lt_size e) I1.ok.bsz
   rcases this.2.2.2.1 with z|z
   ·exact I1.ok.noex b o e z
   ·exact absurd (Nat.lt_of_lt_of_le hlt z) (Nat.lt_irrefl _)
  ·rcases List.mem_cons.mp (I1.stkSub b hb2) with z|z
   ·exact(f2 b hb).2.1 z
   ·exact(f2 b hb).2.2.1 z
 have gq : (caps ix σ ++ List.replicate nl none).length = N'.length := by rw [List.length_append,List.length_replicate,hnl];simp [caps]
 have IY:Inv (zBY X N' scope (nc++cl) s1 (upd H2 s2.heap.objs.size (.lst [])) fp) [] (caps ix σ++List.replicate nl none) (upd H2 s2.heap.objs.size (.lst [])) {s2 with heap:=h₁}:=by
  refine⟨okY,?_,I2.bare,Un.kept old,⟨_,hns₁,fun j x v e1 e2 e3=> ?_⟩,fun x c e=> ?_,I1.hok.fresh (Nat.le_refl _),fun x c e=> ?_,fun p hp=>absurd (show p∈([]:List (Addr×Obj)) from hp) (by simp),I1.hok.kept old,gq⟩
  ·show s2.os=s1.os
   rw[<- hs1]
  ·have hj:j<ix.length:=by
    by_cases hj:j<ix.length
    ·exact hj
    ·exfalso
     have hl:(caps ix σ).length=ix.length:=by simp[caps]
     rw[List.getElem?_append_right (by rw[hl];omega),List.getElem?_replicate] at e2
     split at e2<;>cases e2
   have hl:(caps ix σ).length=ix.length:=by simp[caps]
   rw [List.getElem?_append_left (by rw [hl];exact hj)] at e2
   have hci:=S.cap j hj
   obtain⟨i,hi⟩: ∃i,ix[j]? =some i:=⟨ix[j],by simp[hj]⟩
   rw[hi] at hci
   have hNi:X.N[i]? =some x:=by
    have:N'[j]? =X.N[i]? :=hci
    rw[<- this];exact e1
   have hσ:σ[i]? =some (some v):=by
    unfold caps at e2
    rw[List.getElem?_map,hi] at e2
    have e2':(σ[i]?).join=some v:=by simpa using e2
    cases q:σ[i]? with
    | none => rw [q] at e2';cases e2'
    | some o => rw [q] at e2';rw [show o = some v from e2']
   have hfl:scope.names.lookup x=some .free:=S.capf x (by
    rw[List.mem_iff_getElem?]
    exact⟨j,by rw[List.getElem?_take_of_lt hj];exact e1⟩)
   have az:(x,NameKind.free)∈scope.names:=PySem.mem_of_lookup hfl
   have hpk:X.env.kindOf x=some .cell∨X.env.kindOf x=some .free:=by exact S.free (x,.free) az rfl
   have my:Vis X.env.scope x:=by
    rcases hpk with z|z
    ·exact .inr (.inl z)
    ·exact .inr (.inr z)
   obtain⟨m,hn,o0⟩:=I1.loc
   obtain⟨u,ru,l⟩:=o0 i x v hNi hσ my
   refine⟨u,ru,?_⟩
   rcases l with⟨hk,_⟩|⟨hk,c,ec,z⟩
   ·rcases hpk with q|q<;>rw[hk] at q<;>cases q
   ·obtain⟨c',hc'⟩:=lv x az
    have:c'=c:=by
     have:=cv x c' hc'
     rw[ec] at this;exact(Option.some.inj this).symm
    subst this
    have nq:nc.lookup x=none:=by
     cases q:nc.lookup x with
     |none=>rfl
     |some d=>
      have:=S.cel (x,.cell) (ncm x d q).1 rfl
      rw[hfl] at this
      cases this
    refine .inr ⟨zGD hfl,c',(zG4 nq).trans hc',?_⟩
    ·obtain⟨o,ho,hd⟩:=z
     exact⟨o,old _ _ ho,hd⟩
  ·rcases zCG e with n1|⟨_,o1⟩
   ·exact⟨none,(ncm x c n1).2.1⟩
   ·obtain⟨v,o,ho,hd⟩:=I1.cell x c (cv x c o1)
    exact⟨v,o,old _ _ ho,hd⟩
  ·rcases zCG e with n1|⟨_,o1⟩
   ·exact I1.hok.fresh (Nat.le_of_succ_le (ncm x c n1).2.2)
   ·exact I1.freeC x c (cv x c o1)
 have oh: ∀{pY:List (Addr×Obj)} {σ':St} {H':Hp} {s':Shared},Inv (zBY X N' scope (nc++cl) s1 (upd H2 s2.heap.objs.size (.lst [])) fp) pY σ' H' s'->Inv X a6 σ H' s':=fun{pY σ' H' s'} J'=>
  I1.call' J'.os J'.base J'.hok J'.bare fun b hb=>⟨(f2 b hb).2.2.2.1,(f2 b hb).2.1,(f2 b hb).2.2.2.2.1,(f2 b hb).2.2.2.2.2⟩
 have stat: ∀{H':Hp} {pY:List (Addr×Obj)},(∀b∈fp,H' b=none)->pY=[]-> ∀b∈fp,FpOk (zBY X N' scope (nc++cl) s1 (upd H2 s2.heap.objs.size (.lst [])) fp) pY H' b:=fun{H' pY} hn hp b hb=>by
  subst hp
  refine⟨hn b hb,(okY.exf b hb).1,okY.exfs b hb,.inl hb,(okY.exf b hb).2,fun p hp=>absurd (show p∈([]:List (Addr×Obj)) from hp) (by simp)⟩
 have st1:tn 0 h₁:=T.keep 0 s2.heap h₁ st2 fun b hb o e=>old b o (me b o e)
 have fr1: ∀b∈fp,(upd H2 s2.heap.objs.size (.lst [])) b=none:=fun b hb=>by
  rw[zB3 (Nat.ne_of_lt (i7 b hb))]
  exact(f2 b hb).1
 have loop: ∀s₃:Shared,s₃={s2 with heap:=h₁}→
   codeAny (model X.prog X.w) X.A (.compLoop (.ListComp elt [⟨tg,iter,ifs,0⟩] scope pos) 0 (.ref it) (.ref s2.heap.objs.size) (compEnvC scope (nc++cl) s1.heap.objs.size X.env)) (RR (.ref s2.heap.objs.size) s1.heap.objs.size) s₃:=by
  rintro s₃ rfl
  refine zQN (fun n s'=> ∃i σ' H' acc,Inv (zBY X N' scope (nc++cl) s1 (upd H2 s2.heap.objs.size (.lst [])) fp) [] σ' H' s'/\σ'.take ix.length=caps ix σ/\tn i s'.heap/\(∀b∈fp,H' b=none)/\W i n acc H') ?_ m0
   ⟨0,_,_,[],IY,by rw [List.take_append_of_le_length (by simp [caps])];exact List.take_of_length_le (by simp [caps]),st1,fr1,w0⟩
  rintro n s' ⟨i,σ',H',acc,J',hσ,st',fr',w'⟩
  have Jc:Inv (zBY X N' scope (nc++cl) s1 (upd H2 s2.heap.objs.size (.lst [])) fp) [] (caps ix σ++List.replicate nl none) H' s':=by
   refine J'.weak (by rw[gq];exact J'.len.symm) fun j v e=> ?_
   have hl:(caps ix σ).length=ix.length:=by simp[caps]
   by_cases hj:j<ix.length
   ·rw [List.getElem?_append_left (by rw [hl];exact hj),<- hσ,List.getElem?_take_of_lt hj] at e
    exact e
   ·rw [List.getElem?_append_right (by rw [hl];omega),List.getElem?_replicate] at e
    split at e<;>cases e
  rcases turn i n acc H' w' with⟨stop,q⟩|⟨go,N,hN,step⟩
  ·refine wpAny_mono (T.done (zBY X N' scope (nc ++ cl) s1 (upd H2 s2.heap.objs.size (.lst [])) fp) rfl rfl rfl hc i [] s' _ H' (fun _ _ => False) Jc (stat fr' rfl) st' stop) (fun r s4 ⟨hr,I4⟩ => ?_) fun _ _ z => z
   subst hr
   have IX:=oh I4
   obtain⟨m,hm,_⟩:=I4.loc
   exact fin _ _ s4 H' IX ⟨m,hm⟩ (Nat.ne_of_gt I1.lt) (fun x c e z=>by
    obtain⟨v,q⟩:=I1.cell x c e
    have:=q.lt
    rw[z] at this
    exact Nat.lt_irrefl _ this) (fun σ'' s'' h'' I'' sb=>Inv.offNew I1 I'' I4.free fun b o hb e=>(sb.2 b hb).trans e) q
  ·refine wpAny_mono (T.item (zBY X N' scope (nc ++ cl) s1 (upd H2 s2.heap.objs.size (.lst [])) fp) rfl rfl rfl hc i [] s' _ H' (fun _ _ => False) Jc (stat fr' rfl) st' go) (fun r s4 ⟨u,hr,h4⟩ => ?_) fun _ _ z => z
   subst hr
   refine wpAny_mono h4 (fun _ s5 ⟨x,H5,I5,r5,y5,st5,fr5⟩=> ?_) fun _ _ z=>z
   have I5':=I5.pinned (stat fr5 rfl) (T.obj _ _ st5)
   obtain⟨btg,bts,bel⟩:=blk (nc++cl) s1 (upd H2 s2.heap.objs.size (.lst [])) fp
   refine wpAny_mono (btg _ s5 _ H5 x u _ I5' r5 (step x H5 y5)) (fun _ s6 ⟨σ6,H6,I6,hσ6,q6⟩=> ?_) fun _ _ z=>z
   have zDU: ∀{H7:Hp} {s7:Shared} {ar:List V},Inv (zBY X N' scope (nc++cl) s1 (upd H2 s2.heap.objs.size (.lst [])) fp) ([]++zJY fp s5.heap) σ6 H7 s7->N ar H7→
     ∃m,m<n/\ ∃i σ' H' acc,Inv (zBY X N' scope (nc++cl) s1 (upd H2 s2.heap.objs.size (.lst [])) fp) [] σ' H' s7/\σ'.take ix.length=caps ix σ/\tn i s7.heap/\(∀b∈fp,H' b=none)/\W i m acc H':=fun{H7 s7 ar} I7 n7=>by
    obtain⟨m',hm,w7⟩:=hN ar H7 n7
    refine⟨m',hm,i+1,σ6,H7,ar,I7.unpinned,hσ6,T.keep _ _ _ st5 fun b hb o e=>(I7.pin (b,o) (List.mem_append_right _ (List.mem_append_right _ (zE9 hb e)))).1,fun b hb=> ?_,w7⟩
    obtain⟨o,e,d⟩:=T.obj _ _ st5 b hb
    exact(I7.pin (b,o) (List.mem_append_right _ (List.mem_append_right _ (zE9 hb e)))).2.1
   refine wpAny_mono (bts _ s6 σ6 H6 _ I6 q6) (fun okb s7 ⟨H7,I7,q7⟩=> ?_) fun _ _ z=>z
   cases okb with
   | false => exact zDU I7 q7
   |true=>
    refine wpAny_mono (bel _ s7 σ6 H7 _ I7 q7) (fun v s8 ⟨y,H8,I8,r8,hD8,hz8,n8⟩=> ?_) fun _ _ z=>z
    refine wpAny_mono (zBF (X:=zBY X N' scope (nc++cl) s1 (upd H2 s2.heap.objs.size (.lst [])) fp) _ s8 σ6 H8 (.ref s2.heap.objs.size) [y] (.ref s2.heap.objs.size) [v] (fun _ H9=>N (acc++[y]) H9) I8 rfl (.cons r8 .nil)
     ⟨s2.heap.objs.size,acc,y,rfl,rfl,hD8,hz8,n8⟩) (fun _ s9 ⟨_,H9,I9,_,n9⟩=>zDU I9 n9) fun _ _ z=>z
 have he:({newEnv scope s1.heap.objs.size X.env.globals (nc++cl) X.env.qual none .none (some X.env) builtinsNs with scope:=relabel scope X.env}:Env)=compEnvC scope (nc++cl) s1.heap.objs.size X.env:=rfl
 exact codeAny_compStart_list (loop _ rfl) (T.self _ 0 _ _ _ st1 (loop _ rfl))
theorem zS8{X:Cx}{tg iter elt:Expr}{ifs:List Expr}{scope:Scope}{pos:Pos}{N':List Str}{ix:List Nat}{nl:Nat}{wi:TI}{g:TG}{tt:TT}{te:TE}
  (hc:X.calm=true) (S:zJA X N' ix scope) (hnl:N'.length=ix.length+nl) (hi:PI X tg iter wi)
  (blk: ∀(cl:List (Str×Addr)) (s1:Shared) (H1:Hp) (fp:List Addr),Blk (zBY X N' scope cl s1 H1 fp) tg ifs elt g tt te)
  (hs: ∀x,foldedSetIterable iter X.env x=pure x:=by intro _;rfl):PE X (.ListComp elt [⟨tg,iter,ifs,0⟩] scope pos) (zRL ix nl wi g tt te):=by
 intro a6 s σ H Q I h
 rw[eval_ListComp]
 obtain⟨cl,e1,e2,e3⟩:=zQO (env:=X.env) (scope:=scope) fun y hy hf=>I.ok.has y.1 (S.free y hy hf)
 refine wpAny_comprehension_free (use:=none) (cl:=cl) rfl hs e1 S.kind S.names (wpAny_mono (hi a6 s σ H _ I h) (fun xv s₁ h₁=>wpAny_mono h₁ (fun itv s₂ h₂=> ?_) fun _ _ e=>e) fun _ _ e=>e)
 obtain⟨it,fp,tn,J,H2,e,I2,T,st2,f2,q⟩:=h₂
 subst e
 refine zI8 (Q:=Q) (RR:=fun acc C=>compPost (model X.prog X.w) X.A X.xe none (EP X a6 σ Q) acc C) hc S hnl e2 e3 blk I2 T st2 f2 q ?_
 intro D C s' H' I' hm hC1 hC2 hb hq
 obtain⟨m,hm⟩:=hm
 exact⟨m,hm,fun h'' sb=>⟨.ref D,H',hb σ s' h'' I' sb,rfl,hq⟩⟩
section
variable{X:Cx}{K:W.Frag}{ml:List Nat}{pi pt pe pu:Bool}{pos:Pos}{ix:List Nat}{nl:Nat}{f:VF}
noncomputable def zKJ(N N':List Str)(ix:List Nat)(names:List (Str×NameKind))(k:Str->Option NameKind):Bool:=
 names.all (fun y=>y.2 != .cell || names.lookup y.1==some .cell) && (names.all (fun y=>y.2 != .local || names.lookup y.1==some .local) && (names.all (fun y=>y.2 != .free || (k y.1==some .cell || k y.1==some .free)) &&
  (decide N'.Nodup && ((List.range ix.length).all (fun j=>N'[j]? ==(ix[j]?).bind fun i=>N[i]?) && (N'.take ix.length).all fun x=>names.lookup x==some .free))))
theorem zDL{N':List Str}{scope:Scope}(hk:scope.kind= .function)(h:zKJ X.N N' ix scope.names X.env.kindOf=true):zJA X N' ix scope:=by
 unfold zKJ at h
 simp only[Bool.and_eq_true,List.all_eq_true,Bool.or_eq_true,bne_iff_ne,beq_iff_eq,decide_eq_true_eq,List.mem_range] at h
 obtain⟨h1,h2,h3,h4,h5,h6⟩:=h
 exact⟨hk,fun y hy e=>(h1 y hy).resolve_left fun z=>z e,fun y hy e=>(h2 y hy).resolve_left fun z=>z e,fun y hy e=>(h3 y hy).resolve_left fun z=>z e,h4,h5,h6⟩
abbrev BlkC(X:Cx)(K:W.Frag)(N':List Str)(ix:List Nat)(scope:Scope)(tg:Expr)(ifs:List Expr)(elt:Expr)(gg:VG)(pt:Bool)(tb:VB)(pe:Bool)(fe:VF):Prop:=N'.Nodup-> ∀(cl:List (Str×Addr)) (s1:Shared) (H1:Hp) (fp:List Addr),Blk (zBY X N' scope cl s1 H1 fp) tg ifs elt (TGV K (List.range ix.length) gg) (TB K (List.range ix.length) pt tb) (TV K (List.range ix.length) pe true true fe)
theorem zC8{tg iter elt:Expr}{ifs:List Expr}{scope:Scope}{fi:VI}{gg:VG}{tb:VB}{fe:VF}(N':List Str)(ix:List Nat)(nl:Nat)(hi:PI X tg iter (TIV K ml pi fi))(blk:BlkC X K N' ix scope tg ifs elt gg pt tb pe fe)(hc:X.calm=true:=by rfl)(hk:scope.kind= .function:=by rfl)(hok:zKJ X.N N' ix scope.names X.env.kindOf=true:=by rfl)(hnl:N'.length=ix.length+nl:=by rfl)(hnd:ix.Nodup:=by decide)
  (hs: ∀x,foldedSetIterable iter X.env x=pure x:=by intro _;rfl):PE X (.ListComp elt [⟨tg,iter,ifs,0⟩] scope pos) (TN K ml (pi && pt && pe) (zCM ix nl fi gg tb fe)):=
 (zS8 hc (zDL hk hok) hnl hi (blk (zDL hk hok).nd) hs).imp fun _ _ _ h=>zO6 hnd h
theorem zMD{i:Nat}{y:Str}{py ci:Pos}{tg iter elt:Expr}{ifs:List Expr}{scope:Scope}{N':List Str}{wi:TI}{g:TG}{tt:TT}{te:TE}
  (hN:X.N.Nodup) (hi':X.N[i]? =some y) (hy:X.env.scope.names.lookup y=some .local)
  (hc:X.calm=true) (S:zJA X N' ix scope) (hnl:N'.length=ix.length+nl) (hi:PI X tg iter wi)
  (blk: ∀(cl:List (Str×Addr)) (s1:Shared) (H1:Hp) (fp:List Addr),Blk (zBY X N' scope cl s1 H1 fp) tg ifs elt g tt te)
  (hsw:swapsWith (.ListComp elt [⟨tg,iter,ifs,0⟩] scope pos) (some (.Name y py)) ci.line X.env=pure true:=by rfl)
  (hs: ∀x,foldedSetIterable iter X.env x=pure x:=by intro _;rfl):PS X (.Assign [.Name y py] (.ListComp elt [⟨tg,iter,ifs,0⟩] scope pos) ci) (tAsg (zRL ix nl wi g tt te) (zSQ i)):=by
 intro a6 s σ H D I h
 rw[exec_Assign_Name_used _ _ _ _ hsw]
 refine wpAny_bind (wpAny_standAt (wpAny_bind ?_))
 show wpAny _ X.A (do let _<- comprehension (.ListComp elt [⟨tg,iter,ifs,0⟩] scope pos) scope X.env _ (newList []) false (eval iter X.env) (some (assign (.Name y py) X.env))) _ _ s
 obtain⟨cl,e1,e2,e3⟩:=zQO (env:=X.env) (scope:=scope) fun y hy hf=>I.ok.has y.1 (S.free y hy hf)
 refine wpAny_bind (wpAny_mono (wpAny_comprehension_free (use:=some (assign (.Name y py) X.env)) (cl:=cl) (Q:=fun _ s'=>SP X a6 D .next s') rfl hs e1 S.kind S.names
  (wpAny_mono (hi a6 s σ H _ I h) (fun xv s₁ h₁=>wpAny_mono h₁ (fun itv s₂ h₂=> ?_) fun _ _ e=>e) fun _ _ e=>e)) (fun _ s' hq=>wpAny_pure (wpAny_pure hq)) fun _ _ e=>e)
 obtain⟨it,fp,tn,J,H2,e,I2,T,st2,f2,q⟩:=h₂
 subst e
 refine zI8 (Q:=fun v H'=>D.nx (σ.set i (some v)) H') (RR:=fun acc C=>compPost (model X.prog X.w) X.A X.xe (some (assign (.Name y py) X.env)) (fun _ s'=>SP X a6 D .next s') acc C) hc S hnl e2 e3 blk I2 T st2 f2 q ?_
 intro Dl C s' H' I' hm hC1 hC2 hb hq
 obtain⟨m,hm⟩:=hm
 show wpAny _ X.A (assign (.Name y py) X.env (.ref Dl)) _ _ _
 refine wpAny_assign_Name (zJK I' hN hi' (.inl hy) (v:= .ref Dl) rfl (fun s'' I'' ⟨a,hsb,ha⟩=> ?_) (.inr hy))
 have hCa:C≠a:=by
  rcases ha with z|z
  ·rw[z];exact hC1
  ·exact Ne.symm (hC2 y a z)
 exact⟨m,hm.sameBut hsb hCa,fun h'' sb=>⟨_,H',hb _ s'' h'' I'' sb,hq⟩⟩
theorem zLW{i:Nat}{y:Str}{py ci:Pos}{tg iter elt:Expr}{ifs:List Expr}{scope:Scope}{fi:VI}{gg:VG}{tb:VB}{fe:VF}(o:Bool)(hN:X.N.Nodup)(N':List Str)(ix:List Nat)(nl:Nat)(hi:PI X tg iter (TIV K ml pi fi))(blk:BlkC X K N' ix scope tg ifs elt gg pt tb pe fe)(hi':X.N[i]? =some y:=by rfl)(hy:X.env.scope.names.lookup y=some .local:=by rfl)
  (hc:X.calm=true:=by rfl) (hk:scope.kind= .function:=by rfl) (hok:zKJ X.N N' ix scope.names X.env.kindOf=true:=by rfl) (hnl:N'.length=ix.length+nl:=by rfl) (hnd:ix.Nodup:=by decide) (hm:i∉ml:=by decide)
  (hsw:swapsWith (.ListComp elt [⟨tg,iter,ifs,0⟩] scope pos) (some (.Name y py)) ci.line X.env=pure true:=by rfl)
  (hs: ∀x,foldedSetIterable iter X.env x=pure x:=by intro _;rfl):PS X (.Assign [.Name y py] (.ListComp elt [⟨tg,iter,ifs,0⟩] scope pos) ci) (TSt K ml (sSet i (if o then xO (zCM ix nl fi gg tb fe) else xV (zCM ix nl fi gg tb fe)))):=
 (zMD hN hi' hy hc (zDL hk hok) hnl hi (blk (zDL hk hok).nd) hsw hs).imp fun D σ H h=>zT0 (fun σ H Q z=>zO6 hnd (zWG (pu:=pi && pt && pe) z)) hm h
end
section
variable{X:Cx}{K:W.Frag}{ml:List Nat}{e a b c:Expr}{es:List Expr}{pi pt pe pu bt bi ps bs:Bool}{f:VF}{B B':Bs}{O:Nat->Option Addr}{H H0 H1 H':Hp}{σ:St}{δ δ':Ev}{v:V}{d:Dat}{p:Addr}{pos:Pos}{ix:List Nat}{nl:Nat}
def yEM(K:W.Frag)(N:Addr->Prop)(J:It)(H:Hp)(ds:List Dat):Prop:= ∃xs:List V,RepA K N H xs ds/\ ∀H2,Same H H2->(∀(i:Nat) (x:V),xs[i]? =some x->J.go i H2/\ ∀y H3,J.yld i H2 y H3->H3=H2/\y=x)/\J.stop xs.length H2
def TIVp(K:W.Frag)(ml:List Nat)(f:VI):TI:=fun σ H R=> ∃B O δ ds δ',Sta K ml B O H σ δ/\f δ=some (ds,δ')/\ ∀J H',Sta K ml B O H' σ δ'->Same H H'->yEM K (Nn B O) J H' ds->R J H'
theorem zRG{fi:VI}{gg:VG}{tb:VB}{fe:VF}(hnd:ix.Nodup){Q:VK}(h:TN K ml true (zCM ix nl fi gg tb fe) σ H Q):
  zRL ix nl (TIVp K ml fi) (TGV K (List.range ix.length) gg) (TB K (List.range ix.length) true tb) (TV K (List.range ix.length) true true true fe) σ H Q:=by
 obtain⟨B,O,δ,d,δ2,S,q,k⟩:=h
 unfold zCM at q
 cases h1:fi δ with
 | none => rw [h1] at q;cases q
 |some p=>
  obtain⟨ds,δ1⟩:=p
  rw[h1] at q
  have q : ((zBS ix.length nl gg tb fe ds [] (zAZ ix δ1)).map fun q => (Dat.lst q.1,zD3 ix q.2 δ1)) = some (d,δ2) := q
  cases h2:zBS ix.length nl gg tb fe ds [] (zAZ ix δ1) with
  | none => rw [h2] at q;cases q
  |some z=>
   obtain⟨res,δf⟩:=z
   rw[h2] at q
   cases q
   refine⟨B,O,δ,ds,δ1,S,h1,fun J H0 S0 p0 wk D hD=> ?_⟩
   obtain⟨els,rel,wk⟩:=wk
   have hDO : ∀ j,Oc ix O j ≠ some D := fun j e => by
    unfold Oc at e
    cases hi:ix[j]? with
    | none => rw [hi] at e;cases e
    |some i=>
     rw[hi] at e
     obtain⟨o,q⟩:=S0.nin (.inr ⟨i,e⟩)
     rw[hD] at q
     cases q
   have du : ∀ kp j,ix.length <= j -> (Bc ix B O H0 D kp).mu j = none := fun kp j hj => by
    show(ix[j]?).bind O=none
    rw[List.getElem?_eq_none hj]
    rfl
   refine⟨fun i m acc H1=>m=ds.length - i/\i<=ds.length/\ ∃(ai:List Dat) (δc:Ev),δc.length=ix.length/\acc.length=ai.length∧
     Sta K (List.range ix.length) (Bc ix B O H0 D (acc.zip ai)) (Oc ix O) H1 (caps ix σ++List.replicate nl none) (δc++nos nl)/\H1 D=some (.lst acc)/\Same H0 H1∧
     zBS ix.length nl gg tb fe (ds.drop i) ai δc=some (res,δf),
    ⟨ds.length,rfl,Nat.zero_le _,[],zAZ ix δ1,by simp [zAZ],rfl,by
     rw[List.zip_nil_left]
     exact S0.inner hD hnd fun p hp=>(nomatch hp),zAK,zA4 hD,h2⟩,?_⟩
   rintro i m acc H1 ⟨rfl,hi,ai,δc,hlc,aq,S1,hD1,c7,hc⟩
   have w:=wk H1 c7
   have mi:RepA K (Nn (Bc ix B O H0 D (acc.zip ai)) (Oc ix O)) H1 els ds:=(rel.away hD _ _ zL6).same c7
   by_cases hlt:i<ds.length
   ·obtain ⟨ex,ex1,ex2⟩ := mi.get (i := i) (d := ds[i]) (by simp [hlt])
    obtain⟨go,yl⟩:=w.1 i ex ex1
    rw[List.drop_eq_getElem_cons hlt] at hc
    simp only[zBS] at hc
    cases g1:gg ds[i] (δc++nos nl) with
    | none => rw [g1] at hc;cases hc
    |some δ3=>
     rw[g1] at hc
     simp only[Option.bind_some] at hc
     cases g2:tb δ3 with
     | none => rw [g2] at hc;cases hc
     |some z=>
      obtain⟨kk,δ4⟩:=z
      rw[g2] at hc
      simp only[Option.bind_some] at hc
      refine .inr ⟨go,fun ar H'=> ∃(ai:List Dat) (δc:Ev),δc.length=ix.length/\ar.length=ai.length∧
       Sta K (List.range ix.length) (Bc ix B O H0 D (ar.zip ai)) (Oc ix O) H' (caps ix σ++List.replicate nl none) (δc++nos nl)/\H' D=some (.lst ar)/\Same H0 H'∧
       zBS ix.length nl gg tb fe (ds.drop (i + 1)) ai δc = some (res,δf),fun ar H' w' => ⟨ds.length - (i + 1),by omega,rfl,hlt,w'⟩,fun x H2 hy => ?_⟩
      obtain⟨rfl,rfl⟩:=yl x H2 hy
      have rx:=ex2
      have sm:=Same.refl H2
      refine⟨_,_,_,ds[i],δ3,S1.same sm,rx,g1,fun σ3 O3 S3 m3=> ?_⟩
      have ln3:ix.length<=σ3.length:=by
       by_cases hz:ix.length=0
       ·omega
       ·have hj : ix.length - 1 < ix.length := by omega
        have:=m3 (ix.length - 1) (List.mem_range.mpr hj)
        have hs:(caps ix σ++List.replicate nl none)[ix.length - 1]? ≠none:=by
         rw [List.getElem?_append_left (by rw [zD8];exact hj)]
         simp[caps,hj]
        rw[<- this] at hs
        have ny:ix.length - 1<σ3.length:=Nat.lt_of_not_le fun z=>hs (List.getElem?_eq_none_iff.mpr z)
        omega
      have hσ3:=zJJ ln3 m3
      refine⟨hσ3,_,_,δ3,kk,δ4,S3,g2,fun H4 R4=> ?_⟩
      have hD4 : H4 D = some (.lst acc) := R4.frm _ _ (sm _ _ hD1) fun z => by
       obtain⟨j,e⟩:=z
       have:=(R4.sta.old j D e).1
       exact absurd (.inl (.inr rfl)) this
      have ln4 : ix.length <= δ4.length := by rw [<- R4.sta.len];exact ln3
      cases kk with
      |false=>
       rw[if_neg Bool.false_ne_true] at hc
       refine iteF ⟨ai,δ4.take ix.length,by rw[List.length_take];omega,aq,R4.sta.turn (du _) (zD8 ix σ) hσ3 ln4,hD4,?_,hc⟩
       exact(c7.trans sm).trans (R4.pur rfl)
      |true=>
       rw[if_pos rfl] at hc
       cases g3:fe δ4 with
       | none => rw [g3] at hc;cases hc
       |some z=>
        obtain⟨dv,δ5⟩:=z
        rw[g3] at hc
        simp only[Option.bind_some] at hc
        split at hc
        ·rename_i hz
         refine iteT ⟨_,_,δ4,dv,δ5,R4.sta,g3,fun v H5 R5=> ?_⟩
         have hD5:H5 D=some (.lst acc):=R5.frm _ _ hD4 fun z=>by
          obtain⟨j,e⟩:=z
          have:=(R5.sta.old j D e).1
          exact absurd (.inl (.inr rfl)) this
         have ln5:ix.length<=δ5.length:=by rw[<- R5.sta.len];exact ln3
         have S6:=R5.sta.turn (nl:=nl) (du _) (zD8 ix σ) hσ3 ln5
         have hv:Rep K (Nn (Bc ix B O H0 D (acc.zip ai)) (Oc ix O)) H5 (Nn (Bc ix B O H0 D (acc.zip ai)) (Oc ix O)) v dv:=by
          have hN: ∀a,Nn (Bc ix B O H0 D (acc.zip ai)) (Oc ix O) a->av (Bc ix B O H0 D (acc.zip ai)) O3 true a:=fun a h=>by
           rcases h with h|⟨j,h⟩
           ·exact .inl h
           ·refine .inr ⟨j,?_⟩
            have hj:j∈List.range ix.length:=R5.sta.par.1 j a h
            rw[R5.sta.par.2 j hj]
            exact h
          exact R5.rep.mono hN hN
         have S7:=S6.withKp (kp:=(acc++[v]).zip (ai++[dv])) fun p hp=>by
          rw[List.zip_append aq] at hp
          rcases List.mem_append.mp hp with z|z
          ·exact S6.kep p z
          ·rw[List.mem_singleton.mp (show p∈[(v,dv)] from z)]
           exact hv
         refine⟨hD5,by rw[aq,sizeLine_eq];exact hz,ai++[dv],δ5.take ix.length,by rw[List.length_take];omega,by simp[aq],?_,zAK,?_,hc⟩
         ·exact S7.writeZ (.inl (.inr rfl)) hD5 hD
         ·intro b o e
          have hb:b≠D:=fun z=>by rw[z,hD] at e;cases e
          rw[zB3 hb]
          exact((c7.trans sm).trans ((R4.pur rfl).trans (R5.pur rfl))) b o e
        ·cases hc
   ·have e : i = ds.length := by omega
    subst e
    rw[List.drop_length] at hc
    cases hc
    refine .inl ⟨by rw[<- rel.length];exact w.2,k D H1 ?_⟩
    have fP:Fr (OA (Oc ix O)) H0 H1:=S1.frm
    have hPO: ∀a,OA (Oc ix O) a->OA O a:=fun a q0=>by
     obtain⟨j,e⟩:=q0
     unfold Oc at e
     cases hi:ix[j]? with
     | none => rw [hi] at e;cases e
     | some i => rw [hi] at e;exact ⟨i,e⟩
    have SL:=S0.laid (o:= .lst acc) hD
    have fL:Fr (OA (Oc ix O)) (upd H0 D (.lst acc)) H1:=fun b o e n=>by
     by_cases hb:b=D
     ·subst hb
      rw[zAK] at e
      cases e
      exact hD1
     ·rw[zB3 hb] at e
      exact fP b o e n
    refine⟨SL.call (zE6) (fun i=> ?_) fL hPO,(p0.fr (P:=OA O)).trans (fP.mono hPO),fun z=> ?_,.lst hD1 (zFN aq fun p hp=>(S1.kep p hp).mono zI0 zI0),S0.new hD,S0.fresh hD⟩
    ·by_cases dw:i<δ1.length
     ·rcases zE7 (ix:=ix) (ss:=δf) (δ:=δ1) i dw hlc.symm with⟨j,x,e1,e2,e3⟩|⟨e1,e2⟩
      ·have e4:(δf++nos nl)[j]? =some (.ow x):=by
        rw[List.getElem?_append_left (List.getElem?_eq_some_iff.mp e2).1]
        exact e2
       obtain⟨a,e5,_,w⟩:=S1.ow j x e4
       refine .inr ⟨a,x,?_,e3,w.mono zI0⟩
       unfold Oc at e5
       rw[e1] at e5
       exact e5
      ·refine .inl ⟨e2,fun a ea ⟨j,ej⟩ => ?_⟩
       obtain⟨x,ex⟩:=S1.dom j a ej
       unfold Oc at ej
       cases hi:ix[j]? with
       |none=>rw[hi] at ej;cases ej
       |some i'=>
        rw[hi] at ej
        have:i=i':=S0.inj i i' a ea ej
        subst this
        have hj:j<δf.length:=by rw[hlc];exact(List.getElem?_eq_some_iff.mp hi).1
        rw[List.getElem?_append_left hj] at ex
        exact e1 j x hi ex
     ·refine .inl ⟨?_,fun a ea => ?_⟩
      ·rw [List.getElem?_eq_none (by rw [zE6];omega),List.getElem?_eq_none (by omega)]
      ·obtain⟨x,ex⟩:=S0.dom i a ea
       exact absurd (List.getElem?_eq_some_iff.mp ex).1 dw
    ·exact p0.trans c7
theorem Same.sqT{a:Addr}{xs:List V}(s:Same H H')(h:SqT K H a xs):SqT K H' a xs:=Fr.tup (P:=fun _=>False) s.fr h
theorem zWB{tg:Expr}(hK:X.K=K)(h:PE X e (TV K ml true bt bi f))(hb:bi=true:=by rfl):PI X tg e (TIVp K ml (iSeq f)):=by
 subst hb
 refine((zTQ (K:=K) hK h).or (zZR (K:=K) hK h)).imp fun σ H R ⟨B,O,δ,ds,δ',S,q,k⟩=> ?_
 unfold iSeq at q
 cases h1:f δ with
 | none => rw [h1] at q;cases q
 |some p=>
  obtain⟨x,δ1⟩:=p
  rw[h1] at q
  cases x with
  |lst ds'=>
   cases q
   refine .inl ⟨B,O,δ,_,δ1,S,h1,fun v H1 R1=> ?_⟩
   obtain⟨a,xs,rfl,sq,r⟩:=R1.rep.lstE
   refine⟨a,rfl,⟨xs,sq⟩,k _ H1 R1.sta (R1.pur rfl) ⟨xs,r,fun H2 sm=>⟨fun i x ex=>⟨⟨xs,x,sm.seq sq,ex⟩,fun y H3 hy=> ?_⟩,xs,sm.seq sq,Nat.le_refl _⟩⟩⟩
   obtain⟨e2,e3⟩:=hy
   have:=e3 xs (sm.seq sq)
   rw[ex] at this
   cases this
   exact⟨e2,rfl⟩
  |tup ds'=>
   cases q
   refine .inr ⟨B,O,δ,_,δ1,S,h1,fun v H1 R1=> ?_⟩
   obtain⟨a,xs,rfl,sq,r⟩:=R1.rep.tupE
   refine⟨a,rfl,⟨xs,sq⟩,k _ H1 R1.sta (R1.pur rfl) ⟨xs,r,fun H2 sm=>⟨fun i x ex=>⟨⟨xs,x,sm.sqT sq,ex⟩,fun y H3 hy=> ?_⟩,xs,sm.sqT sq,Nat.le_refl _⟩⟩⟩
   obtain⟨e2,e3⟩:=hy
   have:=e3 xs (sm.sqT sq)
   rw[ex] at this
   cases this
   exact⟨e2,rfl⟩
  |_=>cases q
theorem zR7{i:Nat}{y:Str}{py ci:Pos}{tg iter elt:Expr}{ifs:List Expr}{scope:Scope}{fi:VI}{gg:VG}{tb:VB}{fe:VF}(o:Bool)(hN:X.N.Nodup)(N':List Str)(ix:List Nat)(nl:Nat)(hi:PI X tg iter (TIVp K ml fi))(blk:BlkC X K N' ix scope tg ifs elt gg pt tb pe fe)(hi':X.N[i]? =some y:=by rfl)(hy:X.env.scope.names.lookup y=some .local:=by rfl)
  (hc:X.calm=true:=by rfl) (hk:scope.kind= .function:=by rfl) (hok:zKJ X.N N' ix scope.names X.env.kindOf=true:=by rfl) (hnl:N'.length=ix.length+nl:=by rfl) (hnd:ix.Nodup:=by decide) (hp:(pt && pe)=true:=by rfl) (hm:i∉ml:=by decide)
  (hsw:swapsWith (.ListComp elt [⟨tg,iter,ifs,0⟩] scope pos) (some (.Name y py)) ci.line X.env=pure true:=by rfl)
  (hs: ∀x,foldedSetIterable iter X.env x=pure x:=by intro _;rfl):PS X (.Assign [.Name y py] (.ListComp elt [⟨tg,iter,ifs,0⟩] scope pos) ci) (TSt K ml (sSet i (if o then xO (zCM ix nl fi gg tb fe) else xV (zCM ix nl fi gg tb fe)))):=by
 obtain⟨h1,h2⟩:=(Bool.and_eq_true _ _).mp hp
 subst h1 h2
 exact(zMD hN hi' hy hc (zDL hk hok) hnl hi (blk (zDL hk hok).nd) hsw hs).imp fun D σ H h=>zT0 (fun σ H Q z=>zRG hnd (zWG (pu:=true) z)) hm h
end
section
variable{X:Cx}{K:W.Frag}{ml:List Nat}{e a b c:Expr}{es:List Expr}{pa ta ia pb tb ib pc tc ic pu bt bi ps bs:Bool}{fa fb fc f:VF}{B B':Bs}{O:Nat->Option Addr}{H H1 H':Hp}{σ:St}{δ δ':Ev}{v:V}{d:Dat}{p:Addr}{pos:Pos}
structure FunD(K:W.Frag)(x qual:Str)(st:Stmt)(dV:Value)(f:Addr)(fd:FuncData):Prop where
 ex: ∃(oc:Value) (od:Option Addr) (kV doc pm:Value) (an:Option Addr) (cdv ct:Value) (osl:Array (Option Value)),
  fd=W.fnOf x qual (zBX st) (zBL st) (zA5 st) dV kV doc pm an cdv ct/\K.lookup f=some ⟨oc,od,.func fd,osl⟩/\W.codeIn K cdv qual=true
 kp:W.keepIn K (.ref f)=true
theorem zW0{x qual:Str}{st:Stmt}{dV:Value}{f:Addr}{oc:Value}{od an:Option Addr}{osl:Array (Option Value)}{kV doc pm cdv ct:Value}(l:K.lookup f=some ⟨oc,od,.func (W.fnOf x qual (zBX st) (zBL st) (zA5 st) dV kV doc pm an cdv ct),osl⟩)
  (c:W.codeIn K cdv qual=true) (k:W.keepIn K (.ref f)=true):FunD K x qual st dV f (W.fnOf x qual (zBX st) (zBL st) (zA5 st) dV kV doc pm an cdv ct):=⟨⟨oc,od,kV,doc,pm,an,cdv,ct,osl,rfl,l,c⟩,k⟩
theorem FunD.okV{P:Program}{w:World}{mg:Str->Option Value}{base:Heap}{x qual:Str}{st:Stmt}{dV:Value}{f:Addr}{fd:FuncData}{N ps:List Str}{k:Nat}{g:VS}(F:FunD K x qual st dV f fd)(S:zAE N ps (zA5 st))(hps:ps.length<=N.length)
  (b5: ∀(cdv:Value) (A:Around) (outer:List Env) (s:Shared) (H:Hp) (E:XK),Room k (A.deeper (envOfC qual (zA5 st) s.heap.objs.size f cdv))→
   PSs (cxOf CX0 P w K mg base N qual (zA5 st) f cdv A outer s H E).nox (zBL st) (TSt K ml g)):FnOk P w K mg base CX0 (k+1) f fd ps (spV K ml ps.length (runV N.length ml g)):=by
 obtain⟨oc,od,kV,doc,pm,an,cdv,ct,osl,rfl,lk,hcd⟩:=F.ex
 refine yA9 lk hcd S (fun vs H Q E h=> ?_) fun A outer s H vs Q E hr hsp=>⟨_,(b5 cdv A outer s H E hr).nox,yAL hps hsp⟩
 obtain⟨Z,ds,r,os,hn,AV,_⟩:=h
 rw[AV.len,hn]
theorem FunD.binds{x qual:Str}{st:Stmt}{T f:Addr}{fd:FuncData}{ps:List Str}{o:Obj}{its:Array Value}{n m:Nat}{ds:List Value}(F:FunD K x qual st (.ref T) f fd)(ho:K.lookup T=some o)(hs:o.data= .seq its n)
  (h: ∀(kV doc pm:Value) (an:Option Addr) (cdv ct:Value) (us:List Value),us.length=m-> ∃k,bindArgs (W.fnOf x qual (zBX st) (zBL st) (zA5 st) (.ref T) kV doc pm an cdv ct) ⟨us,[]⟩=seqItems? (.ref T)>>=k/\k (some its)=pure (ps.zip (us++ds)))
  (hm:m+ds.length=ps.length:=by rfl):zJB K fd ps ds:=by
 obtain⟨oc,od,kV,doc,pm,an,cdv,ct,osl,rfl,lk,hcd⟩:=F.ex
 intro s us hK hl
 obtain⟨k,h1,h2⟩:=h kV doc pm an cdv ct us (by rw[List.length_append] at hl;omega)
 exact BindsTo.of_defaults rfl (hK _ _ ho) hs h1 h2
structure DefD(P:Program)(w:World)(K:W.Frag)(mg:Str->Option Value)(base:Heap)(x:Str)(k:Nat)(ps:List Str)(sp:Sp)(f:Addr)(v0:V):Prop where
 at_:mg x=some (.ref f)
 ok: ∃fd u0,FnOk P w K mg base CX0 k f fd ps sp/\zJB K fd ps [u0]/\RelV v0 u0
 kp:W.keepIn K (.ref f)=true
noncomputable def dflt(F:VFun)(d:Dat):VFun:=fun ds=>F (ds++[d])
theorem zRO{mF:List Nat}{m:Nat}{F:VFun}{vs:List V}{Q:VK}{E:XK}(hv: ∀N H M,Rep K N H M v d)(hn: ∀a,v≠ .ref a)(h:spV K mF m (dflt F d) vs H Q E):spV K mF (m+1) F (vs++[v]) H Q E:=by
 obtain⟨Z,ds,r,os,hl,A,hF,k⟩:=h
 have df: ∀(i:Nat) (a:Addr),(vs++[v])[i]? =some (.ref a)->vs[i]? =some (.ref a):=fun i a h=>by
  by_cases hi:i<vs.length
  ·rwa[List.getElem?_append_left hi] at h
  ·rw [List.getElem?_append_right (by omega)] at h
   cases hj:i - vs.length with
   |zero=>rw[hj] at h;cases h;exact absurd rfl (hn a)
   |succ j=>rw[hj] at h;simp at h
 have gk: ∀(i:Nat) (u:V),vs[i]? =some u->(vs++[v])[i]? =some u:=fun i u h=>by
  rw[List.getElem?_append_left (List.getElem?_eq_some_iff.mp h).1]
  exact h
 have hP: ∀a,argP mF (vs++[v]) a->argP mF vs a:=fun a ⟨i,hi,e⟩=>⟨i,hi,df i a e⟩
 have hP': ∀a,argP mF vs a->argP mF (vs++[v]) a:=fun a ⟨i,hi,e⟩=>⟨i,hi,gk i _ e⟩
 have hZ: ∀a,Zp Z mF (vs++[v]) a->Zp Z mF vs a:=fun a h=>h.imp id (hP a)
 have hZ': ∀a,Zp Z mF vs a->Zp Z mF (vs++[v]) a:=fun a h=>h.imp id (hP' a)
 refine⟨Z,ds++[d],r,os,by simp[hl],⟨by simp[A.len],fun i hi=> ?_,fun i x hi e=> ?_,fun i x hi e=> ?_,fun i j a hi hj e1 e2=>A.inj i j a hi hj (df i a e1) (df j a e2),A.zin⟩,hF,fun u H' f w rr=>k u H' (f.mono hP) (fun kk i a o e1 e2 e3=>(w kk i a o e1 (gk i _ e2) e3).mono hZ') (rr.mono hZ' hZ')⟩
 ·have:=A.mem i hi
  simp
  omega
 ·by_cases hi':i<ds.length
  ·rw[List.getElem?_append_left hi'] at e
   obtain⟨u,e1,r1⟩:=A.va i x hi e
   exact⟨u,gk i u e1,r1.mono hZ hZ⟩
  ·rw [List.getElem?_append_right (by omega)] at e
   cases hj:i - ds.length with
   |zero=>
    rw[hj] at e
    cases e
    have:i=vs.length:=by have:=A.len;omega
    subst this
    exact⟨v,by rw[List.getElem?_append_right (by omega)];simp,hv _ _ _⟩
   |succ j=>rw[hj] at e;simp at e
 ·have hi':=A.mem i hi
  rw[List.getElem?_append_left hi'] at e
  obtain⟨u,e1,w1,z1⟩:=A.ow i x hi e
  exact⟨u,gk i _ e1,w1.mono hZ,z1⟩
theorem zRE{x:Str}{kk j m:Nat}{qs:List Str}{mF:List Nat}{F:VFun}{ff:Addr}{p':Pos}{fs:VFg}(hK:X.K=K)(D:DefD X.prog X.w K X.mg X.base x kk qs (spV K mF (m+1) F) ff v)(hv: ∀N H M,Rep K N H M v d)(hn: ∀a,v≠ .ref a)(hr:Room j X.A)(hk:kk<=j)(hg:Gl X x)(ha:PA X (e::es) (TAG K ml ps fs))(hdb:(x==("__debug__":Str))=false:=by decide)
  (he:starEach (e::es) X.env=(false,eval e X.env)::starEach es X.env:=by rfl) (hpl:(backTo pos (starEach es X.env)).any (·.1)=false:=by rfl):
  PE X (.Call (.Name x p') (e::es) [] pos) (TV K ml (ps && mF.isEmpty) true true (zAG m mF (dflt F d) fs)):=by
 subst hK
 obtain⟨fd,u0,F',Bd,hd⟩:=D.ok
 refine(zPI F' (hr.mono hk) hg D.at_ D.kp Bd (.cons hd .nil) zV9 ha hdb he hpl).imp fun σ H Q h=> ?_
 obtain⟨B,O,δ,as,δ',S,q,k⟩:=zIK h
 exact⟨B,O,δ,as,δ',S,q,fun vs H' R=>zRO hv hn (by have z:spV X.K mF m (dflt F d) (vs++[]) H' Q E0:=k vs H' R;rwa[List.append_nil] at z)⟩
noncomputable def zEN:List (Str×VFun)->Str->Option VFun
 |[],_=>none
 |(y,F)::r,x=>if y=x then some F else zEN r x
def zSY(X:Cx)(K:W.Frag)(mF:List Nat)(n:Nat)(tb:List (Str×VFun)):Prop:= ∀x F a,zEN tb x=some F->W.nsIn K mainGlobals x=some (some (.ref a))->FnAt X a (spV K mF n F)
theorem zUG{mF:List Nat}{n:Nat}:zSY X K mF n []:=fun _ _ _ h=>nomatch h
theorem zDN{x:Str}{kk j n:Nat}{qs:List Str}{mF:List Nat}{F:VFun}{ff:Addr}{tb:List (Str×VFun)}(hK:X.K=K)(hm: ∀x a,W.nsIn K mainGlobals x=some (some (.ref a))->X.mg x=some (.ref a))(hr:Room j X.A)
  (D:Def X.prog X.w K X.mg X.base x kk qs (spV K mF n F) ff) (hk:kk<=j) (t:zSY X K mF n tb):zSY X K mF n ((x,F)::tb):=fun y G a h1 h2=>by
 unfold zEN at h1
 split at h1
 ·rename_i hxy
  subst hxy
  cases h1
  have e:=(hm x a h2).symm.trans D.at_
  cases e
  subst hK
  exact D.fnAt hr hk
 ·exact t y G a h1 h2
noncomputable def zKD(n:Nat)(mF:List Nat)(tb:List (Str×VFun))(i:Nat)(fs:VFg):VF:=fun δ=>match δ[i]? with
 |some (.va (.fn x))=>(zEN tb x).bind fun F=>zAG n mF F fs δ
 |_=>none
theorem zRD{y:Str}{i n:Nat}{mF:List Nat}{tb:List (Str×VFun)}{p':Pos}{fs:VFg}(ht:zSY X K mF n tb)(hf:PE X (.Name y p') (tVar i))(ha:PA X (e::es) (TAG K ml ps fs))
  (he : starEach (e :: es) X.env = (false,eval e X.env) :: starEach es X.env := by rfl) (hpl : (backTo pos (starEach es X.env)).any (·.1) = false := by rfl) :
  PE X (.Call (.Name y p') (e::es) [] pos) (TV K ml (ps && mF.isEmpty) true true (zKD n mF tb i fs)):=(zSA hf ha he hpl).imp fun σ H Q h=>by
 obtain⟨B,O,δ,d,δ',S,q,k⟩:=h
 unfold zKD at q
 split at q
 ·rename_i x hx
  cases hF:zEN tb x with
  | none => rw [hF] at q;cases q
  |some F=>
   rw[hF] at q
   obtain⟨v,e1,r⟩:=S.va i _ hx
   cases r with
   |fn h=>
    refine⟨_,e1,_,_,rfl,ht x F _ hF h,?_⟩
    obtain⟨B,O,δ,as,δ',S,q,k⟩:=zIK (F:=F) (fs:=fs) (K:=K) (ml:=ml) (ps:=ps) (n:=n) (mF:=mF) (σ:=σ) (H:=H) (Q:=Q) ⟨B,O,δ,d,δ',S,q,k⟩
    exact⟨B,O,δ,as,δ',S,q,fun vs H' R=>by have z:spV K mF n F (vs++[]) H' Q E0:=k vs H' R;rwa[List.append_nil] at z⟩
 ·cases q
end
section
variable{X:Cx}{K:W.Frag}{ml:List Nat}{e a b c:Expr}{es:List Expr}{pa ta ia pb tb ib pc tc ic pu bt bi ps bs:Bool}{fa fb fc f:VF}{B B':Bs}{O:Nat->Option Addr}{H H1 H':Hp}{σ:St}{δ δ':Ev}{v:V}{d:Dat}{p:Addr}{pos:Pos}
theorem Own.away{N N':Addr->Prop}{q:Addr}{o:HO}(hp:H p=none)(hN: ∀a,N' a->N a∨a=p)(w:Own K N H q d):Own K N' (upd H p o) q d:=by
 cases w with
 |lst q r=>exact .lst (zA4 hp _ _ q) ((r.away hp _ _ hN).same (zA4 hp))
 |dct q r=>exact .dct (zA4 hp _ _ q) ((r.away hp _ _ hN).same (zA4 hp))
end
section
variable{X:Cx}{K:W.Frag}{ml:List Nat}{e a b c:Expr}{es:List Expr}{pa ta ia pb tb ib pc tc ic pu bt bi ps bs:Bool}{fa fb fc f:VF}{pos p':Pos}{d:Dat}{x:Str}
theorem vv(i:Nat)(hN:X.N[i]? =some x:=by rfl)(hv:Vis X.env.scope x:=by first|exact Or.inl rfl|exact Or.inr (Or.inl rfl)|exact Or.inr (Or.inr rfl))(hd:(x==("__debug__":Str))=false:=by decide)
  (hcd:(x==("__classdict__":Str))=false:=by decide):PE X (.Name x pos) (TV K ml true true true (fV i)):=zWC (zPH hN hv hd hcd)
theorem vo(i:Nat)(hN:X.N[i]? =some x:=by rfl)(hv:Vis X.env.scope x:=by first|exact Or.inl rfl|exact Or.inr (Or.inl rfl)|exact Or.inr (Or.inr rfl))(hd:(x==("__debug__":Str))=false:=by decide)
  (hcd:(x==("__classdict__":Str))=false:=by decide):PE X (.Name x pos) (TV K ml true false true (fO i)):=zWD (zPH hN hv hd hcd)
theorem vix(hu:X.A.units+1<cLine)(ha:PE X a (TV K ml pa ta ia fa))(hb:PE X b (TV K ml pb tb ib fb))(hK:X.K=K:=by rfl)(hx:zLN b:=by exact fun _ _=>rfl)(hs:(pb || (ta && ia))=true:=by rfl):PE X (.Subscript a b pos) (TV K ml (pa && pb) ia ia (f2 oIxA fa fb)):=
 yB6 (kIxA hK hu) yDS ha hb hx hs
theorem veq(hu:X.A.units+64<cLine)(ha:PE X a (TV K ml pa ta ia fa))(hb:PE X b (TV K ml pb tb ib fb))(hK:X.K=K:=by rfl)(hs:(pb || (ta && ia))=true:=by rfl):PE X (.Compare a [.Eq] [b] pos) (TV K ml (pa && pb) true true (f2 oEq fa fb)):=
 zDH (kEqD hK hu) s_eq ha hb (zBC _) hs
theorem vteq(hu:X.A.units+64<cLine)(ha:PE X a (TV K ml pa ta ia fa))(hb:PE X b (TV K ml pb tb ib fb))(hK:X.K=K:=by rfl)(hs:(pb || (ta && ia))=true:=by rfl):PT X (.Compare a [.Eq] [b] pos) (TB K ml (pa && pb) (fB (f2 oEq fa fb))):=
 zAR (kEqD hK hu) s_eq ha hb (zBC _) hs
theorem vcal{kk j n:Nat}{qs:List Str}{mF:List Nat}{F:VFun}{ff:Addr}{fs:VFg}(D:Def X.prog X.w K X.mg X.base x kk qs (spV K mF n F) ff)(hr:Room j X.A)(ha:PA X (e::es) (TAG K ml ps fs))(hK:X.K=K:=by rfl)(hk:kk<=j:=by decide)(hg:Gl X x:=by rfl)(hdb:(x==("__debug__":Str))=false:=by decide)
  (he:starEach (e::es) X.env=(false,eval e X.env)::starEach es X.env:=by rfl) (hpl:(backTo pos (starEach es X.env)).any (·.1)=false:=by rfl):
  PE X (.Call (.Name x p') (e::es) [] pos) (TV K ml (ps && mF.isEmpty) true true (zAG n mF F fs)):=zUE hK D hr hk hg ha hdb he hpl
theorem vlen(hm:X.mg "len"=none) (ha:PE X a (TV K ml pa ta ia fa)) (hK:X.K=K:=by rfl) (hg:Gl X "len":=by rfl) (he:starEach (a::[]) X.env=(false,eval a X.env)::starEach [] X.env:=by rfl):PE X (.Call (.Name "len" p') [a] [] pos) (TV K ml pa true true (f1 oLen fa)):=
 zUF (yDO hK) yBP hg hm yAJ ha (by decide) (by decide) he
theorem vty{n:String}(hm:X.mg x=none)(hv:bootBuiltins x=some (.type n))(hg:Gl X x:=by rfl)(hn:x≠ "__name__":=by decide) (hd:(x==("__debug__":Str))=false:=by decide):PE X (.Name x pos) (TV K ml true true true (fC (.ty n))):=
 ve_c (zV8 (v:= .ty n) hg hm hv rfl hn hd) fun _ _ _=> .ty _
theorem visi(hm:X.mg "isinstance"=none) (ha:PE X a (TV K ml pa ta ia fa)) (hb:PE X b (TV K ml pb tb ib fb)) (hK:X.K=K:=by rfl) (hg:Gl X "isinstance":=by rfl)
  (he:starEach (a::[b]) X.env=(false,eval a X.env)::starEach [b] X.env:=by rfl) (he2:starEach (b::[]) X.env=(false,eval b X.env)::starEach [] X.env:=by rfl) (hpl:(backTo pos (starEach [b] X.env)).any (·.1)=false:=by rfl) (hs:(pb || (ta && ia))=true:=by rfl):
  PE X (.Call (.Name "isinstance" p') [a,b] [] pos) (TV K ml (pa && pb) true true (f2 oIsi fa fb)):=zN8 (kIsi hK) yBQ hg hm zJ8 ha hb (by decide) (by decide) he he2 hpl hs
end
def A4(K:W.Frag)(x:Str)(st:Stmt)(f:Addr):Prop:= ∃(oc:Value) (od:Option Addr) (kV doc pm:Value) (an:Option Addr) (cdv ct:Value) (osl:Array (Option Value)),W.nsIn K mainGlobals x=some (some (.ref f))∧
 K.lookup f=some ⟨oc,od,.func (W.fnOf x x (zBX st) (zBL st) (zA5 st) .none kV doc pm an cdv ct),osl⟩/\W.codeIn K cdv x=true/\W.keepIn K (.ref f)=true
theorem a4{K:W.Frag}{x:Str}{st:Stmt}{f:Addr}{oc:Value}{od:Option Addr}{kV doc pm:Value}{an:Option Addr}{cdv ct:Value}{osl:Array (Option Value)}(a:W.nsIn K mainGlobals x=some (some (.ref f)))
  (b:K.lookup f=some ⟨oc,od,.func (W.fnOf x x (zBX st) (zBL st) (zA5 st) .none kV doc pm an cdv ct),osl⟩) (c:W.codeIn K cdv x=true) (d:W.keepIn K (.ref f)=true):A4 K x st f:=⟨oc,od,kV,doc,pm,an,cdv,ct,osl,a,b,c,d⟩
theorem A4.ns{K:W.Frag}{x:Str}{st:Stmt}{f:Addr}(p:A4 K x st f):W.nsIn K mainGlobals x=some (some (.ref f)):=by
 obtain⟨_,_,_,_,_,_,_,_,_,a,_⟩:=p
 exact a
theorem mkDf{P:Program}{w:World}{K:W.Frag}{mg:Str->Option Value}{base h:Heap}{x:Str}{st:Stmt}{f:Addr}{ps:List Str}{sp:Sp}{k:Nat}(X:K.In h)(G:h.Ns mainGlobals mg)(p:A4 K x st f)(ok: ∀{fd:FuncData},Fun K x x st f fd->FnOk P w K mg base CX0 k f fd ps sp)
  (hb: ∀{kV doc pm:Value} {an:Option Addr} {cdv ct:Value} (us:List Value),us.length=ps.length->bindArgs (W.fnOf x x (zBX st) (zBL st) (zA5 st) .none kV doc pm an cdv ct) ⟨us,[]⟩=pure (ps.zip us)):Def P w K mg base x k ps sp f:=by
 obtain⟨oc,od,kV,doc,pm,an,cdv,ct,osl,a,b,c,d⟩:=p
 have U:=zTU (st:=st) b c d
 exact⟨W.mg_of X G a,⟨_,ok U,U.binds fun _ _ _ _ _ _=>hb⟩,d⟩
theorem okW(P:Program)(w:World)(K:W.Frag)(mg:Str->Option Value)(base:Heap){x qual:Str}{st:Stmt}{f:Addr}{fd:FuncData}(N ps:List Str)(k:Nat)(g:VS)(ml:List Nat)(F:Fun K x qual st f fd)(S:zAE N ps (zA5 st))
  (b5: ∀(cdv:Value) (A:Around) (outer:List Env) (s:Shared) (H:Hp) (E:XK) (hr:Room k (A.deeper (envOfC qual (zA5 st) s.heap.objs.size f cdv))) (_:(A.deeper (envOfC qual (zA5 st) s.heap.objs.size f cdv)).units+64<cLine) (_:(A.deeper (envOfC qual (zA5 st) s.heap.objs.size f cdv)).units+1<cLine),
   PSs (cxOf CX0 P w K mg base N qual (zA5 st) f cdv A outer s H E).nox (zBL st) (TSt K ml g)) (hps:ps.length<=N.length:=by decide):FnOk P w K mg base CX0 (k+1) f fd ps (spV K ml ps.length (runV N.length ml g)):=
 Fun.okV F S hps fun cdv A outer s H E hr=>b5 cdv A outer s H E hr hr.units (yA8 hr)
theorem mkSc{N P:List Str}{sc:Scope}(a:sc.kind= .function:=by rfl)(b:sc.isCoroutine=false:=by rfl)(c:sc.isGenerator=false:=by rfl)(d:N.Nodup:=by decide+kernel)(e:N.take P.length=P:=by rfl)
  (f: ∀x∈P,sc.names.lookup x=some .local∨sc.names.lookup x=some .cell:=by decide+kernel) (g: ∀y∈sc.names,y.2≠NameKind.free:=by decide+kernel):zAE N P sc:=⟨a,b,c,d,e,f,g⟩
end L2
namespace TS
open PySem PySem.W PyProof.Rows
structure En where
 prog:Program
 w:World
 A:Around
 s:Shared
 κ:SortKind
 it:Array Keyed
def En.Ok(n:Nat)(ck:Nat->Nat->Bool)(e:En):Prop:= ∀i j,i<n->j<n-> ∀C:Bool->Shared->Prop,C (ck i j) e.s->kas_cmp e.prog e.w e.A e.κ e.it i j C e.s
abbrev En.at(e:En)(i:Nat):Keyed:=kas_item e.it i
abbrev En.of(e:En)(p:Array Nat):Array Keyed:=p.map (kas_item e.it)
structure Pu where
 p:Array Nat
 pd:Array (Nat×Nat×Nat)
 g:Nat
noncomputable def stO(e:En)(x:Pu):SortSt:=SortSt.mk' e.κ (e.of x.p) x.pd x.g none
section
variable{n:Nat}{ck:Nat->Nat->Bool}
def D(n:Nat)(ck:Nat->Nat->Bool){α:Type}(f:En->StateT SortSt Sem α)(x:Pu)(a:En->α)(y:Pu):Prop:=
 ∀e:En,e.Ok n ck-> ∀(E:Value->Shared->Prop) (Q:α->SortSt->Shared->Prop),Q (a e) (stO e y) e.s->kasC (model e.prog e.w) e.A E (f e) Q (stO e x) e.s
def X(n:Nat)(ck:Nat->Nat->Bool){α τ:Type}(f:En->StateT SortSt Sem α)(x:Pu)(v:τ->En->α)(R:τ->Pu->Prop):Prop:= ∃t y,R t y/\D n ck f x (v t) y
theorem D.pure{α:Type}{a:En->α}{x:Pu}:D n ck (fun e=>Pure.pure (a e)) x a x:=fun e _ E Q h=>kasC_pure h
theorem D.bind{α β:Type}{f:En->StateT SortSt Sem α}{k:En->α->StateT SortSt Sem β}{x y z:Pu}{a:En->α}{b:En->β}(h1:D n ck f x a y)(h2:D n ck (fun e=>k e (a e)) y b z):D n ck (fun e=>f e>>=k e) x b z:=
 fun e o E Q h=>kasC_bind (h1 e o E _ (h2 e o E Q h))
theorem D.get{x:Pu}:D n ck (fun _=>MonadState.get) x (fun e=>stO e x) x:=fun e _ E Q h=>kasC_get h
theorem D.modify{F:En->SortSt->SortSt}{x y:Pu}(h: ∀e,F e (stO e x)=stO e y):D n ck (fun e=>modify (F e)) x (fun _=>⟨⟩) y:=fun e _ E Q q=>kasC_modify (by rw[h e];exact q)
theorem D.rule{r:String}{x:Pu}:D n ck (fun _=>(liftM (PySem.rule r):StateT SortSt Sem Unit)) x (fun _=>()) x:=fun e _ E Q q=>kasC_lift (wpAny_rule q)
theorem D.elem{q:Array Nat}{i:Nat}{x:Pu}(hi:i<q.size):D n ck (fun e=>elem' (e.of q) i) x (fun e=>e.at (q.getD i 0)) x:=fun e _ E Q h=>by
 have e1:(e.of q)[i]? =some (e.at (q.getD i 0)):=by
  have e2:q.getD i 0=q[i]:=by simp[Array.getD,hi]
  rw[e2]
  simp[En.of,En.at,hi]
 show kasC _ _ _ (elem' (e.of q) i) Q _ _
 rw[elem'_eq,e1]
 exact kasC_pure h
theorem D.lt{i j:Nat}{x:Pu}(hi:i<n)(hj:j<n):D n ck (fun e=>lt' (e.at i) (e.at j)) x (fun _=>some (ck i j)) x:=fun e o E Q h=>by
 show kasC _ _ _ (lt' (e.at i) (e.at j)) Q _ _
 rw[lt'_eq]
 refine kasC_bind (kasC_get ?_)
 refine kasC_bind (kasC_lift (wpAny_attempt (wpAny_mono (o i j hi hj (fun c s'=>c=ck i j/\s'=e.s) ⟨rfl,rfl⟩) (fun c s' hc=> ?_) fun _ _ hF=>hF.elim)))
 obtain⟨rfl,rfl⟩:=hc
 exact kasC_pure h
theorem D.ltAt{i j:Nat}{x:Pu}(hi:i<x.p.size)(hj:j<x.p.size)(bi:x.p.getD i 0<n)(bj:x.p.getD j 0<n):D n ck (fun _=>ltAt' i j) x (fun _=>some (ck (x.p.getD i 0) (x.p.getD j 0))) x:=fun e o E Q h=>by
 show kasC _ _ _ (ltAt' i j) Q _ _
 rw[ltAt'_eq]
 refine kasC_bind (kasC_get ?_)
 exact(D.bind (D.elem hi) (D.bind (D.elem hj) (D.lt bi bj)):D n ck (fun e=>elem' (e.of x.p) i>>=fun u=>elem' (e.of x.p) j>>=fun v=>lt' u v) x _ x) e o E Q h
theorem D.rev{i j:Nat}{x:Pu}:D n ck (fun _=>reverseSlice' i j) x (fun _=>()) {x with p:=kas_rev x.p i j}:=fun e o E Q h=>by
 show kasC _ _ _ (reverseSlice' i j) Q _ _
 rw[reverseSlice'_eq]
 refine kasC_modify ?_
 have e1:mirror (e.of x.p) i j ((j - i)/2)=e.of (mirror x.p i j ((j - i)/2)):=kas_swaps_map (kas_item e.it) (fun k=>i+k) (fun k=>j - 1 - k) _ x.p
 show Q () (SortSt.mk' e.κ (mirror (e.of x.p) i j ((j - i)/2)) x.pd x.g none) e.s
 rw[e1]
 exact h
theorem D.move{k l:Nat}{x:Pu}:D n ck (fun _=>moveDown' k l) x (fun _=>()) {x with p:=bubble x.p k (k - l)}:=fun e o E Q h=>by
 show kasC _ _ _ (moveDown' k l) Q _ _
 rw[moveDown'_eq]
 refine kasC_modify ?_
 have e1:bubble (e.of x.p) k (k - l)=e.of (bubble x.p k (k - l)):=kas_swaps_map (kas_item e.it) (fun i=>k - i) (fun i=>k - i - 1) _ x.p
 show Q () (SortSt.mk' e.κ (bubble (e.of x.p) k (k - l)) x.pd x.g none) e.s
 rw[e1]
 exact h
theorem X.ret{α τ:Type}{a:En->α}{x:Pu}{v:τ->En->α}{R:τ->Pu->Prop}(t:τ)(h:R t x)(ha: ∀e,a e=v t e:=by intro e;rfl):X n ck (fun e=>Pure.pure (a e)) x v R:=
 ⟨t,x,h,by rw[show a=v t from funext ha];exact D.pure⟩
theorem X.go{α β τ:Type}{f:En->StateT SortSt Sem α}{k:En->α->StateT SortSt Sem β}{x y:Pu}{a:En->α}{v:τ->En->β}{R:τ->Pu->Prop}(h1:D n ck f x a y)(h2:X n ck (fun e=>k e (a e)) y v R):X n ck (fun e=>f e>>=k e) x v R:=by
 obtain⟨t,z,h,d⟩:=h2
 exact⟨t,z,h,D.bind h1 d⟩
theorem X.bind{α β τ υ:Type}{f:En->StateT SortSt Sem α}{k:En->α->StateT SortSt Sem β}{x:Pu}{u:υ->En->α}{S:υ->Pu->Prop}{v:τ->En->β}{R:τ->Pu->Prop}(h1:X n ck f x u S)(h2: ∀t y,S t y->X n ck (fun e=>k e (u t e)) y v R):X n ck (fun e=>f e>>=k e) x v R:=by
 obtain⟨t,y,h,d⟩:=h1
 exact X.go d (h2 t y h)
noncomputable def sv{β τ:Type}(v:τ->En->β):τ ⊕ τ->En->ForInStep β
 | .inl t,e=> .yield (v t e)
 | .inr t,e=> .done (v t e)
def sR{τ:Type}(I J:τ->Pu->Prop):τ ⊕ τ->Pu->Prop
 | .inl t,x=>I t x
 | .inr t,x=>J t x
theorem X.loop{β τ:Type}{v:τ->En->β}{I:Nat->τ->Pu->Prop}{J:τ->Pu->Prop}{f:En->Nat->β->StateT SortSt Sem (ForInStep β)}
  (he : ∀ t x,I 0 t x -> J t x) : ∀ (l : List Nat) (t : τ) (x : Pu),(∀ i ∈ l,∀ (k : Nat) (t : τ) (x : Pu),I (k + 1) t x -> X n ck (fun e => f e i (v t e)) x (sv v) (sR (I k) J)) -> I l.length t x -> X n ck (fun e => forIn l (v t e) (f e)) x v J
 | [],t,x,_,h => ⟨t,x,he t x h,fun e o E Q q => kasC_nil q⟩
 | i :: l,t,x,hs,h => by
  obtain⟨r,y,hr,d⟩:=hs i List.mem_cons_self l.length t x h
  cases r with
  |inr t'=>exact⟨t',y,hr,fun e o E Q q=>kasC_cons (d e o E _ q)⟩
  |inl t'=>
   obtain⟨u,z,hu,d2⟩:=X.loop he l t' y (fun i hi=>hs i (List.mem_cons_of_mem _ hi)) hr
   exact⟨u,z,hu,fun e o E Q q=>kasC_cons (d e o E _ (d2 e o E Q q))⟩
theorem X.range{β τ:Type}{v:τ->En->β}{I:Nat->τ->Pu->Prop}{J:τ->Pu->Prop}{f:En->Nat->β->StateT SortSt Sem (ForInStep β)}{a b:Nat}{t:τ}{x:Pu}{c:En->β}
  (he: ∀t x,I 0 t x->J t x) (h0:I (b - a) t x) (hs: ∀i,a<=i->i<b-> ∀(k:Nat) (t:τ) (x:Pu),I (k+1) t x->X n ck (fun e=>f e i (v t e)) x (sv v) (sR (I k) J)) (hc: ∀e,c e=v t e:=by intro e;rfl):X n ck (fun e=>forIn [a:b] (c e) (f e)) x v J:=by
 rw[show c=v t from funext hc]
 obtain⟨u,z,hu,d⟩:=X.loop he (List.range' a (b - a)) t x (fun i hi=>by
  have:=List.mem_range'_1.mp hi
  exact hs i this.1 (by omega)) (by rw[List.length_range'];exact h0)
 exact⟨u,z,hu,fun e o E Q q=>kasC_range (d e o E Q q)⟩
theorem X.yield{β τ:Type}{v:τ->En->β}{I J:τ->Pu->Prop}{a:En->β}{x:Pu}(t:τ)(h:I t x)(ha: ∀e,a e=v t e:=by intro e;rfl):X n ck (fun e=>Pure.pure (ForInStep.yield (a e))) x (sv v) (sR I J):=
 X.ret (.inl t) h fun e=>by rw[ha e];rfl
theorem X.done{β τ:Type}{v:τ->En->β}{I J:τ->Pu->Prop}{a:En->β}{x:Pu}(t:τ)(h:J t x)(ha: ∀e,a e=v t e:=by intro e;rfl):X n ck (fun e=>Pure.pure (ForInStep.done (a e))) x (sv v) (sR I J):=
 X.ret (.inr t) h fun e=>by rw[ha e];rfl
end
section
variable{n:Nat}{ck:Nat->Nat->Bool}
theorem X.ite{α τ:Type}{c:Prop}{dc:En->Decidable c}{a b:En->StateT SortSt Sem α}{x:Pu}{v:τ->En->α}{R:τ->Pu->Prop}(h1:c->X n ck a x v R)(h2: ¬c->X n ck b x v R):X n ck (fun e=> @_root_.ite _ c (dc e) (a e) (b e)) x v R:=by
 by_cases h:c
 ·simpa only[if_pos h] using h1 h
 ·simpa only[if_neg h] using h2 h
def Pm(n:Nat)(p:Array Nat):Prop:=p.toList.Perm (List.range n)
theorem Pm.sz{p:Array Nat}(h:Pm n p):p.size=n:=by
 have:=h.length_eq
 simpa using this
theorem Pm.lt{p:Array Nat}(h:Pm n p){i:Nat}(hi:i<n):p.getD i 0<n:=by
 have hs:=h.sz
 have hi':i<p.size:=by omega
 have e:p.getD i 0=p[i]:=by simp[Array.getD,hi']
 rw[e]
 exact List.mem_range.mp (h.mem_iff.mp (by simp))
theorem Pm.rev{p:Array Nat}(h:Pm n p)(i j:Nat):Pm n (kas_rev p i j):=List.Perm.trans (Array.perm_iff_toList_perm.mp (mirror_perm p i j _)) h
theorem Pm.move{p:Array Nat}(h:Pm n p)(i j:Nat):Pm n (bubble p i j):=List.Perm.trans (Array.perm_iff_toList_perm.mp (bubble_perm p i j)) h
theorem Pm.cmp{x:Pu}(h:Pm n x.p){i j:Nat}(hi:i<n)(hj:j<n):D n ck (fun _=>ltAt' i j) x (fun _=>some (ck (x.p.getD i 0) (x.p.getD j 0))) x:=
 D.ltAt (by rw[h.sz];exact hi) (by rw[h.sz];exact hj) (h.lt hi) (h.lt hj)
theorem X.st{α τ:Type}{f:En->StateT SortSt Sem α}{x z:Pu}{v:τ->En->α}{R:τ->Pu->Prop}{P:Pu->Pu->Prop}(h: ∀z,P x z->X n ck f z v R)(hz:P x z):X n ck f z v R:=h z hz
def Kp(n:Nat)(x y:Pu):Prop:=Pm n y.p/\y.pd=x.pd
theorem yE7{lo m:Nat}{x:Pu}(hp:Pm n x.p)(h1:1<=m)(hm:lo+m<=n):X n ck (fun _=>countRun' lo m) x (fun t _=>some t) (fun t y=>1<=t/\t<=m/\Kp n x y):=by
 refine X.bind (u:=fun(t:Nat) _=>(none,t)) (S:=fun t y=>1<=t/\t<=m/\y=x) ?_ ?_
 ·refine X.range (I := fun k t y => 1 <= t /\ t + k = m /\ y = x) (t := 1) (fun t y h => ⟨h.1,by omega,h.2.2⟩) ⟨by omega,by omega,rfl⟩ fun i _ _ k t y ⟨g1,g2,g3⟩ => ?_
  subst g3
  refine X.go (hp.cmp (by omega) (by omega)) ?_
  refine X.ite (fun _=>X.done t ⟨g1,by omega,rfl⟩) fun _=>X.yield (t+1) ⟨by omega,by omega,rfl⟩
 ·rintro t y ⟨g1,g2,rfl⟩
  have k0:Kp n y y:=⟨hp,rfl⟩
  refine X.ite (fun _=>X.ret t ⟨g1,g2,k0⟩) fun q0=> ?_
  have q1:t+1<=m:=by
   have:t≠m:=fun z=>q0 (by rw[z];exact beq_self_eq_true _)
   omega
  refine X.ite (fun q2=>X.go (hp.cmp (by omega) (by omega)) (X.ite (fun _=>X.ret t ⟨g1,g2,k0⟩) fun _=>X.go D.rev (X.st (P:=Kp n) (x:=y) ?_ ⟨hp.rev _ _,rfl⟩))) fun q2=>X.st (P:=Kp n) (x:=y) ?_ k0
  all_goals
   intro z hz
   refine X.go D.rule ?_
   refine X.bind (u:=fun(t:Nat×Nat) _=>(none,t)) (S:=fun t z=>1<=t.1/\t.1<=m/\Kp n y z) ?_ ?_
   ·refine X.range (I := fun k t z => 1 <= t.1 /\ t.1 + k = m /\ Kp n y z) (t := (t + 1,0)) (fun t y h => ⟨h.1,by omega,h.2.2⟩) ⟨by omega,by dsimp only;omega,hz⟩ fun i _ _ k t y ⟨g1,g2,g3⟩ => ?_
    obtain⟨t,q⟩:=t
    dsimp only at g1 g2
    refine X.go (g3.1.cmp (by dsimp only;omega) (by dsimp only;omega)) ?_
    refine X.ite (fun _=>X.ite (fun _=>X.go D.rev (X.yield (t+1,0) ⟨by dsimp only;omega,by dsimp only;omega,g3.1.rev _ _,g3.2⟩)) fun _=>X.yield (t+1,0) ⟨by dsimp only;omega,by dsimp only;omega,g3⟩) fun _=> ?_
    refine X.go (g3.1.cmp (by dsimp only;omega) (by dsimp only;omega)) ?_
    exact X.ite (fun _=>X.done (t,q) ⟨g1,by dsimp only;omega,g3⟩) fun _=>X.yield (t+1,q+1) ⟨by dsimp only;omega,by dsimp only;omega,g3⟩
   ·rintro ⟨t,q⟩ z ⟨g1,g2,g3⟩
    dsimp only at g1 g2
    refine X.ite (fun _=>X.go D.rev (X.st (P:=Kp n) (x:=y) ?_ ⟨g3.1.rev _ _,g3.2⟩)) fun _=>X.st (P:=Kp n) (x:=y) ?_ g3
    all_goals
     intro z hz
     refine X.go D.rev ?_
     refine X.bind (u:=fun(t:Nat) _=>(none,t)) (S:=fun t z=>1<=t/\t<=m/\Kp n y z) ?_ fun t z h=>X.ret t h
     refine X.range (I:=fun k t z=>1<=t/\t+k=m/\Kp n y z) (t:=t) (fun t y h=>⟨h.1,by omega,h.2.2⟩) ⟨by omega,by dsimp only;omega,hz.1.rev _ _,hz.2⟩ fun i _ _ k t y ⟨g1,g2,g3⟩=> ?_
     refine X.go (g3.1.cmp (by omega) (by omega)) ?_
     exact X.ite (fun _=>X.done t ⟨g1,by omega,g3⟩) fun _=>X.yield (t+1) ⟨by omega,by omega,g3⟩
theorem bin{lo m ok:Nat}{x:Pu}(hp:Pm n x.p)(hm:lo+m<=n):X n ck (fun _=>binarySort' lo m ok) x (fun(_:Unit) _=>true) (fun _ y=>Kp n x y):=by
 refine X.bind (u:=fun(_:Unit) _=>(none,())) (S:=fun _ y=>Kp n x y) ?_ fun t z h=>X.ret () h
 refine X.range (I:=fun _ _ z=>Kp n x z) (t:=()) (fun t y h=>h) ⟨hp,rfl⟩ fun j j1 j2 k t y g3=> ?_
 refine X.bind (u:=fun(t:Nat×Nat) _=>(none,t)) (S:=fun t z=>t.2<=j/\z=y) ?_ ?_
 ·refine X.range (I := fun _ t z => t.2 <= j /\ z = y) (t := (0,j)) (fun t y h => h) ⟨Nat.le_refl _,rfl⟩ fun i _ _ k t z ⟨g1,g2⟩ => ?_
  obtain⟨l,r⟩:=t
  dsimp only at g1
  subst g2
  refine X.ite (fun _=>X.done (l,r) ⟨g1,rfl⟩) fun q=> ?_
  refine X.go (g3.1.cmp (by dsimp only at q⊢;omega) (by dsimp only at q⊢;omega)) ?_
  exact X.ite (fun _=>X.yield (l,(l+r)/2) ⟨by dsimp only at q⊢;omega,rfl⟩) fun _=>X.yield ((l+r)/2+1,r) ⟨g1,rfl⟩
 ·rintro ⟨l,r⟩ z ⟨g1,rfl⟩
  exact X.go D.move (X.yield () ⟨g3.1.move _ _,g3.2⟩)
end
def zQ8:Bool->Keyed->Array Keyed->Nat->Nat->Nat->StateT SortSt Sem (Option Nat):=sortPriv% PySem.Builtin.gallop
def zMM:Array Keyed->Array Keyed->StateT SortSt Sem (Array Keyed):=sortPriv% PySem.Builtin.mergeLo
def zMN:Array Keyed->Array Keyed->StateT SortSt Sem (Array Keyed):=sortPriv% PySem.Builtin.mergeHi
section
variable{n:Nat}{ck:Nat->Nat->Bool}
noncomputable def bey(left:Bool)(key:Nat)(q:Array Nat)(i:Nat)(e:En):StateT SortSt Sem (Option Bool):=
 elem' (e.of q) i>>=fun z=>if left=true then lt' z (e.at key) else lt' (e.at key) z>>=fun r=>pure (r.map (fun b=> !b))
theorem yAN{left:Bool}{key:Nat}{q:Array Nat}{x:Pu}(hk:key<n){i:Nat}(hi:i<q.size)(hq:q.getD i 0<n): ∃c,D n ck (bey left key q i) x (fun _=>some c) x:=by
 cases left with
 |true=>exact⟨_,D.bind (D.elem hi) (D.lt hq hk)⟩
 |false=>exact⟨_,D.bind (D.elem hi) (D.bind (D.lt hk hq) D.pure)⟩
theorem gal{left:Bool}{key:Nat}{q:Array Nat}{b m h:Nat}{x:Pu}(hk:key<n)(hh:h<m)(hb:b+m<=q.size)(hq: ∀i,i<q.size->q.getD i 0<n):
  X n ck (fun e=>zQ8 left (e.at key) (e.of q) b m h) x (fun t _=>some t) (fun t y=>t<=m/\y=x):=by
 have ask: ∀i,i<m-> ∃c,D n ck (bey left key q (b+i)) x (fun _=>some c) x:=fun i hi=>yAN hk (by omega) (hq _ (by omega))
 obtain⟨c,hc⟩:=ask h hh
 refine X.go hc ?_
 refine X.ite (fun _=> ?_) fun _=> ?_
 ·refine X.bind (u := fun (t : Nat × Nat) _ => (none,t)) (S := fun t z => z = x) ?_ ?_
  ·refine X.range (I := fun _ t z => z = x) (t := (0,1)) (fun t y h => h) rfl fun i _ _ k t z g => ?_
   obtain⟨l,o⟩:=t
   subst g
   refine X.ite (fun _=>X.done (l,o) rfl) fun q=> ?_
   obtain⟨c,hc⟩:=ask (h+o) (by dsimp only at q;omega)
   exact X.go hc (X.ite (fun _=>X.done (l,o) rfl) fun _=>X.yield (o,2*o+1) rfl)
  ·rintro ⟨l,o⟩ z rfl
   refine X.bind (u:=fun(t:Nat×Nat) _=>(none,t)) (S:=fun t y=>t.2<=m/\y=z) ?_ fun t y h=>X.ret t.2 h
   refine X.range (I:=fun _ t y=>t.2<=m/\y=z) (t:=(h+l+1,h+min o (m - h))) (fun t y h=>h) ⟨by dsimp only;omega,rfl⟩ fun i _ _ k t y ⟨g1,g2⟩=> ?_
   obtain⟨lo,hi⟩:=t
   subst g2
   dsimp only at g1
   refine X.ite (fun _=>X.done (lo,hi) ⟨g1,rfl⟩) fun q=> ?_
   obtain⟨c,hc⟩:=ask (lo+(hi - lo)/2) (by dsimp only at q;omega)
   exact X.go hc (X.ite (fun _=>X.yield (lo+(hi - lo)/2+1,hi) ⟨g1,rfl⟩) fun _=>X.yield (lo,lo+(hi - lo)/2) ⟨by dsimp only at q⊢;omega,rfl⟩)
 ·refine X.bind (u := fun (t : Nat × Nat) _ => (none,t)) (S := fun t z => z = x) ?_ ?_
  ·refine X.range (I := fun _ t z => z = x) (t := (0,1)) (fun t y h => h) rfl fun i _ _ k t z g => ?_
   obtain⟨l,o⟩:=t
   subst g
   refine X.ite (fun _=>X.done (l,o) rfl) fun q=> ?_
   obtain⟨c,hc⟩:=ask (h - o) (by omega)
   exact X.go hc (X.ite (fun _=>X.done (l,o) rfl) fun _=>X.yield (o,2*o+1) rfl)
  ·rintro ⟨l,o⟩ z rfl
   refine X.bind (u:=fun(t:Nat×Nat) _=>(none,t)) (S:=fun t y=>t.2<=m/\y=z) ?_ fun t y h=>X.ret t.2 h
   refine X.range (I:=fun _ t y=>t.2<=m/\y=z) (t:=(h+1 - min o (h+1),h - l)) (fun t y h=>h) ⟨by dsimp only;omega,rfl⟩ fun i _ _ k t y ⟨g1,g2⟩=> ?_
   obtain⟨lo,hi⟩:=t
   subst g2
   dsimp only at g1
   refine X.ite (fun _=>X.done (lo,hi) ⟨g1,rfl⟩) fun q=> ?_
   obtain⟨c,hc⟩:=ask (lo+(hi - lo)/2) (by dsimp only at q;omega)
   exact X.go hc (X.ite (fun _=>X.yield (lo+(hi - lo)/2+1,hi) ⟨g1,rfl⟩) fun _=>X.yield (lo,lo+(hi - lo)/2) ⟨by dsimp only at q⊢;omega,rfl⟩)
theorem galE{left:Bool}{key:Nat}{q:Array Nat}{b h:Nat}{m:En->Nat}{x:Pu}(m0:Nat)(hm: ∀e,m e=m0)(hk:key<n)(hh:h<m0)(hb:b+m0<=q.size)(hq: ∀i,i<q.size->q.getD i 0<n):
  X n ck (fun e=>zQ8 left (e.at key) (e.of q) b (m e) h) x (fun t _=>some t) (fun t y=>t<=m0/\y=x):=by
 rw[show m=fun _=>m0 from funext hm]
 exact gal hk hh hb hq
theorem X.eqSize{α τ:Type}{m:Nat}{q:Array Nat}{a b:En->StateT SortSt Sem α}{x:Pu}{v:τ->En->α}{R:τ->Pu->Prop}(h1:m=q.size->X n ck a x v R)(h2:m≠q.size->X n ck b x v R):X n ck (fun e=>if(m==(e.of q).size)=true then a e else b e) x v R:=by
 simp only[En.of,Array.size_map]
 exact X.ite (fun h=>h1 (by simpa using h)) fun h=>h2 (by simpa using h)
theorem X.rangeE{β τ:Type}{v:τ->En->β}{I:Nat->τ->Pu->Prop}{J:τ->Pu->Prop}{f:En->Nat->β->StateT SortSt Sem (ForInStep β)}{b:En->Nat}{t:τ}{x:Pu}{c:En->β}(b0:Nat)(hb: ∀e,b e=b0)
  (he: ∀t x,I 0 t x->J t x) (h0:I b0 t x) (hs: ∀(k:Nat) (t:τ) (x:Pu),k<b0->I (k+1) t x-> ∀i,X n ck (fun e=>f e i (v t e)) x (sv v) (sR (I k) J)) (hc: ∀e,c e=v t e:=by intro e;rfl):X n ck (fun e=>forIn [0:b e] (c e) (f e)) x v J:=by
 rw[show b=fun _=>b0 from funext hb]
 refine X.range (I:=fun k t x=>k<=b0/\I k t x) (fun t x h=>he t x h.2) ⟨by omega,h0⟩ (fun i _ _ k t x h=> ?_) hc
 obtain⟨r,y,hr,d⟩:=hs k t x (by omega) h.2 i
 refine⟨r,y,?_,d⟩
 cases r with
 |inl t=>exact⟨by omega,hr⟩
 |inr t=>exact hr
def zUM:Nat->StateT SortSt Sem Unit:=sortPriv% PySem.Builtin.setMinGallop
theorem D.setMin{g:Nat}{x:Pu}:D n ck (fun _=>zUM g) x (fun _=>()) {x with g:=g}:=D.modify (F:=fun _ s=>_) fun e=>rfl
def Iv(a b o:Array Nat)(ia ib:Nat):Prop:=o.toList.Perm (a.toList.take ia++b.toList.take ib)
theorem zM0{a:Array Nat}{i:Nat}(h:i<a.size):a.toList.take (i+1)=a.toList.take i++[a.getD i 0]:=by
 have e:a.getD i 0=a[i]:=by simp[Array.getD,h]
 rw[e,List.take_succ]
 simp[h]
theorem Iv.pushB{a b o:Array Nat}{ia ib:Nat}(h:Iv a b o ia ib)(hb:ib<b.size):Iv a b (o.push (b.getD ib 0)) ia (ib+1):=by
 unfold Iv at h⊢
 rw[zM0 hb,Array.toList_push,<- List.append_assoc]
 exact h.append_right _
theorem Iv.pushA{a b o:Array Nat}{ia ib:Nat}(h:Iv a b o ia ib)(ha:ia<a.size):Iv a b (o.push (a.getD ia 0)) (ia+1) ib:=by
 unfold Iv at h⊢
 rw[zM0 ha,Array.toList_push,List.append_assoc]
 refine(h.append_right _).trans ?_
 rw[List.append_assoc]
 exact List.Perm.append_left _ List.perm_append_comm
theorem zJI(l:List Nat)(i k:Nat):l.take (i+k)=l.take i++(l.take (i+k)).drop i:=by
 have e:=List.take_append_drop i (l.take (i+k))
 rw[List.take_take,Nat.min_eq_left (by omega)] at e
 exact e.symm
theorem zD7(a:Array Nat)(i j:Nat):(a.extract i j).toList=(a.toList.take j).drop i:=by simp[List.drop_take]
theorem Iv.extB{a b o:Array Nat}{ia ib:Nat}(h:Iv a b o ia ib)(k:Nat):Iv a b (o++b.extract ib (ib+k)) ia (ib+k):=by
 unfold Iv at h⊢
 rw[zJI b.toList ib k,Array.toList_append,zD7,<- List.append_assoc]
 exact h.append_right _
theorem Iv.extA{a b o:Array Nat}{ia ib:Nat}(h:Iv a b o ia ib)(k:Nat):Iv a b (o++a.extract ia (ia+k)) (ia+k) ib:=by
 unfold Iv at h⊢
 rw[zJI a.toList ia k,Array.toList_append,zD7,List.append_assoc]
 refine(h.append_right _).trans ?_
 rw[List.append_assoc]
 exact List.Perm.append_left _ List.perm_append_comm
theorem zJ0(a:Array Nat)(i:Nat):(a.extract i a.size).toList=a.toList.drop i:=by rw[zD7,show a.size=a.toList.length from rfl,List.take_length]
theorem Iv.all{a b o:Array Nat}{ia ib:Nat}(h:Iv a b o ia ib):(o.toList++(a.toList.drop ia++b.toList.drop ib)).Perm (a.toList++b.toList):=by
 refine(h.append_right _).trans ?_
 have e1:=List.take_append_drop ia a.toList
 have e2:=List.take_append_drop ib b.toList
 generalize a.toList.take ia=a1 at*
 generalize a.toList.drop ia=a2 at*
 generalize b.toList.take ib=b1 at*
 generalize b.toList.drop ib=b2 at*
 rw[<- e1,<- e2,List.append_assoc,List.append_assoc]
 refine List.Perm.append_left _ ?_
 rw[<- List.append_assoc,<- List.append_assoc]
 exact List.Perm.append_right _ List.perm_append_comm
theorem Iv.done{a b o:Array Nat}{ia ib:Nat}(h:Iv a b o ia ib):(o++a.extract ia a.size++b.extract ib b.size).toList.Perm (a.toList++b.toList):=by
 rw[Array.toList_append,Array.toList_append,zJ0,zJ0,List.append_assoc]
 exact h.all
theorem Iv.lastA{a b o:Array Nat}{ia ib:Nat}(h:Iv a b o ia ib):(o++b.extract ib b.size++a.extract ia a.size).toList.Perm (a.toList++b.toList):=by
 rw[Array.toList_append,Array.toList_append,zJ0,zJ0,List.append_assoc]
 exact(List.Perm.append_left _ List.perm_append_comm).trans h.all
end
section
variable{n:Nat}{ck:Nat->Nat->Bool}
def Sd(x y:Pu):Prop:=y.p=x.p/\y.pd=x.pd
def Al(n:Nat)(a:Array Nat):Prop:= ∀i,i<a.size->a.getD i 0<n
def Lf(a b:Array Nat)(x:Pu)(m:Nat)(r:Option (Array Nat))(o:Array Nat)(ia ib:Nat)(y:Pu):Prop:=r=none/\Iv a b o ia ib/\ia+1<a.size/\ib<b.size/\m<=ia+ib/\Sd x y
def Td(a b:Array Nat)(x:Pu)(r:Option (Array Nat))(y:Pu):Prop:= ∃t,r=some t/\t.toList.Perm (a.toList++b.toList)/\Sd x y
noncomputable def vG{β:Type}(t:Option (Array Nat)×Array Nat×β)(e:En):Option (Array Keyed)×Array Keyed×β:=(t.1.map e.of,e.of t.2.1,t.2.2)
theorem zB4(e:En)(o:Array Nat)(i:Nat):(e.of o).push (e.at i)=e.of (o.push i):=by simp[En.of,En.at]
theorem zCE(e:En)(o:Array Nat)(q:Array Nat):e.of o++e.of q=e.of (o++q):=by simp[En.of]
theorem zBV(e:En)(o:Array Nat)(i j:Nat):(e.of o).extract i j=e.of (o.extract i j):=by simp[En.of]
theorem zGM(e:En)(o:Array Nat):(e.of o).size=o.size:=by simp[En.of]
theorem zH3(e:En)(o:Array Nat):(e.of o).reverse=e.of o.reverse:=by simp[En.of]
theorem zHX(e:En)(i:Nat): #[e.at i]=e.of #[i]:=by simp[En.of,En.at]
theorem X.yieldG{β:Type}{tail:β}{o:Array Nat}{O:En->Array Keyed}{I J:Option (Array Nat)×Array Nat×β->Pu->Prop}{y:Pu}(h:I (none,o,tail) y)(hO: ∀e,O e=e.of o):X n ck (fun e=>Pure.pure (ForInStep.yield (none,O e,tail))) y (sv vG) (sR I J):=
 X.yield (none,o,tail) h fun e=>by rw[hO];rfl
theorem X.doneG{β:Type}{tail:β}{o:Array Nat}{O:En->Array Keyed}{I J:Option (Array Nat)×Array Nat×β->Pu->Prop}{y:Pu}(h:J (none,o,tail) y)(hO: ∀e,O e=e.of o):X n ck (fun e=>Pure.pure (ForInStep.done (none,O e,tail))) y (sv vG) (sR I J):=
 X.done (none,o,tail) h fun e=>by rw[hO];rfl
theorem X.tellD{β:Type}{tail:β}{a b o:Array Nat}{ia ib:Nat}{O:En->Array Keyed}{I J:Option (Array Nat)×Array Nat×β->Pu->Prop}{x y:Pu}(q:Iv a b o ia ib)(hs:Sd x y)(hO: ∀e,O e=e.of o)(hJ: ∀t,Td a b x t.1 y->J t y):
  X n ck (fun e=>Pure.pure (ForInStep.done (some (O e++(e.of a).extract ia (e.of a).size++(e.of b).extract ib (e.of b).size),O e,tail))) y (sv vG) (sR I J):=
 X.done (some (o++a.extract ia a.size++b.extract ib b.size),o,tail) (hJ _ ⟨_,rfl,q.done,hs⟩) fun e=>by rw[hO,zGM,zGM,zBV,zBV,zCE,zCE];rfl
theorem X.tellL{β:Type}{tail:β}{a b o:Array Nat}{ia ib:Nat}{O:En->Array Keyed}{I J:Option (Array Nat)×Array Nat×β->Pu->Prop}{x y:Pu}(q:Iv a b o ia ib)(hs:Sd x y)(hO: ∀e,O e=e.of o)(hJ: ∀t,Td a b x t.1 y->J t y):
  X n ck (fun e=>Pure.pure (ForInStep.done (some (O e++(e.of b).extract ib (e.of b).size++(e.of a).extract ia (e.of a).size),O e,tail))) y (sv vG) (sR I J):=
 X.done (some (o++b.extract ib b.size++a.extract ia a.size),o,tail) (hJ _ ⟨_,rfl,q.lastA,hs⟩) fun e=>by rw[hO,zGM,zGM,zBV,zBV,zCE,zCE];rfl
theorem yDI {a b : Array Nat} {x : Pu} (ha : Al n a) (hb : Al n b) (a1 : 1 <= a.size) (b1 : 1 <= b.size) : X n ck (fun e => zMM (e.of a) (e.of b)) x (fun t e => e.of t) (fun t y => t.toList.Perm (a.toList ++ b.toList) /\ Sd x y) := by
 have i1:Iv a b #[b.getD 0 0] 0 1:=by
  have e : Iv a b #[] 0 0 := by unfold Iv;simp
  exact e.pushB (by omega)
 refine X.go D.rule ?_
 refine X.go (D.elem (q := b) (i := 0) (by omega)) ?_
 refine X.eqSize (fun h => X.ret (#[b.getD 0 0] ++ a.extract 0 a.size ++ b.extract 1 b.size) ⟨i1.done,rfl,rfl⟩ fun e => ?_) fun h => ?_
 ·simp only[<- zCE,<- zBV,zGM,zHX]
 refine X.eqSize (fun h => X.ret (#[b.getD 0 0] ++ b.extract 1 b.size ++ a.extract 0 a.size) ⟨i1.lastA,rfl,rfl⟩ fun e => ?_) fun h2 => ?_
 ·simp only[<- zCE,<- zBV,zGM,zHX]
 refine X.go D.get ?_
 have tot : ∀ e : En,(e.of a).size + (e.of b).size = a.size + b.size := fun e => by simp only [zGM]
 refine X.bind (u := vG) (S := fun t y => Td a b x t.1 y) ?_ ?_
 ·refine X.rangeE (v := vG) (I := fun k t y => Lf a b x (a.size + b.size - k) t.1 t.2.1 t.2.2.1 t.2.2.2.1 y) (t := (none,#[b.getD 0 0],0,1,x.g)) (a.size + b.size) tot ?_ ⟨rfl,i1,by dsimp only;omega,by dsimp only;omega,by dsimp only;omega,rfl,rfl⟩ ?_ fun e => ?_
  ·rintro t y ⟨_,_,h3,h4,h5,_⟩
   exact absurd h5 (by omega)
  ·rintro k ⟨r,o,ia,ib,g⟩ y hk ⟨rfl,h2,h3,h4,h5,h6⟩ i
   dsimp only at h2 h3 h4 h5
   dsimp only[vG]
   refine X.bind (u:=vG) (S:=fun t z=>Td a b x t.1 z∨Lf a b x (ia+ib+1) t.1 t.2.1 t.2.2.1 t.2.2.2.1 z) ?_ ?_
   ·refine X.rangeE (v := vG) (I := fun k t y => Lf a b x (ia + ib + if k < a.size + b.size then 1 else 0) t.1 t.2.1 t.2.2.1 t.2.2.2.1 y) (t := (none,o,ia,ib,0,0)) (a.size + b.size) tot ?_ ⟨rfl,h2,h3,h4,by rw [if_neg (by omega)];exact Nat.le_refl _,h6⟩ ?_
    ·intro t y h
     rw [if_pos (by omega)] at h
     exact .inr h
    ·rintro k ⟨r,o,ja,jb,ac,bc⟩ y hk ⟨rfl,g2,g3,g4,g5,g6⟩ i
     dsimp only at g2 g3 g4 g5
     dsimp only[vG]
     have g5':ia+ib<=ja+jb:=by split at g5<;>omega
     refine X.go (D.elem (q:=b) (i:=jb) g4) (X.go (D.elem (q:=a) (i:=ja) (by omega)) (X.go (D.lt (hb _ g4) (ha _ (by omega))) ?_))
     refine X.ite (fun _=> ?_) fun _=> ?_
     ·refine X.go (D.elem (q:=b) (i:=jb) g4) ?_
      have q:=g2.pushB g4
      refine X.eqSize (fun _=>X.tellD q g6 (fun e=>zB4 e _ _) fun t h=> .inl h) fun z=> ?_
      exact X.ite (fun _=>X.doneG (.inr ⟨rfl,q,g3,by dsimp only;omega,by dsimp only;omega,g6⟩) fun e=>zB4 e _ _) fun _=>X.yieldG ⟨rfl,q,g3,by dsimp only;omega,by dsimp only;rw[if_pos hk];omega,g6⟩ fun e=>zB4 e _ _
     ·refine X.go (D.elem (q := a) (i := ja) (by omega)) ?_
      have q:=g2.pushA (show ja<a.size by omega)
      refine X.eqSize (fun _=>X.tellL q g6 (fun e=>zB4 e _ _) fun t h=> .inl h) fun z=> ?_
      exact X.ite (fun _=>X.doneG (.inr ⟨rfl,q,by dsimp only;omega,g4,by dsimp only;omega,g6⟩) fun e=>zB4 e _ _) fun _=>X.yieldG ⟨rfl,q,by dsimp only;omega,g4,by dsimp only;rw[if_pos hk];omega,g6⟩ fun e=>zB4 e _ _
   ·rintro ⟨r,o,ja,jb,ac,bc⟩ z (⟨t,e1,ht⟩|⟨e1,g2,g3,g4,g5,g6⟩)
    ·dsimp only at e1
     subst e1
     exact X.done (some t,o,ja,jb,g) ⟨t,rfl,ht⟩
    ·dsimp only at e1 g2 g3 g4 g5
     subst e1
     dsimp only[vG]
     refine X.go D.rule ?_
     refine X.bind (u:=vG) (S:=fun t z=>Td a b x t.1 z∨Lf a b x (ia+ib+1) t.1 t.2.1 t.2.2.1 t.2.2.2.1 z) ?_ ?_
     ·refine X.rangeE (v := vG) (I := fun _ t y => Lf a b x (ia + ib + 1) t.1 t.2.1 t.2.2.1 t.2.2.2.1 y) (t := (none,o,ja,jb,g + 1,ac,bc)) (a.size + b.size) tot (fun t y h => .inr h) ⟨rfl,g2,g3,g4,g5,g6⟩ ?_
      rintro k ⟨r,o,ja,jb,g,ac,bc⟩ y hk ⟨rfl,g2,g3,g4,g5,g6⟩ i
      dsimp only at g2 g3 g4 g5
      dsimp only[vG]
      refine X.ite (fun _=> ?_) fun _=> ?_
      all_goals
       refine X.go D.setMin (X.go (D.elem (q:=b) (i:=jb) g4) (X.bind (galE (a.size - ja) (fun e=>by simp only[zGM]) (hb _ g4) (by omega) (by omega) ha) ?_))
       rintro d z ⟨hd,rfl⟩
       refine X.ite (fun _=> ?_) fun _=> ?_
       ·have q:=g2.extA d
        have qO: ∀e:En,e.of o++(e.of a).extract ja (ja+d)=e.of (o++a.extract ja (ja+d)):=fun e=>by rw[zBV,zCE]
        refine X.eqSize (fun _=>X.tellL q g6 qO fun t h=> .inl h) fun z1=>X.eqSize (fun _=>X.tellD q g6 qO fun t h=> .inl h) fun z2=> ?_
        refine X.go (D.elem (q:=b) (i:=jb) g4) ?_
        have r:=q.pushB g4
        have rO: ∀e:En,_=e.of _:=fun e=>(congrArg (fun O=>O.push (e.at (b.getD jb 0))) (qO e)).trans (zB4 e _ _)
        refine X.eqSize (fun _=>X.tellD r g6 rO fun t h=> .inl h) fun z3=> ?_
        refine X.go (D.elem (q:=a) (i:=(ja+d)) (by omega)) (X.bind (galE (b.size - (jb+1)) (fun e=>by simp only[zGM]) (ha _ (by omega)) (by omega) (by omega) hb) ?_)
        rintro d2 z ⟨hd2,rfl⟩
        refine X.ite (fun _=> ?_) fun _=> ?_
        ·have u:=r.extB d2
         have uO: ∀e:En,_=e.of _:=fun e=>((congrArg (fun O=>O++(e.of b).extract (jb+1) (jb+1+d2)) (rO e)).trans (by rw[zBV])).trans (zCE e _ _)
         refine X.eqSize (fun _=>X.tellD u g6 uO fun t h=> .inl h) fun z4=> ?_
         refine X.go (D.elem (q:=a) (i:=(ja+d)) (by omega)) ?_
         have w:=u.pushA (show(ja+d)<a.size by omega)
         have wO: ∀e:En,_=e.of _:=fun e=>(congrArg (fun O=>O.push (e.at (a.getD (ja+d) 0))) (uO e)).trans (zB4 e _ _)
         refine X.eqSize (fun _=>X.tellL w g6 wO fun t h=> .inl h) fun z5=> ?_
         exact X.ite (fun _=>X.doneG (.inr ⟨rfl,w,by dsimp only;omega,by dsimp only;omega,by dsimp only;omega,g6⟩) wO) fun _=>X.yieldG ⟨rfl,w,by dsimp only;omega,by dsimp only;omega,by dsimp only;omega,g6⟩ wO
        ·skip
         refine X.go (D.elem (q:=a) (i:=(ja+d)) (by omega)) ?_
         have w:=r.pushA (show(ja+d)<a.size by omega)
         have wO: ∀e:En,_=e.of _:=fun e=>(congrArg (fun O=>O.push (e.at (a.getD (ja+d) 0))) (rO e)).trans (zB4 e _ _)
         refine X.eqSize (fun _=>X.tellL w g6 wO fun t h=> .inl h) fun z5=> ?_
         exact X.ite (fun _=>X.doneG (.inr ⟨rfl,w,by dsimp only;omega,by dsimp only;omega,by dsimp only;omega,g6⟩) wO) fun _=>X.yieldG ⟨rfl,w,by dsimp only;omega,by dsimp only;omega,by dsimp only;omega,g6⟩ wO
       ·have qO : ∀ e : En,e.of o = e.of o := fun e => rfl
        refine X.go (D.elem (q:=b) (i:=jb) g4) ?_
        have r:=g2.pushB g4
        have rO: ∀e:En,_=e.of _:=fun e=>(congrArg (fun O=>O.push (e.at (b.getD jb 0))) (qO e)).trans (zB4 e _ _)
        refine X.eqSize (fun _=>X.tellD r g6 rO fun t h=> .inl h) fun z3=> ?_
        refine X.go (D.elem (q:=a) (i:=ja) (by omega)) (X.bind (galE (b.size - (jb+1)) (fun e=>by simp only[zGM]) (ha _ (by omega)) (by omega) (by omega) hb) ?_)
        rintro d2 z ⟨hd2,rfl⟩
        refine X.ite (fun _=> ?_) fun _=> ?_
        ·have u:=r.extB d2
         have uO: ∀e:En,_=e.of _:=fun e=>((congrArg (fun O=>O++(e.of b).extract (jb+1) (jb+1+d2)) (rO e)).trans (by rw[zBV])).trans (zCE e _ _)
         refine X.eqSize (fun _=>X.tellD u g6 uO fun t h=> .inl h) fun z4=> ?_
         refine X.go (D.elem (q:=a) (i:=ja) (by omega)) ?_
         have w:=u.pushA (show ja<a.size by omega)
         have wO: ∀e:En,_=e.of _:=fun e=>(congrArg (fun O=>O.push (e.at (a.getD ja 0))) (uO e)).trans (zB4 e _ _)
         refine X.eqSize (fun _=>X.tellL w g6 wO fun t h=> .inl h) fun z5=> ?_
         exact X.ite (fun _=>X.doneG (.inr ⟨rfl,w,by dsimp only;omega,by dsimp only;omega,by dsimp only;omega,g6⟩) wO) fun _=>X.yieldG ⟨rfl,w,by dsimp only;omega,by dsimp only;omega,by dsimp only;omega,g6⟩ wO
        ·skip
         refine X.go (D.elem (q:=a) (i:=ja) (by omega)) ?_
         have w:=r.pushA (show ja<a.size by omega)
         have wO: ∀e:En,_=e.of _:=fun e=>(congrArg (fun O=>O.push (e.at (a.getD ja 0))) (rO e)).trans (zB4 e _ _)
         refine X.eqSize (fun _=>X.tellL w g6 wO fun t h=> .inl h) fun z5=> ?_
         exact X.ite (fun _=>X.doneG (.inr ⟨rfl,w,by dsimp only;omega,by dsimp only;omega,by dsimp only;omega,g6⟩) wO) fun _=>X.yieldG ⟨rfl,w,by dsimp only;omega,by dsimp only;omega,by dsimp only;omega,g6⟩ wO
     ·rintro ⟨r,o,ja,jb,g,ac,bc⟩ z (⟨t,e1,ht⟩|⟨e1,g2,g3,g4,g5,g6⟩)
      ·dsimp only at e1
       subst e1
       exact X.done (some t,o,ja,jb,g) ⟨t,rfl,ht⟩
      ·dsimp only at e1 g2 g3 g4 g5
       subst e1
       dsimp only[vG]
       refine X.go D.setMin ?_
       exact X.yieldG ⟨rfl,g2,g3,g4,by dsimp only;omega,g6⟩ fun e=>rfl
  ·simp only[zHX]
   rfl
 ·rintro ⟨r,o,ia,ib,g⟩ y ⟨t,e1,h⟩
  dsimp only at e1
  subst e1
  exact X.ret t h
end
section
variable{n:Nat}{ck:Nat->Nat->Bool}
def Iw(a b o:Array Nat)(na nb:Nat):Prop:=o.toList.Perm (a.toList.drop na++b.toList.drop nb)
theorem zN1{a:Array Nat}{i:Nat}(h0:0<i)(h:i<=a.size):a.toList.drop (i - 1)=a.getD (i - 1) 0::a.toList.drop i:=by
 have h1:i - 1<a.size:=by omega
 have e:a.getD (i - 1) 0=a[i - 1]:=by simp[Array.getD,h1]
 rw[e,List.drop_eq_getElem_cons (by simpa using h1),show i - 1+1=i by omega]
 simp
theorem Iw.pushA{a b o:Array Nat}{na nb:Nat}(h:Iw a b o na nb)(h0:0<na)(h1:na<=a.size):Iw a b (o.push (a.getD (na - 1) 0)) (na - 1) nb:=by
 unfold Iw at h⊢
 rw[zN1 h0 h1,Array.toList_push,List.cons_append]
 exact List.perm_append_comm.trans (List.Perm.cons _ h)
theorem Iw.pushB{a b o:Array Nat}{na nb:Nat}(h:Iw a b o na nb)(h0:0<nb)(h1:nb<=b.size):Iw a b (o.push (b.getD (nb - 1) 0)) na (nb - 1):=by
 unfold Iw at h⊢
 rw[zN1 h0 h1,Array.toList_push]
 exact(List.perm_append_comm.trans (List.Perm.cons _ h)).trans List.perm_middle.symm
theorem zHF(l:List Nat)(i j:Nat)(h:i<=j):l.drop i=(l.take j).drop i++l.drop j:=by
 have e:=List.take_append_drop (j - i) (l.drop i)
 rw[List.drop_drop,show i+(j - i)=j by omega,<- List.drop_take] at e
 exact e.symm
theorem Iw.extA{a b o:Array Nat}{na nb:Nat}(h:Iw a b o na nb){t:Nat}(ht:t<=na):Iw a b (o++(a.extract t na).reverse) t nb:=by
 unfold Iw at h⊢
 rw[zHF a.toList t na ht,Array.toList_append,Array.toList_reverse,zD7,List.append_assoc]
 exact List.perm_append_comm.trans (List.Perm.append (List.reverse_perm _) h)
theorem Iw.extB{a b o:Array Nat}{na nb:Nat}(h:Iw a b o na nb){t:Nat}(ht:t<=nb):Iw a b (o++(b.extract t nb).reverse) na t:=by
 unfold Iw at h⊢
 rw[zHF b.toList t nb ht,Array.toList_append,Array.toList_reverse,zD7]
 generalize (b.toList.take nb).drop t=u at*
 refine(List.Perm.append h (List.reverse_perm u)).trans ?_
 rw[List.append_assoc]
 exact List.Perm.append_left _ List.perm_append_comm
theorem Iw.all{a b o:Array Nat}{na nb:Nat}(h:Iw a b o na nb):((a.toList.take na++b.toList.take nb)++o.toList.reverse).Perm (a.toList++b.toList):=by
 refine(List.Perm.append_left _ ((List.reverse_perm _).trans h)).trans ?_
 have e1:=List.take_append_drop na a.toList
 have e2:=List.take_append_drop nb b.toList
 generalize a.toList.take na=a1 at*
 generalize a.toList.drop na=a2 at*
 generalize b.toList.take nb=b1 at*
 generalize b.toList.drop nb=b2 at*
 rw[<- e1,<- e2,List.append_assoc,List.append_assoc]
 refine List.Perm.append_left _ ?_
 rw[<- List.append_assoc,<- List.append_assoc]
 exact List.Perm.append_right _ List.perm_append_comm
theorem zN0(a:Array Nat)(i:Nat):(a.extract 0 i).toList=a.toList.take i:=by rw[zD7];rfl
theorem Iw.done{a b o:Array Nat}{na nb:Nat}(h:Iw a b o na nb):(a.extract 0 na++b.extract 0 nb++o.reverse).toList.Perm (a.toList++b.toList):=by
 rw[Array.toList_append,Array.toList_append,zN0,zN0,Array.toList_reverse]
 exact h.all
theorem Iw.first{a b o:Array Nat}{na nb:Nat}(h:Iw a b o na nb):(b.extract 0 nb++a.extract 0 na++o.reverse).toList.Perm (a.toList++b.toList):=by
 rw[Array.toList_append,Array.toList_append,zN0,zN0,Array.toList_reverse]
 exact(List.Perm.append_right _ List.perm_append_comm).trans h.all
def Lh(a b:Array Nat)(x:Pu)(m:Nat)(r:Option (Array Nat))(o:Array Nat)(na nb:Nat)(y:Pu):Prop:=r=none/\Iw a b o na nb/\0<na/\na<=a.size/\1<nb/\nb<=b.size/\na+nb<=m/\Sd x y
abbrev HT(β:Type):=Option (Array Nat)×Nat×Nat×Array Nat×β
noncomputable def vH{β:Type}(t:HT β)(e:En):Option (Array Keyed)×Nat×Nat×Array Keyed×β:=(t.1.map e.of,t.2.1,t.2.2.1,e.of t.2.2.2.1,t.2.2.2.2)
theorem X.yieldH{β:Type}{tail:β}{o:Array Nat}{na nb:Nat}{O:En->Array Keyed}{I J:HT β->Pu->Prop}{y:Pu}(h:I (none,na,nb,o,tail) y)(hO: ∀e,O e=e.of o):X n ck (fun e=>Pure.pure (ForInStep.yield (none,na,nb,O e,tail))) y (sv vH) (sR I J):=
 X.yield (none,na,nb,o,tail) h fun e=>by rw[hO];rfl
theorem X.doneH{β:Type}{tail:β}{o:Array Nat}{na nb:Nat}{O:En->Array Keyed}{I J:HT β->Pu->Prop}{y:Pu}(h:J (none,na,nb,o,tail) y)(hO: ∀e,O e=e.of o):X n ck (fun e=>Pure.pure (ForInStep.done (none,na,nb,O e,tail))) y (sv vH) (sR I J):=
 X.done (none,na,nb,o,tail) h fun e=>by rw[hO];rfl
theorem X.tellE{β:Type}{tail:β}{a b o:Array Nat}{na nb:Nat}{O:En->Array Keyed}{I J:HT β->Pu->Prop}{x y:Pu}(q:Iw a b o na nb)(hs:Sd x y)(hO: ∀e,O e=e.of o)(hJ: ∀t,Td a b x t.1 y->J t y):
  X n ck (fun e=>Pure.pure (ForInStep.done (some ((e.of a).extract 0 na++(e.of b).extract 0 nb++(O e).reverse),na,nb,O e,tail))) y (sv vH) (sR I J):=
 X.done (some (a.extract 0 na++b.extract 0 nb++o.reverse),na,nb,o,tail) (hJ _ ⟨_,rfl,q.done,hs⟩) fun e=>by rw[hO,zBV,zBV,zH3,zCE,zCE];rfl
theorem X.tellF{β:Type}{tail:β}{a b o:Array Nat}{na nb:Nat}{O:En->Array Keyed}{I J:HT β->Pu->Prop}{x y:Pu}(q:Iw a b o na nb)(hs:Sd x y)(hO: ∀e,O e=e.of o)(hJ: ∀t,Td a b x t.1 y->J t y):
  X n ck (fun e=>Pure.pure (ForInStep.done (some ((e.of b).extract 0 nb++(e.of a).extract 0 na++(O e).reverse),na,nb,O e,tail))) y (sv vH) (sR I J):=
 X.done (some (b.extract 0 nb++a.extract 0 na++o.reverse),na,nb,o,tail) (hJ _ ⟨_,rfl,q.first,hs⟩) fun e=>by rw[hO,zBV,zBV,zH3,zCE,zCE];rfl
theorem X.is{α τ:Type}{m k:Nat}{dc:En->Decidable ((m==k)=true)}{a b:En->StateT SortSt Sem α}{x:Pu}{v:τ->En->α}{R:τ->Pu->Prop}(h1:m=k->X n ck a x v R)(h2:m≠k->X n ck b x v R):X n ck (fun e=> @_root_.ite _ ((m==k)=true) (dc e) (a e) (b e)) x v R:=
 X.ite (fun h=>h1 (by simpa using h)) fun h=>h2 (by simpa using h)
theorem X.iteE{α τ:Type}{c:En->Prop}{dc:(e:En)->Decidable (c e)}{a b:En->StateT SortSt Sem α}{x:Pu}{v:τ->En->α}{R:τ->Pu->Prop}{c0:Prop}(hc: ∀e,c e=c0)(h1:c0->X n ck a x v R)(h2: ¬c0->X n ck b x v R):X n ck (fun e=> @_root_.ite _ (c e) (dc e) (a e) (b e)) x v R:=by
 obtain rfl:c=fun _=>c0:=funext hc
 exact X.ite h1 h2
theorem yDJ{a b:Array Nat}{x:Pu}(ha:Al n a)(hb:Al n b)(a1:1<=a.size)(b1:1<=b.size):X n ck (fun e=>zMN (e.of a) (e.of b)) x (fun t e=>e.of t) (fun t y=>t.toList.Perm (a.toList++b.toList)/\Sd x y):=by
 have i1:Iw a b #[a.getD (a.size - 1) 0] (a.size - 1) b.size:=by
  have e:Iw a b #[] a.size b.size:=by
   unfold Iw
   rw[show a.size=a.toList.length from rfl,show b.size=b.toList.length from rfl,List.drop_length,List.drop_length]
   exact .refl _
  exact e.pushA (by omega) (Nat.le_refl _)
 refine X.go D.rule ?_
 simp only[zGM]
 refine X.go (D.elem (q := a) (i := a.size - 1) (by omega)) ?_
 refine X.is (fun h => X.ret (a.extract 0 (a.size - 1) ++ b.extract 0 b.size ++ #[a.getD (a.size - 1) 0].reverse) ⟨i1.done,rfl,rfl⟩ fun e => ?_) fun h => ?_
 ·simp only[<- zCE,<- zBV,<- zH3,zHX]
 refine X.is (fun h => X.ret (b.extract 0 b.size ++ a.extract 0 (a.size - 1) ++ #[a.getD (a.size - 1) 0].reverse) ⟨i1.first,rfl,rfl⟩ fun e => ?_) fun h2 => ?_
 ·simp only[<- zCE,<- zBV,<- zH3,zHX]
 refine X.go D.get ?_
 refine X.bind (u := vH) (S := fun t y => Td a b x t.1 y) ?_ ?_
 ·refine X.rangeE (v := vH) (I := fun k t y => Lh a b x k t.1 t.2.2.2.1 t.2.1 t.2.2.1 y) (t := (none,a.size - 1,b.size,#[a.getD (a.size - 1) 0],x.g)) (a.size + b.size) (fun e => rfl) ?_ ⟨rfl,i1,by dsimp only;omega,by dsimp only;omega,by dsimp only;omega,by dsimp only;omega,by dsimp only;omega,rfl,rfl⟩ ?_ fun e => ?_
  ·rintro t y ⟨_,_,h3,h4,h5,h6,h7,_⟩
   exact absurd h7 (by omega)
  ·rintro k ⟨r,na,nb,o,g⟩ y hk ⟨rfl,h2,h3,h3',h4,h4',h5,h6⟩ i
   dsimp only at h2 h3 h3' h4 h4' h5
   dsimp only[vH]
   refine X.bind (u:=vH) (S:=fun t z=>Td a b x t.1 z∨Lh a b x k t.1 t.2.2.2.1 t.2.1 t.2.2.1 z) ?_ ?_
   ·refine X.rangeE (v := vH) (I := fun j t y => Lh a b x (if j < a.size + b.size then k else k + 1) t.1 t.2.2.2.1 t.2.1 t.2.2.1 y) (t := (none,na,nb,o,0,0)) (a.size + b.size) (fun e => rfl) ?_ ⟨rfl,h2,h3,h3',h4,h4',by rw [if_neg (by omega)];exact h5,h6⟩ ?_
    ·intro t y h
     rw [if_pos (by omega)] at h
     exact .inr h
    ·rintro j ⟨r,ka,kb,o,ac,bc⟩ y hk ⟨rfl,g2,g3,g3',g4,g4',g5,g6⟩ i
     dsimp only at g2 g3 g3' g4 g4' g5
     dsimp only[vH]
     have g5':ka+kb<=k+1:=by split at g5<;>omega
     refine X.go (D.elem (q:=b) (i:=kb - 1) (by omega)) (X.go (D.elem (q:=a) (i:=ka - 1) (by omega)) (X.go (D.lt (hb _ (by omega)) (ha _ (by omega))) ?_))
     refine X.ite (fun _=> ?_) fun _=> ?_
     ·refine X.go (D.elem (q := a) (i := ka - 1) (by omega)) ?_
      have q:=g2.pushA g3 g3'
      refine X.is (fun _=>X.tellE q g6 (fun e=>zB4 e _ _) fun t h=> .inl h) fun z=> ?_
      exact X.ite (fun _=>X.doneH (.inr ⟨rfl,q,by dsimp only;omega,by dsimp only;omega,g4,g4',by dsimp only;omega,g6⟩) fun e=>zB4 e _ _) fun _=>X.yieldH ⟨rfl,q,by dsimp only;omega,by dsimp only;omega,g4,g4',by dsimp only;rw[if_pos hk];omega,g6⟩ fun e=>zB4 e _ _
     ·refine X.go (D.elem (q := b) (i := kb - 1) (by omega)) ?_
      have q:=g2.pushB (by omega) g4'
      refine X.is (fun _=>X.tellF q g6 (fun e=>zB4 e _ _) fun t h=> .inl h) fun z=> ?_
      exact X.ite (fun _=>X.doneH (.inr ⟨rfl,q,g3,g3',by dsimp only;omega,by dsimp only;omega,by dsimp only;omega,g6⟩) fun e=>zB4 e _ _) fun _=>X.yieldH ⟨rfl,q,g3,g3',by dsimp only;omega,by dsimp only;omega,by dsimp only;rw[if_pos hk];omega,g6⟩ fun e=>zB4 e _ _
   ·rintro ⟨r,ka,kb,o,ac,bc⟩ z (⟨t,e1,ht⟩|⟨e1,g2,g3,g3',g4,g4',g5,g6⟩)
    ·dsimp only at e1
     subst e1
     exact X.done (some t,ka,kb,o,g) ⟨t,rfl,ht⟩
    ·dsimp only at e1 g2 g3 g3' g4 g4' g5
     subst e1
     dsimp only[vH]
     refine X.go D.rule ?_
     refine X.bind (u:=vH) (S:=fun t z=>Td a b x t.1 z∨Lh a b x k t.1 t.2.2.2.1 t.2.1 t.2.2.1 z) ?_ ?_
     ·refine X.rangeE (v := vH) (I := fun _ t y => Lh a b x k t.1 t.2.2.2.1 t.2.1 t.2.2.1 y) (t := (none,ka,kb,o,g + 1,ac,bc)) (a.size + b.size) (fun e => rfl) (fun t y h => .inr h) ⟨rfl,g2,g3,g3',g4,g4',g5,g6⟩ ?_
      rintro j ⟨r,ka,kb,o,g,ac,bc⟩ y hk ⟨rfl,g2,g3,g3',g4,g4',g5,g6⟩ i
      dsimp only at g2 g3 g3' g4 g4' g5
      dsimp only[vH]
      refine X.ite (fun _=> ?_) fun _=> ?_
      all_goals
       refine X.go D.setMin (X.go (D.elem (q:=b) (i:=kb - 1) (by omega)) (X.bind (gal (hb _ (by omega)) (by omega) (by omega) ha) ?_))
       rintro d z ⟨hd,rfl⟩
       refine X.ite (fun _=> ?_) fun _=> ?_
       ·have q:=g2.extA hd
        have qO: ∀e:En,e.of o++((e.of a).extract d ka).reverse=e.of (o++(a.extract d ka).reverse):=fun e=>by rw[zBV,zH3,zCE]
        refine X.is (fun _=>X.tellE q g6 qO fun t h=> .inl h) fun z1=> ?_
        refine X.go (D.elem (q:=b) (i:=kb - 1) (by omega)) ?_
        have r:=q.pushB (show 0<kb by omega) g4'
        have rO: ∀e:En,_=e.of _:=fun e=>(congrArg (fun O=>O.push (e.at (b.getD (kb - 1) 0))) (qO e)).trans (zB4 e _ _)
        refine X.is (fun _=>X.tellF r g6 rO fun t h=> .inl h) fun z3=> ?_
        refine X.go (D.elem (q:=a) (i:=d - 1) (by omega)) (X.bind (gal (ha _ (by omega)) (by omega) (by omega) hb) ?_)
        rintro d2 z ⟨hd2,rfl⟩
        refine X.ite (fun _=> ?_) fun _=> ?_
        ·have u:=r.extB hd2
         have uO: ∀e:En,_=e.of _:=fun e=>((congrArg (fun O=>O++((e.of b).extract d2 (kb - 1)).reverse) (rO e)).trans (by rw[zBV,zH3])).trans (zCE e _ _)
         refine X.is (fun _=>X.tellF u g6 uO fun t h=> .inl h) fun z4=>X.is (fun _=>X.tellE u g6 uO fun t h=> .inl h) fun z4'=> ?_
         refine X.go (D.elem (q:=a) (i:=d - 1) (by omega)) ?_
         have w:=u.pushA (show 0<d by omega) (by omega)
         have wO: ∀e:En,_=e.of _:=fun e=>(congrArg (fun O=>O.push (e.at (a.getD (d - 1) 0))) (uO e)).trans (zB4 e _ _)
         refine X.is (fun _=>X.tellE w g6 wO fun t h=> .inl h) fun z5=> ?_
         exact X.iteE (c0:=(decide (ka - d<7) && decide (kb - 1 - d2<7))=true) (fun e=>rfl) (fun _=>X.doneH (.inr ⟨rfl,w,by dsimp only;omega,by dsimp only;omega,by dsimp only;omega,by dsimp only;omega,by dsimp only;omega,g6⟩) wO) fun _=>X.yieldH ⟨rfl,w,by dsimp only;omega,by dsimp only;omega,by dsimp only;omega,by dsimp only;omega,by dsimp only;omega,g6⟩ wO
        ·skip
         refine X.go (D.elem (q:=a) (i:=d - 1) (by omega)) ?_
         have w:=r.pushA (show 0<d by omega) (by omega)
         have wO: ∀e:En,_=e.of _:=fun e=>(congrArg (fun O=>O.push (e.at (a.getD (d - 1) 0))) (rO e)).trans (zB4 e _ _)
         refine X.is (fun _=>X.tellE w g6 wO fun t h=> .inl h) fun z5=> ?_
         exact X.iteE (c0:=(decide (ka - d<7) && decide (kb - 1 - d2<7))=true) (fun e=>rfl) (fun _=>X.doneH (.inr ⟨rfl,w,by dsimp only;omega,by dsimp only;omega,by dsimp only;omega,by dsimp only;omega,by dsimp only;omega,g6⟩) wO) fun _=>X.yieldH ⟨rfl,w,by dsimp only;omega,by dsimp only;omega,by dsimp only;omega,by dsimp only;omega,by dsimp only;omega,g6⟩ wO
       ·have qO : ∀ e : En,e.of o = e.of o := fun e => rfl
        refine X.go (D.elem (q:=b) (i:=kb - 1) (by omega)) ?_
        have r:=g2.pushB (show 0<kb by omega) g4'
        have rO: ∀e:En,_=e.of _:=fun e=>(congrArg (fun O=>O.push (e.at (b.getD (kb - 1) 0))) (qO e)).trans (zB4 e _ _)
        refine X.is (fun _=>X.tellF r g6 rO fun t h=> .inl h) fun z3=> ?_
        refine X.go (D.elem (q:=a) (i:=ka - 1) (by omega)) (X.bind (gal (ha _ (by omega)) (by omega) (by omega) hb) ?_)
        rintro d2 z ⟨hd2,rfl⟩
        refine X.ite (fun _=> ?_) fun _=> ?_
        ·have u:=r.extB hd2
         have uO: ∀e:En,_=e.of _:=fun e=>((congrArg (fun O=>O++((e.of b).extract d2 (kb - 1)).reverse) (rO e)).trans (by rw[zBV,zH3])).trans (zCE e _ _)
         refine X.is (fun _=>X.tellF u g6 uO fun t h=> .inl h) fun z4=>X.is (fun _=>X.tellE u g6 uO fun t h=> .inl h) fun z4'=> ?_
         refine X.go (D.elem (q:=a) (i:=ka - 1) (by omega)) ?_
         have w:=u.pushA (show 0<ka by omega) (by omega)
         have wO: ∀e:En,_=e.of _:=fun e=>(congrArg (fun O=>O.push (e.at (a.getD (ka - 1) 0))) (uO e)).trans (zB4 e _ _)
         refine X.is (fun _=>X.tellE w g6 wO fun t h=> .inl h) fun z5=> ?_
         exact X.iteE (c0:=(decide (ka - d<7) && decide (kb - 1 - d2<7))=true) (fun e=>rfl) (fun _=>X.doneH (.inr ⟨rfl,w,by dsimp only;omega,by dsimp only;omega,by dsimp only;omega,by dsimp only;omega,by dsimp only;omega,g6⟩) wO) fun _=>X.yieldH ⟨rfl,w,by dsimp only;omega,by dsimp only;omega,by dsimp only;omega,by dsimp only;omega,by dsimp only;omega,g6⟩ wO
        ·skip
         refine X.go (D.elem (q:=a) (i:=ka - 1) (by omega)) ?_
         have w:=r.pushA (show 0<ka by omega) (by omega)
         have wO: ∀e:En,_=e.of _:=fun e=>(congrArg (fun O=>O.push (e.at (a.getD (ka - 1) 0))) (rO e)).trans (zB4 e _ _)
         refine X.is (fun _=>X.tellE w g6 wO fun t h=> .inl h) fun z5=> ?_
         exact X.iteE (c0:=(decide (ka - d<7) && decide (kb - 1 - d2<7))=true) (fun e=>rfl) (fun _=>X.doneH (.inr ⟨rfl,w,by dsimp only;omega,by dsimp only;omega,by dsimp only;omega,by dsimp only;omega,by dsimp only;omega,g6⟩) wO) fun _=>X.yieldH ⟨rfl,w,by dsimp only;omega,by dsimp only;omega,by dsimp only;omega,by dsimp only;omega,by dsimp only;omega,g6⟩ wO
     ·rintro ⟨r,ka,kb,o,g,ac,bc⟩ z (⟨t,e1,ht⟩|⟨e1,g2,g3,g3',g4,g4',g5,g6⟩)
      ·dsimp only at e1
       subst e1
       exact X.done (some t,ka,kb,o,g) ⟨t,rfl,ht⟩
      ·dsimp only at e1 g2 g3 g3' g4 g4' g5
       subst e1
       dsimp only[vH]
       refine X.go D.setMin ?_
       exact X.yieldH ⟨rfl,g2,g3,g3',g4,g4',g5,g6⟩ fun e=>rfl
  ·simp only[zHX]
   rfl
 ·rintro ⟨r,na,nb,o,g⟩ y ⟨t,e1,h⟩
  dsimp only at e1
  subst e1
  exact X.ret t h
end
section
variable{n:Nat}{ck:Nat->Nat->Bool}
def Ch:List (Nat×Nat×Nat)->Nat->Nat->Prop
 |[],s,e=>s=e
 |u::l,s,e=>u.1=s/\1<=u.2.1/\Ch l (s+u.2.1) e
theorem Ch.le: ∀{l:List (Nat×Nat×Nat)} {s e:Nat},Ch l s e->s<=e
 |[],s,e,h=>Nat.le_of_eq h
 |u::l,s,e,h=>by have:=Ch.le h.2.2;omega
theorem Ch.two: ∀{l:List (Nat×Nat×Nat)} {s e i:Nat} {u v:Nat×Nat×Nat},Ch l s e->l[i]? =some u->l[i+1]? =some v->v.1=u.1+u.2.1/\1<=u.2.1/\1<=v.2.1/\v.1+v.2.1<=e
 |[],s,e,i,u,v,h,h1,h2=>by simp at h1
 |[w],s,e,i,u,v,h,h1,h2=>by simp at h2
 |w::w'::l,s,e,0,u,v,h,h1,h2=>by
  simp at h1 h2
  subst h1 h2
  obtain⟨a1,a2,a3,a4,a5⟩:=h
  have:=a5.le
  exact⟨by omega,a2,a4,by omega⟩
 |w::w'::l,s,e,i+1,u,v,h,h1,h2=>by exact Ch.two (l:=w'::l) h.2.2 (by simpa using h1) (by simpa using h2)
theorem Ch.join: ∀{l:List (Nat×Nat×Nat)} {s e i:Nat} {u v:Nat×Nat×Nat},Ch l s e->l[i]? =some u->l[i+1]? =some v->Ch ((l.set i (u.1,u.2.1+v.2.1,u.2.2)).eraseIdx (i+1)) s e
 |[],s,e,i,u,v,h,h1,h2=>by simp at h1
 |[w],s,e,i,u,v,h,h1,h2=>by simp at h2
 |w::w'::l,s,e,0,u,v,h,h1,h2=>by
  simp at h1 h2
  subst h1 h2
  obtain⟨a1,a2,a3,a4,a5⟩:=h
  exact⟨a1,by dsimp only;omega,by rw[Nat.add_assoc] at a5;exact a5⟩
 |w::w'::l,s,e,i+1,u,v,h,h1,h2=>by
  have ih:=Ch.join (l:=w'::l) h.2.2 (by simpa using h1) (by simpa using h2)
  exact⟨h.1,h.2.1,ih⟩
theorem Ch.more: ∀{l:List (Nat×Nat×Nat)} {s e m:Nat},Ch l s e->1<=m->Ch (l++[(e,m,0)]) s (e+m)
 |[],s,e,m,h,h1=>⟨h.symm,h1,by rw[h];rfl⟩
 |u::l,s,e,m,h,h1=>⟨h.1,h.2.1,Ch.more h.2.2 h1⟩
theorem Ch.mod{f:Nat×Nat×Nat->Nat×Nat×Nat}(hf: ∀u,(f u).1=u.1/\(f u).2.1=u.2.1): ∀{l:List (Nat×Nat×Nat)} {s e:Nat} (i:Nat),Ch l s e->Ch (l.modify i f) s e
 |[],s,e,i,h=>by simpa using h
 |u::l,s,e,0,h=>by
  rw[List.modify_zero_cons]
  exact⟨(hf u).1.trans h.1,by rw[(hf u).2];exact h.2.1,by rw[(hf u).2];exact h.2.2⟩
 |u::l,s,e,i+1,h=>by
  rw[List.modify_succ_cons]
  exact⟨h.1,h.2.1,Ch.mod hf i h.2.2⟩
noncomputable def put{α:Type}(p:Array α)(s:Nat)(l:List α)(k:Nat):Array α:=(l.zipIdx k).foldl (fun a x=>a.setIfInBounds (s+x.2) x.1) p
theorem zP5{α β:Type}(f:α->β)(s:Nat): ∀(l:List α) (k:Nat) (p:Array α),put (p.map f) s (l.map f) k=(put p s l k).map f
 |[],k,p=>rfl
 |q::l,k,p=>by
  have e:(p.map f).setIfInBounds (s+k) (f q)=(p.setIfInBounds (s+k) q).map f:=by simp
  show put ((p.map f).setIfInBounds (s+k) (f q)) s (l.map f) (k+1)=_
  rw[e]
  exact zP5 f s l (k+1) _
theorem zMB{α:Type}(s:Nat): ∀(l:List α) (k:Nat) (p:Array α),s+k+l.length<=p.size->(put p s l k).toList=p.toList.take (s+k)++l++p.toList.drop (s+k+l.length)
 | [],k,p,h => by simp [put]
 | q :: l,k,p,h => by
  simp only[List.length_cons] at h
  have ih:=zMB s l (k+1) (p.setIfInBounds (s+k) q) (by simp;omega)
  show(put (p.setIfInBounds (s+k) q) s l (k+1)).toList=_
  have hk:s+k<p.toList.length:=by simp;omega
  rw[ih,Array.toList_setIfInBounds,show s+(k+1)=s+k+1 by omega,List.drop_set_of_lt (by omega),List.take_set,List.take_succ,List.getElem?_eq_getElem hk]
  simp only[List.length_cons,Option.toList_some]
  rw[show s+k+(l.length+1)=s+k+1+l.length by omega]
  have e2:(p.toList.take (s+k)++[p.toList[s+k]]).set (s+k) q=p.toList.take (s+k)++[q]:=by
   have aa:(p.toList.take (s+k)).length=s+k:=by rw[List.length_take];omega
   rw[List.set_append_right _ _ (by omega),aa,Nat.sub_self]
   rfl
  rw[e2]
  simp
def Wf(n:Nat)(lo:Nat)(x:Pu):Prop:=Pm n x.p/\Ch x.pd.toList 0 lo/\lo<=n
theorem Pm.put{p:Array Nat}(hp:Pm n p){s m e:Nat}{t:Array Nat}(h1:s<=m)(h2:m<=e)(h3:e<=n)(ht:t.toList.Perm ((p.extract s m).toList++(p.extract m e).toList)):Pm n (TS.put p s t.toList 0):=by
 have hs:=hp.sz
 have hl:t.toList.length=e - s:=by
  rw[ht.length_eq]
  simp
  omega
 unfold Pm
 rw[zMB s t.toList 0 p (by omega)]
 refine List.Perm.trans ?_ hp
 rw[hl,show s+0+(e - s)=e by omega,Nat.add_zero]
 have e0:=List.take_append_drop e p.toList
 have e1:=List.take_append_drop s (p.toList.take e)
 have e2:=zHF (p.toList.take e) s m h1
 rw[List.take_take,Nat.min_eq_left h2] at e2
 rw[List.take_take,Nat.min_eq_left (by omega)] at e1
 rw[zD7,zD7,<- e2] at ht
 have e3:p.toList=p.toList.take s++(p.toList.take e).drop s++p.toList.drop e:=by rw[e1,e0]
 refine List.Perm.trans (List.Perm.append_right _ (List.Perm.append_left _ ht)) ?_
 rw[<- e3]
theorem D.set{F:En->SortSt}{x y:Pu}(h: ∀e,F e=stO e y):D n ck (fun e=>(MonadStateOf.set (F e):StateT SortSt Sem PUnit)) x (fun _=>⟨⟩) y:=fun e _ E Q q=>by
 show kasC _ _ _ (MonadStateOf.set (F e):StateT SortSt Sem PUnit) Q _ _
 rw[h e]
 unfold kasC
 exact wpAny_pure q
theorem zZN{a b:Array Nat}{x:Pu}{A B:En->Array Keyed}(hA: ∀e,A e=e.of a)(hB: ∀e,B e=e.of b)(ha:Al n a)(hb:Al n b)(a1:1<=a.size)(b1:1<=b.size):X n ck (fun e=>zMM (A e) (B e)) x (fun t e=>e.of t) (fun t y=>t.toList.Perm (a.toList++b.toList)/\Sd x y):=by
 rw[show A=fun e=>e.of a from funext hA,show B=fun e=>e.of b from funext hB]
 exact yDI ha hb a1 b1
theorem zZO{a b:Array Nat}{x:Pu}{A B:En->Array Keyed}(hA: ∀e,A e=e.of a)(hB: ∀e,B e=e.of b)(ha:Al n a)(hb:Al n b)(a1:1<=a.size)(b1:1<=b.size):X n ck (fun e=>zMN (A e) (B e)) x (fun t e=>e.of t) (fun t y=>t.toList.Perm (a.toList++b.toList)/\Sd x y):=by
 rw[show A=fun e=>e.of a from funext hA,show B=fun e=>e.of b from funext hB]
 exact yDJ ha hb a1 b1
theorem Pm.al{p:Array Nat}(h:Pm n p):Al n p:=fun i hi=>h.lt (by rw[<- h.sz];exact hi)
theorem Al.ext{p:Array Nat}(h:Al n p)(i j:Nat):Al n (p.extract i j):=fun k hk=>by
 have hk':k<min j p.size - i:=by simpa using hk
 have e:(p.extract i j).getD k 0=p.getD (i+k) 0:=by
  have h1:i+k<p.size:=by omega
  have e1:p.getD (i+k) 0=p[i+k]:=by simp[Array.getD,h1]
  have e2:(p.extract i j).getD k 0=(p.extract i j)[k]:=by simp[Array.getD,hk']
  rw[e1,e2,Array.getElem_extract]
 rw[e]
 exact h _ (by omega)
theorem zVN{i lo:Nat}{x:Pu}(h:Wf n lo x)(hi:i+1<x.pd.size):X n ck (fun _=>mergeAt' i) x (fun(_:Unit) _=>true) (fun _ y=>Wf n lo y):=by
 obtain⟨hp,hc,hl⟩:=h
 have hsz:=hp.sz
 obtain⟨sa,na,pw,hu⟩: ∃sa na pw,x.pd[i]'(by omega)=(sa,na,pw):=⟨_,_,_,rfl⟩
 obtain⟨sb,nb,qw,hv⟩: ∃sb nb qw,x.pd[i+1]'hi=(sb,nb,qw):=⟨_,_,_,rfl⟩
 have eu:x.pd[i]? =some (sa,na,pw):=by rw[<- hu];simp
 have ev:x.pd[i+1]? =some (sb,nb,qw):=by rw[<- hv];simp
 have eu':x.pd.toList[i]? =some (sa,na,pw):=by rw[<- eu];simp
 have ev':x.pd.toList[i+1]? =some (sb,nb,qw):=by rw[<- ev];simp
 obtain⟨c1,c2,c3,c4⟩:=hc.two eu' ev'
 dsimp only at c1 c2 c3 c4
 have hj:=hc.join eu' ev'
 dsimp only at hj
 have hW:Wf n lo {x with pd:=(x.pd.setIfInBounds i (sa,na+nb,pw)).eraseIdxIfInBounds (i+1)}:=⟨hp,by
  show Ch ((x.pd.setIfInBounds i (sa,na+nb,pw)).eraseIdxIfInBounds (i+1)).toList 0 lo
  rw[show((x.pd.setIfInBounds i (sa,na+nb,pw)).eraseIdxIfInBounds (i+1)).toList=(x.pd.toList.set i (sa,na+nb,pw)).eraseIdx (i+1) by simp[Array.eraseIdxIfInBounds,hi]]
  exact hj,hl⟩
 generalize hy:({x with pd:=(x.pd.setIfInBounds i (sa,na+nb,pw)).eraseIdxIfInBounds (i+1)}:Pu)=y at hW
 refine X.go D.get ?_
 have epd: ∀e:En,pendingOf (stO e x)=x.pd:=fun e=>rfl
 simp only[epd,eu,ev]
 refine X.go (D.set (y:=y) fun e=>by rw[<- hy];rfl) ?_
 have hyp:y.p=x.p:=by rw[<- hy]
 refine X.go (D.elem (q:=x.p) (i:=sb) (by omega)) (X.bind (gal (hp.lt (by omega)) (by omega) (by omega) hp.al) ?_)
 rintro k z ⟨hk,rfl⟩
 refine X.is (fun _=>X.ret () hW) fun hk2=> ?_
 refine X.go (D.elem (q:=x.p) (i:=sa+k+(na - k) - 1) (by omega)) (X.bind (gal (hp.lt (by omega)) (by omega) (by omega) hp.al) ?_)
 rintro m z ⟨hm,rfl⟩
 refine X.is (fun _=>X.ret () hW) fun hm2=> ?_
 have fin: ∀(t:Array Nat) (z':Pu),t.toList.Perm ((x.p.extract (sa+k) sb).toList++(x.p.extract sb (sb+m)).toList)->Sd z z'->Wf n lo {z' with p:=TS.put z'.p (sa+k) t.toList 0}:=fun t z' ht hs=>by
  refine⟨?_,by rw[hs.2];exact hW.2.1,hl⟩
  rw[hs.1,hyp]
  exact hp.put (by omega) (by omega) (by omega) ht
 have putO: ∀(e:En) (t:Array Nat) (z':Pu),((e.of t).toList.zipIdx.foldl (fun a x=>a.setIfInBounds (sa+k+x.2) x.1) (e.of z'.p))=e.of (TS.put z'.p (sa+k) t.toList 0):=fun e t z'=>by
  have h:=zP5 (kas_item e.it) (sa+k) t.toList 0 z'.p
  rw[show t.toList.map (kas_item e.it)=(e.of t).toList by simp[En.of]] at h
  exact h
 refine X.ite (fun _=>X.bind (zZN (a:=x.p.extract (sa+k) sb) (b:=x.p.extract sb (sb+m)) (fun e=>zBV e _ _ _) (fun e=>zBV e _ _ _) (hp.al.ext _ _) (hp.al.ext _ _) (by simp;omega) (by simp;omega)) ?_) fun _=>X.bind (zZO (a:=x.p.extract (sa+k) sb) (b:=x.p.extract sb (sb+m)) (fun e=>zBV e _ _ _) (fun e=>zBV e _ _ _) (hp.al.ext _ _) (hp.al.ext _ _) (by simp;omega) (by simp;omega)) ?_
 all_goals
  rintro t z' ⟨ht,hs⟩
  refine X.go (D.modify (y:={z' with p:=TS.put z'.p (sa+k) t.toList 0}) fun e=> ?_) (X.go D.get (X.ret () (fin t z' ht hs)))
  show SortSt.mk' e.κ ((e.of t).toList.zipIdx.foldl (fun a x=>a.setIfInBounds (sa+k+x.2) x.1) (e.of z'.p)) z'.pd z'.g none=_
  rw[putO]
  rfl
end
section
variable{n:Nat}{ck:Nat->Nat->Bool}
theorem Wf.pw{x:Pu}{lo:Nat}(h:Wf n lo x)(i pw:Nat):Wf n lo {x with pd:=x.pd.modify i fun u=>(u.1,u.2.1,pw)}:=by
 refine⟨h.1,?_,h.2.2⟩
 show Ch (x.pd.modify i fun u=>(u.1,u.2.1,pw)).toList 0 lo
 rw[Array.toList_modify]
 exact Ch.mod (f:=fun u=>(u.1,u.2.1,pw)) (fun u=>⟨rfl,rfl⟩) i h.2.1
theorem Wf.more{x:Pu}{lo m:Nat}(h:Wf n lo x)(h1:1<=m)(h2:lo+m<=n):Wf n (lo+m) {x with pd:=x.pd.push (lo,m,0)}:=by
 refine⟨h.1,?_,h2⟩
 show Ch (x.pd.push (lo,m,0)).toList 0 (lo+m)
 rw[Array.toList_push]
 exact h.2.1.more h1
theorem runs{x:Pu}(h:Wf n 0 x):X n ck (fun _=>sortRuns') x (fun(_:Unit) _=>()) (fun _ y=>Pm n y.p):=by
 refine X.go D.get ?_
 have esz : ∀ e : En,(arrOf (stO e x)).size = n := fun e => by
  show(e.of x.p).size=n
  rw[zGM,h.1.sz]
 have epd : ∀ (e : En) (y : Pu),pendingOf (stO e y) = y.pd := fun e y => rfl
 simp only[esz]
 generalize (sortPriv% PySem.Builtin.minRun) n n 0=mr
 refine X.bind (u:=fun(t:Nat) _=>(none,t)) (S:=fun t y=>Wf n t y) ?_ ?_
 ·refine X.range (I := fun _ t y => Wf n t y) (t := 0) (fun t y h => h) h fun i _ _ k lo y hw => ?_
  refine X.ite (fun _=>X.done lo hw) fun q=> ?_
  dsimp only at q
  refine X.bind (yE7 hw.1 (by dsimp only;omega) (by dsimp only;omega)) ?_
  rintro m z ⟨m1,m2,hz⟩
  have hz' : Wf n lo z := ⟨hz.1,by rw [hz.2];exact hw.2.1,hw.2.2⟩
  dsimp only at m2
  have last : ∀ (m : Nat) (z : Pu),1 <= m -> lo + m <= n -> Wf n lo z -> 1 <= m /\ lo + m <= n /\ Wf n lo z := fun m z a b c => ⟨a,b,c⟩
  refine X.ite (fun _=>X.go D.rule (X.bind (bin hz'.1 (by dsimp only;omega)) fun _ z2 hz2=>X.ite (fun hf=>absurd hf (by simp)) fun _=> ?_)) fun _=> ?_
  ·have w := last (min (n - lo) mr) z2 (by omega) (by omega) ⟨hz2.1,by rw [hz2.2];exact hz'.2.1,hz'.2.2⟩
   obtain⟨w1,w2,w3⟩:=w
   refine X.go D.get ?_
   simp only[epd]
   cases hb:z2.pd.back? with
   | none => exact X.go (D.modify (y := { z2 with pd := z2.pd.push (lo,(min (n - lo) mr),0) }) fun e => rfl) (X.yield (lo + (min (n - lo) mr)) (w3.more w1 w2))
   |some u=>
    obtain⟨s1,n1,q1⟩:=u
    dsimp only
    generalize hpw:(sortPriv% PySem.Builtin.power) n (2*s1+n1) (2*s1+n1+n1+min (n - lo) mr) n=pw
    refine X.bind (u:=fun(_:Unit) _=>(none,())) (S:=fun _ y=>Wf n lo y) ?_ fun _ y hy=> ?_
    ·refine X.range (I := fun _ _ y => Wf n lo y) (t := ()) (fun t y h => h) w3 fun i _ _ k _ y hy => ?_
     refine X.go D.get ?_
     simp only[epd]
     by_cases hs:y.pd.size>1
     ·rw[if_pos hs]
      cases ho:y.pd[y.pd.size - 2]? with
      |none=>exact X.done () hy
      |some u=>
       obtain⟨o1,o2,o3⟩:=u
       dsimp only
       exact X.ite (fun _=>X.done () hy) fun _=>X.bind (zVN hy (by omega)) fun _ y h=>X.ite (fun hf=>absurd hf (by simp)) fun _=>X.yield () h
     ·rw[if_neg hs]
      exact X.done () hy
    ·refine X.go (D.modify (y := { y with pd := y.pd.modify (y.pd.size - 1) fun u => (u.1,u.2.1,pw) }) fun e => rfl) ?_
     exact X.go (D.modify (y:={y with pd:=(y.pd.modify (y.pd.size - 1) fun u=>(u.1,u.2.1,pw)).push (lo,(min (n - lo) mr),0)}) fun e=>rfl) (X.yield (lo+min (n - lo) mr) ((hy.pw _ pw).more w1 w2))
  ·have w := last m z m1 (by omega) hz'
   obtain⟨w1,w2,w3⟩:=w
   refine X.go D.get ?_
   simp only[epd]
   cases hb:z.pd.back? with
   | none => exact X.go (D.modify (y := { z with pd := z.pd.push (lo,m,0) }) fun e => rfl) (X.yield (lo + m) (w3.more w1 w2))
   |some u=>
    obtain⟨s1,n1,q1⟩:=u
    dsimp only
    generalize hpw:(sortPriv% PySem.Builtin.power) n (2*s1+n1) (2*s1+n1+n1+m) n=pw
    refine X.bind (u:=fun(_:Unit) _=>(none,())) (S:=fun _ y=>Wf n lo y) ?_ fun _ y hy=> ?_
    ·refine X.range (I := fun _ _ y => Wf n lo y) (t := ()) (fun t y h => h) w3 fun i _ _ k _ y hy => ?_
     refine X.go D.get ?_
     simp only[epd]
     by_cases hs:y.pd.size>1
     ·rw[if_pos hs]
      cases ho:y.pd[y.pd.size - 2]? with
      |none=>exact X.done () hy
      |some u=>
       obtain⟨o1,o2,o3⟩:=u
       dsimp only
       exact X.ite (fun _=>X.done () hy) fun _=>X.bind (zVN hy (by omega)) fun _ y h=>X.ite (fun hf=>absurd hf (by simp)) fun _=>X.yield () h
     ·rw[if_neg hs]
      exact X.done () hy
    ·refine X.go (D.modify (y := { y with pd := y.pd.modify (y.pd.size - 1) fun u => (u.1,u.2.1,pw) }) fun e => rfl) ?_
     exact X.go (D.modify (y:={y with pd:=(y.pd.modify (y.pd.size - 1) fun u=>(u.1,u.2.1,pw)).push (lo,m,0)}) fun e=>rfl) (X.yield (lo+m) ((hy.pw _ pw).more w1 w2))
 ·intro lo y hw
  refine X.bind (u:=fun(_:Unit) _=>(none,())) (S:=fun _ y=>Wf n lo y) ?_ fun _ y h=>X.ret () h.1
  refine X.range (I:=fun _ _ y=>Wf n lo y) (t:=()) (fun t y h=>h) hw fun i _ _ k _ y hw=> ?_
  refine X.go D.get ?_
  simp only[epd]
  refine X.ite (fun _=>X.done () hw) fun q=> ?_
  have hle: ∀(c:Prop) [Decidable c],(if c then y.pd.size - 2 - 1 else y.pd.size - 2)+1<y.pd.size:=by
   intro c _
   split<;>omega
  exact X.bind (zVN hw (hle _)) fun _ y h=>X.ite (fun hf=>absurd hf (by simp)) fun _=>X.yield () h
end
theorem Pm.id(n:Nat):Pm n (List.range n).toArray:=by
 unfold Pm
 simp
noncomputable def xS(n:Nat):Pu:=⟨(List.range n).toArray,#[],7⟩
theorem zOT(n:Nat)(ck:Nat->Nat->Bool): ∃y:Pu,Pm n y.p/\D n ck (fun _=>sortRuns') (xS n) (fun _=>()) y:=by
 obtain⟨t,y,h,d⟩:=runs (n:=n) (ck:=ck) (x:=xS n) ⟨Pm.id n,rfl,Nat.zero_le _⟩
 exact⟨y,h,d⟩
noncomputable def srt(n:Nat)(ck:Nat->Nat->Bool):List Nat:=if 2<=n then(zOT n ck).choose.p.toList else List.range n
theorem zM1(n:Nat)(ck:Nat->Nat->Bool):(srt n ck).Perm (List.range n):=by
 unfold srt
 split
 ·exact(zOT n ck).choose_spec.1
 ·exact .refl _
section
variable{prog:Program}{w:World}{A:Around}{E:Value->Shared->Prop}{s:Shared}
theorem zP0(vs:List Value):(List.range vs.length).map (fun i=>vs.getD i Value.none)=vs:=by
 refine List.ext_getElem? fun i=> ?_
 by_cases h:i<vs.length
 ·simp[h]
 ·simp[h]
theorem zOG{a:Addr}{vs:List Value}{nn:Nat}{κ:SortKind}{ck:Nat->Nat->Bool}{P:PySem.Fin->Shared->Prop}(ho:s.heap.get? a=some (seqObj "list" vs.toArray nn)) (hz:vs.length<=sizeLine)
  (hk:2<=vs.length-> ∀h':Heap,(∀b o,b≠a->s.heap.get? b=some o->h'.get? b=some o)-> ∀Q':SortKind->Shared->Prop,Q' κ {s with heap:=h'}->wpAny (model prog w) A (keyKind' vs.toArray) Q' E {s with heap:=h'})
  (hc : ∀ h' : Heap,(∀ b o,b ≠ a -> s.heap.get? b = some o -> h'.get? b = some o) -> ∀ i j,i < vs.length -> j < vs.length -> ∀ C : Bool -> Shared -> Prop,C (ck i j) { s with heap := h' } -> wpAny (model prog w) A (keyLt' κ (vs.getD i Value.none) (vs.getD j Value.none)) C (fun _ _ => False) { s with heap := h' })
  (h : P (.done (.ret .none)) { s with heap := sortedHeap s.heap a vs ((srt vs.length ck).map fun i => vs.getD i Value.none).toArray }) :
  wpAny (model prog w) A (Builtin.«list.sort» ⟨[.ref a],[]⟩) P E s:=by
 have lt:=Heap.lt_size ho
 have hsz:vs.toArray.size=vs.length:=by simp
 obtain⟨e1,ho1⟩: ∃k,(s.heap.update a (Obj.mapSeq fun _=> #[])).get? a=some (seqObj "list" #[] k):=⟨_,get?_update_seq ho (fun _=> #[])⟩
 have keep: ∀b o,b≠a->s.heap.get? b=some o->(((s.heap.update a (Obj.mapSeq fun _=> #[])).push (seqObj "tuple" vs.toArray 0)).push (seqObj "list" #[] 0)).get? b=some o:=fun b o hb hbo=>
  Heap.get?_push_of_some _ (Heap.get?_push_of_some _ (by rw[Heap.get?_update_ne _ _ _ _ hb];exact hbo))
 have ho6:(((s.heap.update a (Obj.mapSeq fun _=> #[])).push (seqObj "tuple" vs.toArray 0)).push (seqObj "list" #[] 0)).get? a=some (seqObj "list" #[] e1):=Heap.get?_push_of_some _ (Heap.get?_push_of_some _ ho1)
 have oj: ∀l:List Value,l.length=vs.length->l.toArray.size<=sizeLine+1:=fun l hl=>by rw[List.size_toArray];omega
 rw[list_sort_plain]
 refine(wpAny_bind (listItems_at ho rfl ?_))
 refine(wpAny_bind (listUpdate_at ho rfl ?_ (by rw[List.size_toArray];omega) (Nat.zero_le _)))
 refine(wpAny_bind (seqEpoch_at ho1 rfl ?_))
 refine(wpAny_bind (wpAny_newTuple ?_ (by show vs.length<=_;exact hz)))
 refine(wpAny_bind (wpAny_newList (wpAny_holding ?_) (Nat.zero_le _)))
 ·show (wpAny (model prog w) A _ P E { s with heap := (((s.heap.update a (Obj.mapSeq fun _ => #[])).push (seqObj "tuple" vs.toArray 0)).push (seqObj "list" #[] 0)) })
  dsimp only
  have aa:((srt vs.length ck).map fun i=>vs.getD i Value.none).length=vs.length:=by rw[List.length_map,(zM1 _ _).length_eq,List.length_range]
  by_cases h2:vs.toArray.size<2
  ·have he : ((srt vs.length ck).map fun i => vs.getD i Value.none) = vs := by
    unfold srt
    rw[if_neg (by omega)]
    exact zP0 vs
   rw[he] at h
   rw[if_pos h2,if_pos h2]
   refine(wpAny_bind (wpAny_pure ?_))
   rw[StateT.run_pure]
   refine(wpAny_bind (wpAny_pure ?_))
   dsimp only
   have hm:(vs.toArray.zip vs.toArray).map (·.2)=vs.toArray:=by
    apply Array.toList_inj.mp
    simp
    exact List.map_snd_zip (Nat.le_refl _)
   rw[hm]
   refine(wpAny_bind (seqEpoch_at ho6 rfl (wpAny_bind (listUpdate_at ho6 rfl ?_ (hsz2:=by rw[List.size_toArray];omega)))))
   simp only[bne_self_eq_false,Bool.false_eq_true,if_false]
   exact wpAny_pure h
  ·rw[if_neg h2,if_neg h2]
   refine(wpAny_bind (hk (by omega) _ keep _ ?_))
   have n2:2<=vs.length:=by omega
   have spec:=(zOT vs.length ck).choose_spec
   have ln:srt vs.length ck=(zOT vs.length ck).choose.p.toList:=by unfold srt;rw[if_pos n2]
   generalize (zOT vs.length ck).choose=y at spec ln
   let e:En:=⟨prog,w,A,{s with heap:=(((s.heap.update a (Obj.mapSeq fun _=> #[])).push (seqObj "tuple" vs.toArray 0)).push (seqObj "list" #[] 0))},κ,pairsOf vs⟩
   have eok:e.Ok vs.length ck:=fun i j hi hj C q=>by
    show wpAny (model prog w) A (keyLt' κ (kas_item (pairsOf vs) i).1 (kas_item (pairsOf vs) j).1) C _ _
    rw[kas_item_eq,kas_item_eq]
    exact hc _ keep i j hi hj C q
   have est:SortSt.mk' κ (vs.toArray.zip vs.toArray) #[] 7 none=stO e (xS vs.length):=by
    have q:=kas_range (pairsOf vs)
    rw[pairsOf_size] at q
    show SortSt.mk' κ (pairsOf vs) #[] 7 none=SortSt.mk' κ ((List.toArray (List.range vs.length)).map (kas_item (pairsOf vs))) #[] 7 none
    rw[q]
   rw[est]
   have ni:(e.of y.p).map (·.2)=((srt vs.length ck).map fun i=>vs.getD i Value.none).toArray:=by
    apply Array.toList_inj.mp
    rw[ln,Array.map_map,Array.toList_map]
    exact List.map_congr_left fun i _=>by show(kas_item (pairsOf vs) i).2=_;rw[kas_item_eq]
   have run:=spec.2 e eok E (fun _ st' s'=>st'=stO e y/\s'=e.s) ⟨rfl,rfl⟩
   refine(wpAny_bind (wpAny_mono run ?_ fun _ _ x=>x))
   rintro ⟨⟨⟩,st'⟩ s' ⟨rfl,rfl⟩
   show(wpAny (model prog w) A _ P E {s with heap:=(((s.heap.update a (Obj.mapSeq fun _=> #[])).push (seqObj "tuple" vs.toArray 0)).push (seqObj "list" #[] 0))})
   dsimp only
   rw[show(arrOf (stO e y))=e.of y.p from rfl,ni]
   refine(wpAny_bind (seqEpoch_at ho6 rfl (wpAny_bind (listUpdate_at ho6 rfl ?_ (hsz2:=by rw[List.size_toArray];omega)))))
   rw[show failedOf (stO e y)=none from rfl]
   simp only[bne_self_eq_false,Bool.false_eq_true,if_false]
   exact wpAny_pure h
end
section
variable{prog:Program}{w:World}{A:Around}{E:Value->Shared->Prop}{s:Shared}
theorem zKZ{l:Addr}{vs:List Value}{κ:SortKind}{ck:Nat->Nat->Bool}{Q:Value->Shared->Prop}(hl:s.heap.IsList l vs.toArray)(hz:vs.length<=sizeLine)
  (hk:2<=vs.length-> ∀(A:Around) (E:Value->Shared->Prop) (h':Heap),(∀b o,s.heap.get? b=some o->h'.get? b=some o)-> ∀Q':SortKind->Shared->Prop,Q' κ {s with heap:=h'}->wpAny (model prog w) A (keyKind' vs.toArray) Q' E {s with heap:=h'})
  (hc: ∀(A:Around) (h':Heap),(∀b o,s.heap.get? b=some o->h'.get? b=some o)-> ∀i j,i<vs.length->j<vs.length-> ∀C:Bool->Shared->Prop,C (ck i j) {s with heap:=h'}->wpAny (model prog w) A (keyLt' κ (vs.getD i Value.none) (vs.getD j Value.none)) C (fun _ _=>False) {s with heap:=h'})
  (h:Q (.ref (s.heap.objs.size+1)) {s with heap:=sortedAll s.heap vs ((srt vs.length ck).map fun i=>vs.getD i Value.none).toArray}):
  wpAny (model prog w) A (call (.builtin "sorted") [.ref l]) Q E s:=by
 refine(Calls.call_function_entry kind_sorted plain_sorted entry_sorted (args_sorted1 _) ?_)
 unfold Builtin.«sorted»
 refine(wpAny_bind (m:=checkCount "sorted" 1 1 _) (wpAny_pure (wpAny_bind (collect_list hl (wpAny_bind (wpAny_newList ?_ (by exact hz))) hz))))
 have hs1:((s.heap.push (seqObj "list" #[] 0)).update s.heap.objs.size (Obj.mapSeq (· ++vs.toArray))).objs.size=s.heap.objs.size+1:=by rw[Heap.size_update,size_push']
 have hoL:(((s.heap.push (seqObj "list" #[] 0)).update s.heap.objs.size (Obj.mapSeq (· ++vs.toArray))).push (seqObj "list" vs.toArray 0)).get? (s.heap.objs.size+1)=some (seqObj "list" vs.toArray 0):=by rw[<- hs1];exact Heap.get?_push_size _ rfl
 have keep: ∀b o,s.heap.get? b=some o->(((s.heap.push (seqObj "list" #[] 0)).update s.heap.objs.size (Obj.mapSeq (· ++vs.toArray))).push (seqObj "list" vs.toArray 0)).get? b=some o/\b≠s.heap.objs.size+1:=fun b o q=>by
  have hlt:b<s.heap.objs.size:=Heap.lt_size q
  refine⟨?_,Nat.ne_of_lt (Nat.lt_succ_of_lt hlt)⟩
  rw[Heap.get?_push_ne _ _ _ (by rw[hs1];exact(Nat.ne_of_lt (Nat.lt_succ_of_lt hlt))),Heap.get?_update_ne _ _ _ _ (Nat.ne_of_lt hlt),Heap.get?_push_ne _ _ _ (Nat.ne_of_lt hlt)]
  exact q
 show(wpAny _ _ _ _ _ {s with heap:=((s.heap.push (seqObj "list" #[] 0)).update s.heap.objs.size (Obj.mapSeq (· ++vs.toArray))).push (seqObj "list" vs.toArray 0)})
 rw[hs1]
 refine(wpAny_bind (wpAny_holding (wpAny_call_entry slot_list_sort ⟨_,hoL,rfl⟩ entry_list_sort (zOG (κ:=κ) (ck:=ck) hoL hz (fun n2 h' k'=>hk n2 _ _ h' fun b o q=>k' b o (keep b o q).2 (keep b o q).1) (fun h' k'=>hc _ h' fun b o q=>k' b o (keep b o q).2 (keep b o q).1) ⟨_,rfl,?_⟩) (args_list_sort _))))
 exact(wpAny_pure ⟨_,rfl,h⟩)
noncomputable def lexP(p q:Int×Int):Bool:=if p.1=q.1 then decide (p.2<q.2) else decide (p.1<q.1)
theorem zSK{x y:Addr}{a b c d:Int}{t u t' u':Tok}{C:Bool->Shared->Prop}(hx:IsTup s.heap x #[.int a t,.int b u])(hy:IsTup s.heap y #[.int c t',.int d u'])(h:C (lexP (a,b) (c,d)) s):wpAny (model prog w) A (keyLt' (tuples' true) (.ref x) (.ref y)) C E s:=by
 obtain⟨ox,hx,_,n,dx⟩:=hx
 obtain⟨oy,hy,_,m,dy⟩:=hy
 refine kat_lt hx dx hy dy ?_
 refine kat_cons (wpAny_eqBool_int (kat_go (fun e=>kat_yes ?_) fun e=>kat_no ?_))
 ·have e : a = c := by simpa using e
  refine kat_cons (wpAny_eqBool_int (kat_go (fun e2=>kat_yes (kat_nil ?_)) fun e2=>kat_no ?_))
  ·have e2 : b = d := by simpa using e2
   have:lexP (a,b) (c,d)=false:=by simp[lexP,e,e2]
   rw[this] at h
   exact h
  ·refine kat_one _ _ (lt_int ?_)
   have:lexP (a,b) (c,d)=decide (b<d):=by simp[lexP,e]
   rw[this] at h
   exact h
 ·have e : ¬ a = c := by simpa using e
  have:lexP (a,b) (c,d)=decide (a<c):=by simp[lexP,e]
  rw[this] at h
  exact oneLt_int h
def PrI(h:Heap):List Value->List (Int×Int)->Prop
 |[],[]=>True
 |v::vs,p::ps=>(∃a t u,v= .ref a/\IsTup h a #[.int p.1 t,.int p.2 u])/\PrI h vs ps
 |_,_=>False
theorem PrI.keep{h h':Heap}(k: ∀b o,h.get? b=some o->h'.get? b=some o): ∀{vs:List Value} {ps:List (Int×Int)},PrI h vs ps->PrI h' vs ps
 |[],[],_=>trivial
 |_::_,_::_,⟨⟨a,t,u,e,q⟩,r⟩=>⟨⟨a,t,u,e,q.keeps k⟩,PrI.keep k r⟩
 |[],_::_,r=>r.elim
 |_::_,[],r=>r.elim
theorem PrI.at{h:Heap}: ∀{vs:List Value} {ps:List (Int×Int)} {i:Nat},PrI h vs ps->i<vs.length-> ∃a t u,vs.getD i Value.none= .ref a/\IsTup h a #[.int (ps.getD i (0,0)).1 t,.int (ps.getD i (0,0)).2 u]
 |[],[],i,_,hi=>by simp at hi
 |_::_,_::_,0,r,_=>r.1
 |v::vs,p::ps,i+1,r,hi=>by
  have:=PrI.at (i:=i) r.2 (by simpa using hi)
  simpa using this
 |[],_::_,i,r,_=>r.elim
 |_::_,[],i,r,_=>r.elim
theorem PrI.tups{h:Heap}: ∀{vs:List Value} {ps:List (Int×Int)},PrI h vs ps-> ∃fs,KatTups h vs fs/\fs.length=vs.length/\ ∀v∈fs,∃i t,v= .int i t
 |[],[],_=>⟨[],trivial,rfl,fun _ h=>by cases h⟩
 |_::_,_::_,⟨⟨a,t,u,e,o,ho,hcl,n,hd⟩,r⟩=>by
  obtain⟨fs,h1,h2,h3⟩:=PrI.tups r
  subst e
  refine⟨.int _ t::fs,KatTups.cons ho hcl hd rfl h1,by simp[h2],fun v hv=> ?_⟩
  rcases List.mem_cons.mp hv with rfl|hv
  ·exact⟨_,_,rfl⟩
  ·exact h3 v hv
 |[],_::_,r=>r.elim
 |_::_,[],r=>r.elim
noncomputable def ckP(ps:List (Int×Int))(i j:Nat):Bool:=lexP (ps.getD i (0,0)) (ps.getD j (0,0))
theorem zJL{l:Addr}{vs:List Value}{ps:List (Int×Int)}{Q:Value->Shared->Prop}(hl:s.heap.IsList l vs.toArray)(hz:vs.length<=sizeLine)(hp:PrI s.heap vs ps)
  (h:Q (.ref (s.heap.objs.size+1)) {s with heap:=sortedAll s.heap vs ((srt vs.length (ckP ps)).map fun i=>vs.getD i Value.none).toArray}):
  wpAny (model prog w) A (call (.builtin "sorted") [.ref l]) Q E s:=by
 refine zKZ (κ:=tuples' true) hl hz (fun n2 A E h' k' Q' q=> ?_) (fun A h' k' i j hi hj C q=> ?_) h
 ·obtain⟨fs,h1,h2,h3⟩:=(hp.keep k').tups
  refine kat_kind (s:={s with heap:=h'}) (T:= .type "int") h1 (by omega) (fun v hv=> ?_) (by decide) q
  obtain⟨i,t,rfl⟩:=h3 v hv
  exact Looks.now
 ·obtain⟨a,t,u,e1,t1⟩:=(hp.keep k').at hi
  obtain⟨b,t',u',e2,t2⟩:=(hp.keep k').at hj
  rw[e1,e2]
  exact zSK (s:={s with heap:=h'}) t1 t2 q
end
end TS
namespace L2
open PySem PySem.Spec PyProof.Rows
variable{X:Cx}{K:W.Frag}
noncomputable def prD:Dat->Option (Int×Int)
 | .tup [.int a,.int b]=>some (a,b)
 |_=>none
noncomputable def prsD:List Dat->Option (List (Int×Int))
 |[]=>some []
 |d::ds=>(prD d).bind fun p=>(prsD ds).map fun ps=>p::ps
def PrV(K:W.Frag)(H:Hp):List V->List (Int×Int)->Prop
 |[],[]=>True
 |v::vs,p::ps=>(∃a,v= .ref a/\SqT K H a [.int p.1,.int p.2])/\PrV K H vs ps
 |_,_=>False
theorem zXX{d:Dat}{p:Int×Int}(h:prD d=some p):d= .tup [.int p.1,.int p.2]:=by
 unfold prD at h
 split at h
 ·cases h;rfl
 ·cases h
theorem zP8{H:Hp}{N:Addr->Prop}: ∀{xs:List V} {ds:List Dat} {ps:List (Int×Int)},RepA K N H xs ds->prsD ds=some ps->PrV K H xs ps
 | _,_,_,.nil,h => by cases h;trivial
 | _,_,ps,@RepA.cons _ _ _ v vs d ds h t,e => by
  have e : (prD d).bind (fun p => (prsD ds).map fun ps => p :: ps) = some ps := e
  cases h1:prD d with
  | none => rw [h1] at e;cases e
  |some p=>
   rw[h1] at e
   have e:(prsD ds).map (fun ps=>p::ps)=some ps:=e
   cases h2:prsD ds with
   | none => rw [h2] at e;cases e
   |some qs=>
    rw[h2] at e
    cases e
    have:=zXX h1
    subst this
    refine⟨?_,zP8 t h2⟩
    cases h with
    |tup sq r=>
     cases r with
     |cons r1 r=>
      cases r1
      cases r with
      |cons r2 r=>
       cases r2
       cases r
       exact⟨_,rfl,sq⟩
theorem PrV.prI{H:Hp}{a6:List (Addr×Obj)}{σ:St}{s:Shared}(I:Inv X a6 σ H s): ∀{xs:List V} {us:List Value} {ps:List (Int×Int)},PrV X.K H xs ps->Vals xs us->TS.PrI s.heap us ps
 | [],_,[],_,.nil => trivial
 | _ :: _,_,_ :: _,⟨⟨a,e,q⟩,r⟩,.cons h t => by
  subst e
  cases h
  obtain⟨its,rv,ht,_⟩:=I.tuple q
  cases rv with
  |cons r1 rv=>
   obtain⟨t1,rfl⟩:=r1
   cases rv with
   |cons r2 rv=>
    obtain⟨t2,rfl⟩:=r2
    cases rv
    exact⟨⟨a,t1,t2,rfl,ht⟩,PrV.prI I r t⟩
 |[],_,_::_,h,_=>h.elim
 |_::_,_,[],h,_=>h.elim
theorem PrV.len{H:Hp}: ∀{xs:List V} {ps:List (Int×Int)},PrV K H xs ps->xs.length=ps.length
 |[],[],_=>rfl
 |_::_,_::_,r=>by simp[PrV.len r.2]
 |[],_::_,r=>r.elim
 |_::_,[],r=>r.elim
theorem zJF{xs:List V}{us:List Value}(r:Vals xs us): ∀l:List Nat,(∀i∈l,i<xs.length)->Vals (l.map fun i=>xs.getD i .non) (l.map fun i=>us.getD i Value.none)
 |[],_=> .nil
 |i::l,h=>by
  have hi:=h i List.mem_cons_self
  obtain⟨u,h1,h2⟩:=Vals.get (i:=i) (x:=xs[i]) r (by simp[hi])
  refine .cons ?_ (zJF r l fun j hj=>h j (List.mem_cons_of_mem _ hj))
  have e1:xs.getD i .non=xs[i]:=by simp[hi]
  have e2:us.getD i Value.none=u:=by simp[h1]
  show RelV (xs.getD i .non) (us.getD i Value.none)
  rw[e1,e2]
  exact h2
noncomputable def srtP(ps:List (Int×Int)):List Nat:=TS.srt ps.length (TS.ckP ps)
theorem zF2(ps:List (Int×Int)):(srtP ps).Perm (List.range ps.length):=TS.zM1 _ _
def zTD(K:W.Frag):RC:=fun xs H Q=> ∃(p:Addr) (ys:List V) (ps:List (Int×Int)),xs=[.ref p]/\SqL K H p ys/\PrV K H ys ps/\ ∀l:Addr,H l=none->Q (.ref l) (upd H l (.lst ((srtP ps).map fun i=>ys.getD i .non)))
theorem zZZ(h:X.K=K):zC7 X (.builtin "sorted") (zTD K):=by
 subst h
 intro a6 s σ H xs us Q I r h
 obtain⟨p,ys,ps,rfl,hq,hp,q⟩:=h
 obtain⟨u,rfl,rx⟩:=zHO r
 cases rx
 obtain⟨its,rv,pl,hz⟩:=I.list hq
 have aa:=rv.length
 have hpl:=hp.len
 have hn:H (s.heap.objs.size+1)=none:=I.hok.fresh (Nat.le_succ _)
 refine TS.zJL pl.isList (by omega) (hp.prI I rv) ?_
 rw[show its.length=ps.length by omega]
 obtain⟨e,he⟩:=sortedAll_at s.heap its ((TS.srt ps.length (TS.ckP ps)).map fun i=>its.getD i Value.none).toArray
 refine⟨.ref (s.heap.objs.size+1),_,I.laid (a:=s.heap.objs.size+1) (o:= .lst ((srtP ps).map fun i=>ys.getD i .non)) (t':=s.toks) (fun b o=>sortedAll_old) (Nat.le_succ _) ?_,rfl,q _ hn⟩
 refine⟨by rw[List.length_map,(zF2 ps).length_eq,List.length_range];omega,(srtP ps).map fun i=>its.getD i Value.none,e,zJF rv _ fun i hi=> ?_,?_⟩
 ·have:=List.mem_range.mp ((zF2 ps).mem_iff.mp hi)
  omega
 ·rw[he]
  rfl
noncomputable def zPP:Dat->Option Dat
 | .lst ds=>(prsD ds).bind fun ps=>some (.lst ((srtP ps).map fun i=>ds.getD i .non))
 |_=>none
theorem zJV{H:Hp}{N:Addr->Prop}{xs:List V}{ds:List Dat}(r:RepA K N H xs ds): ∀l:List Nat,RepA K N H (l.map fun i=>xs.getD i .non) (l.map fun i=>ds.getD i .non)
 | [] => .nil
 | i :: l => by
  have one: ∀{xs:List V} {ds:List Dat} (i:Nat),RepA K N H xs ds->Rep K N H N (xs.getD i .non) (ds.getD i .non):=by
   intro xs ds i r
   induction r using RepA.rec (motive_1:=fun _ _ _ _=>True) generalizing i with
   |nil=>simpa using Rep.non
   |cons h t _ ih=>cases i with
    |zero=>simpa using h
    |succ i=>simpa using ih i
   |_=>trivial
  exact .cons (one i r) (zJV r l)
theorem zVK:CalN K (zTD K) zPP:=by
 intro H N M x d c Q hx h k
 cases d with
 |lst ds=>
  have h:((prsD ds).bind fun ps=>some (Dat.lst ((srtP ps).map fun i=>ds.getD i .non)))=some c:=h
  cases h1:prsD ds with
  |none=>rw[h1] at h;cases h
  |some ps=>
   rw[h1] at h
   cases h
   obtain⟨a,xs,rfl,sq,r⟩:=hx.lstE
   exact⟨a,xs,ps,rfl,sq,zP8 r h1,fun l hl'=>k l _ _ hl' (zJV r _) rfl⟩
 |_=>cases h
theorem zPW:typeLookup (.type "list") ("keys":Str)=pure none:=am_miss_of_fast (by decide+kernel)
section
variable{prog:Program}{w:World}{A:Around}{E:Value->Shared->Prop}{s:Shared}
theorem zQ1{a:Addr}{o:Obj}{xs:Array Value}{k:Nat}{Q:Option Value->Shared->Prop}(hx:s.heap.get? a=some o)(hc:o.cls= .type "list") (c8:o.data= .seq xs k) (hd:o.dict=none) (hA:A.handled=none)
  (h: ∀h' tk,(∀b ob,s.heap.get? b=some ob->h'.get? b=some ob)->Q none {s with heap:=h',toks:=tk}):wpAny (model prog w) A (getAttr? (.ref a) "keys") Q E s:=by
 obtain⟨c,dct,dat,sl⟩:=o
 simp only at hc c8 hd
 subst hc c8 hd
 obtain⟨hp,g,d,tk,os⟩:=s
 have hT: ∀tk',(⟨hp,g,d,tk',os⟩:Shared).TypeIs (.ref a) "list":=fun _=>⟨_,hx,rfl⟩
 have f1:=sub_AttributeError
 have f3:=F.slot_list_getattribute.lookup
 have f4:=F.slot_list_getattribute.bind (.ref a)
 have f5:=am_list_getattr_none
 unfold getAttr? getAttrBy? getAttrBy
 (repeat (any_goals (first|assumption|exact hT _|((with_reducible show wpAny _ _ (call (Value.builtin "list.__getattribute__") _ _) _ _ _);refine call_meets F.slot_list_getattribute (hT _) am_entry_list_getattribute (F.args_list_getattribute_2 _ _) (meets_getattribute_miss_list a xs k sl "keys" _ zPW (by decide) (by size_fits)) ⟨hx,hA,fun h' tk' e hx'=> ?_⟩)|wp_step)))
 obtain⟨t1,u1,he⟩:=hx'.there
 show(wpAny _ _ (getattributeRaised _ _ _ _ _ _ _) _ _ _)
 unfold getattributeRaised
 (repeat (any_goals (first|assumption|wp_step)))
 exact h _ _ hx'.keeps
end
theorem zKG:entryFor table "dict.update.loop"=some Builtin.«dict.update.loop» :=entryFor_of_tree (by kernel_rfl)
theorem zF3:plainId "dict.update.loop"=true:=by decide+kernel
def PrK(prog:Program)(w:World)(h:Heap):List Value->List (Key×Value)->Prop
 |[],[]=>True
 |v::vs,p::ps=>(∃a key,v= .ref a/\IsTup h a #[key,p.2]/\(zBD prog w).is p.1 key=true)/\PrK prog w h vs ps
 |_,_=>False
section
variable{prog:Program}{w:World}{A:Around}{E:Value->Shared->Prop}{s:Shared}
theorem PrK.keep{h h':Heap}{C:Addr->Prop}(k: ∀b o,C b->h.get? b=some o->h'.get? b=some o): ∀{vs:List Value} {ps:List (Key×Value)},(∀a,Value.ref a∈vs->C a)->PrK prog w h vs ps->PrK prog w h' vs ps
 |[],[],_,_=>trivial
 |_::_,_::_,hC,⟨⟨a,key,e,⟨o,ho,r⟩,q⟩,r2⟩=>⟨⟨a,key,e,⟨o,k a o (hC a (by rw[e];exact List.mem_cons_self)) ho,r⟩,q⟩,PrK.keep k (fun a ha=>hC a (List.mem_cons_of_mem _ ha)) r2⟩
 |[],_::_,_,r=>r.elim
 |_::_,[],_,r=>r.elim
theorem zNI{a:Addr}{k v:Value}{Q:List Value->Shared->Prop}(h:IsTup s.heap a #[k,v])(q:Q [k,v] s):wpAny (model prog w) A (Builtin.Dict.pairItems (.ref a)) Q E s:=by
 obtain⟨o,ho,hc,n,hd⟩:=h
 unfold Builtin.Dict.pairItems
 refine(wpAny_bind (wpAny_typeOf (T:= "tuple") ⟨o,ho,hc⟩ ?_))
 rw[if_pos (by decide)]
 exact(wpAny_bind (wpAny_seqItems ho hd (wpAny_pure q)))
theorem yAD{R:Result->Shared->Prop}{I D:Addr}{fp wr:List Addr}{items:Array Value}{St:Nat->Heap->Prop}(W:Walks prog w A.in1 I fp wr items.size (fun i v=>items[i]? =some v) St)(hDf:D∉fp): ∀(vs:List Value) (ps:List (Key×Value)) (j:Nat) (i:Int) (s:Shared) (kvs:List (Key×Value)),items.toList.drop j=vs->j+vs.length=items.size->St j s.heap->s.heap.DictOf (zBD prog w) D kvs->kvs.length+vs.length<=sizeLine->PrK prog w s.heap vs ps->(∀a,Value.ref a∈vs->a∉wr/\a≠D)→
  (∀ g tk,g.DictOf (zBD prog w) D (ps.foldl (fun l p => stored l p.1 p.2) kvs) -> (∀ b o,b ∉ wr -> b ≠ D -> s.heap.get? b = some o -> g.get? b = some o) -> R (.ok (.ret .none)) { s with heap := g,toks := tk }) →
  codeAny (model prog w) A (.builtin "dict.update.loop" ⟨[.ref D,.ref I,rawInt i,.none],[]⟩) R s
 | [],ps,j,i,s,kvs,e,hj,hst,hd,hz,hp,ha,hR => by
  have nDw:D∉wr:=fun z=>hDf (W.sub _ z)
  cases ps with
  | cons p ps => exact hp.elim
  |nil=>
   refine codeAny_builtin zKG (by
    rw[Around.under_plainId zF3 _]
    show(wpAny _ A.in1 (pyNext (.ref I)>>=_) _ _ s)
    refine(wpAny_bind (W.done s _ _ (by rw[show items.size=j by simpa using hj.symm];exact hst) fun g tk kept=> ?_))
    show(wpAny _ A.in1 (Builtin.Dict.addKeywords D []>>=_) _ _ _)
    refine(wpAny_bind (wpAny_pure (wpAny_pure ?_)))
    obtain⟨o,es,ep,ho,r⟩:=hd
    exact hR g tk ⟨o,es,ep,kept _ _ nDw ho,r⟩ fun b o z1 _ e=>kept b o z1 e)
 | v :: vs,ps,j,i,s,kvs,e,hj,hst,hd,hz,hp,ha,hR => by
  have nDw:D∉wr:=fun z=>hDf (W.sub _ z)
  cases ps with
  | nil => exact hp.elim
  |cons p ps=>
   obtain⟨⟨a,key,rfl,ht,hk⟩,hp⟩:=hp
   obtain⟨na,nD⟩:=ha a List.mem_cons_self
   simp only[List.length_cons] at hj hz
   have ei:items[j]? =some (.ref a):=by
    have:=congrArg (fun l=>l[0]?) e
    simpa using this
   have ed:items.toList.drop (j+1)=vs:=by
    have:=congrArg List.tail e
    simpa using this
   refine codeAny_builtin zKG (by
    rw[Around.under_plainId zF3 _]
    show(wpAny _ A.in1 (pyNext (.ref I)>>=_) _ _ s)
    refine(wpAny_bind (W.item j s _ _ (by omega) hst fun v g tk pv ng kept=> ?_))
    obtain rfl:v= .ref a:=by rw[ei] at pv;cases pv;rfl
    obtain⟨o,ho,r⟩:=ht
    obtain⟨o2,es,ep,ho2,r2⟩:=hd
    refine(wpAny_bind (wpAny_holding (wpAny_bind (wpAny_tryCatch (zNI (s:={s with heap:=g,toks:=tk}) ⟨o,kept _ _ na ho,r⟩ ?_)))))
    refine(wpAny_holding (wpAny_dictSet_pairs (s:={s with heap:=g,toks:=tk}) (kvs:=kvs) hk ⟨o2,es,ep,kept _ _ nDw ho2,r2⟩ (fun g2 hd2 hs2=> ?_) (by omega)))
    have gp: ∀b o,b∉wr->b≠D->s.heap.get? b=some o->g2.get? b=some o:=fun b o z1 z2 e=>(hs2.2 b z2).trans (kept b o z1 e)
    refine(wpAny_pure ⟨plainId_quiet zF3 _,yAD W hDf vs ps (j+1) (i+1) _ (stored kvs p.1 p.2) ed (by omega) (W.frame _ _ _ ng fun b hb o e=>(hs2.2 b (fun z=>hDf (by rw[<- z];exact hb))).trans e) hd2 ?_ (PrK.keep (C:=fun b=>b∉wr/\b≠D) (fun b o hb e=>gp b o hb.1 hb.2 e) (fun a h=>ha a (List.mem_cons_of_mem _ h)) hp) (fun a h=>ha a (List.mem_cons_of_mem _ h)) ?_⟩)
    ·have:=stored_length_le kvs p.1 p.2
     omega
    ·exact fun g3 tk3 hd3 lg=>hR g3 tk3 hd3 fun b o z1 z2 e=>lg b o z1 z2 (gp b o z1 z2 e))
end
section
variable{prog:Program}{w:World}{A:Around}{E:Value->Shared->Prop}{s:Shared}
theorem zNR{l:Addr}{vs:List Value}{ps:List (Key×Value)}{Q:Value->Shared->Prop}(hh:A.handled=none)(pl:PlainL s.heap l vs.toArray)(hz:vs.length<=sizeLine)(hp:PrK prog w s.heap vs ps)
  (h : ∀ g tk,g.DictOf (zBD prog w) s.heap.objs.size (ps.foldl (fun l p => stored l p.1 p.2) []) -> (∀ b o,s.heap.get? b = some o -> g.get? b = some o) -> Q (.ref s.heap.objs.size) { s with heap := g,toks := tk }) :
  wpAny (model prog w) A (call (.type "dict") [.ref l]) Q E s:=by
 refine(callType_codes (Q₁:=fun obj s₁=>obj= .ref s.heap.objs.size/\s₁={s with heap:=s.heap.push {cls:= .type "dict",data:= .dict #[]}}) F.kt_called_dict (F.kt_typeCall_dict_1 _) F.entry_dict_init (kt_code_dict_new _ ⟨rfl,rfl⟩) ?_)
 rintro obj s₁ ⟨rfl,rfl⟩
 have cr:(s.heap.push {cls:= .type "dict",data:= .dict #[]}).DictOf (zBD prog w) s.heap.objs.size []:=Heap.DictOf.new s.heap
 obtain⟨o,n,ho,hc,hd,c8⟩:=pl
 have ho':(s.heap.push {cls:= .type "dict",data:= .dict #[]}).get? l=some o:=Heap.get?_push_of_some _ ho
 refine⟨cr.typeIs,F.args_dict_init_2 _ _,?_⟩
 unfold Builtin.«dict.__init__»
 refine(wpAny_bind ?_)
 unfold Builtin.Dict.selfAndRest
 refine(wpAny_bind (wpAny_notOrdered_dict cr.typeIs ?_))
 show(wpAny _ _ (pure (s.heap.objs.size,[Value.ref l])) _ _ _)
 refine(wpAny_pure ?_)
 show(wpAny _ _ (Builtin.Dict.updateFrom "dict.__init__" s.heap.objs.size (.ref l) [] .none) _ _ _)
 unfold Builtin.Dict.updateFrom
 refine(wpAny_bind (wpAny_typeOf (T:= "list") ⟨o,ho',hc⟩ ?_))
 rw [if_pos (by decide)]
 refine(wpAny_bind (zQ1 ho' hc c8 hd (by simp[hh]) fun g1 tk1 k1=> ?_))
 simp only[Option.isNone_none,if_true]
 refine(wpAny_bind (wpAny_rule ?_))
 have o1:g1.get? l=some o:=k1 _ _ ho'
 have od:g1.get? s.heap.objs.size=some {cls:= .type "dict",data:= .dict #[]}:=k1 _ _ (Heap.get?_push_size _ rfl)
 have lts:s.heap.objs.size<g1.objs.size:=Heap.lt_size od
 have ltl:l<s.heap.objs.size:=Heap.lt_size ho
 have hl1:g1.IsList l vs.toArray:=⟨o,o1,hc,n,c8⟩
 have kn: ∀b ob,s.heap.get? b=some ob->g1.get? b=some ob:=fun b ob q=>k1 b ob (Heap.get?_push_of_some _ q)
 have ne1: ∀b ob,s.heap.get? b=some ob->b∉[g1.objs.size]/\b≠s.heap.objs.size:=fun b ob q=>by
  have:=Heap.lt_size q
  exact⟨fun z=>by rw[List.mem_singleton.mp z] at this;exact absurd (Nat.lt_trans this lts) (Nat.lt_irrefl _),fun z=>by rw[z] at this;exact Nat.lt_irrefl _ this⟩
 have hin: ∀{vs:List Value} {ps:List (Key×Value)},PrK prog w s.heap vs ps-> ∀a,Value.ref a∈vs-> ∃ob,s.heap.get? a=some ob:=by
  intro vs
  induction vs with
  | nil => intro ps _ a ha;cases ha
  |cons v vs ih=>
   intro ps hp a ha
   cases ps with
   | nil => exact hp.elim
   |cons p ps=>
    rcases List.mem_cons.mp ha with e|ha
    ·obtain⟨⟨b,key,e2,⟨ob,hob,_⟩,_⟩,_⟩:=hp
     rw[e2] at e
     cases e
     exact⟨ob,hob⟩
    ·exact ih hp.2 a ha
 refine(wpAny_bind (wpAny_pyIter_list (s:={s with heap:=g1,toks:=tk1}) hl1 ?_))
 have W:=Walks.list (prog:=prog) (w:=w) (A:=A.in1.in1) (by simp[hh]) g1.objs.size l (Nat.ne_of_lt (Nat.lt_trans ltl lts)) vs.toArray
 refine(wpAny_pure ⟨plainId_quiet zF3 _,yAD (A:=A.in1) W (fun z=> ?_) vs ps 0 0 _ [] (by simp) (by simp) ⟨⟨_,Heap.get?_push_size _ rfl,rfl,rfl⟩,hl1.push _⟩ ?_ (by simpa using hz) (PrK.keep (C:=fun _=>True) (fun b ob _ q=>Heap.get?_push_of_some _ (kn b ob q)) (fun _ _=>trivial) hp) (fun a ha=> ?_) fun g tk hdd kept=>⟨rfl,h g tk hdd fun b ob q=> ?_⟩⟩)
 ·rcases List.mem_cons.mp z with z|z
  ·exact absurd lts (by rw [<- z];exact Nat.lt_irrefl _)
  ·rw[<- List.mem_singleton.mp z] at ltl
   exact Nat.lt_irrefl _ ltl
 ·obtain⟨o2,es,ep,ho2,r2⟩:=cr
  exact⟨o2,es,ep,Heap.get?_push_of_some _ (k1 _ _ ho2),r2⟩
 ·obtain⟨ob,hob⟩:=hin hp a ha
  exact ne1 a ob hob
 ·exact kept b ob (ne1 b ob q).1 (ne1 b ob q).2 (Heap.get?_push_of_some _ (kn b ob q))
end
variable{X:Cx}{K:W.Frag}{H:Hp}{σ:St}{s:Shared}{a6:List (Addr×Obj)}{ml:List Nat}{pa ta ia:Bool}{fa:VF}{a:Expr}{p' pos:Pos}
noncomputable def kprD:Dat->Option (Key×Dat)
 | .tup [k,v]=>(keyD k).map fun kk=>(kk,v)
 |_=>none
noncomputable def zH7:List Dat->Option (List (Key×Dat))
 |[]=>some []
 |d::ds=>(kprD d).bind fun p=>(zH7 ds).map fun ps=>p::ps
def PrKV(K:W.Frag)(H:Hp):List V->List (Key×V)->Prop
 |[],[]=>True
 |v::vs,p::ps=>(∃a,v= .ref a/\SqT K H a [kV p.1,p.2])/\PrKV K H vs ps
 |_,_=>False
theorem zVQ{d:Dat}{p:Key×Dat}(h:kprD d=some p): ∃k,d= .tup [k,p.2]/\keyD k=some p.1:=by
 unfold kprD at h
 split at h
 ·rename_i k v
  cases e:keyD k with
  |none=>rw[e] at h;cases h
  |some kk=>rw[e] at h;cases h;exact⟨k,rfl,e⟩
 ·cases h
theorem zMR{N:Addr->Prop}: ∀{xs:List V} {ds:List Dat} {kds:List (Key×Dat)},RepA K N H xs ds->zH7 ds=some kds-> ∃kvs:List (Key×V),PrKV K H xs kvs/\kvs.map Prod.fst=kds.map Prod.fst/\RepA K N H (kvs.map Prod.snd) (kds.map Prod.snd)
 | _,_,_,.nil,h => by cases h;exact ⟨[],trivial,rfl,.nil⟩
 | _,_,kds,@RepA.cons _ _ _ v vs d ds h t,e => by
  have e : (kprD d).bind (fun p => (zH7 ds).map fun ps => p :: ps) = some kds := e
  cases h1:kprD d with
  | none => rw [h1] at e;cases e
  |some p=>
   rw[h1] at e
   have e:(zH7 ds).map (fun ps=>p::ps)=some kds:=e
   cases h2:zH7 ds with
   | none => rw [h2] at e;cases e
   |some qs=>
    rw[h2] at e
    cases e
    obtain⟨kvs,r1,r2,r3⟩:=zMR t h2
    obtain⟨k,rfl,hk⟩:=zVQ h1
    cases h with
    |tup sq r=>
     cases r with
     |cons w1 r=>
      cases r with
      |cons w2 r=>
       cases r
       have ek:=w1.key hk
       subst ek
       exact⟨(p.1,_)::kvs,⟨⟨_,rfl,sq⟩,r1⟩,by simp[r2],.cons w2 r3⟩
theorem PrKV.prK(I:Inv X a6 σ H s): ∀{xs:List V} {us:List Value} {kvs:List (Key×V)},PrKV X.K H xs kvs->Vals xs us-> ∃ps:List (Key×Value),KV kvs ps/\PrK X.prog X.w s.heap us ps
 | [],_,[],_,.nil => ⟨[],.nil,trivial⟩
 | _ :: _,_,p :: _,⟨⟨b,e,q⟩,r⟩,.cons h t => by
  subst e
  cases h
  obtain⟨ps,r1,r2⟩:=PrKV.prK I r t
  obtain⟨its,rv,ht,_⟩:=I.tuple q
  cases rv with
  |cons w1 rv=>
   cases rv with
   |cons w2 rv=>
    cases rv
    exact⟨(p.1,_)::ps,.cons ⟨rfl,w2⟩ r1,⟨b,_,rfl,ht,zNO w1⟩,r2⟩
 |[],_,_::_,h,_=>h.elim
 |_::_,_,[],h,_=>h.elim
theorem PrKV.len: ∀{xs:List V} {ps:List (Key×V)},PrKV K H xs ps->xs.length=ps.length
 |[],[],_=>rfl
 |_::_,_::_,r=>by simp[PrKV.len r.2]
 |[],_::_,r=>r.elim
 |_::_,[],r=>r.elim
def zTF(K:W.Frag):RC:=fun xs H Q=> ∃(p:Addr) (ys:List V) (kvs:List (Key×V)),xs=[.ref p]/\SqL K H p ys/\PrKV K H ys kvs/\(kvs.map Prod.fst).Nodup/\ ∀l:Addr,H l=none->Q (.ref l) (upd H l (.dK kvs))
theorem yA1(h:X.K=K)(hc:X.calm=true):zC7 X (.type "dict") (zTF K):=by
 subst h
 intro a6 s σ H xs us Q I r h
 obtain⟨p,ys,kvs,rfl,hq,hp,nd,q⟩:=h
 obtain⟨u,rfl,rx⟩:=zHO r
 cases rx
 obtain⟨its,rv,pl,hz⟩:=I.list hq
 have aa:=rv.length
 have hpl:=hp.len
 obtain⟨ps,r1,r2⟩:=hp.prK I rv
 refine zNR (I.ok.hd hc) pl (by omega) r2 fun g tk hd kept=> ?_
 have hm:zK3 [] kvs=kvs:=zK2 (acc:=[]) (by simpa using nd)
 have rel:=KV.merge r1 (kvs:=[]) (vs:=[]) .nil
 rw[hm] at rel
 exact⟨.ref s.heap.objs.size,_,I.laid (a:=s.heap.objs.size) (o:= .dK kvs) (t':=tk) kept (Nat.le_refl _) (zTW (by omega) (beq_eq_false_iff_ne.mpr (Ne.symm (Nat.ne_of_lt I.big))) rel hd),rfl,q _ (I.hok.fresh (Nat.le_refl _))⟩
noncomputable def zSE:Dat->Option Dat
 | .lst ds=>(zH7 ds).bind fun kds=>if(kds.map Prod.fst).Nodup then some (.dct (kds.map Prod.fst) (kds.map Prod.snd)) else none
 |_=>none
def CalD(K:W.Frag)(r:RC)(o:Dat->Option Dat):Prop:= ∀(H:Hp) (N M:Addr->Prop) (x:V) (d c:Dat) (Q:VK),Rep K N H M x d->o d=some c→
 (∀p (kvs:List (Key×V)) ds,H p=none->RepA K N H (kvs.map Prod.snd) ds->c= .dct (kvs.map Prod.fst) ds->Q (.ref p) (upd H p (.dK kvs)))->r [x] H Q
theorem zVL:CalD K (zTF K) zSE:=by
 intro H N M x d c Q hx h k
 cases d with
 |lst ds=>
  have h:((zH7 ds).bind fun kds=>if(kds.map Prod.fst).Nodup then some (Dat.dct (kds.map Prod.fst) (kds.map Prod.snd)) else none)=some c:=h
  cases h1:zH7 ds with
  | none => rw [h1] at h;cases h
  |some kds=>
   rw[h1] at h
   have h:(if(kds.map Prod.fst).Nodup then some (Dat.dct (kds.map Prod.fst) (kds.map Prod.snd)) else none)=some c:=h
   split at h
   ·rename_i nd
    cases h
    obtain⟨a,xs,rfl,sq,r⟩:=hx.lstE
    obtain⟨kvs,r1,r2,r3⟩:=zMR r h1
    exact⟨a,xs,kvs,rfl,sq,r1,by rw[r2];exact nd,fun l hl'=>k l kvs _ hl' r3 (by rw[r2])⟩
   ·cases h
 |_=>cases h
theorem mkDK{B:Bs}{O:Nat->Option Addr}{H1:Hp}{δ':Ev}{p:Addr}{pu:Bool}{kvs:List (Key×V)}{ds:List Dat}(S:Sta K ml B O H1 σ δ')(f:Fr (OA O) H H1)(s:pu=true->Same H H1)(hp:H1 p=none)(r:RepA K (Nn B O) H1 (kvs.map Prod.snd) ds):ResN K ml B O H σ pu (upd H1 p (.dK kvs)) δ' p (.dct (kvs.map Prod.fst) ds):=
 ⟨S.laid hp,f.trans (zA4 hp).fr,fun z=>(s z).trans (zA4 hp),.dct zAK ((r.away hp _ _ zE2).same (zA4 hp)),S.new hp,S.fresh hp⟩
theorem zO1(hK:X.K=K)(hc:X.calm=true)(hg:Gl X "dict") (hm:X.mg "dict"=none) (hv:bootBuiltins "dict"=some (.type "dict")) (ha:PE X a (TV K ml pa ta true fa)) (hn:("dict":Str)≠ "__name__":=by decide) (hdb:(("dict":Str)==("__debug__":Str))=false:=by decide)
  (he:starEach (a::[]) X.env=(false,eval a X.env)::starEach [] X.env:=by rfl):PE X (.Call (.Name "dict" p') [a] [] pos) (TN K ml pa (f1 zSE fa)):=
 (zDJ (yA1 hK hc) hg hm hv (zAQ ha zC1 he) hn hdb he).imp fun σ H Q h => by
  obtain⟨B,O,δ,d,δ',S,q,k⟩:=h
  obtain⟨x,h1,h2⟩:=zKE q
  refine⟨B,O,δ,x,δ',S,h1,fun v1 H1 R1=>zVL H1 _ _ v1 x d Q R1.rep h2 fun p kvs ds hp hr he=> ?_⟩
  subst he
  exact k p _ (mkDK R1.sta R1.frm R1.pur hp hr)
section
variable{X:Cx}{K:W.Frag}{ml:List Nat}{e a b c:Expr}{es:List Expr}{pa ta ia pb tb ib pc tc ic pu bt bi ps bs:Bool}{fa fb fc f:VF}{B B':Bs}{O:Nat->Option Addr}{H H1 H':Hp}{σ:St}{δ δ':Ev}{v:V}{d:Dat}{p:Addr}{pos:Pos}
noncomputable def lstD(i:Nat)(F:VFun):VFun:=fun ds=>(ds[i]?).bind fun x=>(seqD x).bind fun es=>(F (ds.take i++[.lst es])).map fun q=>(q.1,q.2.dropLast)
theorem zUJ{mF:List Nat}{i:Nat}{F:VFun}{vs1:List V}{Q:VK}{E:XK}(hm: ∀j∈mF,j<i)(h:spV K mF (i+1) (lstD i F) (vs1++[v]) H Q E):zMA K [v] H (fun u H2=>spV K (mF++[i]) (i+1) F (vs1++[u]) H2 Q E):=by
 obtain⟨Z,ds,r,os,hl,A,hF,k⟩:=h
 obtain⟨ds1,d,rfl⟩: ∃ds1 d,ds=ds1++[d]:=⟨ds.dropLast,ds.getLast (fun z=>by rw[z] at hl;cases hl),(List.dropLast_concat_getLast _).symm⟩
 have hd1:ds1.length=i:=by simpa using hl
 have hv1:vs1.length=i:=by have:=A.len;simp at this;omega
 have at3:(vs1++[v])[i]? =some v:=by rw[List.getElem?_append_right (by omega),hv1,Nat.sub_self];rfl
 have dt3:(ds1++[d])[i]? =some d:=by rw[List.getElem?_append_right (by omega),hd1,Nat.sub_self];rfl
 unfold lstD at hF
 rw[dt3,Option.bind_some,List.take_left' hd1] at hF
 cases hs:seqD d with
 | none => rw [hs] at hF;cases hF
 |some es=>
 rw[hs,Option.bind_some] at hF
 cases h0:F (ds1++[.lst es]) with
 | none => rw [h0] at hF;cases hF
 |some z=>
  obtain⟨r',os0⟩:=z
  rw[h0] at hF
  cases hF
  obtain⟨u0,e0,mh⟩:=A.va i d (fun z=>absurd (hm i z) (Nat.lt_irrefl _)) dt3
  rw[at3] at e0
  cases e0
  obtain⟨a0,xs,rfl,sq,rA⟩:=mh.seq hs
  refine⟨a0,xs,rfl,sq,fun p hp=> ?_⟩
  have lo: ∀(j:Nat),j<i->(vs1++[.ref p])[j]? =(vs1++[V.ref a0])[j]? :=fun j hj=>by rw[List.getElem?_append_left (by omega),List.getElem?_append_left (by omega)]
  have at1:(vs1++[.ref p])[i]? =some (.ref p):=by rw[List.getElem?_append_right (by omega),hv1,Nat.sub_self];rfl
  have dlo: ∀(j:Nat),j<i->(ds1++[.lst es])[j]? =(ds1++[d])[j]? :=fun j hj=>by rw[List.getElem?_append_left (by omega),List.getElem?_append_left (by omega)]
  have dt1:(ds1++[.lst es])[i]? =some (.lst es):=by rw[List.getElem?_append_right (by omega),hd1,Nat.sub_self];rfl
  have hP: ∀a,argP (mF++[i]) (vs1++[.ref p]) a->argP mF (vs1++[.ref a0]) a∨a=p:=fun a q0=>by
   obtain⟨j,hj,e⟩:=q0
   rcases List.mem_append.mp hj with hj|hj
   ·exact .inl ⟨j,hj,by rw [<- lo j (hm j hj)];exact e⟩
   ·rw[List.mem_singleton.mp hj,at1] at e
    cases e
    exact .inr rfl
  have hP': ∀a,argP mF (vs1++[.ref a0]) a->argP (mF++[i]) (vs1++[.ref p]) a:=fun a ⟨j,hj,e⟩=>⟨j,List.mem_append_left _ hj,by rw[lo j (hm j hj)];exact e⟩
  have hZ: ∀a,Zp Z (mF++[i]) (vs1++[.ref p]) a->Zp Z mF (vs1++[.ref a0]) a∨a=p:=fun a h=>by
   rcases h with h|h
   ·exact .inl (.inl h)
   ·exact(hP a h).imp .inr id
  have hZ': ∀a,Zp Z mF (vs1++[.ref a0]) a->Zp Z (mF++[i]) (vs1++[.ref p]) a:=fun a h=>h.imp id (hP' a)
  have up: ∀{u:V} {x:Dat},Rep K (Zp Z mF (vs1++[.ref a0])) H (Zp Z mF (vs1++[.ref a0])) u x->Rep K (Zp Z (mF++[i]) (vs1++[.ref p])) (upd H p (.lst xs)) (Zp Z (mF++[i]) (vs1++[.ref p])) u x:=fun r=>(r.away hp _ _ hZ hZ).same (zA4 hp)
  have nop: ∀{j:Nat},j∈mF->(vs1++[V.ref a0])[j]? ≠some (.ref p):=fun{j} hj e=>by
   have hj':=A.mem j hj
   obtain⟨a,e1,w,_⟩:=A.ow j ((ds1++[d])[j]'hj') hj (by simp)
   rw[e] at e1
   cases e1
   obtain⟨o,q,_⟩:=w.soft
   rw[hp] at q
   cases q
  refine⟨Z,ds1++[.lst es],_,os0,by simp[hd1],⟨by simp;omega,fun j hj=> ?_,fun j x hj e=> ?_,fun j x hj e=> ?_,fun j1 j2 a h1 h2 e1 e2=> ?_,fun a h=>let ⟨o,q⟩:=A.zin a h;⟨o,zA4 hp _ _ q⟩⟩,h0,fun u H' f w rr=>k u H' (fun b o hb hc=>f b o (zA4 hp _ _ hb) fun z=> ?_) (fun kk j a o e1 e2 e3=> ?_) (rr.mono hZ' hZ')⟩
  ·rcases List.mem_append.mp hj with hj|hj
   ·have:=hm j hj
    simp
    omega
   ·rw[List.mem_singleton.mp hj]
    simp
    omega
  ·have hjm : j ∉ mF := fun z => hj (List.mem_append_left _ z)
   have hji:j≠i:=fun z=>hj (List.mem_append_right _ (List.mem_singleton.mpr z))
   have h1:j<i:=by
    have:=(List.getElem?_eq_some_iff.mp e).1
    simp at this
    omega
   rw[dlo j h1] at e
   obtain⟨u,e1,r1⟩:=A.va j x hjm e
   exact⟨u,by rw[lo j h1];exact e1,up r1⟩
  ·rcases List.mem_append.mp hj with hj|hj
   ·rw[dlo j (hm j hj)] at e
    obtain⟨u,e1,w1,z1⟩:=A.ow j x hj e
    exact⟨u,by rw[lo j (hm j hj)];exact e1,w1.away hp hZ,z1⟩
   ·have:=List.mem_singleton.mp hj
    subst this
    rw[dt1] at e
    cases e
    exact⟨p,at1,.lst zAK ((rA.away hp _ _ hZ).same (zA4 hp)),fun z=>by
     obtain⟨o,q⟩:=A.zin p z
     rw[hp] at q
     cases q⟩
  ·rcases List.mem_append.mp h1 with h1|h1
   ·rw[lo j1 (hm j1 h1)] at e1
    rcases List.mem_append.mp h2 with h2|h2
    ·rw[lo j2 (hm j2 h2)] at e2
     exact A.inj j1 j2 a h1 h2 e1 e2
    ·rw[List.mem_singleton.mp h2,at1] at e2
     cases e2
     exact absurd e1 (nop h1)
   ·rcases List.mem_append.mp h2 with h2|h2
    ·rw[lo j2 (hm j2 h2)] at e2
     rw[List.mem_singleton.mp h1,at1] at e1
     cases e1
     exact absurd e2 (nop h2)
    ·rw[List.mem_singleton.mp h1,List.mem_singleton.mp h2]
  ·rcases hP b z with z|z
   ·exact hc z
   ·rw[z,hp] at hb
    cases hb
  ·refine(w kk j a o ?_ ?_ ?_).mono hZ'
   ·rw[List.getElem?_append_left (List.getElem?_eq_some_iff.mp e1).1]
    exact e1
   ·rw[lo j (hm j (List.mem_of_getElem? e1))]
    exact e2
   ·rw[List.getElem?_dropLast] at e3
    split at e3
    ·exact e3
    ·cases e3
def TAGL(K:W.Frag)(ml:List Nat)(pu:Bool)(f:VFg):TA:=fun σ H Q=> ∃B O δ as δ',Sta K ml B O H σ δ/\f δ=some (as,δ')/\ ∀vs H',ResG K ml B O H σ pu H' δ' vs as-> ∀vs1 v,vs=vs1++[v]->zMA K [v] H' fun u H2=>Q (vs1++[u]) H2
theorem zUB{lp:Pos}{a8:Pos}(hK:X.K=K)(hg:Gl X "list") (hm:X.mg "list"=none) (hv:bootBuiltins "list"=some (.type "list")) (ha:PE X a (TV K ml pa true true fa)) (he:starEach (a::[]) X.env=(false,eval a X.env)::starEach [] X.env:=by rfl)
  (hs:starEach (.Call (.Name "list" lp) [a] [] a8::[]) X.env=(false,eval (.Call (.Name "list" lp) [a] [] a8) X.env)::starEach [] X.env:=by rfl):
  PA X [.Call (.Name "list" lp) [a] [] a8] (TAGL K ml pa (aE fa aNil)):=(zAQ (zDJ (zMT hK) hg hm hv (zAQ ha zC1 he) (by decide) (by decide) he) zC1 hs).imp fun σ H Q ⟨B,O,δ,as,δ2,S,q,k⟩=>by
 unfold aE at q
 cases h1:fa δ with
 |none=>rw[h1] at q;cases q
 |some z=>
  obtain⟨x,δ1⟩:=z
  rw[h1] at q
  cases q
  exact⟨B,O,δ,x,δ1,S,h1,fun v1 H1 R1=>k [v1] H1 ⟨R1.sta,R1.frm,R1.pur,.d R1.rep .nil⟩ [] v1 rfl⟩
theorem yB4{fs:VFg}(ha:PE X a (TV K ml pa true true fa))(hr:PA X es (TAGL K ml ps fs))(hs:starEach (a::es) X.env=(false,eval a X.env)::starEach es X.env:=by rfl):PA X (a::es) (TAGL K ml (pa && ps) (aE fa fs)):=(zAQ ha hr hs).imp fun σ H Q q0=>by
 obtain⟨B,O,δ,as,δ2,S,q,k⟩:=q0
 unfold aE at q
 cases h1:fa δ with
 | none => rw [h1] at q;cases q
 |some p=>
  obtain⟨x,δ1⟩:=p
  rw[h1] at q
  have q:((fs δ1).map fun q=>(AV.d x::q.1,q.2))=some (as,δ2):=q
  cases h2:fs δ1 with
  |none=>rw[h2] at q;cases q
  |some p2=>
   rw[h2] at q
   cases q
   refine⟨B,O,δ,x,δ1,S,h1,fun v1 H1 R1=>⟨B,O,δ1,_,_,R1.sta,h2,fun vs H2 R2 vs1 v hv=>k (v1::vs) H2 ⟨R2.sta,R1.frm.trans R2.frm,fun z=> ?_,.d (R1.rep.fr R2.frm (fun a z=> .inr z) fun a z=> .inr z) R2.rep⟩ (v1::vs1) v (by rw[hv];rfl)⟩⟩
   obtain⟨z1,z2⟩:=(Bool.and_eq_true _ _).mp z
   exact(R1.pur z1).trans (R2.pur z2)
theorem zRC{x:Str}{kk j i:Nat}{qs:List Str}{mF:List Nat}{F:VFun}{ff:Addr}{p':Pos}{fs:VFg}(hK:X.K=K)(D:Def X.prog X.w K X.mg X.base x kk qs (spV K (mF++[i]) (i+1) F) ff)(hm: ∀j∈mF,j<i)(hr:Room j X.A)(hk:kk<=j)(hg:Gl X x)(ha:PA X (e::es) (TAGL K ml ps fs))(hdb:(x==("__debug__":Str))=false:=by decide)
  (he:starEach (e::es) X.env=(false,eval e X.env)::starEach es X.env:=by rfl) (hpl:(backTo pos (starEach es X.env)).any (·.1)=false:=by rfl):
  PE X (.Call (.Name x p') (e::es) [] pos) (TV K ml (ps && mF.isEmpty) true true (zAG (i+1) mF (lstD i F) fs)):=by
 subst hK
 refine(zMG D hr hk hg ha hdb he hpl).imp fun σ H Q h=> ?_
 obtain⟨B,O,δ,as,δ',S,q,k⟩:=zIK h
 refine⟨B,O,δ,as,δ',S,q,fun vs H' R vs1 v hv=> ?_⟩
 subst hv
 have z:spV X.K mF (i+1) (lstD i F) ((vs1++[v])++[]) H' Q E0:=k _ H' R
 rw[List.append_nil] at z
 have y:=zUJ hm z
 simpa only[List.append_nil] using y
end
end L2
namespace L2
open PySem
section
variable{α β:Type}{d x y z c:Dat}{δ δ1 δ':Ev}{fa fb fc:VF}{o o':Dat->Dat->Option Dat}{i j k n:Nat}{s:Sl}{b:Bool}{ds:List Dat}
noncomputable def q0(r:Option α)(δ:Ev):Option (α×Ev):=r.map fun c=>(c,δ)
@[simp] theorem q0_s{a:α}:q0 (some a) δ=some (a,δ):=rfl
@[simp] theorem fC_e:fC d δ=some (d,δ):=rfl
noncomputable def qV:Option Sl->Ev->Option (Dat×Ev)
 |some (.va d),δ=>some (d,δ)
 |_,_=>none
noncomputable def qO:Option Sl->Ev->Option (Dat×Ev)
 |some (.va d),δ=>some (d,δ)
 |some (.ow d),δ=>some (d,δ)
 |_,_=>none
@[simp] theorem fV_e:fV i δ=qV δ[i]? δ:=by unfold fV qV;split<;>simp_all
@[simp] theorem fO_e:fO i δ=qO δ[i]? δ:=by unfold fO qO;split<;>simp_all
@[simp] theorem qV_s:qV (some (.va d)) δ=some (d,δ):=rfl
@[simp] theorem qO_v:qO (some (.va d)) δ=some (d,δ):=rfl
@[simp] theorem qO_o:qO (some (.ow d)) δ=some (d,δ):=rfl
noncomputable def q1(o:Dat->Option Dat)(r:Option (Dat×Ev)):Option (Dat×Ev):=r.bind fun p=>q0 (o p.1) p.2
@[simp] theorem f1_e{o:Dat->Option Dat}:f1 o fa δ=q1 o (fa δ):=rfl
@[simp] theorem q1_s{o:Dat->Option Dat}:q1 o (some (x,δ))=q0 (o x) δ:=rfl
noncomputable def q2(o:Dat->Dat->Option Dat)(r:Option (Dat×Ev))(fb:VF):Option (Dat×Ev):=r.bind fun p=>(fb p.2).bind fun q=>q0 (o p.1 q.1) q.2
noncomputable def q2b(o:Dat->Dat->Option Dat)(x:Dat)(r:Option (Dat×Ev)):Option (Dat×Ev):=r.bind fun q=>q0 (o x q.1) q.2
@[simp] theorem f2_e:f2 o fa fb δ=q2 o (fa δ) fb:=rfl
@[simp] theorem q2_s:q2 o (some (x,δ)) fb=q2b o x (fb δ):=rfl
@[simp] theorem yHZ:q2b o x (some (y,δ))=q0 (o x y) δ:=rfl
noncomputable def q3(o o':Dat->Dat->Option Dat)(r:Option (Dat×Ev))(fb fc:VF):Option (Dat×Ev):=r.bind fun p=>(fb p.2).bind fun q=>(o p.1 q.1).bind fun z=>match z with
 | .bl true=>(fc q.2).bind fun s=>(o' q.1 s.1).map fun u=>(u,s.2)
 | .bl false=>some (.bl false,q.2)
 |_=>none
noncomputable def q3b(o o':Dat->Dat->Option Dat)(x:Dat)(r:Option (Dat×Ev))(fc:VF):Option (Dat×Ev):=q3 o o' (some (x,[])) (fun _=>r) fc
noncomputable def q3c(o':Dat->Dat->Option Dat)(y:Dat)(δ:Ev)(fc:VF):Option Dat->Option (Dat×Ev)
 |some (.bl true)=>q2b o' y (fc δ)
 |some (.bl false)=>some (.bl false,δ)
 |_=>none
@[simp] theorem f3_e:f3 o o' fa fb fc δ=q3 o o' (fa δ) fb fc:=rfl
@[simp] theorem q3_s:q3 o o' (some (x,δ)) fb fc=q3b o o' x (fb δ) fc:=rfl
@[simp] theorem yHY:q3b o o' x (some (y,δ)) fc=q3c o' y δ fc (o x y):=by
 simp only[q3b,q3,Option.bind_some]
 cases o x y with
 |none=>rfl
 |some z=>cases z with
  |bl b=>cases b<;>rfl
  |_=>rfl
@[simp] theorem yHW:q3c o' y δ fc (some (.bl true))=q2b o' y (fc δ):=rfl
@[simp] theorem yHX:q3c o' y δ fc (some (.bl false))=some (.bl false,δ):=rfl
noncomputable def qc(r:Option (Dat×Ev))(fs:VFs):Option (List Dat×Ev):=r.bind fun p=>(fs p.2).map fun q=>(p.1::q.1,q.2)
noncomputable def qcb(x:Dat)(r:Option (List Dat×Ev)):Option (List Dat×Ev):=r.map fun q=>(x::q.1,q.2)
@[simp] theorem yGM:fNil δ=some ([],δ):=rfl
@[simp] theorem yE0{fs:VFs}:zA6 fa fs δ=qc (fa δ) fs:=rfl
@[simp] theorem qc_s{fs:VFs}:qc (some (x,δ)) fs=qcb x (fs δ):=rfl
@[simp] theorem yHE:qcb x (some (ds,δ))=some (x::ds,δ):=rfl
noncomputable def qT(g:List Dat->Dat)(r:Option (List Dat×Ev)):Option (Dat×Ev):=r.bind fun p=>if p.1.length<=16777216 then some (g p.1,p.2) else none
@[simp] theorem yGL{fs:VFs}:fTup fs δ=qT .tup (fs δ):=rfl
@[simp] theorem yGN{fs:VFs}:fLst fs δ=qT .lst (fs δ):=rfl
@[simp] theorem qT_s{g:List Dat->Dat}:qT g (some (ds,δ))=if ds.length<=16777216 then some (g ds,δ) else none:=rfl
noncomputable def qB:Option (Dat×Ev)->Option (Bool×Ev)
 |some (.bl k,δ)=>some (k,δ)
 |_=>none
@[simp] theorem fB_e:fB fa δ=qB (fa δ):=by
 unfold fB qB
 cases fa δ with
 |none=>rfl
 |some p=>
  obtain⟨d,e⟩:=p
  cases d<;>rfl
@[simp] theorem qB_s:qB (some (.bl b,δ))=some (b,δ):=rfl
variable{tb tb':VB}{g g':VS}
noncomputable def qAnd(r:Option (Bool×Ev))(y:VB):Option (Bool×Ev):=r.bind fun p=>if p.1=true then y p.2 else some (false,p.2)
noncomputable def qOr(r:Option (Bool×Ev))(y:VB):Option (Bool×Ev):=r.bind fun p=>if p.1=true then some (true,p.2) else y p.2
noncomputable def qNot(r:Option (Bool×Ev)):Option (Bool×Ev):=r.map fun p=>(!p.1,p.2)
@[simp] theorem yGW:bAnd tb tb' δ=qAnd (tb δ) tb':=rfl
@[simp] theorem yIH:bOr tb tb' δ=qOr (tb δ) tb':=rfl
@[simp] theorem yGV:bNot tb δ=qNot (tb δ):=rfl
@[simp] theorem zU1:bYes δ=some (true,δ):=rfl
@[simp] theorem yFI:qAnd (some (true,δ)) tb=tb δ:=rfl
@[simp] theorem yFJ:qAnd (some (false,δ)) tb=some (false,δ):=rfl
@[simp] theorem yHJ:qOr (some (true,δ)) tb=some (true,δ):=rfl
@[simp] theorem yHK:qOr (some (false,δ)) tb=tb δ:=rfl
@[simp] theorem yFC:qNot (some (b,δ))=some (!b,δ):=rfl
noncomputable def qA(r:Option (Dat×Ev))(y:VF):Option (Dat×Ev):=r.bind fun p=>match p.1 with
 | .bl true=>y p.2
 | .bl false=>some (.bl false,p.2)
 |_=>none
noncomputable def qR(r:Option (Dat×Ev))(y:VF):Option (Dat×Ev):=r.bind fun p=>match p.1 with
 | .bl false=>y p.2
 | .bl true=>some (.bl true,p.2)
 |_=>none
@[simp] theorem yGO:fAnd fa fb δ=qA (fa δ) fb:=rfl
@[simp] theorem yIF:fOr fa fb δ=qR (fa δ) fb:=rfl
@[simp] theorem qA_t:qA (some (.bl true,δ)) fb=fb δ:=rfl
@[simp] theorem qA_f:qA (some (.bl false,δ)) fb=some (.bl false,δ):=rfl
@[simp] theorem qR_t:qR (some (.bl true,δ)) fb=some (.bl true,δ):=rfl
@[simp] theorem qR_f:qR (some (.bl false,δ)) fb=fb δ:=rfl
noncomputable def qI(r:Option (Bool×Ev))(x y:VF):Option (Dat×Ev):=r.bind fun p=>if p.1=true then x p.2 else y p.2
@[simp] theorem yIG:fIf tb fa fb δ=qI (tb δ) fa fb:=rfl
@[simp] theorem qI_t:qI (some (true,δ)) fa fb=fa δ:=rfl
@[simp] theorem qI_f:qI (some (false,δ)) fa fb=fb δ:=rfl
noncomputable def qS(r:Option Ou)(g:VS):Option Ou:=r.bind fun o=>match o with
 | .nx δ'=>g δ'
 |o=>some o
@[simp] theorem yET:sNil δ=some (.nx δ):=rfl
@[simp] theorem zT6:sSeq g g' δ=qS (g δ) g':=rfl
@[simp] theorem qS_n:qS (some (.nx δ)) g=g δ:=rfl
@[simp] theorem qS_r:qS (some (.rt d δ)) g=some (.rt d δ):=rfl
@[simp] theorem qS_b:qS (some (.bk δ)) g=some (.bk δ):=rfl
@[simp] theorem qS_c:qS (some (.ct δ)) g=some (.ct δ):=rfl
noncomputable def qJ(r:Option (Bool×Ev))(x y:VS):Option Ou:=r.bind fun p=>if p.1=true then x p.2 else y p.2
@[simp] theorem yH1:sIf tb g g' δ=qJ (tb δ) g g':=rfl
@[simp] theorem qJ_t:qJ (some (true,δ)) g g'=g δ:=rfl
@[simp] theorem qJ_f:qJ (some (false,δ)) g g'=g' δ:=rfl
noncomputable def qRet(r:Option (Dat×Ev)):Option Ou:=r.map fun p=> .rt p.1 p.2
noncomputable def zXO(r:Option (Dat×Ev)):Option Ou:=r.map fun p=> .nx p.2
@[simp] theorem yES:sRet fa δ=qRet (fa δ):=rfl
@[simp] theorem yF8:qRet (some (d,δ))=some (.rt d δ):=rfl
@[simp] theorem yBV:zOR fa δ=zXO (fa δ):=rfl
@[simp] theorem yC5:zXO (some (d,δ))=some (.nx δ):=rfl
noncomputable def qx(f:Dat->Sl)(r:Option (Dat×Ev)):Option (Sl×Ev):=r.map fun p=>(f p.1,p.2)
@[simp] theorem xV_e:xV fa δ=qx .va (fa δ):=rfl
@[simp] theorem xO_e:xO fa δ=qx .ow (fa δ):=rfl
@[simp] theorem qx_s{f:Dat->Sl}:qx f (some (d,δ))=some (f d,δ):=rfl
noncomputable def qSet(i:Nat)(r:Option (Sl×Ev)):Option Ou:=r.bind fun p=>if i<p.2.length then some (.nx (p.2.set i p.1)) else none
@[simp] theorem yER{x:VX}:sSet i x δ=qSet i (x δ):=rfl
@[simp] theorem yF5:qSet i (some (s,δ))=if i<δ.length then some (.nx (δ.set i s)) else none:=rfl
noncomputable def qP2(i j:Nat)(r:Option (Sl×Ev))(y:VX):Option Ou:=r.bind fun p=>(y p.2).bind fun q=>if i<q.2.length/\j<q.2.length then some (.nx ((q.2.set j q.1).set i p.1)) else none
noncomputable def qP2b(i j:Nat)(s:Sl)(r:Option (Sl×Ev)):Option Ou:=r.bind fun q=>if i<q.2.length/\j<q.2.length then some (.nx ((q.2.set j q.1).set i s)) else none
@[simp] theorem yBU{x y:VX}:zRS i j x y δ=qP2 i j (x δ) y:=rfl
@[simp] theorem yHI{y:VX}:qP2 i j (some (s,δ)) y=qP2b i j s (y δ):=rfl
@[simp] theorem yFB{s':Sl}:qP2b i j s (some (s',δ))=if i<δ.length/\j<δ.length then some (.nx ((δ.set j s').set i s)) else none:=rfl
noncomputable def qP3(i j k:Nat)(r:Option (Sl×Ev))(y z:VX):Option Ou:=r.bind fun p=>(y p.2).bind fun q=>(z q.2).bind fun r=>if i<r.2.length/\j<r.2.length/\k<r.2.length then some (.nx (((r.2.set k r.1).set j q.1).set i p.1)) else none
noncomputable def qP3b(i j k:Nat)(s:Sl)(r:Option (Sl×Ev))(z:VX):Option Ou:=r.bind fun q=>(z q.2).bind fun r=>if i<r.2.length/\j<r.2.length/\k<r.2.length then some (.nx (((r.2.set k r.1).set j q.1).set i s)) else none
noncomputable def qP3c(i j k:Nat)(s s':Sl)(r:Option (Sl×Ev)):Option Ou:=r.bind fun r=>if i<r.2.length/\j<r.2.length/\k<r.2.length then some (.nx (((r.2.set k r.1).set j s').set i s)) else none
@[simp] theorem yBT{x y z:VX}:zL1 i j k x y z δ=qP3 i j k (x δ) y z:=rfl
@[simp] theorem yHH{y z:VX}:qP3 i j k (some (s,δ)) y z=qP3b i j k s (y δ) z:=rfl
@[simp] theorem yFA{s':Sl}{z:VX}:qP3b i j k s (some (s',δ)) z=qP3c i j k s s' (z δ):=rfl
@[simp] theorem yF9{s' s'':Sl}:qP3c i j k s s' (some (s'',δ))=if i<δ.length/\j<δ.length/\k<δ.length then some (.nx (((δ.set k s'').set j s').set i s)) else none:=rfl
@[simp] theorem gN_e:gN i d δ=some (δ.set i (.va d)):=rfl
noncomputable def qg(r:Option Ev)(gs:VGs)(ds:List Dat):Option Ev:=r.bind fun δ1=>gs ds δ1
@[simp] theorem yDX:zDR [] δ=some δ:=rfl
@[simp] theorem yAX{gg:VG}{gs:VGs}:zAW gg gs (d::ds) δ=qg (gg d δ) gs ds:=rfl
@[simp] theorem qg_s{gs:VGs}:qg (some δ) gs ds=gs ds δ:=rfl
@[simp] theorem yIC{gs:VGs}:gTp n gs (.tup ds) δ=if ds.length=n then gs ds δ else none:=rfl
@[simp] theorem yID{gs:VGs}:gTp n gs (.lst ds) δ=if ds.length=n then gs ds δ else none:=rfl
noncomputable def qAsg(r:Option (Dat×Ev))(gg:VG):Option Ou:=r.bind fun p=>(gg p.1 p.2).map Ou.nx
@[simp] theorem yEV{gg:VG}:sAsg fa gg δ=qAsg (fa δ) gg:=rfl
@[simp] theorem yFH{gg:VG}:qAsg (some (d,δ)) gg=(gg d δ).map Ou.nx:=rfl
noncomputable def qM(i:Nat)(m:List Dat->List Dat->Option (List Dat))(r:Option (List Dat))(δ:Ev)(fs:VFs):Option Ou:=r.bind fun _=>(fs δ).bind fun p=>(ownL p.2 i).bind fun ds=>(m ds p.1).map fun ds'=> .nx (p.2.set i (.ow (.lst ds')))
noncomputable def qMb(i:Nat)(m:List Dat->List Dat->Option (List Dat))(r:Option (List Dat×Ev)):Option Ou:=r.bind fun p=>(ownL p.2 i).bind fun ds=>(m ds p.1).map fun ds'=> .nx (p.2.set i (.ow (.lst ds')))
noncomputable def qMc(i:Nat)(m:List Dat->List Dat->Option (List Dat))(es:List Dat)(δ:Ev)(r:Option (List Dat)):Option Ou:=r.bind fun ds=>(m ds es).map fun ds'=> .nx (δ.set i (.ow (.lst ds')))
noncomputable def qMd(i:Nat)(δ:Ev)(r:Option (List Dat)):Option Ou:=r.map fun ds'=> .nx (δ.set i (.ow (.lst ds')))
@[simp] theorem yEU{m:List Dat->List Dat->Option (List Dat)}{fs:VFs}:sMut i m fs δ=qM i m (ownL δ i) δ fs:=rfl
@[simp] theorem qM_s{m:List Dat->List Dat->Option (List Dat)}{fs:VFs}:qM i m (some ds) δ fs=qMb i m (fs δ):=rfl
@[simp] theorem yHP{m:List Dat->List Dat->Option (List Dat)}{es:List Dat}:qMb i m (some (es,δ))=qMc i m es δ (ownL δ i):=rfl
@[simp] theorem yHO{m:List Dat->List Dat->Option (List Dat)}{es:List Dat}:qMc i m es δ (some ds)=qMd i δ (m ds es):=rfl
@[simp] theorem yHN:qMd i δ (some ds)=some (.nx (δ.set i (.ow (.lst ds)))):=rfl
noncomputable def qOl:Option Sl->Option (List Dat)
 |some (.ow (.lst ds))=>some ds
 |_=>none
@[simp] theorem yFM:ownL δ i=qOl δ[i]? :=by unfold ownL qOl;split<;>simp_all
@[simp] theorem yHL:qOl (some (.ow (.lst ds)))=some ds:=rfl
@[simp] theorem yG6:mApp ds [d]=if ds.length<16777216 then some (ds++[d]) else none:=rfl
noncomputable def qOd:Option Sl->Option (List Key×List Dat)
 |some (.ow (.dct ks ds))=>some (ks,ds)
 |_=>none
@[simp] theorem yFN:ownD δ i=qOd δ[i]? :=by unfold ownD qOd;split<;>simp_all
@[simp] theorem yHM{ks:List Key}:qOd (some (.ow (.dct ks ds)))=some (ks,ds):=rfl
noncomputable def qL(i:Nat)(r:Option (Dat×Ev))(fi:VF):Option Ou:=r.bind fun p=>(ownL p.2 i).bind fun _=>(fi p.2).bind fun q=>(ownL q.2 i).bind fun ds=>match q.1 with
 | .int k=>(ixN ds.length k).map fun j=> .nx (q.2.set i (.ow (.lst (ds.set j p.1))))
 |_=>none
noncomputable def qLb(i:Nat)(x:Dat)(r:Option (List Dat))(δ:Ev)(fi:VF):Option Ou:=r.bind fun _=>(fi δ).bind fun q=>(ownL q.2 i).bind fun ds=>match q.1 with
 | .int k=>(ixN ds.length k).map fun j=> .nx (q.2.set i (.ow (.lst (ds.set j x))))
 |_=>none
noncomputable def qLc(i:Nat)(x:Dat)(r:Option (Dat×Ev)):Option Ou:=r.bind fun q=>(ownL q.2 i).bind fun ds=>match q.1 with
 | .int k=>(ixN ds.length k).map fun j=> .nx (q.2.set i (.ow (.lst (ds.set j x))))
 |_=>none
noncomputable def qLd(i:Nat)(x:Dat)(k:Int)(δ:Ev)(r:Option (List Dat)):Option Ou:=r.bind fun ds=>(ixN ds.length k).map fun j=> .nx (δ.set i (.ow (.lst (ds.set j x))))
@[simp] theorem yBS{fi fv:VF}:zRR i fi fv δ=qL i (fv δ) fi:=rfl
@[simp] theorem qL_s{fi:VF}:qL i (some (x,δ)) fi=qLb i x (ownL δ i) δ fi:=rfl
@[simp] theorem yHS{fi:VF}:qLb i x (some ds) δ fi=qLc i x (fi δ):=rfl
@[simp] theorem yHR{k:Int}:qLc i x (some (.int k,δ))=qLd i x k δ (ownL δ i):=rfl
@[simp] theorem yHQ{k:Int}:qLd i x k δ (some ds)=(ixN ds.length k).map fun j=> .nx (δ.set i (.ow (.lst (ds.set j x)))):=rfl
noncomputable def qi(r:Option (Dat×Ev)):Option (List Dat×Ev):=r.bind fun p=>(seqD p.1).map fun ds=>(ds,p.2)
@[simp] theorem yGJ:iSeq fa δ=qi (fa δ):=rfl
@[simp] theorem qi_t:qi (some (.tup ds,δ))=some (ds,δ):=rfl
@[simp] theorem qi_l:qi (some (.lst ds,δ))=some (ds,δ):=rfl
noncomputable def qr1:Option (Dat×Ev)->Option (List Dat×Ev)
 |some (.int j,δ)=>if -4611686018427387904<=j/\j<4611686018427387904 then some (rngD 0 j.toNat,δ) else none
 |_=>none
@[simp] theorem yIB:iR1 fa δ=qr1 (fa δ):=by
 unfold iR1 qr1
 cases fa δ with
 |none=>rfl
 |some p=>
  obtain⟨d,e⟩:=p
  cases d<;>rfl
@[simp] theorem yH8{j:Int}:qr1 (some (.int j,δ))=if -4611686018427387904<=j/\j<4611686018427387904 then some (rngD 0 j.toNat,δ) else none:=rfl
noncomputable def qe(r:Option (Dat×Ev)):Option (List Dat×Ev):=r.bind fun p=>(seqD p.1).map fun ds=>(enuD 0 ds,p.2)
@[simp] theorem yDW:zHQ fa δ=qe (fa δ):=rfl
@[simp] theorem qe_t:qe (some (.tup ds,δ))=some (enuD 0 ds,δ):=rfl
@[simp] theorem qe_l:qe (some (.lst ds,δ))=some (enuD 0 ds,δ):=rfl
noncomputable def qz(r:Option (Dat×Ev))(g:VF):Option (List Dat×Ev):=r.bind fun p=>(g p.2).bind fun q=>(seqD p.1).bind fun ds=>(seqD q.1).map fun es=>(zipD ds es,q.2)
noncomputable def qzb(x:Dat)(r:Option (Dat×Ev)):Option (List Dat×Ev):=r.bind fun q=>(seqD x).bind fun ds=>(seqD q.1).map fun es=>(zipD ds es,q.2)
@[simp] theorem yGI:iZip fa fb δ=qz (fa δ) fb:=rfl
@[simp] theorem qz_s:qz (some (x,δ)) fb=qzb x (fb δ):=rfl
@[simp] theorem yH2:qzb x (some (y,δ))=(seqD x).bind fun ds=>(seqD y).map fun es=>(zipD ds es,δ):=rfl
@[simp] theorem yEP:seqD (.tup ds)=some ds:=rfl
@[simp] theorem yEQ:seqD (.lst ds)=some ds:=rfl
noncomputable def qF(r:Option (List Dat×Ev))(gg:VG)(g:VS):Option Ou:=r.bind fun p=>forV gg g p.1 p.2
@[simp] theorem zXC{fi:VI}{gg:VG}:sFor fi gg g δ=qF (fi δ) gg g:=rfl
@[simp] theorem qF_s{gg:VG}:qF (some (ds,δ)) gg g=forV gg g ds δ:=rfl
noncomputable def qK(ix:List Nat)(nl:Nat)(r:Option (List Dat×Ev))(gg:VG)(tb:VB)(fe:VF):Option (Dat×Ev):=r.bind fun p=>(zBS ix.length nl gg tb fe p.1 [] (zAZ ix p.2)).map fun q=>(.lst q.1,zD3 ix q.2 p.2)
noncomputable def qKb(ix:List Nat)(δ:Ev)(r:Option (List Dat×Ev)):Option (Dat×Ev):=r.map fun q=>(.lst q.1,zD3 ix q.2 δ)
@[simp] theorem yE1{ix:List Nat}{nl:Nat}{fi:VI}{gg:VG}:zCM ix nl fi gg tb fa δ=qK ix nl (fi δ) gg tb fa:=rfl
@[simp] theorem qK_s{ix:List Nat}{nl:Nat}{gg:VG}:qK ix nl (some (ds,δ)) gg tb fa=qKb ix δ (zBS ix.length nl gg tb fa ds [] (zAZ ix δ)):=rfl
@[simp] theorem yHT{ix:List Nat}:qKb ix δ (some (ds,δ1))=some (.lst ds,zD3 ix δ1 δ):=rfl
variable{as:List AV}{fs:VFg}{mF:List Nat}{F:VFun}
noncomputable def qa(r:Option (Dat×Ev))(fs:VFg):Option (List AV×Ev):=r.bind fun p=>(fs p.2).map fun q=>(.d p.1::q.1,q.2)
noncomputable def qab(x:AV)(r:Option (List AV×Ev)):Option (List AV×Ev):=r.map fun q=>(x::q.1,q.2)
@[simp] theorem yAQ:aNil δ=some ([],δ):=rfl
@[simp] theorem aE_e:aE fa fs δ=qa (fa δ) fs:=rfl
@[simp] theorem qa_s:qa (some (x,δ)) fs=qab (.d x) (fs δ):=rfl
@[simp] theorem zUS{a:AV}:qab a (some (as,δ))=some (a::as,δ):=rfl
noncomputable def qao(j:Nat)(r:Option Dat)(δ:Ev)(fs:VFg):Option (List AV×Ev):=r.bind fun _=>qab (.o j) (fs δ)
@[simp] theorem aO_e:aO j fs δ=qao j (slot δ j) δ fs:=rfl
@[simp] theorem yC4:qao j (some d) δ fs=qab (.o j) (fs δ):=rfl
noncomputable def qsl:Option Sl->Option Dat
 |some (.va d)=>some d
 |some (.ow d)=>some d
 |_=>none
@[simp] theorem yEO:slot δ j=qsl δ[j]? :=by unfold slot qsl;split<;>simp_all
@[simp] theorem yH6:qsl (some (.va d))=some d:=rfl
@[simp] theorem yH7:qsl (some (.ow d))=some d:=rfl
@[simp] theorem yEG:zEV δ []=some []:=rfl
@[simp] theorem yEH:zEV δ (.d d::as)=(zEV δ as).map fun ds=>d::ds:=rfl
@[simp] theorem yEF:zEV δ (.o j::as)=(slot δ j).bind fun d=>(zEV δ as).map fun ds=>d::ds:=rfl
noncomputable def zXP(n:Nat)(mF:List Nat)(F:VFun)(r:Option (List AV×Ev)):Option (Dat×Ev):=r.bind fun p=>(zEV p.2 p.1).bind fun ds=>if ds.length=n/\zFF mF p.1 p.2=true then(F ds).bind fun q=>if zEK mF p.1 q.1 q.2=true then some (q.1,putO p.1 mF q.2 p.2) else none else none
noncomputable def qCb(n:Nat)(mF:List Nat)(F:VFun)(as:List AV)(δ:Ev)(r:Option (List Dat)):Option (Dat×Ev):=r.bind fun ds=>if ds.length=n/\zFF mF as δ=true then(F ds).bind fun q=>if zEK mF as q.1 q.2=true then some (q.1,putO as mF q.2 δ) else none else none
noncomputable def qCc(mF:List Nat)(as:List AV)(δ:Ev)(r:Option (Dat×List Dat)):Option (Dat×Ev):=r.bind fun q=>if zEK mF as q.1 q.2=true then some (q.1,putO as mF q.2 δ) else none
@[simp] theorem zIZ:zAG n mF F fs δ=zXP n mF F (fs δ):=rfl
@[simp] theorem zUT:zXP n mF F (some (as,δ))=qCb n mF F as δ (zEV δ as):=rfl
@[simp] theorem yC7:qCb n mF F as δ (some ds)=if ds.length=n/\zFF mF as δ=true then qCc mF as δ (F ds) else none:=rfl
@[simp] theorem yC6{os:List Dat}:qCc mF as δ (some (d,os))=if zEK mF as d os=true then some (d,putO as mF os δ) else none:=rfl
@[simp] theorem yDF:zSG δ as i=(match as[i]? with
 |some (.o j)=>match δ[j]? with
  |some (.ow _)=>true
  |_=>false
 |_=>false):=rfl
@[simp] theorem yGB:jsOf []=[]:=rfl
@[simp] theorem yGC:jsOf (.d d::as)=jsOf as:=rfl
@[simp] theorem yGA:jsOf (.o j::as)=j::jsOf as:=rfl
@[simp] theorem yB0:zFF mF as δ=(mF.all (zSG δ as) && decide (jsOf as).Nodup):=rfl
@[simp] theorem yEJ:zEW mF [] i=true:=rfl
@[simp] theorem yEK:zEW mF (.d d::as) i=zEW mF as (i+1):=rfl
@[simp] theorem yEI:zEW mF (.o j::as) i=(decide (i∈mF) && zEW mF as (i+1)):=rfl
@[simp] theorem yB1{os:List Dat}:zEK mF as d os=((zEW mF as 0 || d.hard) && (zEW mF as 0 || os.all zF7) && decide (mF.length=os.length)):=rfl
@[simp] theorem yFK{os:List Dat}:putO as [] os δ=δ:=by cases os<;>rfl
@[simp] theorem yFL{os:List Dat}{is:List Nat}:putO as (i::is) (d::os) δ=(match as[i]? with
  |some (.o j)=>putO as is os (δ.set j (.ow d))
  |_=>putO as is os δ):=rfl
@[simp] theorem yGQ:dflt F d ds=F (ds++[d]):=rfl
noncomputable def qH(n:Nat)(mF:List Nat)(tb:List (Str×VFun))(fs:VFg)(δ:Ev):Option Sl->Option (Dat×Ev)
 |some (.va (.fn x))=>(zEN tb x).bind fun F=>zAG n mF F fs δ
 |_=>none
@[simp] theorem yAZ{tb:List (Str×VFun)}:zKD n mF tb i fs δ=qH n mF tb fs δ δ[i]? :=by unfold zKD qH;split<;>simp_all
@[simp] theorem qH_s{tb:List (Str×VFun)}{x:Str}:qH n mF tb fs δ (some (.va (.fn x)))=(zEN tb x).bind fun F=>zAG n mF F fs δ:=rfl
@[simp] theorem yI1:pNo δ=some (none,δ):=rfl
noncomputable def qpS:Option (Dat×Ev)->Option (Option Int×Ev)
 |some (.int i,δ)=>some (some i,δ)
 |_=>none
@[simp] theorem yI0:pSo fa δ=qpS (fa δ):=by
 unfold pSo qpS
 cases fa δ with
 |none=>rfl
 |some p=>
  obtain⟨d,e⟩:=p
  cases d<;>rfl
@[simp] theorem yH9{i:Int}:qpS (some (.int i,δ))=some (some i,δ):=rfl
noncomputable def qSl(r:Option (Dat×Ev))(fl fh:VP):Option (Dat×Ev):=r.bind fun p=>(fl p.2).bind fun l=>(fh l.2).bind fun u=>(oSl p.1 l.1 u.1).map fun c=>(c,u.2)
noncomputable def qSlb(x:Dat)(r:Option (Option Int×Ev))(fh:VP):Option (Dat×Ev):=r.bind fun l=>(fh l.2).bind fun u=>(oSl x l.1 u.1).map fun c=>(c,u.2)
noncomputable def qSlc(x:Dat)(l:Option Int)(r:Option (Option Int×Ev)):Option (Dat×Ev):=r.bind fun u=>q0 (oSl x l u.1) u.2
@[simp] theorem yIE{fl fh:VP}:fSl fa fl fh δ=qSl (fa δ) fl fh:=rfl
@[simp] theorem yHG{fl fh:VP}:qSl (some (x,δ)) fl fh=qSlb x (fl δ) fh:=rfl
@[simp] theorem yF4{l:Option Int}{fh:VP}:qSlb x (some (l,δ)) fh=qSlc x l (fh δ):=rfl
@[simp] theorem yF3{l u:Option Int}:qSlc x l (some (u,δ))=q0 (oSl x l u) δ:=rfl
@[simp] theorem yI5{l u:Option Int}:oSl (.tup ds) l u=some (.tup (cutD ds l u)):=rfl
@[simp] theorem yI6{l u:Option Int}:oSl (.lst ds) l u=some (.lst (cutD ds l u)):=rfl
noncomputable def qSt(i j:Nat):Option (Dat×Ev)->Option Ou
 |some (.tup (d::ds),δ)=>some (.nx ((δ.set i (.va d)).set j (.va (.lst ds))))
 |_=>none
@[simp] theorem yBR:zNE i j fa δ=qSt i j (fa δ):=by
 unfold zNE qSt
 cases fa δ with
 |none=>rfl
 |some p=>
  obtain⟨d,e⟩:=p
  cases d with
  |tup ds=>cases ds<;>rfl
  |_=>rfl
@[simp] theorem yHF:qSt i j (some (.tup (d::ds),δ))=some (.nx ((δ.set i (.va d)).set j (.va (.lst ds)))):=rfl
noncomputable def qDg(i:Nat)(r:Option (List Key×List Dat))(δ:Ev)(fk fx:VF):Option (Dat×Ev):=r.bind fun _=>(fk δ).bind fun p=>(fx p.2).bind fun q=>(keyD p.1).bind fun k=>(ownD q.2 i).map fun z=>((zB6 z.1 z.2 k).getD q.1,q.2)
noncomputable def qDgb(i:Nat)(r:Option (Dat×Ev))(fx:VF):Option (Dat×Ev):=r.bind fun p=>(fx p.2).bind fun q=>(keyD p.1).bind fun k=>(ownD q.2 i).map fun z=>((zB6 z.1 z.2 k).getD q.1,q.2)
noncomputable def qDgc(i:Nat)(x:Dat)(r:Option (Dat×Ev)):Option (Dat×Ev):=r.bind fun q=>(keyD x).bind fun k=>(ownD q.2 i).map fun z=>((zB6 z.1 z.2 k).getD q.1,q.2)
@[simp] theorem yAY:zMZ i fa fb δ=qDg i (ownD δ i) δ fa fb:=rfl
@[simp] theorem yHV{z:List Key×List Dat}:qDg i (some z) δ fa fb=qDgb i (fa δ) fb:=rfl
@[simp] theorem yFG:qDgb i (some (x,δ)) fb=qDgc i x (fb δ):=rfl
@[simp] theorem yFF:qDgc i x (some (y,δ))=(keyD x).bind fun k=>(ownD δ i).map fun z=>((zB6 z.1 z.2 k).getD y,δ):=rfl
noncomputable def qDp(i:Nat)(r:Option (Dat×Ev))(fk:VF):Option Ou:=r.bind fun p=>(ownD p.2 i).bind fun _=>(fk p.2).bind fun q=>(keyD q.1).bind fun k=>(ownD q.2 i).bind fun z=>if z.1.length<16777216/\z.1.Nodup then some (.nx (q.2.set i (.ow (let r:=zDO z.1 z.2 k p.1;.dct r.1 r.2)))) else none
noncomputable def qDpb(i:Nat)(x:Dat)(r:Option (List Key×List Dat))(δ:Ev)(fk:VF):Option Ou:=r.bind fun _=>(fk δ).bind fun q=>(keyD q.1).bind fun k=>(ownD q.2 i).bind fun z=>if z.1.length<16777216/\z.1.Nodup then some (.nx (q.2.set i (.ow (let r:=zDO z.1 z.2 k x;.dct r.1 r.2)))) else none
noncomputable def qDpc(i:Nat)(x:Dat)(r:Option (Dat×Ev)):Option Ou:=r.bind fun q=>(keyD q.1).bind fun k=>(ownD q.2 i).bind fun z=>if z.1.length<16777216/\z.1.Nodup then some (.nx (q.2.set i (.ow (.dct (zDO z.1 z.2 k x).1 (zDO z.1 z.2 k x).2)))) else none
@[simp] theorem yBW{fk fv:VF}:zOS i fk fv δ=qDp i (fv δ) fk:=rfl
@[simp] theorem yHU{fk:VF}:qDp i (some (x,δ)) fk=qDpb i x (ownD δ i) δ fk:=rfl
@[simp] theorem yFE{z:List Key×List Dat}{fk:VF}:qDpb i x (some z) δ fk=qDpc i x (fk δ):=rfl
@[simp] theorem yFD:qDpc i x (some (y,δ))=(keyD y).bind fun k=>(ownD δ i).bind fun z=>if z.1.length<16777216/\z.1.Nodup then some (.nx (δ.set i (.ow (.dct (zDO z.1 z.2 k x).1 (zDO z.1 z.2 k x).2)))) else none:=rfl
@[simp] theorem yG9{i:Int}:keyD (.int i)=some (.inl i):=rfl
@[simp] theorem yG8{s:Str}:keyD (.str s)=some (.inr s):=rfl
noncomputable def qRun(ml:List Nat):Option Ou->Option (Dat×List Dat)
 |some (.rt d δ)=>(outs ml δ).map fun os=>(d,os)
 |some (.nx δ)=>(outs ml δ).map fun os=>(.non,os)
 |_=>none
theorem zAC{ml:List Nat}:runV n ml g ds=qRun ml (g (envD ml n ds)):=by
 unfold runV qRun
 cases g (envD ml n ds) with
 |none=>rfl
 |some o=>cases o<;>rfl
@[simp] theorem yF6{ml:List Nat}:qRun ml (some (.rt d δ))=(outs ml δ).map fun os=>(d,os):=rfl
@[simp] theorem yF7{ml:List Nat}:qRun ml (some (.nx δ))=(outs ml δ).map fun os=>(.non,os):=rfl
noncomputable def qow:Option Sl->Option Dat
 |some (.ow d)=>some d
 |_=>none
@[simp] theorem yFO:outs [] δ=some []:=rfl
@[simp] theorem yFP{ml:List Nat}:outs (i::ml) δ=(qow δ[i]?).bind fun d=>(outs ml δ).map fun os=>d::os:=by
 unfold outs
 rw[List.mapM_cons]
 cases h:(δ[i]? :Option Sl) with
 | none => rfl
 | some s => cases s with
  |no=>rfl
  |va d=>rfl
  |ow d=>
   show(Option.bind _ fun os=>some (d::os))=Option.map (fun os=>d::os) _
   cases (List.mapM _ ml:Option (List Dat))<;>rfl
@[simp] theorem yHA:qow (some (.ow d))=some d:=rfl
end
section
variable{i j:Int}{x y:Str}{ds es:List Dat}
@[simp] theorem oI_e{C:Int->Int->Bool}{g:Int->Int->Dat}:oI C g (.int i) (.int j)=if C i j=true then some (g i j) else none:=rfl
@[simp] theorem yD3:zCQ (.int i) (.int j)=some (.int (i+j)):=rfl
@[simp] theorem yD1:zCQ (.tup ds) (.tup es)=if ds.length+es.length<=16777216 then some (.tup (ds++es)) else none:=rfl
@[simp] theorem yD2:zCQ (.lst ds) (.lst es)=if ds.length+es.length<=16777216 then some (.lst (ds++es)) else none:=rfl
@[simp] theorem yI7{g:Int->Int->Int}:o2I g (.int i) (.int j)=some (.int (g i j)):=rfl
@[simp] theorem yFT:oLen (.tup ds)=some (.int ds.length):=rfl
@[simp] theorem yFU:oLen (.lst ds)=some (.int ds.length):=rfl
@[simp] theorem yD8:zNK (.tup ds)=some (.lst ds):=rfl
@[simp] theorem yD9:zNK (.lst ds)=some (.lst ds):=rfl
@[simp] theorem yAU:zGF (.tup ds)=some (.tup ds):=rfl
@[simp] theorem yAV:zGF (.lst ds)=some (.tup ds):=rfl
@[simp] theorem yFV:oIxA (.tup ds) (.int i)=atI ds i:=rfl
@[simp] theorem zZF:oIxA (.lst ds) (.int i)=atI ds i:=rfl
@[simp] theorem yDB{ks:List Key}:oIxA (.dct ks ds) (.int i)=zB6 ks ds (.inl i):=rfl
@[simp] theorem yDA{ks:List Key}:oIxA (.dct ks ds) (.str x)=zB6 ks ds (.inr x):=rfl
@[simp] theorem yI3:okD (.int i)=true:=rfl
@[simp] theorem yI2:okD .non=true:=rfl
@[simp] theorem yI4{b:Bool}:okD (.bl b)=true:=rfl
@[simp] theorem yGH:isiT "int" "bool"=some false:=by decide+kernel
@[simp] theorem yGG:isiT "int" "int"=some true:=by decide+kernel
@[simp] theorem yGF:isiT "tuple" "tuple"=some true:=by decide+kernel
@[simp] theorem yGE:isiT "str" "str"=some true:=by decide+kernel
@[simp] theorem yGD:isiT "list" "list"=some true:=by decide+kernel
@[simp] theorem yFZ{n:String}:oIsi (.int i) (.ty n)=(isiT "int" n).map Dat.bl:=rfl
@[simp] theorem yFW{n:String}:oIsi (.tup ds) (.ty n)=(isiT "tuple" n).map Dat.bl:=rfl
@[simp] theorem yFY{n:String}:oIsi (.lst ds) (.ty n)=(isiT "list" n).map Dat.bl:=rfl
@[simp] theorem yFX{n:String}:oIsi (.str x) (.ty n)=(isiT "str" n).map Dat.bl:=rfl
@[simp] theorem yG2:oIsN .non .non=some (.bl true):=rfl
@[simp] theorem yG3:oIsN (.int i) .non=some (.bl false):=rfl
@[simp] theorem yG1:oIsN (.str x) .non=some (.bl false):=rfl
@[simp] theorem yG0:oIsN (.tup ds) .non=some (.bl false):=rfl
@[simp] theorem yD6:zIR .non .non=some (.bl false):=rfl
@[simp] theorem yD7:zIR (.int i) .non=some (.bl true):=rfl
@[simp] theorem yD5:zIR (.str x) .non=some (.bl true):=rfl
@[simp] theorem yD4:zIR (.tup ds) .non=some (.bl true):=rfl
end
section
variable{d x:Dat}{δ δ1:Ev}{r acc:List Dat}{gg:VG}{tb:VB}{fe:VF}{n nl:Nat}{g:VS}
noncomputable def qk1(n nl:Nat)(gg:VG)(tb:VB)(fe:VF)(r acc:List Dat)(o:Option Ev):Option (List Dat×Ev):=o.bind fun δ1=>(tb δ1).bind fun p=>if p.1=true then(fe p.2).bind fun q=>if acc.length<16777216 then zBS n nl gg tb fe r (acc++[q.1]) (q.2.take n) else none else zBS n nl gg tb fe r acc (p.2.take n)
noncomputable def qk2(n nl:Nat)(gg:VG)(tb:VB)(fe:VF)(r acc:List Dat)(o:Option (Bool×Ev)):Option (List Dat×Ev):=o.bind fun p=>if p.1=true then(fe p.2).bind fun q=>if acc.length<16777216 then zBS n nl gg tb fe r (acc++[q.1]) (q.2.take n) else none else zBS n nl gg tb fe r acc (p.2.take n)
noncomputable def qk3(n nl:Nat)(gg:VG)(tb:VB)(fe:VF)(r acc:List Dat)(o:Option (Dat×Ev)):Option (List Dat×Ev):=o.bind fun q=>if acc.length<16777216 then zBS n nl gg tb fe r (acc++[q.1]) (q.2.take n) else none
@[simp] theorem yE8:zBS n nl gg tb fe [] acc δ=some (acc,δ):=rfl
@[simp] theorem zG1:zBS n nl gg tb fe (d::r) acc δ=qk1 n nl gg tb fe r acc (gg d (δ++nos nl)):=rfl
@[simp] theorem zNG:qk1 n nl gg tb fe r acc (some δ)=qk2 n nl gg tb fe r acc (tb δ):=rfl
@[simp] theorem zRY:qk2 n nl gg tb fe r acc (some (true,δ))=qk3 n nl gg tb fe r acc (fe δ):=rfl
@[simp] theorem zXN:qk2 n nl gg tb fe r acc (some (false,δ))=zBS n nl gg tb fe r acc (δ.take n):=rfl
@[simp] theorem zRX:qk3 n nl gg tb fe r acc (some (x,δ))=if acc.length<16777216 then zBS n nl gg tb fe r (acc++[x]) (δ.take n) else none:=rfl
noncomputable def qf1(gg:VG)(g:VS)(r:List Dat)(o:Option Ev):Option Ou:=o.bind fun δ1=>(g δ1).bind (zDU (forV gg g r))
noncomputable def qf2(gg:VG)(g:VS)(r:List Dat)(o:Option Ou):Option Ou:=o.bind (zDU (forV gg g r))
@[simp] theorem yGK:forV gg g [] δ=some (.nx δ):=rfl
@[simp] theorem zEI:forV gg g (d::r) δ=qf1 gg g r (gg d δ):=rfl
@[simp] theorem zHP:qf1 gg g r (some δ)=qf2 gg g r (g δ):=rfl
@[simp] theorem zIM:qf2 gg g r (some (.nx δ))=forV gg g r δ:=rfl
@[simp] theorem yHB:qf2 gg g r (some (.ct δ))=forV gg g r δ:=rfl
@[simp] theorem yHC:qf2 gg g r (some (.bk δ))=some (.nx δ):=rfl
@[simp] theorem yC3:qf2 gg g r (some (.rt d δ))=some (.rt d δ):=rfl
@[simp] theorem yED{ss:Ev}:zD3 [] ss δ=δ:=by cases ss<;>rfl
@[simp] theorem yEC{i:Nat}{is:List Nat}{ss:Ev}:zD3 (i::is) (.ow d::ss) δ=zD3 is ss (δ.set i (.ow d)):=rfl
@[simp] theorem yEB{i:Nat}{is:List Nat}{ss:Ev}:zD3 (i::is) (.va d::ss) δ=zD3 is ss δ:=rfl
@[simp] theorem yEA{i:Nat}{is:List Nat}{ss:Ev}:zD3 (i::is) (.no::ss) δ=zD3 is ss δ:=rfl
end
@[simp] theorem zSF:nos 1=[.no]:=rfl
@[simp] theorem zZI:nos 2=[.no,.no]:=rfl
@[simp] theorem yI8:nos 3=[.no,.no,.no]:=rfl
@[simp] theorem yF0{i:Int}:rngD i 0=[]:=rfl
@[simp] theorem yEZ:rngD 0 1=[.int 0]:=rfl
@[simp] theorem yEY:rngD 0 2=[.int 0,.int 1]:=rfl
@[simp] theorem yEX:rngD 0 3=[.int 0,.int 1,.int 2]:=rfl
@[simp] theorem yEW:rngD 0 4=[.int 0,.int 1,.int 2,.int 3]:=rfl
theorem zCR{α:Type}{xs:List α}{i:Int}(h0:0<=i)(h1:i<xs.length):atI xs i=xs[i.toNat]? :=by
 unfold atI ixN
 rw[if_pos h0,if_pos h1]
 rfl
theorem zU2{α:Type}{xs:List α}{i:Nat}(h1:i<xs.length):atI xs (i:Int)=xs[i]? :=by
 rw[zCR (by omega) (by omega)]
 simp
theorem zR0{α:Type}{xs:List α}{i:Int}(h0:0<=i)(h1:i<xs.length): ∃x∈xs,atI xs i=some x:=by
 rw[zCR h0 h1]
 have h:i.toNat<xs.length:=by omega
 exact⟨xs[i.toNat],List.getElem_mem _,List.getElem?_eq_getElem h⟩
section
variable{F:VFun}{fa fb fc:VF}{δ:Ev}{x y z d o:Dat}{j:Nat}
noncomputable def qcr(δ:Ev):Option (Dat×List Dat)->Option (Dat×Ev)
 |some (d,[])=>some (d,δ)
 |_=>none
@[simp] theorem yHD:qcr δ (some (d,[]))=some (d,δ):=rfl
theorem zQU{n:Nat}{ds:List Dat}{as:List AV}(h:zEV δ as=some ds)(hn:ds.length=n)(hj:jsOf as=[])(ha:zEW [] as 0=true):qCb n [] F as δ (some ds)=qcr δ (F ds):=by
 have hc:zFF [] as δ=true:=by simp[hj]
 rw[yC7,if_pos ⟨hn,hc⟩]
 cases F ds with
 |none=>rfl
 |some q=>
  obtain⟨r,os⟩:=q
  rw[yC6]
  cases os with
  |nil=>simp[ha,qcr]
  |cons o os=>simp[qcr]
noncomputable def qx1(F:VFun)(r:Option (Dat×Ev)):Option (Dat×Ev):=r.bind fun p=>qcr p.2 (F [p.1])
@[simp] theorem yH3:qx1 F (some (x,δ))=qcr δ (F [x]):=rfl
@[simp high] theorem call1:zAG 1 [] F (aE fa aNil) δ=qx1 F (fa δ):=by
 rw[zIZ,aE_e]
 cases fa δ with
 |none=>rfl
 |some p=>exact zQU (as:=[.d p.1]) rfl rfl rfl rfl
noncomputable def qx2(F:VFun)(r:Option (Dat×Ev))(fb:VF):Option (Dat×Ev):=r.bind fun p=>(fb p.2).bind fun q=>qcr q.2 (F [p.1,q.1])
noncomputable def qx2b(F:VFun)(x:Dat)(r:Option (Dat×Ev)):Option (Dat×Ev):=r.bind fun q=>qcr q.2 (F [x,q.1])
@[simp] theorem yC0:qx2 F (some (x,δ)) fb=qx2b F x (fb δ):=rfl
@[simp] theorem yF2:qx2b F x (some (y,δ))=qcr δ (F [x,y]):=rfl
@[simp high] theorem call2:zAG 2 [] F (aE fa (aE fb aNil)) δ=qx2 F (fa δ) fb:=by
 rw[zIZ,aE_e]
 cases fa δ with
 |none=>rfl
 |some p=>
  rw[qa_s,aE_e,yC0]
  cases fb p.2 with
  |none=>rfl
  |some q=>exact zQU (as:=[.d p.1,.d q.1]) rfl rfl rfl rfl
noncomputable def qx3(F:VFun)(r:Option (Dat×Ev))(fb fc:VF):Option (Dat×Ev):=r.bind fun p=>(fb p.2).bind fun q=>(fc q.2).bind fun s=>qcr s.2 (F [p.1,q.1,s.1])
noncomputable def qx3b(F:VFun)(x:Dat)(r:Option (Dat×Ev))(fc:VF):Option (Dat×Ev):=r.bind fun q=>(fc q.2).bind fun s=>qcr s.2 (F [x,q.1,s.1])
noncomputable def qx3c(F:VFun)(x y:Dat)(r:Option (Dat×Ev)):Option (Dat×Ev):=r.bind fun s=>qcr s.2 (F [x,y,s.1])
@[simp] theorem yBZ:qx3 F (some (x,δ)) fb fc=qx3b F x (fb δ) fc:=rfl
@[simp] theorem zXM:qx3b F x (some (y,δ)) fc=qx3c F x y (fc δ):=rfl
@[simp] theorem yF1:qx3c F x y (some (z,δ))=qcr δ (F [x,y,z]):=rfl
@[simp high] theorem call3:zAG 3 [] F (aE fa (aE fb (aE fc aNil))) δ=qx3 F (fa δ) fb fc:=by
 rw[zIZ,aE_e]
 cases fa δ with
 | none => rfl
 |some p=>
  rw[qa_s,aE_e,yBZ]
  cases fb p.2 with
  |none=>rfl
  |some q=>
   rw[qa_s,aE_e,zXM]
   cases fc q.2 with
   |none=>rfl
   |some s=>exact zQU (as:=[.d p.1,.d q.1,.d s.1]) rfl rfl rfl rfl
noncomputable def qw3(j:Nat)(δ:Ev):Option (Dat×List Dat)->Option (Dat×Ev)
 |some (r,[o])=>some (r,δ.set j (.ow o))
 |_=>none
noncomputable def qw2(F:VFun)(j:Nat)(x y:Dat)(δ:Ev):Option Sl->Option (Dat×Ev)
 |some (.ow d)=>qw3 j δ (F [x,d,y])
 |_=>none
noncomputable def qwb(F:VFun)(j:Nat)(x:Dat)(r:Option (Dat×Ev)):Option (Dat×Ev):=r.bind fun q=>qw2 F j x q.1 q.2 q.2[j]?
noncomputable def qwa(F:VFun)(j:Nat)(x:Dat)(δ:Ev)(fb:VF)(s:Option Dat):Option (Dat×Ev):=s.bind fun _=>qwb F j x (fb δ)
noncomputable def qw(F:VFun)(j:Nat)(r:Option (Dat×Ev))(fb:VF):Option (Dat×Ev):=r.bind fun p=>qwa F j p.1 p.2 fb (slot p.2 j)
@[simp] theorem yH4:qw3 j δ (some (x,[o]))=some (x,δ.set j (.ow o)):=rfl
@[simp] theorem yH5:qw2 F j x y δ (some (.ow d))=qw3 j δ (F [x,d,y]):=rfl
@[simp] theorem yC1:qwb F j x (some (y,δ))=qw2 F j x y δ δ[j]? :=rfl
@[simp] theorem yC2:qwa F j x δ fb (some d)=qwb F j x (fb δ):=rfl
@[simp] theorem qw_s:qw F j (some (x,δ)) fb=qwa F j x δ fb (slot δ j):=rfl
@[simp high] theorem callO:zAG 3 [1] F (aE fa (aO j (aE fb aNil))) δ=qw F j (fa δ) fb:=by
 rw[zIZ,aE_e]
 cases fa δ with
 | none => rfl
 |some p=>
  obtain⟨x,δ1⟩:=p
  rw[qa_s,aO_e,qw_s]
  cases h:slot δ1 j with
  | none => rfl
  |some d0=>
   rw[yC4,aE_e,yC2]
   cases fb δ1 with
   | none => rfl
   |some q=>
    obtain⟨y,δ2⟩:=q
    rw[yC1,qa_s,yAQ,zUS,zUS,zUS,zUT]
    cases h2:δ2[j]? with
    | none => simp [h2,qsl,qCb,qw2]
    |some s=>
     cases s with
     | no => simp [h2,qsl,qCb,qw2]
     | va d => simp [h2,qw2]
     |ow d=>
      simp[h2]
      cases F [x,d,y] with
      | none => rfl
      |some r=>
       obtain⟨v,os⟩:=r
       cases os with
       |nil=>simp[qw3]
       |cons o os=>
        cases os with
        |nil=>simp
        |cons o2 os=>simp[qw3]
end
def zB2:Dat:= .int 999
def zQW:Dat:= .tup [.str "plus",.str "minus",.str "times",.str "least",.str "most",.str "less",.str "over"]
def zEJ:Dat:= .dct [.inr "plus",.inr "minus",.inr "times",.inr "least",.inr "most",.inr "less",.inr "over"] [.fn "plus",.fn "minus",.fn "times",.fn "least",.fn "most",.fn "less",.fn "over"]
def zET:Dat:= .int 64
def zEU:Dat:= .int 40
def zE4:Dat:= .int 63
def zGH:Dat:= .tup [.str "row",.str "row"]
def zFG:Dat:= .dct [.inr "number",.inr "pick",.inr "load",.inr "take",.inr "store",.inr "put"] [.tup [.str "word"],.tup [.str "row",.str "row",.str "row"],.tup [.str "place"],.tup [.str "place",.str "row",.str "row"],.tup [.str "place",.str "row"],.tup [.str "place",.str "row",.str "row"]]
def zCO:Dat:= .tup [.str "load",.str "take"]
def zB0:Dat:= .tup [.str "store",.str "put"]
def zE5:Dat:= .int 64
def zFW:VS:=
   (sSeq (sIf (bOr (fB (f2 oIsi (fV 0) (fC (.ty "bool")))) (bNot (fB (f2 oIsi (fV 0) (fC (.ty "int"))))))
   (sRet (fC (.bl false)))
   sNil)
   (sRet (f3 oLe oLe (fV 1) (fV 0) (fV 2))))
def zAU:VFun:=runV 3 [] zFW
def zQ9:VS:=
   (sRet (f2 oMod (f2 zCQ (fV 0) (fV 1)) (f2 zCQ (fC zB2) (fC (.int 1)))))
def zI9:VFun:=runV 2 [] zQ9
def zLD:VS:=
   (sRet (f2 oMod (f2 oSub (fV 0) (fV 1)) (f2 zCQ (fC zB2) (fC (.int 1)))))
def zG7:VFun:=runV 2 [] zLD
def zLB:VS:=
   (sRet (f2 oMod (f2 zHY (fV 0) (fV 1)) (f2 zCQ (fC zB2) (fC (.int 1)))))
def zG5:VFun:=runV 2 [] zLB
def zLF:VS:=
   (sRet (f2 oMin (fV 0) (fV 1)))
def zG9:VFun:=runV 2 [] zLF
def zQB:VS:=
   (sRet (f2 oMax (fV 0) (fV 1)))
def zIB:VFun:=runV 2 [] zQB
def zQC:VS:=
   (sRet (fIf (fB (f2 oLt (fV 0) (fV 1))) (fC (.int 1)) (fC (.int 0))))
def zIC:VFun:=runV 2 [] zQC
def zMV:VS:=
   (sRet (fIf (fB (f2 oEq (fV 1) (fC (.int 0)))) (fC .non) (f2 zPR (fV 0) (fV 1))))
def zGI:VFun:=runV 2 [] zMV
def zQA:VS:=
   (sRet (fIf (fB (f2 oNe (fV 0) (fC (.int 0)))) (fV 1) (fV 2)))
def zIA:VFun:=runV 3 [] zQA
def zMW:VS:=
   (sSeq (sIf (fB (f2 oEq (fV 0) (fC (.str "pick"))))
   (sRet (zAG 3 [] zIA (aE (f2 oIxA (fV 1) (fC (.int 0))) (aE (f2 oIxA (fV 1) (fC (.int 1))) (aE (f2 oIxA (fV 1) (fC (.int 2))) aNil)))))
   sNil)
   (sSeq (sSet 2 (xV (f2 oIxA (fC zEJ) (fV 0))))
   (sRet (zKD 2 [] [("plus",zI9),("minus",zG7),("times",zG5),("least",zG9),("most",zIB),("less",zIC),("over",zGI)] 2 (aE (f2 oIxA (fV 1) (fC (.int 0))) (aE (f2 oIxA (fV 1) (fC (.int 1))) aNil))))))
def zDY:VFun:=runV 3 [] zMW
def zI5:VS:=
   (sSeq (sIf (fB (f2 (oInD false) (fV 0) (fC zQW)))
   (sRet (fC zGH))
   sNil)
   (sRet (f2 zZG (fC zFG) (fV 0))))
def zB7:VFun:=runV 1 [] zI5
def zE3:VS:=
   (sRet (f2 (oInD true) (f2 oIxA (fV 0) (fC (.int 0))) (fC zB0)))
def zBJ:VFun:=runV 1 [] zE3
def zC2:VS:=
   (sRet (fIf (bOr (fB (f2 (oInD false) (f2 oIxA (fV 0) (fC (.int 0))) (fC zCO))) (fB (f2 (oInD false) (f2 oIxA (fV 0) (fC (.int 0))) (fC zB0)))) (f2 oIxA (fV 0) (fC (.int 1))) (fC .non)))
def zAS:VFun:=runV 1 [] zC2
def zI6:VS:=
   (sSeq (zNE 1 2 (fV 0))
   (sRet (zCM [] 2 (iZip (zAG 1 [] zB7 (aE (fV 1) aNil)) (fV 2)) (gTp 2 (zAW (gN 0) (zAW (gN 1) zDR))) (fB (f2 oEq (fV 0) (fC (.str "row")))) (fV 1))))
def zAX:VFun:=runV 3 [] zI6
def zFR:VS:=
   (sRet (fAnd (zAG 3 [] zAU (aE (fV 0) (aE (fC (.int 0)) (aE (f2 oSub (f1 oLen (fV 1)) (fC (.int 1))) aNil)))) (f2 oIxA (fV 1) (fV 0))))
def zCV:VFun:=runV 2 [] zFR
def zKB:VS:=
   (sSeq (sIf (fB (f2 oEq (fV 0) (fC (.str "word"))))
   (sRet (zAG 3 [] zAU (aE (fV 1) (aE (fC (.int 0)) (aE (fC zB2) aNil)))))
   sNil)
   (sSeq (sIf (fB (f2 oEq (fV 0) (fC (.str "place"))))
   (sRet (zAG 3 [] zAU (aE (fV 1) (aE (fC (.int 0)) (aE (fC zE4) aNil)))))
   sNil)
   (sRet (zAG 2 [] zCV (aE (fV 1) (aE (fV 2) aNil))))))
def zEL:VFun:=runV 3 [] zKB
def zIY:VS:=
   (sSeq (sIf (bOr (bNot (fB (f2 oIsi (fV 0) (fC (.ty "tuple"))))) (fB (f2 oEq (f1 oLen (fV 0)) (fC (.int 0)))))
   (sRet (fC (.bl false)))
   sNil)
   (sSeq (zNE 2 3 (fV 0))
   (sSeq (sSet 4 (xV (fIf (fB (f2 oIsi (fV 2) (fC (.ty "str")))) (zAG 1 [] zB7 (aE (fV 2) aNil)) (fC .non))))
   (sSeq (sIf (bOr (fB (f2 oIsN (fV 4) (fC .non))) (fB (f2 oNe (f1 oLen (fV 4)) (f1 oLen (fV 3)))))
   (sRet (fC (.bl false)))
   sNil)
   (sRet (f1 oAll (zCM [1] 2 (iZip (fV 4) (fV 3)) (gTp 2 (zAW (gN 1) (zAW (gN 2) zDR))) bYes (zAG 3 [] zEL (aE (fV 1) (aE (fV 2) (aE (fV 0) aNil)))))))))))
def zEE:VFun:=runV 5 [] zIY
def zDD:VS:=
   (sSeq (sIf (bNot (fB (zAG 2 [] zEE (aE (fV 4) (aO 3 aNil)))))
   (sRet (fC (.bl false)))
   sNil)
   (sMut 3 mApp (zA6 (zAG 1 [] zBJ (aE (fV 4) aNil)) fNil)))
def zFY:VS:=
   (sSeq (sIf (bOr (bNot (fB (f2 oIsi (fV 0) (fC (.ty "tuple"))))) (fB (f2 oNe (f1 oLen (fV 0)) (fC (.int 2)))))
   (sRet (fC (.bl false)))
   sNil)
   (sSeq (sAsg (fV 0) (gTp 2 (zAW (gN 1) (zAW (gN 2) zDR))))
   (sSeq (sIf (bNot (fB (zAG 3 [] zAU (aE (fV 1) (aE (fC (.int 0)) (aE (fC zET) aNil))))))
   (sRet (fC (.bl false)))
   sNil)
   (sSeq (sIf (bOr (bNot (fB (f2 oIsi (fV 2) (fC (.ty "tuple"))))) (fB (f2 oGt (f1 oLen (fV 2)) (fC zEU))))
   (sRet (fC (.bl false)))
   sNil)
   (sSeq (sSet 3 (xO (fLst fNil)))
   (sSeq (sFor (iSeq (fV 2)) (gN 4)
   zDD)
   (sRet (fC (.bl true)))))))))
def zC5:VFun:=runV 5 [] zFY
def zIX:VS:=
   (sSeq (sIf (bNot (fB (zAG 1 [] zC5 (aE (fV 0) aNil))))
   (fun _=>none)
   sNil)
   (sSeq (sSet 2 (xV (f2 oIxA (fV 0) (fC (.int 1)))))
   (sSeq (sIf (bNot (fB (zAG 3 [] zAU (aE (fV 1) (aE (fC (.int 0)) (aE (f2 oSub (f1 oLen (fV 2)) (fC (.int 1))) aNil))))))
   (fun _=>none)
   sNil)
   (sRet (f2 oIxA (fV 2) (fV 1))))))
def zDE:VFun:=runV 3 [] zIX
def zLE:VS:=
   (sRet (zAG 1 [] zBJ (aE (zAG 2 [] zDE (aE (fV 0) (aE (fV 1) aNil))) aNil)))
def zG8:VFun:=runV 2 [] zLE
def zLC:VS:=
   (sRet (zAG 1 [] zAX (aE (zAG 2 [] zDE (aE (fV 0) (aE (fV 1) aNil))) aNil)))
def zG6:VFun:=runV 2 [] zLC
def zFX:VS:=
   (sSeq (sIf (bOr (bNot (fB (f2 oIsi (fV 0) (fC (.ty "list"))))) (bNot (fB (f3 oLe oLe (fV 1) (f1 oLen (fV 0)) (fC zE5)))))
   (sRet (fC (.bl false)))
   sNil)
   (sRet (f1 oAll (zCM [] 1 (iSeq (fV 0)) (gN 0) bYes (zAG 3 [] zAU (aE (fV 0) (aE (fC (.int 0)) (aE (fC zB2) aNil))))))))
def zCY:VFun:=runV 2 [] zFX
def zFC:VS:=
   (sSeq (sIf (fB (f2 oEq (fV 0) (fC (.str "take"))))
   (sRet (f2 oNe (f2 oIxA (fV 1) (fC (.int 0))) (fC (.int 0))))
   sNil)
   (sSeq (sIf (fB (f2 oEq (fV 0) (fC (.str "put"))))
   (sRet (f2 oNe (f2 oIxA (fV 1) (fC (.int 1))) (fC (.int 0))))
   sNil)
   (sRet (fC (.bl true)))))
def zBW:VFun:=runV 2 [] zFC
def zAV:VS:=
   (sSeq (sIf (bNot (fB (zAG 2 [] zBW (aE (fV 0) (aE (fV 2) aNil)))))
   (sRet (fTup (zA6 (fIf (fB (f2 oEq (fV 0) (fC (.str "take")))) (f2 oIxA (fV 2) (fC (.int 1))) (fC .non)) (zA6 (fC .non) fNil))))
   sNil)
   (sSeq (sIf (fB (f2 oGe (fV 1) (f1 oLen (fO 3))))
   (sRet (fTup (zA6 (fC .non) (zA6 (fC (.str "beyond")) fNil))))
   sNil)
   (sSeq (sIf (fB (f2 (oInD false) (fV 0) (fC zB0)))
   (sSeq (zRR 3 (fV 1) (f2 oIxA (fV 2) (fC (.int 0))))
   (sRet (fTup (zA6 (fC .non) (zA6 (fC .non) fNil)))))
   sNil)
   (sRet (fTup (zA6 (f2 oIxA (fO 3) (fV 1)) (zA6 (fC .non) fNil)))))))
def zAP:VFun:=runV 4 [3] zAV
def zEB:VS:=
   (sSeq (sSet 4 (xV (f2 oIxA (fV 0) (fC (.int 0)))))
   (sSeq (sIf (fB (f2 oEq (fV 4) (fC (.str "number"))))
   (sRet (fTup (zA6 (f2 oIxA (fV 0) (fC (.int 1))) (zA6 (fC .non) fNil))))
   sNil)
   (sSeq (sSet 5 (xV (zAG 1 [] zAS (aE (fV 0) aNil))))
   (sSeq (sIf (fB (f2 zIR (fV 5) (fC .non)))
   (sRet (zAG 4 [3] zAP (aE (fV 4) (aE (f2 zCQ (fV 5) (fV 3)) (aE (fV 1) (aO 2 aNil))))))
   sNil)
   (sSeq (sSet 6 (xV (zAG 2 [] zDY (aE (fV 4) (aE (fV 1) aNil)))))
   (sRet (fTup (zA6 (fV 6) (zA6 (fIf (fB (f2 oIsN (fV 6) (fC .non))) (fC (.str "nought")) (fC .non)) fNil)))))))))
def zBU:VFun:=runV 7 [2] zEB
def zBZ:VS:=
   (sSeq (sAsg (zAG 3 [2] (dflt zBU (.int 0)) (aE (fV 4) (aE (zCM [2] 1 (iSeq (zAG 1 [] zAX (aE (fV 4) aNil))) (gN 1) bYes (f2 oIxA (fO 0) (fV 1))) (aO 1 aNil)))) (gTp 2 (zAW (gN 5) (zAW (gN 6) zDR))))
   (sSeq (sIf (fB (f2 zIR (fV 6) (fC .non)))
   (sRet (fTup (zA6 (fO 2) (zA6 (fTup (zA6 (fV 3) (zA6 (fV 6) fNil))) fNil))))
   sNil)
   (sMut 2 mApp (zA6 (fV 5) fNil))))
def zFD:VS:=
   (sSeq (sSet 2 (xO (fLst fNil)))
   (sSeq (sFor (zHQ (fV 0)) (gTp 2 (zAW (gN 3) (zAW (gN 4) zDR)))
   zBZ)
   (sRet (fTup (zA6 (fO 2) (zA6 (fC .non) fNil))))))
def zCC:VFun:=runV 7 [1] zFD
def zES:VS:=
   (sSeq (sIf (bNot (fB (zAG 1 [] zC5 (aE (fV 0) aNil))))
   (fun _=>none)
   sNil)
   (sIf (bNot (fB (zAG 2 [] zCY (aE (fV 1) (aE (f2 oIxA (fV 0) (fC (.int 0))) aNil)))))
   (fun _=>none)
   sNil))
def zBR:VFun:=runV 2 [] zES
def zVY:VS:=
   (sSeq (zOR (zAG 2 [] zBR (aE (fV 0) (aE (fV 1) aNil))))
   (sSeq (sSet 2 (xO (f1 zNK (fV 1))))
   (sSeq (sAsg (zAG 2 [1] zCC (aE (f2 oIxA (fV 0) (fC (.int 1))) (aO 2 aNil))) (gTp 2 (zAW (gN 3) (zAW (gN 4) zDR))))
   (sRet (fTup (zA6 (fO 2) (zA6 (fV 4) fNil)))))))
def zKW:VFun:=runV 5 [] zVY
def zIW:VS:=
   (sSeq (zOR (zAG 2 [] zBR (aE (fV 0) (aE (fV 1) aNil))))
   (sSeq (sAsg (zAG 2 [] (lstD 1 zCC) (aE (f2 oIxA (fV 0) (fC (.int 1))) (aE (fV 1) aNil))) (gTp 2 (zAW (gN 2) (zAW (gN 3) zDR))))
   (sRet (fV 2))))
def zDV:VFun:=runV 4 [] zIW
def zE8:VS:=
   (sSet 2 (xV (f2 zPR (fV 2) (fC (.int 1000003)))))
def zDS:VS:=
   (sSeq (sIf (fB (f2 oLt (fV 1) (f1 oLen (fV 0))))
   (sRet (f2 oIxA (fV 0) (fV 1)))
   sNil)
   (sSeq (sIf (fB (f2 oEq (fV 0) (fLst fNil)))
   (sRet (fC (.int 0)))
   sNil)
   (sSeq (sSet 2 (xV (f2 oIxA (fV 0) (f2 oMod (fV 1) (f1 oLen (fV 0))))))
   (sSeq (sFor (iR1 (f2 oMin (f2 zPR (fV 1) (f1 oLen (fV 0))) (fC (.int 60)))) (gN 3)
   zE8)
   (sRet (f2 zCQ (f2 zCQ (f2 zHY (f2 oIxA (fV 0) (f2 oMod (fV 1) (f1 oLen (fV 0)))) (fC (.int 31))) (fV 1)) (f2 zHY (fV 2) (fC (.int 101)))))))))
def zBG:VFun:=runV 4 [] zDS
def zEQ:VS:=
   (sSeq (sSet 3 (xV (f2 oMod (f2 zCQ (f2 zCQ (f2 zHY (zAG 2 [] zBG (aE (fV 0) (aE (fV 1) aNil))) (fC (.int 1103515245))) (f2 zHY (fC (.int 7919)) (fV 1))) (fC (.int 12345))) (fC (.int 2147483647)))))
   (sRet (f2 oMod (f2 oMod (f2 oMod (f2 oPow (fV 3) (fC (.int 5))) (fC (.int 2147483647))) (fC (.int 999983))) (fV 2))))
def zCJ:VFun:=runV 4 [] zEQ
def zFV:VS:=
   (sSeq (sMut 1 mApp (zA6 (fC (.int 0)) fNil))
   (sRet (zAG 3 [] zCJ (aE (fV 0) (aE (f1 oLen (fO 1)) (aE (fV 2) aNil))))))
def zAI:VFun:=runV 3 [1] zFV
def zFT:VS:=
   (sRet (f2 oIxA (fV 2) (zAG 3 [1] zAI (aE (fV 0) (aO 1 (aE (f1 oLen (fV 2)) aNil))))))
def zAO:VFun:=runV 3 [1] zFT
def zEP:VS:=
   (sSeq (zOS 2 (fV 3) (f2 oMod (f2 zCQ (zMZ 2 (fV 3) (zAG 3 [1] zAI (aE (fV 0) (aO 1 (aE (fV 4) aNil))))) (zAG 3 [1] zAO (aE (fV 0) (aO 1 (aE (fLst (zA6 (fC (.int 1)) (zA6 (fC (.int 1)) (zA6 (fC (.int 1)) (zA6 (fC (.int 0)) (zA6 (fC (.int 3)) fNil)))))) aNil))))) (fV 4)))
   (sRet (f2 oIxA (fO 2) (fV 3))))
def zB9:VFun:=runV 5 [1,2] zEP
def zHC:VS:=
   (sSeq (sSet 5 (xV (zAG 3 [1] zAI (aE (fV 0) (aO 1 (aE (fC (.int 13)) aNil))))))
   (sSeq (sIf (bOr (fB (f2 oEq (fV 2) (fLst fNil))) (fB (f2 oEq (fV 5) (fC (.int 0)))))
   (sSeq (sIf (fB (f2 oEq (zAG 3 [1] zAI (aE (fV 0) (aO 1 (aE (fC (.int 2)) aNil)))) (fC (.int 0))))
   (sRet (fTup (zA6 (fC (.str "number")) (zA6 (zAG 3 [1] zAO (aE (fV 0) (aO 1 (aE (fLst (zA6 (fC (.int 0)) (zA6 (fC (.int 1)) (zA6 (fC (.int 2)) (zA6 (fC (.int 5)) (zA6 (fC (.int 999)) (zA6 (zAG 3 [1] zAI (aE (fV 0) (aO 1 (aE (fC (.int 1000)) aNil)))) fNil))))))) aNil)))) fNil))))
   sNil)
   (sRet (fTup (zA6 (fC (.str "load")) (zA6 (zAG 5 [1,2] zB9 (aE (fV 0) (aO 1 (aO 3 (aE (fC (.str "load")) (aE (fV 4) aNil)))))) fNil)))))
   sNil)
   (sSeq (sAsg (zCM [0,1,2] 1 (iR1 (fC (.int 3))) (gN 3) bYes (f2 oIxA (fV 2) (f2 oMax (fC (.int 0)) (f2 oSub (f2 oSub (f1 oLen (fV 2)) (fC (.int 1))) (zAG 3 [1] zAI (aE (fV 0) (aO 1 (aE (fC (.int 6)) aNil)))))))) (gTp 3 (zAW (gN 6) (zAW (gN 7) (zAW (gN 8) zDR)))))
   (sSeq (sIf (fB (f2 (oInD false) (fV 5) (fTup (zA6 (fC (.int 1)) (zA6 (fC (.int 2)) fNil)))))
   (sRet (fTup (zA6 (fC (.str "load")) (zA6 (zAG 5 [1,2] zB9 (aE (fV 0) (aO 1 (aO 3 (aE (fC (.str "load")) (aE (fV 4) aNil)))))) fNil))))
   sNil)
   (sSeq (sIf (fB (f2 oEq (fV 5) (fC (.int 3))))
   (sRet (fTup (zA6 (fC (.str "take")) (zA6 (zAG 5 [1,2] zB9 (aE (fV 0) (aO 1 (aO 3 (aE (fC (.str "take")) (aE (fV 4) aNil)))))) (zA6 (fV 8) (zA6 (fV 6) fNil))))))
   sNil)
   (sSeq (sIf (fB (f2 (oInD false) (fV 5) (fTup (zA6 (fC (.int 4)) (zA6 (fC (.int 5)) fNil)))))
   (sRet (fTup (zA6 (fC (.str "store")) (zA6 (zAG 5 [1,2] zB9 (aE (fV 0) (aO 1 (aO 3 (aE (fC (.str "store")) (aE (fV 4) aNil)))))) (zA6 (fV 6) fNil)))))
   sNil)
   (sSeq (sIf (fB (f2 oEq (fV 5) (fC (.int 6))))
   (sRet (fTup (zA6 (fC (.str "put")) (zA6 (zAG 5 [1,2] zB9 (aE (fV 0) (aO 1 (aO 3 (aE (fC (.str "put")) (aE (fV 4) aNil)))))) (zA6 (fV 6) (zA6 (fV 8) fNil))))))
   sNil)
   (sSeq (sIf (fB (f2 oEq (fV 5) (fC (.int 7))))
   (sRet (fTup (zA6 (fC (.str "pick")) (zA6 (fV 8) (zA6 (fV 6) (zA6 (fV 7) fNil))))))
   sNil)
   (sRet (fTup (zA6 (f2 oIxA (fLst (zA6 (fC (.str "over")) (zA6 (fC (.str "plus")) (zA6 (fC (.str "minus")) (zA6 (fC (.str "times")) (zA6 (fC (.str "least")) (zA6 (fC (.str "most")) (zA6 (fC (.str "less")) fNil)))))))) (zAG 3 [1] zAI (aE (fV 0) (aO 1 (aE (fC (.int 7)) aNil))))) (zA6 (fV 6) (zA6 (fV 7) fNil)))))))))))))
def zDM:VFun:=runV 9 [1,3] zHC
def zC4:VS:=
   (sSeq (sSet 10 (xV (f2 zCQ (f2 zPQ (fV 3) (fV 9)) (zAG 3 [1] zAO (aE (fV 0) (aO 1 (aE (fLst (zA6 (fC (.int 1)) (zA6 (fC (.int 1)) (zA6 (fC (.int 1)) (zA6 (fC (.int 1)) (zA6 (f1 oNeg (fC (.int 1))) (zA6 (fC (.int 0)) (zA6 (fC (.int 2)) fNil)))))))) aNil)))))))
   (sMut 8 mApp (zA6 (fIf (bAnd (fB (f3 oLe oLt (fC (.int 0)) (fV 10) (f1 oLen (fV 3)))) (fB (f2 oNe (f2 oIxA (fV 3) (fV 10)) (f2 oSub (f1 oLen (fV 2)) (fC (.int 1)))))) (f2 oIxA (fV 3) (fV 10)) (fV 9)) fNil)))
def zEA:VS:=
   (sSeq (sSet 6 (xV (f2 oIxA (fV 2) (f1 oNeg (fC (.int 1))))))
   (sSeq (sSet 7 (xV (fIf (fB (f2 (oInD false) (f2 oIxA (fV 6) (fC (.int 0))) (fTup (zA6 (fC (.str "load")) (zA6 (fC (.str "take")) (zA6 (fC (.str "store")) (zA6 (fC (.str "put")) fNil))))))) (fC (.int 2)) (fC (.int 1)))))
   (sSeq (sSet 8 (xO (fLst fNil)))
   (sSeq (sFor (iSeq (fSl (fV 6) (pSo (fV 7)) pNo)) (gN 9)
   zC4)
   (sSeq (sIf (fB (f2 oEq (fV 7) (fC (.int 1))))
   (sRet (f2 zCQ (fSl (fV 6) pNo (pSo (fC (.int 1)))) (f1 zGF (fO 8))))
   sNil)
   (sSeq (zOS 4 (f2 oIxA (fV 6) (fC (.int 0))) (f2 oMod (f2 zCQ (f2 oIxA (fV 6) (fC (.int 1))) (fC (.int 1))) (fV 5)))
   (sRet (f2 zCQ (fTup (zA6 (f2 oIxA (fV 6) (fC (.int 0))) (zA6 (f2 oIxA (fO 4) (f2 oIxA (fV 6) (fC (.int 0)))) fNil))) (f1 zGF (fO 8))))))))))
def zBT:VFun:=runV 11 [1,4] zEA
def zC3:VS:=
   (sIf (bAnd (fB (f2 oLt (f1 oLen (fO 4)) (fV 2))) (fB (f2 oNe (f2 oIxA (f2 oIxA (fO 4) (f1 oNeg (fC (.int 1)))) (fC (.int 0))) (fC (.str "number")))))
   (sSeq (sMut 4 mApp (zA6 (zAG 6 [1,4] zBT (aE (fV 0) (aO 1 (aO 4 (aO 5 (aO 6 (aE (fV 3) aNil))))))) fNil))
   (sIf (fB (f2 (oInD true) (f2 oIxA (f2 oIxA (fO 4) (f1 oNeg (fC (.int 1)))) (fC (.int 0))) (fTup (zA6 (fC (.str "store")) (zA6 (fC (.str "put")) fNil)))))
   (sMut 5 mApp (zA6 (f2 oSub (f1 oLen (fO 4)) (fC (.int 1))) fNil))
   sNil))
   sNil)
def zDA:VS:=
   (sSeq (sMut 4 mApp (zA6 (zAG 5 [1,3] zDM (aE (fV 0) (aO 1 (aO 5 (aO 6 (aE (fV 3) aNil)))))) fNil))
   (sSeq (sIf (fB (f2 (oInD true) (f2 oIxA (f2 oIxA (fO 4) (f1 oNeg (fC (.int 1)))) (fC (.int 0))) (fTup (zA6 (fC (.str "store")) (zA6 (fC (.str "put")) fNil)))))
   (sMut 5 mApp (zA6 (f2 oSub (f1 oLen (fO 4)) (fC (.int 1))) fNil))
   sNil)
   (sFor (iR1 (zAG 3 [1] zAO (aE (fV 0) (aO 1 (aE (fLst (zA6 (fC (.int 0)) (zA6 (fC (.int 1)) (zA6 (fC (.int 1)) (zA6 (fC (.int 2)) (zA6 (fC (.int 3)) fNil)))))) aNil))))) (gN 7)
   zC3)))
def zFS:VS:=
   (sSeq (zL1 4 5 6 (xO (fLst fNil)) (xO (fLst fNil)) (xO (fC (.dct [] []))))
   (sSeq (zH0 (fB (f2 oLt (f1 oLen (fO 4)) (fV 2)))
   zDA)
   (sRet (f1 zGF (fO 4)))))
def zCW:VFun:=runV 8 [1] zFS
def zHD:VS:=
   (sSeq (sIf (fB (f2 oEq (f2 oIxA (fV 0) (fC (.int 0))) (fC (.str "number"))))
   (sRet (fLst fNil))
   sNil)
   (sRet (fIf (fB (f2 (oInD false) (f2 oIxA (fV 0) (fC (.int 0))) (fTup (zA6 (fC (.str "load")) (zA6 (fC (.str "take")) (zA6 (fC (.str "store")) (zA6 (fC (.str "put")) fNil))))))) (f1 zNK (fSl (fV 0) (pSo (fC (.int 2))) pNo)) (f1 zNK (fSl (fV 0) (pSo (fC (.int 1))) pNo)))))
def zBH:VFun:=runV 1 [] zHD
def zHE:VS:=
   (sSeq (sSet 2 (xV (f2 oIxA (f2 oIxA (fV 0) (fC (.int 1))) (fV 1))))
   (sSeq (sIf (fB (f2 (oInD false) (f2 oIxA (fV 2) (fC (.int 0))) (fTup (zA6 (fC (.str "load")) (zA6 (fC (.str "take")) (zA6 (fC (.str "store")) (zA6 (fC (.str "put")) fNil)))))))
   (sRet (f2 oGe (f2 oIxA (fV 2) (fC (.int 1))) (f2 oIxA (fV 0) (fC (.int 0)))))
   sNil)
   (sRet (fAnd (f2 oEq (f2 oIxA (fV 2) (fC (.int 0))) (fC (.str "over"))) (f2 (oInD true) (fSl (f2 oIxA (f2 oIxA (fV 0) (fC (.int 1))) (f2 oIxA (fV 2) (fC (.int 2)))) pNo (pSo (fC (.int 2)))) (zCM [] 1 (iR2 (fC (.int 1)) (fC (.int 1000))) (gN 0) bYes (fTup (zA6 (fC (.str "number")) (zA6 (fV 0) fNil)))))))))
def zCB:VFun:=runV 3 [] zHE
def zDC:VS:=
   (sSeq (sSet 7 (xV (zCM [] 1 (iSeq (fTup (zA6 (fV 6) (zA6 (fV 4) fNil)))) (gN 0) (fB (f2 (oInD false) (f2 oIxA (fV 0) (fC (.int 0))) (fTup (zA6 (fC (.str "store")) (zA6 (fC (.str "put")) fNil))))) (fV 0))))
   (sSeq (sSet 8 (xO (fLst (zA6 (f2 (oInD false) (fV 5) (zAG 1 [] zBH (aE (fV 4) aNil))) (zA6 (fAnd (zAG 2 [] zCB (aE (fV 0) (aE (fV 5) aNil))) (zAG 2 [] zCB (aE (fV 0) (aE (fV 3) aNil)))) fNil)))))
   (sSeq (sMut 8 mApp (zA6 (fAnd (f2 (oInD false) (f2 oIxA (fV 6) (fC (.int 0))) (fV 2)) (fAnd (f2 (oInD false) (f2 oIxA (fV 4) (fC (.int 0))) (fV 2)) (fAnd (f2 oEq (f2 oIxA (fV 6) (fC (.int 1))) (f2 oIxA (fV 4) (fC (.int 1)))) (f2 oNe (fV 7) (fLst fNil))))) fNil))
   (sSeq (sMut 8 mApp (zA6 (fAnd (zAG 2 [] zCB (aE (fV 0) (aE (fV 5) aNil))) (f2 (oInD false) (f2 oIxA (fV 4) (fC (.int 0))) (fTup (zA6 (fC (.str "store")) (zA6 (fC (.str "put")) fNil))))) fNil))
   (sSeq (sMut 8 mApp (zA6 (fAnd (zAG 2 [] zCB (aE (fV 0) (aE (fV 3) aNil))) (f2 (oInD false) (f2 oIxA (fV 6) (fC (.int 0))) (fTup (zA6 (fC (.str "store")) (zA6 (fC (.str "put")) fNil))))) fNil))
   (sIf (fB (f2 (oInD false) (fC (.bl true)) (fO 8)))
   (sMut 1 mApp (zA6 (fTup (zA6 (fV 5) (zA6 (fV 3) fNil))) fNil))
   sNil))))))
def zDB:VS:=
   (sFor (zHQ (fSl (f2 oIxA (fV 0) (fC (.int 1))) pNo (pSo (fV 3)))) (gTp 2 (zAW (gN 5) (zAW (gN 6) zDR)))
   zDC)
def zFU:VS:=
   (sSeq (zRS 1 2 (xO (fLst fNil)) (xV (fTup (zA6 (fC (.str "load")) (zA6 (fC (.str "take")) (zA6 (fC (.str "store")) (zA6 (fC (.str "put")) fNil)))))))
   (sSeq (sFor (zHQ (f2 oIxA (fV 0) (fC (.int 1)))) (gTp 2 (zAW (gN 3) (zAW (gN 4) zDR)))
   zDB)
   (sRet (f1 zPP (fO 1)))))
def zCX:VFun:=runV 9 [] zFU
def zBM:VS:=
   (sSeq (sSet 6 (xV (zCM [3,4] 1 (iSeq (fO 4)) (gN 2) (fB (f2 oEq (zCM [1,2] 2 (iSeq (fV 0)) (gTp 2 (zAW (gN 2) (zAW (gN 3) zDR))) (bAnd (fB (f2 oEq (fV 3) (fV 1))) (fB (f2 (oInD false) (fV 2) (fO 0)))) (fC (.int 1))) (fLst fNil))) (fV 2))))
   (sSeq (sMut 5 mApp (zA6 (zAG 3 [1] zAO (aE (fV 0) (aO 1 (aE (fV 6) aNil)))) fNil))
   (sMut 4 mRem (zA6 (f2 oIxA (fO 5) (f1 oNeg (fC (.int 1)))) fNil))))
def zCH:VS:=
   (sSeq (zL1 3 4 5 (xV (zAG 1 [] zCX (aE (fV 2) aNil))) (xO (zFZ (f1 oLen (f2 oIxA (fV 2) (fC (.int 1)))))) (xO (fLst fNil)))
   (sSeq (zH0 (fB (f2 oNe (fO 4) (fLst fNil)))
   zBM)
   (sRet (fO 5))))
def zB8:VFun:=runV 7 [1] zCH
def zB5:VS:=
   (sSeq (sIf (fB (f2 oEq (f2 oIxA (fV 0) (fC (.int 0))) (fC (.str "number"))))
   (sRet (fV 0))
   sNil)
   (sSeq (sSet 2 (xV (fIf (fB (f2 (oInD false) (f2 oIxA (fV 0) (fC (.int 0))) (fTup (zA6 (fC (.str "load")) (zA6 (fC (.str "take")) (zA6 (fC (.str "store")) (zA6 (fC (.str "put")) fNil))))))) (fC (.int 2)) (fC (.int 1)))))
   (sRet (f2 zCQ (fSl (fV 0) pNo (pSo (fV 2))) (f1 zGF (zCM [1] 1 (iSeq (fSl (fV 0) (pSo (fV 2)) pNo)) (gN 1) bYes (f2 oIxA (fV 0) (fV 1))))))))
def zAJ:VFun:=runV 3 [] zB5
def zDT:VS:=
   (sSeq (sSet 3 (xV (zAG 3 [1] zAO (aE (fV 0) (aO 1 (aE (fLst (zA6 (fC (.int 3)) (zA6 (fC (.int 6)) (zA6 (fC (.int 9)) (zA6 (fC (.int 64)) fNil))))) aNil))))))
   (sSeq (sSet 4 (xV (zAG 3 [1] zAO (aE (fV 0) (aO 1 (aE (fLst (zA6 (fC (.int 0)) (zA6 (fV 3) (zA6 (fV 3) (zA6 (zAG 3 [1] zAI (aE (fV 0) (aO 1 (aE (f2 zCQ (fV 3) (fC (.int 1))) aNil)))) fNil))))) aNil))))))
   (sSeq (sSet 5 (xV (fTup (zA6 (fV 4) (zA6 (zAG 4 [1] zCW (aE (fV 0) (aO 1 (aE (zAG 3 [1] zAI (aE (fV 0) (aO 1 (aE (f2 zCQ (fV 2) (fC (.int 1))) aNil)))) (aE (fV 3) aNil))))) fNil)))))
   (sSeq (sIf (fB (f2 oGt (zAG 3 [1] zAI (aE (fV 0) (aO 1 (aE (fC (.int 3)) aNil)))) (fC (.int 0))))
   (sRet (fV 5))
   sNil)
   (sSeq (sSet 6 (xV (zAG 3 [1] zB8 (aE (fV 0) (aO 1 (aE (fV 5) aNil))))))
   (sSeq (sSet 7 (xV (f1 zSE (zCM [] 2 (zHQ (fV 6)) (gTp 2 (zAW (gN 0) (zAW (gN 1) zDR))) bYes (fTup (zA6 (fV 1) (zA6 (fV 0) fNil)))))))
   (sRet (fTup (zA6 (fV 4) (zA6 (f1 zGF (zCM [5,7] 1 (iSeq (fV 6)) (gN 2) bYes (zAG 2 [] zAJ (aE (f2 oIxA (f2 oIxA (fV 0) (fC (.int 1))) (fV 2)) (aE (fV 1) aNil))))) fNil))))))))))
def zC0:VFun:=runV 8 [1] zDT
def zER:VS:=
   (sSeq (sSet 3 (xV (zAG 3 [1] zAO (aE (fV 0) (aO 1 (aE (fLst (zA6 (fV 2) (zA6 (f2 oMin (fC (.int 64)) (f2 zCQ (fV 2) (zAG 3 [1] zAI (aE (fV 0) (aO 1 (aE (fC (.int 9)) aNil)))))) (zA6 (fC (.int 64)) fNil)))) aNil))))))
   (sSeq (sSet 4 (xV (zAG 3 [1] zAO (aE (fV 0) (aO 1 (aE (fLst (zA6 (fC (.int 2)) (zA6 (fC (.int 4)) (zA6 (fC (.int 1000)) fNil)))) aNil))))))
   (sRet (zCM [0,1,4] 1 (iR1 (fV 3)) (gN 3) bYes (zAG 3 [1] zAI (aE (fV 0) (aO 1 (aE (fV 2) aNil))))))))
def zCK:VFun:=runV 5 [1] zER
def zHM:VS:=
   (sIf (bAnd (fB (f2 (oInD false) (f2 oIxA (fV 11) (fC (.int 0))) (fTup (zA6 (fC (.str "store")) (zA6 (fC (.str "put")) fNil))))) (fB (f2 oEq (f2 oIxA (fV 11) (fC (.int 1))) (f2 oIxA (fV 7) (fC (.int 1))))))
   (sIf (bOr (fB (f2 oEq (f2 oIxA (fV 11) (fC (.int 0))) (fC (.str "store")))) (fB (f2 oNe (f2 oIxA (fV 4) (f2 oIxA (fV 11) (fC (.int 3)))) (fC (.int 0)))))
   (sSet 9 (xV (f2 oIxA (fV 4) (f2 oIxA (fV 11) (fC (.int 2))))))
   sNil)
   sNil)
def zJ9:VS:=
   (sSeq (sSet 7 (xV (f2 oIxA (f2 oIxA (fV 2) (fC (.int 1))) (fV 5))))
   (sSeq (sSet 8 (xV (zCM [4] 1 (iSeq (zAG 2 [] zG6 (aE (fV 2) (aE (fV 5) aNil)))) (gN 1) bYes (f2 oIxA (fV 0) (fV 1)))))
   (sIf (bNot (fB (zAG 2 [] zG8 (aE (fV 2) (aE (fV 5) aNil)))))
   (sIf (fB (f2 zIR (fV 6) (fC .non)))
   (sRet (fC (.bl false)))
   sNil)
   (sIf (fB (f2 oEq (f2 oIxA (fV 7) (fC (.int 0))) (fC (.str "number"))))
   (sIf (fB (f2 oNe (fV 6) (f2 oIxA (fV 7) (fC (.int 1)))))
   (sRet (fC (.bl false)))
   sNil)
   (sIf (fB (f2 (oInD true) (f2 oIxA (fV 7) (fC (.int 0))) (fTup (zA6 (fC (.str "load")) (zA6 (fC (.str "take")) fNil)))))
   (sIf (fB (f2 oNe (fV 6) (zAG 2 [] zDY (aE (f2 oIxA (fV 7) (fC (.int 0))) (aE (fV 8) aNil)))))
   (sRet (fC (.bl false)))
   sNil)
   (sIf (bAnd (fB (f2 oEq (f2 oIxA (fV 7) (fC (.int 0))) (fC (.str "take")))) (fB (f2 oEq (f2 oIxA (fV 8) (fC (.int 0))) (fC (.int 0)))))
   (sIf (fB (f2 oNe (fV 6) (f2 oIxA (fV 8) (fC (.int 1)))))
   (sRet (fC (.bl false)))
   sNil)
   (sSeq (sSet 9 (xV (f2 oIxA (fV 3) (f2 oIxA (fV 7) (fC (.int 1))))))
   (sSeq (sFor (zHQ (fSl (f2 oIxA (fV 2) (fC (.int 1))) pNo (pSo (fV 5)))) (gTp 2 (zAW (gN 10) (zAW (gN 11) zDR)))
   zHM)
   (sIf (fB (f2 oNe (fV 6) (fV 9)))
   (sRet (fC (.bl false)))
   sNil)))))))))
def zVZ:VS:=
   (sSeq (sSet 1 (xO (fLst fNil)))
   (sSeq (sSet 2 (xV (zAG 3 [1] zC0 (aE (fV 0) (aO 1 (aE (fC (.int 20)) aNil))))))
   (sSeq (sSet 3 (xV (zAG 3 [1] zCK (aE (fV 0) (aO 1 (aE (f2 oIxA (fV 2) (fC (.int 0))) aNil))))))
   (sSeq (sSet 4 (xV (zAG 2 [] zDV (aE (fV 2) (aE (fV 3) aNil)))))
   (sSeq (sFor (zHQ (fV 4)) (gTp 2 (zAW (gN 5) (zAW (gN 6) zDR)))
   zJ9)
   (sRet (fOr (f2 oIsN (f2 oIxA (zAG 2 [] zKW (aE (fV 2) (aE (fV 3) aNil))) (fC (.int 1))) (fC .non)) (f2 oEq (f2 oIxA (f2 oIxA (zAG 2 [] zKW (aE (fV 2) (aE (fV 3) aNil))) (fC (.int 1))) (fC (.int 0))) (f1 oLen (fV 4))))))))))
def zLO:VFun:=runV 12 [] zVZ
end L2
namespace RR
open PySem L2
structure Txt(K:W.Frag)(mg:Str->Option Value):Prop where
 fnm: ∀x a,W.nsIn K mainGlobals x=some (some (.ref a))->mg x=some (.ref a)
 n_len:mg "len"=none
 n_range:mg "range"=none
 n_min:mg "min"=none
 n_max:mg "max"=none
 zEH:mg "list"=none
 n_tuple:mg "tuple"=none
 n_sorted:mg "sorted"=none
 n_isinstance:mg "isinstance"=none
 n_bool:mg "bool"=none
 n_int:mg "int"=none
 n_str:mg "str"=none
 n_enumerate:mg "enumerate"=none
 n_zip:mg "zip"=none
 n_all:mg "all"=none
 n_dict:mg "dict"=none
 v_DEEDS: ∃u v,mg "DEEDS"=some u/\RelV v u/\ ∀N H M,Rep K N H M v zQW
 v_DEED_PARTS: ∃u v,mg "DEED_PARTS"=some u/\RelV v u/\ ∀N H M,Rep K N H M v zGH
 v_MADE: ∃u v,mg "MADE"=some u/\RelV v u/\ ∀N H M,Rep K N H M v zEJ
 v_MOST_CELLS: ∃u v,mg "MOST_CELLS"=some u/\RelV v u/\ ∀N H M,Rep K N H M v zE5
 v_MOST_PLACE: ∃u v,mg "MOST_PLACE"=some u/\RelV v u/\ ∀N H M,Rep K N H M v zE4
 v_MOST_ROWS: ∃u v,mg "MOST_ROWS"=some u/\RelV v u/\ ∀N H M,Rep K N H M v zEU
 v_MOST_SURE: ∃u v,mg "MOST_SURE"=some u/\RelV v u/\ ∀N H M,Rep K N H M v zET
 v_MOST_WORD: ∃u v,mg "MOST_WORD"=some u/\RelV v u/\ ∀N H M,Rep K N H M v zB2
 v_OTHER_PARTS: ∃u v,mg "OTHER_PARTS"=some u/\RelV v u/\ ∀N H M,Rep K N H M v zFG
 v_READERS: ∃u v,mg "READERS"=some u/\RelV v u/\ ∀N H M,Rep K N H M v zCO
 v_WRITERS: ∃u v,mg "WRITERS"=some u/\RelV v u/\ ∀N H M,Rep K N H M v zB0
section
variable{P:Program}{w:World}{K:W.Frag}{mg:Str->Option Value}{base:Heap}{f:Addr}{fd:FuncData}
noncomputable abbrev Nx0:List Str:=["thing","low","high"]
noncomputable abbrev Qx0:List Str:=["thing","low","high"]
theorem yBM:zAE Nx0 Qx0 (zA5 (top 8)):=mkSc
theorem yCZ(F:Fun K "is_whole" "is_whole" (top 8) f fd) (T:Txt K mg):
  FnOk P w K mg base CX0 1 f fd Qx0 (spV K [] 3 zAU):=
 okW P w K mg base Nx0 Qx0 0 zFW [] F yBM fun _ _ _ _ _ _ hr hu hu1=>by
  refine(zA2 ?_ (zA3 ?_))
  ·exact(zAY (vt_w (zIE (zCZ (visi T.n_isinstance (vv 0) (vty T.n_bool zW5))) (zEX (zD4 (zCZ (visi T.n_isinstance (vv 0) (vty T.n_int yAK)))))))
   (zA3 (zAA zEF))
   zAF)
  ·exact(zAA (zRB zPM zPM s_le s_le (vv 1) (vv 0) (vv 2)))
noncomputable abbrev Nx1:List Str:=["a","b"]
noncomputable abbrev Qx1:List Str:=["a","b"]
theorem yBL:zAE Nx1 Qx1 (zA5 (top 9)):=mkSc
theorem yCY(F:Fun K "plus" "plus" (top 9) f fd) (T:Txt K mg):
  FnOk P w K mg base CX0 1 f fd Qx1 (spV K [] 2 zI9):=
 okW P w K mg base Nx1 Qx1 0 zQ9 [] F yBL fun _ _ _ _ _ _ hr hu hu1=>by exact(zA3 (zAA (zD0 zE1 zGZ (zBQ (zDZ (K:=K) rfl) zCF (vv 0) (vv 1)) (zBQ (zDZ (K:=K) rfl) zCF (zBE (by rfl) T.v_MOST_WORD) zA1))))
noncomputable abbrev Nx2:List Str:=["a","b"]
noncomputable abbrev Qx2:List Str:=["a","b"]
theorem yBK:zAE Nx2 Qx2 (zA5 (top 10)):=mkSc
theorem yCX(F:Fun K "minus" "minus" (top 10) f fd) (T:Txt K mg):
  FnOk P w K mg base CX0 1 f fd Qx2 (spV K [] 2 zG7):=
 okW P w K mg base Nx2 Qx2 0 zLD [] F yBK fun _ _ _ _ _ _ hr hu hu1=>by exact(zA3 (zAA (zD0 zE1 zGZ (zD0 zGE zJR (vv 0) (vv 1)) (zBQ (zDZ (K:=K) rfl) zCF (zBE (by rfl) T.v_MOST_WORD) zA1))))
noncomputable abbrev Nx3:List Str:=["a","b"]
noncomputable abbrev Qx3:List Str:=["a","b"]
theorem yBJ:zAE Nx3 Qx3 (zA5 (top 11)):=mkSc
theorem yCW(F:Fun K "times" "times" (top 11) f fd) (T:Txt K mg):
  FnOk P w K mg base CX0 1 f fd Qx3 (spV K [] 2 zG5):=
 okW P w K mg base Nx3 Qx3 0 zLB [] F yBJ fun _ _ _ _ _ _ hr hu hu1=>by exact(zA3 (zAA (zD0 zE1 zGZ (zBQ (zK5 (K:=K) rfl) zHL (vv 0) (vv 1)) (zBQ (zDZ (K:=K) rfl) zCF (zBE (by rfl) T.v_MOST_WORD) zA1))))
noncomputable abbrev Nx4:List Str:=["a","b"]
noncomputable abbrev Qx4:List Str:=["a","b"]
theorem yBI:zAE Nx4 Qx4 (zA5 (top 12)):=mkSc
theorem yCV(F:Fun K "least" "least" (top 12) f fd) (T:Txt K mg):
  FnOk P w K mg base CX0 1 f fd Qx4 (spV K [] 2 zG9):=
 okW P w K mg base Nx4 Qx4 0 zLF [] F yBI fun _ _ _ _ _ _ hr hu hu1=>by exact(zA3 (zAA (zN8 (zHJ rfl) zUN (by rfl) T.n_min zQY (vv 0) (vv 1))))
noncomputable abbrev Nx5:List Str:=["a","b"]
noncomputable abbrev Qx5:List Str:=["a","b"]
theorem yBH:zAE Nx5 Qx5 (zA5 (top 13)):=mkSc
theorem yCU(F:Fun K "most" "most" (top 13) f fd) (T:Txt K mg):
  FnOk P w K mg base CX0 1 f fd Qx5 (spV K [] 2 zIB):=
 okW P w K mg base Nx5 Qx5 0 zQB [] F yBH fun _ _ _ _ _ _ hr hu hu1=>by exact(zA3 (zAA (zN8 (zKM rfl) zX8 (by rfl) T.n_max zTZ (vv 0) (vv 1))))
noncomputable abbrev Nx6:List Str:=["a","b"]
noncomputable abbrev Qx6:List Str:=["a","b"]
theorem yBG:zAE Nx6 Qx6 (zA5 (top 14)):=mkSc
theorem yCT(F:Fun K "less" "less" (top 14) f fd) (T:Txt K mg):
  FnOk P w K mg base CX0 1 f fd Qx6 (spV K [] 2 zIC):=
 okW P w K mg base Nx6 Qx6 0 zQC [] F yBG fun _ _ _ _ _ _ hr hu hu1=>by exact(zA3 (zAA (zGY (zAR zPL s_lt (vv 0) (vv 1) (zBC _)) zA1 zA1)))
noncomputable abbrev Nx7:List Str:=["a","b"]
noncomputable abbrev Qx7:List Str:=["a","b"]
theorem yBF:zAE Nx7 Qx7 (zA5 (top 15)):=mkSc
theorem yCS(F:Fun K "over" "over" (top 15) f fd) (T:Txt K mg):
  FnOk P w K mg base CX0 1 f fd Qx7 (spV K [] 2 zGI):=
 okW P w K mg base Nx7 Qx7 0 zMV [] F yBF fun _ _ _ _ _ _ hr hu hu1=>by exact(zA3 (zAA (zGY (vteq hu (vv 1) zA1) zCD (zD0 zL4 zOP (vv 0) (vv 1)))))
noncomputable abbrev Nx8:List Str:=["c","a","b"]
noncomputable abbrev Qx8:List Str:=["c","a","b"]
theorem yBE:zAE Nx8 Qx8 (zA5 (top 16)):=mkSc
theorem yCR(F:Fun K "pick" "pick" (top 16) f fd) (T:Txt K mg):
  FnOk P w K mg base CX0 1 f fd Qx8 (spV K [] 3 zIA):=
 okW P w K mg base Nx8 Qx8 0 zQA [] F yBE fun _ _ _ _ _ _ hr hu hu1=>by exact(zA3 (zAA (zGY (zAR (kNeD (K:=K) rfl hu) s_ne (vv 0) zA1 (zBC _)) (vv 1) (vv 2))))
noncomputable abbrev Nx9:List Str:=["deed","words","made"]
noncomputable abbrev Qx9:List Str:=["deed","words"]
theorem zWS:zAE Nx9 Qx9 (zA5 (top 18)):=mkSc
theorem yCQ(F:Fun K "done" "done" (top 18) f fd) (T:Txt K mg) (io:DefV P w K mg base "plus" 1 Qx1 [] zI9 f_x1) (im:DefV P w K mg base "minus" 1 Qx2 [] zG7 f_x2) (il:DefV P w K mg base "times" 1 Qx3 [] zG5 f_x3) (ik:DefV P w K mg base "least" 1 Qx4 [] zG9 f_x4) (ij:DefV P w K mg base "most" 1 Qx5 [] zIB f_x5) (ii:DefV P w K mg base "less" 1 Qx6 [] zIC f_x6) (ig:DefV P w K mg base "over" 1 Qx7 [] zGI f_x7) (i9:DefV P w K mg base "pick" 1 Qx8 [] zIA f_x8):
  FnOk P w K mg base CX0 2 f fd Qx9 (spV K [] 2 zDY):=
 okW P w K mg base Nx9 Qx9 1 zMW [] F zWS fun _ _ _ _ _ _ hr hu hu1=>by
  refine(zA2 ?_ (zA2 ?_ (zA3 ?_)))
  ·exact(zAY (vteq hu (vv 0) zAD)
   (zA3 (zAA (vcal i9 hr (zA8 (zA7 (vix hu1 (vv 1) zA1)) (zA8 (zA7 (vix hu1 (vv 1) zA1)) (zA8 (zA7 (vix hu1 (vv 1) zA1)) zA9))))))
   zAF)
  ·exact(zB1 zWS.nd (zC6 (zA7 (vix hu1 (zBE (by rfl) T.v_MADE) (vv 0)))))
  ·exact(zAA (zRD (zDN (K:=K) rfl T.fnm hr io (by decide) (zDN (K:=K) rfl T.fnm hr im (by decide) (zDN (K:=K) rfl T.fnm hr il (by decide) (zDN (K:=K) rfl T.fnm hr ik (by decide) (zDN (K:=K) rfl T.fnm hr ij (by decide) (zDN (K:=K) rfl T.fnm hr ii (by decide) (zDN (K:=K) rfl T.fnm hr ig (by decide) zUG))))))) (pv 2) (zA8 (zA7 (vix hu1 (vv 1) zA1)) (zA8 (zA7 (vix hu1 (vv 1) zA1)) zA9))))
noncomputable abbrev Nx10:List Str:=["deed"]
noncomputable abbrev Qx10:List Str:=["deed"]
theorem zX7:zAE Nx10 Qx10 (zA5 (top 27)):=mkSc
theorem zZE(F:Fun K "parts_of" "parts_of" (top 27) f fd) (T:Txt K mg):
  FnOk P w K mg base CX0 1 f fd Qx10 (spV K [] 1 zB7):=
 okW P w K mg base Nx10 Qx10 0 zI5 [] F zX7 fun _ _ _ _ _ _ hr hu hu1=>by
  refine(zA2 ?_ (zA3 ?_))
  ·exact (zAY (zAR (kInD (K := K) rfl hu) (zCT (neg := false)) (vv 0) (zBE (by rfl) T.v_DEEDS) (by with_unfolding_all rfl))
   (zA3 (zAA (zBE (by rfl) T.v_DEED_PARTS)))
   zAF)
  ·exact(zAA (zUD rfl hu1 (zBE (by rfl) T.v_OTHER_PARTS) (vv 0) ⟨rfl,rfl,rfl,rfl⟩))
noncomputable abbrev Nx11:List Str:=["row"]
noncomputable abbrev Qx11:List Str:=["row"]
theorem zX6:zAE Nx11 Qx11 (zA5 (top 28)):=mkSc
theorem zZD(F:Fun K "makes_word" "makes_word" (top 28) f fd) (T:Txt K mg):
  FnOk P w K mg base CX0 1 f fd Qx11 (spV K [] 1 zBJ):=
 okW P w K mg base Nx11 Qx11 0 zE3 [] F zX6 fun _ _ _ _ _ _ hr hu hu1=>by exact(zA3 (zAA (zDH (zH9 (K:=K) rfl hu) (zCT (neg:=true)) (vix hu1 (vv 0) zA1) (zBE (by rfl) T.v_WRITERS) (by with_unfolding_all rfl))))
noncomputable abbrev Nx12:List Str:=["row"]
noncomputable abbrev Qx12:List Str:=["row"]
theorem zX5:zAE Nx12 Qx12 (zA5 (top 29)):=mkSc
theorem zZC(F:Fun K "place_of" "place_of" (top 29) f fd) (T:Txt K mg):
  FnOk P w K mg base CX0 1 f fd Qx12 (spV K [] 1 zAS):=
 okW P w K mg base Nx12 Qx12 0 zC2 [] F zX5 fun _ _ _ _ _ _ hr hu hu1=>by exact(zA3 (zAA (zGY (vt_w (zIE (zAR (kInD (K:=K) rfl hu) (zCT (neg:=false)) (vix hu1 (vv 0) zA1) (zBE (by rfl) T.v_READERS) (by with_unfolding_all rfl)) (zEX (zAR (kInD (K:=K) rfl hu) (zCT (neg:=false)) (vix hu1 (vv 0) zA1) (zBE (by rfl) T.v_WRITERS) (by with_unfolding_all rfl))))) (vix hu1 (vv 0) zA1) zCD)))
noncomputable abbrev Nx13:List Str:=["row","deed","rest"]
noncomputable abbrev Qx13:List Str:=["row"]
theorem zT5:zAE Nx13 Qx13 (zA5 (top 30)):=mkSc
theorem zZB(F:Fun K "names_of" "names_of" (top 30) f fd) (T:Txt K mg) (c5:DefV P w K mg base "parts_of" 1 Qx10 [] zB7 f_x10):
  FnOk P w K mg base CX0 2 f fd Qx13 (spV K [] 1 zAX):=
 okW P w K mg base Nx13 Qx13 1 zI6 [] F zT5 fun _ _ _ _ _ _ hr hu hu1=>by
  refine(zA2 ?_ (zA3 ?_))
  ·exact(zNX (i:=1) (j:=2) rfl rfl zT5.nd rfl rfl (by decide) (Or.inl rfl) (Or.inl rfl) (vv 0))
  ·exact(zAA (zBB (zC8 ["part","given"] [] 2 (zSZ rfl (by rfl) T.n_zip (zA7 (vcal c5 hr (zA8 (vv 1) zA9))) (vv 2)) (fun hn _ _ _ _=>⟨(zD6 (K:=K) rfl rfl (zAN (zAH hn) (zAN (zAH hn) zC9))),(zLX (vteq hu (vv 0) zAD)),(vv 1)⟩))))
noncomputable abbrev Nx14:List Str:=["thing","able"]
noncomputable abbrev Qx14:List Str:=["thing","able"]
theorem zX4:zAE Nx14 Qx14 (zA5 (top 31)):=mkSc
theorem zZA(F:Fun K "may_name" "may_name" (top 31) f fd) (T:Txt K mg) (au:DefV P w K mg base "is_whole" 1 Qx0 [] zAU f_x0):
  FnOk P w K mg base CX0 2 f fd Qx14 (spV K [] 2 zCV):=
 okW P w K mg base Nx14 Qx14 1 zFR [] F zX4 fun _ _ _ _ _ _ hr hu hu1=>by exact(zA3 (zAA (zGA (vcal au hr (zA8 (vv 0) (zA8 zA1 (zA8 (zA7 (zD0 zGE zJR (vlen T.n_len (vv 1)) zA1)) zA9)))) (zGX (vix hu1 (vv 1) (vv 0))))))
noncomputable abbrev Nx15:List Str:=["part","thing","able"]
noncomputable abbrev Qx15:List Str:=["part","thing","able"]
theorem zX3:zAE Nx15 Qx15 (zA5 (top 32)):=mkSc
theorem zZ9(F:Fun K "fits" "fits" (top 32) f fd) (T:Txt K mg) (au:DefV P w K mg base "is_whole" 1 Qx0 [] zAU f_x0) (gc:DefV P w K mg base "may_name" 2 Qx14 [] zCV f_x14):
  FnOk P w K mg base CX0 3 f fd Qx15 (spV K [] 3 zEL):=
 okW P w K mg base Nx15 Qx15 2 zKB [] F zX3 fun _ _ _ _ _ _ hr hu hu1=>by
  refine(zA2 ?_ (zA2 ?_ (zA3 ?_)))
  ·exact(zAY (vteq hu (vv 0) zAD)
   (zA3 (zAA (vcal au hr (zA8 (vv 1) (zA8 zA1 (zA8 (zA7 (zBE (by rfl) T.v_MOST_WORD)) zA9))))))
   zAF)
  ·exact(zAY (vteq hu (vv 0) zAD)
   (zA3 (zAA (vcal au hr (zA8 (vv 1) (zA8 zA1 (zA8 (zA7 (zBE (by rfl) T.v_MOST_PLACE)) zA9))))))
   zAF)
  ·exact(zAA (vcal gc hr (zA8 (vv 1) (zA8 (vv 2) zA9))))
noncomputable abbrev Nx16:List Str:=["thing","able","deed","rest","parts"]
noncomputable abbrev Qx16:List Str:=["thing","able"]
theorem zON:zAE Nx16 Qx16 (zA5 (top 33)):=mkSc
theorem zZ8(F:Fun K "is_row" "is_row" (top 33) f fd) (T:Txt K mg) (c5:DefV P w K mg base "parts_of" 1 Qx10 [] zB7 f_x10) (gb:DefV P w K mg base "fits" 3 Qx15 [] zEL f_x15):
  FnOk P w K mg base CX0 4 f fd Qx16 (spV K [] 2 zEE):=
 okW P w K mg base Nx16 Qx16 3 zIY [] F zON fun _ _ _ _ _ _ hr hu hu1=>by
  refine(zA2 ?_ (zA2 ?_ (zA2 ?_ (zA2 ?_ (zA3 ?_)))))
  ·exact(zAY (vt_w (zIE (zD4 (zCZ (visi T.n_isinstance (vv 0) (vty T.n_tuple zD9)))) (zEX (vteq hu (vlen T.n_len (vv 0)) zA1))))
   (zA3 (zAA zEF))
   zAF)
  ·exact (zNX (i := 2) (j := 3) rfl rfl zON.nd rfl rfl (by decide) (Or.inl rfl) (Or.inl rfl) (vv 0))
  ·exact(zB1 zON.nd (zC6 (zA7 (zGY (zCZ (visi T.n_isinstance (vv 2) (vty T.n_str yAI))) (vcal c5 hr (zA8 (vv 2) zA9)) zCD))))
  ·exact(zAY (vt_w (zIE (zAR zPN zUO (vv 4) zCD (zBC _)) (zEX (zAR (kNeD (K:=K) rfl hu) s_ne (vlen T.n_len (vv 4)) (vlen T.n_len (vv 3)) (zBC _)))))
   (zA3 (zAA zEF))
   zAF)
  ·exact(zAA (zUF (kAll (K:=K) rfl rfl) zXA (by rfl) T.n_all zU0 (zBB (zC8 ["able","part","given"] [1] 2 (zSZ rfl (by rfl) T.n_zip (vv 4) (vv 3)) (fun hn _ _ _ _=>⟨(zD6 (K:=K) rfl rfl (zAN (zAH hn) (zAN (zAH hn) zC9))),zEG,(zA7 (vcal gb hr (zA8 (vv 1) (zA8 (vv 2) (zA8 (vv 0) zA9)))))⟩)))))
noncomputable abbrev Nx17:List Str:=["thing","sure","rows","able","row"]
noncomputable abbrev Qx17:List Str:=["thing"]
theorem zJQ:zAE Nx17 Qx17 (zA5 (top 34)):=mkSc
theorem zZ7(F:Fun K "is_block" "is_block" (top 34) f fd) (T:Txt K mg) (au:DefV P w K mg base "is_whole" 1 Qx0 [] zAU f_x0) (bz:DefV P w K mg base "makes_word" 1 Qx11 [] zBJ f_x11) (ga:DefV P w K mg base "is_row" 4 Qx16 [] zEE f_x16):
  FnOk P w K mg base CX0 5 f fd Qx17 (spV K [] 1 zC5):=
 okW P w K mg base Nx17 Qx17 4 zFY [] F zJQ fun _ _ _ _ _ _ hr hu hu1=>by
  refine(zA2 ?_ (zA2 ?_ (zA2 ?_ (zA2 ?_ (zA2 ?_ (zA2 ?_ (zA3 ?_)))))))
  ·exact(zAY (vt_w (zIE (zD4 (zCZ (visi T.n_isinstance (vv 0) (vty T.n_tuple zD9)))) (zEX (zAR (kNeD (K:=K) rfl hu) s_ne (vlen T.n_len (vv 0)) zA1 (zBC _)))))
   (zA3 (zAA zEF))
   zAF)
  ·exact(zJE (vv 0) (zD6 (K:=K) rfl rfl (zAN (zAH zJQ.nd) (zAN (zAH zJQ.nd) zC9))))
  ·exact (zAY (zD4 (zCZ (vcal au hr (zA8 (vv 1) (zA8 zA1 (zA8 (zA7 (zBE (by rfl) T.v_MOST_SURE)) zA9))))))
   (zA3 (zAA zEF))
   zAF)
  ·exact (zAY (vt_w (zIE (zD4 (zCZ (visi T.n_isinstance (vv 2) (vty T.n_tuple zD9)))) (zEX (zAR zYD s_gt (vlen T.n_len (vv 2)) (zBE (by rfl) T.v_MOST_ROWS) (zBC _)))))
   (zA3 (zAA zEF))
   zAF)
  ·exact(zB1 zJQ.nd (zGJ (zBO (zAM zAB))))
  ·exact(zEY PassesOwn.never rfl (zEZ rfl (vv 2)) (zAH zJQ.nd)
   (zA2 (zAY (zD4 (zCZ (vcal ga hr (zA8 (vv 4) (zBA (pv 3) zA9)))))
   (zA3 (zAA zEF))
   zAF)
   (zA3 (zD5 (K:=K) rfl PySem.F.slot_list_append PySem.F.type_list_append zBF zDK (pv 3) (zAM (zA0 (vcal bz hr (zA8 (vv 4) zA9)) zAB))))))
  ·exact(zAA zEF)
noncomputable abbrev Nx18:List Str:=["block","row","rows"]
noncomputable abbrev Qx18:List Str:=["block","row"]
theorem zT4:zAE Nx18 Qx18 (zA5 (top 35)):=mkSc
theorem zZ6(F:Fun K "row_at" "row_at" (top 35) f fd) (T:Txt K mg) (au:DefV P w K mg base "is_whole" 1 Qx0 [] zAU f_x0) (br:DefV P w K mg base "is_block" 5 Qx17 [] zC5 f_x17):
  FnOk P w K mg base CX0 6 f fd Qx18 (spV K [] 2 zDE):=
 okW P w K mg base Nx18 Qx18 5 zIX [] F zT4 fun _ _ _ _ _ _ hr hu hu1=>by
  refine(zA2 ?_ (zA2 ?_ (zA2 ?_ (zA3 ?_))))
  ·exact(zAY (zD4 (zCZ (vcal br hr (zA8 (vv 0) zA9))))
   (zA3 zGO)
   zAF)
  ·exact(zB1 zT4.nd (zC6 (zA7 (vix hu1 (vv 0) zA1))))
  ·exact(zAY (zD4 (zCZ (vcal au hr (zA8 (vv 1) (zA8 zA1 (zA8 (zA7 (zD0 zGE zJR (vlen T.n_len (vv 2)) zA1)) zA9))))))
   (zA3 zGO)
   zAF)
  ·exact(zAA (vix hu1 (vv 2) (vv 1)))
noncomputable abbrev Nx19:List Str:=["block","row"]
noncomputable abbrev Qx19:List Str:=["block","row"]
theorem zX2:zAE Nx19 Qx19 (zA5 (top 36)):=mkSc
theorem zZ5(F:Fun K "makes" "makes" (top 36) f fd) (T:Txt K mg) (bz:DefV P w K mg base "makes_word" 1 Qx11 [] zBJ f_x11) (bq:DefV P w K mg base "row_at" 6 Qx18 [] zDE f_x18):
  FnOk P w K mg base CX0 7 f fd Qx19 (spV K [] 2 zG8):=
 okW P w K mg base Nx19 Qx19 6 zLE [] F zX2 fun _ _ _ _ _ _ hr hu hu1=>by exact(zA3 (zAA (vcal bz hr (zA8 (zA7 (vcal bq hr (zA8 (vv 0) (zA8 (vv 1) zA9)))) zA9))))
noncomputable abbrev Nx20:List Str:=["block","row"]
noncomputable abbrev Qx20:List Str:=["block","row"]
theorem zX1:zAE Nx20 Qx20 (zA5 (top 37)):=mkSc
theorem zZ4(F:Fun K "named" "named" (top 37) f fd) (T:Txt K mg) (bu:DefV P w K mg base "names_of" 2 Qx13 [] zAX f_x13) (bq:DefV P w K mg base "row_at" 6 Qx18 [] zDE f_x18):
  FnOk P w K mg base CX0 7 f fd Qx20 (spV K [] 2 zG6):=
 okW P w K mg base Nx20 Qx20 6 zLC [] F zX1 fun _ _ _ _ _ _ hr hu hu1=>by exact(zA3 (zAA (vcal bu hr (zA8 (zA7 (vcal bq hr (zA8 (vv 0) (zA8 (vv 1) zA9)))) zA9))))
noncomputable abbrev Nx21:List Str:=["thing","sure"]
noncomputable abbrev Qx21:List Str:=["thing","sure"]
theorem zX0:zAE Nx21 Qx21 (zA5 (top 40)):=mkSc
theorem zZ3(F:Fun K "is_cells" "is_cells" (top 40) f fd) (T:Txt K mg) (au:DefV P w K mg base "is_whole" 1 Qx0 [] zAU f_x0):
  FnOk P w K mg base CX0 2 f fd Qx21 (spV K [] 2 zCY):=
 okW P w K mg base Nx21 Qx21 1 zFX [] F zX0 fun _ _ _ _ _ _ hr hu hu1=>by
  refine(zA2 ?_ (zA3 ?_))
  ·exact (zAY (vt_w (zIE (zD4 (zCZ (visi T.n_isinstance (vv 0) (vty T.zEH zG2)))) (zEX (zD4 (zLU zPM zPM s_le s_le (vv 1) (vlen T.n_len (vv 0)) (zBE (by rfl) T.v_MOST_CELLS))))))
   (zA3 (zAA zEF))
   zAF)
  ·exact(zAA (zUF (kAll (K:=K) rfl rfl) zXA (by rfl) T.n_all zU0 (zBB (zC8 ["word"] [] 1 (zEZ rfl (vv 0)) (fun hn _ _ _ _=>⟨(zAH hn),zEG,(zA7 (vcal au hr (zA8 (vv 0) (zA8 zA1 (zA8 (zA7 (zBE (by rfl) T.v_MOST_WORD)) zA9)))))⟩)))))
noncomputable abbrev Nx22:List Str:=["deed","words"]
noncomputable abbrev Qx22:List Str:=["deed","words"]
theorem zWZ:zAE Nx22 Qx22 (zA5 (top 41)):=mkSc
theorem zZ2(F:Fun K "touches" "touches" (top 41) f fd) (T:Txt K mg):
  FnOk P w K mg base CX0 1 f fd Qx22 (spV K [] 2 zBW):=
 okW P w K mg base Nx22 Qx22 0 zFC [] F zWZ fun _ _ _ _ _ _ hr hu hu1=>by
  refine(zA2 ?_ (zA2 ?_ (zA3 ?_)))
  ·exact(zAY (vteq hu (vv 0) zAD)
   (zA3 (zAA (zDH (kNeD (K:=K) rfl hu) s_ne (vix hu1 (vv 1) zA1) zA1 (zBC _))))
   zAF)
  ·exact(zAY (vteq hu (vv 0) zAD)
   (zA3 (zAA (zDH (kNeD (K:=K) rfl hu) s_ne (vix hu1 (vv 1) zA1) zA1 (zBC _))))
   zAF)
  ·exact(zAA zEF)
noncomputable abbrev Nx23:List Str:=["deed","place","words","cells"]
noncomputable abbrev Qx23:List Str:=["deed","place","words","cells"]
theorem zWY:zAE Nx23 Qx23 (zA5 (top 42)):=mkSc
theorem zZ1(F:Fun K "do_on_cell" "do_on_cell" (top 42) f fd) (T:Txt K mg) (g0:DefV P w K mg base "touches" 1 Qx22 [] zBW f_x22):
  FnOk P w K mg base CX0 2 f fd Qx23 (spV K [3] 4 zAP):=
 okW P w K mg base Nx23 Qx23 1 zAV [3] F zWY fun _ _ _ _ _ _ hr hu hu1=>by
  refine(zA2 ?_ (zA2 ?_ (zA2 ?_ (zA3 ?_))))
  ·exact(zAY (zD4 (zCZ (vcal g0 hr (zA8 (vv 0) (zA8 (vv 2) zA9)))))
   (zA3 (zAA (zAT (zA0 (zGY (vteq hu (vv 0) zAD) (vix hu1 (vv 2) zA1) zCD) (zA0 zCD zAB)))))
   zAF)
  ·exact(zAY (zAR zYE s_ge (vv 1) (vlen T.n_len (vo 3)) (zBC _))
   (zA3 (zAA (zAT (zA0 zCD (zA0 zAD zAB)))))
   zAF)
  ·exact (zAY (zAR (kInD (K := K) rfl hu) (zCT (neg := false)) (vv 0) (zBE (by rfl) T.v_WRITERS) (by with_unfolding_all rfl))
   (zA2 (zWA rfl (pv 3) (vv 1) (zA7 (vix hu1 (vv 2) zA1)))
   (zA3 (zAA (zAT (zA0 zCD (zA0 zCD zAB))))))
   zAF)
  ·exact(zAA (zAT (zA0 (vix hu1 (vo 3) (vv 1)) (zA0 zCD zAB))))
noncomputable abbrev Nx24:List Str:=["row","words","cells","shift","deed","place","word"]
noncomputable abbrev Qx24:List Str:=["row","words","cells","shift"]
theorem zM5:zAE Nx24 Qx24 (zA5 (top 43)):=mkSc
theorem zTK{Td:Addr}(F:FunD K "do_row" "do_row" (top 43) (.ref Td) f fd) (T:Txt K mg) (cw:DefV P w K mg base "done" 2 Qx9 [] zDY f_x9) (db:DefV P w K mg base "place_of" 1 Qx12 [] zAS f_x12) (da:DefV P w K mg base "do_on_cell" 2 Qx23 [3] zAP f_x23):
  FnOk P w K mg base CX0 3 f fd Qx24 (spV K [2] 4 zBU):=
 FunD.okV (P:=P) (w:=w) (mg:=mg) (base:=base) (K:=K) (N:=Nx24) (ps:=Qx24) (k:=2) (g:=zEB) (ml:=[2]) F zM5 (by decide) fun cdv A outer s H E hr=>by
  have hu:=hr.units
  have hu1:=yA8 hr
  refine(zA2 ?_ (zA2 ?_ (zA2 ?_ (zA2 ?_ (zA2 ?_ (zA3 ?_))))))
  ·exact(zB1 zM5.nd (zC6 (zA7 (vix hu1 (vv 0) zA1))))
  ·exact(zAY (vteq hu (vv 4) zAD)
   (zA3 (zAA (zAT (zA0 (vix hu1 (vv 0) zA1) (zA0 zCD zAB)))))
   zAF)
  ·exact(zB1 zM5.nd (zC6 (zA7 (vcal db hr (zA8 (vv 0) zA9)))))
  ·exact(zAY (zAR zL3 zOO (vv 5) zCD (zBC _))
   (zA3 (zAA (vcal da hr (zA8 (vv 4) (zA8 (zA7 (zBQ (zDZ (K:=K) rfl) zCF (vv 5) (vv 3))) (zA8 (vv 1) (zBA (pv 2) zA9)))))))
   zAF)
  ·exact(zB1 zM5.nd (zC6 (zA7 (vcal cw hr (zA8 (vv 4) (zA8 (vv 1) zA9))))))
  ·exact(zAA (zAT (zA0 (vv 6) (zA0 (zGY (zAR zPN zUO (vv 6) zCD (zBC _)) zAD zCD) zAB))))
noncomputable abbrev Nx25:List Str:=["rows","cells","words","at","row","word","why"]
noncomputable abbrev Qx25:List Str:=["rows","cells"]
theorem zHV:zAE Nx25 Qx25 (zA5 (top 44)):=mkSc
theorem zZ0(F:Fun K "do_rows" "do_rows" (top 44) f fd) (T:Txt K mg) (bu:DefV P w K mg base "names_of" 2 Qx13 [] zAX f_x13) (gx:DefV P w K mg base "do_row" 3 Qx24 [2] zBU f_x24) (cx:DefD P w K mg base "do_row" 3 Qx24 (spV K [2] 4 zBU) f_x24 (.int 0)):
  FnOk P w K mg base CX0 4 f fd Qx25 (spV K [1] 2 zCC):=
 okW P w K mg base Nx25 Qx25 3 zFD [1] F zHV fun _ _ _ _ _ _ hr hu hu1=>by
  refine(zA2 ?_ (zA2 ?_ (zA3 ?_)))
  ·exact(zB1 zHV.nd (zGJ (zBO (zAM zAB))))
  ·exact (zEY PassesOwn.never rfl (zFK rfl (by rfl) T.n_enumerate (vv 0)) (zD6 (K := K) rfl rfl (zAN (zAH zHV.nd) (zAN (zAH zHV.nd) zC9)))
   (zA2 (zJE (zA7 (zRE (K:=K) (v:=(.int 0)) (d:=(.int 0)) rfl cx (fun _ _ _=>(.int _)) (fun _=>nofun) hr (by decide) (by rfl) (zA8 (vv 4) (zA8 (zBB (zC8 ["words","name"] [2] 1 (zEZ rfl (zA7 (vcal bu hr (zA8 (vv 4) zA9)))) (fun hn _ _ _ _=>⟨(zAH hn),zEG,(zA7 (vix hu1 (vo 0) (vv 1)))⟩))) (zBA (pv 1) zA9))))) (zD6 (K:=K) rfl rfl (zAN (zAH zHV.nd) (zAN (zAH zHV.nd) zC9))))
   (zA2 (zAY (zAR zL3 zOO (vv 6) zCD (zBC _))
   (zA3 (zAA (zAT (zIJ (pv 2) (zA0 (zAT (zA0 (vv 3) (zA0 (vv 6) zAB))) zAB)))))
   zAF)
   (zA3 (zD5 (K:=K) rfl PySem.F.slot_list_append PySem.F.type_list_append zBF zDK (pv 2) (zAM (zA0 (vv 5) zAB)))))))
  ·exact(zAA (zAT (zIJ (pv 2) (zA0 zCD zAB))))
noncomputable abbrev Nx26:List Str:=["block","cells"]
noncomputable abbrev Qx26:List Str:=["block","cells"]
theorem zWX:zAE Nx26 Qx26 (zA5 (top 45)):=mkSc
theorem zYZ(F:Fun K "check_run" "check_run" (top 45) f fd) (T:Txt K mg) (br:DefV P w K mg base "is_block" 5 Qx17 [] zC5 f_x17) (g7:DefV P w K mg base "is_cells" 2 Qx21 [] zCY f_x21):
  FnOk P w K mg base CX0 6 f fd Qx26 (spV K [] 2 zBR):=
 okW P w K mg base Nx26 Qx26 5 zES [] F zWX fun _ _ _ _ _ _ hr hu hu1=>by
  refine(zA2 ?_ (zA3 ?_))
  ·exact(zAY (zD4 (zCZ (vcal br hr (zA8 (vv 0) zA9))))
   (zA3 zGO)
   zAF)
  ·exact(zAY (zD4 (zCZ (vcal g7 hr (zA8 (vv 1) (zA8 (zA7 (vix hu1 (vv 0) zA1)) zA9)))))
   (zA3 zGO)
   zAF)
noncomputable abbrev Nx27:List Str:=["block","cells","then","words","fault"]
noncomputable abbrev Qx27:List Str:=["block","cells"]
theorem zM4:zAE Nx27 Qx27 (zA5 (top 46)):=mkSc
theorem zYY(F:Fun K "run" "run" (top 46) f fd) (T:Txt K mg) (bp:DefV P w K mg base "do_rows" 4 Qx25 [1] zCC f_x25) (bo:DefV P w K mg base "check_run" 6 Qx26 [] zBR f_x26):
  FnOk P w K mg base CX0 7 f fd Qx27 (spV K [] 2 zKW):=
 okW P w K mg base Nx27 Qx27 6 zVY [] F zM4 fun _ _ _ _ _ _ hr hu hu1=>by
  refine(zA2 ?_ (zA2 ?_ (zA2 ?_ (zA3 ?_))))
  ·exact(zNY (vcal bo hr (zA8 (vv 0) (zA8 (vv 1) zA9))))
  ·exact(zB1 zM4.nd (zGJ (zUA (zMT (K:=K) rfl) zEH (by rfl) T.zEH zG2 (vv 1))))
  ·exact(zJE (zA7 (vcal bp hr (zA8 (zA7 (vix hu1 (vv 0) zA1)) (zBA (pv 2) zA9)))) (zD6 (K:=K) rfl rfl (zAN (zAH zM4.nd) (zAN (zAH zM4.nd) zC9))))
  ·exact(zAA (zAT (zIJ (pv 2) (zA0 (vv 4) zAB))))
noncomputable abbrev Nx28:List Str:=["block","cells","words","fault"]
noncomputable abbrev Qx28:List Str:=["block","cells"]
theorem zOM:zAE Nx28 Qx28 (zA5 (top 47)):=mkSc
theorem zYX(F:Fun K "values" "values" (top 47) f fd) (T:Txt K mg) (bp:DefV P w K mg base "do_rows" 4 Qx25 [1] zCC f_x25) (bo:DefV P w K mg base "check_run" 6 Qx26 [] zBR f_x26):
  FnOk P w K mg base CX0 7 f fd Qx28 (spV K [] 2 zDV):=
 okW P w K mg base Nx28 Qx28 6 zIW [] F zOM fun _ _ _ _ _ _ hr hu hu1=>by
  refine(zA2 ?_ (zA2 ?_ (zA3 ?_)))
  ·exact(zNY (vcal bo hr (zA8 (vv 0) (zA8 (vv 1) zA9))))
  ·exact(zJE (zA7 (zRC (K:=K) (i:=1) (mF:=[]) rfl bp (by decide) hr (by decide) (by rfl) (yB4 (zA7 (vix hu1 (vv 0) zA1)) (zUB rfl (by rfl) T.zEH zG2 (vv 1))))) (zD6 (K:=K) rfl rfl (zAN (zAH zOM.nd) (zAN (zAH zOM.nd) zC9))))
  ·exact(zAA (vv 2))
noncomputable abbrev Nx29:List Str:=["_law_script","_law_k","_law_rest","_law_again"]
noncomputable abbrev Qx29:List Str:=["_law_script","_law_k"]
theorem zM3:zAE Nx29 Qx29 (zA5 (top 49)):=mkSc
theorem zYW(F:Fun K "_law_cell_at" "_law_cell_at" (top 49) f fd) (T:Txt K mg):
  FnOk P w K mg base CX0 1 f fd Qx29 (spV K [] 2 zBG):=
 okW P w K mg base Nx29 Qx29 0 zDS [] F zM3 fun _ _ _ _ _ _ hr hu hu1=>by
  refine(zA2 ?_ (zA2 ?_ (zA2 ?_ (zA2 ?_ (zA3 ?_)))))
  ·exact(zAY (zAR zPL s_lt (vv 1) (vlen T.n_len (vv 0)) (zBC _))
   (zA3 (zAA (vix hu1 (vv 0) (vv 1))))
   zAF)
  ·exact(zAY (vteq hu (vv 0) (zBB (zBO (zAM zAB))))
   (zA3 (zAA zA1))
   zAF)
  ·exact(zB1 zM3.nd (zC6 (zA7 (vix hu1 (vv 0) (zD0 zE1 zGZ (vv 1) (vlen T.n_len (vv 0)))))))
  ·exact (zEY PassesOwn.never rfl (zF0 (by rfl) T.n_range (zN8 (zHJ rfl) zUN (by rfl) T.n_min zQY (zD0 zL4 zOP (vv 1) (vlen T.n_len (vv 0))) zA1)) (zAH zM3.nd)
   (zA3 (zB1 zM3.nd (zC6 (zA7 (zD0 zL4 zOP (vv 2) zA1))))))
  ·exact(zAA (zBQ (zDZ (K:=K) rfl) zCF (zBQ (zDZ (K:=K) rfl) zCF (zBQ (zK5 (K:=K) rfl) zHL (vix hu1 (vv 0) (zD0 zE1 zGZ (vv 1) (vlen T.n_len (vv 0)))) zA1) (vv 1)) (zBQ (zK5 (K:=K) rfl) zHL (vv 2) zA1)))
noncomputable abbrev Nx30:List Str:=["_law_script","_law_k","_law_bound","_law_drawn"]
noncomputable abbrev Qx30:List Str:=["_law_script","_law_k","_law_bound"]
theorem zT3:zAE Nx30 Qx30 (zA5 (top 50)):=mkSc
theorem zYV(F:Fun K "_law_mixed" "_law_mixed" (top 50) f fd) (T:Txt K mg) (fu:DefV P w K mg base "_law_cell_at" 1 Qx29 [] zBG f_x29):
  FnOk P w K mg base CX0 2 f fd Qx30 (spV K [] 3 zCJ):=
 okW P w K mg base Nx30 Qx30 1 zEQ [] F zT3 fun _ _ _ _ _ _ hr hu hu1=>by
  refine(zA2 ?_ (zA3 ?_))
  ·exact(zB1 zT3.nd (zC6 (zA7 (zD0 zE1 zGZ (zBQ (zDZ (K:=K) rfl) zCF (zBQ (zDZ (K:=K) rfl) zCF (zBQ (zK5 (K:=K) rfl) zHL (vcal fu hr (zA8 (vv 0) (zA8 (vv 1) zA9))) zA1) (zBQ (zK5 (K:=K) rfl) zHL zA1 (vv 1))) zA1) zA1))))
  ·exact(zAA (zD0 zE1 zGZ (zD0 zE1 zGZ (zD0 zE1 zGZ (zD0 zYA yBN (vv 3) zA1) zA1) zA1) (vv 2)))
noncomputable abbrev Nx31:List Str:=["_law_script","_law_town","_law_bound"]
noncomputable abbrev Qx31:List Str:=["_law_script","_law_town","_law_bound"]
theorem zWW:zAE Nx31 Qx31 (zA5 (top 51)):=mkSc
theorem zYU(F:Fun K "_law_draw" "_law_draw" (top 51) f fd) (T:Txt K mg) (ft:DefV P w K mg base "_law_mixed" 2 Qx30 [] zCJ f_x30):
  FnOk P w K mg base CX0 3 f fd Qx31 (spV K [1] 3 zAI):=
 okW P w K mg base Nx31 Qx31 2 zFV [1] F zWW fun _ _ _ _ _ _ hr hu hu1=>by
  refine(zA2 ?_ (zA3 ?_))
  ·exact(zD5 (K:=K) rfl PySem.F.slot_list_append PySem.F.type_list_append zBF zDK (pv 1) (zAM (zA0 zA1 zAB)))
  ·exact(zAA (vcal ft hr (zA8 (vv 0) (zA8 (zA7 (vlen T.n_len (vo 1))) (zA8 (vv 2) zA9)))))
noncomputable abbrev Nx32:List Str:=["_law_script","_law_town","_law_some"]
noncomputable abbrev Qx32:List Str:=["_law_script","_law_town","_law_some"]
theorem zWV:zAE Nx32 Qx32 (zA5 (top 52)):=mkSc
theorem zYT(F:Fun K "_law_pick" "_law_pick" (top 52) f fd) (T:Txt K mg) (ah:DefV P w K mg base "_law_draw" 3 Qx31 [1] zAI f_x31):
  FnOk P w K mg base CX0 4 f fd Qx32 (spV K [1] 3 zAO):=
 okW P w K mg base Nx32 Qx32 3 zFT [1] F zWV fun _ _ _ _ _ _ hr hu hu1=>by exact(zA3 (zAA (vix hu1 (vv 2) (vcal ah hr (zA8 (vv 0) (zBA (pv 1) (zA8 (zA7 (vlen T.n_len (vv 2))) zA9)))))))
noncomputable abbrev Nx33:List Str:=["_law_script","_law_town","_law_seen","_law_deed","_law_room"]
noncomputable abbrev Qx33:List Str:=["_law_script","_law_town","_law_seen","_law_deed","_law_room"]
theorem zWU:zAE Nx33 Qx33 (zA5 (top 53)):=mkSc
theorem zYS(F:Fun K "_law_place" "_law_place" (top 53) f fd) (T:Txt K mg) (ah:DefV P w K mg base "_law_draw" 3 Qx31 [1] zAI f_x31) (ag:DefV P w K mg base "_law_pick" 4 Qx32 [1] zAO f_x32):
  FnOk P w K mg base CX0 5 f fd Qx33 (spV K [1,2] 5 zB9):=
 okW P w K mg base Nx33 Qx33 4 zEP [1,2] F zWU fun _ _ _ _ _ _ hr hu hu1=>by
  refine(zA2 ?_ (zA3 ?_))
  ·exact(zNZ hu1 (pv 2) (vv 3) (zA7 (zD0 zE1 zGZ (zBQ (zDZ (K:=K) rfl) zCF (zRA hu1 (pv 2) (vv 3) (zA7 (vcal ah hr (zA8 (vv 0) (zBA (pv 1) (zA8 (vv 4) zA9))))) ⟨rfl,rfl,rfl,rfl⟩) (vcal ag hr (zA8 (vv 0) (zBA (pv 1) (zA8 (zBB (zBO (zAM (zA0 zA1 (zA0 zA1 (zA0 zA1 (zA0 zA1 (zA0 zA1 zAB)))))))) zA9))))) (vv 4))) rfl)
  ·exact(zAA (vix hu1 (vo 2) (vv 3)))
noncomputable abbrev Nx34:List Str:=["_law_script","_law_town","_law_made","_law_seen","_law_room","_law_kind","_law_a","_law_b","_law_c"]
noncomputable abbrev Qx34:List Str:=["_law_script","_law_town","_law_made","_law_seen","_law_room"]
theorem zJP:zAE Nx34 Qx34 (zA5 (top 54)):=mkSc
theorem zYR(F:Fun K "_law_row" "_law_row" (top 54) f fd) (T:Txt K mg) (ah:DefV P w K mg base "_law_draw" 3 Qx31 [1] zAI f_x31) (ag:DefV P w K mg base "_law_pick" 4 Qx32 [1] zAO f_x32) (bh:DefV P w K mg base "_law_place" 5 Qx33 [1,2] zB9 f_x33):
  FnOk P w K mg base CX0 6 f fd Qx34 (spV K [1,3] 5 zDM):=
 okW P w K mg base Nx34 Qx34 5 zHC [1,3] F zJP fun _ _ _ _ _ _ hr hu hu1=>by
  refine(zA2 ?_ (zA2 ?_ (zA2 ?_ (zA2 ?_ (zA2 ?_ (zA2 ?_ (zA2 ?_ (zA2 ?_ (zA3 ?_)))))))))
  ·exact(zB1 zJP.nd (zC6 (zA7 (vcal ah hr (zA8 (vv 0) (zBA (pv 1) (zA8 zA1 zA9)))))))
  ·exact(zAY (vt_w (zIE (vteq hu (vv 2) (zBB (zBO (zAM zAB)))) (zEX (vteq hu (vv 5) zA1))))
   (zA2 (zAY (vteq hu (vcal ah hr (zA8 (vv 0) (zBA (pv 1) (zA8 zA1 zA9)))) zA1)
   (zA3 (zAA (zAT (zA0 zAD (zA0 (vcal ag hr (zA8 (vv 0) (zBA (pv 1) (zA8 (zBB (zBO (zAM (zA0 zA1 (zA0 zA1 (zA0 zA1 (zA0 zA1 (zA0 zA1 (zA0 (vcal ah hr (zA8 (vv 0) (zBA (pv 1) (zA8 zA1 zA9)))) zAB))))))))) zA9)))) zAB)))))
   zAF)
   (zA3 (zAA (zAT (zA0 zAD (zA0 (vcal bh hr (zA8 (vv 0) (zBA (pv 1) (zBA (pv 3) (zA8 zAD (zA8 (vv 4) zA9)))))) zAB))))))
   zAF)
  ·exact (zJE (zBB (zC8 ["_law_script","_law_town","_law_made","_law_k"] [0,1,2] 1 (zF0 (by rfl) T.n_range zA1) (fun hn _ _ _ _ => ⟨(zAH hn),zEG,(zA7 (vix hu1 (vv 2) (zN8 (zKM rfl) zX8 (by rfl) T.n_max zTZ zA1 (zD0 zGE zJR (zD0 zGE zJR (vlen T.n_len (vv 2)) zA1) (vcal ah hr (zA8 (vv 0) (zBA (pv 1) (zA8 zA1 zA9))))))))⟩))) (zD6 (K := K) rfl rfl (zAN (zAH zJP.nd) (zAN (zAH zJP.nd) (zAN (zAH zJP.nd) zC9)))))
  ·exact (zAY (zAR (kInD (K := K) rfl hu) (zCT (neg := false)) (vv 5) (zAT (zA0 zA1 (zA0 zA1 zAB))) (by with_unfolding_all rfl))
   (zA3 (zAA (zAT (zA0 zAD (zA0 (vcal bh hr (zA8 (vv 0) (zBA (pv 1) (zBA (pv 3) (zA8 zAD (zA8 (vv 4) zA9)))))) zAB)))))
   zAF)
  ·exact(zAY (vteq hu (vv 5) zA1)
   (zA3 (zAA (zAT (zA0 zAD (zA0 (vcal bh hr (zA8 (vv 0) (zBA (pv 1) (zBA (pv 3) (zA8 zAD (zA8 (vv 4) zA9)))))) (zA0 (vv 8) (zA0 (vv 6) zAB)))))))
   zAF)
  ·exact (zAY (zAR (kInD (K := K) rfl hu) (zCT (neg := false)) (vv 5) (zAT (zA0 zA1 (zA0 zA1 zAB))) (by with_unfolding_all rfl))
   (zA3 (zAA (zAT (zA0 zAD (zA0 (vcal bh hr (zA8 (vv 0) (zBA (pv 1) (zBA (pv 3) (zA8 zAD (zA8 (vv 4) zA9)))))) (zA0 (vv 6) zAB))))))
   zAF)
  ·exact(zAY (vteq hu (vv 5) zA1)
   (zA3 (zAA (zAT (zA0 zAD (zA0 (vcal bh hr (zA8 (vv 0) (zBA (pv 1) (zBA (pv 3) (zA8 zAD (zA8 (vv 4) zA9)))))) (zA0 (vv 6) (zA0 (vv 8) zAB)))))))
   zAF)
  ·exact(zAY (vteq hu (vv 5) zA1)
   (zA3 (zAA (zAT (zA0 zAD (zA0 (vv 8) (zA0 (vv 6) (zA0 (vv 7) zAB)))))))
   zAF)
  ·exact(zAA (zAT (zA0 (vix hu1 (zBB (zBO (zAM (zA0 zAD (zA0 zAD (zA0 zAD (zA0 zAD (zA0 zAD (zA0 zAD (zA0 zAD zAB)))))))))) (vcal ah hr (zA8 (vv 0) (zBA (pv 1) (zA8 zA1 zA9))))) (zA0 (vv 6) (zA0 (vv 7) zAB)))))
noncomputable abbrev Nx36:List Str:=["_law_script","_law_town","_law_rows_here","_law_made","_law_seen","_law_room","_law_last","_law_first","_law_names_here","_law_name","_law_at"]
noncomputable abbrev Qx36:List Str:=["_law_script","_law_town","_law_rows_here","_law_made","_law_seen","_law_room"]
theorem zHU:zAE Nx36 Qx36 (zA5 (top 56)):=mkSc
theorem zYP(F:Fun K "_law_next" "_law_next" (top 56) f fd) (T:Txt K mg) (ag:DefV P w K mg base "_law_pick" 4 Qx32 [1] zAO f_x32):
  FnOk P w K mg base CX0 5 f fd Qx36 (spV K [1,4] 6 zBT):=
 okW P w K mg base Nx36 Qx36 4 zEA [1,4] F zHU fun _ _ _ _ _ _ hr hu hu1=>by
  refine(zA2 ?_ (zA2 ?_ (zA2 ?_ (zA2 ?_ (zA2 ?_ (zA2 ?_ (zA3 ?_)))))))
  ·exact(zB1 zHU.nd (zC6 (zA7 (vix hu1 (vv 2) (zHR zA1)))))
  ·exact (zB1 zHU.nd (zC6 (zA7 (zGY (zAR (kInD (K := K) rfl hu) (zCT (neg := false)) (vix hu1 (vv 6) zA1) (zAT (zA0 zAD (zA0 zAD (zA0 zAD (zA0 zAD zAB))))) (by with_unfolding_all rfl)) zA1 zA1))))
  ·exact(zB1 zHU.nd (zGJ (zBO (zAM zAB))))
  ·exact(zEY PassesOwn.never rfl (zEZ rfl (zA7 (zIH rfl (vv 6) (zIF (vv 7)) zIG))) (zAH zHU.nd)
   (zA2 (zB1 zHU.nd (zC6 (zA7 (zBQ (zDZ (K:=K) rfl) zCF (zR9 rfl (vv 3) (vv 9)) (vcal ag hr (zA8 (vv 0) (zBA (pv 1) (zA8 (zBB (zBO (zAM (zA0 zA1 (zA0 zA1 (zA0 zA1 (zA0 zA1 (zA0 (zHR zA1) (zA0 zA1 (zA0 zA1 zAB)))))))))) zA9))))))))
   (zA3 (zD5 (K:=K) rfl PySem.F.slot_list_append PySem.F.type_list_append zBF zDK (pv 8) (zAM (zA0 (zGY (vt_w (zJD (zLU zPM zPL s_le s_lt zA1 (vv 10) (vlen T.n_len (vv 3))) (zGW (zAR (kNeD (K:=K) rfl hu) s_ne (vix hu1 (vv 3) (vv 10)) (zD0 zGE zJR (vlen T.n_len (vv 2)) zA1) (zBC _))))) (vix hu1 (vv 3) (vv 10)) (vv 9)) zAB))))))
  ·exact(zAY (vteq hu (vv 7) zA1)
   (zA3 (zAA (zBQ (zDZ (K:=K) rfl) zCF (zIH rfl (vv 6) zIG (zIF zA1)) (zO3 (zH8 (K:=K) rfl) zHK (by rfl) T.n_tuple zD9 (vo 8)))))
   zAF)
  ·exact(zNZ hu1 (pv 4) (vix hu1 (vv 6) zA1) (zA7 (zD0 zE1 zGZ (zBQ (zDZ (K:=K) rfl) zCF (vix hu1 (vv 6) zA1) zA1) (vv 5))) rfl)
  ·exact(zAA (zBQ (zDZ (K:=K) rfl) zCF (zAT (zA0 (vix hu1 (vv 6) zA1) (zA0 (vix hu1 (vo 4) (vix hu1 (vv 6) zA1)) zAB))) (zO3 (zH8 (K:=K) rfl) zHK (by rfl) T.n_tuple zD9 (vo 8))))
noncomputable abbrev Nx35:List Str:=["_law_script","_law_town","_law_many","_law_room","_law_rows_here","_law_made","_law_seen","_law_again"]
noncomputable abbrev Qx35:List Str:=["_law_script","_law_town","_law_many","_law_room"]
theorem zOL:zAE Nx35 Qx35 (zA5 (top 55)):=mkSc
theorem zYQ(F:Fun K "_law_rows" "_law_rows" (top 55) f fd) (T:Txt K mg) (ag:DefV P w K mg base "_law_pick" 4 Qx32 [1] zAO f_x32) (fo:DefV P w K mg base "_law_row" 6 Qx34 [1,3] zDM f_x34) (fj:DefV P w K mg base "_law_next" 5 Qx36 [1,4] zBT f_x36):
  FnOk P w K mg base CX0 7 f fd Qx35 (spV K [1] 4 zCW):=
 okW P w K mg base Nx35 Qx35 6 zFS [1] F zOL fun _ _ _ _ _ _ hr hu hu1=>by
  refine(zA2 ?_ (zA2 ?_ (zA3 ?_)))
  ·exact (zU8 (i := 4) (j := 5) (k := 6) rfl zOL.nd rfl rfl rfl (by decide) (by decide) (by decide) rfl rfl rfl (zGJ (zBO (zAM zAB))) (zGJ (zBO (zAM zAB))) (zGJ zR8) rfl)
  ·exact(zLV PassesOwn.never (zAR zPL s_lt (vlen T.n_len (vo 4)) (vv 2) (zBC _))
   (zA2 (zD5 (K:=K) rfl PySem.F.slot_list_append PySem.F.type_list_append zBF zDK (pv 4) (zAM (zA0 (vcal fo hr (zA8 (vv 0) (zBA (pv 1) (zBA (pv 5) (zBA (pv 6) (zA8 (vv 3) zA9)))))) zAB)))
   (zA2 (zAY (zAR (zH9 (K:=K) rfl hu) (zCT (neg:=true)) (vix hu1 (vix hu1 (vo 4) (zHR zA1)) zA1) (zAT (zA0 zAD (zA0 zAD zAB))) (by with_unfolding_all rfl))
   (zA3 (zD5 (K:=K) rfl PySem.F.slot_list_append PySem.F.type_list_append zBF zDK (pv 5) (zAM (zA0 (zD0 zGE zJR (vlen T.n_len (vo 4)) zA1) zAB))))
   zAF)
   (zA3 (zEY PassesOwn.never rfl (zF0 (by rfl) T.n_range (vcal ag hr (zA8 (vv 0) (zBA (pv 1) (zA8 (zBB (zBO (zAM (zA0 zA1 (zA0 zA1 (zA0 zA1 (zA0 zA1 (zA0 zA1 zAB)))))))) zA9))))) (zAH zOL.nd)
   (zA3 (zAY (vt_w (zJD (zAR zPL s_lt (vlen T.n_len (vo 4)) (vv 2) (zBC _)) (zGW (zAR (kNeD (K:=K) rfl hu) s_ne (vix hu1 (vix hu1 (vo 4) (zHR zA1)) zA1) zAD (zBC _)))))
   (zA2 (zD5 (K:=K) rfl PySem.F.slot_list_append PySem.F.type_list_append zBF zDK (pv 4) (zAM (zA0 (vcal fj hr (zA8 (vv 0) (zBA (pv 1) (zBA (pv 4) (zBA (pv 5) (zBA (pv 6) (zA8 (vv 3) zA9))))))) zAB)))
   (zA3 (zAY (zAR (zH9 (K:=K) rfl hu) (zCT (neg:=true)) (vix hu1 (vix hu1 (vo 4) (zHR zA1)) zA1) (zAT (zA0 zAD (zA0 zAD zAB))) (by with_unfolding_all rfl))
   (zA3 (zD5 (K:=K) rfl PySem.F.slot_list_append PySem.F.type_list_append zBF zDK (pv 5) (zAM (zA0 (zD0 zGE zJR (vlen T.n_len (vo 4)) zA1) zAB))))
   zAF)))
   zAF)))))))
  ·exact(zAA (zO3 (zH8 (K:=K) rfl) zHK (by rfl) T.n_tuple zD9 (vo 4)))
noncomputable abbrev Nx39:List Str:=["_law_row_here"]
noncomputable abbrev Qx39:List Str:=["_law_row_here"]
theorem zWT:zAE Nx39 Qx39 (zA5 (top 59)):=mkSc
theorem zYM(F:Fun K "_law_names" "_law_names" (top 59) f fd) (T:Txt K mg):
  FnOk P w K mg base CX0 1 f fd Qx39 (spV K [] 1 zBH):=
 okW P w K mg base Nx39 Qx39 0 zHD [] F zWT fun _ _ _ _ _ _ hr hu hu1=>by
  refine(zA2 ?_ (zA3 ?_))
  ·exact(zAY (vteq hu (vix hu1 (vv 0) zA1) zAD)
   (zA3 (zAA (zBB (zBO (zAM zAB)))))
   zAF)
  ·exact(zAA (zGY (zAR (kInD (K:=K) rfl hu) (zCT (neg:=false)) (vix hu1 (vv 0) zA1) (zAT (zA0 zAD (zA0 zAD (zA0 zAD (zA0 zAD zAB))))) (by with_unfolding_all rfl)) (zBB (zUA (zMT (K:=K) rfl) zEH (by rfl) T.zEH zG2 (zUC (zIH rfl (vv 0) (zIF zA1) zIG)))) (zBB (zUA (zMT (K:=K) rfl) zEH (by rfl) T.zEH zG2 (zUC (zIH rfl (vv 0) (zIF zA1) zIG))))))
noncomputable abbrev Nx40:List Str:=["_law_block_here","_law_row_here","_law_here"]
noncomputable abbrev Qx40:List Str:=["_law_block_here","_law_row_here"]
theorem zT2:zAE Nx40 Qx40 (zA5 (top 60)):=mkSc
theorem zYL(F:Fun K "_law_may" "_law_may" (top 60) f fd) (T:Txt K mg):
  FnOk P w K mg base CX0 1 f fd Qx40 (spV K [] 2 zCB):=
 okW P w K mg base Nx40 Qx40 0 zHE [] F zT2 fun _ _ _ _ _ _ hr hu hu1=>by
  refine(zA2 ?_ (zA2 ?_ (zA3 ?_)))
  ·exact(zB1 zT2.nd (zC6 (zA7 (vix hu1 (vix hu1 (vv 0) zA1) (vv 1)))))
  ·exact (zAY (zAR (kInD (K := K) rfl hu) (zCT (neg := false)) (vix hu1 (vv 2) zA1) (zAT (zA0 zAD (zA0 zAD (zA0 zAD (zA0 zAD zAB))))) (by with_unfolding_all rfl))
   (zA3 (zAA (zDH zYE s_ge (vix hu1 (vv 2) zA1) (vix hu1 (vv 0) zA1) (zBC _))))
   zAF)
  ·exact(zAA (zGA (veq hu (vix hu1 (vv 2) zA1) zAD) (zGX (zDH (zH9 (K:=K) rfl hu) (zCT (neg:=true)) (zIH rfl (vix hu1 (vix hu1 (vv 0) zA1) (vix hu1 (vv 2) zA1)) zIG (zIF zA1)) (zBB (zC8 ["_law_k"] [] 1 (zO2 (by rfl) T.n_range zA1 zA1) (fun hn _ _ _ _=>⟨(zAH hn),zEG,(zA7 (zAT (zA0 zAD (zA0 (vv 0) zAB))))⟩))) (by with_unfolding_all rfl)))))
noncomputable abbrev Nx41:List Str:=["_law_block_here","_law_made","_law_cells_here","_law_two","_law_there","_law_one","_law_here","_law_writes","_law_reasons"]
noncomputable abbrev Qx41:List Str:=["_law_block_here"]
theorem zGC:zAE Nx41 Qx41 (zA5 (top 61)):=mkSc
theorem zYK(F:Fun K "_law_must" "_law_must" (top 61) f fd) (T:Txt K mg) (f8:DefV P w K mg base "_law_names" 1 Qx39 [] zBH f_x39) (bn:DefV P w K mg base "_law_may" 1 Qx40 [] zCB f_x40):
  FnOk P w K mg base CX0 2 f fd Qx41 (spV K [] 1 zCX):=
 okW P w K mg base Nx41 Qx41 1 zFU [] F zGC fun _ _ _ _ _ _ hr hu hu1=>by
  refine(zA2 ?_ (zA2 ?_ (zA3 ?_)))
  ·exact (zU9 (i := 1) (j := 2) rfl zGC.nd rfl rfl (by decide) rfl rfl (zGJ (zBO (zAM zAB))) (zC6 (zA7 (zAT (zA0 zAD (zA0 zAD (zA0 zAD (zA0 zAD zAB))))))) rfl)
  ·exact (zEY PassesOwn.never rfl (zFK rfl (by rfl) T.n_enumerate (zA7 (vix hu1 (vv 0) zA1))) (zD6 (K := K) rfl rfl (zAN (zAH zGC.nd) (zAN (zAH zGC.nd) zC9)))
   (zA3 (zEY PassesOwn.never rfl (zFK rfl (by rfl) T.n_enumerate (zA7 (zIH rfl (vix hu1 (vv 0) zA1) zIG (zIF (vv 3))))) (zD6 (K:=K) rfl rfl (zAN (zAH zGC.nd) (zAN (zAH zGC.nd) zC9)))
   (zA2 (zLW false zGC.nd ["_law_row_here"] [] 1 (zEZ rfl (zA7 (zAT (zA0 (vv 6) (zA0 (vv 4) zAB))))) (fun hn _ _ _ _=>⟨(zAH hn),(zLX (zAR (kInD (K:=K) rfl hu) (zCT (neg:=false)) (vix hu1 (vv 0) zA1) (zAT (zA0 zAD (zA0 zAD zAB))) (by with_unfolding_all rfl))),(vv 0)⟩))
   (zA2 (zB1 zGC.nd (zGJ (zBO (zAM (zA0 (zDH (kInD (K:=K) rfl hu) (zCT (neg:=false)) (vv 5) (vcal f8 hr (zA8 (vv 4) zA9)) (by with_unfolding_all rfl)) (zA0 (zGA (vcal bn hr (zA8 (vv 0) (zA8 (vv 5) zA9))) (zGX (vcal bn hr (zA8 (vv 0) (zA8 (vv 3) zA9))))) zAB))))))
   (zA2 (zD5 (K:=K) rfl PySem.F.slot_list_append PySem.F.type_list_append zBF zDK (pv 8) (zAM (zA0 (zGA (zDH (kInD (K:=K) rfl hu) (zCT (neg:=false)) (vix hu1 (vv 6) zA1) (vv 2) (by with_unfolding_all rfl)) (zGA (zDH (kInD (K:=K) rfl hu) (zCT (neg:=false)) (vix hu1 (vv 4) zA1) (vv 2) (by with_unfolding_all rfl)) (zGA (veq hu (vix hu1 (vv 6) zA1) (vix hu1 (vv 4) zA1)) (zGX (zDH (kNeD (K:=K) rfl hu) s_ne (vv 7) (zBB (zBO (zAM zAB))) (zBC _)))))) zAB)))
   (zA2 (zD5 (K:=K) rfl PySem.F.slot_list_append PySem.F.type_list_append zBF zDK (pv 8) (zAM (zA0 (zGA (vcal bn hr (zA8 (vv 0) (zA8 (vv 5) zA9))) (zGX (zDH (kInD (K:=K) rfl hu) (zCT (neg:=false)) (vix hu1 (vv 4) zA1) (zAT (zA0 zAD (zA0 zAD zAB))) (by with_unfolding_all rfl)))) zAB)))
   (zA2 (zD5 (K:=K) rfl PySem.F.slot_list_append PySem.F.type_list_append zBF zDK (pv 8) (zAM (zA0 (zGA (vcal bn hr (zA8 (vv 0) (zA8 (vv 3) zA9))) (zGX (zDH (kInD (K:=K) rfl hu) (zCT (neg:=false)) (vix hu1 (vv 6) zA1) (zAT (zA0 zAD (zA0 zAD zAB))) (by with_unfolding_all rfl)))) zAB)))
   (zA3 (zAY (zAR (kInD (K:=K) rfl hu) (zCT (neg:=false)) zEF (vo 8) (by with_unfolding_all rfl))
   (zA3 (zD5 (K:=K) rfl PySem.F.slot_list_append PySem.F.type_list_append zBF zDK (pv 1) (zAM (zA0 (zAT (zA0 (vv 5) (zA0 (vv 3) zAB))) zAB))))
   zAF))))))))))
  ·exact(zAA (zBB (yB3 (zZZ (K:=K) rfl) zVK (by rfl) T.n_sorted zQX (zUC (vo 1)))))
noncomputable abbrev Nx42:List Str:=["_law_script","_law_town","_law_block_here","_law_pairs","_law_left","_law_made","_law_ready"]
noncomputable abbrev Qx42:List Str:=["_law_script","_law_town","_law_block_here"]
theorem zOJ:zAE Nx42 Qx42 (zA5 (top 62)):=mkSc
theorem zYJ(F:Fun K "_law_mixed_order" "_law_mixed_order" (top 62) f fd) (T:Txt K mg) (ag:DefV P w K mg base "_law_pick" 4 Qx32 [1] zAO f_x32) (f7:DefV P w K mg base "_law_must" 2 Qx41 [] zCX f_x41):
  FnOk P w K mg base CX0 5 f fd Qx42 (spV K [1] 3 zB8):=
 okW P w K mg base Nx42 Qx42 4 zCH [1] F zOJ fun _ _ _ _ _ _ hr hu hu1=>by
  refine(zA2 ?_ (zA2 ?_ (zA3 ?_)))
  ·exact (zU6 (i := 3) (j := 4) (k := 5) rfl rfl zOJ.nd rfl rfl rfl (by decide) (by decide) (by decide) (Or.inr rfl) (Or.inr rfl) (Or.inl rfl) (zC6 (zA7 (vcal f7 hr (zA8 (vv 2) zA9)))) (zGJ (zO0 rfl (by rfl) T.zEH zG2 (by rfl) T.n_range zSV (vlen T.n_len (vix hu1 (vv 2) zA1)))) (zGJ (zBO (zAM zAB))))
  ·exact(zLV PassesOwn.never (zAR (kNeD (K:=K) rfl hu) s_ne (vo 4) (zBB (zBO (zAM zAB))) (zBC _))
   (zA2 (zR7 false zOJ.nd ["_law_pairs","_law_left","_law_row_here"] [3,4] 1 (zWB rfl (vo 4)) (fun hn _ _ _ _=>⟨(zAH hn),(zLX (vteq hu (zBB (zC8 ["_law_left","_law_row_here","_law_one","_law_two"] [1,2] 2 (zEZ rfl (vv 0)) (fun hn _ _ _ _=>⟨(zD6 (K:=K) rfl rfl (zAN (zAH hn) (zAN (zAH hn) zC9))),(zLX (vt_w (zJD (vteq hu (vv 3) (vv 1)) (zGW (zAR (kInD (K:=K) rfl hu) (zCT (neg:=false)) (vv 2) (vo 0) (by with_unfolding_all rfl)))))),zA1⟩))) (zBB (zBO (zAM zAB))))),(vv 2)⟩))
   (zA2 (zD5 (K:=K) rfl PySem.F.slot_list_append PySem.F.type_list_append zBF zDK (pv 5) (zAM (zA0 (vcal ag hr (zA8 (vv 0) (zBA (pv 1) (zA8 (vv 6) zA9)))) zAB)))
   (zA3 (zD5 (K:=K) rfl PySem.F.slot_list_remove PySem.F.type_list_remove zPU zZL (pv 4) (zAM (zA0 (vix hu1 (vo 5) (zHR zA1)) zAB)))))))
  ·exact(zU7 (pv 5))
noncomputable abbrev Nx43:List Str:=["_law_row_here","_law_names_here","_law_first"]
noncomputable abbrev Qx43:List Str:=["_law_row_here","_law_names_here"]
theorem zT1:zAE Nx43 Qx43 (zA5 (top 63)):=mkSc
theorem zYI(F:Fun K "_law_renamed" "_law_renamed" (top 63) f fd) (T:Txt K mg):
  FnOk P w K mg base CX0 1 f fd Qx43 (spV K [] 2 zAJ):=
 okW P w K mg base Nx43 Qx43 0 zB5 [] F zT1 fun _ _ _ _ _ _ hr hu hu1=>by
  refine(zA2 ?_ (zA2 ?_ (zA3 ?_)))
  ·exact(zAY (vteq hu (vix hu1 (vv 0) zA1) zAD)
   (zA3 (zAA (vv 0)))
   zAF)
  ·exact(zB1 zT1.nd (zC6 (zA7 (zGY (zAR (kInD (K:=K) rfl hu) (zCT (neg:=false)) (vix hu1 (vv 0) zA1) (zAT (zA0 zAD (zA0 zAD (zA0 zAD (zA0 zAD zAB))))) (by with_unfolding_all rfl)) zA1 zA1))))
  ·exact(zAA (zBQ (zDZ (K:=K) rfl) zCF (zIH rfl (vv 0) zIG (zIF (vv 2))) (zO3 (zH8 (K:=K) rfl) zHK (by rfl) T.n_tuple zD9 (zBB (zC8 ["_law_names_here","_law_name"] [1] 1 (zEZ rfl (zA7 (zIH rfl (vv 0) (zIF (vv 2)) zIG))) (fun hn _ _ _ _=>⟨(zAH hn),zEG,(zA7 (vix hu1 (vv 0) (vv 1)))⟩))))))
noncomputable abbrev Nx37:List Str:=["_law_script","_law_town","_law_most","_law_room","_law_sure","_law_block_here","_law_order_there","_law_names_here"]
noncomputable abbrev Qx37:List Str:=["_law_script","_law_town","_law_most"]
theorem zHT:zAE Nx37 Qx37 (zA5 (top 57)):=mkSc
theorem zYO(F:Fun K "_law_block" "_law_block" (top 57) f fd) (T:Txt K mg) (ah:DefV P w K mg base "_law_draw" 3 Qx31 [1] zAI f_x31) (ag:DefV P w K mg base "_law_pick" 4 Qx32 [1] zAO f_x32) (fm:DefV P w K mg base "_law_rows" 7 Qx35 [1] zCW f_x35) (f6:DefV P w K mg base "_law_mixed_order" 5 Qx42 [1] zB8 f_x42) (eo:DefV P w K mg base "_law_renamed" 1 Qx43 [] zAJ f_x43):
  FnOk P w K mg base CX0 8 f fd Qx37 (spV K [1] 3 zC0):=
 okW P w K mg base Nx37 Qx37 7 zDT [1] F zHT fun _ _ _ _ _ _ hr hu hu1=>by
  refine(zA2 ?_ (zA2 ?_ (zA2 ?_ (zA2 ?_ (zA2 ?_ (zA2 ?_ (zA3 ?_)))))))
  ·exact(zB1 zHT.nd (zC6 (zA7 (vcal ag hr (zA8 (vv 0) (zBA (pv 1) (zA8 (zBB (zBO (zAM (zA0 zA1 (zA0 zA1 (zA0 zA1 (zA0 zA1 zAB))))))) zA9)))))))
  ·exact(zB1 zHT.nd (zC6 (zA7 (vcal ag hr (zA8 (vv 0) (zBA (pv 1) (zA8 (zBB (zBO (zAM (zA0 zA1 (zA0 (vv 3) (zA0 (vv 3) (zA0 (vcal ah hr (zA8 (vv 0) (zBA (pv 1) (zA8 (zA7 (zBQ (zDZ (K:=K) rfl) zCF (vv 3) zA1)) zA9)))) zAB))))))) zA9)))))))
  ·exact(zB1 zHT.nd (zC6 (zA7 (zAT (zA0 (vv 4) (zA0 (vcal fm hr (zA8 (vv 0) (zBA (pv 1) (zA8 (zA7 (vcal ah hr (zA8 (vv 0) (zBA (pv 1) (zA8 (zA7 (zBQ (zDZ (K:=K) rfl) zCF (vv 2) zA1)) zA9))))) (zA8 (vv 3) zA9))))) zAB))))))
  ·exact(zAY (zAR zYD s_gt (vcal ah hr (zA8 (vv 0) (zBA (pv 1) (zA8 zA1 zA9)))) zA1 (zBC _))
   (zA3 (zAA (vv 5)))
   zAF)
  ·exact(zB1 zHT.nd (zC6 (zA7 (vcal f6 hr (zA8 (vv 0) (zBA (pv 1) (zA8 (vv 5) zA9)))))))
  ·exact(zB1 zHT.nd (zC6 (zBB (zO1 rfl rfl (by rfl) T.n_dict zW4 (zBB (zC8 ["_law_number","_law_row_here"] [] 2 (zFK rfl (by rfl) T.n_enumerate (vv 6)) (fun hn _ _ _ _=>⟨(zD6 (K:=K) rfl rfl (zAN (zAH hn) (zAN (zAH hn) zC9))),zEG,(zA7 (zAT (zA0 (vv 1) (zA0 (vv 0) zAB))))⟩)))))))
  ·exact(zAA (zAT (zA0 (vv 4) (zA0 (zO3 (zH8 (K:=K) rfl) zHK (by rfl) T.n_tuple zD9 (zBB (zC8 ["_law_block_here","_law_names_here","_law_row_here"] [5,7] 1 (zEZ rfl (vv 6)) (fun hn _ _ _ _=>⟨(zAH hn),zEG,(zA7 (vcal eo hr (zA8 (zA7 (vix hu1 (vix hu1 (vv 0) zA1) (vv 2))) (zA8 (vv 1) zA9))))⟩)))) zAB))))
noncomputable abbrev Nx38:List Str:=["_law_script","_law_town","_law_low","_law_many","_law_small"]
noncomputable abbrev Qx38:List Str:=["_law_script","_law_town","_law_low"]
theorem zOK:zAE Nx38 Qx38 (zA5 (top 58)):=mkSc
theorem zYN(F:Fun K "_law_cells" "_law_cells" (top 58) f fd) (T:Txt K mg) (ah:DefV P w K mg base "_law_draw" 3 Qx31 [1] zAI f_x31) (ag:DefV P w K mg base "_law_pick" 4 Qx32 [1] zAO f_x32):
  FnOk P w K mg base CX0 5 f fd Qx38 (spV K [1] 3 zCK):=
 okW P w K mg base Nx38 Qx38 4 zER [1] F zOK fun _ _ _ _ _ _ hr hu hu1=>by
  refine(zA2 ?_ (zA2 ?_ (zA3 ?_)))
  ·exact(zB1 zOK.nd (zC6 (zA7 (vcal ag hr (zA8 (vv 0) (zBA (pv 1) (zA8 (zBB (zBO (zAM (zA0 (vv 2) (zA0 (zN8 (zHJ rfl) zUN (by rfl) T.n_min zQY zA1 (zBQ (zDZ (K:=K) rfl) zCF (vv 2) (vcal ah hr (zA8 (vv 0) (zBA (pv 1) (zA8 zA1 zA9)))))) (zA0 zA1 zAB)))))) zA9)))))))
  ·exact(zB1 zOK.nd (zC6 (zA7 (vcal ag hr (zA8 (vv 0) (zBA (pv 1) (zA8 (zBB (zBO (zAM (zA0 zA1 (zA0 zA1 (zA0 zA1 zAB)))))) zA9)))))))
  ·exact(zAA (zBB (zC8 ["_law_script","_law_town","_law_small","_law_k"] [0,1,4] 1 (zF0 (by rfl) T.n_range (vv 3)) (fun hn _ _ _ _=>⟨(zAH hn),zEG,(zA7 (vcal ah hr (zA8 (vv 0) (zBA (pv 1) (zA8 (vv 2) zA9)))))⟩))))
noncomputable abbrev Nx44:List Str:=["_law_script","_law_town","_law_block_here","_law_cells_here","_law_words","_law_row_here","_law_word","_law_here","_law_some","_law_due","_law_one","_law_there"]
noncomputable abbrev Qx44:List Str:=["_law_script"]
theorem zDI:zAE Nx44 Qx44 (zA5 (top 64)):=mkSc
theorem zYH(F:Fun K "law" "law" (top 64) f fd) (T:Txt K mg) (cw:DefV P w K mg base "done" 2 Qx9 [] zDY f_x9) (g9:DefV P w K mg base "makes" 7 Qx19 [] zG8 f_x19) (g8:DefV P w K mg base "named" 7 Qx20 [] zG6 f_x20) (d9:DefV P w K mg base "run" 7 Qx27 [] zKW f_x27) (fw:DefV P w K mg base "values" 7 Qx28 [] zDV f_x28) (fg:DefV P w K mg base "_law_block" 8 Qx37 [1] zC0 f_x37) (f9:DefV P w K mg base "_law_cells" 5 Qx38 [1] zCK f_x38):
  FnOk P w K mg base CX0 9 f fd Qx44 (spV K [] 1 zLO):=
 okW P w K mg base Nx44 Qx44 8 zVZ [] F zDI fun _ _ _ _ _ _ hr hu hu1=>by
  refine(zA2 ?_ (zA2 ?_ (zA2 ?_ (zA2 ?_ (zA2 ?_ (zA3 ?_))))))
  ·exact(zB1 zDI.nd (zGJ (zBO (zAM zAB))))
  ·exact(zB1 zDI.nd (zC6 (zA7 (vcal fg hr (zA8 (vv 0) (zBA (pv 1) (zA8 zA1 zA9)))))))
  ·exact(zB1 zDI.nd (zC6 (zA7 (vcal f9 hr (zA8 (vv 0) (zBA (pv 1) (zA8 (zA7 (vix hu1 (vv 2) zA1)) zA9)))))))
  ·exact(zB1 zDI.nd (zC6 (zA7 (vcal fw hr (zA8 (vv 2) (zA8 (vv 3) zA9))))))
  ·exact (zEY PassesOwn.never rfl (zFK rfl (by rfl) T.n_enumerate (vv 4)) (zD6 (K := K) rfl rfl (zAN (zAH zDI.nd) (zAN (zAH zDI.nd) zC9)))
   (zA2 (zB1 zDI.nd (zC6 (zA7 (vix hu1 (vix hu1 (vv 2) zA1) (vv 5)))))
   (zA2 (zLW false zDI.nd ["_law_words","_law_name"] [4] 1 (zEZ rfl (zA7 (vcal g8 hr (zA8 (vv 2) (zA8 (vv 5) zA9))))) (fun hn _ _ _ _=>⟨(zAH hn),zEG,(zA7 (vix hu1 (vv 0) (vv 1)))⟩))
   (zA3 (zAY (zD4 (zCZ (vcal g9 hr (zA8 (vv 2) (zA8 (vv 5) zA9)))))
   (zA3 (zAY (zAR zL3 zOO (vv 6) zCD (zBC _))
   (zA3 (zAA zEF))
   zAF))
   (zA3 (zAY (vteq hu (vix hu1 (vv 7) zA1) zAD)
   (zA3 (zAY (zAR (kNeD (K:=K) rfl hu) s_ne (vv 6) (vix hu1 (vv 7) zA1) (zBC _))
   (zA3 (zAA zEF))
   zAF))
   (zA3 (zAY (zAR (zH9 (K:=K) rfl hu) (zCT (neg:=true)) (vix hu1 (vv 7) zA1) (zAT (zA0 zAD (zA0 zAD zAB))) (by with_unfolding_all rfl))
   (zA3 (zAY (zAR (kNeD (K:=K) rfl hu) s_ne (vv 6) (vcal cw hr (zA8 (zA7 (vix hu1 (vv 7) zA1)) (zA8 (vv 8) zA9))) (zBC _))
   (zA3 (zAA zEF))
   zAF))
   (zA3 (zAY (vt_w (zJD (vteq hu (vix hu1 (vv 7) zA1) zAD) (zGW (vteq hu (vix hu1 (vv 8) zA1) zA1))))
   (zA3 (zAY (zAR (kNeD (K:=K) rfl hu) s_ne (vv 6) (vix hu1 (vv 8) zA1) (zBC _))
   (zA3 (zAA zEF))
   zAF))
   (zA2 (zB1 zDI.nd (zC6 (zA7 (vix hu1 (vv 3) (vix hu1 (vv 7) zA1)))))
   (zA2 (zEY PassesOwn.never rfl (zFK rfl (by rfl) T.n_enumerate (zA7 (zIH rfl (vix hu1 (vv 2) zA1) zIG (zIF (vv 5))))) (zD6 (K:=K) rfl rfl (zAN (zAH zDI.nd) (zAN (zAH zDI.nd) zC9)))
   (zA3 (zAY (vt_w (zJD (zAR (kInD (K:=K) rfl hu) (zCT (neg:=false)) (vix hu1 (vv 11) zA1) (zAT (zA0 zAD (zA0 zAD zAB))) (by with_unfolding_all rfl)) (zGW (vteq hu (vix hu1 (vv 11) zA1) (vix hu1 (vv 7) zA1)))))
   (zA3 (zAY (vt_w (zIE (vteq hu (vix hu1 (vv 11) zA1) zAD) (zEX (zAR (kNeD (K:=K) rfl hu) s_ne (vix hu1 (vv 4) (vix hu1 (vv 11) zA1)) zA1 (zBC _)))))
   (zA3 (zB1 zDI.nd (zC6 (zA7 (vix hu1 (vv 4) (vix hu1 (vv 11) zA1))))))
   zAF))
   zAF)))
   (zA3 (zAY (zAR (kNeD (K:=K) rfl hu) s_ne (vv 6) (vv 9) (zBC _))
   (zA3 (zAA zEF))
   zAF)))))))))))))))
  ·exact(zAA (yB5 (zDH zPN zUO (vix hu1 (vcal d9 hr (zA8 (vv 2) (zA8 (vv 3) zA9))) zA1) zCD (zBC _)) (zGX (veq hu (vix hu1 (vix hu1 (vcal d9 hr (zA8 (vv 2) (zA8 (vv 3) zA9))) zA1) zA1) (vlen T.n_len (vv 4))))))
end
end RR
namespace L2
open PySem
theorem zAL(a b:String):Str.ofString a=Str.ofString b↔a=b:=by
 refine⟨fun h=> ?_,fun h=>by rw[h]⟩
 rw[Str.ofString_eq_toList,Str.ofString_eq_toList] at h
 injection h with h
 have h2:a.toList.map Char.toNat=b.toList.map Char.toNat:=by simpa using h
 have h3:a.toList=b.toList:=by
  have inj: ∀(l m:List Char),l.map Char.toNat=m.map Char.toNat->l=m:=by
   intro l
   induction l with
   | nil => intro m h;cases m with
    |nil=>rfl
    |cons=>cases h
   | cons c l ih => intro m h;cases m with
    |nil=>cases h
    |cons e m=>
     simp only[List.map_cons,List.cons.injEq] at h
     rw[ih m h.2,Char.toNat_inj.mp h.1]
  exact inj _ _ h2
 exact String.toList_inj.mp h3
theorem zOE(a:String):PyData.strOk (Str.ofString a)=true:=by
 unfold PyData.strOk
 rw[Str.ofString_eq_toList]
 simp only[List.all_toArray,List.all_map,List.all_eq_true,Function.comp,decide_eq_true_eq]
 intro c _
 have:=c.valid
 rcases this with h|⟨_,h⟩
 ·show c.val.toNat<1114112
  have:c.val.toNat<55296:=h
  omega
 ·exact h
def okk(k:Nat)(d:Dat):Prop:=d.isD=true/\d.pd.canLay0=true/\d.pd.depth<=k
theorem zD1{k:Nat}{i:Int}:okk k (.int i):=⟨rfl,rfl,Nat.zero_le _⟩
theorem zTJ{k:Nat}{i:Bool}:okk k (.bl i):=⟨rfl,rfl,Nat.zero_le _⟩
theorem zVD{k:Nat}:okk k .non:=⟨rfl,rfl,Nat.zero_le _⟩
theorem zCP{k:Nat}{a:String}:okk k (.str (Str.ofString a)):=⟨rfl,by simp[Dat.pd,PyData.canLay0,zOE],Nat.zero_le _⟩
theorem zL5{k:Nat}: ∀{ds:List Dat},(∀d∈ds,okk k d)->isDs ds=true/\PyData.canLayAll0 (pds ds)=true/\PyData.depthAll (pds ds)<=k
 |[],_=>⟨rfl,rfl,Nat.zero_le _⟩
 |d::ds,h=>by
  obtain⟨a1,a2,a3⟩:=h d List.mem_cons_self
  obtain⟨b1,b2,b3⟩:=zL5 fun e he=>h e (List.mem_cons_of_mem _ he)
  refine⟨by simp[isDs,a1,b1],by simp[pds,PyData.canLayAll0,a2,b2],?_⟩
  simp only[pds,PyData.depthAll]
  omega
theorem zIQ{k:Nat}{ds:List Dat}(h: ∀d∈ds,okk k d):okk (k+1) (.tup ds):=by
 obtain⟨a,b,c⟩:=zL5 h
 exact⟨by simpa[Dat.isD] using a,by simpa[Dat.pd,PyData.canLay0] using b,by simp only[Dat.pd,PyData.depth];omega⟩
theorem zDQ{k:Nat}{ds:List Dat}(h: ∀d∈ds,okk k d):okk (k+1) (.lst ds):=by
 obtain⟨a,b,c⟩:=zL5 h
 exact⟨by simpa[Dat.isD] using a,by simpa[Dat.pd,PyData.canLay0] using b,by simp only[Dat.pd,PyData.depth];omega⟩
theorem okk.ok{k:Nat}{d:Dat}(h:okk k d)(hk:k<=64:=by decide):okD d=true:=by
 unfold okD SeqAt.shaped
 simp only[h.1,h.2.1,Bool.true_and,Bool.and_eq_true,decide_eq_true_eq]
 have:=h.2.2
 omega
@[simp] theorem yD0{a:String}:okD (.str (Str.ofString a))=true:=(zCP (k:=0)).ok
theorem zDF{k:Nat}: ∀d∈([]:List Dat),okk k d:=fun _ h=>nomatch h
theorem zBP{k:Nat}{d:Dat}{ds:List Dat}(h:okk k d)(t: ∀d∈ds,okk k d): ∀e∈d::ds,okk k e:=fun e he=>by
 rcases List.mem_cons.mp he with z|z
 ·rw[z];exact h
 ·exact t e z
@[simp] theorem yAB{i j:Int}:eqD (.int i) (.int j)=decide (i=j):=by show(i==j)=_;rw[Bool.beq_eq_decide_eq]
@[simp] theorem yGP{a b:String}:eqD (.str (Str.ofString a)) (.str (Str.ofString b))=decide (a=b):=by
 show(Str.ofString a==Str.ofString b)=_
 rw[Bool.beq_eq_decide_eq]
 simp only[zAL]
@[simp] theorem yG5{i j:Int}:oEq (.int i) (.int j)=some (.bl (decide (i=j))):=by unfold oEq;simp
@[simp] theorem yFS{i j:Int}:oNe (.int i) (.int j)=some (.bl (!decide (i=j))):=by unfold oNe;simp
@[simp] theorem yG4{a b:String}:oEq (.str (Str.ofString a)) (.str (Str.ofString b))=some (.bl (decide (a=b))):=by unfold oEq;simp
@[simp] theorem yFR{a b:String}:oNe (.str (Str.ofString a)) (.str (Str.ofString b))=some (.bl (!decide (a=b))):=by unfold oNe;simp
theorem yDC{j k:Nat}{d e:Dat}(h:okk j d)(h':okk k e)(hj:j<=64:=by decide)(hk:k<=64:=by decide):oEq d e=some (.bl (eqD d e)):=by
 unfold oEq
 rw[h.ok hj,h'.ok hk]
 rfl
theorem zVF{j k:Nat}{d e:Dat}(h:okk j d)(h':okk k e)(hj:j<=64:=by decide)(hk:k<=64:=by decide):oNe d e=some (.bl (!eqD d e)):=by
 unfold oNe
 rw[h.ok hj,h'.ok hk]
 rfl
theorem zVG{j k:Nat}{neg:Bool}{d:Dat}{ds:List Dat}(h:okk j d)(h': ∀e∈ds,okk k e)(hj:j<=64:=by decide)(hk:k+1<=64:=by decide):oInD neg d (.tup ds)=some (.bl (if neg then !inE d ds else inE d ds)):=by
 unfold oInD
 simp[h.ok hj,(zIQ h').ok hk]
theorem zMJ{j k:Nat}{neg:Bool}{d:Dat}{ds:List Dat}(h:okk j d)(h': ∀e∈ds,okk k e)(hj:j<=64:=by decide)(hk:k+1<=64:=by decide):oInD neg d (.lst ds)=some (.bl (if neg then !inE d ds else inE d ds)):=by
 unfold oInD
 simp[h.ok hj,(zDQ h').ok hk]
@[simp] theorem yIA{d:Dat}:inE d []=false:=(rfl)
@[simp] theorem zVV{d e:Dat}{ds:List Dat}:inE d (e::ds)=(eqD e d || inE d ds):=(rfl)
@[simp] theorem zSO{neg:Bool}{a b c:String}:oInD neg (.str (Str.ofString a)) (.tup [.str (Str.ofString b),.str (Str.ofString c)])=some (.bl (if neg then !(decide (b=a) || decide (c=a)) else decide (b=a) || decide (c=a))):=by
 rw[zVG (j:=0) zCP (zBP (zCP (k:=0)) (zBP zCP zDF))]
 simp
@[simp] theorem yA6{neg:Bool}{a b c d e:String}:oInD neg (.str (Str.ofString a)) (.tup [.str (Str.ofString b),.str (Str.ofString c),.str (Str.ofString d),.str (Str.ofString e)])=some (.bl (if neg then !(decide (b=a) || (decide (c=a) || (decide (d=a) || decide (e=a)))) else decide (b=a) || (decide (c=a) || (decide (d=a) || decide (e=a))))):=by
 rw[zVG (j:=0) zCP (zBP (zCP (k:=0)) (zBP zCP (zBP zCP (zBP zCP zDF))))]
 simp
@[simp] theorem yI9{neg:Bool}{a b c:Int}:oInD neg (.int a) (.tup [.int b,.int c])=some (.bl (if neg then !(decide (b=a) || decide (c=a)) else decide (b=a) || decide (c=a))):=by
 rw[zVG (j:=0) zD1 (zBP (zD1 (k:=0)) (zBP zD1 zDF))]
 simp
noncomputable def Scp(ns:List Int):Dat:= .lst (ns.map .int)
noncomputable def Twn(n:Nat):Dat:= .lst (List.replicate n (.int 0))
theorem zK8: ∀ns:List Int,isDs (ns.map Dat.int)=true
 |[]=>rfl
 |n::ns=>by simp[isDs,Dat.isD,zK8 ns]
theorem zMH: ∀ns:List Int,pds (ns.map Dat.int)=ns.map PyData.int
 |[]=>rfl
 |n::ns=>by simp[pds,Dat.pd,zMH ns]
theorem zSD(ns:List Int):okD (.lst (ns.map .int))=true:=by
 unfold okD
 simp only[Dat.isD,zK8,Dat.pd,zMH,Bool.true_and]
 exact zL0 ns
theorem zDX(ns:List Int):oEq (.lst (ns.map .int)) (.lst [])=some (.bl ns.isEmpty):=by
 unfold oEq
 rw[zSD,show okD (.lst [])=true from by decide+kernel]
 cases ns<;>rfl
theorem zK9: ∀n:Nat,zGN (List.replicate n (.int 0))=true
 |0=>rfl
 |n+1=>by simp[List.replicate_succ,zGN,Dat.hard,zK9 n]
@[simp] theorem yAW(n:Nat):zF7 (Twn n)=true:=zK9 n
theorem zKK: ∀(ds:List Dat) (a b:Dat) (r:Int) (s:Sl),∃r' s',forV (gN 3) (sSet 2 (xV (f2 zPR (fV 2) (fC (.int 1000003))))) ds [.va a,.va b,.va (.int r),s]=some (.nx [.va a,.va b,.va (.int r'),s'])
 |[],a,b,r,s=>⟨r,s,rfl⟩
 |d::ds,a,b,r,s=>by
  obtain⟨r',s',h⟩:=zKK ds a b (r/1000003) (.va d)
  exact⟨r',s',by simp[cDiv,h]⟩
theorem zIV{ns:List Int}{i:Int}(h0:0<=i)(h1:i<ns.length): ∃r∈ns,atI (ns.map Dat.int) i=some (.int r):=by
 obtain⟨x,hx,e⟩:=zR0 (xs:=ns.map Dat.int) h0 (by simpa using h1)
 obtain⟨r,hr,rfl⟩:=List.mem_map.mp hx
 exact⟨r,hr,e⟩
theorem zW2(ns:List Int)(k:Nat)(hl:ns.length<=63)(hk:k<1000000): ∃r,zBG [Scp ns,.int k]=some (.int r,[]):=by
 unfold zBG
 rw[zAC]
 unfold zDS zE8 Scp
 by_cases h:(k:Int)<ns.length
 ·obtain ⟨r,_,e⟩ := zIV (ns := ns) (i := k) (by omega) h
  exact⟨r,by simp[envD,h,e]⟩
 ·cases ns with
  |nil=>
   have h0: ¬((k:Int)<0):=by omega
   have e:oEq (.lst []) (.lst [])=some (.bl true):=zDX []
   exact⟨0,by simp[envD,h0,e]⟩
  |cons m ms=>
   generalize hns:m::ms=ns at*
   have cq:(0:Int)<ns.length:=by rw[<- hns];simp
   have hb:=Int.emod_nonneg (k:Int) (show(ns.length:Int)≠0 by omega)
   have hb2:=Int.emod_lt_of_pos (k:Int) cq
   obtain⟨r,_,e⟩:=zIV (ns:=ns) hb hb2
   have he:ns.isEmpty=false:=by rw[<- hns];rfl
   have hq:0<=(k:Int)/ns.length:=Int.ediv_nonneg (by omega) (by omega)
   have hm: -4611686018427387904<=(if(60:Int)<(k:Int)/ns.length then 60 else(k:Int)/ns.length)/\(if(60:Int)<(k:Int)/ns.length then 60 else(k:Int)/ns.length)<4611686018427387904:=by split<;>omega
   obtain⟨r',s',e2⟩:=zKK (rngD 0 (if(60:Int)<(k:Int)/ns.length then 60 else(k:Int)/ns.length).toNat) (.lst (ns.map .int)) (.int k) r .no
   have hp2:0<ns.length:=by omega
   have hp3:(ns.length:Int)<1073741824:=by omega
   exact⟨r*31+k+r'*101,by simp[envD,h,zDX,he,cq,hp2,hp3,e,cDiv,hm,e2,cMul]⟩
noncomputable def cel(ns:List Int)(k:Nat):Int:=match zBG [Scp ns,.int k] with
 |some (.int r,_)=>r
 |_=>0
theorem yAG(ns:List Int)(k:Nat)(hl:ns.length<=63)(hk:k<1000000):zBG [Scp ns,.int k]=some (.int (cel ns k),[]):=by
 obtain⟨r,e⟩:=zW2 ns k hl hk
 unfold cel
 rw[e]
noncomputable def drw(ns:List Int)(n:Nat)(b:Int):Int:=((cel ns (n+1)*1103515245+7919*(((n+1:Nat)):Int)+12345) % 2147483647) ^ 5 % 2147483647 % 999983 % b
theorem zJ3(ns:List Int)(n:Nat){b:Int}(h:0<b):0<=drw ns n b:=Int.emod_nonneg _ (by omega)
theorem zQH(ns:List Int)(n:Nat){b:Int}(h:0<b):drw ns n b<b:=Int.emod_lt_of_pos _ h
theorem zZM(ns:List Int)(n:Nat)(b:Int)(hl:ns.length<=63)(hn:n<900000)(hb:0<b):zCJ [Scp ns,.int ((n+1:Nat):Int),.int b]=some (.int (drw ns n b),[]):=by
 have e:=yAG ns (n+1) hl (by omega)
 unfold zCJ
 rw[zAC]
 unfold zEQ drw
 have e1:=Int.emod_nonneg (cel ns (n+1)*1103515245+7919*((n+1:Nat):Int)+12345) (show(2147483647:Int)≠0 by decide)
 have e2:=Int.emod_lt_of_pos (cel ns (n+1)*1103515245+7919*((n+1:Nat):Int)+12345) (show(0:Int)<2147483647 by decide)
 generalize hz:(cel ns (n+1)*1103515245+7919*((n+1:Nat):Int)+12345) % 2147483647=z at*
 have hz2:z.natAbs<18446744073709551616:=by omega
 generalize hk:((n+1:Nat):Int)=k at*
 simp[envD,e,cMul,cPow,hz,hz2,hb]
theorem zD2(ns:List Int)(n:Nat)(b:Int)(hl:ns.length<=63)(hn:n<900000)(hb:0<b):zAI [Scp ns,Twn n,.int b]=some (.int (drw ns n b),[Twn (n+1)]):=by
 have e:=zZM ns n b hl hn hb
 unfold zAI
 rw[zAC]
 unfold zFV
 have ht:Twn n= .lst (List.replicate n (.int 0)):=rfl
 have ht2:Twn (n+1)= .lst (List.replicate n (.int 0)++[.int 0]):=by unfold Twn;rw[List.replicate_succ']
 rw[ht2,ht]
 have hs:n<16777216:=by omega
 push_cast at e
 simp[envD,hs,e]
theorem zDP(ns:List Int)(n:Nat)(xs:List Dat)(hl:ns.length<=63)(hn:n<900000)(hx:0<xs.length): ∃x∈xs,zAO [Scp ns,Twn n,.lst xs]=some (x,[Twn (n+1)]):=by
 have hx':(0:Int)<xs.length:=by omega
 obtain⟨x,hm,e⟩:=zR0 (xs:=xs) (zJ3 ns n hx') (zQH ns n hx')
 refine⟨x,hm,?_⟩
 unfold zAO
 rw[zAC]
 unfold zFT
 simp[envD,zD2 ns n _ hl hn hx',e]
theorem zSR(ns:List Int)(n:Nat)(b:Int)(hl:ns.length<=63)(hn:n<900000)(hb:0<b)(tl:Ev):zAG 3 [1] zAI (aE (fV 0) (aO 1 (aE (fC (.int b)) aNil))) (.va (Scp ns):: .ow (Twn n)::tl)=some (.int (drw ns n b),.va (Scp ns):: .ow (Twn (n+1))::tl):=by simp[zD2 ns n b hl hn hb]
abbrev Sn(m:Nat)(d:Dat):Prop:= ∃(ks:List Key) (vs:List Int),d= .dct ks (vs.map .int)/\ks.length=vs.length/\ks.Nodup/\ks.length<=m
abbrev Seen(n:Nat)(d:Dat):Prop:=Sn (8*n) d
theorem Seen.mono{n m:Nat}{d:Dat}(h:Seen n d)(hn:n<=m):Seen m d:=by
 obtain⟨ks,vs,h1,h2,h3,h4⟩:=h
 exact⟨ks,vs,h1,h2,h3,by omega⟩
theorem zZQ: ∀(ks:List Key) (vs:List Int) (k:Key) (q:Int),∃r,(zB6 ks (vs.map .int) k).getD (.int q)= .int r
 | [],_,_,q => ⟨q,by simp [zB6]⟩
 | _ :: _,[],_,q => ⟨q,by simp [zB6]⟩
 | k' :: ks,v :: vs,k,q => by
  by_cases h:k'=k
  ·exact ⟨v,by simp [zB6,h]⟩
  ·obtain⟨r,e⟩:=zZQ ks vs k q
   exact⟨r,by simp only[List.map_cons,zB6,if_neg h];exact e⟩
theorem putI: ∀(ks:List Key) (vs:List Int) (k:Key) (p:Int),ks.length=vs.length->ks.Nodup-> ∃(ks':List Key) (vs':List Int),zDO ks (vs.map .int) k (.int p)=(ks',vs'.map .int)/\ks'.length=vs'.length/\ks'.Nodup/\ks'.length<=ks.length+1/\(∀z∈ks',z=k∨z∈ks)/\zB6 ks' (vs'.map .int) k=some (.int p)
 | [],[],k,p,_,_ => ⟨[k],[p],by simp [zDO],rfl,by simp,by simp,by simp,by simp [zB6]⟩
 | k' :: ks,v :: vs,k,p,hl,hn => by
  by_cases h:k'=k
  ·subst h
   exact⟨k'::ks,p::vs,by simp[zDO],by simpa using hl,hn,by simp,by simp,by simp[zB6]⟩
  ·obtain ⟨ks',vs',e,h1,h2,h3,h4,h5⟩ := putI ks vs k p (by simpa using hl) (List.nodup_cons.mp hn).2
   refine⟨k'::ks',v::vs',by simp only[List.map_cons,zDO,if_neg h,e],by simp[h1],?_,by simp;omega,?_,by simp only[List.map_cons,zB6,if_neg h];exact h5⟩
   ·refine List.nodup_cons.mpr ⟨fun z => ?_,h2⟩
    rcases h4 _ z with y|y
    ·exact h y
    ·exact(List.nodup_cons.mp hn).1 y
   ·intro z hz
    rcases List.mem_cons.mp hz with y|y
    ·exact .inr (by rw[y];exact List.mem_cons_self)
    ·exact(h4 z y).imp id (List.mem_cons_of_mem _)
theorem zMF(ns:List Int)(n:Nat)(sn:Dat)(x:Str)(a7:Int)(hl:ns.length<=63)(hn:n<800000)(hs:Seen n sn)(hr:0<a7):
  ∃p sn',0<=p/\p<a7/\Seen (n+2) sn'/\zB9 [Scp ns,Twn n,sn,.str x,.int a7]=some (.int p,[Twn (n+2),sn']):=by
 obtain⟨ks,vs,rfl,h1,h2,h3⟩:=hs
 obtain⟨a,ha⟩:=zZQ ks vs (.inr x) (drw ns n a7)
 obtain⟨y,hy,ey⟩:=zDP ns (n+1) [.int 1,.int 1,.int 1,.int 0,.int 3] hl (by omega) (by simp)
 obtain⟨b,rfl⟩: ∃b,y= .int b:=by
  simp only[List.mem_cons,List.not_mem_nil,or_false] at hy
  rcases hy with h|h|h|h|h<;>exact⟨_,h⟩
 obtain⟨ks',vs',e,h4,h5,h6,h7,h8⟩:=putI ks vs (.inr x) ((a+b) % a7) h1 h2
 refine⟨(a+b) % a7,.dct ks' (vs'.map .int),Int.emod_nonneg _ (by omega),Int.emod_lt_of_pos _ hr,⟨ks',vs',rfl,h4,h5,by omega⟩,?_⟩
 have hk:ks.length<16777216:=by omega
 unfold zB9
 rw[zAC]
 unfold zEP
 simp[envD,zD2 ns n a7 hl (by omega) hr,ha,ey,hr,hk,h2,e,h8]
inductive zBN(M:Int->Prop):Dat->Prop
 |number {n:Int}:0<=n->n<=999->zBN M (.tup [.str "number",.int n])
 |two {x:String} {a b:Int}:x∈["over","plus","minus","times","least","most","less"]->M a->M b->zBN M (.tup [.str x,.int a,.int b])
 |pick {c a b:Int}:M c->M a->M b->zBN M (.tup [.str "pick",.int c,.int a,.int b])
 |load {p:Int}:0<=p->p<=63->zBN M (.tup [.str "load",.int p])
 |take {p c a:Int}:0<=p->p<=63->M c->M a->zBN M (.tup [.str "take",.int p,.int c,.int a])
 |store {p a:Int}:0<=p->p<=63->M a->zBN M (.tup [.str "store",.int p,.int a])
 |put {p a c:Int}:0<=p->p<=63->M a->M c->zBN M (.tup [.str "put",.int p,.int a,.int c])
theorem zRK(ns:List Int)(n:Nat)(made:List Int)(hl:ns.length<=63)(hn:n<800000)(hm:0<made.length)(s:Sl): ∃a b c,a∈made/\b∈made/\c∈made∧
  zBS 3 1 (gN 3) bYes (f2 oIxA (fV 2) (f2 oMax (fC (.int 0)) (f2 oSub (f2 oSub (f1 oLen (fV 2)) (fC (.int 1))) (zAG 3 [1] zAI (aE (fV 0) (aO 1 (aE (fC (.int 6)) aNil))))))) [.int 0,.int 1,.int 2] [] [.va (Scp ns),.ow (Twn n),.va (.lst (made.map .int))]=
   some ([.int a,.int b,.int c],[.va (Scp ns),.ow (Twn (n+3)),.va (.lst (made.map .int))]):=by
 have one: ∀m,∃a∈made,atI (made.map Dat.int) (if(made.length:Int) - 1 - drw ns m 6>0 then(made.length:Int) - 1 - drw ns m 6 else 0)=some (.int a):=fun m=>by
  have:=zJ3 ns m (b:=6) (by decide)
  exact zIV (by split<;>omega) (by split<;>omega)
 obtain⟨a,ha,ea⟩:=one n
 obtain⟨b,hb,eb⟩:=one (n+1)
 obtain⟨c,hc,ec⟩:=one (n+2)
 refine⟨a,b,c,ha,hb,hc,?_⟩
 have d0:=zD2 ns n 6 hl (by omega) (by decide)
 have d1:=zD2 ns (n+1) 6 hl (by omega) (by decide)
 have d2:=zD2 ns (n+2) 6 hl (by omega) (by decide)
 simp only[gt_iff_lt,Int.sub_pos] at ea eb ec
 simp[d0,d1,d2,ea,eb,ec]
def onC(x:String):Prop:=x= "load" ∨x= "take" ∨x= "store" ∨x= "put"
def PlOK(a7:Int)(row:Dat):Prop:= ∀(x:String) (p:Int) (t:List Dat),row= .tup (.str x:: .int p::t)->onC x->p<a7
theorem zH2{a7 p:Int}{x:String}{t:List Dat}(h:p<a7):PlOK a7 (.tup (.str x:: .int p::t)):=fun y q u e _=>by
 simp only[Dat.tup.injEq,List.cons.injEq,Dat.int.injEq] at e
 omega
theorem zPC{a7:Int}{x:String}{t:List Dat}(h: ¬onC x):PlOK a7 (.tup (.str x::t)):=fun y q u e hy=>by
 simp only[Dat.tup.injEq,List.cons.injEq,Dat.str.injEq,zAL] at e
 rw[<- e.1] at hy
 exact absurd hy h
theorem zO4{x:String}(hx:x∈["over","plus","minus","times","least","most","less"]): ¬onC x:=fun h=>by
 simp only[List.mem_cons,List.not_mem_nil,or_false] at hx
 rcases hx with rfl|rfl|rfl|rfl|rfl|rfl|rfl<;>rcases h with h|h|h|h<;>exact absurd h (by decide)
theorem zXG(ns:List Int)(n:Nat)(made:List Int)(sn:Dat)(a7:Int)(hl:ns.length<=63)(hn:n<700000)(hs:Seen n sn)(hr:0<a7)(hr2:a7<=64):
    ∃row n' sn',n<=n'/\n'<=n+10/\Seen n' sn'/\zBN (· ∈made) row/\PlOK a7 row/\zDM [Scp ns,Twn n,.lst (made.map .int),sn,.int a7]=some (row,[Twn n',sn']):=by
  have d0 := zSR ns n 13 hl (by omega) (by decide)
  have k0 := zJ3 ns n (b := 13) (by decide)
  have k1 := zQH ns n (b := 13) (by decide)
  generalize drw ns n 13=kd at*
  unfold zDM
  rw[zAC]
  unfold zHC
  by_cases h0:made.isEmpty=true∨kd=0
  · have d1 := zSR ns (n + 1) 2 hl (by omega) (by decide)
    have hor:made.isEmpty=true∨(made.isEmpty=false/\kd=0):=by
      cases hm:made.isEmpty with
      | true => exact .inl rfl
      | false => rcases h0 with h | h
                 · rw[hm] at h;cases h
                 · exact .inr ⟨rfl,h⟩
    by_cases h2:drw ns (n+1) 2=0
    · have d2 := zSR ns (n + 2) 1000 hl (by omega) (by decide)
      obtain⟨y,hy,ey⟩:=zDP ns (n+3) [.int 0,.int 1,.int 2,.int 5,.int 999,.int (drw ns (n+2) 1000)] hl (by omega) (by simp)
      obtain⟨b,rfl,hb0,hb1⟩: ∃b,y= .int b/\0<=b/\b<=999:=by
        have:=zJ3 ns (n+2) (b:=1000) (by decide)
        have:=zQH ns (n+2) (b:=1000) (by decide)
        simp only[List.mem_cons,List.not_mem_nil,or_false] at hy
        rcases hy with h|h|h|h|h|h<;>exact⟨_,h,by omega,by omega⟩
      refine⟨.tup [.str "number",.int b],n+4,sn,by omega,by omega,hs.mono (by omega),.number hb0 hb1,zPC (by unfold onC;decide),?_⟩
      rcases hor with h|⟨h,h'⟩
      · simp[envD,↓d0,zDX,h,↓d1,h2,↓d2,ey]
      · simp[envD,↓d0,zDX,h,h',↓d1,h2,↓d2,ey]
    · obtain ⟨p,sn',p0,p1,hs',ep⟩ := zMF ns (n + 2) sn "load" a7 hl (by omega) (hs.mono (by omega)) hr
      refine⟨.tup [.str "load",.int p],n+4,sn',by omega,by omega,hs',.load p0 (by omega),zH2 p1,?_⟩
      rcases hor with h|⟨h,h'⟩
      · simp[envD,↓d0,zDX,h,↓d1,h2,ep]
      · simp[envD,↓d0,zDX,h,h',↓d1,h2,ep]
  · obtain⟨hm,hkd⟩:=not_or.mp h0
    have hm':made.isEmpty=false:=by simpa using hm
    have cq:0<made.length:=by
      cases made with
      |nil=>cases hm'
      |cons=>simp
    obtain⟨a,b,c,ha,hb,hc,e3⟩:=zRK ns (n+1) made hl (by omega) cq .no
    have lw:(kd=1∨kd=2)∨kd=3∨(kd=4∨kd=5)∨kd=6∨kd=7∨(8<=kd/\kd<=12):=by omega
    have pl: ∀x:Str,∃p sn',0<=p/\p<=63/\p<a7/\Seen (n+6) sn'/\ ∀s tl,zAG 5 [1,2] zB9 (aE (fV 0) (aO 1 (aO 3 (aE (fC (.str x)) (aE (fV 4) aNil))))) (.va (Scp ns):: .ow (Twn (n+4))::s:: .ow sn:: .va (.int a7)::tl)=some (.int p,.va (Scp ns):: .ow (Twn (n+6))::s:: .ow sn':: .va (.int a7)::tl):=fun x=>by
      obtain⟨p,sn',p0,p1,hs',ep⟩:=zMF ns (n+4) sn x a7 hl (by omega) (hs.mono (by omega)) hr
      exact⟨p,sn',p0,by omega,p1,hs',fun s tl=>by simp[ep]⟩
    rcases lw with h|h|h|h|h|h
    · have t12 : (decide (1 = kd) || decide (2 = kd)) = true := by rcases h with rfl | rfl <;> decide
      obtain⟨p,sn',p0,p1,p2,hs',ep⟩:=pl "load"
      exact⟨.tup [.str "load",.int p],n+6,sn',by omega,by omega,hs',.load p0 p1,zH2 p2,by simp[envD,↓d0,zDX,hm',hkd,zAZ,e3,↓ep,t12]⟩
    · subst h
      obtain⟨p,sn',p0,p1,p2,hs',ep⟩:=pl "take"
      exact⟨.tup [.str "take",.int p,.int c,.int a],n+6,sn',by omega,by omega,hs',.take p0 p1 hc ha,zH2 p2,by simp[envD,↓d0,zDX,hm',zAZ,e3,↓ep]⟩
    · have t45 : (decide (4 = kd) || decide (5 = kd)) = true := by rcases h with rfl | rfl <;> decide
      have n3: ¬kd=3:=by omega
      have m1: ¬1=kd:=by omega
      have m2: ¬2=kd:=by omega
      obtain⟨p,sn',p0,p1,p2,hs',ep⟩:=pl "store"
      exact⟨.tup [.str "store",.int p,.int a],n+6,sn',by omega,by omega,hs',.store p0 p1 ha,zH2 p2,by simp[envD,↓d0,zDX,hm',hkd,zAZ,e3,↓ep,n3,m1,m2,t45]⟩
    · subst h
      obtain⟨p,sn',p0,p1,p2,hs',ep⟩:=pl "put"
      exact⟨.tup [.str "put",.int p,.int a,.int c],n+6,sn',by omega,by omega,hs',.put p0 p1 ha hc,zH2 p2,by simp[envD,↓d0,zDX,hm',zAZ,e3,↓ep]⟩
    · subst h
      exact⟨.tup [.str "pick",.int c,.int a,.int b],n+4,sn,by omega,by omega,hs.mono (by omega),.pick hc ha hb,zPC (by unfold onC;decide),by simp[envD,↓d0,zDX,hm',zAZ,e3]⟩
    · have d4 := zSR ns (n + 4) 7 hl (by omega) (by decide)
      have q0:=zJ3 ns (n+4) (b:=7) (by decide)
      have q1:=zQH ns (n+4) (b:=7) (by decide)
      obtain⟨y,hy,ey⟩:=zR0 (xs:=["over","plus","minus","times","least","most","less"].map fun s:String=>Dat.str (Str.ofString s)) q0 (by simpa using q1)
      obtain⟨x,hx,rfl⟩:=List.mem_map.mp hy
      simp only[List.map_cons,List.map_nil] at ey
      have n1: ¬kd=1:=by omega
      have n2: ¬kd=2:=by omega
      have n3: ¬kd=3:=by omega
      have n4: ¬kd=4:=by omega
      have n5: ¬kd=5:=by omega
      have n6: ¬kd=6:=by omega
      have n7: ¬kd=7:=by omega
      have m1: ¬1=kd:=by omega
      have m2: ¬2=kd:=by omega
      have m4: ¬4=kd:=by omega
      have m5: ¬5=kd:=by omega
      exact⟨.tup [.str x,.int a,.int b],n+5,sn,by omega,by omega,hs.mono (by omega),.two hx ha hb,zPC (zO4 hx),by simp[envD,↓d0,zDX,hm',hkd,zAZ,e3,n3,n6,n7,m1,m2,m4,m5,↓d4,ey]⟩
inductive Kd where
 |w|p|n
 deriving DecidableEq
def Nm(kds:List Kd)(k:Kd)(a:Int):Prop:=0<=a/\kds[a.toNat]? =some k
theorem Nm.lt{kds:List Kd}{k:Kd}{a:Int}(h:Nm kds k a):a<kds.length:=by
 have:=(List.getElem?_eq_some_iff.mp h.2).1
 have:=h.1
 omega
theorem Nm.snoc{kds:List Kd}{k j:Kd}{a:Int}(h:Nm kds k a):Nm (kds++[j]) k a:=⟨h.1,by rw[List.getElem?_append_left (List.getElem?_eq_some_iff.mp h.2).1];exact h.2⟩
theorem Nm.new{kds:List Kd}{k:Kd}:Nm (kds++[k]) k kds.length:=⟨by omega,by simp⟩
noncomputable def mk1(k:Kd):Dat->Kd
 | .tup (.str x::_)=>if x= "store" ∨x= "put" then .n else k
 |_=> .n
theorem zBN.imp{M M':Int->Prop}{row:Dat}(h:zBN M row)(f: ∀a,M a->M' a):zBN M' row:=by
 cases h with
 |number a b=>exact .number a b
 |two a b c=>exact .two a (f _ b) (f _ c)
 |pick a b c=>exact .pick (f _ a) (f _ b) (f _ c)
 |load a b=>exact .load a b
 |take a b c d=>exact .take a b (f _ c) (f _ d)
 |store a b c=>exact .store a b (f _ c)
 |put a b c d=>exact .put a b (f _ c) (f _ d)
theorem zBN.hard{M:Int->Prop}{row:Dat}(h:zBN M row):row.hard=true:=by
 cases h<;>simp[Dat.hard,zGN]
theorem zKI(ns:List Int)(b:Int)(hl:ns.length<=63)(hb:0<b)(fe:VF)(x:Sl)(tail:Ev)(nn:Nat)(hnn:nn=tail.length+2)
  (hfe: ∀n d,n<800000->fe ([.va (Scp ns),.ow (Twn n)]++tail++[.va d])=some (.int (drw ns n b),[.va (Scp ns),.ow (Twn (n+1))]++tail++[.va d])):
  ∀(ds:List Dat) (n:Nat) (acc:List Dat),n+ds.length<800000->acc.length+ds.length<1000000-> ∃ws:List Int,ws.length=ds.length/\(∀w∈ws,0<=w/\w<b)∧
   zBS nn 1 (gN nn) bYes fe ds acc ([.va (Scp ns),.ow (Twn n)]++tail)=some (acc++ws.map .int,[.va (Scp ns),.ow (Twn (n+ds.length))]++tail)
 | [],n,acc,_,_ => ⟨[],rfl,(fun _ h => nomatch h),by simp⟩
 | d :: ds,n,acc,hn,ha => by
  obtain⟨ws,h1,h2,h3⟩:=zKI ns b hl hb fe x tail nn hnn hfe ds (n+1) (acc++[.int (drw ns n b)]) (by simp at hn;omega) (by simp at ha⊢;omega)
  refine⟨drw ns n b::ws,by simp[h1],fun w hw=> ?_,?_⟩
  ·rcases List.mem_cons.mp hw with z|z
   ·rw[z];exact⟨zJ3 ns n hb,zQH ns n hb⟩
   ·exact h2 w z
  ·have e := hfe n d (by simp at hn;omega)
   have b7:([Sl.va (Scp ns),Sl.ow (Twn n)]++tail++[Sl.no]).set nn (.va d)=[Sl.va (Scp ns),Sl.ow (Twn n)]++tail++[Sl.va d]:=by
    rw[List.set_append_right _ _ (by simp[hnn])]
    simp[hnn]
   have ao:([Sl.va (Scp ns),Sl.ow (Twn (n+1))]++tail++[Sl.va d]).take nn=[Sl.va (Scp ns),Sl.ow (Twn (n+1))]++tail:=by rw[List.take_append_of_le_length (by simp[hnn]),List.take_of_length_le (by simp[hnn])]
   have aq:acc.length<16777216:=by simp at ha;omega
   simp only[zG1,zSF,gN_e,b7,zNG,zU1,zRY,e,zRX,if_pos aq,ao,h3]
   simp[show n+1+ds.length=n+(ds.length+1) by omega]
@[simp] theorem yFQ{i:Int}:oNeg (.int i)=some (.int (-i)):=(rfl)
theorem zFE{ds:List Dat}{k:Nat}(h:k<=ds.length):cutD ds (some (k:Int)) none=ds.drop k:=by
 unfold cutD
 rw[HT.zOQ,HT.zM6,Nat.min_eq_left h,List.take_of_length_le (by simp)]
theorem zG0{ds:List Dat}{k:Nat}:cutD ds none (some (k:Int))=ds.take k:=by
 unfold cutD
 rw[HT.zOQ,HT.zM6]
 simp only[List.drop_zero,Nat.sub_zero]
 by_cases h:k<=ds.length
 ·rw[Nat.min_eq_left h]
 ·rw[Nat.min_eq_right (by omega),List.take_of_length_le (by omega),List.take_of_length_le (by omega)]
@[simp] theorem yGS{d:Dat}{ds:List Dat}:cutD (d::ds) (some 1) none=ds:=zFE (k:=1) (by simp)
@[simp] theorem yGR{d e:Dat}{ds:List Dat}:cutD (d::e::ds) (some 2) none=ds:=zFE (k:=2) (by simp)
@[simp] theorem yE5{ds:List Dat}:cutD ds none (some 2)=ds.take 2:=zG0 (k:=2)
@[simp] theorem yE6{ds:List Dat}:cutD ds none (some 1)=ds.take 1:=zG0 (k:=1)
@[simp] theorem yEE{α:Type}{xs:List α}{x:α}:atI (xs++[x]) (-1)=some x:=by
 unfold atI ixN
 rw[if_neg (by decide),if_pos (by simp;omega)]
 have e:(-1+((xs++[x]).length:Int)).toNat=xs.length:=by simp;omega
 show(xs++[x])[(-1+((xs++[x]).length:Int)).toNat]? =some x
 rw[e]
 simp
@[simp] theorem yIL{α:Type}{x:α}{xs:List α}:atI (x::xs) 0=some x:=by rw[zCR (by decide) (by simp)];rfl
@[simp] theorem yIK{α:Type}{x y:α}{xs:List α}:atI (x::y::xs) 1=some y:=by rw[zCR (by decide) (by simp;omega)];rfl
@[simp] theorem yIJ{α:Type}{x y z:α}{xs:List α}:atI (x::y::z::xs) 2=some z:=by rw[zCR (by decide) (by simp;omega)];rfl
@[simp] theorem yII{α:Type}{x y z u:α}{xs:List α}:atI (x::y::z::u::xs) 3=some u:=by rw[zCR (by decide) (by simp;omega)];rfl
theorem yDH{k:Kd}{x:String}{t:List Dat}(hx:x∉["store","put"]):mk1 k (.tup (.str x::t))=k:=by
 simp only[List.mem_cons,List.not_mem_nil,or_false,not_or] at hx
 simp[mk1,zAL,hx]
theorem yDG{k:Kd}{x:String}{t:List Dat}(hx:x= "store" ∨x= "put"):mk1 k (.tup (.str x::t))= .n:=by
 rcases hx with rfl|rfl<;>simp[mk1,zAL]
theorem zGQ{M:Int->Prop}{row:Dat}(h:zBN M row): ∃(x:String) (t:List Dat),row= .tup (.str x::t)/\x∉["wide","gather","shuffle"]:=by
 cases h with
 |two hx _ _=>
  simp only[List.mem_cons,List.not_mem_nil,or_false] at hx
  rcases hx with rfl|rfl|rfl|rfl|rfl|rfl|rfl<;>exact⟨_,_,rfl,by decide⟩
 |_=>exact⟨_,_,rfl,by decide⟩
@[simp] theorem yAT(n lo hi:Int):zAU [.int n,.int lo,.int hi]=some (.bl (decide (lo<=n) && decide (n<=hi)),[]):=by
 unfold zAU
 rw[zAC]
 unfold zFW
 simp[envD]
 by_cases h:lo<=n<;>simp[h]
theorem zPJ{x:String}(h:x∈["over","plus","minus","times","least","most","less"]):zB7 [.str x]=some (.tup [.str "row",.str "row"],[]):=by
 simp only[List.mem_cons,List.not_mem_nil,or_false] at h
 rcases h with rfl|rfl|rfl|rfl|rfl|rfl|rfl<;>kernel_rfl
@[simp] theorem yCP:zB7 [.str "number"]=some (.tup [.str "word"],[]):=by kernel_rfl
@[simp] theorem yCO:zB7 [.str "pick"]=some (.tup [.str "row",.str "row",.str "row"],[]):=by kernel_rfl
@[simp] theorem yCN:zB7 [.str "load"]=some (.tup [.str "place"],[]):=by kernel_rfl
@[simp] theorem yCM:zB7 [.str "take"]=some (.tup [.str "place",.str "row",.str "row"],[]):=by kernel_rfl
@[simp] theorem yCL:zB7 [.str "store"]=some (.tup [.str "place",.str "row"],[]):=by kernel_rfl
@[simp] theorem yCK:zB7 [.str "put"]=some (.tup [.str "place",.str "row",.str "row"],[]):=by kernel_rfl
def Ab(able:List Bool)(a:Int):Prop:=0<=a/\able[a.toNat]? =some true
theorem zZP{able:List Bool}{a:Int}(h:Ab able a):zCV [.int a,.lst (able.map .bl)]=some (.bl true,[]):=by
 have hlt:=(List.getElem?_eq_some_iff.mp h.2).1
 have h0:=h.1
 have h1:a<=(able.length:Int) - 1:=by omega
 have h2:atI (able.map Dat.bl) a=some (.bl true):=by
  rw[zCR h0 (by simp;omega)]
  simp[h.2]
 unfold zCV
 rw[zAC]
 unfold zFR
 simp[envD,h0,h1,h2]
theorem zCL{able:List Bool}{a:Int}(h:Ab able a):zEL [.str "row",.int a,.lst (able.map .bl)]=some (.bl true,[]):=by
 unfold zEL
 rw[zAC]
 unfold zKB
 simp[envD,zZP h]
theorem zQD{d:Dat}{a:Int}(h:0<=a)(h':a<=999):zEL [.str "word",.int a,d]=some (.bl true,[]):=by
 unfold zEL
 rw[zAC]
 unfold zKB
 simp[envD,zB2,h,h']
theorem zEC{d:Dat}{a:Int}(h:0<=a)(h':a<=63):zEL [.str "place",.int a,d]=some (.bl true,[]):=by
 unfold zEL
 rw[zAC]
 unfold zKB
 simp[envD,zE4,h,h']
@[simp] theorem yGT:blsD []=some []:=(rfl)
@[simp] theorem yGU{b:Bool}{ds:List Dat}:blsD (.bl b::ds)=(blsD ds).map fun ks=>b::ks:=(rfl)
@[simp] theorem yDD{g:List Bool->Bool}{ds:List Dat}:zVH g (.lst ds)=(blsD ds).map fun ks=> .bl (g ks):=(rfl)
@[simp] theorem yB2{ds:List Dat}:zipD ds []=[]:=by cases ds<;>rfl
@[simp] theorem yEN{d e:Dat}{ds es:List Dat}:zipD (d::ds) (e::es)= .tup [d,e]::zipD ds es:=(rfl)
theorem zSM{able:List Bool}{row:Dat}(h:zBN (Ab able) row):zEE [row,.lst (able.map .bl)]=some (.bl true,[]):=by
 unfold zEE
 rw[zAC]
 unfold zIY
 cases h with
 |number a b=>simp[envD,zAZ,zQD a b]
 |two hx a b=>simp[envD,zAZ,zPJ hx,zCL a,zCL b]
 |pick a b c=>simp[envD,zAZ,zCL a,zCL b,zCL c]
 |load a b=>simp[envD,zAZ,zEC a b]
 |take a b c d=>simp[envD,zAZ,zEC a b,zCL c,zCL d]
 |store a b c=>simp[envD,zAZ,zEC a b,zCL c]
 |put a b c d=>simp[envD,zAZ,zEC a b,zCL c,zCL d]
theorem zED(nn:Nat)(fe:VF)(δ:Ev)(f:Dat->Dat)(hδ:δ.length=nn): ∀(ds acc:List Dat),(∀d∈ds,fe (δ++[Sl.va d])=some (f d,δ++[Sl.va d]))->acc.length+ds.length<16777216->zBS nn 1 (gN nn) bYes fe ds acc δ=some (acc++ds.map f,δ)
 | [],acc,_,_ => by simp
 | d :: ds,acc,h,hl => by
  have b7:(δ++[Sl.no]).set nn (.va d)=δ++[Sl.va d]:=by
   rw[List.set_append_right _ _ (by omega)]
   simp[hδ]
  have ao:(δ++[Sl.va d]).take nn=δ:=by rw[List.take_append_of_le_length (by omega),List.take_of_length_le (by omega)]
  have aq:acc.length<16777216:=by simp at hl;omega
  have ih:=zED nn fe δ f hδ ds (acc++[f d]) (fun e he=>h e (List.mem_cons_of_mem _ he)) (by simp at hl⊢;omega)
  simp only[zG1,zSF,gN_e,b7,zNG,zU1,zRY,h d List.mem_cons_self,zRX,if_pos aq,ao,ih]
  simp
theorem zN5{α:Type}: ∀ds:List α,blsD (ds.map fun _=> .bl true)=some (ds.map fun _=>true)
 |[]=>rfl
 |d::ds=>by simp[zN5 ds]
@[simp] theorem yAM{α β:Type}(f:α->β)(ds:List α):blsD (ds.map ((fun _=>Dat.bl true)∘f))=some (ds.map fun _=>true):=zN5 ds
def Wd(w:Int):Prop:=0<=w/\w<=999
theorem zRJ{a b:Int}(ha:Wd a)(hb:Wd b):0<=a*b/\a*b<=998001:=by
 obtain⟨a0,a1⟩:=ha
 obtain⟨b0,b1⟩:=hb
 exact⟨Int.mul_nonneg a0 b0,Int.le_trans (Int.mul_le_mul a1 b1 b0 (by decide)) (by decide)⟩
theorem zQJ{x:String}(hx:x∈["over","plus","minus","times","least","most","less"]) {a b:Int} (ha:Wd a) (hb:Wd b): ∃r,zDY [.str x,.lst [.int a,.int b]]=some (r,[])/\((r= .non/\x= "over" /\b=0)∨ ∃w,r= .int w/\Wd w):=by
 have ab:=zRJ ha hb
 obtain⟨a0,a1⟩:=ha
 obtain⟨b0,b1⟩:=hb
 have hc:cMul a b=true:=by simp[cMul];omega
 have hc2: -18446744073709551616<a/\a<18446744073709551616∨ -18446744073709551616<b/\b<18446744073709551616:=by omega
 unfold zDY
 rw[zAC]
 unfold zMW
 simp only[List.mem_cons,List.not_mem_nil,or_false] at hx
 rcases hx with rfl|rfl|rfl|rfl|rfl|rfl|rfl
 ·by_cases h:b=0
  ·subst h
   have e:zGI [.int a,.int 0]=some (.non,[]):=by
    unfold zGI
    rw[zAC]
    unfold zMV
    simp[envD]
   exact⟨.non,by simp[envD,zEJ,zB6,zAL,zEN,e,Dat.hard],.inl ⟨rfl,rfl,rfl⟩⟩
  ·have hp : 0 < b := by omega
   have hq:b<1073741824:=by omega
   have q0:0<=a/b:=Int.ediv_nonneg a0 (by omega)
   have q1:a/b<=a:=Int.ediv_le_self _ a0
   have hr:a/b<9223372036854775808:=by omega
   have e:zGI [.int a,.int b]=some (.int (a/b),[]):=by
    unfold zGI
    rw[zAC]
    unfold zMV
    simp[envD,h,cDiv,hp,hq]
   exact⟨.int (a/b),by simp[envD,zEJ,zB6,zAL,zEN,e,Dat.hard],.inr ⟨_,rfl,q0,by omega⟩⟩
 ·have e:zI9 [.int a,.int b]=some (.int ((a+b) % 1000),[]):=by
   unfold zI9
   rw[zAC]
   unfold zQ9
   simp[envD,zB2]
  exact⟨.int ((a+b) % 1000),by simp[envD,zEJ,zB6,zAL,zEN,e,Dat.hard],.inr ⟨_,rfl,by omega,by omega⟩⟩
 ·have e:zG7 [.int a,.int b]=some (.int ((a - b) % 1000),[]):=by
   unfold zG7
   rw[zAC]
   unfold zLD
   simp[envD,zB2]
  exact⟨.int ((a - b) % 1000),by simp[envD,zEJ,zB6,zAL,zEN,e,Dat.hard],.inr ⟨_,rfl,by omega,by omega⟩⟩
 ·have e:zG5 [.int a,.int b]=some (.int (a*b % 1000),[]):=by
   unfold zG5
   rw[zAC]
   unfold zLB
   simp[envD,zB2,hc]
  exact⟨.int (a*b % 1000),by simp[envD,zEJ,zB6,zAL,zEN,e,Dat.hard],.inr ⟨_,rfl,by omega,by omega⟩⟩
 ·have e:zG9 [.int a,.int b]=some (.int (if a<=b then a else b),[]):=by
   unfold zG9
   rw[zAC]
   unfold zLF
   by_cases h:a<=b
   ·have h' : ¬ b < a := by omega
    simp[envD,h,h']
   ·have h' : b < a := by omega
    simp[envD,h,h']
  exact⟨.int (if a<=b then a else b),by simp[envD,zEJ,zB6,zAL,zEN,e,Dat.hard],.inr ⟨_,rfl,by split<;>omega,by split<;>omega⟩⟩
 ·have e:zIB [.int a,.int b]=some (.int (if a<=b then b else a),[]):=by
   unfold zIB
   rw[zAC]
   unfold zQB
   by_cases h:a<b
   ·have h' : a <= b := by omega
    simp[envD,h,h']
   ·by_cases h2:a=b
    ·subst h2
     simp[envD]
    ·have h' : ¬ a <= b := by omega
     simp[envD,h,h']
  exact⟨.int (if a<=b then b else a),by simp[envD,zEJ,zB6,zAL,zEN,e,Dat.hard],.inr ⟨_,rfl,by split<;>omega,by split<;>omega⟩⟩
 ·have e:zIC [.int a,.int b]=some (.int (if a<b then 1 else 0),[]):=by
   unfold zIC
   rw[zAC]
   unfold zQC
   by_cases h:a<b<;>simp[envD,h]
  exact⟨.int (if a<b then 1 else 0),by simp[envD,zEJ,zB6,zAL,zEN,e,Dat.hard],.inr ⟨_,rfl,by split<;>omega,by split<;>omega⟩⟩
theorem zPD{c a b:Int}(ha:Wd a)(hb:Wd b): ∃w,Wd w/\zDY [.str "pick",.lst [.int c,.int a,.int b]]=some (.int w,[]):=by
 have e:zIA [.int c,.int a,.int b]=some (.int (if c=0 then b else a),[]):=by
  unfold zIA
  rw[zAC]
  unfold zQA
  by_cases h:c=0<;>simp[envD,h]
 refine⟨if c=0 then b else a,by split<;>assumption,?_⟩
 unfold zDY
 rw[zAC]
 unfold zMW
 simp[envD,e,Dat.hard]
noncomputable def cnt:Dat->Nat
 | .tup (.str x::_)=>if x= "number" ∨x= "load" then 0 else if x= "store" then 1 else if x= "pick" then 3 else 2
 |_=>0
theorem zN2{cs:List Int}{i:Int}{w:Int}(h0:0<=i)(h1:i<cs.length)(hc: ∀c∈cs,Wd c)(hw:Wd w):ixN cs.length i=some i.toNat/\(cs.map Dat.int).set i.toNat (.int w)=(cs.set i.toNat w).map Dat.int/\ ∀c∈cs.set i.toNat w,Wd c:=by
 refine⟨by unfold ixN;rw[if_pos h0,if_pos h1],by rw[List.map_set],fun c h=> ?_⟩
 rcases List.mem_or_eq_of_mem_set h with z|z
 ·exact hc c z
 ·rw[z];exact hw
@[simp] theorem yCE{p:Int}{t:List Dat}:zAS [.tup (.str "load":: .int p::t)]=some (.int p,[]):=by unfold zAS;rw[zAC];unfold zC2;simp[envD,zCO,zB0]
@[simp] theorem yCD{p:Int}{t:List Dat}:zAS [.tup (.str "take":: .int p::t)]=some (.int p,[]):=by unfold zAS;rw[zAC];unfold zC2;simp[envD,zCO,zB0]
@[simp] theorem yCC{p:Int}{t:List Dat}:zAS [.tup (.str "store":: .int p::t)]=some (.int p,[]):=by unfold zAS;rw[zAC];unfold zC2;simp[envD,zCO,zB0]
@[simp] theorem yCB{p:Int}{t:List Dat}:zAS [.tup (.str "put":: .int p::t)]=some (.int p,[]):=by unfold zAS;rw[zAC];unfold zC2;simp[envD,zCO,zB0]
@[simp] theorem yCA{t:List Dat}:zAS [.tup (.str "pick"::t)]=some (.non,[]):=by unfold zAS;rw[zAC];unfold zC2;simp[envD,zCO,zB0]
theorem dne{x:String}(hx:x∈["over","plus","minus","times","least","most","less"]) {y:String} (hy:(["over","plus","minus","times","least","most","less"].contains y)=false):(¬x=y)/\¬y=x:=by
 have h: ¬x=y:=fun e=>by
  subst e
  rw[List.contains_iff_mem.mpr hx] at hy
  cases hy
 exact⟨h,fun e=>h e.symm⟩
theorem zV2{x:String}(hx:x∈["over","plus","minus","times","least","most","less"]) {t:List Dat}:zAS [.tup (.str x::t)]=some (.non,[]):=by
 unfold zAS;rw[zAC];unfold zC2
 have z1:=(dne hx (y:= "load") (by decide)).2
 have z2:=(dne hx (y:= "take") (by decide)).2
 have z3:=(dne hx (y:= "store") (by decide)).2
 have z4:=(dne hx (y:= "put") (by decide)).2
 simp[envD,zCO,zB0,z1,z2,z3,z4]
@[simp] theorem yH0{d:Dat}:zBW [.str "load",d]=some (.bl true,[]):=by kernel_rfl
@[simp] theorem yGZ{d:Dat}:zBW [.str "store",d]=some (.bl true,[]):=by kernel_rfl
@[simp] theorem yGY{a:Int}{ds:List Dat}:zBW [.str "take",.lst (.int a::ds)]=some (.bl (!decide (a=0)),[]):=by unfold zBW;rw[zAC];unfold zFC;simp[envD]
@[simp] theorem yGX{a b:Int}{ds:List Dat}:zBW [.str "put",.lst (.int a:: .int b::ds)]=some (.bl (!decide (b=0)),[]):=by unfold zBW;rw[zAC];unfold zFC;simp[envD]
theorem zDG{x:String}{p gh:Int}{t ws cs:List Dat}{r:Dat×List Dat}{c:Dat}(hx:x= "load" ∨x= "take" ∨x= "store" ∨x= "put") (h:zAP [.str x,.int (p+gh),.lst ws,.lst cs]=some (r.1,[c])):zBU [.tup (.str x:: .int p::t),.lst ws,.lst cs,.int gh]=some (r.1,[c]):=by
 have hp:zAS [.tup (.str x:: .int p::t)]=some (.int p,[]):=by rcases hx with rfl|rfl|rfl|rfl<;>simp
 have hn: ¬x= "number":=by rcases hx with rfl|rfl|rfl|rfl<;>decide
 unfold zBU;rw[zAC];unfold zEB
 simp[envD,h,hp,hn]
theorem zZH{n:Int}{gh:Int}{ds:List Dat}{cs:List Dat}:zBU [.tup [.str "number",.int n],.lst ds,.lst cs,.int gh]=some (.tup [.int n,.non],[.lst cs]):=by kernel_rfl
theorem zFP{M:Int->Prop}{row:Dat}(h:zBN M row): ∃as:List Int,(∀a∈as,M a)/\as.length=cnt row/\zBH [row]=some (.lst (as.map .int),[])/\zAX [row]=some (.lst (as.map .int),[]):=by
 cases h with
 | @number n _ _=>
  refine⟨[],(fun _ h=>nomatch h),by kernel_rfl,?_,?_⟩
  ·kernel_rfl
  ·kernel_rfl
 | @two x a b hx ha hb=>
  refine⟨[a,b],by simp[ha,hb],?_,?_,?_⟩
  ·simp only[List.mem_cons,List.not_mem_nil,or_false] at hx
   rcases hx with rfl|rfl|rfl|rfl|rfl|rfl|rfl<;>kernel_rfl
  ·simp only[List.mem_cons,List.not_mem_nil,or_false] at hx
   rcases hx with rfl|rfl|rfl|rfl|rfl|rfl|rfl<;>kernel_rfl
  ·simp only[List.mem_cons,List.not_mem_nil,or_false] at hx
   rcases hx with rfl|rfl|rfl|rfl|rfl|rfl|rfl<;>kernel_rfl
 | @pick c a b hc ha hb=>
  refine⟨[c,a,b],by simp[hc,ha,hb],by kernel_rfl,?_,?_⟩
  ·kernel_rfl
  ·kernel_rfl
 | @load p _ _=>
  refine⟨[],(fun _ h=>nomatch h),by kernel_rfl,?_,?_⟩
  ·kernel_rfl
  ·kernel_rfl
 | @take p c a _ _ hc ha=>
  refine⟨[c,a],by simp[hc,ha],by kernel_rfl,?_,?_⟩
  ·kernel_rfl
  ·kernel_rfl
 | @store p a _ _ ha=>
  refine⟨[a],by simp[ha],by kernel_rfl,?_,?_⟩
  ·kernel_rfl
  ·kernel_rfl
 | @put p a c _ _ ha hc=>
  refine⟨[a,c],by simp[ha,hc],by kernel_rfl,?_,?_⟩
  ·kernel_rfl
  ·kernel_rfl
inductive Did:Dat->List Int->List Int->Dat->List Int->Prop
 |number {n:Int} {cs:List Int}:Wd n->Did (.tup [.str "number",.int n]) [] cs (.int n) cs
 |two {x:String} {a b u v w:Int} {cs:List Int}:x∈["over","plus","minus","times","least","most","less"]->zDY [.str x,.lst [.int u,.int v]]=some (.int w,[])->Wd w->Did (.tup [.str x,.int a,.int b]) [u,v] cs (.int w) cs
 |pick {c a b u v z w:Int} {cs:List Int}:zDY [.str "pick",.lst [.int u,.int v,.int z]]=some (.int w,[])->Wd w->Did (.tup [.str "pick",.int c,.int a,.int b]) [u,v,z] cs (.int w) cs
 |load {p w:Int} {cs:List Int}:0<=p->p<cs.length->cs[p.toNat]? =some w->Wd w->Did (.tup [.str "load",.int p]) [] cs (.int w) cs
 |take0 {p c a v:Int} {cs:List Int}:Wd v->Did (.tup [.str "take",.int p,.int c,.int a]) [0,v] cs (.int v) cs
 |take {p c a u v w:Int} {cs:List Int}: ¬u=0->0<=p->p<cs.length->cs[p.toNat]? =some w->Wd w->Did (.tup [.str "take",.int p,.int c,.int a]) [u,v] cs (.int w) cs
 |store {p a u:Int} {cs:List Int}:0<=p->p<cs.length->Wd u->Did (.tup [.str "store",.int p,.int a]) [u] cs .non (cs.set p.toNat u)
 |put0 {p a c u:Int} {cs:List Int}:Did (.tup [.str "put",.int p,.int a,.int c]) [u,0] cs .non cs
 |put {p a c u v:Int} {cs:List Int}: ¬v=0->0<=p->p<cs.length->Wd u->Did (.tup [.str "put",.int p,.int a,.int c]) [u,v] cs .non (cs.set p.toNat u)
inductive Flt:Dat->List Int->List Int->String->Prop
 |over {a b u:Int} {cs:List Int}:Flt (.tup [.str "over",.int a,.int b]) [u,0] cs "nought"
 |load {p:Int} {cs:List Int}:(cs.length:Int)<=p->Flt (.tup [.str "load",.int p]) [] cs "beyond"
 |take {p c a u v:Int} {cs:List Int}: ¬u=0->(cs.length:Int)<=p->Flt (.tup [.str "take",.int p,.int c,.int a]) [u,v] cs "beyond"
 |store {p a u:Int} {cs:List Int}:(cs.length:Int)<=p->Flt (.tup [.str "store",.int p,.int a]) [u] cs "beyond"
 |put {p a c u v:Int} {cs:List Int}: ¬v=0->(cs.length:Int)<=p->Flt (.tup [.str "put",.int p,.int a,.int c]) [u,v] cs "beyond"
def DoR(row:Dat)(zs cs:List Int)(m y:Dat)(cs':List Int):Prop:=zBU [row,.lst (zs.map .int),.lst (cs.map .int),.int 0]=some (.tup [m,y],[.lst (cs'.map .int)])
theorem zTY{cs:List Int}{p:Int}(h0:0<=p)(h1:p<cs.length)(hc: ∀c∈cs,Wd c): ∃w,Wd w/\cs[p.toNat]? =some w/\atI (cs.map Dat.int) p=some (.int w):=by
 have hi:p.toNat<cs.length:=by omega
 refine⟨cs[p.toNat],hc _ (List.getElem_mem hi),List.getElem?_eq_getElem hi,?_⟩
 rw[zCR h0 (by simpa using h1),List.getElem?_map,List.getElem?_eq_getElem hi]
 rfl
theorem zRM{M:Int->Prop}{row:Dat}(h:zBN M row)(zs cs:List Int)(hz:zs.length=cnt row)(hzs: ∀w∈zs,Wd w)(hcs: ∀c∈cs,Wd c):
  (∃m cs1,Did row zs cs m cs1/\DoR row zs cs m .non cs1)∨ ∃s,Flt row zs cs s/\DoR row zs cs .non (.str s) cs:=by
 unfold DoR
 cases h with
 | @number n n0 n1=>
  have hc:cnt (.tup [.str "number",.int n])=0:=by kernel_rfl
  rw[hc] at hz
  match zs,hz with
  | [],_ => exact .inl ⟨.int n,cs,.number ⟨n0,n1⟩,zZH⟩
 | @two x a b hx _ _=>
  have hc:cnt (.tup [.str x,.int a,.int b])=2:=by
   simp only[List.mem_cons,List.not_mem_nil,or_false] at hx
   rcases hx with rfl|rfl|rfl|rfl|rfl|rfl|rfl<;>kernel_rfl
  rw[hc] at hz
  match zs,hz with
  |[u,v],_=>
   obtain⟨r,e2,e3⟩:=zQJ hx (hzs u (by simp)) (hzs v (by simp))
   have hp:=zV2 hx (t:=[.int a,.int b])
   have z1:=(dne hx (y:= "number") (by decide)).1
   rcases e3 with⟨rfl,rfl,rfl⟩|⟨w,rfl,hw⟩
   ·refine .inr ⟨"nought",.over,?_⟩
    unfold zBU
    rw[zAC]
    unfold zEB
    simp[envD,hp,e2]
   ·refine .inl ⟨.int w,cs,.two hx e2 hw,?_⟩
    unfold zBU
    rw[zAC]
    unfold zEB
    simp[envD,hp,e2,z1]
 | @pick c a b _ _ _=>
  have hc:cnt (.tup [.str "pick",.int c,.int a,.int b])=3:=by kernel_rfl
  rw[hc] at hz
  match zs,hz with
  |[u,v,z],_=>
   obtain⟨w,h1,e2⟩:=zPD (c:=u) (hzs v (by simp)) (hzs z (by simp))
   refine .inl ⟨.int w,cs,.pick e2 h1,?_⟩
   unfold zBU
   rw[zAC]
   unfold zEB
   simp[envD,e2]
 | @load p p0 p1=>
  have hc:cnt (.tup [.str "load",.int p])=0:=by kernel_rfl
  rw[hc] at hz
  match zs,hz with
  |[],_=>
   by_cases hb:(cs.length:Int)<=p
   ·refine .inr ⟨"beyond",.load hb,?_⟩
    refine zDG (r:=(_,[])) (by simp) ?_
    unfold zAP;rw[zAC];unfold zAV;simp[envD,hb]
   ·obtain ⟨w,h1,h2,e⟩ := zTY p0 (by omega) hcs
    refine .inl ⟨.int w,cs,.load p0 (by omega) h2 h1,?_⟩
    refine zDG (r:=(_,[])) (by simp) ?_
    unfold zAP;rw[zAC];unfold zAV;simp[envD,hb,e,zB0]
 | @take p c a p0 p1 _ _=>
  have hc:cnt (.tup [.str "take",.int p,.int c,.int a])=2:=by kernel_rfl
  rw[hc] at hz
  match zs,hz with
  |[u,v],_=>
   by_cases hu:u=0
   ·subst hu
    refine .inl ⟨.int v,cs,.take0 (hzs v (by simp)),?_⟩
    refine zDG (r:=(_,[])) (by simp) ?_
    unfold zAP;rw[zAC];unfold zAV;simp[envD]
   ·by_cases hb:(cs.length:Int)<=p
    ·refine .inr ⟨"beyond",.take hu hb,?_⟩
     refine zDG (r:=(_,[])) (by simp) ?_
     unfold zAP;rw[zAC];unfold zAV;simp[envD,hu,hb]
    ·obtain ⟨w,h1,h2,e⟩ := zTY p0 (by omega) hcs
     refine .inl ⟨.int w,cs,.take hu p0 (by omega) h2 h1,?_⟩
     refine zDG (r:=(_,[])) (by simp) ?_
     unfold zAP;rw[zAC];unfold zAV;simp[envD,hu,hb,e,zB0]
 | @store p a p0 p1 _=>
  have hc:cnt (.tup [.str "store",.int p,.int a])=1:=by kernel_rfl
  rw[hc] at hz
  match zs,hz with
  |[u],_=>
   have hu:=hzs u (by simp)
   by_cases hb:(cs.length:Int)<=p
   ·refine .inr ⟨"beyond",.store hb,?_⟩
    refine zDG (r:=(_,[])) (by simp) ?_
    unfold zAP;rw[zAC];unfold zAV;simp[envD,hb]
   ·obtain ⟨e1,e2,e3⟩ := zN2 p0 (by omega) hcs hu
    refine .inl ⟨.non,cs.set p.toNat u,.store p0 (by omega) hu,?_⟩
    refine zDG (r:=(_,[])) (by simp) ?_
    unfold zAP;rw[zAC];unfold zAV;simp[envD,hb,e1,List.map_set,zB0]
 | @put p a c p0 p1 _ _=>
  have hc:cnt (.tup [.str "put",.int p,.int a,.int c])=2:=by kernel_rfl
  rw[hc] at hz
  match zs,hz with
  |[u,v],_=>
   have hu:=hzs u (by simp)
   by_cases hv:v=0
   ·subst hv
    refine .inl ⟨.non,cs,.put0,?_⟩
    refine zDG (r:=(_,[])) (by simp) ?_
    unfold zAP;rw[zAC];unfold zAV;simp[envD]
   ·by_cases hb:(cs.length:Int)<=p
    ·refine .inr ⟨"beyond",.put hv hb,?_⟩
     refine zDG (r:=(_,[])) (by simp) ?_
     unfold zAP;rw[zAC];unfold zAV;simp[envD,hv,hb]
    ·obtain ⟨e1,e2,e3⟩ := zN2 p0 (by omega) hcs hu
     refine .inl ⟨.non,cs.set p.toNat u,.put hv p0 (by omega) hu,?_⟩
     refine zDG (r:=(_,[])) (by simp) ?_
     unfold zAP;rw[zAC];unfold zAV;simp[envD,hv,hb,e1,List.map_set,zB0]
theorem Did.len{row m:Dat}{zs cs cs1:List Int}(h:Did row zs cs m cs1):cs1.length=cs.length:=by cases h<;>simp
theorem Did.ok{row m:Dat}{zs cs cs1:List Int}(h:Did row zs cs m cs1)(hcs: ∀c∈cs,Wd c): ∀c∈cs1,Wd c:=by
 cases h with
 |store _ _ hu=>
  intro c hc
  rcases List.mem_or_eq_of_mem_set hc with z|z
  ·exact hcs c z
  ·rw[z];exact hu
 |put _ _ _ hu=>
  intro c hc
  rcases List.mem_or_eq_of_mem_set hc with z|z
  ·exact hcs c z
  ·rw[z];exact hu
 |_=>exact hcs
theorem Did.word{row m:Dat}{zs cs cs1:List Int}(h:Did row zs cs m cs1)(hk:mk1 .w row= .w): ∃w,Wd w/\m= .int w:=by
 cases h with
 |store=>simp[mk1,zAL] at hk
 |put0=>simp[mk1,zAL] at hk
 |put=>simp[mk1,zAL] at hk
 |number hw=>exact⟨_,hw,rfl⟩
 |two _ _ hw=>exact⟨_,hw,rfl⟩
 |pick _ hw=>exact⟨_,hw,rfl⟩
 |load _ _ _ hw=>exact⟨_,hw,rfl⟩
 |take0 hw=>exact⟨_,hw,rfl⟩
 |take _ _ _ _ hw=>exact⟨_,hw,rfl⟩
theorem Did.made{row m:Dat}{zs cs cs1:List Int}(h:Did row zs cs m cs1):okk 0 m:=by
 cases h<;>first
  |exact zD1
  |exact zVD
theorem zM7(k:Nat):(rngD 0 k).length=k:=by simp[rngD]
theorem zST{cs:List Int}{sure:Int}(hcs: ∀c∈cs,Wd c)(h1:sure<=cs.length)(h2:cs.length<=64):zCY [.lst (cs.map .int),.int sure]=some (.bl true,[]):=by
 have e:=zED 0 (zAG 3 [] zAU (aE (fV 0) (aE (fC (.int 0)) (aE (fC zB2) aNil)))) [] (fun _=> .bl true) rfl (cs.map .int) [] (fun x hx=>by
  obtain⟨w,hw',rfl⟩:=List.mem_map.mp hx
  have:=hcs w hw'
  simp[zB2,this.1,this.2]) (by simp;omega)
 have h3:(cs.length:Int)<=64:=by omega
 unfold zCY
 rw[zAC]
 unfold zFX
 simp only[List.nil_append] at e
 simp[envD,zE5,h1,h3,zAZ,e]
theorem zSU(ns:List Int)(n:Nat)(sure:Int)(hl:ns.length<=63)(hn:n<10000)(h0:0<=sure)(h1:sure<=64): ∃(cs:List Int) (n':Nat),(∀c∈cs,Wd c)/\sure<=cs.length/\cs.length<=64/\n'<=n+67/\zCK [Scp ns,Twn n,.int sure]=some (.lst (cs.map .int),[Twn n']):=by
 have d0:=zD2 ns n 9 hl (by omega) (by decide)
 have k0:=zJ3 ns n (b:=9) (by decide)
 obtain⟨y,hy,ey⟩:=zDP ns (n+1) [.int sure,.int (if sure+drw ns n 9<64 then sure+drw ns n 9 else 64),.int 64] hl (by omega) (by simp)
 obtain⟨m,rfl,m0,m1⟩: ∃m:Int,y= .int m/\sure<=m/\m<=64:=by
  simp only[List.mem_cons,List.not_mem_nil,or_false] at hy
  rcases hy with h|h|h
  ·exact⟨_,h,by omega,by omega⟩
  ·exact⟨_,h,by split<;>omega,by split<;>omega⟩
  ·exact⟨_,h,by omega,by omega⟩
 obtain⟨z,hz,ez⟩:=zDP ns (n+2) [.int 2,.int 4,.int 1000] hl (by omega) (by simp)
 obtain⟨b,rfl,b0,b1⟩: ∃b:Int,z= .int b/\0<b/\b<=1000:=by
  simp only[List.mem_cons,List.not_mem_nil,or_false] at hz
  rcases hz with h|h|h<;>exact⟨_,h,by omega,by omega⟩
 have hrl:=zM7 m.toNat
 obtain⟨ws,w1,w2,w3⟩:=zKI ns b hl b0 (zAG 3 [1] zAI (aE (fV 0) (aO 1 (aE (fV 2) aNil)))) .no [.va (.int b)] 3 rfl (fun q d hq=>by simp[zD2 ns q b hl (by omega) b0]) (rngD 0 m.toNat) (n+3) [] (by rw[hrl];omega) (by rw[hrl];simp;omega)
 simp only[List.nil_append,hrl,List.cons_append] at w3
 rw[hrl] at w1
 have hm:(-4611686018427387904:Int)<=m/\m<4611686018427387904:=by omega
 refine⟨ws,n+3+m.toNat,fun c hc=> ?_,by omega,by omega,by omega,?_⟩
 ·have:=w2 c hc
  exact⟨by omega,by omega⟩
 ·unfold zCK
  rw[zAC]
  unfold zER
  simp[envD,d0,ey,ez,hm,zAZ,w3]
theorem zMP: ∀(ks:List Key) (ws:List Dat) (i:Nat) (k:Key),ks.Nodup->ks.length=ws.length->ks[i]? =some k->zB6 ks ws k=ws[i]?
 |[],_,i,k,_,_,e=>by simp at e
 |k'::ks,[],i,k,_,hl,_=>by simp at hl
 |k'::ks,w::ws,0,k,_,_,e=>by simp at e;simp[zB6,e]
 |k'::ks,w::ws,i+1,k,nd,hl,e=>by
  have e':ks[i]? =some k:=by simpa using e
  have hne: ¬k'=k:=fun z=>(List.nodup_cons.mp nd).1 (by rw[z];exact List.mem_of_getElem? e')
  have:=zMP ks ws i k (List.nodup_cons.mp nd).2 (by simpa using hl) e'
  simp[zB6,hne,this]
structure Ws(kds:List Kd)(ws:List Dat):Prop where
 len:ws.length=kds.length
 wd: ∀a,Nm kds .w a-> ∃x,Wd x/\atI ws a=some (.int x)
theorem Ws.nil:Ws [] []:=⟨rfl,fun a h=>by have:=h.2;simp at this⟩
theorem Ws.snoc{kds:List Kd}{ws:List Dat}{k:Kd}{m:Dat}(W:Ws kds ws)(h:k= .w-> ∃x,Wd x/\m= .int x):Ws (kds++[k]) (ws++[m]):=by
 refine⟨by simp[W.len],fun a ha=> ?_⟩
 have h0:=ha.1
 have hlt:=ha.lt
 have hl:=W.len
 rw[List.length_append,List.length_singleton] at hlt
 rw[zCR h0 (by simp;omega)]
 by_cases hi:a.toNat<kds.length
 ·obtain ⟨x,hx,e⟩ := W.wd a ⟨h0,by have := ha.2;rwa [List.getElem?_append_left hi] at this⟩
  rw[zCR h0 (by omega)] at e
  exact⟨x,hx,by rw[List.getElem?_append_left (by omega)];exact e⟩
 ·have hii : a.toNat = kds.length := by omega
  have e:=ha.2
  rw[hii] at e
  simp at e
  obtain⟨x,hx,rfl⟩:=h e
  exact⟨x,hx,by rw[hii,<- hl];simp⟩
noncomputable def wv(lm:List Dat)(a:Int):Int:=match atI lm a with
 |some (.int x)=>x
 |_=>0
theorem Ws.word{kds:List Kd}{ws:List Dat}{a:Int}(W:Ws kds ws)(h:Nm kds .w a):atI ws a=some (.int (wv ws a))/\Wd (wv ws a):=by
 obtain⟨x,hx,e⟩:=W.wd a h
 unfold wv
 rw[e]
 exact⟨rfl,hx⟩
noncomputable def fW(lm:List Dat):Dat->Dat
 | .int a=> .int (wv lm a)
 |_=> .non
theorem zTP(lm:List Dat)(as:List Int):(as.map Dat.int).map (fW lm)=(as.map (wv lm)).map Dat.int:=by simp[fW]
theorem zTX(row:Dat):cnt row<=3:=by
 unfold cnt
 split
 ·split
  ·omega
  ·split
   ·omega
   ·split<;>omega
 ·omega
theorem zN6{as:List Int}{d:Dat}{ws:List Dat}(has:as.length<=3)(h: ∀a∈as,oIxA d (.int a)=some (.int (wv ws a))):zBS 1 1 (gN 1) bYes (f2 oIxA (fO 0) (fV 1)) (as.map .int) [] [.ow d]=some ((as.map (wv ws)).map .int,[.ow d]):=by
 rw[zED 1 _ [.ow d] (fW ws) rfl _ [] (fun e he=> ?_) (by simp;omega),zTP]
 ·rfl
 ·obtain⟨a,ha,rfl⟩:=List.mem_map.mp he
  simp[h a ha,fW]
inductive Bl:List Kd->List Dat->List Kd->Prop
 |nil {kds:List Kd}:Bl kds [] kds
 |cons {kds a9:List Kd} {row:Dat} {rows:List Dat}:zBN (Nm kds .w) row->Bl (kds++[mk1 .w row]) rows a9->Bl kds (row::rows) a9
theorem Bl.snoc{kds a9:List Kd}{rows:List Dat}{row:Dat}(h:Bl kds rows a9)(r:zBN (Nm a9 .w) row):Bl kds (rows++[row]) (a9++[mk1 .w row]):=by
 induction h with
 |nil=>exact .cons r .nil
 |cons a _ ih=>exact .cons a (ih r)
theorem Bl.len{kds a9:List Kd}{rows:List Dat}(h:Bl kds rows a9):a9.length=kds.length+rows.length:=by
 induction h with
 |nil=>simp
 |cons _ _ ih=>simp only[ih,List.length_append,List.length_cons,List.length_nil];omega
theorem Bl.all{kds a9:List Kd}{rows:List Dat}(h:Bl kds rows a9): ∀d∈rows,zBN (Nm a9 .w) d:=by
 induction h with
 | nil => intro d hd;cases hd
 | @cons kds a9 row rows a t ih=>
  intro d hd
  rcases List.mem_cons.mp hd with rfl|hd
  ·refine a.imp fun x hx => ?_
   have: ∀{k k':List Kd} {rs:List Dat},Bl k rs k'->Nm k .w x->Nm k' .w x:=by
    intro k k' rs h
    induction h with
    |nil=>exact id
    |cons _ _ ih=>exact fun z=>ih z.snoc
   exact this t hx.snoc
  ·exact ih d hd
theorem zHB: ∀ns:List Int,zFB (ns.map .int)=some ns
 |[]=>rfl
 |i::ns=>by
  show(zFB (ns.map .int)).map (fun ns=>i::ns)=_
  rw[zHB ns]
  rfl
theorem zPB{n:Int}: ∀{ns:List Int},n∈ns-> ∃j:Nat,posI n ns=some j/\j<ns.length
 | i :: ns,h => by
  unfold posI
  by_cases e:i=n
  ·rw [if_pos e];exact ⟨0,rfl,by simp⟩
  ·rw[if_neg e]
   obtain⟨j,h1,h2⟩:=zPB (ns:=ns) (by
    rcases List.mem_cons.mp h with z|z
    ·exact absurd z.symm e
    ·exact z)
   exact⟨j+1,by rw[h1];rfl,by simp;omega⟩
noncomputable def nst(ns:List Int)(n:Nat)(rows:List Dat)(made:List Int)(sn:Dat)(a7:Int)(last:Dat)(fi:Int)(bs:List Int)(s9 s10:Sl):Ev:=
 [.va (Scp ns),.ow (Twn n),.va (.lst rows),.va (.lst (made.map .int)),.ow sn,.va (.int a7),.va last,.va (.int fi),.ow (.lst (bs.map .int)),s9,s10]
theorem zZJ(ns:List Int)(n:Nat)(rows:List Dat)(made:List Int)(sn:Dat)(a7:Int)(last:Dat)(fi:Int)(bs:List Int)(a:Int)(s10:Sl)(hl:ns.length<=63)(hn:n<700000)(ha:a∈made)(hb:bs.length<100):
  ∃b∈made,∃dk,zC4 (nst ns n rows made sn a7 last fi bs (.va (.int a)) s10)=some (.nx (nst ns (n+1) rows made sn a7 last fi (bs++[b]) (.va (.int a)) dk)):=by
 obtain⟨j,hj,hj2⟩:=zPB ha
 obtain⟨x,hx,ex⟩:=zDP ns n [.int 1,.int 1,.int 1,.int 1,.int (-1),.int 0,.int 2] hl (by omega) (by simp)
 obtain⟨p,rfl⟩: ∃p,x= .int p:=by
  simp only[List.mem_cons,List.not_mem_nil,or_false] at hx
  rcases hx with rfl|rfl|rfl|rfl|rfl|rfl|rfl<;>exact⟨_,rfl⟩
 have hi:zPQ (.lst (made.map .int)) (.int a)=some (.int j):=by
  show(zFB (made.map .int)).bind (fun ns=>(posI a ns).map fun j=>Dat.int j)=_
  rw[zHB,Option.bind_some,hj]
  rfl
 have hb':bs.length<16777216:=by omega
 by_cases h1:0<=(j:Int)+p/\(j:Int)+p<made.length
 ·obtain⟨q,hq,eq⟩:=zIV (ns:=made) h1.1 h1.2
  by_cases h2:q=(rows.length:Int) - 1
  ·refine⟨a,ha,.va (.int (j+p)),?_⟩
   unfold zC4
   simp[nst,hi,ex,h1.1,h1.2,eq,h2,hb']
  ·refine⟨q,hq,.va (.int (j+p)),?_⟩
   unfold zC4
   simp[nst,hi,ex,h1.1,h1.2,eq,h2,hb']
 ·refine⟨a,ha,.va (.int (j+p)),?_⟩
  unfold zC4
  by_cases h3:0<=(j:Int)+p
  ·have h4 : ¬ (j : Int) + p < made.length := fun z => h1 ⟨h3,z⟩
   simp[nst,hi,ex,h3,h4,hb']
  ·simp[nst,hi,ex,h3,hb']
theorem zPS(ns:List Int)(rows:List Dat)(made:List Int)(sn:Dat)(a7:Int)(last:Dat)(fi:Int)(hl:ns.length<=63): ∀(as:List Int) (n:Nat) (bs:List Int) (s9 s10:Sl),n+as.length<700000->(∀a∈as,a∈made)->bs.length+as.length<100→
  ∃cs:List Int,(∀c∈cs,c∈made)/\cs.length=as.length/\ ∃s9' dk,forV (gN 9) zC4 (as.map .int) (nst ns n rows made sn a7 last fi bs s9 s10)=some (.nx (nst ns (n+as.length) rows made sn a7 last fi (bs++cs) s9' dk))
 | [],n,bs,s9,s10,_,_,_ => ⟨[],by simp,rfl,s9,s10,by simp⟩
 | a :: as,n,bs,s9,s10,hn,ha,hb => by
  simp only[List.length_cons] at hn hb
  obtain⟨b,hb1,u10,e⟩:=zZJ ns n rows made sn a7 last fi bs a s10 hl (by omega) (ha a List.mem_cons_self) (by omega)
  obtain⟨cs,h1,h2,s9',dk,ih⟩:=zPS ns rows made sn a7 last fi hl as (n+1) (bs++[b]) (.va (.int a)) u10 (by omega) (fun x hx=>ha x (List.mem_cons_of_mem _ hx)) (by simp;omega)
  refine⟨b::cs,fun c hc=> ?_,by simp[h2],s9',dk,?_⟩
  ·rcases List.mem_cons.mp hc with rfl|hc
   ·exact hb1
   ·exact h1 c hc
  rw[List.map_cons,zEI,gN_e,zHP,show(nst ns n rows made sn a7 last fi bs s9 s10).set 9 (.va (.int a))=nst ns n rows made sn a7 last fi bs (.va (.int a)) s10 from rfl,e,zIM,ih]
  simp[Nat.add_assoc,Nat.add_comm 1]
theorem cel4{x:String}(h:onC x):(decide ("load"=x) || (decide ("take"=x) || (decide ("store"=x) || decide ("put"=x))))=true:=by
 rcases h with rfl|rfl|rfl|rfl<;>decide
theorem snM{m k:Nat}{d:Dat}(h:Sn m d)(hk:m<=k):Sn k d:=by
 obtain⟨ks,vs,e,h1,h2,h3⟩:=h
 exact⟨ks,vs,e,h1,h2,by omega⟩
theorem zIS(ns:List Int)(n:Nat)(rows:List Dat)(made:List Int)(sn:Dat)(a7:Int){x:String}{p:Int}{as:List Int}{m:Nat}(hl:ns.length<=63)(hn:n<600000)(hm:m<8000000)(hs:Sn m sn)(hr:0<a7)(hx:onC x)(am:atI rows (-1)=some (.tup (.str x:: .int p::as.map .int)))(ha: ∀a∈as,a∈made)(h3:as.length<=3):
  ∃(q:Int) (cs:List Int) (sn':Dat),0<=q/\q<a7/\(∀c∈cs,c∈made)/\cs.length=as.length/\Sn (m+1) sn'/\zBT [Scp ns,Twn n,.lst rows,.lst (made.map .int),sn,.int a7]=some (.tup (.str x:: .int q::cs.map .int),[Twn (n+as.length),sn']):=by
 obtain⟨cs,h1,h2,s9,s10,e⟩:=zPS ns rows made sn a7 (.tup (.str x:: .int p::as.map .int)) 2 hl as n [] .no .no (by omega) ha (by simp;omega)
 simp only[nst,List.nil_append,List.map_nil] at e
 obtain⟨ks,vs,rfl,k1,k2,k3⟩:=hs
 obtain⟨ks',vs',pe,h4,h5,h6,h7,h8⟩:=putI ks vs (.inr (x:Str)) ((p+1) % a7) k1 k2
 have hk:ks.length<16777216:=by omega
 refine⟨(p+1) % a7,cs,.dct ks' (vs'.map .int),Int.emod_nonneg _ (by omega),Int.emod_lt_of_pos _ hr,h1,h2,⟨ks',vs',rfl,h4,h5,by omega⟩,?_⟩
 unfold zBT
 rw[zAC,zEA.eq_1]
 have hin:=cel4 hx
 have cj:cutD (.str x:: .int p::as.map Dat.int) (some 2) none=as.map Dat.int:=by
  have:=zFE (ds:= .str x:: .int p::as.map Dat.int) (k:=2) (by simp)
  simpa using this
 have hcl:2+cs.length<=16777216:=by omega
 simp[envD,am,hin,cj,e,hr,hk,k2,pe,h8,hcl]
theorem off4{x:String}(h: ¬onC x):(¬x= "load" /\¬ "load"=x)/\(¬x= "take" /\¬ "take"=x)/\(¬x= "store" /\¬ "store"=x)/\¬x= "put" /\¬ "put"=x:=by refine⟨⟨fun z=>h (.inl z),fun z=>h (.inl z.symm)⟩,⟨fun z=>h (.inr (.inl z)),fun z=>h (.inr (.inl z.symm))⟩,⟨fun z=>h (.inr (.inr (.inl z))),fun z=>h (.inr (.inr (.inl z.symm)))⟩,fun z=>h (.inr (.inr (.inr z))),fun z=>h (.inr (.inr (.inr z.symm)))⟩
theorem zML(ns:List Int)(n:Nat)(rows:List Dat)(made:List Int)(sn:Dat)(a7:Int){x:String}{as:List Int}(hl:ns.length<=63)(hn:n<600000)(hx: ¬onC x)(am:atI rows (-1)=some (.tup (.str x::as.map .int)))(ha: ∀a∈as,a∈made)(h3:as.length<=3):
  ∃cs:List Int,(∀c∈cs,c∈made)/\cs.length=as.length/\zBT [Scp ns,Twn n,.lst rows,.lst (made.map .int),sn,.int a7]=some (.tup (.str x::cs.map .int),[Twn (n+as.length),sn]):=by
 obtain⟨cs,h1,h2,s9,s10,e⟩:=zPS ns rows made sn a7 (.tup (.str x::as.map .int)) 1 hl as n [] .no .no (by omega) ha (by simp;omega)
 simp only[nst,List.nil_append,List.map_nil] at e
 refine⟨cs,h1,h2,?_⟩
 unfold zBT
 rw[zAC,zEA.eq_1]
 obtain⟨⟨_,z1⟩,⟨_,z2⟩,⟨_,z3⟩,_,z4⟩:=off4 hx
 have cj:cutD (.str x::as.map Dat.int) (some 1) none=as.map Dat.int:=by
  have:=zFE (ds:= .str x::as.map Dat.int) (k:=1) (by simp)
  simpa using this
 have lu:cutD (.str x::as.map Dat.int) none (some 1)=[.str x]:=by
  have:=zG0 (ds:= .str x::as.map Dat.int) (k:=1)
  simpa using this
 have hcl:1+cs.length<=16777216:=by omega
 simp[envD,am,z1,z2,z3,z4,cj,lu,e,hcl]
theorem zVJ(ns:List Int)(n:Nat)(rows:List Dat)(made:List Int)(sn:Dat)(a7:Int){last:Dat}{m:Nat}(hl:ns.length<=63)(hn:n<600000)(hm:m<8000000)(hs:Sn m sn)(hr:0<a7)(hr2:a7<=64)(am:atI rows (-1)=some last)(ok:zBN (· ∈made) last)(nn: ∀k,last≠ .tup [.str "number",.int k]):
  ∃row n' sn',n<=n'/\n'<=n+3/\Sn (m+1) sn'/\zBN (· ∈made) row/\zBT [Scp ns,Twn n,.lst rows,.lst (made.map .int),sn,.int a7]=some (row,[Twn n',sn']):=by
 cases ok with
 |number=>exact absurd rfl (nn _)
 | @two x a b hx ha hb=>
  obtain⟨cs,h1,h2,e⟩:=zML ns n rows made sn a7 (x:=x) (as:=[a,b]) hl hn (zO4 hx) am (by simp[ha,hb]) (by simp)
  match cs,h2 with
  |[c,d],_=>exact⟨_,n+2,sn,by omega,by omega,snM hs (by omega),.two hx (h1 c (by simp)) (h1 d (by simp)),e⟩
 | @pick c a b hc ha hb=>
  obtain⟨cs,h1,h2,e⟩:=zML ns n rows made sn a7 (x:= "pick") (as:=[c,a,b]) hl hn (fun z=>by rcases z with z|z|z|z<;>exact absurd z (by decide)) am (by simp[ha,hb,hc]) (by simp)
  match cs,h2 with
  |[c,d,f],_=>exact⟨_,n+3,sn,by omega,by omega,snM hs (by omega),.pick (h1 c (by simp)) (h1 d (by simp)) (h1 f (by simp)),e⟩
 | @load p p0 p1=>
  obtain⟨q,cs,sn',q0,q1,h1,h2,hs',e⟩:=zIS ns n rows made sn a7 (x:= "load") (p:=p) (as:=[]) hl hn hm hs hr (.inl rfl) am (by simp) (by simp)
  match cs,h2 with
  |[],_=>exact⟨_,n+0,sn',by omega,by omega,hs',.load q0 (by omega),e⟩
 | @take p c a p0 p1 hc ha=>
  obtain⟨q,cs,sn',q0,q1,h1,h2,hs',e⟩:=zIS ns n rows made sn a7 (x:= "take") (p:=p) (as:=[c,a]) hl hn hm hs hr (.inr (.inl rfl)) am (by simp[hc,ha]) (by simp)
  match cs,h2 with
  |[c,d],_=>exact⟨_,n+2,sn',by omega,by omega,hs',.take q0 (by omega) (h1 c (by simp)) (h1 d (by simp)),e⟩
 | @store p a p0 p1 ha=>
  obtain⟨q,cs,sn',q0,q1,h1,h2,hs',e⟩:=zIS ns n rows made sn a7 (x:= "store") (p:=p) (as:=[a]) hl hn hm hs hr (.inr (.inr (.inl rfl))) am (by simp[ha]) (by simp)
  match cs,h2 with
  |[c],_=>exact⟨_,n+1,sn',by omega,by omega,hs',.store q0 (by omega) (h1 c (by simp)),e⟩
 | @put p a c p0 p1 ha hc=>
  obtain⟨q,cs,sn',q0,q1,h1,h2,hs',e⟩:=zIS ns n rows made sn a7 (x:= "put") (p:=p) (as:=[a,c]) hl hn hm hs hr (.inr (.inr (.inr rfl))) am (by simp[ha,hc]) (by simp)
  match cs,h2 with
  |[c,d],_=>exact⟨_,n+2,sn',by omega,by omega,hs',.put q0 (by omega) (h1 c (by simp)) (h1 d (by simp)),e⟩
structure RI(rows:List Dat)(made:List Int)(kds:List Kd):Prop where
 bl:Bl [] rows kds
 ex: ∀a,a∈made↔Nm kds .w a
 ml:made.length<=rows.length
theorem RI.len{rows:List Dat}{made:List Int}{kds:List Kd}(h:RI rows made kds):kds.length=rows.length:=by
 have:=h.bl.len
 simpa using this
theorem zVI{kds:List Kd}{k:Kd}{a:Int}:Nm (kds++[k]) .w a↔Nm kds .w a∨(k= .w/\a=kds.length):=by
 constructor
 ·intro h
  have h0:=h.1
  have hl:=h.lt
  rw[List.length_append,List.length_singleton] at hl
  by_cases hi:a.toNat<kds.length
  ·exact .inl ⟨h0,by have := h.2;rwa [List.getElem?_append_left hi] at this⟩
  ·have hi : a.toNat = kds.length := by omega
   have e:=h.2
   rw[hi] at e
   simp at e
   exact .inr ⟨e,by omega⟩
 ·rintro (h|⟨rfl,rfl⟩)
  ·exact h.snoc
  ·exact Nm.new
theorem RI.more{rows:List Dat}{made:List Int}{kds:List Kd}{row:Dat}(h:RI rows made kds)(r:zBN (· ∈made) row):RI (rows++[row]) (if mk1 .w row= .w then made++[(rows.length:Int)] else made) (kds++[mk1 .w row]):=by
 refine⟨h.bl.snoc (r.imp fun a ha=>(h.ex a).mp ha),fun a=> ?_,?_⟩
 ·rw[zVI,<- h.ex a,h.len]
  split
  ·rename_i e
   simp[e]
  ·rename_i e
   simp[e]
 ·have:=h.ml
  split<;>simp<;>omega
theorem RI.last{rs:List Dat}{last:Dat}{made:List Int}{kds:List Kd}(h:RI (rs++[last]) made kds):zBN (· ∈made) last:=(h.bl.all last (by simp)).imp fun a ha=>(h.ex a).mpr ha
noncomputable def rst(ns:List Int)(n:Nat)(ae a7:Int)(rows:List Dat)(made:List Int)(sn:Dat)(s7:Sl):Ev:=
 [.va (Scp ns),.ow (Twn n),.va (.int ae),.va (.int a7),.ow (.lst rows),.ow (.lst (made.map .int)),.ow sn,s7]
theorem zKA: ∀vs:List Int,zGN (vs.map .int)=true
 |[]=>rfl
 |_::vs=>by
  show((Dat.int _).hard && zGN (vs.map .int))=true
  rw[zKA vs]
  rfl
theorem zOH{m:Nat}{sn:Dat}(h:Sn m sn):zF7 sn=true:=by
 obtain⟨ks,vs,rfl,_⟩:=h
 exact zKA vs
theorem zPX{row:Dat}(x:String)(t:List Dat)(e:row= .tup (.str x::t)):mk1 .w row= .w↔ ¬(x= "store" ∨x= "put"):=by
 subst e
 by_cases h:x= "store" ∨x= "put"
 ·rw[yDG h];simp[h]
 ·have : x ∉ ["store","put"] := by simpa using h
  rw[yDH this];simp[h]
theorem zXF(ns:List Int)(n:Nat)(ae a7:Int){rows:List Dat}{made:List Int}{kds:List Kd}{sn:Dat}{m:Nat}(s7:Sl)(hl:ns.length<=63)(hn:n<600000)(hm:m<8000000)(hs:Sn m sn)(hr:0<a7)(hr2:a7<=64)(R:RI rows made kds)(h0:rows≠[])(aa:rows.length<1000):
  ∃af ak a9 n' sn',RI af ak a9/\rows.length<=af.length/\((rows.length:Int)<=ae->(af.length:Int)<=ae)/\af.length<=rows.length+1/\n<=n'/\n'<=n+3/\Sn (m+1) sn'/\zC3 (rst ns n ae a7 rows made sn s7)=some (.nx (rst ns n' ae a7 af ak sn' s7)):=by
 obtain⟨rs,last,rfl⟩: ∃rs last,rows=rs++[last]:=⟨rows.dropLast,rows.getLast h0,(List.dropLast_concat_getLast h0).symm⟩
 have ok:=R.last
 have am:=zGV rs last
 have hml:made.length<16777216:=by have:=R.ml;omega
 have hrl:(rs++[last]).length<16777216:=by omega
 generalize om:rs++[last]=rows at*
 obtain⟨x,t,e0,_⟩:=zGQ ok
 by_cases h1:(rows.length:Int)<ae
 ·by_cases h2:x= "number"
  ·refine ⟨rows,made,kds,n,sn,R,Nat.le_refl _,id,by omega,by omega,by omega,snM hs (by omega),?_⟩
   unfold zC3
   simp[rst,h1,am,e0,h2]
  ·obtain ⟨row,n',sn',n0,n1,hs',okr,e⟩ := zVJ ns n rows made sn a7 hl hn hm hs hr hr2 am ok (fun k z => by rw [e0] at z;simp [zAL] at z;exact h2 z.1)
   obtain⟨y,u,e1,_⟩:=zGQ okr
   have hl2:=zGV rows row
   refine⟨_,_,_,n',sn',R.more okr,by simp,by simp;omega,by simp,n0,n1,hs',?_⟩
   unfold zC3
   have key:=zPX y u e1
   have hrd:=okr.hard
   rw[e1] at hrd
   have hsn:=zOH hs'
   by_cases h3:y= "store" ∨y= "put"
   ·rw [if_neg (by rw [key];simp [h3])]
    rcases h3 with rfl|rfl
    ·simp[rst,h1,am,e0,h2,e,hl2,e1,hrl,hrd,hsn]
    ·simp[rst,h1,am,e0,h2,e,hl2,e1,hrl,hrd,hsn]
   ·rw [if_pos (by rw [key];exact h3)]
    have z1: ¬ "store"=y:=fun z=>h3 (.inl z.symm)
    have z2: ¬ "put"=y:=fun z=>h3 (.inr z.symm)
    simp[rst,h1,am,e0,h2,e,hl2,e1,hrl,hrd,hsn,z1,z2,hml]
 ·refine ⟨rows,made,kds,n,sn,R,Nat.le_refl _,id,by omega,by omega,by omega,snM hs (by omega),?_⟩
  unfold zC3
  simp[rst,h1]
theorem zTA(ns:List Int)(ae a7:Int)(hl:ns.length<=63)(hr:0<a7)(hr2:a7<=64): ∀(ds:List Dat) (n:Nat) {rows:List Dat} {made:List Int} {kds:List Kd} {sn:Dat} {m:Nat} (s7:Sl),n+3*ds.length<600000->m+ds.length<8000000->Sn m sn->RI rows made kds->rows≠[]->rows.length+ds.length<1000→
  ∃af ak a9 n' sn' s7',RI af ak a9/\rows.length<=af.length/\((rows.length:Int)<=ae->(af.length:Int)<=ae)/\n<=n'/\n'<=n+3*ds.length/\Sn (m+ds.length) sn'/\forV (gN 7) zC3 ds (rst ns n ae a7 rows made sn s7)=some (.nx (rst ns n' ae a7 af ak sn' s7'))
 |[],n,rows,made,kds,sn,m,s7,_,_,hs,R,_,_=>⟨rows,made,kds,n,sn,s7,R,Nat.le_refl _,id,by omega,by simp,hs,by simp⟩
 |d::ds,n,rows,made,kds,sn,m,s7,hn,hm,hs,R,h0,hz=>by
  simp only[List.length_cons] at hn hm hz
  obtain⟨j4,l9,mx,n1,sn1,R1,a1,a2,a3,a4,a5,hs1,e1⟩:=zXF ns n ae a7 (.va d) hl (by omega) (by omega) hs hr hr2 R h0 (by omega)
  obtain⟨af,ak,a9,n',sn',s7',R',b1,b2,b3,b4,hs',e⟩:=zTA ns ae a7 hl hr hr2 ds n1 (.va d) (by omega) (by omega) hs1 R1 (fun z=>by rw[z] at a1;simp at a1;exact h0 a1) (by omega)
  refine⟨af,ak,a9,n',sn',s7',R',by omega,fun z=>b2 (a2 z),by omega,by simp only[List.length_cons];omega,snM hs' (by simp only[List.length_cons];omega),?_⟩
  rw[zEI,gN_e,zHP,show(rst ns n ae a7 rows made sn s7).set 7 (.va d)=rst ns n ae a7 rows made sn (.va d) from rfl,e1,zIM,e]
theorem zXE(ns:List Int)(n:Nat)(ae a7:Int){rows:List Dat}{made:List Int}{kds:List Kd}{sn:Dat}(s7:Sl)(hl:ns.length<=63)(hn:n<500000)(hs:Seen n sn)(hr:0<a7)(hr2:a7<=64)(R:RI rows made kds)(hlt:(rows.length:Int)<ae)(h40:ae<=40):
  ∃af ak a9 n' sn' s7',RI af ak a9/\rows.length<af.length/\(af.length:Int)<=ae/\n<=n'/\n'<=n+20/\Seen n' sn'/\zDA (rst ns n ae a7 rows made sn s7)=some (.nx (rst ns n' ae a7 af ak sn' s7')):=by
 obtain⟨row,n1,sn1,c1,c2,hs1,okr,_,e⟩:=zXG ns n made sn a7 hl (by omega) hs hr hr2
 obtain⟨x,hx,ex⟩:=zDP ns n1 [.int 0,.int 1,.int 1,.int 2,.int 3] hl (by omega) (by simp)
 obtain⟨k,rfl,k0,k3⟩: ∃k:Nat,x= .int k/\0<=k/\k<=3:=by
  simp only[List.mem_cons,List.not_mem_nil,or_false] at hx
  rcases hx with rfl|rfl|rfl|rfl|rfl
  ·exact⟨0,rfl,by omega,by omega⟩
  ·exact⟨1,rfl,by omega,by omega⟩
  ·exact⟨1,rfl,by omega,by omega⟩
  ·exact⟨2,rfl,by omega,by omega⟩
  ·exact⟨3,rfl,by omega,by omega⟩
 have R1:=R.more okr
 have hrl:rows.length<16777216:=by omega
 have hml:made.length<16777216:=by have:=R.ml;omega
 have hdl:(rngD 0 k).length=k:=zM7 k
 obtain⟨af,ak,a9,n',sn',s7',R',b1,b2,b3,b4,hs',ef⟩:=zTA ns ae a7 hl hr hr2 (rngD 0 k) (n1+1) s7 (by omega) (by omega) hs1 R1 (by simp) (by simp;omega)
 refine⟨af,ak,a9,n',sn',s7',R',by simp at b1;omega,b2 (by simp;omega),by omega,by omega,snM hs' (by omega),?_⟩
 obtain⟨y,u,e1,_⟩:=zGQ okr
 have hl2:=zGV rows row
 have key:=zPX y u e1
 have hrd:=okr.hard
 rw[e1] at hrd
 have hsn:=zOH hs1
 have hk1:(-4611686018427387904:Int)<=k/\(k:Int)<4611686018427387904:=by omega
 unfold zDA
 by_cases h3:y= "store" ∨y= "put"
 ·rw [if_neg (by rw [key];simp [h3])] at ef
  simp only[rst] at ef
  rw[e1] at ef
  rcases h3 with rfl|rfl
  ·simp[rst,e,hl2,e1,hrl,hrd,hsn,ex,hk1,ef]
  ·simp[rst,e,hl2,e1,hrl,hrd,hsn,ex,hk1,ef]
 ·rw [if_pos (by rw [key];exact h3)] at ef
  simp only[rst,List.map_append,List.map_cons,List.map_nil] at ef
  rw[e1] at ef
  have z1: ¬ "store"=y:=fun z=>h3 (.inl z.symm)
  have z2: ¬ "put"=y:=fun z=>h3 (.inr z.symm)
  simp[rst,e,hl2,e1,hrl,hrd,hsn,ex,hk1,z1,z2,hml,ef]
theorem zLS{t:VB}{g:VS}{k:Nat}{δ δ1 δ2:Ev}(h:t δ=some (true,δ1))(h2:g δ1=some (.nx δ2)):zBI t g (k+1) δ=zBI t g k δ2:=by
 show((t δ).bind fun p=>if p.1=true then(g p.2).bind (zDU (zBI t g k)) else some (.nx p.2))=_
 rw[h,Option.bind_some]
 show(if true=true then(g δ1).bind (zDU (zBI t g k)) else _)=_
 rw[if_pos rfl,h2]
 rfl
theorem zID{t:VB}{g:VS}{k:Nat}{δ δ1:Ev}(h:t δ=some (false,δ1)):zBI t g (k+1) δ=some (.nx δ1):=by
 show((t δ).bind fun p=>if p.1=true then(g p.2).bind (zDU (zBI t g k)) else some (.nx p.2))=_
 rw[h]
 rfl
theorem zT9(ns:List Int)(ae a7:Int)(hl:ns.length<=63)(hr:0<a7)(hr2:a7<=64)(h40:ae<=40): ∀(f:Nat) (n:Nat) {rows:List Dat} {made:List Int} {kds:List Kd} {sn:Dat} (s7:Sl),ae - rows.length<=f->(rows.length:Int)<=ae->n+20*f<500000->Seen n sn->RI rows made kds→
  ∃af ak a9 n' sn' s7',RI af ak a9/\(af.length:Int)=ae/\n<=n'/\n'<=n+20*f/\zBI (fB (f2 oLt (f1 oLen (fO 4)) (fV 2))) zDA (f+1) (rst ns n ae a7 rows made sn s7)=some (.nx (rst ns n' ae a7 af ak sn' s7'))
 | 0,n,rows,made,kds,sn,s7,h1,h2,hn,hs,R => by
  refine⟨rows,made,kds,n,sn,s7,R,by omega,by omega,by omega,zID ?_⟩
  have: ¬(rows.length:Int)<ae:=by omega
  simp[rst,this]
 | f + 1,n,rows,made,kds,sn,s7,h1,h2,hn,hs,R => by
  by_cases hlt:(rows.length:Int)<ae
  ·obtain ⟨j4,l9,mx,n1,sn1,u7,R1,a1,a2,a3,a4,hs1,e1⟩ := zXE ns n ae a7 s7 hl (by omega) hs hr hr2 R hlt h40
   obtain⟨af,ak,a9,n',sn',s7',R',b1,b2,b3,e⟩:=zT9 ns ae a7 hl hr hr2 h40 f n1 u7 (by omega) a2 (by omega) hs1 R1
   refine⟨af,ak,a9,n',sn',s7',R',b1,by omega,by omega,?_⟩
   rw[zLS (δ1:=rst ns n ae a7 rows made sn s7) (by simp[rst,hlt]) e1,e]
  ·refine ⟨rows,made,kds,n,sn,s7,R,by omega,by omega,by omega,zID ?_⟩
   simp[rst,hlt]
theorem zUP(ns:List Int)(n:Nat)(ae a7:Int)(hl:ns.length<=63)(hn:n<400000)(hr:0<a7)(hr2:a7<=64)(h0:0<=ae)(h40:ae<=40):
  ∃rows kds n',Bl [] rows kds/\(rows.length:Int)=ae/\n<=n'/\n'<=n+20*40/\zCW [Scp ns,Twn n,.int ae,.int a7]=some (.tup rows,[Twn n']):=by
 obtain⟨rows,made,kds,n',sn,s7,R,a1,a2,a3,e⟩:=zT9 ns ae a7 hl hr hr2 h40 ae.toNat n (rows:=[]) (made:=[]) (kds:=[]) (sn:= .dct [] []) .no (by simp;omega) (by simpa using h0) (by omega) ⟨[],[],rfl,rfl,List.nodup_nil,Nat.zero_le _⟩ ⟨.nil,fun a=>by simp[Nm],by simp⟩
 refine⟨rows,kds,n',R.bl,a1,a2,by omega,?_⟩
 have e:=zJS e
 simp only[rst,List.map_nil] at e
 unfold zCW
 rw[zAC,zFS.eq_1]
 simp[envD,e]
theorem yDV{f g:VF}{δ δ1 δ2:Ev}{i j:Int}(h1:f δ=some (.int i,δ1))(h2:g δ1=some (.int j,δ2))(hb:(-4611686018427387904<=i/\i<4611686018427387904)/\ -4611686018427387904<=j/\j<4611686018427387904):iR2 f g δ=some (rngD i (j - i).toNat,δ2):=by
 unfold iR2
 rw[h1,Option.bind_some,h2,Option.bind_some]
 exact if_pos hb
theorem zJ5(nn:Nat)(tb:VB)(p:Dat->Bool)(fe:VF)(f:Dat->Dat)(δ:Ev)(hδ:δ.length=nn): ∀(ds acc:List Dat),(∀d∈ds,tb (δ++[Sl.va d])=some (p d,δ++[Sl.va d])/\(p d=true->fe (δ++[Sl.va d])=some (f d,δ++[Sl.va d])))->acc.length+ds.length<16777216->zBS nn 1 (gN nn) tb fe ds acc δ=some (acc++(ds.filter p).map f,δ)
 | [],acc,_,_ => by simp
 | d :: ds,acc,h,hl => by
  have b7:(δ++[Sl.no]).set nn (.va d)=δ++[Sl.va d]:=by
   rw[List.set_append_right _ _ (by omega)]
   simp[hδ]
  have ao:(δ++[Sl.va d]).take nn=δ:=by rw[List.take_append_of_le_length (by omega),List.take_of_length_le (by omega)]
  have aq:acc.length<16777216:=by simp at hl;omega
  obtain⟨h1,h2⟩:=h d List.mem_cons_self
  cases hp:p d with
  |true=>
   have ih:=zJ5 nn tb p fe f δ hδ ds (acc++[f d]) (fun e he=>h e (List.mem_cons_of_mem _ he)) (by simp at hl⊢;omega)
   have h2:=h2 hp
   rw[hp] at h1
   simp only[zG1,zSF,gN_e,b7,zNG,h1,zRY,h2,zRX,if_pos aq,ao,ih]
   simp[hp]
  |false=>
   have ih:=zJ5 nn tb p fe f δ hδ ds acc (fun e he=>h e (List.mem_cons_of_mem _ he)) (by simp at hl⊢;omega)
   rw[hp] at h1
   simp only[zG1,zSF,gN_e,b7,zNG,h1,zXN,ao,ih]
   simp[hp]
theorem zBN.ints{M:Int->Prop}{row:Dat}(h:zBN M row): ∃(x:String) (a:Int) (as:List Int),row= .tup (.str x:: .int a::as.map .int)/\(x= "over" -> ∃b,as=[b]/\M b):=by
 cases h with
 | @number n _ _=>exact⟨"number",n,[],rfl,fun z=>absurd z (by decide)⟩
 | @two x a b hx ha hb=>exact⟨x,a,[b],rfl,fun _=>⟨b,rfl,hb⟩⟩
 | @pick c a b _ _ _=>exact⟨"pick",c,[a,b],rfl,fun z=>absurd z (by decide)⟩
 | @load p _ _=>exact⟨"load",p,[],rfl,fun z=>absurd z (by decide)⟩
 | @take p c a _ _ _ _=>exact⟨"take",p,[c,a],rfl,fun z=>absurd z (by decide)⟩
 | @store p a _ _ _=>exact⟨"store",p,[a],rfl,fun z=>absurd z (by decide)⟩
 | @put p a c _ _ _ _=>exact⟨"put",p,[a,c],rfl,fun z=>absurd z (by decide)⟩
theorem zF9{k:Nat}: ∀as:List Int,∀d∈as.map Dat.int,okk k d
 |[],d,h=>nomatch h
 |a::as,d,h=>by
  rcases List.mem_cons.mp h with rfl|h
  ·exact zD1
  ·exact zF9 as d h
theorem zOU{M:Int->Prop}{row:Dat}(h:zBN M row):okk 1 row:=by
 obtain⟨x,a,as,rfl,_⟩:=h.ints
 exact zIQ (zBP zCP (zBP zD1 (zF9 as)))
theorem zTO{sure:Int}{rows:List Dat}{kds:List Kd}(hb:Bl [] rows kds){i:Int}(h0:0<=i)(h1:i<rows.length): ∃b,zCB [.tup [.int sure,.tup rows],.int i]=some (.bl b,[]):=by
 have aa:kds.length=rows.length:=by simpa using hb.len
 obtain⟨row,dq,e0⟩: ∃row∈rows,atI rows i=some row:=by
  have hi:i.toNat<rows.length:=by omega
  exact⟨rows[i.toNat],List.getElem_mem hi,by rw[zCR h0 h1];simp[hi]⟩
 have ok:=hb.all row dq
 obtain⟨x,a,as,rfl,hov⟩:=ok.ints
 unfold zCB
 rw[zAC]
 unfold zHE
 by_cases hx:onC x
 ·have m1:=cel4 hx
  exact⟨_,by simp[envD,e0,m1];rfl⟩
 ·obtain⟨⟨_,z1⟩,⟨_,z2⟩,⟨_,z3⟩,_,z4⟩:=off4 hx
  by_cases ho:x= "over"
  ·obtain⟨b,rfl,hbn⟩:=hov ho
   subst ho
   have b0:=hbn.1
   have b1:=hbn.lt
   obtain⟨mf,hr2,e2⟩: ∃row∈rows,atI rows b=some row:=by
    have hi:b.toNat<rows.length:=by omega
    exact⟨rows[b.toNat],List.getElem_mem hi,by rw[zCR b0 (by omega)];simp[hi]⟩
   obtain⟨x2,a2,as2,rfl,_⟩:=(hb.all mf hr2).ints
   have cj:cutD (.str x2:: .int a2::as2.map Dat.int) none (some 2)=[.str x2,.int a2]:=by
    have:=zG0 (ds:= .str x2:: .int a2::as2.map Dat.int) (k:=2)
    simpa using this
   have ei: ∀δ,iR2 (fC (.int 1)) (fC (.int 1000)) δ=some (rngD 1 ((1000:Int) - 1).toNat,δ):=fun δ=>yDV (f:=fC (.int 1)) (g:=fC (.int 1000)) (δ:=δ) (δ1:=δ) (δ2:=δ) (i:=1) (j:=1000) rfl rfl (by omega)
   have ec:=zED 0 (fTup (zA6 (fC (.str "number")) (zA6 (fV 0) fNil))) [] (fun d=> .tup [.str "number",d]) rfl (rngD 1 ((1000:Int) - 1).toNat) [] (fun d _=>by simp) (by simp[rngD])
   have hin: ∀neg,∃b,oInD neg (.tup [.str x2,.int a2]) (.lst ((rngD 1 ((1000:Int) - 1).toNat).map fun d=> .tup [.str "number",d]))=some (.bl b):=fun neg=>⟨_,zMJ (j:=1) (k:=1) (zIQ (zBP zCP (zBP zD1 zDF))) (fun e he=>by
    obtain⟨d,hd,rfl⟩:=List.mem_map.mp he
    obtain⟨q,rfl⟩: ∃q,d= .int q:=by
     unfold rngD at hd
     obtain⟨q,_,rfl⟩:=List.mem_map.mp hd
     exact⟨_,rfl⟩
    exact zIQ (zBP zCP (zBP zD1 zDF)))⟩
   obtain⟨bb,hbb⟩:=hin true
   simp only[List.nil_append] at ec
   generalize (rngD 1 ((1000:Int) - 1).toNat).map (fun d=>Dat.tup [.str "number",d])=big at*
   generalize rngD 1 ((1000:Int) - 1).toNat=rg at*
   exact⟨bb,by simp -implicitDefEqProofs [envD,e0,e2,cj,zAZ,ei,ec,hbb]⟩
  ·exact⟨false,by simp[envD,e0,z1,z2,z3,z4,ho]⟩
noncomputable def zCA(p:Int×Int):Dat:= .tup [.int p.1,.int p.2]
noncomputable def zLJ:Dat:= .tup [.str "load",.str "take",.str "store",.str "put"]
noncomputable def mst(blk:Dat)(ps:List (Int×Int))(j:Int)(there:Sl)(s5 s6 s7 s8:Sl):Ev:=
 [.va blk,.ow (.lst (ps.map zCA)),.va zLJ,.va (.int j),there,s5,s6,s7,s8]
theorem yE9{bs:List Bool}:oInD false (.bl true) (.lst (bs.map .bl))=some (.bl (bs.any id)):=by
 rw[zMJ (j:=0) (k:=0) zTJ (fun e he=>by
  obtain⟨b,_,rfl⟩:=List.mem_map.mp he
  exact zTJ)]
 induction bs with
 |nil=>rfl
 |cons b bs ih=>
  have e:eqD (.bl b) (.bl true)=b:=by cases b<;>rfl
  simp only[List.map_cons,zVV,List.any_cons,id,e]
  simp only[Bool.false_eq_true,if_false,Option.some.injEq,Dat.bl.injEq] at ih⊢
  rw[ih]
theorem zQ6{i:Int}: ∀{as:List Int},i∈as->inE (.int i) (as.map .int)=true
 |q::as,h=>by
  simp only[List.map_cons,zVV]
  rcases List.mem_cons.mp h with rfl|h
  ·simp
  ·simp[zQ6 h]
noncomputable def wrT:Dat->Bool
 | .tup (.str x::_)=>decide (Str.ofString "store"=x) || decide (Str.ofString "put"=x)
 |_=>false
theorem zJO{s1 s2:VS}{δ δ1:Ev}{r:Option Ou}(h1:s1 δ=some (.nx δ1))(h2:s2 δ1=r):sSeq s1 s2 δ=r:=by rw[zT6,h1,qS_n,h2]
theorem zZK{sure:Int}{rows:List Dat}{kds:List Kd}(hb:Bl [] rows kds)(ps:List (Int×Int)){i j:Int}{here there:Dat}(i0:0<=i)(i1:i<rows.length)(j0:0<=j)(j1:j<rows.length)(hh:here∈rows)(ht:there∈rows){as:List Int}(hn:zBH [there]=some (.lst (as.map .int),[]))(s7 s8:Sl)(hp:ps.length<1000000):
  ∃(c:Bool) (t7 t8:Sl),(i∈as->c=true)/\zDC (mst (.tup [.int sure,.tup rows]) ps j (.va there) (.va (.int i)) (.va here) s7 s8)=some (.nx (mst (.tup [.int sure,.tup rows]) (ps++if c then[(i,j)] else[]) j (.va there) (.va (.int i)) (.va here) t7 t8)):=by
 obtain⟨b1,e1⟩:=zTO (sure:=sure) hb i0 i1
 obtain⟨b2,e2⟩:=zTO (sure:=sure) hb j0 j1
 have okh:=hb.all here hh
 have okt:=hb.all there ht
 have kh:=zOU okh
 have kt:=zOU okt
 obtain⟨x,a,xs,eh,_⟩:=okh.ints
 obtain⟨y,b,ys,et,_⟩:=okt.ints
 have hin:oInD false (.int i) (.lst (as.map .int))=some (.bl (inE (.int i) (as.map .int))):=by
  rw[zMJ (j:=0) (k:=0) zD1 (zF9 as)]
  simp
 have nv:=zQ6 (i:=i) (as:=as)
 generalize inE (.int i) (as.map .int)=bi at*
 have ew: ∃w:List Dat,zBS 0 1 (gN 0) (fB (f2 (oInD false) (f2 oIxA (fV 0) (fC (.int 0))) (fTup (zA6 (fC (.str "store")) (zA6 (fC (.str "put")) fNil))))) (fV 0) [here,there] [] []=some (w,[])/\ ∀d∈w,okk 1 d:=by
  have c:=zJ5 0 (fB (f2 (oInD false) (f2 oIxA (fV 0) (fC (.int 0))) (fTup (zA6 (fC (.str "store")) (zA6 (fC (.str "put")) fNil))))) wrT (fV 0) id [] rfl [here,there] [] (fun d hd=>by
   simp only[List.mem_cons,List.not_mem_nil,or_false] at hd
   rcases hd with rfl|rfl
   ·rw[eh];simp[wrT,zAL]
   ·rw[et];simp[wrT,zAL]) (by simp)
  refine⟨_,c,fun d hd=> ?_⟩
  simp only[List.nil_append,List.map_id_fun,id,List.mem_filter,List.mem_cons,List.not_mem_nil,or_false] at hd
  rcases hd.1 with rfl|rfl
  ·exact kh
  ·exact kt
 obtain⟨w,ew,kw⟩:=ew
 have hne:oNe (.lst w) (.lst [])=some (.bl (!eqD (.lst w) (.lst []))):=zVF (j:=2) (k:=0+1) (zDQ kw) (zDQ zDF)
 generalize (!eqD (.lst w) (.lst []))=bw at*
 have hp':ps.length<16777216:=by omega
 have x4: ∃bx,oInD false (.str x) zLJ=some (.bl bx):=⟨_,yA6⟩
 have y4: ∃by',oInD false (.str y) zLJ=some (.bl by'):=⟨_,yA6⟩
 have x2: ∃bx,oInD false (.str x) (.tup [.str "store",.str "put"])=some (.bl bx):=⟨_,zSO⟩
 have y2: ∃by',oInD false (.str y) (.tup [.str "store",.str "put"])=some (.bl by'):=⟨_,zSO⟩
 obtain⟨bx,x4⟩:=x4
 obtain⟨by',y4⟩:=y4
 obtain⟨wx,x2⟩:=x2
 obtain⟨wy,y2⟩:=y2
 subst eh et
 have hbl:=yE9 (bs:=[bi,b1 && b2,bx && (by' && (decide (a=b) && bw)),b1 && wy,b2 && wx])
 simp only[List.map_cons,List.map_nil] at hbl
 refine⟨[bi,b1 && b2,bx && (by' && (decide (a=b) && bw)),b1 && wy,b2 && wx].any id,.va (.lst w),.ow (.lst [.bl bi,.bl (b1 && b2),.bl (bx && (by' && (decide (a=b) && bw))),.bl (b1 && wy),.bl (b2 && wx)]),?_,?_⟩
 ·intro hi
  rw[nv hi]
  rfl
 ·unfold zDC
  refine zJO (δ1:=mst (.tup [.int sure,.tup rows]) ps j (.va (.tup (.str y:: .int b::ys.map .int))) (.va (.int i)) (.va (.tup (.str x:: .int a::xs.map .int))) (.va (.lst w)) s8) (by simp[mst,zAZ,ew]) ?_
  refine zJO (δ1:=mst (.tup [.int sure,.tup rows]) ps j (.va (.tup (.str y:: .int b::ys.map .int))) (.va (.int i)) (.va (.tup (.str x:: .int a::xs.map .int))) (.va (.lst w)) (.ow (.lst [.bl bi,.bl (b1 && b2)]))) ?_ ?_
  ·clear hbl
   cases b1<;>simp[mst,hn,hin,e1,e2]
  refine zJO (δ1:=mst (.tup [.int sure,.tup rows]) ps j (.va (.tup (.str y:: .int b::ys.map .int))) (.va (.int i)) (.va (.tup (.str x:: .int a::xs.map .int))) (.va (.lst w)) (.ow (.lst [.bl bi,.bl (b1 && b2),.bl (bx && (by' && (decide (a=b) && bw)))]))) ?_ ?_
  ·clear hbl
   cases bx<;>cases by'<;>by_cases hab:a=b<;>simp[mst,x4,y4,hne,hab]
  refine zJO (δ1:=mst (.tup [.int sure,.tup rows]) ps j (.va (.tup (.str y:: .int b::ys.map .int))) (.va (.int i)) (.va (.tup (.str x:: .int a::xs.map .int))) (.va (.lst w)) (.ow (.lst [.bl bi,.bl (b1 && b2),.bl (bx && (by' && (decide (a=b) && bw))),.bl (b1 && wy)]))) ?_ ?_
  ·clear hbl
   generalize (bx && (by' && (decide (a=b) && bw)))=q3
   cases b1<;>simp[-zSO,mst,e1,y2]
  refine zJO (δ1:=mst (.tup [.int sure,.tup rows]) ps j (.va (.tup (.str y:: .int b::ys.map .int))) (.va (.int i)) (.va (.tup (.str x:: .int a::xs.map .int))) (.va (.lst w)) (.ow (.lst [.bl bi,.bl (b1 && b2),.bl (bx && (by' && (decide (a=b) && bw))),.bl (b1 && wy),.bl (b2 && wx)]))) ?_ ?_
  ·clear hbl
   generalize (bx && (by' && (decide (a=b) && bw)))=q3
   cases b2<;>simp[-zSO,mst,e2,x2]
  generalize (bx && (by' && (decide (a=b) && bw)))=q3 at*
  generalize hq1:(b1 && b2)=q1 at*
  generalize hq4:(b1 && wy)=q4 at*
  generalize hq5:(b2 && wx)=q5 at*
  generalize hc:[bi,q1,q3,q4,q5].any id=c at*
  cases c
  ·simp[mst,hbl]
  ·simp[mst,hbl,hp',zCA]
theorem zCN(i:Nat)(d:Dat)(ds:List Dat):enuD i (d::ds)= .tup [.int i,d]::enuD (i+1) ds:=rfl
noncomputable abbrev GP(a b:Nat):VG:=gTp 2 (zAW (gN a) (zAW (gN b) zDR))
theorem zTN{sure:Int}{rows:List Dat}{kds:List Kd}(hb:Bl [] rows kds){j:Int}{there:Dat}(j0:0<=j)(j1:j<rows.length)(ht:there∈rows){as:List Int}(hn:zBH [there]=some (.lst (as.map .int),[])): ∀(hs:List Dat) (k:Nat) (ps:List (Int×Int)) (s5 s6 s7 s8:Sl),(∀d∈hs,d∈rows)->k+hs.length<=rows.length->ps.length+hs.length<1000000→
  ∃(qs:List (Int×Int)) (t5 t6 t7 t8:Sl),(∀p∈qs,p.2=j/\(k:Int)<=p.1/\p.1<k+hs.length)/\(∀i∈as,(k:Int)<=i->i<k+hs.length->(i,j)∈qs)/\qs.length<=hs.length∧
   forV (GP 5 6) zDC (enuD k hs) (mst (.tup [.int sure,.tup rows]) ps j (.va there) s5 s6 s7 s8)=some (.nx (mst (.tup [.int sure,.tup rows]) (ps++qs) j (.va there) t5 t6 t7 t8))
 | [],k,ps,s5,s6,s7,s8,_,_,_ => ⟨[],s5,s6,s7,s8,by simp,fun i _ h1 h2 => by simp at h2;omega,by simp,by simp [enuD]⟩
 | h :: hs,k,ps,s5,s6,s7,s8,hm,hk,hp => by
  simp only[List.length_cons] at hk hp
  obtain⟨c,t7,t8,c1,e⟩:=zZK (sure:=sure) hb ps (i:=(k:Int)) (j:=j) (here:=h) (there:=there) (by omega) (by omega) j0 j1 (hm h List.mem_cons_self) ht hn s7 s8 (by omega)
  obtain⟨qs,u5,u6,u7,u8,q1,q2,q3,ih⟩:=zTN hb j0 j1 ht hn hs (k+1) (ps++if c then[((k:Int),j)] else[]) (.va (.int k)) (.va h) t7 t8 (fun d hd=>hm d (List.mem_cons_of_mem _ hd)) (by omega) (by cases c<;>simp<;>omega)
  refine⟨(if c then[((k:Int),j)] else[])++qs,u5,u6,u7,u8,?_,?_,?_,?_⟩
  ·intro p hp
   simp only[List.length_cons]
   rcases List.mem_append.mp hp with z|z
   ·cases c
    ·simp at z
    ·simp at z;subst z;exact⟨rfl,by simp,by simp;omega⟩
   ·obtain⟨z1,z2,z3⟩:=q1 p z
    exact⟨z1,by omega,by omega⟩
  ·intro i hi h1 h2
   simp only[List.length_cons] at h2
   by_cases h3:i=k
   ·subst h3
    rw[c1 hi]
    simp
   ·exact List.mem_append.mpr (.inr (q2 i hi (by omega) (by omega)))
  ·cases c<;>simp<;>omega
  ·rw[zCN,zEI]
   have s1:GP 5 6 (.tup [.int k,h]) (mst (.tup [.int sure,.tup rows]) ps j (.va there) s5 s6 s7 s8)=some (mst (.tup [.int sure,.tup rows]) ps j (.va there) (.va (.int k)) (.va h) s7 s8):=by simp[mst]
   rw[s1,zHP,e,zIM,ih,List.append_assoc]
structure Prs(rows:List Dat)(ps:List (Int×Int)):Prop where
 lt: ∀p∈ps,0<=p.1/\p.1<p.2/\p.2<rows.length
 nm: ∀(j:Nat) (row:Dat) (as:List Int),rows[j]? =some row->zBH [row]=some (.lst (as.map .int),[])-> ∀i∈as,0<=i->i<j->(i,(j:Int))∈ps
theorem zFA{as bs:List Int}(h:as.map Dat.int=bs.map Dat.int):as=bs:=by
 induction as generalizing bs with
 | nil => cases bs with
  |nil=>rfl
  |cons=>simp at h
 | cons a as ih => cases bs with
  |nil=>simp at h
  |cons b bs=>
   simp only[List.map_cons,List.cons.injEq,Dat.int.injEq] at h
   rw[h.1,ih h.2]
theorem zTM{sure:Int}{rows:List Dat}{kds:List Kd}(hb:Bl [] rows kds)(h40:rows.length<=40): ∀(ts:List Dat) (k:Nat) (ps:List (Int×Int)) (s3:Int) (s4 s5 s6 s7 s8:Sl) (x3:Sl),rows.drop k=ts->k+ts.length=rows.length->ps.length+40*ts.length<10000→
  ∃(qs:List (Int×Int)) (t3 t4 t5 t6 t7 t8:Sl),(∀p∈qs,0<=p.1/\p.1<p.2/\p.2<rows.length)/\(∀(j:Nat) (row:Dat) (as:List Int),k<=j->rows[j]? =some row->zBH [row]=some (.lst (as.map .int),[])-> ∀i∈as,0<=i->i<j->(i,(j:Int))∈qs)/\qs.length<=40*ts.length∧
   forV (GP 3 4) zDB (enuD k ts) [.va (.tup [.int sure,.tup rows]),.ow (.lst (ps.map zCA)),.va zLJ,x3,s4,s5,s6,s7,s8]=some (.nx [.va (.tup [.int sure,.tup rows]),.ow (.lst ((ps++qs).map zCA)),.va zLJ,t3,t4,t5,t6,t7,t8])
 | [],k,ps,s3,s4,s5,s6,s7,s8,x3,h1,h2,_ => by
  refine⟨[],x3,s4,s5,s6,s7,s8,by simp,fun j row as h3 h4=> ?_,by simp,by simp[enuD]⟩
  have:=(List.getElem?_eq_some_iff.mp h4).1
  simp at h2
  omega
 | t :: ts,k,ps,s3,s4,s5,s6,s7,s8,x3,h1,h2,hp => by
  simp only[List.length_cons] at h2 hp
  have ht:t∈rows:=List.mem_of_mem_drop (by rw[h1];exact List.mem_cons_self)
  have hk:rows[k]? =some t:=by
   have:(rows.drop k)[0]? =some t:=by rw[h1];rfl
   simpa using this
  obtain⟨as,_,_,hn,_⟩:=zFP (hb.all t ht)
  have aa:(rows.take k).length=k:=by rw[List.length_take];omega
  obtain⟨qs1,t5,t6,t7,t8,q1,q2,q3,e⟩:=zTN (sure:=sure) hb (j:=(k:Int)) (by omega) (by omega) ht hn (rows.take k) 0 ps s5 s6 s7 s8 (fun d hd=>List.mem_of_mem_take hd) (by omega) (by omega)
  obtain⟨qs2,u3,u4,u5,u6,u7,u8,r1,r2,r3,ih⟩:=zTM hb h40 ts (k+1) (ps++qs1) 0 (.va t) t5 t6 t7 t8 (.va (.int k)) (by rw[<- List.drop_drop,h1];rfl) (by omega) (by simp;omega)
  refine⟨qs1++qs2,u3,u4,u5,u6,u7,u8,?_,?_,?_,?_⟩
  ·intro p hp
   rcases List.mem_append.mp hp with z|z
   ·obtain⟨z1,z2,z3⟩:=q1 p z
    rw[aa] at z3
    exact⟨by omega,by omega,by omega⟩
   ·exact r1 p z
  ·intro j row bs hj hr hbs i hi i0 i1
   by_cases hjk:j=k
   ·subst hjk
    rw[hk] at hr
    injection hr with hr
    subst hr
    rw[hn] at hbs
    have:as=bs:=zFA (by simpa using hbs)
    subst this
    exact List.mem_append.mpr (.inl (q2 i hi (by omega) (by rw[aa];omega)))
   ·exact List.mem_append.mpr (.inr (r2 j row bs (by omega) hr hbs i hi i0 i1))
  ·simp only[List.length_append,List.length_cons];omega
  ·rw[zCN,zEI]
   have s1:GP 3 4 (.tup [.int k,t]) [.va (.tup [.int sure,.tup rows]),.ow (.lst (ps.map zCA)),.va zLJ,x3,s4,s5,s6,s7,s8]=some (mst (.tup [.int sure,.tup rows]) ps k (.va t) s5 s6 s7 s8):=by simp[mst]
   have s2:zDB (mst (.tup [.int sure,.tup rows]) ps k (.va t) s5 s6 s7 s8)=some (.nx (mst (.tup [.int sure,.tup rows]) (ps++qs1) k (.va t) t5 t6 t7 t8)):=by
    unfold zDB
    have hc:=zG0 (ds:=rows) (k:=k)
    rw[zXC]
    have:zHQ (fSl (f2 oIxA (fV 0) (fC (.int 1))) pNo (pSo (fV 3))) (mst (.tup [.int sure,.tup rows]) ps k (.va t) s5 s6 s7 s8)=some (enuD 0 (rows.take k),mst (.tup [.int sure,.tup rows]) ps k (.va t) s5 s6 s7 s8):=by simp[mst,hc]
    rw[this,qF_s]
    exact e
   rw[s1,zHP,s2,zIM]
   simp only[mst]
   rw[ih,List.append_assoc]
theorem zP9: ∀ps:List (Int×Int),prsD (ps.map zCA)=some ps
 |[]=>rfl
 |p::ps=>by
  show(prD (zCA p)).bind (fun q=>(prsD (ps.map zCA)).map fun qs=>q::qs)=_
  rw[zP9 ps]
  rfl
theorem zRP(ps:List (Int×Int)): ∃qs:List (Int×Int),qs.Perm ps/\zPP (.lst (ps.map zCA))=some (.lst (qs.map zCA)):=by
 refine⟨(srtP ps).map fun i=>ps.getD i (0,0),?_,?_⟩
 ·have h := (zF2 ps).map fun i => ps.getD i (0,0)
  refine h.trans ?_
  have:(List.range ps.length).map (fun i=>ps.getD i (0,0))=ps:=by
   refine List.ext_getElem (by simp) fun i h1 h2=> ?_
   simp at h1
   simp[h1]
  rw[this]
 ·show (prsD (ps.map zCA)).bind (fun qs => some (Dat.lst ((srtP qs).map fun i => (ps.map zCA).getD i Dat.non))) = _
  rw[zP9,Option.bind_some,List.map_map]
  congr 2
  refine List.map_congr_left fun i hi=> ?_
  have:i<ps.length:=List.mem_range.mp ((zF2 ps).mem_iff.mp hi)
  simp[this]
theorem zVM{sure:Int}{rows:List Dat}{kds:List Kd}(hb:Bl [] rows kds)(h40:rows.length<=40): ∃ps:List (Int×Int),Prs rows ps/\ps.length<=1600/\zCX [.tup [.int sure,.tup rows]]=some (.lst (ps.map zCA),[]):=by
 obtain⟨qs,t3,t4,t5,t6,t7,t8,q1,q2,q3,e⟩:=zTM (sure:=sure) hb h40 rows 0 [] 0 .no .no .no .no .no .no (by simp) (by simp) (by simp;omega)
 simp only[List.map_nil,List.nil_append,zLJ] at e
 obtain⟨ps,hp,es⟩:=zRP qs
 refine⟨ps,⟨fun p h=>q1 p (hp.mem_iff.mp h),fun j row as h1 h2 i hi i0 i1=>hp.mem_iff.mpr (q2 j row as (by omega) h1 h2 i hi i0 i1)⟩,by rw[hp.length_eq];omega,?_⟩
 unfold zCX
 rw[zAC,zFU.eq_1]
 simp[envD,e,es]
theorem zGU(nn:Nat)(tb:VB)(p:Dat->Bool)(fe:VF)(f:Dat->Dat)(δ:Ev)(hδ:δ.length=nn): ∀(ds acc:List Dat),(∀d∈ds,∃a b,d= .tup [a,b]/\tb (δ++[Sl.va a,Sl.va b])=some (p d,δ++[Sl.va a,Sl.va b])/\(p d=true->fe (δ++[Sl.va a,Sl.va b])=some (f d,δ++[Sl.va a,Sl.va b])))->acc.length+ds.length<16777216->zBS nn 2 (GP nn (nn+1)) tb fe ds acc δ=some (acc++(ds.filter p).map f,δ)
 | [],acc,_,_ => by simp
 | d :: ds,acc,h,hl => by
  obtain⟨a,b,rfl,h1,h2⟩:=h d List.mem_cons_self
  have b7:GP nn (nn+1) (.tup [a,b]) (δ++[Sl.no,Sl.no])=some (δ++[Sl.va a,Sl.va b]):=by
   have e1:(δ++[Sl.no,Sl.no]).set nn (.va a)=δ++[Sl.va a,Sl.no]:=by
    rw[List.set_append_right _ _ (by omega)]
    simp[hδ]
   have e2:(δ++[Sl.va a,Sl.no]).set (nn+1) (.va b)=δ++[Sl.va a,Sl.va b]:=by
    rw[List.set_append_right _ _ (by omega),hδ,show nn+1 - nn=1 by omega]
    rfl
   simp[e1,e2]
  have ao:(δ++[Sl.va a,Sl.va b]).take nn=δ:=by rw[List.take_append_of_le_length (by omega),List.take_of_length_le (by omega)]
  have aq:acc.length<16777216:=by simp at hl;omega
  cases hp:p (.tup [a,b]) with
  |true=>
   have ih:=zGU nn tb p fe f δ hδ ds (acc++[f (.tup [a,b])]) (fun e he=>h e (List.mem_cons_of_mem _ he)) (by simp at hl⊢;omega)
   have h2:=h2 hp
   rw[hp] at h1
   simp only[zG1,zZI,b7,zNG,h1,zRY,h2,zRX,if_pos aq,ao,ih]
   simp[hp]
  |false=>
   have ih:=zGU nn tb p fe f δ hδ ds acc (fun e he=>h e (List.mem_cons_of_mem _ he)) (by simp at hl⊢;omega)
   rw[hp] at h1
   simp only[zG1,zZI,b7,zNG,h1,zXN,ao,ih]
   simp[hp]
noncomputable def ost(ns:List Int)(n:Nat)(blk:Dat)(ps:List (Int×Int))(left made:List Int)(s6:Sl):Ev:=
 [.va (Scp ns),.ow (Twn n),.va blk,.va (.lst (ps.map zCA)),.ow (.lst (left.map .int)),.ow (.lst (made.map .int)),s6]
noncomputable def pw(left:List Int)(r:Int):Dat->Bool
 | .tup [.int a,.int b]=>decide (b=r) && inE (.int a) (left.map .int)
 |_=>false
theorem zLA{i:Int}: ∀{as:List Int},inE (.int i) (as.map .int)=true↔i∈as
 |[]=>by simp
 |a::as=>by
  rw[List.map_cons,zVV,Bool.or_eq_true,yAB,decide_eq_true_eq,zLA (as:=as),List.mem_cons]
  exact⟨fun h=>h.imp Eq.symm id,fun h=>h.imp Eq.symm id⟩
theorem zU5(ps:List (Int×Int))(left:List Int)(r:Int)(hp:ps.length<16777216):
  zBS 2 2 (GP 2 3) (bAnd (fB (f2 oEq (fV 3) (fV 1))) (fB (f2 (oInD false) (fV 2) (fO 0)))) (fC (.int 1)) (ps.map zCA) [] [.ow (.lst (left.map .int)),.va (.int r)]=some (((ps.map zCA).filter (pw left r)).map fun _=> .int 1,[.ow (.lst (left.map .int)),.va (.int r)]):=by
 have hin: ∀a:Int,oInD false (.int a) (.lst (left.map .int))=some (.bl (inE (.int a) (left.map .int))):=fun a=>by
  rw[zMJ (j:=0) (k:=0) zD1 (zF9 left)]
  simp
 have:=zGU 2 (bAnd (fB (f2 oEq (fV 3) (fV 1))) (fB (f2 (oInD false) (fV 2) (fO 0)))) (pw left r) (fC (.int 1)) (fun _=> .int 1) [.ow (.lst (left.map .int)),.va (.int r)] rfl (ps.map zCA) [] (fun d hd=>by
  obtain⟨⟨a,b⟩,_,rfl⟩:=List.mem_map.mp hd
  refine⟨.int a,.int b,rfl,?_,fun _=>by simp⟩
  have hi:=hin a
  have hpw:pw left r (zCA (a,b))=(decide (b=r) && inE (.int a) (left.map .int)):=rfl
  rw[hpw]
  generalize left.map Dat.int=L at*
  by_cases hb:b=r
  ·simp[hb,hi]
  ·simp[hb]) (by simpa using hp)
 simpa using this
theorem zQF{ds:List Dat}:eqD (.lst ds) (.lst [])=ds.isEmpty:=by cases ds<;>rfl
noncomputable def rdD(ps:List (Int×Int))(left:List Int):Dat->Bool
 | .int r=>((ps.map zCA).filter (pw left r)).isEmpty
 |_=>false
theorem zHW{x:Int}: ∀{ns:List Int},x∈ns-> ∃j,posI x ns=some j/\ns.eraseIdx j=ns.erase x
 | i :: ns,h => by
  unfold posI
  by_cases e:i=x
  ·rw [if_pos e];exact ⟨0,rfl,by simp [e]⟩
  ·rw[if_neg e]
   obtain⟨j,h1,h2⟩:=zHW (ns:=ns) (by
    rcases List.mem_cons.mp h with z|z
    ·exact absurd z.symm e
    ·exact z)
   refine⟨j+1,by rw[h1];rfl,?_⟩
   rw[List.eraseIdx_cons_succ,h2,List.erase_cons_tail (by simpa using e)]
theorem zVO{x:Int}{ns:List Int}(h:x∈ns):mRem (ns.map .int) [.int x]=some ((ns.erase x).map .int):=by
 obtain⟨j,h1,h2⟩:=zHW h
 show(zFB (ns.map .int)).bind (fun ns=>(posI x ns).map fun j=>(ns.eraseIdx j).map Dat.int)=_
 rw[zHB,Option.bind_some,h1,Option.map_some,h2]
theorem zOZ{ps:List (Int×Int)}{left:List Int}{r:Int}:rdD ps left (.int r)=true↔ ∀p∈ps,p.2=r->p.1∉left:=by
 show((ps.map zCA).filter (pw left r)).isEmpty=true↔_
 rw[List.isEmpty_iff,List.filter_eq_nil_iff]
 constructor
 ·intro h p hp he hl
  have:=h (zCA p) (List.mem_map.mpr ⟨p,hp,rfl⟩)
  refine this ?_
  show(decide (p.2=r) && inE (.int p.1) (left.map .int))=true
  rw[zLA.mpr hl,he]
  simp
 ·intro h d hd z
  obtain⟨p,hp,rfl⟩:=List.mem_map.mp hd
  have z:(decide (p.2=r) && inE (.int p.1) (left.map .int))=true:=z
  rw[Bool.and_eq_true,decide_eq_true_eq,zLA] at z
  exact h p hp z.1 z.2
theorem zRV(ps:List (Int×Int))(left:List Int)(hp:ps.length<16777216)(hll:left.length<16777216):
  zBS 2 1 (gN 2) (fB (f2 oEq (zCM [1,2] 2 (iSeq (fV 0)) (gTp 2 (zAW (gN 2) (zAW (gN 3) zDR))) (bAnd (fB (f2 oEq (fV 3) (fV 1))) (fB (f2 (oInD false) (fV 2) (fO 0)))) (fC (.int 1))) (fLst fNil))) (fV 2) (left.map .int) [] [.va (.lst (ps.map zCA)),.ow (.lst (left.map .int))]=some ((left.filter fun r=>rdD ps left (.int r)).map .int,[.va (.lst (ps.map zCA)),.ow (.lst (left.map .int))]):=by
 have:=zJ5 2 (fB (f2 oEq (zCM [1,2] 2 (iSeq (fV 0)) (gTp 2 (zAW (gN 2) (zAW (gN 3) zDR))) (bAnd (fB (f2 oEq (fV 3) (fV 1))) (fB (f2 (oInD false) (fV 2) (fO 0)))) (fC (.int 1))) (fLst fNil))) (rdD ps left) (fV 2) id [.va (.lst (ps.map zCA)),.ow (.lst (left.map .int))] rfl (left.map .int) [] (fun d hd=>by
  obtain⟨r,_,rfl⟩:=List.mem_map.mp hd
  refine⟨?_,fun _=>by simp⟩
  have w:=zU5 ps left r hp
  have hq:oEq (.lst (((ps.map zCA).filter (pw left r)).map fun _=>Dat.int 1)) (.lst [])=some (.bl (rdD ps left (.int r))):=by
   rw[yDC (j:=1) (k:=1) (zDQ fun d hd=>by
    obtain⟨_,_,rfl⟩:=List.mem_map.mp hd
    exact zD1) (zDQ zDF),zQF,List.isEmpty_map]
   rfl
  generalize ((ps.map zCA).filter (pw left r)).map (fun _=>Dat.int 1)=W at*
  generalize rdD ps left (.int r)=B at*
  generalize left.map Dat.int=L at*
  generalize ps.map zCA=Q at*
  simp[zAZ,w,hq]) (by simpa using hll)
 rw[this,List.filter_map]
 simp[Function.comp_def]
theorem zVA(ns:List Int)(n:Nat)(blk:Dat)(ps:List (Int×Int))(left made:List Int)(s6:Sl)(hl:ns.length<=63)(hn:n<800000)(hne:left≠[])(hs:left.Pairwise (· < ·))(hlt: ∀p∈ps,p.1<p.2)(hll:left.length<1000)(hml:made.length<1000)(hpl:ps.length<10000):
  ∃x∈left,(∀p∈ps,p.2=x->p.1∉left)/\ ∃s6',zBM (ost ns n blk ps left made s6)=some (.nx (ost ns (n+1) blk ps (left.erase x) (made++[x]) s6')):=by
 have hr:=zRV ps left (by omega) (by omega)
 have h0:0<((left.filter fun r=>rdD ps left (.int r)).map Dat.int).length:=by
  match left,hne,hs with
  |a::t,_,hs=>
   have:a∈((a::t).filter fun r=>rdD ps (a::t) (.int r)):=by
    refine List.mem_filter.mpr ⟨List.mem_cons_self,zOZ.mpr fun p hp he hi=> ?_⟩
    have h1:=hlt p hp
    rw[he] at h1
    rcases List.mem_cons.mp hi with z|z
    ·omega
    ·have:=(List.pairwise_cons.mp hs).1 _ z
     omega
   rw[List.length_map]
   exact List.length_pos_of_mem this
 obtain⟨d,hd,ed⟩:=zDP ns n ((left.filter fun r=>rdD ps left (.int r)).map .int) hl (by omega) h0
 obtain⟨x,hx,rfl⟩:=List.mem_map.mp hd
 obtain⟨hx1,hx2⟩:=List.mem_filter.mp hx
 have hm:=zVO hx1
 have hla:=zGV (made.map Dat.int) (.int x)
 have nu:made.length<16777216:=by omega
 refine⟨x,hx1,zOZ.mp hx2,.va (.lst ((left.filter fun r=>rdD ps left (.int r)).map .int)),?_⟩
 unfold zBM
 simp only[ost,List.map_append,List.map_cons,List.map_nil]
 generalize (left.filter fun r=>rdD ps left (.int r)).map Dat.int=R at*
 generalize (left.erase x).map Dat.int=E at*
 generalize left.map Dat.int=L at*
 generalize ps.map zCA=Q at*
 have nr:(made.map Dat.int).length<16777216:=by simpa using nu
 generalize made.map Dat.int=D at*
 simp[zAZ,hr,ed,hm,hla,nr]
theorem zPK(ns:List Int)(blk:Dat)(ps:List (Int×Int))(hl:ns.length<=63)(hlt: ∀p∈ps,p.1<p.2)(hpl:ps.length<10000): ∀(f n:Nat) (left made:List Int) (s6:Sl),left.length=f->n+f<700000->left.Pairwise (· < ·)->made.length+left.length<1000->(∀p∈ps,p.1∈made∨p.1∈left)->(∀p∈ps,∀k:Nat,made[k]? =some p.2->p.1∈made.take k)→
  ∃(order:List Int) (s6':Sl),order.Perm (made++left)/\(∀p∈ps,∀k:Nat,order[k]? =some p.2->p.1∈order.take k)/\zBI (fB (f2 oNe (fO 4) (fLst fNil))) zBM (f+1) (ost ns n blk ps left made s6)=some (.nx (ost ns (n+f) blk ps [] order s6'))
 | 0,n,left,made,s6,hf,hn,hs,hm,h1,h2 => by
  have:left=[]:=List.length_eq_zero_iff.mp hf
  subst this
  refine⟨made,s6,by simp,h2,zID ?_⟩
  have e:oNe (.lst []) (.lst [])=some (.bl false):=by
   rw[zVF (j:=1) (k:=1) (zDQ zDF) (zDQ zDF),zQF]
   rfl
  simp[ost,e]
 | f + 1,n,left,made,s6,hf,hn,hs,hm,h1,h2 => by
  have hne:left≠[]:=fun z=>by rw[z] at hf;simp at hf
  obtain⟨x,hx,hp,u6,e1⟩:=zVA ns n blk ps left made s6 hl (by omega) hne hs hlt (by omega) (by omega) hpl
  have hle:=List.length_erase_of_mem hx
  obtain⟨order,s6',o1,o2,e2⟩:=zPK ns blk ps hl hlt hpl f (n+1) (left.erase x) (made++[x]) u6 (by omega) (by omega) (hs.sublist (List.erase_sublist)) (by simp;omega) (fun p hp'=>by
   rcases h1 p hp' with z|z
   ·exact .inl (List.mem_append.mpr (.inl z))
   ·by_cases hxx:p.1=x
    ·exact .inl (by simp[hxx])
    ·exact .inr ((List.mem_erase_of_ne hxx).mpr z)) (fun p hp' k hk=>by
   by_cases hkl:k<made.length
   ·rw[List.getElem?_append_left hkl] at hk
    rw[List.take_append_of_le_length (by omega)]
    exact h2 p hp' k hk
   ·have gj:=(List.getElem?_eq_some_iff.mp hk).1
    simp at gj
    have:k=made.length:=by omega
    subst this
    simp at hk
    have hnl:=hp p hp' hk.symm
    rw[List.take_left]
    exact(h1 p hp').resolve_right hnl)
  refine⟨order,s6',?_,o2,?_⟩
  ·refine o1.trans ?_
   rw[List.append_assoc,List.singleton_append]
   exact(List.perm_cons_erase hx).symm.append_left made
  ·have e:oNe (.lst (left.map .int)) (.lst [])=some (.bl true):=by
    rw[zVF (j:=1) (k:=1) (zDQ (zF9 left)) (zDQ zDF),zQF]
    cases left with
    |nil=>exact absurd rfl hne
    |cons=>rfl
   rw[zLS (δ1:=ost ns n blk ps left made s6) (by simp[ost,e]) e1,e2,show n+1+f=n+(f+1) by omega]
theorem zQE{f:VF}{δ δ1:Ev}{j:Int}(h:f δ=some (.int j,δ1))(h0:0<=j)(h1:j<=16777216):zFZ f δ=some (.lst (rngD 0 j.toNat),δ1):=by
 unfold zFZ
 rw[h,Option.bind_some]
 exact if_pos ⟨h0,h1⟩
noncomputable def rgI(k:Nat):List Int:=(List.range k).map fun i:Nat=>(i:Int)
theorem zUQ(k:Nat):rngD 0 k=(rgI k).map .int:=by simp[rngD,rgI]
theorem zOV{k:Nat}{a:Int}:a∈rgI k↔0<=a/\a<k:=by
 unfold rgI
 rw[List.mem_map]
 constructor
 ·rintro ⟨i,hi,rfl⟩
  have:=List.mem_range.mp hi
  omega
 ·rintro ⟨h0,h1⟩
  exact⟨a.toNat,List.mem_range.mpr (by omega),by omega⟩
theorem zOW(k:Nat):(rgI k).Pairwise (· < ·):=List.Pairwise.map _ (fun a b h=>by omega) (List.pairwise_lt_range)
theorem zL2(k:Nat):(rgI k).length=k:=by simp[rgI]
theorem zSB(ns:List Int)(n:Nat){sure:Int}{rows:List Dat}{kds:List Kd}(hl:ns.length<=63)(hn:n<500000)(hb:Bl [] rows kds)(h40:rows.length<=40):
  ∃(ps:List (Int×Int)) (order:List Int),Prs rows ps/\order.Perm (rgI rows.length)/\(∀p∈ps,∀k:Nat,order[k]? =some p.2->p.1∈order.take k)/\zB8 [Scp ns,Twn n,.tup [.int sure,.tup rows]]=some (.lst (order.map .int),[Twn (n+rows.length)]):=by
 obtain⟨ps,P,hpl,em⟩:=zVM (sure:=sure) hb h40
 obtain⟨order,s6,o1,o2,e⟩:=zPK ns (.tup [.int sure,.tup rows]) ps hl (fun p hp=>(P.lt p hp).2.1) (by omega) rows.length n (rgI rows.length) [] .no (zL2 _) (by omega) (zOW _) (by simp[zL2];omega) (fun p hp=> .inr (zOV.mpr ⟨(P.lt p hp).1,by have:=P.lt p hp;omega⟩)) (fun p hp k hk=>by simp at hk)
 refine⟨ps,order,P,by simpa using o1,o2,?_⟩
 have e:=zJS e
 simp only[ost,List.map_nil] at e
 have er:zFZ (f1 oLen (f2 oIxA (fV 2) (fC (.int 1)))) [.va (Scp ns),.ow (Twn n),.va (.tup [.int sure,.tup rows]),.no,.no,.no,.no]=some (.lst ((rgI rows.length).map .int),[.va (Scp ns),.ow (Twn n),.va (.tup [.int sure,.tup rows]),.no,.no,.no,.no]):=by
  rw[<- zUQ,zQE (j:=(rows.length:Int)) (δ1:=[.va (Scp ns),.ow (Twn n),.va (.tup [.int sure,.tup rows]),.no,.no,.no,.no]) (by simp) (by omega) (by omega)]
  simp
 unfold zB8
 rw[zAC,zCH.eq_1]
 generalize (rgI rows.length).map Dat.int=L at*
 generalize order.map Dat.int=O at*
 generalize ps.map zCA=Q at*
 simp[envD,em,er,e]
theorem zBN.strong{M:Int->Prop}{row:Dat}(h:zBN M row): ∃as:List Int,(∀a∈as,M a)/\zBN (· ∈as) row/\zBH [row]=some (.lst (as.map .int),[]):=by
 cases h with
 | @number n h0 h1=>exact⟨[],(fun _ h=>nomatch h),.number h0 h1,by kernel_rfl⟩
 | @two x a b hx ha hb=>
  refine⟨[a,b],by simp[ha,hb],.two hx (by simp) (by simp),?_⟩
  simp only[List.mem_cons,List.not_mem_nil,or_false] at hx
  rcases hx with rfl|rfl|rfl|rfl|rfl|rfl|rfl<;>kernel_rfl
 | @pick c a b hc ha hb=>exact⟨[c,a,b],by simp[hc,ha,hb],.pick (by simp) (by simp) (by simp),by kernel_rfl⟩
 | @load p h0 h1=>exact⟨[],(fun _ h=>nomatch h),.load h0 h1,by kernel_rfl⟩
 | @take p c a h0 h1 hc ha=>exact⟨[c,a],by simp[hc,ha],.take h0 h1 (by simp) (by simp),by kernel_rfl⟩
 | @store p a h0 h1 ha=>exact⟨[a],by simp[ha],.store h0 h1 (by simp),by kernel_rfl⟩
 | @put p a c h0 h1 ha hc=>exact⟨[a,c],by simp[ha,hc],.put h0 h1 (by simp) (by simp),by kernel_rfl⟩
theorem zNF{as:List Int}{row:Dat}(h:zBN (· ∈as) row){ks:List Key}{vs:List Dat}(μ:Int->Int)(hk: ∀a∈as,zB6 ks vs (.inl a)=some (.int (μ a))):
  ∃ay,zAJ [row,.dct ks vs]=some (ay,[])/\zBN (fun b=> ∃a∈as,b=μ a) ay/\mk1 .w ay=mk1 .w row:=by
 cases h with
 | @number n h0 h1=>
  refine⟨_,?_,.number h0 h1,rfl⟩
  unfold zAJ
  rw[zAC]
  unfold zB5
  simp[envD]
 | @two x a b hx ha hb=>
  have z0:=(dne hx (y:= "number") (by decide)).1
  have z1:=(dne hx (y:= "load") (by decide)).2
  have z2:=(dne hx (y:= "take") (by decide)).2
  have z3:=(dne hx (y:= "store") (by decide)).2
  have z4:=(dne hx (y:= "put") (by decide)).2
  refine⟨.tup [.str x,.int (μ a),.int (μ b)],?_,.two hx ⟨a,ha,rfl⟩ ⟨b,hb,rfl⟩,?_⟩
  ·unfold zAJ
   rw[zAC]
   unfold zB5
   simp[envD,z0,z1,z2,z3,z4,zAZ,hk a ha,hk b hb]
  ·simp only[List.mem_cons,List.not_mem_nil,or_false] at hx
   rcases hx with rfl|rfl|rfl|rfl|rfl|rfl|rfl<;>rfl
 | @pick c a b hc ha hb=>
  refine⟨.tup [.str "pick",.int (μ c),.int (μ a),.int (μ b)],?_,.pick ⟨c,hc,rfl⟩ ⟨a,ha,rfl⟩ ⟨b,hb,rfl⟩,rfl⟩
  unfold zAJ
  rw[zAC]
  unfold zB5
  simp[envD,zAZ,hk a ha,hk b hb,hk c hc]
 | @load p h0 h1=>
  refine⟨.tup [.str "load",.int p],?_,.load h0 h1,rfl⟩
  unfold zAJ
  rw[zAC]
  unfold zB5
  simp[envD,zAZ]
 | @take p c a h0 h1 hc ha=>
  refine⟨.tup [.str "take",.int p,.int (μ c),.int (μ a)],?_,.take h0 h1 ⟨c,hc,rfl⟩ ⟨a,ha,rfl⟩,rfl⟩
  unfold zAJ
  rw[zAC]
  unfold zB5
  simp[envD,zAZ,hk a ha,hk c hc]
 | @store p a h0 h1 ha=>
  refine⟨.tup [.str "store",.int p,.int (μ a)],?_,.store h0 h1 ⟨a,ha,rfl⟩,rfl⟩
  unfold zAJ
  rw[zAC]
  unfold zB5
  simp[envD,zAZ,hk a ha]
 | @put p a c h0 h1 ha hc=>
  refine⟨.tup [.str "put",.int p,.int (μ a),.int (μ c)],?_,.put h0 h1 ⟨a,ha,rfl⟩ ⟨c,hc,rfl⟩,rfl⟩
  unfold zAJ
  rw[zAC]
  unfold zB5
  simp[envD,zAZ,hk a ha,hk c hc]
theorem Bl.at{kds a9:List Kd}{rows:List Dat}(h:Bl kds rows a9): ∀{j:Nat} {row:Dat},rows[j]? =some row->zBN (fun a=>Nm a9 .w a/\a<kds.length+j) row/\a9[kds.length+j]? =some (mk1 .w row)/\ ∀a,Nm kds .w a->Nm a9 .w a:=by
 have keep: ∀{k k':List Kd} {rs:List Dat},Bl k rs k'-> ∀(i:Nat) (x:Kd),k[i]? =some x->k'[i]? =some x:=by
  intro k k' rs h
  induction h with
  |nil=>exact fun _ _ z=>z
  |cons _ _ ih=>exact fun i x z=>ih i x (by rw[List.getElem?_append_left (List.getElem?_eq_some_iff.mp z).1];exact z)
 induction h with
 | nil => intro j row hr;simp at hr
 | @cons kds a9 r rows a t ih=>
  intro j row hr
  cases j with
  |zero=>
   simp at hr
   subst hr
   refine⟨a.imp fun x hx=>⟨⟨hx.1,keep t _ _ (hx.snoc (j:=mk1 .w r)).2⟩,by have:=hx.lt;omega⟩,keep t _ _ (by simp),fun x hx=>⟨hx.1,keep t _ _ (hx.snoc (j:=mk1 .w r)).2⟩⟩
  |succ j=>
   obtain⟨h1,h2,h3⟩:=ih (by simpa using hr)
   rw[List.length_append,List.length_singleton] at h1 h2
   refine⟨h1.imp fun x hx=>⟨hx.1,by have:=hx.2;omega⟩,by rw[show kds.length+(j+1)=kds.length+1+j by omega];exact h2,fun x hx=>h3 x hx.snoc⟩
noncomputable def swD:Dat->Dat
 | .tup [a,b]=> .tup [b,a]
 |_=> .non
noncomputable def kvz:Nat->List Int->List (Key×Dat)
 |_,[]=>[]
 |k,x::xs=>(.inl x,.int (k:Int))::kvz (k+1) xs
theorem zMS: ∀(xs:List Int) (k:Nat),zH7 ((enuD k (xs.map .int)).map swD)=some (kvz k xs)
 |[],_=>rfl
 |x::xs,k=>by
  rw[List.map_cons,zCN,List.map_cons]
  show(kprD (.tup [.int x,.int (k:Int)])).bind (fun p=>(zH7 ((enuD (k+1) (xs.map .int)).map swD)).map fun ps=>p::ps)=_
  rw[zMS xs (k+1)]
  rfl
theorem zIT: ∀(xs:List Int) (k:Nat),(kvz k xs).map Prod.fst=xs.map .inl
 |[],_=>rfl
 |x::xs,k=>by rw[kvz,List.map_cons,zIT xs (k+1)];rfl
theorem zQ0: ∀(xs:List Int) (k i:Nat),i<xs.length->((kvz k xs).map Prod.snd)[i]? =some (.int ((k+i:Nat):Int))
 |[],_,i,h=>by simp at h
 |x::xs,k,0,_=>rfl
 |x::xs,k,i+1,h=>by
  have:=zQ0 xs (k+1) i (by simpa using h)
  rw[kvz,List.map_cons,List.getElem?_cons_succ,this]
  congr 3
  omega
theorem zSJ{order:List Int}(nd:order.Nodup){a:Int}(ha:a∈order):zB6 ((kvz 0 order).map Prod.fst) ((kvz 0 order).map Prod.snd) (.inl a)=some (.int (order.idxOf a:Int)):=by
 have hi:order.idxOf a<order.length:=List.idxOf_lt_length_of_mem ha
 rw[zMP _ _ (order.idxOf a) (.inl a) ?_ (by simp) ?_,zQ0 _ _ _ hi]
 ·simp
 ·rw[zIT]
  exact List.Pairwise.map _ (fun a b h e=>h (by injection e)) nd
 ·rw[zIT,List.getElem?_map,List.getElem?_eq_getElem hi,List.getElem_idxOf hi]
  rfl
noncomputable def zGL(rows:List Dat)(r:Int):Dat:=(rows[r.toNat]?).getD .non
noncomputable def renD(rows:List Dat)(names:Dat):Dat->Dat
 | .int r=>match zAJ [zGL rows r,names] with
  |some (d,_)=>d
  |none=> .non
 |_=> .non
theorem zOY{rows os:List Dat}{names ay:Dat}{r:Int}(e:zAJ [zGL rows r,names]=some (ay,os)):renD rows names (.int r)=ay:=by simp only[renD,e]
noncomputable def dctO(order:List Int):Dat:= .dct ((kvz 0 order).map Prod.fst) ((kvz 0 order).map Prod.snd)
theorem zXH{rows:List Dat}{kds:List Kd}(hb:Bl [] rows kds){ps:List (Int×Int)}(P:Prs rows ps){order:List Int}(o1:order.Perm (rgI rows.length))(o2: ∀p∈ps,∀k:Nat,order[k]? =some p.2->p.1∈order.take k){pre rest:List Int}{r:Int}(ho:order=pre++r::rest):
  ∃ay,zAJ [zGL rows r,dctO order]=some (ay,[])/\atI rows r=some (zGL rows r)/\zBN (Nm (pre.map fun a=>mk1 .w (zGL rows a)) .w) ay/\mk1 .w ay=mk1 .w (zGL rows r):=by
 have nd:order.Nodup:=o1.nodup_iff.mpr ((zOW _).imp fun h=>by omega)
 have hr:r∈order:=by rw[ho];simp
 have hr2:=zOV.mp (o1.mem_iff.mp hr)
 have dq:rows[r.toNat]? =some (zGL rows r):=by
  unfold zGL
  rw[List.getElem?_eq_getElem (by omega)]
  rfl
 obtain⟨h1,h2,_⟩:=hb.at dq
 obtain⟨as,a1,a2,a3⟩:=h1.strong
 have cq: ∀a∈as,a∈pre:=fun a ha=>by
  have h3:=a1 a ha
  have h4:a<r:=by have:=h3.2;simp at this;omega
  have hp:=P.nm r.toNat _ as dq a3 a ha h3.1.1 (by omega)
  have:=o2 _ hp pre.length (by rw[ho];simp;omega)
  rw[ho,List.take_left] at this
  exact this
 obtain⟨ay,e,ok,mk⟩:=zNF a2 (ks:=(kvz 0 order).map Prod.fst) (vs:=(kvz 0 order).map Prod.snd) (fun a=>(order.idxOf a:Int)) (fun a ha=>zSJ nd (by rw[ho];exact List.mem_append.mpr (.inl (cq a ha))))
 refine⟨ay,e,by rw[zCR hr2.1 (by omega)];exact dq,ok.imp fun b hb'=> ?_,mk⟩
 obtain⟨a,ha,rfl⟩:=hb'
 have hap:=cq a ha
 have hi:pre.idxOf a<pre.length:=List.idxOf_lt_length_of_mem hap
 have hio:order.idxOf a=pre.idxOf a:=by rw[ho,List.idxOf_append,if_pos hap]
 refine⟨by omega,?_⟩
 rw[hio,Int.toNat_natCast,List.getElem?_map,List.getElem?_eq_getElem hi,List.getElem_idxOf hi]
 have h3:=(a1 a ha).1
 have hlt:=h3.lt
 have aa:kds.length=rows.length:=by simpa using hb.len
 have lq:rows[a.toNat]? =some (zGL rows a):=by
  unfold zGL
  rw[List.getElem?_eq_getElem (by have:=h3.1;omega)]
  rfl
 obtain⟨_,h5,_⟩:=hb.at lq
 simp only[List.length_nil,Nat.zero_add] at h5
 have:=h3.2
 rw[h5] at this
 injection this with this
 rw[Option.map_some,this]
theorem zTB{rows:List Dat}{kds:List Kd}(hb:Bl [] rows kds){ps:List (Int×Int)}(P:Prs rows ps){order:List Int}(o1:order.Perm (rgI rows.length))(o2: ∀p∈ps,∀k:Nat,order[k]? =some p.2->p.1∈order.take k): ∀(rest pre:List Int),order=pre++rest->Bl (pre.map fun a=>mk1 .w (zGL rows a)) ((rest.map .int).map (renD rows (dctO order))) (order.map fun a=>mk1 .w (zGL rows a))
 |[],pre,ho=>by rw[ho,List.append_nil];exact .nil
 |r::rest,pre,ho=>by
  obtain⟨ay,e,_,ok,mk⟩:=zXH hb P o1 o2 ho
  have er:=zOY e
  have ih:=zTB hb P o1 o2 rest (pre++[r]) (by rw[ho,List.append_assoc];rfl)
  rw[List.map_cons,List.map_cons,er]
  refine .cons ok ?_
  rw[mk]
  simpa using ih
theorem zSW(ns:List Int)(n:Nat)(most:Int)(hl:ns.length<=63)(hn:n<100000)(h0:0<=most)(h40:most<=40):
  ∃(sure:Int) (rows:List Dat) (kds:List Kd) (n':Nat),Bl [] rows kds/\(rows.length:Int)<=most/\0<=sure/\sure<=64/\n'<=n+1000/\zC0 [Scp ns,Twn n,.int most]=some (.tup [.int sure,.tup rows],[Twn n']):=by
 obtain⟨x,hx,ex⟩:=zDP ns n [.int 3,.int 6,.int 9,.int 64] hl (by omega) (by simp)
 obtain⟨a7,rfl,r0,r1⟩: ∃q:Int,x= .int q/\0<q/\q<=64:=by
  simp only[List.mem_cons,List.not_mem_nil,or_false] at hx
  rcases hx with rfl|rfl|rfl|rfl<;>exact⟨_,rfl,by omega,by omega⟩
 have d1:=zD2 ns (n+1) (a7+1) hl (by omega) (by omega)
 have d1a:=zJ3 ns (n+1) (b:=a7+1) (by omega)
 have d1b:drw ns (n+1) (a7+1)<a7+1:=Int.emod_lt_of_pos _ (by omega)
 obtain⟨y,hy,ey⟩:=zDP ns (n+2) [.int 0,.int a7,.int a7,.int (drw ns (n+1) (a7+1))] hl (by omega) (by simp)
 obtain⟨sure,rfl,s0,s1⟩: ∃q:Int,y= .int q/\0<=q/\q<=64:=by
  simp only[List.mem_cons,List.not_mem_nil,or_false] at hy
  rcases hy with rfl|rfl|rfl|rfl<;>exact⟨_,rfl,by omega,by omega⟩
 have d2:=zD2 ns (n+3) (most+1) hl (by omega) (by omega)
 have d2a:=zJ3 ns (n+3) (b:=most+1) (by omega)
 have d2b:drw ns (n+3) (most+1)<most+1:=Int.emod_lt_of_pos _ (by omega)
 obtain⟨rows,kds,n1,hb,aa,m1,m2,e1⟩:=zUP ns (n+4) (drw ns (n+3) (most+1)) a7 hl (by omega) r0 r1 d2a (by omega)
 have d3:=zD2 ns n1 3 hl (by omega) (by decide)
 have hrl:rows.length<=40:=by omega
 by_cases h3:0<drw ns n1 3
 ·refine ⟨sure,rows,kds,n1 + 1,hb,by omega,s0,s1,by omega,?_⟩
  unfold zC0
  rw[zAC]
  unfold zDT
  simp[envD,ex,d1,ey,d2,e1,d3,h3]
 ·obtain ⟨ps,order,P,o1,o2,e2⟩ := zSB ns (n1 + 1) (sure := sure) hl (by omega) hb hrl
  have hol:order.length=rows.length:=by rw[o1.length_eq,zL2]
  have nd:order.Nodup:=o1.nodup_iff.mpr ((zOW _).imp fun h=>by omega)
  have c1:=zGU 0 bYes (fun _=>true) (fTup (zA6 (fV 1) (zA6 (fV 0) fNil))) swD [] rfl (enuD 0 (order.map .int)) [] (fun d hd=>by
   obtain⟨i,hi,e⟩:=List.getElem_of_mem hd
   obtain⟨z,_,rfl⟩:=zJ2 (List.getElem?_eq_some_iff.mpr ⟨hi,e⟩)
   exact⟨_,_,rfl,by simp,fun _=>by simp[swD]⟩) (by rw[zJ1];simp;omega)
  have f1:(enuD 0 (order.map Dat.int)).filter (fun _=>true)=enuD 0 (order.map .int):=List.filter_eq_self.mpr fun _ _=>rfl
  rw[f1,List.nil_append] at c1
  have hd:zSE (.lst ((enuD 0 (order.map .int)).map swD))=some (dctO order):=by
   show(zH7 ((enuD 0 (order.map .int)).map swD)).bind (fun kds=>if(kds.map Prod.fst).Nodup then some (Dat.dct (kds.map Prod.fst) (kds.map Prod.snd)) else none)=_
   rw[zMS,Option.bind_some,if_pos]
   ·rfl
   ·rw[zIT]
    exact List.Pairwise.map _ (fun a b h e=>h (by injection e)) nd
  have c2:=zED 2 (zAG 2 [] zAJ (aE (f2 oIxA (f2 oIxA (fV 0) (fC (.int 1))) (fV 2)) (aE (fV 1) aNil))) [.va (.tup [.int sure,.tup rows]),.va (dctO order)] (renD rows (dctO order)) rfl (order.map .int) [] (fun d hd=>by
   obtain⟨r,hr,rfl⟩:=List.mem_map.mp hd
   obtain⟨pre,rest,ho⟩:=List.append_of_mem hr
   obtain⟨ay,e,ea,_,_⟩:=zXH hb P o1 o2 ho
   have er:=zOY e
   rw[er]
   simp[ea,e]) (by simp;omega)
  rw[List.nil_append] at c2
  have B:=zTB hb P o1 o2 order [] rfl
  refine⟨sure,(order.map .int).map (renD rows (dctO order)),_,n1+1+rows.length,B,by simp;omega,s0,s1,by omega,?_⟩
  have h3': ¬0<drw ns n1 3:=h3
  unfold zC0
  rw[zAC]
  unfold zDT
  have hln:((order.map Dat.int).map (renD rows (dctO order))).length<=16777216:=by simp;omega
  generalize (order.map Dat.int).map (renD rows (dctO order))=R at*
  generalize (enuD 0 (order.map Dat.int)).map swD=S at*
  generalize dctO order=D at*
  simp[envD,ex,d1,ey,d2,e1,d3,h3',e2,zAZ,c1,hd,c2]
noncomputable def isW:Kd->Bool
 | .w=>true
 |_=>false
theorem yEL{kds:List Kd}{a:Int}(h:Nm kds .w a):Ab (kds.map isW) a:=⟨h.1,by rw[List.getElem?_map,h.2];rfl⟩
theorem mkw{x:String}{t:List Dat}:zBJ [.tup (.str x::t)]=some (.bl (isW (mk1 .w (.tup (.str x::t)))),[]):=by
 unfold zBJ;rw[zAC];unfold zE3
 by_cases h:x= "store"
 ·subst h
  simp[envD,zB0,mk1,zAL,isW]
 ·by_cases h2:x= "put"
  ·subst h2
   simp[envD,zB0,mk1,zAL,isW]
  ·have h3 : ¬ "store" = x := fun z => h z.symm
   have h4: ¬ "put"=x:=fun z=>h2 z.symm
   simp[envD,zB0,mk1,zAL,isW,h,h2,h3,h4]
theorem zSX(blk rws:Dat)(sure:Int){kds a9:List Kd}{rows:List Dat}(h:Bl kds rows a9):kds.length+rows.length<1000-> ∀s:Sl,∃s',forV (gN 4) zDD rows [.va blk,.va (.int sure),.va rws,.ow (.lst ((kds.map isW).map .bl)),s]=some (.nx [.va blk,.va (.int sure),.va rws,.ow (.lst ((a9.map isW).map .bl)),s']):=by
 induction h with
 | nil => exact fun _ s => ⟨s,by simp⟩
 | @cons kds a9 row rows ok h ih=>
  intro hk s
  obtain⟨s',ih⟩:=ih (by simp at hk⊢;omega) (.va row)
  refine⟨s',?_⟩
  have e:=zSM (ok.imp fun a=>yEL)
  obtain⟨x,t,rfl,_⟩:=zGQ ok
  have hk':kds.length<16777216:=by simp at hk;omega
  rw[List.map_append,List.map_append] at ih
  simp only[List.map_cons,List.map_nil] at ih
  rw[zEI,gN_e,zHP]
  have b1:zDD [.va blk,.va (.int sure),.va rws,.ow (.lst ((kds.map isW).map .bl)),.va (.tup (.str x::t))]=some (.nx [.va blk,.va (.int sure),.va rws,.ow (.lst ((kds.map isW).map .bl++[.bl (isW (mk1 .w (.tup (.str x::t))))])),.va (.tup (.str x::t))]):=by
   unfold zDD
   simp only[List.map_map] at e
   simp[e,mkw,hk',Dat.hard]
  have s1:([.va blk,.va (.int sure),.va rws,.ow (.lst ((kds.map isW).map .bl)),s]:Ev).set 4 (.va (.tup (.str x::t)))=[.va blk,.va (.int sure),.va rws,.ow (.lst ((kds.map isW).map .bl)),.va (.tup (.str x::t))]:=rfl
  rw[s1,b1,zIM]
  exact ih
theorem zI4{sure:Int}{rows:List Dat}{kds:List Kd}(h:Bl [] rows kds)(s0:0<=sure)(s1:sure<=64)(r40:rows.length<=40):zC5 [.tup [.int sure,.tup rows]]=some (.bl true,[]):=by
 obtain⟨s',e1⟩:=zSX (.tup [.int sure,.tup rows]) (.tup rows) sure h (by simp;omega) .no
 simp only[List.map_nil] at e1
 have h40: ¬(40:Int)<(rows.length:Int):=by omega
 unfold zC5
 rw[zAC,zFY.eq_1]
 simp[envD,zET,zEU,s0,s1,h40,e1]
theorem zLI{sure:Int}{rows:List Dat}{kds:List Kd}(h:Bl [] rows kds)(s0:0<=sure)(s1:sure<=64)(r40:rows.length<=40){cs:List Int}(hcs: ∀c∈cs,Wd c)(hs:sure<=cs.length)(dg:cs.length<=64):zBR [.tup [.int sure,.tup rows],.lst (cs.map .int)]=some (.non,[]):=by
 have e2:=zI4 h s0 s1 r40
 have e3:=zST hcs hs dg
 unfold zBR
 rw[zAC]
 unfold zES
 simp[envD,e2,e3]
noncomputable def stB(rws:Dat)(cs:List Dat)(ws:List Dat)(a b c d:Sl):Ev:=
 [.va rws,.ow (.lst cs),.ow (.lst ws),a,b,c,d]
@[simp] theorem yG7{i:Nat}{F:VFun}{ds:List Dat}:lstD i F ds=(ds[i]?).bind fun x=>(seqD x).bind fun es=>(F (ds.take i++[.lst es])).map fun q=>(q.1,q.2.dropLast):=(rfl)
inductive Tr:List Dat->List Dat->List Int->List Dat->List Int->Prop
 |nil {ws:List Dat} {cs:List Int}:Tr [] ws cs ws cs
 |cons {row m:Dat} {rows ws ws':List Dat} {as cs cs1 cs':List Int}:zAX [row]=some (.lst (as.map .int),[])->Did row (as.map (wv ws)) cs m cs1->Tr rows (ws++[m]) cs1 ws' cs'->Tr (row::rows) ws cs ws' cs'
theorem Tr.ext{rows ws ws':List Dat}{cs cs':List Int}(h:Tr rows ws cs ws' cs'): ∃ex,ws'=ws++ex/\ex.length=rows.length:=by
 induction h with
 |nil=>exact⟨[],by simp,rfl⟩
 | @cons row m rows ws ws' as cs cs1 cs' _ _ _ ih=>
  obtain⟨ex,h1,h2⟩:=ih
  exact⟨m::ex,by rw[h1];simp,by simp[h2]⟩
structure AllT(kds:List Kd)(rows:List Dat)(a9:List Kd)(ws:List Dat)(cs:List Int)(cs':List Int)(ws':List Dat):Prop where
 bl:Bl kds rows a9
 W:Ws a9 ws'
 tr:Tr rows ws cs ws' cs'
 ok: ∀c∈cs',Wd c
 len:cs'.length=cs.length
 oks: ∀d∈ws',okk 0 d
 prog: ∀rws a b c d,∃a1 b1 c1 d1,forV (GP 3 4) zBZ (enuD kds.length rows) (stB rws (cs.map .int) ws a b c d)=some (.nx (stB rws (cs'.map .int) ws' a1 b1 c1 d1))
structure OneT(kds:List Kd)(rows:List Dat)(ws:List Dat)(cs:List Int)(cs':List Int)(ws':List Dat)(m:Nat)(s:String):Prop where
 lt:m<rows.length
 pre: ∃k,AllT kds (rows.take m) k ws cs cs' ws'
 flt: ∃(row:Dat) (as:List Int),rows[m]? =some row/\zAX [row]=some (.lst (as.map .int),[])/\Flt row (as.map (wv ws')) cs' s
 prog: ∀rws a b c d,∃δ,forV (GP 3 4) zBZ (enuD kds.length rows) (stB rws (cs.map .int) ws a b c d)=some (.rt (.tup [.lst ws',.tup [.int ((kds.length+m:Nat):Int),.str s]]) δ)/\ ∃a1 b1 c1 d1,δ=stB rws (cs'.map .int) ws' a1 b1 c1 d1
theorem zVW{rws:Dat}{cs ws:List Dat}{a b c d:Sl}{i r:Dat}:GP 3 4 (.tup [i,r]) (stB rws cs ws a b c d)=some (stB rws cs ws (.va i) (.va r) c d):=by simp[stB]
theorem zWQ{kds:List Kd}{row:Dat}(ok:zBN (Nm kds .w) row){ws:List Dat}(W:Ws kds ws){cs:List Int}(hcs: ∀c∈cs,Wd c)(hk:kds.length<1000):
    ∃as:List Int,zAX [row]=some (.lst (as.map .int),[])∧
    ((∃m cs1,Did row (as.map (wv ws)) cs m cs1/\ ∀rws i c d,∃c1 d1,zBZ (stB rws (cs.map .int) ws (.va i) (.va row) c d)=some (.nx (stB rws (cs1.map .int) (ws++[m]) (.va i) (.va row) c1 d1)))∨
     ∃s,Flt row (as.map (wv ws)) cs s/\ ∀rws i c d,∃c1 d1,zBZ (stB rws (cs.map .int) ws (.va i) (.va row) c d)=some (.rt (.tup [.lst ws,.tup [i,.str s]]) (stB rws (cs.map .int) ws (.va i) (.va row) c1 d1))):=by
  have hwl:ws.length<16777216:=by rw[W.len];omega
  obtain⟨as,hM,hcn,_,np⟩:=zFP ok
  have has:as.length<=3:=by rw[hcn];exact zTX _
  have c2:=zN6 (d:= .lst ws) (ws:=ws) has fun a ha=>by
    rw[zZF]
    exact(W.word (hM a ha)).1
  refine⟨as,np,?_⟩
  have st:=zRM ok (as.map (wv ws)) cs (by simpa using hcn) (fun w hw=>by
    obtain⟨q,hq,rfl⟩:=List.mem_map.mp hw
    exact(W.word (hM q hq)).2) hcs
  unfold DoR at st
  generalize as.map (wv ws)=zs at c2 st⊢
  rcases st with⟨m,cs1,D,p2⟩|⟨s,F,p2⟩
  · refine .inl ⟨m,cs1,D,fun rws i c d => ⟨.va m,.va .non,?_⟩⟩
    unfold zBZ
    simp[stB,np,zAZ,c2,p2,hwl]
  · refine .inr ⟨s,F,fun rws i c d => ⟨.va .non,.va (.str s),?_⟩⟩
    unfold zBZ
    simp[stB,np,zAZ,c2,p2]
theorem simT{kds a9:List Kd}{rows:List Dat}(h:Bl kds rows a9): ∀(ws:List Dat) (cs:List Int),Ws kds ws->(∀d∈ws,okk 0 d)->(∀c∈cs,Wd c)->kds.length+rows.length<1000→
  (∃cs' ws',AllT kds rows a9 ws cs cs' ws')∨ ∃cs' ws' m s,OneT kds rows ws cs cs' ws' m s:=by
 induction h with
 | @nil kds => exact fun ws cs W hws hcs _ => .inl ⟨cs,ws,.nil,W,.nil,hcs,rfl,hws,fun rws a b c d => ⟨a,b,c,d,by simp [enuD]⟩⟩
 | @cons kds a9 row rows ok h ih=>
  intro ws cs W hws hcs hk
  simp only[List.length_cons] at hk
  obtain⟨as,np,st⟩:=zWQ ok W hcs (by omega)
  rcases st with⟨m,cs1,D,pr⟩|⟨s,F,pr⟩
  ·have W':Ws (kds++[mk1 .w row]) (ws++[m]):=W.snoc D.word
   have ih:=ih (ws++[m]) cs1 W' (fun d hd=>by
    rcases List.mem_append.mp hd with z|z
    ·exact hws d z
    ·simp at z;rw[z];exact D.made) (D.ok hcs) (by simp;omega)
   have up: ∀{rs:List Dat} {k:List Kd} {cs':List Int} {ws':List Dat},AllT (kds++[mk1 .w row]) rs k (ws++[m]) cs1 cs' ws'->AllT kds (row::rs) k ws cs cs' ws':=fun A=>⟨.cons ok A.bl,A.W,.cons np D A.tr,A.ok,A.len.trans D.len,A.oks,fun rws a b c d=>by
    obtain⟨c1,d1,e⟩:=pr rws (.int kds.length) c d
    obtain⟨a2,b2,c2,d2,e2⟩:=A.prog rws (.va (.int kds.length)) (.va row) c1 d1
    rw[List.length_append,List.length_singleton] at e2
    exact⟨a2,b2,c2,d2,by rw[zCN,zEI,zVW,zHP,e,zIM,e2]⟩⟩
   rcases ih with⟨cs',ws',A⟩|⟨cs',ws',k,s,F⟩
   ·exact .inl ⟨cs',ws',up A⟩
   ·obtain⟨kk,A⟩:=F.pre
    refine .inr ⟨cs',ws',k+1,s,by have:=F.lt;simp;omega,⟨kk,by rw[List.take_succ_cons];exact up A⟩,by simpa using F.flt,fun rws a b c d=> ?_⟩
    obtain⟨c1,d1,e⟩:=pr rws (.int kds.length) c d
    obtain⟨δ,e2,hδ⟩:=F.prog rws (.va (.int kds.length)) (.va row) c1 d1
    rw[List.length_append,List.length_singleton] at e2
    refine⟨δ,?_,hδ⟩
    rw[zCN,zEI,zVW,zHP,e,zIM,e2,show kds.length+1+k=kds.length+(k+1) by omega]
  ·refine .inr ⟨cs,ws,0,s,by simp,⟨kds,by rw [List.take_zero];exact ⟨.nil,W,.nil,hcs,rfl,hws,fun rws a b c d => ⟨a,b,c,d,by simp [enuD]⟩⟩⟩,⟨row,as,rfl,np,F⟩,fun rws a b c d => ?_⟩
   obtain⟨c1,d1,e⟩:=pr rws (.int kds.length) c d
   refine⟨stB rws (cs.map .int) ws (.va (.int kds.length)) (.va row) c1 d1,?_,_,_,_,_,rfl⟩
   rw[zCN,zEI,zVW,zHP,e,yC3,Nat.add_zero]
theorem zXD{sure:Int}{rows:List Dat}{kds:List Kd}(h:Bl [] rows kds)(s0:0<=sure)(s1:sure<=64)(r40:rows.length<=40){cs cs':List Int}{ws':List Dat}(hcs: ∀c∈cs,Wd c)(hs:sure<=cs.length)(dg:cs.length<=64){fd:Dat}
  (A:(∃k,AllT [] rows k [] cs cs' ws'/\fd= .non)∨ ∃m s,OneT [] rows [] cs cs' ws' m s/\fd= .tup [.int m,.str s]):
  zKW [.tup [.int sure,.tup rows],.lst (cs.map .int)]=some (.tup [.lst (cs'.map .int),fd],[])/\zDV [.tup [.int sure,.tup rows],.lst (cs.map .int)]=some (.lst ws',[]):=by
 have ec:=zLI h s0 s1 r40 hcs hs dg
 have e5:zCC [.tup rows,.lst (cs.map .int)]=some (.tup [.lst ws',fd],[.lst (cs'.map .int)]):=by
  rcases A with⟨k,A,rfl⟩|⟨m,s,A,rfl⟩
  ·obtain⟨a1,b1,c1,d1,e1⟩:=A.prog (.tup rows) .no .no .no .no
   simp only[stB,List.length_nil] at e1
   unfold zCC
   rw[zAC,zFD.eq_1]
   simp[envD,e1]
  ·obtain⟨δ1,e1,a1,b1,c1,d1,rfl⟩:=A.prog (.tup rows) .no .no .no .no
   simp only[stB,Nat.zero_add,List.length_nil] at e1
   unfold zCC
   rw[zAC,zFD.eq_1]
   simp[envD,e1]
 refine⟨?_,?_⟩
 ·unfold zKW
  rw[zAC]
  unfold zVY
  simp[envD,ec,e5]
 ·unfold zDV
  rw[zAC]
  unfold zIW
  simp[envD,ec,e5]
noncomputable def s56(ns:List Int)(n:Nat)(blk C:Dat)(W:List Dat)(r w h s d o t:Sl):Ev:=
 [.va (Scp ns),.ow (Twn n),.va blk,.va C,.va (.lst W),r,w,h,s,d,o,t]
noncomputable def upT(W:List Dat)(p:Int)(d:Int):Dat->Int
 | .tup [.str x,.int q,.int a]=>if x= "store" /\q=p then wv W a else d
 | .tup [.str x,.int q,.int a,.int c]=>if x= "put" /\q=p/\¬wv W c=0 then wv W a else d
 |_=>d
theorem yE2(ns:List Int)(n:Nat)(blk C:Dat){W:List Dat}{kds:List Kd}(hW:Ws kds W)(r w s o:Sl){x:String}{p:Int}{ht:List Dat}(d:Int){t:Dat}(ok:zBN (Nm kds .w) t):
  zHM (s56 ns n blk C W r w (.va (.tup (.str x:: .int p::ht))) s (.va (.int d)) o (.va t))=some (.nx (s56 ns n blk C W r w (.va (.tup (.str x:: .int p::ht))) s (.va (.int (upT W p d t))) o (.va t))):=by
 unfold zHM
 cases ok with
 | @number n _ _ => simp [s56,upT]
 | @two x a b hx _ _=>
  have z1:=(dne hx (y:= "store") (by decide))
  have z2:=(dne hx (y:= "put") (by decide))
  simp[s56,upT,z1,z2,zAL]
 | @pick c a b _ _ _ => simp [s56,upT,zAL]
 | @load q _ _ => simp [s56,upT]
 | @take q c a _ _ _ _ => simp [s56,upT,zAL]
 | @store q a _ _ ha=>
  have ea:=(hW.word ha).1
  by_cases hq:q=p
  ·simp[s56,upT,hq,ea]
  ·simp[s56,upT,hq]
 | @put q a c _ _ ha hc=>
  have ea:=(hW.word ha).1
  have ec:=(hW.word hc).1
  by_cases hq:q=p
  ·by_cases h0:wv W c=0
   ·simp[s56,upT,hq,ec,h0,zAL]
   ·simp[s56,upT,hq,ea,ec,h0,zAL]
  ·simp[s56,upT,hq,zAL]
theorem yAC(ns:List Int)(n:Nat)(blk C:Dat){W:List Dat}{kds:List Kd}(hW:Ws kds W)(r w s:Sl){x:String}{p:Int}{ht:List Dat}: ∀(ts:List Dat) (k:Nat) (d:Int) (o t:Sl),(∀t∈ts,zBN (Nm kds .w) t)→
  ∃o' t',forV (GP 10 11) zHM (enuD k ts) (s56 ns n blk C W r w (.va (.tup (.str x:: .int p::ht))) s (.va (.int d)) o t)=some (.nx (s56 ns n blk C W r w (.va (.tup (.str x:: .int p::ht))) s (.va (.int (ts.foldl (upT W p) d))) o' t'))
 |[],k,d,o,t,_=>⟨o,t,by simp[enuD]⟩
 |u::ts,k,d,o,t,h=>by
  obtain⟨o',t',ih⟩:=yAC ns n blk C hW r w s ts (k+1) (upT W p d u) (.va (.int k)) (.va u) (fun t ht=>h t (List.mem_cons_of_mem _ ht))
  refine⟨o',t',?_⟩
  have e:=yE2 ns n blk C hW r w s (.va (.int k)) (x:=x) (p:=p) (ht:=ht) d (h u List.mem_cons_self)
  have s1:GP 10 11 (.tup [.int k,u]) (s56 ns n blk C W r w (.va (.tup (.str x:: .int p::ht))) s (.va (.int d)) o t)=some (s56 ns n blk C W r w (.va (.tup (.str x:: .int p::ht))) s (.va (.int d)) (.va (.int k)) (.va u)):=by simp[s56]
  rw[zCN,zEI,s1,zHP,e,zIM,ih,List.foldl_cons]
theorem zRT{sure:Int}{rows:List Dat}{kds:List Kd}(h:Bl [] rows kds)(s0:0<=sure)(s1:sure<=64)(r40:rows.length<=40){k:Nat}{row:Dat}(hk:rows[k]? =some row):zDE [.tup [.int sure,.tup rows],.int k]=some (row,[]):=by
 have e:=zI4 h s0 s1 r40
 have hlt:=(List.getElem?_eq_some_iff.mp hk).1
 have h1:(k:Int)<=(rows.length:Int) - 1:=by omega
 have ea:atI rows (k:Int)=some row:=by rw[zU2 hlt];exact hk
 unfold zDE
 rw[zAC]
 unfold zIX
 simp[envD,e,h1,ea]
theorem zKX{as:List Int}{ws:List Dat}(has:as.length<=3)(h: ∀a∈as,atI ws a=some (.int (wv ws a))):zBS 1 1 (gN 1) bYes (f2 oIxA (fV 0) (fV 1)) (as.map .int) [] [.va (.lst ws)]=some ((as.map (wv ws)).map .int,[.va (.lst ws)]):=by
 rw[zED 1 _ [.va (.lst ws)] (fW ws) rfl _ [] (fun e he=> ?_) (by simp;omega),zTP]
 ·rfl
 ·obtain⟨a,ha,rfl⟩:=List.mem_map.mp he
  simp[h a ha,fW]
theorem zU3{W:List Dat}{k:Nat}{a:Int}(h0:0<=a)(h1:a<k)(hk:k<=W.length):wv (W.take k) a=wv W a:=by
 unfold wv
 rw[zCR h0 (by rw[List.length_take];omega),zCR h0 (by omega),List.getElem?_take_of_lt (by omega)]
theorem zVP{sure:Int}{rows:List Dat}{kds kR:List Kd}{R W:List Dat}(hb:Bl [] rows kds)(s0:0<=sure)(s1:sure<=64)(r40:rows.length<=40)(hR:Bl [] R kR)(hW:Ws kR W){k:Nat}{row m:Dat}{as csK og:List Int}{cs0:List Int}(ns:List Int)(n:Nat)
  (hk:rows[k]? =some row) (hRk: ∀t∈rows.take k,t∈R) (np:zAX [row]=some (.lst (as.map .int),[])) (has:as.length<=3) (hwa: ∀a∈as,atI W a=some (.int (wv W a)))
  (D:Did row (as.map (wv W)) csK m og) (inv: ∀(p w:Int),0<=p->csK[p.toNat]? =some w-> ∃d0,cs0[p.toNat]? =some d0/\(rows.take k).foldl (upT W p) d0=w) (h s d o t:Sl):
  ∃h' s' d' o' t',zJ9 (s56 ns n (.tup [.int sure,.tup rows]) (.lst (cs0.map .int)) W (.va (.int k)) (.va m) h s d o t)=some (.nx (s56 ns n (.tup [.int sure,.tup rows]) (.lst (cs0.map .int)) W (.va (.int k)) (.va m) h' s' d' o' t')):=by
 have hlt:=(List.getElem?_eq_some_iff.mp hk).1
 have ea:atI rows (k:Int)=some row:=by rw[zU2 hlt];exact hk
 have er:=zRT hb s0 s1 r40 hk
 have en:zG6 [.tup [.int sure,.tup rows],.int k]=some (.lst (as.map .int),[]):=by
  unfold zG6
  rw[zAC]
  unfold zLC
  simp[envD,er,np]
 have em: ∀(x:String) (t:List Dat),row= .tup (.str x::t)->zG8 [.tup [.int sure,.tup rows],.int k]=some (.bl (isW (mk1 .w row)),[]):=fun x t e=>by
  have mw:=mkw (x:=x) (t:=t)
  rw[<- e] at mw
  unfold zG8
  rw[zAC]
  unfold zLE
  simp[envD,er,mw]
 have c2:=zKX has hwa
 have load: ∀(x:String) (p w:Int) (ht:List Dat) (s9:Sl),0<=p->csK[p.toNat]? =some w-> ∃(d0:Int) (o' t':Sl),atI (cs0.map Dat.int) p=some (.int d0)/\forV (GP 10 11) zHM (enuD 0 (rows.take k)) (s56 ns n (.tup [.int sure,.tup rows]) (.lst (cs0.map .int)) W (.va (.int k)) (.va m) (.va (.tup (.str x:: .int p::ht))) s9 (.va (.int d0)) o t)=some (.nx (s56 ns n (.tup [.int sure,.tup rows]) (.lst (cs0.map .int)) W (.va (.int k)) (.va m) (.va (.tup (.str x:: .int p::ht))) s9 (.va (.int w)) o' t')):=fun x p w ht s9 p0 hp=>by
  obtain⟨d0,e0,e1⟩:=inv p w p0 hp
  obtain⟨o',t',e2⟩:=yAC ns n (.tup [.int sure,.tup rows]) (.lst (cs0.map .int)) hW (.va (.int k)) (.va m) s9 (x:=x) (p:=p) (ht:=ht) (rows.take k) 0 d0 o t (fun t ht=>hR.all t (hRk t ht))
  refine⟨d0,o',t',?_,by rw[e2,e1]⟩
  have:=(List.getElem?_eq_some_iff.mp e0).1
  rw[zCR p0 (by simp;omega),List.getElem?_map,e0]
  rfl
 have cj:=zG0 (ds:=rows) (k:=k)
 generalize hzs:as.map (wv W)=zs at D c2
 unfold zJ9
 cases D with
 | @number q _ hq=>
  have em:=em _ _ rfl
  refine⟨.va (.tup [.str "number",.int q]),.va (.lst []),d,o,t,?_⟩
  simp[s56,ea,en,zAZ,c2,em,mk1,zAL,isW]
 | @two x a b u v w _ hx e hw=>
  have em:=em _ _ rfl
  have z1:=(dne hx (y:= "number") (by decide)).1
  have z2:=(dne hx (y:= "load") (by decide)).2
  have z3:=(dne hx (y:= "take") (by decide)).2
  have z4:=(dne hx (y:= "store") (by decide)).1
  have z5:=(dne hx (y:= "put") (by decide)).1
  simp only[List.map_cons,List.map_nil] at c2
  refine⟨.va (.tup [.str x,.int a,.int b]),.va (.lst [.int u,.int v]),d,o,t,?_⟩
  simp[s56,ea,en,zAZ,c2,em,mk1,zAL,isW,z1,z2,z3,z4,z5,e]
 | @pick c a b u v z w _ e hw=>
  have em:=em _ _ rfl
  simp only[List.map_cons,List.map_nil] at c2
  refine⟨.va (.tup [.str "pick",.int c,.int a,.int b]),.va (.lst [.int u,.int v,.int z]),d,o,t,?_⟩
  simp[s56,ea,en,zAZ,c2,em,mk1,zAL,isW,e]
 | @load p w _ p0 p1 hp hw=>
  have em:=em _ _ rfl
  simp only[List.map_nil] at c2
  obtain⟨d0,o',t',l1,l2⟩:=load "load" p w [] (.va (.lst [])) p0 hp
  simp only[s56] at l2
  refine⟨.va (.tup [.str "load",.int p]),.va (.lst []),.va (.int w),o',t',?_⟩
  simp[s56,ea,en,zAZ,c2,em,mk1,zAL,isW,l1,cj,l2]
 | @take0 p c a v _ hv=>
  have em:=em _ _ rfl
  simp only[List.map_cons,List.map_nil] at c2
  refine⟨.va (.tup [.str "take",.int p,.int c,.int a]),.va (.lst [.int 0,.int v]),d,o,t,?_⟩
  simp[s56,ea,en,zAZ,c2,em,mk1,zAL,isW]
 | @take p c a u v w _ hu p0 p1 hp hw=>
  have em:=em _ _ rfl
  simp only[List.map_cons,List.map_nil] at c2
  obtain⟨d0,o',t',l1,l2⟩:=load "take" p w [.int c,.int a] (.va (.lst [.int u,.int v])) p0 hp
  simp only[s56] at l2
  refine⟨.va (.tup [.str "take",.int p,.int c,.int a]),.va (.lst [.int u,.int v]),.va (.int w),o',t',?_⟩
  simp[s56,ea,en,zAZ,c2,em,mk1,zAL,isW,hu,l1,cj,l2]
 | @store p a u _ p0 p1 hu=>
  have em:=em _ _ rfl
  simp only[List.map_cons,List.map_nil] at c2
  refine⟨.va (.tup [.str "store",.int p,.int a]),.va (.lst [.int u]),d,o,t,?_⟩
  simp[s56,ea,en,zAZ,c2,em,mk1,zAL,isW]
 | @put0 p a c u _=>
  have em:=em _ _ rfl
  simp only[List.map_cons,List.map_nil] at c2
  refine⟨.va (.tup [.str "put",.int p,.int a,.int c]),.va (.lst [.int u,.int 0]),d,o,t,?_⟩
  simp[s56,ea,en,zAZ,c2,em,mk1,zAL,isW]
 | @put p a c u v _ hv p0 p1 hu=>
  have em:=em _ _ rfl
  simp only[List.map_cons,List.map_nil] at c2
  refine⟨.va (.tup [.str "put",.int p,.int a,.int c]),.va (.lst [.int u,.int v]),d,o,t,?_⟩
  simp[s56,ea,en,zAZ,c2,em,mk1,zAL,isW]
theorem zSN{row m:Dat}{as cs cs1:List Int}{W:List Dat}(np:zAX [row]=some (.lst (as.map .int),[]))(D:Did row (as.map (wv W)) cs m cs1): ∀p w:Int,0<=p->cs1[p.toNat]? =some w-> ∃w0,cs[p.toNat]? =some w0/\upT W p w0 row=w:=by
 intro p w p0 hp
 generalize hzs:as.map (wv W)=zs at D
 cases D with
 | number => exact ⟨w,hp,by simp [upT]⟩
 | @two x a b u v z _ hx _ _=>
  have z1:=(dne hx (y:= "store") (by decide)).1
  exact⟨w,hp,by simp[upT,zAL,z1]⟩
 | pick => exact ⟨w,hp,by simp [upT,zAL]⟩
 | load => exact ⟨w,hp,by simp [upT]⟩
 | take0 => exact ⟨w,hp,by simp [upT,zAL]⟩
 | take => exact ⟨w,hp,by simp [upT,zAL]⟩
 | @store q a u _ q0 q1 hu=>
  have e:zAX [.tup [.str "store",.int q,.int a]]=some (.lst (([a]:List Int).map .int),[]):=by kernel_rfl
  have:as=[a]:=zFA (by
   have:=np.symm.trans e
   simpa using this)
  subst this
  simp at hzs
  by_cases hq:q=p
  ·subst hq
   have hl:q.toNat<cs.length:=by omega
   rw[List.getElem?_set_self hl] at hp
   injection hp with hp
   exact⟨cs[q.toNat],List.getElem?_eq_getElem hl,by simp[upT,hzs,hp]⟩
  ·rw [List.getElem?_set_ne (by omega)] at hp
   exact⟨w,hp,by simp[upT,hq]⟩
 | @put0 q a c u _=>
  have e:zAX [.tup [.str "put",.int q,.int a,.int c]]=some (.lst (([a,c]:List Int).map .int),[]):=by kernel_rfl
  have:as=[a,c]:=zFA (by
   have:=np.symm.trans e
   simpa using this)
  subst this
  simp at hzs
  exact⟨w,hp,by simp[upT,hzs.2]⟩
 | @put q a c u v _ hv q0 q1 hu=>
  have e:zAX [.tup [.str "put",.int q,.int a,.int c]]=some (.lst (([a,c]:List Int).map .int),[]):=by kernel_rfl
  have:as=[a,c]:=zFA (by
   have:=np.symm.trans e
   simpa using this)
  subst this
  simp at hzs
  by_cases hq:q=p
  ·subst hq
   have hl:q.toNat<cs.length:=by omega
   rw[List.getElem?_set_self hl] at hp
   injection hp with hp
   exact⟨cs[q.toNat],List.getElem?_eq_getElem hl,by simp[upT,hzs.1,hzs.2,hp,hv]⟩
  ·rw [List.getElem?_set_ne (by omega)] at hp
   exact⟨w,hp,by simp[upT,hq]⟩
theorem yDK{sure:Int}{rows:List Dat}{kds kR:List Kd}{R W:List Dat}{cs0:List Int}(hb:Bl [] rows kds)(s0:0<=sure)(s1:sure<=64)(r40:rows.length<=40)(hR:Bl [] R kR)(hW:Ws kR W)(hRr:R=rows.take W.length)(hRl:R.length=W.length)(ns:List Int)(n:Nat)
  {suf wsK wsE:List Dat} {csK csE:List Int} (T:Tr suf wsK csK wsE csE):wsE=W-> ∀(pre:List Dat),R=pre++suf->wsK=W.take pre.length->(∀p w:Int,0<=p->csK[p.toNat]? =some w-> ∃d0,cs0[p.toNat]? =some d0/\pre.foldl (upT W p) d0=w)-> ∀(r w h s d o t:Sl),
  ∃r' w' h' s' d' o' t',forV (GP 5 6) zJ9 (enuD pre.length (W.drop pre.length)) (s56 ns n (.tup [.int sure,.tup rows]) (.lst (cs0.map .int)) W r w h s d o t)=some (.nx (s56 ns n (.tup [.int sure,.tup rows]) (.lst (cs0.map .int)) W r' w' h' s' d' o' t')):=by
 induction T with
 |nil=>
  intro _ pre hp _ _ r w h s d o t
  have hl:W.drop pre.length=[]:=by
   rw[List.append_nil] at hp
   rw[<- hp,hRl,List.drop_length]
  exact⟨r,w,h,s,d,o,t,by rw[hl];simp[enuD]⟩
 | @cons row m rest ws ws' as cs cs1 cs' np D tr ih=>
  intro hE pre hp hK inv r w h s d o t
  obtain⟨ex,hx1,hx2⟩:=tr.ext
  rw[hE] at hx1
  have hpl:pre.length<W.length:=by rw[<- hRl,hp];simp
  have hwl:ws.length=pre.length:=by rw[hK,List.length_take];omega
  have ls:W.drop pre.length=m::W.drop (pre.length+1):=by
   have hg:W[pre.length]? =some m:=by rw[hx1,<- hwl];simp
   rw[List.drop_eq_getElem_cons hpl]
   congr 1
   rw[List.getElem?_eq_getElem hpl] at hg
   injection hg
  have hRk:R[pre.length]? =some row:=by rw[hp];simp
  have hk:rows[pre.length]? =some row:=by
   rw[hRr,List.getElem?_take_of_lt hpl] at hRk
   exact hRk
  have hpre:rows.take pre.length=pre:=by
   have:R.take pre.length=pre:=by rw[hp];simp
   rw[hRr,List.take_take,Nat.min_eq_left (by omega)] at this
   exact this
  obtain⟨ok,_,_⟩:=hR.at hRk
  obtain⟨as0,hM,hc,_,n0⟩:=zFP ok
  have has:as0=as:=zFA (by
   have:=n0.symm.trans np
   simpa using this)
  subst has
  have nw:as0.map (wv ws)=as0.map (wv W):=by
   rw[hK]
   refine List.map_congr_left fun a ha=>zU3 (hM a ha).1.1 ?_ (by omega)
   have:=(hM a ha).2
   simpa using this
  rw[nw] at D
  have li:=inv
  rw[<- hpre] at li
  obtain⟨h',s',d',o',t',e⟩:=zVP hb s0 s1 r40 hR hW ns n hk (fun u hu=>by rw[hp];rw[hpre] at hu;exact List.mem_append.mpr (.inl hu)) np (by rw[hc];exact zTX _) (fun a ha=>(hW.word (hM a ha).1).1) D li h s d o t
  have hK1:ws++[m]=W.take (pre++[row]).length:=by rw[hx1,List.take_left' (by simp[hwl])]
  obtain⟨r2,w2,h2,s2,d2,o2,t2,e2⟩:=ih hE (pre++[row]) (by rw[hp];simp) hK1 (fun p w p0 hw=>by
   obtain⟨w0,i1,i2⟩:=zSN np D p w p0 hw
   obtain⟨d0,j1,j2⟩:=inv p w0 p0 i1
   exact⟨d0,j1,by rw[List.foldl_append,j2];exact i2⟩) (.va (.int pre.length)) (.va m) h' s' d' o' t'
  refine⟨r2,w2,h2,s2,d2,o2,t2,?_⟩
  rw[List.length_append,List.length_singleton] at e2
  have s1:GP 5 6 (.tup [.int pre.length,m]) (s56 ns n (.tup [.int sure,.tup rows]) (.lst (cs0.map .int)) W r w h s d o t)=some (s56 ns n (.tup [.int sure,.tup rows]) (.lst (cs0.map .int)) W (.va (.int pre.length)) (.va m) h s d o t):=by simp[s56]
  rw[ls,zCN,zEI,s1,zHP,e,zIM,e2]
end L2
namespace RR
open PySem L2
theorem zSH(ns:List Int)(hl:ns.length<=63):zLO [.lst (ns.map .int)]=some (.bl true,[]):=by
 obtain⟨sure,rows,kds,n,hb,aa,s0,s1,hn,e1⟩:=zSW ns 0 20 hl (by omega) (by omega) (by omega)
 obtain⟨cs,n2,hcs,hs,dg,hn2,e2⟩:=zSU ns n sure hl (by omega) s0 s1
 have r40:rows.length<=40:=by omega
 have ht0:Dat.lst []=Twn 0:=rfl
 have hS:Dat.lst (ns.map .int)=Scp ns:=rfl
 have hx:envD [] 12 [Scp ns]=[.va (Scp ns),.no,.no,.no,.no,.no,.no,.no,.no,.no,.no,.no]:=(rfl)
 have b7:(sSet 1 (xO (fLst fNil))) [.va (Scp ns),.no,.no,.no,.no,.no,.no,.no,.no,.no,.no,.no]=some (.nx [.va (Scp ns),.ow (Twn 0),.no,.no,.no,.no,.no,.no,.no,.no,.no,.no]):=(rfl)
 have main: ∀{R W:List Dat} {kR:List Kd} {cs':List Int} {fd:Dat},AllT [] R kR [] cs cs' W->R=rows.take W.length->R.length=W.length->zKW [.tup [.int sure,.tup rows],.lst (cs.map .int)]=some (.tup [.lst (cs'.map .int),fd],[])->zDV [.tup [.int sure,.tup rows],.lst (cs.map .int)]=some (.lst W,[])->(fd= .non∨ ∃s:String,fd= .tup [.int W.length,.str s])->zLO [.lst (ns.map .int)]=some (.bl true,[]):=fun{R W kR cs' fd} A hR hRl er ev hf=>by
  obtain⟨r',w',h',s',d',o',t',el⟩:=yDK (cs0:=cs) hb s0 s1 r40 A.bl A.W hR hRl ns n2 A.tr rfl [] rfl rfl (fun p w _ h=>⟨w,h,rfl⟩) .no .no .no .no .no .no .no
  simp only[List.length_nil,List.drop_zero,s56] at el
  rw[hS]
  unfold zLO
  rw[zAC,zVZ.eq_1,hx,zT6,b7,qS_n]
  generalize cs.map Dat.int=C at*
  generalize cs'.map Dat.int=C' at*
  rcases hf with rfl|⟨s,rfl⟩
  ·simp[e1,e2,ev,el,er]
  ·simp[e1,e2,ev,el,er]
 rcases simT hb [] cs Ws.nil (fun _ h=>nomatch h) hcs (by simp;omega) with⟨cs',ws',A⟩|⟨cs',ws',m,s,F⟩
 ·obtain⟨r1,r2⟩:=zXD hb s0 s1 r40 hcs hs dg (.inl ⟨_,A,rfl⟩)
  obtain⟨ex,x1,x2⟩:=A.tr.ext
  have hwl:rows.length=ws'.length:=by rw[x1];simpa using x2.symm
  exact main A (by rw[<- hwl,List.take_length]) hwl r1 r2 (.inl rfl)
 ·obtain⟨r1,r2⟩:=zXD hb s0 s1 r40 hcs hs dg (.inr ⟨m,s,F,rfl⟩)
  obtain⟨k,A⟩:=F.pre
  obtain⟨ex,x1,x2⟩:=A.tr.ext
  have hm:=F.lt
  have hwl:ws'.length=m:=by rw[x1,List.nil_append,x2,List.length_take,Nat.min_eq_left (by omega)]
  exact main A (by rw[hwl]) (by rw[hwl,List.length_take,Nat.min_eq_left (by omega)]) r1 r2 (.inr ⟨s,by rw[hwl]⟩)
end RR
namespace KK
open PySem PySem.W
noncomputable abbrev g(a i:Nat)(n:Str)(d m:Value):Obj:=⟨.type "function",none,.func (fnOf n n (L2.zBX (RR.top i)) (L2.zBL (RR.top i)) (L2.zA5 (RR.top i)) d .none .none m none (.ref (a - 1)) .none),#[]⟩
theorem p(P:Params)(a i:Nat)(n:Str)(m:Value)(h1:nsIn (K P) mainGlobals n=some (some (.ref a)):=by kernel_rfl)(h2:(K P).lookup a=some (g a i n .none m):=by kernel_rfl)(h3:codeIn (K P) (.ref (a - 1)) n=true:=by kernel_rfl):L2.A4 (K P) n (RR.top i) a:=L2.a4 h1 h2 h3 (by unfold keepIn;simp only[h2])
end KK
namespace RR
open PySem L2
abbrev Zn(K:W.Frag)(x:Str):Prop:=W.nsIn K mainGlobals x=some none
abbrev Gn(K:W.Frag)(x:Str)(v:Value):Prop:=W.nsIn K mainGlobals x=some (some v)
theorem Len1{α:Type}{P:List α->Prop}(z: ∀a,P [a]): ∀us:List α,us.length=1->P us
 |[a],_=>z a
theorem Len2{α:Type}{P:List α->Prop}(z: ∀a b,P [a,b]): ∀us:List α,us.length=2->P us
 |[a,b],_=>z a b
theorem Len3{α:Type}{P:List α->Prop}(z: ∀a b c,P [a,b,c]): ∀us:List α,us.length=3->P us
 |[a,b,c],_=>z a b c
theorem Len4{α:Type}{P:List α->Prop}(z: ∀a b c d,P [a,b,c,d]): ∀us:List α,us.length=4->P us
 |[a,b,c,d],_=>z a b c d
theorem Len5{α:Type}{P:List α->Prop}(z: ∀a b c d e,P [a,b,c,d,e]): ∀us:List α,us.length=5->P us
 |[a,b,c,d,e],_=>z a b c d e
theorem Len6{α:Type}{P:List α->Prop}(z: ∀a b c d e f,P [a,b,c,d,e,f]): ∀us:List α,us.length=6->P us
 |[a,b,c,d,e,f],_=>z a b c d e f
theorem yAP{l:W.OpenLaw}{w:World}{K:W.Frag}{h:Heap}{mg:Str->Option Value}{fa:Addr}(X:K.In h)(G:h.Ns mainGlobals mg)(hfa:mg "law"=some (.ref fa))
  {f_x0 f_x1 f_x2 f_x3 f_x4 f_x5 f_x6 f_x7 f_x8 f_x9 f_x10 f_x11 f_x12 f_x13 f_x14 f_x15 f_x16 f_x17 f_x18 f_x19 f_x20 f_x21 f_x22 f_x23 f_x24:Addr}
  {kV_x24 dc_x24 pm_x24 cd_x24 ct_x24:Value}
  {t1:Tok}
  {a2 f_x25 f_x26 f_x27 f_x28 f_x29 f_x30 f_x31 f_x32 f_x33 f_x34 f_x36 f_x35 f_x39 f_x40 f_x41 f_x42 f_x43 f_x37 f_x38 f_x44:Addr}
  {kV_x44 dc_x44 pm_x44 cd_x44 ct_x44:Value}
  {t3 t4 t5 t6 t7 t8 t9 t10:Tok}
  {a11:Addr}
  {t12 t13 t14 t15 t16 t17 t18:Tok}
  {a19:Addr}
  {h20 h21 h22 h23 h24 h25 h26:Int}
  {t27 t28 t29 t30 t31:Tok}
  {a32:Addr}
  {t33 t34 t35 t36 t37 t38 t39:Tok}
  {a40:Addr}
  {t41 t42 t43:Tok}
  {a44:Addr}
  {t45:Tok}
  {a46:Addr}
  {t47 t48 t49:Tok}
  {a50:Addr}
  {t51 t52:Tok}
  {a53:Addr}
  {t54 t55 t56:Tok}
  {a57 a58:Addr}
  {h59 h60 h61 h62 h63 h64:Int}
  {t65 t66:Tok}
  {a67:Addr}
  {t68 t69:Tok}
  {a70:Addr}
  {t71:Tok}
  (mn:A4 K "is_whole" (top 8) f_x0)
  (km:A4 K "plus" (top 9) f_x1)
  (k5:A4 K "minus" (top 10) f_x2)
  (jr:A4 K "times" (top 11) f_x3)
  (je:A4 K "least" (top 12) f_x4)
  (j7:A4 K "most" (top 13) f_x5)
  (j6:A4 K "less" (top 14) f_x6)
  (j5:A4 K "over" (top 15) f_x7)
  (mm:A4 K "pick" (top 16) f_x8)
  (mj:A4 K "done" (top 18) f_x9)
  (kl:A4 K "parts_of" (top 27) f_x10)
  (kj:A4 K "makes_word" (top 28) f_x11)
  (ki:A4 K "place_of" (top 29) f_x12)
  (kg:A4 K "names_of" (top 30) f_x13)
  (kf:A4 K "may_name" (top 31) f_x14)
  (kc:A4 K "fits" (top 32) f_x15)
  (k9:A4 K "is_row" (top 33) f_x16)
  (k8:A4 K "is_block" (top 34) f_x17)
  (k7:A4 K "row_at" (top 35) f_x18)
  (k6:A4 K "makes" (top 36) f_x19)
  (k4:A4 K "named" (top 37) f_x20)
  (jz:A4 K "is_cells" (top 40) f_x21)
  (jy:A4 K "touches" (top 41) f_x22)
  (jx:A4 K "do_on_cell" (top 42) f_x23)
  (l5:K.lookup a2=some ⟨.type "tuple",none,.seq #[.int 0 t1] 0,#[]⟩)
  (gw:W.nsIn K mainGlobals "do_row"=some (some (.ref f_x24)))
  (lf:K.lookup f_x24=some ⟨.type "function",none,.func (W.fnOf "do_row" "do_row" (zBX (top 43)) (zBL (top 43)) (zA5 (top 43)) (.ref a2) kV_x24 dc_x24 pm_x24 none cd_x24 ct_x24),#[]⟩)
  (m8:W.codeIn K cd_x24 "do_row"=true)
  (dm:W.keepIn K (.ref f_x24)=true)
  (jw:A4 K "do_rows" (top 44) f_x25)
  (jv:A4 K "check_run" (top 45) f_x26)
  (ju:A4 K "run" (top 46) f_x27)
  (jt:A4 K "values" (top 47) f_x28)
  (js:A4 K "_law_cell_at" (top 49) f_x29)
  (jq:A4 K "_law_mixed" (top 50) f_x30)
  (jo:A4 K "_law_draw" (top 51) f_x31)
  (jm:A4 K "_law_pick" (top 52) f_x32)
  (jl:A4 K "_law_place" (top 53) f_x33)
  (jk:A4 K "_law_row" (top 54) f_x34)
  (ji:A4 K "_law_next" (top 56) f_x36)
  (jj:A4 K "_law_rows" (top 55) f_x35)
  (jf:A4 K "_law_names" (top 59) f_x39)
  (jd:A4 K "_law_may" (top 60) f_x40)
  (jc:A4 K "_law_must" (top 61) f_x41)
  (j9:A4 K "_law_mixed_order" (top 62) f_x42)
  (j8:A4 K "_law_renamed" (top 63) f_x43)
  (jh:A4 K "_law_block" (top 57) f_x37)
  (jg:A4 K "_law_cells" (top 58) f_x38)
  (ma:W.nsIn K mainGlobals "law"=some (some (.ref f_x44)))
  (lc:K.lookup f_x44=some ⟨.type "function",none,.func (W.fnOf "law" "law" (zBX (top 64)) (zBL (top 64)) (zA5 (top 64)) .none kV_x44 dc_x44 pm_x44 none cd_x44 ct_x44),#[]⟩)
  (m7:W.codeIn K cd_x44 "law"=true)
  (lh:W.keepIn K (.ref f_x44)=true)
  (iy:Zn K "len")
  (gf:Zn K "range")
  (iu:Zn K "min")
  (iw:Zn K "max")
  (gy:Zn K "list")
  (gd:Zn K "tuple")
  (dj:Zn K "sorted")
  (c6:Zn K "isinstance")
  (i3:Zn K "bool")
  (iz:Zn K "int")
  (iq:Zn K "str")
  (cf:Zn K "enumerate")
  (ip:Zn K "zip")
  (j3:Zn K "all")
  (h9:Zn K "dict")
  (cm:Gn K "MOST_WORD" (.int 999 t3))
  (l7:K.lookup a11=some ⟨.type "tuple",none,.seq #[.str "plus" t4,.str "minus" t5,.str "times" t6,.str "least" t7,.str "most" t8,.str "less" t9,.str "over" t10] 0,#[]⟩)
  (gl:Gn K "DEEDS" (.ref a11))
  (l6:K.lookup a19=some ⟨.type "dict",none,.dict #[⟨h20,.str "plus" t12,.ref f_x1⟩,⟨h21,.str "minus" t13,.ref f_x2⟩,⟨h22,.str "times" t14,.ref f_x3⟩,⟨h23,.str "least" t15,.ref f_x4⟩,⟨h24,.str "most" t16,.ref f_x5⟩,⟨h25,.str "less" t17,.ref f_x6⟩,⟨h26,.str "over" t18,.ref f_x7⟩] 7,#[]⟩)
  (lb:(a19==sysModules)=false)
  (i6:Gn K "MADE" (.ref a19))
  (cn:Gn K "MOST_SURE" (.int 64 t27))
  (cp:Gn K "MOST_ROWS" (.int 40 t28))
  (c9:Gn K "MOST_PLACE" (.int 63 t29))
  (l4:K.lookup a32=some ⟨.type "tuple",none,.seq #[.str "row" t30,.str "row" t31] 0,#[]⟩)
  (cb:Gn K "DEED_PARTS" (.ref a32))
  (l3:K.lookup a40=some ⟨.type "tuple",none,.seq #[.str "word" t39] 0,#[]⟩)
  (l0:K.lookup a44=some ⟨.type "tuple",none,.seq #[.str "row" t41,.str "row" t42,.str "row" t43] 0,#[]⟩)
  (kz:K.lookup a46=some ⟨.type "tuple",none,.seq #[.str "place" t45] 0,#[]⟩)
  (ky:K.lookup a50=some ⟨.type "tuple",none,.seq #[.str "place" t47,.str "row" t48,.str "row" t49] 0,#[]⟩)
  (kx:K.lookup a53=some ⟨.type "tuple",none,.seq #[.str "place" t51,.str "row" t52] 0,#[]⟩)
  (ku:K.lookup a57=some ⟨.type "tuple",none,.seq #[.str "place" t54,.str "row" t55,.str "row" t56] 0,#[]⟩)
  (kr:K.lookup a58=some ⟨.type "dict",none,.dict #[⟨h59,.str "number" t33,.ref a40⟩,⟨h60,.str "pick" t34,.ref a44⟩,⟨h61,.str "load" t35,.ref a46⟩,⟨h62,.str "take" t36,.ref a50⟩,⟨h63,.str "store" t37,.ref a53⟩,⟨h64,.str "put" t38,.ref a57⟩] 6,#[]⟩)
  (la:(a58==sysModules)=false)
  (bm:Gn K "OTHER_PARTS" (.ref a58))
  (kq:K.lookup a67=some ⟨.type "tuple",none,.seq #[.str "load" t65,.str "take" t66] 0,#[]⟩)
  (di:Gn K "READERS" (.ref a67))
  (ko:K.lookup a70=some ⟨.type "tuple",none,.seq #[.str "store" t68,.str "put" t69] 0,#[]⟩)
  (dh:Gn K "WRITERS" (.ref a70))
  (ca:Gn K "MOST_CELLS" (.int 64 t71)):
  ∃fd:FuncData,(∀(s:Shared) (v:Value),BindsTo s fd ⟨[v],[]⟩ [("_law_script",v)])/\ ∀base:Heap,K.In base->base.Ns mainGlobals mg->FnOk l.prog w K mg base CX0 9 fa fd ["_law_script"] (spV K [] 1 zLO):=by
 have e:=hfa.symm.trans (W.mg_of X G ma)
 cases e
 have T:Txt K mg:=⟨fun _ _ e=>W.mg_of X G e,
   W.mg_none_of X G iy,
   W.mg_none_of X G gf,
   W.mg_none_of X G iu,
   W.mg_none_of X G iw,
   W.mg_none_of X G gy,
   W.mg_none_of X G gd,
   W.mg_none_of X G dj,
   W.mg_none_of X G c6,
   W.mg_none_of X G i3,
   W.mg_none_of X G iz,
   W.mg_none_of X G iq,
   W.mg_none_of X G cf,
   W.mg_none_of X G ip,
   W.mg_none_of X G j3,
   W.mg_none_of X G h9,
   ⟨_,.ref a11,W.mg_of X G gl,rfl,fun _ _ _=>(.tup (xs:=[.str "plus",.str "minus",.str "times",.str "least",.str "most",.str "less",.str "over"]) (.inr ⟨_,_,_,l7,rfl,rfl,(by show 7<=sizeLine;decide),(.cons ⟨_,rfl⟩ (.cons ⟨_,rfl⟩ (.cons ⟨_,rfl⟩ (.cons ⟨_,rfl⟩ (.cons ⟨_,rfl⟩ (.cons ⟨_,rfl⟩ (.cons ⟨_,rfl⟩ .nil)))))))⟩) (.cons (.str _) (.cons (.str _) (.cons (.str _) (.cons (.str _) (.cons (.str _) (.cons (.str _) (.cons (.str _) .nil))))))))⟩,
   ⟨_,.ref a32,W.mg_of X G cb,rfl,fun _ _ _=>(.tup (xs:=[.str "row",.str "row"]) (.inr ⟨_,_,_,l4,rfl,rfl,(by show 2<=sizeLine;decide),(.cons ⟨_,rfl⟩ (.cons ⟨_,rfl⟩ .nil))⟩) (.cons (.str _) (.cons (.str _) .nil)))⟩,
   ⟨_,.ref a19,W.mg_of X G i6,rfl,fun _ _ _=>(.ktb (D:=[("plus",.ref f_x1),("minus",.ref f_x2),("times",.ref f_x3),("least",.ref f_x4),("most",.ref f_x5),("less",.ref f_x6),("over",.ref f_x7)]) ⟨lb,_,_,_,l6,⟨rfl,rfl,rfl⟩,rfl,(.cons rfl rfl (.cons rfl rfl (.cons rfl rfl (.cons rfl rfl (.cons rfl rfl (.cons rfl rfl (.cons rfl rfl .nil)))))))⟩ (.cons (.fn km.ns) (.cons (.fn k5.ns) (.cons (.fn jr.ns) (.cons (.fn je.ns) (.cons (.fn j7.ns) (.cons (.fn j6.ns) (.cons (.fn j5.ns) .nil))))))))⟩,
   ⟨_,.int 64,W.mg_of X G ca,⟨_,rfl⟩,fun _ _ _=>(.int _)⟩,
   ⟨_,.int 63,W.mg_of X G c9,⟨_,rfl⟩,fun _ _ _=>(.int _)⟩,
   ⟨_,.int 40,W.mg_of X G cp,⟨_,rfl⟩,fun _ _ _=>(.int _)⟩,
   ⟨_,.int 64,W.mg_of X G cn,⟨_,rfl⟩,fun _ _ _=>(.int _)⟩,
   ⟨_,.int 999,W.mg_of X G cm,⟨_,rfl⟩,fun _ _ _=>(.int _)⟩,
   ⟨_,.ref a58,W.mg_of X G bm,rfl,fun _ _ _=>(.ktb (D:=[("number",.ref a40),("pick",.ref a44),("load",.ref a46),("take",.ref a50),("store",.ref a53),("put",.ref a57)]) ⟨la,_,_,_,kr,⟨rfl,rfl,rfl⟩,rfl,(.cons rfl rfl (.cons rfl rfl (.cons rfl rfl (.cons rfl rfl (.cons rfl rfl (.cons rfl rfl .nil))))))⟩ (.cons (.tup (xs:=[.str "word"]) (.inr ⟨_,_,_,l3,rfl,rfl,(by show 1<=sizeLine;decide),(.cons ⟨_,rfl⟩ .nil)⟩) (.cons (.str _) .nil)) (.cons (.tup (xs:=[.str "row",.str "row",.str "row"]) (.inr ⟨_,_,_,l0,rfl,rfl,(by show 3<=sizeLine;decide),(.cons ⟨_,rfl⟩ (.cons ⟨_,rfl⟩ (.cons ⟨_,rfl⟩ .nil)))⟩) (.cons (.str _) (.cons (.str _) (.cons (.str _) .nil)))) (.cons (.tup (xs:=[.str "place"]) (.inr ⟨_,_,_,kz,rfl,rfl,(by show 1<=sizeLine;decide),(.cons ⟨_,rfl⟩ .nil)⟩) (.cons (.str _) .nil)) (.cons (.tup (xs:=[.str "place",.str "row",.str "row"]) (.inr ⟨_,_,_,ky,rfl,rfl,(by show 3<=sizeLine;decide),(.cons ⟨_,rfl⟩ (.cons ⟨_,rfl⟩ (.cons ⟨_,rfl⟩ .nil)))⟩) (.cons (.str _) (.cons (.str _) (.cons (.str _) .nil)))) (.cons (.tup (xs:=[.str "place",.str "row"]) (.inr ⟨_,_,_,kx,rfl,rfl,(by show 2<=sizeLine;decide),(.cons ⟨_,rfl⟩ (.cons ⟨_,rfl⟩ .nil))⟩) (.cons (.str _) (.cons (.str _) .nil))) (.cons (.tup (xs:=[.str "place",.str "row",.str "row"]) (.inr ⟨_,_,_,ku,rfl,rfl,(by show 3<=sizeLine;decide),(.cons ⟨_,rfl⟩ (.cons ⟨_,rfl⟩ (.cons ⟨_,rfl⟩ .nil)))⟩) (.cons (.str _) (.cons (.str _) (.cons (.str _) .nil)))) .nil)))))))⟩,
   ⟨_,.ref a67,W.mg_of X G di,rfl,fun _ _ _=>(.tup (xs:=[.str "load",.str "take"]) (.inr ⟨_,_,_,kq,rfl,rfl,(by show 2<=sizeLine;decide),(.cons ⟨_,rfl⟩ (.cons ⟨_,rfl⟩ .nil))⟩) (.cons (.str _) (.cons (.str _) .nil)))⟩,
   ⟨_,.ref a70,W.mg_of X G dh,rfl,fun _ _ _=>(.tup (xs:=[.str "store",.str "put"]) (.inr ⟨_,_,_,ko,rfl,rfl,(by show 2<=sizeLine;decide),(.cons ⟨_,rfl⟩ (.cons ⟨_,rfl⟩ .nil))⟩) (.cons (.str _) (.cons (.str _) .nil)))⟩⟩
 have d8:=zW0 (st:=top 43) lf m8 dm
 have m9:=d8.binds (ps:=Qx24) (ds:=[]) (m:=4) l5 rfl fun _ _ _ _ _ _ us hl=>match us,hl with|[_,_,_,_],_=>⟨_,rfl,rfl⟩
 have i8:=d8.binds (ps:=Qx24) (ds:=[.int 0 t1]) (m:=3) l5 rfl fun _ _ _ _ _ _ us hl=>match us,hl with|[_,_,_],_=>⟨_,rfl,rfl⟩
 have md:=zTU (st:=top 64) lc m7 lh
 refine⟨W.fnOf "law" "law" (zBX (top 64)) (zBL (top 64)) (zA5 (top 64)) .none kV_x44 dc_x44 pm_x44 none cd_x44 ct_x44,fun s v=> .of_eq rfl,fun base _ _=> ?_⟩
 have au:DefV l.prog w K mg base "is_whole" 1 Qx0 [] zAU f_x0:=mkDf X G mn (fun U=>yCZ U T) (Len3 fun _ _ _=>rfl)
 have io:DefV l.prog w K mg base "plus" 1 Qx1 [] zI9 f_x1:=mkDf X G km (fun U=>yCY U T) (Len2 fun _ _=>rfl)
 have im:DefV l.prog w K mg base "minus" 1 Qx2 [] zG7 f_x2:=mkDf X G k5 (fun U=>yCX U T) (Len2 fun _ _=>rfl)
 have il:DefV l.prog w K mg base "times" 1 Qx3 [] zG5 f_x3:=mkDf X G jr (fun U=>yCW U T) (Len2 fun _ _=>rfl)
 have ik:DefV l.prog w K mg base "least" 1 Qx4 [] zG9 f_x4:=mkDf X G je (fun U=>yCV U T) (Len2 fun _ _=>rfl)
 have ij:DefV l.prog w K mg base "most" 1 Qx5 [] zIB f_x5:=mkDf X G j7 (fun U=>yCU U T) (Len2 fun _ _=>rfl)
 have ii:DefV l.prog w K mg base "less" 1 Qx6 [] zIC f_x6:=mkDf X G j6 (fun U=>yCT U T) (Len2 fun _ _=>rfl)
 have ig:DefV l.prog w K mg base "over" 1 Qx7 [] zGI f_x7:=mkDf X G j5 (fun U=>yCS U T) (Len2 fun _ _=>rfl)
 have i9:DefV l.prog w K mg base "pick" 1 Qx8 [] zIA f_x8:=mkDf X G mm (fun U=>yCR U T) (Len3 fun _ _ _=>rfl)
 have cw:DefV l.prog w K mg base "done" 2 Qx9 [] zDY f_x9:=mkDf X G mj (fun U=>yCQ U T io im il ik ij ii ig i9) (Len2 fun _ _=>rfl)
 have c5:DefV l.prog w K mg base "parts_of" 1 Qx10 [] zB7 f_x10:=mkDf X G kl (fun U=>zZE U T) (Len1 fun _=>rfl)
 have bz:DefV l.prog w K mg base "makes_word" 1 Qx11 [] zBJ f_x11:=mkDf X G kj (fun U=>zZD U T) (Len1 fun _=>rfl)
 have db:DefV l.prog w K mg base "place_of" 1 Qx12 [] zAS f_x12:=mkDf X G ki (fun U=>zZC U T) (Len1 fun _=>rfl)
 have bu:DefV l.prog w K mg base "names_of" 2 Qx13 [] zAX f_x13:=mkDf X G kg (fun U=>zZB U T c5) (Len1 fun _=>rfl)
 have gc:DefV l.prog w K mg base "may_name" 2 Qx14 [] zCV f_x14:=mkDf X G kf (fun U=>zZA U T au) (Len2 fun _ _=>rfl)
 have gb:DefV l.prog w K mg base "fits" 3 Qx15 [] zEL f_x15:=mkDf X G kc (fun U=>zZ9 U T au gc) (Len3 fun _ _ _=>rfl)
 have ga:DefV l.prog w K mg base "is_row" 4 Qx16 [] zEE f_x16:=mkDf X G k9 (fun U=>zZ8 U T c5 gb) (Len2 fun _ _=>rfl)
 have br:DefV l.prog w K mg base "is_block" 5 Qx17 [] zC5 f_x17:=mkDf X G k8 (fun U=>zZ7 U T au bz ga) (Len1 fun _=>rfl)
 have bq:DefV l.prog w K mg base "row_at" 6 Qx18 [] zDE f_x18:=mkDf X G k7 (fun U=>zZ6 U T au br) (Len2 fun _ _=>rfl)
 have g9:DefV l.prog w K mg base "makes" 7 Qx19 [] zG8 f_x19:=mkDf X G k6 (fun U=>zZ5 U T bz bq) (Len2 fun _ _=>rfl)
 have g8:DefV l.prog w K mg base "named" 7 Qx20 [] zG6 f_x20:=mkDf X G k4 (fun U=>zZ4 U T bu bq) (Len2 fun _ _=>rfl)
 have g7:DefV l.prog w K mg base "is_cells" 2 Qx21 [] zCY f_x21:=mkDf X G jz (fun U=>zZ3 U T au) (Len2 fun _ _=>rfl)
 have g0:DefV l.prog w K mg base "touches" 1 Qx22 [] zBW f_x22:=mkDf X G jy (fun U=>zZ2 U T) (Len2 fun _ _=>rfl)
 have da:DefV l.prog w K mg base "do_on_cell" 2 Qx23 [3] zAP f_x23:=mkDf X G jx (fun U=>zZ1 U T g0) (Len4 fun _ _ _ _=>rfl)
 have gx:DefV l.prog w K mg base "do_row" 3 Qx24 [2] zBU f_x24:=⟨W.mg_of X G gw,⟨_,zTK d8 T cw db da,m9⟩,dm⟩
 have cx:DefD l.prog w K mg base "do_row" 3 Qx24 (spV K [2] 4 zBU) f_x24 (.int 0):=⟨W.mg_of X G gw,⟨_,_,zTK d8 T cw db da,i8,by first|exact⟨_,rfl⟩|rfl⟩,dm⟩
 have bp:DefV l.prog w K mg base "do_rows" 4 Qx25 [1] zCC f_x25:=mkDf X G jw (fun U=>zZ0 U T bu gx cx) (Len2 fun _ _=>rfl)
 have bo:DefV l.prog w K mg base "check_run" 6 Qx26 [] zBR f_x26:=mkDf X G jv (fun U=>zYZ U T br g7) (Len2 fun _ _=>rfl)
 have d9:DefV l.prog w K mg base "run" 7 Qx27 [] zKW f_x27:=mkDf X G ju (fun U=>zYY U T bp bo) (Len2 fun _ _=>rfl)
 have fw:DefV l.prog w K mg base "values" 7 Qx28 [] zDV f_x28:=mkDf X G jt (fun U=>zYX U T bp bo) (Len2 fun _ _=>rfl)
 have fu:DefV l.prog w K mg base "_law_cell_at" 1 Qx29 [] zBG f_x29:=mkDf X G js (fun U=>zYW U T) (Len2 fun _ _=>rfl)
 have ft:DefV l.prog w K mg base "_law_mixed" 2 Qx30 [] zCJ f_x30:=mkDf X G jq (fun U=>zYV U T fu) (Len3 fun _ _ _=>rfl)
 have ah:DefV l.prog w K mg base "_law_draw" 3 Qx31 [1] zAI f_x31:=mkDf X G jo (fun U=>zYU U T ft) (Len3 fun _ _ _=>rfl)
 have ag:DefV l.prog w K mg base "_law_pick" 4 Qx32 [1] zAO f_x32:=mkDf X G jm (fun U=>zYT U T ah) (Len3 fun _ _ _=>rfl)
 have bh:DefV l.prog w K mg base "_law_place" 5 Qx33 [1,2] zB9 f_x33:=mkDf X G jl (fun U=>zYS U T ah ag) (Len5 fun _ _ _ _ _=>rfl)
 have fo:DefV l.prog w K mg base "_law_row" 6 Qx34 [1,3] zDM f_x34:=mkDf X G jk (fun U=>zYR U T ah ag bh) (Len5 fun _ _ _ _ _=>rfl)
 have fj:DefV l.prog w K mg base "_law_next" 5 Qx36 [1,4] zBT f_x36:=mkDf X G ji (fun U=>zYP U T ag) (Len6 fun _ _ _ _ _ _=>rfl)
 have fm:DefV l.prog w K mg base "_law_rows" 7 Qx35 [1] zCW f_x35:=mkDf X G jj (fun U=>zYQ U T ag fo fj) (Len4 fun _ _ _ _=>rfl)
 have f8:DefV l.prog w K mg base "_law_names" 1 Qx39 [] zBH f_x39:=mkDf X G jf (fun U=>zYM U T) (Len1 fun _=>rfl)
 have bn:DefV l.prog w K mg base "_law_may" 1 Qx40 [] zCB f_x40:=mkDf X G jd (fun U=>zYL U T) (Len2 fun _ _=>rfl)
 have f7:DefV l.prog w K mg base "_law_must" 2 Qx41 [] zCX f_x41:=mkDf X G jc (fun U=>zYK U T f8 bn) (Len1 fun _=>rfl)
 have f6:DefV l.prog w K mg base "_law_mixed_order" 5 Qx42 [1] zB8 f_x42:=mkDf X G j9 (fun U=>zYJ U T ag f7) (Len3 fun _ _ _=>rfl)
 have eo:DefV l.prog w K mg base "_law_renamed" 1 Qx43 [] zAJ f_x43:=mkDf X G j8 (fun U=>zYI U T) (Len2 fun _ _=>rfl)
 have fg:DefV l.prog w K mg base "_law_block" 8 Qx37 [1] zC0 f_x37:=mkDf X G jh (fun U=>zYO U T ah ag fm f6 eo) (Len3 fun _ _ _=>rfl)
 have f9:DefV l.prog w K mg base "_law_cells" 5 Qx38 [1] zCK f_x38:=mkDf X G jg (fun U=>zYN U T ah ag) (Len3 fun _ _ _=>rfl)
 exact zYH md T cw g9 g8 d9 fw fg f9
theorem zRN(K:W.Frag)(H:Hp)(a:Addr)(ns:List Int)(hl:ns.length<=63)(h:SqL K H a (ns.map V.int)):spV K [] 1 zLO [.ref a] H (fun v _=>v= .bl true) fun _ _ _=>False:=by
 have hr:RepA K (Zp (fun _=>False) [] [.ref a]) H (ns.map V.int) (ns.map Dat.int):=by
  clear h hl
  induction ns with
  |nil=>exact .nil
  |cons n ns ih=>exact .cons (.int n) ih
 have hz: ∀b,¬Zp (fun _=>False) [] [V.ref a] b:=fun b h=>by
  rcases h with h|⟨i,h,_⟩
  ·exact h
  ·cases h
 refine⟨fun _=>False,[.lst (ns.map .int)],.bl true,[],rfl,⟨rfl,(fun i h=>nomatch h),fun i d hi e=> ?_,(fun i d h=>nomatch h),(fun i j b h=>nomatch h),fun a h=>h.elim⟩,zSH ns hl,fun v H' _ _ r=>by cases r;rfl⟩
 cases i with
 |zero=>
  cases e
  refine⟨_,rfl,?_⟩
  rcases h with(h|⟨o,h⟩)|h
  ·exact .lst h (hz a) hr
  ·exact .fzl (.inl ⟨o,h⟩) hr
  ·exact .fzl (.inr h) hr
 |succ i=>cases i<;>cases e
end RR
open PySem PySem.W PyProof.Rows
set_option maxRecDepth 100000 in
set_option maxHeartbeats 0 in
theorem PySem.Challenge.cw_lanepacks_k56_whole_values_by_names_holds : PySem.Challenge.rw_lanepacks_k56_whole_values_by_names.Holds := by
 w_on;refine holds_law KK.said fun said=> ?_
 refine holds_open (q:=KK.view) (loose:=KK.lo) (Xt:=KK.X) (XP:=XL KK.view []) (Yf:=KK.H.obs) (Ya:=KK.H.val) (YP:=KK.H.says) (N:=5296) KK.hl (Hook.of _) (Hook.keeps _) (fun s e=>xl_of s (Bool.and_eq_true_iff.mp e).1) XL.keeps (by rfl) (by rfl) (by rfl) (fun s e=>recFacts_of (Bool.and_eq_true_iff.mp e).2) (by rfl) (by first|assumption|decide+kernel) (by decide+kernel) ⟨rfl,rfl,rfl,rfl,rfl,by decide+kernel⟩ ?hw ?hc
 case hw=>w_witness2
 refine L2.zR5 (l:=PySem.Challenge.rw_lanepacks_k56_whole_values_by_names) (n:=63) (k:=9) (x:= "_law_script") (CX:=L2.CX0) (sp:=fun K=>L2.spV K [] 1 L2.zLO) rfl (by decide) rfl ⟨rfl,by decide,by decide⟩ (fun w h Y=>W.kIn_of (K:=KK.K) (as:=KK.A) (e:=KK.kA) Y) ?F (fun K H a ns hl _ hS=>RR.zRN K H a ns hl hS) fun _ _ _ _ z=>z
 case F=>
  intro w mg fa h KX G hmg
  exact RR.yAP (K:=KK.K w.params) (f_x0:=78) (f_x1:=85) (f_x2:=92) (f_x3:=99) (f_x4:=106) (f_x5:=113) (f_x6:=120) (f_x7:=127) (f_x8:=134) (f_x9:=142) (f_x10:=159) (f_x11:=166) (f_x12:=173) (f_x13:=178) (f_x14:=185) (f_x15:=192) (f_x16:=197) (f_x17:=204) (f_x18:=211) (f_x19:=218) (f_x20:=225) (f_x21:=230) (f_x22:=237) (f_x23:=244) (f_x24:=252) (kV_x24:= .none) (dc_x24:= .none) (pm_x24:= .str "lanepacks.running" 503) (cd_x24:= .ref 251) (ct_x24:= .none) (t1:=531) (a2:=245) (f_x25:=257) (f_x26:=264) (f_x27:=271) (f_x28:=278) (f_x29:=285) (f_x30:=292) (f_x31:=299) (f_x32:=306) (f_x33:=313) (f_x34:=318) (f_x36:=332) (f_x35:=325) (f_x39:=349) (f_x40:=354) (f_x41:=359) (f_x42:=364) (f_x43:=369) (f_x37:=337) (f_x38:=342) (f_x44:=374) (kV_x44:= .none) (dc_x44:= .none) (pm_x44:= .str "law_lanepacks_k56_whole_values_by_names" 580) (cd_x44:= .ref 373) (ct_x44:= .none) (t3:=266) (t4:=268) (t5:=269) (t6:=270) (t7:=271) (t8:=272) (t9:=273) (t10:=274) (a11:=71) (t12:=350) (t13:=351) (t14:=352) (t15:=353) (t16:=354) (t17:=355) (t18:=356) (a19:=135) (h20:=PySem.PyData.keyHash w.params "plus") (h21:=PySem.PyData.keyHash w.params "minus") (h22:=PySem.PyData.keyHash w.params "times") (h23:=PySem.PyData.keyHash w.params "least") (h24:=PySem.PyData.keyHash w.params "most") (h25:=PySem.PyData.keyHash w.params "less") (h26:=PySem.PyData.keyHash w.params "over") (t27:=376) (t28:=378) (t29:=380) (t30:=382) (t31:=383) (a32:=143) (t33:=385) (t34:=387) (t35:=391) (t36:=393) (t37:=397) (t38:=400) (t39:=386) (a40:=145) (t41:=388) (t42:=389) (t43:=390) (a44:=146) (t45:=392) (a46:=147) (t47:=394) (t48:=395) (t49:=396) (a50:=148) (t51:=398) (t52:=399) (a53:=149) (t54:=401) (t55:=402) (t56:=403) (a57:=150) (a58:=144) (h59:=PySem.PyData.keyHash w.params "number") (h60:=PySem.PyData.keyHash w.params "pick") (h61:=PySem.PyData.keyHash w.params "load") (h62:=PySem.PyData.keyHash w.params "take") (h63:=PySem.PyData.keyHash w.params "store") (h64:=PySem.PyData.keyHash w.params "put") (t65:=411) (t66:=412) (a67:=151) (t68:=414) (t69:=415) (a70:=152) (t71:=505) KX G hmg
   (KK.p _ 78 8 "is_whole" (.str "lanepacks.words" 264))
   (KK.p _ 85 9 "plus" (.str "lanepacks.words" 264))
   (KK.p _ 92 10 "minus" (.str "lanepacks.words" 264))
   (KK.p _ 99 11 "times" (.str "lanepacks.words" 264))
   (KK.p _ 106 12 "least" (.str "lanepacks.words" 264))
   (KK.p _ 113 13 "most" (.str "lanepacks.words" 264))
   (KK.p _ 120 14 "less" (.str "lanepacks.words" 264))
   (KK.p _ 127 15 "over" (.str "lanepacks.words" 264))
   (KK.p _ 134 16 "pick" (.str "lanepacks.words" 264))
   (KK.p _ 142 18 "done" (.str "lanepacks.words" 264))
   (KK.p _ 159 27 "parts_of" (.str "lanepacks.blocks" 374))
   (KK.p _ 166 28 "makes_word" (.str "lanepacks.blocks" 374))
   (KK.p _ 173 29 "place_of" (.str "lanepacks.blocks" 374))
   (KK.p _ 178 30 "names_of" (.str "lanepacks.blocks" 374))
   (KK.p _ 185 31 "may_name" (.str "lanepacks.blocks" 374))
   (KK.p _ 192 32 "fits" (.str "lanepacks.blocks" 374))
   (KK.p _ 197 33 "is_row" (.str "lanepacks.blocks" 374))
   (KK.p _ 204 34 "is_block" (.str "lanepacks.blocks" 374))
   (KK.p _ 211 35 "row_at" (.str "lanepacks.blocks" 374))
   (KK.p _ 218 36 "makes" (.str "lanepacks.blocks" 374))
   (KK.p _ 225 37 "named" (.str "lanepacks.blocks" 374))
   (KK.p _ 230 40 "is_cells" (.str "lanepacks.running" 503))
   (KK.p _ 237 41 "touches" (.str "lanepacks.running" 503))
   (KK.p _ 244 42 "do_on_cell" (.str "lanepacks.running" 503))
   (by kernel_rfl)
   (by kernel_rfl)
   (by kernel_rfl)
   (by kernel_rfl)
   (by kernel_rfl)
   (KK.p _ 257 44 "do_rows" (.str "lanepacks.running" 503))
   (KK.p _ 264 45 "check_run" (.str "lanepacks.running" 503))
   (KK.p _ 271 46 "run" (.str "lanepacks.running" 503))
   (KK.p _ 278 47 "values" (.str "lanepacks.running" 503))
   (KK.p _ 285 49 "_law_cell_at" (.str "law_lanepacks_k56_whole_values_by_names" 580))
   (KK.p _ 292 50 "_law_mixed" (.str "law_lanepacks_k56_whole_values_by_names" 580))
   (KK.p _ 299 51 "_law_draw" (.str "law_lanepacks_k56_whole_values_by_names" 580))
   (KK.p _ 306 52 "_law_pick" (.str "law_lanepacks_k56_whole_values_by_names" 580))
   (KK.p _ 313 53 "_law_place" (.str "law_lanepacks_k56_whole_values_by_names" 580))
   (KK.p _ 318 54 "_law_row" (.str "law_lanepacks_k56_whole_values_by_names" 580))
   (KK.p _ 332 56 "_law_next" (.str "law_lanepacks_k56_whole_values_by_names" 580))
   (KK.p _ 325 55 "_law_rows" (.str "law_lanepacks_k56_whole_values_by_names" 580))
   (KK.p _ 349 59 "_law_names" (.str "law_lanepacks_k56_whole_values_by_names" 580))
   (KK.p _ 354 60 "_law_may" (.str "law_lanepacks_k56_whole_values_by_names" 580))
   (KK.p _ 359 61 "_law_must" (.str "law_lanepacks_k56_whole_values_by_names" 580))
   (KK.p _ 364 62 "_law_mixed_order" (.str "law_lanepacks_k56_whole_values_by_names" 580))
   (KK.p _ 369 63 "_law_renamed" (.str "law_lanepacks_k56_whole_values_by_names" 580))
   (KK.p _ 337 57 "_law_block" (.str "law_lanepacks_k56_whole_values_by_names" 580))
   (KK.p _ 342 58 "_law_cells" (.str "law_lanepacks_k56_whole_values_by_names" 580))
   (by kernel_rfl)
   (by kernel_rfl)
   (by kernel_rfl)
   (by kernel_rfl)
   (by kernel_rfl)
   (by kernel_rfl)
   (by kernel_rfl)
   (by kernel_rfl)
   (by kernel_rfl)
   (by kernel_rfl)
   (by kernel_rfl)
   (by kernel_rfl)
   (by kernel_rfl)
   (by kernel_rfl)
   (by kernel_rfl)
   (by kernel_rfl)
   (by kernel_rfl)
   (by kernel_rfl)
   (by kernel_rfl)
   (by kernel_rfl)
   (by kernel_rfl)
   (by kernel_rfl)
   (by kernel_rfl)
   (by decide)
   (by kernel_rfl)
   (by kernel_rfl)
   (by kernel_rfl)
   (by kernel_rfl)
   (by kernel_rfl)
   (by kernel_rfl)
   (by kernel_rfl)
   (by kernel_rfl)
   (by kernel_rfl)
   (by kernel_rfl)
   (by kernel_rfl)
   (by kernel_rfl)
   (by kernel_rfl)
   (by decide)
   (by kernel_rfl)
   (by kernel_rfl)
   (by kernel_rfl)
   (by kernel_rfl)
   (by kernel_rfl)
   (by kernel_rfl)
end
