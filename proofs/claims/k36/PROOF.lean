import PyProof.Rows.All
import KE.KFromBytes
import KE.KTab
import KE.KIsAll
import KE.KDictOf
import KE.KEqDeep
import KE.KItem
import KE.KUnpackStar
import Wide.FinOn
import Wide.Line
import PySem.Challenge.RW_lanepacks_k36_whole_reach
set_option Elab.async false
set_option linter.all false
set_option maxRecDepth 100000
set_option maxHeartbeats 4000000
namespace RR
open PySem
def top (i : Nat) : Stmt := PySem.Challenge.pw_lanepacks_k36_whole_reach.main.body.getD i (.Pass ⟨0,0,0,0⟩)
end RR
namespace KK
open PySem PySem.W PySem.Calls PyProof.Rows
def dA (s : Stmt) : Arguments := match s with
 | .FunctionDef _ a _ _ _ _ _ _ _ _ => a
 | _ => ⟨[],[],none,[],[],none,[]⟩
def dB (s : Stmt) : List Stmt := match s with
 | .FunctionDef _ _ b _ _ _ _ _ _ _ => b
 | _ => []
def dS (s : Stmt) : Scope := match s with
 | .FunctionDef _ _ _ _ _ _ c _ _ _ => c
 | _ => { kind := .function,names := [],isGenerator := false,isCoroutine := false }
abbrev s (x : Str) (t : Nat) : Value := .str x t
abbrev e (P : Params) (x : Str) (t : Nat) (v : Value) : DictEntry := ⟨PyData.keyHash P x,s x t,v⟩
abbrev f (a i : Nat) (n : Str) (d m : Value) : Nat × Obj := (a,⟨.type "function",none,.func (fnOf n n (dA (RR.top i)) (dB (RR.top i)) (dS (RR.top i)) d .none .none m none (.ref (a - 1)) .none),#[]⟩)
abbrev co (a : Nat) (n : Str) (t : Nat) (l k : Int) (u : Nat) (x y z v : Value) : Nat × Obj := (a,⟨.type "code",none,.fields #[s n t,s n (t + 1),s "/claim/cut.py" (t + 2),.int l 0,.int k 0,.int 0 0,.int 0 0,.int 3 0,x,.bool true,.int 181 0,y,.none,z,v,.ref (a - 1),.int u 0,.int l 0,s "/claim/cut.py" (u + 1)],#[]⟩)
abbrev c (a : Nat) (n : Str) (t : Nat) (l k : Int) (u : Nat) : Nat × Obj := co a n t l k u (.ref (a - 5)) (.ref (a - 4)) (.ref (a - 3)) (.ref (a - 2))
abbrev b (a : Nat) (n : Str) (t : Nat) (l k : Int) (u : Nat) : Nat × Obj := co a n t l k u (.ref (a - 3)) (.ref (a - 2)) .none .none
noncomputable def K (P : Params) : Frag := [(3,⟨.type "dict",none,.dict #[e P "__name__" 165 (s "law_lanepacks_k36_whole_reach" 420),e P "__doc__" 166 (.none),e P "__package__" 167 (.none),e P "__loader__" 168 (.builtin "__main__.__loader__#opaque"),e P "__spec__" 169 (.none),e P "__annotations__" 170 (.ref 6),e P "__builtins__" 171 (.ref 4),e P "__file__" 173 (s "/claim/cut.py" 172),e P "__cached__" 174 (.none),e P "PackError" 206 (.ref 24),e P "NoLoop" 222 (.ref 37),e P "MOST_WORD" 226 (.int 999 225),e P "DEEDS" 234 (.ref 40),e P "is_whole" 243 (.ref 47),e P "MOST_SURE" 247 (.int 64 246),e P "MOST_PLACE" 249 (.int 63 248),e P "DEED_PARTS" 252 (.ref 48),e P "OTHER_PARTS" 278 (.ref 49),e P "READERS" 281 (.ref 56),e P "WRITERS" 284 (.ref 57),e P "parts_of" 291 (.ref 64),e P "makes_word" 298 (.ref 71),e P "place_of" 305 (.ref 78),e P "may_name" 313 (.ref 85),e P "fits" 322 (.ref 92),e P "is_row" 328 (.ref 97),e P "writes" 337 (.ref 104),e P "MOST_TURNS" 341 (.int 8 340),e P "MOST_LOOP_ROWS" 343 (.int 8 342),e P "MOST_STEP" 345 (.int 9 344),e P "place_in" 355 (.ref 111),e P "in_turn" 364 (.ref 118),e P "is_stride" 372 (.ref 125),e P "is_last" 380 (.ref 132),e P "is_loop_row" 390 (.ref 139),e P "are_loop_rows" 396 (.ref 144),e P "is_loop" 406 (.ref 151),e P "check_loop" 413 (.ref 158),e P "reach" 419 (.ref 163),e P "_law_cell_at" 431 (.ref 170),e P "_law_mixed" 441 (.ref 177),e P "_law_draw" 450 (.ref 184),e P "_law_pick" 459 (.ref 191),e P "_law_same_number" 467 (.ref 198),e P "_law_place" 478 (.ref 205),e P "_law_row" 484 (.ref 210),e P "_law_loop" 501 (.ref 217),e P "_law_at_turn" 509 (.ref 224),e P "law" 525 (.ref 231)] 49,#[]⟩),
 (40,⟨.type "tuple",none,.seq #[s "plus" 227,s "minus" 228,s "times" 229,s "least" 230,s "most" 231,s "less" 232,s "over" 233] 0,#[]⟩),
 f 47 6 "is_whole" (.none) (s "lanepacks.words" 223),
 c 46 "is_whole" 235 9 3 241,
 (48,⟨.type "tuple",none,.seq #[s "row" 250,s "row" 251] 0,#[]⟩),
 (49,⟨.type "dict",none,.dict #[e P "number" 253 (.ref 50),e P "pick" 255 (.ref 51),e P "load" 259 (.ref 52),e P "take" 261 (.ref 53),e P "store" 265 (.ref 54),e P "put" 268 (.ref 55)] 6,#[]⟩),
 (50,⟨.type "tuple",none,.seq #[s "word" 254] 0,#[]⟩),
 (51,⟨.type "tuple",none,.seq #[s "row" 256,s "row" 257,s "row" 258] 0,#[]⟩),
 (52,⟨.type "tuple",none,.seq #[s "place" 260] 0,#[]⟩),
 (53,⟨.type "tuple",none,.seq #[s "place" 262,s "row" 263,s "row" 264] 0,#[]⟩),
 (54,⟨.type "tuple",none,.seq #[s "place" 266,s "row" 267] 0,#[]⟩),
 (55,⟨.type "tuple",none,.seq #[s "place" 269,s "row" 270,s "row" 271] 0,#[]⟩),
 (56,⟨.type "tuple",none,.seq #[s "load" 279,s "take" 280] 0,#[]⟩),
 (57,⟨.type "tuple",none,.seq #[s "store" 282,s "put" 283] 0,#[]⟩),
 f 64 14 "parts_of" (.none) (s "lanepacks.blocks" 244),
 c 63 "parts_of" 285 20 1 289,
 f 71 15 "makes_word" (.none) (s "lanepacks.blocks" 244),
 c 70 "makes_word" 292 24 1 296,
 f 78 16 "place_of" (.none) (s "lanepacks.blocks" 244),
 c 77 "place_of" 299 26 1 303,
 f 85 17 "may_name" (.none) (s "lanepacks.blocks" 244),
 c 84 "may_name" 306 28 2 311,
 f 92 18 "fits" (.none) (s "lanepacks.blocks" 244),
 c 91 "fits" 314 30 3 320,
 f 97 19 "is_row" (.none) (s "lanepacks.blocks" 244),
 b 96 "is_row" 323 36 2 326,
 f 104 21 "writes" (.none) (s "lanepacks.orders" 329),
 c 103 "writes" 331 45 1 335,
 f 111 26 "place_in" (.none) (s "lanepacks.loops" 338),
 c 110 "place_in" 346 51 2 353,
 f 118 27 "in_turn" (.none) (s "lanepacks.loops" 338),
 c 117 "in_turn" 356 54 2 362,
 f 125 28 "is_stride" (.none) (s "lanepacks.loops" 338),
 c 124 "is_stride" 365 57 2 370,
 f 132 29 "is_last" (.none) (s "lanepacks.loops" 338),
 c 131 "is_last" 373 63 2 378,
 f 139 30 "is_loop_row" (.none) (s "lanepacks.loops" 338),
 c 138 "is_loop_row" 381 65 4 388,
 f 144 31 "are_loop_rows" (.none) (s "lanepacks.loops" 338),
 b 143 "are_loop_rows" 391 73 2 394,
 f 151 32 "is_loop" (.none) (s "lanepacks.loops" 338),
 c 150 "is_loop" 397 80 1 404,
 f 158 33 "check_loop" (.none) (s "lanepacks.loops" 338),
 c 157 "check_loop" 407 89 1 411,
 f 163 34 "reach" (.none) (s "lanepacks.loops" 338),
 b 162 "reach" 414 92 1 417,
 f 170 36 "_law_cell_at" (.none) (s "law_lanepacks_k36_whole_reach" 420),
 c 169 "_law_cell_at" 422 100 2 429,
 f 177 37 "_law_mixed" (.none) (s "law_lanepacks_k36_whole_reach" 420),
 c 176 "_law_mixed" 432 109 3 439,
 f 184 38 "_law_draw" (.none) (s "law_lanepacks_k36_whole_reach" 420),
 c 183 "_law_draw" 442 112 3 448,
 f 191 39 "_law_pick" (.none) (s "law_lanepacks_k36_whole_reach" 420),
 c 190 "_law_pick" 451 115 3 457,
 f 198 40 "_law_same_number" (.none) (s "law_lanepacks_k36_whole_reach" 420),
 c 197 "_law_same_number" 460 117 2 465,
 f 205 41 "_law_place" (.none) (s "law_lanepacks_k36_whole_reach" 420),
 c 204 "_law_place" 468 119 5 476,
 f 210 42 "_law_row" (.none) (s "law_lanepacks_k36_whole_reach" 420),
 b 209 "_law_row" 479 122 5 482,
 f 217 43 "_law_loop" (.none) (s "law_lanepacks_k36_whole_reach" 420),
 c 216 "_law_loop" 485 140 2 499,
 f 224 44 "_law_at_turn" (.none) (s "law_lanepacks_k36_whole_reach" 420),
 c 223 "_law_at_turn" 502 160 2 507,
 f 231 45 "law" (.none) (s "law_lanepacks_k36_whole_reach" 420),
 c 230 "law" 510 164 1 523]
noncomputable def A : List Nat := [3,40,47,46,48,49,50,51,52,53,54,55,56,57,64,63,71,70,78,77,85,84,92,91,97,96,104,103,111,110,118,117,125,124,132,131,139,138,144,143,151,150,158,157,163,162,170,169,177,176,184,183,191,190,198,197,205,204,210,209,217,216,224,223,231,230]
noncomputable def view : Program := { PySem.Challenge.pw_lanepacks_k36_whole_reach with main := { PySem.Challenge.pw_lanepacks_k36_whole_reach.main with body := [1,2,4,5,6,8,9,10,11,12,13,14,15,16,17,18,19,21,23,24,25,26,27,28,29,30,31,32,33,34,36,37,38,39,40,41,42,43,44,45].map RR.top } }
abbrev lo : List Str := ["OTHER_PARTS"]
theorem kA (P : Params) : A = (K P).map (·.1) := by kernel_rfl
noncomputable def X (s : Shared) : Bool := xlAt view [] s && recOk (RowW.records (OpenRow.toRowW PySem.Challenge.rw_lanepacks_k36_whole_reach.row)) s
noncomputable abbrev H : Hook := kHook K A kA
abbrev pr : Program := PySem.Challenge.rw_lanepacks_k36_whole_reach.row.prog
abbrev go (w : World) (b : Bool) : Option Shared := openEnds treeTable pr (w.withFollow "special-get-raises" b) 3132
noncomputable abbrev fA (s : Shared) := seen ((recsOf view).map (·.name)) (ownsOf view) [] { s with gens := #[] }
noncomputable abbrev fB (s : Shared) := (s.heap.bltView,tabsOk view s)
noncomputable abbrev fC (s : Shared) : Bool := s.heap.keysOk (looseW view lo) ((recsOf view).map (·.name)) ((litsOf view).map (·.1)) ((clssOf view (looseW view lo)).map (·.name)) && s.heap.accountedOkI (importedModules pr.main.body) && s.heap.isNs mainGlobals && s.heap.isNs builtinsNs && tablesOk view s.heap && X s && (if true then s.gens.size == 0 else !leftWithCleanup s.gens)
noncomputable abbrev fD (s : Shared) := (pinSeenD view (drecsOf view) s,plainSeenE view (looseW view lo) s,plainSeenD view lo s,wideSeen view s,clsSeenW view lo s,H.obs s)
set_option maxRecDepth 100000 in
set_option maxHeartbeats 0 in
theorem rAf (w : World) : (go w false).map fA = some (expectedOf view) := by kernel_rfl
set_option maxRecDepth 100000 in
set_option maxHeartbeats 0 in
theorem rBf (w : World) : (go w false).map fB = some ((bltViewBooted,true)) := by kernel_rfl
set_option maxRecDepth 100000 in
set_option maxHeartbeats 0 in
theorem rCf (w : World) : (go w false).map fC = some (true) := by kernel_rfl
set_option maxRecDepth 100000 in
set_option maxHeartbeats 0 in
theorem rDf (w : World) : (go w false).map fD = some ((pinGoodD (drecsOf view),plainGoodE view (looseW view lo),plainGoodD view lo,wideGood view,clsGoodW view lo,H.val (w.withFollow "special-get-raises" false))) := by kernel_rfl
set_option maxRecDepth 100000 in
set_option maxHeartbeats 0 in
theorem rAt (w : World) : (go w true).map fA = some (expectedOf view) := by kernel_rfl
set_option maxRecDepth 100000 in
set_option maxHeartbeats 0 in
theorem rBt (w : World) : (go w true).map fB = some ((bltViewBooted,true)) := by kernel_rfl
set_option maxRecDepth 100000 in
set_option maxHeartbeats 0 in
theorem rCt (w : World) : (go w true).map fC = some (true) := by kernel_rfl
set_option maxRecDepth 100000 in
set_option maxHeartbeats 0 in
theorem rDt (w : World) : (go w true).map fD = some ((pinGoodD (drecsOf view),plainGoodE view (looseW view lo),plainGoodD view lo,wideGood view,clsGoodW view lo,H.val (w.withFollow "special-get-raises" true))) := by kernel_rfl
theorem jn {o : Option Shared} {v : H.α} (ha : o.map fA = some (expectedOf view)) (hb : o.map fB = some (bltViewBooted,true)) (hc : o.map fC = some true) (hd : o.map fD = some (pinGoodD (drecsOf view),plainGoodE view (looseW view lo),plainGoodD view lo,wideGood view,clsGoodW view lo,v)) :
  o.map (fun s => (openSeen view lo (importedModules pr.main.body) X true s,H.obs s)) = some (openGood view lo,v) := by
 cases o with
 | none => cases ha
 | some s =>
  have ea : fA s = _ := Option.some.inj ha
  have eb : fB s = _ := Option.some.inj hb
  have ec : fC s = _ := Option.some.inj hc
  have ed : fD s = _ := Option.some.inj hd
  obtain ⟨b1,b2⟩ := Prod.mk.inj eb
  obtain ⟨d1,ed⟩ := Prod.mk.inj ed
  obtain ⟨d2,ed⟩ := Prod.mk.inj ed
  obtain ⟨d3,ed⟩ := Prod.mk.inj ed
  obtain ⟨d4,ed⟩ := Prod.mk.inj ed
  obtain ⟨d5,d6⟩ := Prod.mk.inj ed
  show some ((fA s,s.heap.bltView,fC s,tabsOk view s,pinSeenD view (drecsOf view) s,plainSeenE view (looseW view lo) s,plainSeenD view lo s,wideSeen view s,clsSeenW view lo s),H.obs s) = _
  rw [ea,b1,ec,b2,d1,d2,d3,d4,d5,d6]
  rfl
theorem hl : LeftO pr view lo X H.obs H.val 3132 := fun w => byRow2 "special-get-raises" (P := fun w => (openEnds treeTable pr w 3132).map (fun s => (openSeen view lo (importedModules pr.main.body) X true s,H.obs s)) = some (openGood view lo,H.val w)) (fun w => jn (rAf w) (rBf w) (rCf w) (rDf w)) (fun w => jn (rAt w) (rBt w) (rCt w) (rDt w)) w
set_option maxRecDepth 100000 in
set_option maxHeartbeats 0 in
theorem said : PySem.Challenge.rw_lanepacks_k36_whole_reach.wellSaid = true := by kernel_rfl
end KK
namespace L2
open PySem PySem.Spec PyProof.Rows
abbrev Key := Sum Int Str
def keyIs : Key -> Value -> Bool
 | .inl k,v => Value.isInt k v
 | .inr x,v => Value.isStrOf x v
def keyH (w : World) : Key -> Int
 | .inl k => hashInt k
 | .inr x => hashStr w x
theorem keyIs_shape : ∀ {k : Key} {v : Value},keyIs k v = true -> (∃ i t,k = Sum.inl i /\ v = Value.int i t) ∨ (∃ x t,k = Sum.inr x /\ v = Value.str x t)
 | .inl i,v,h => by
  obtain ⟨t,e⟩ := Value.isInt_shape (k := i) (v := v) h
  exact .inl ⟨i,t,rfl,e⟩
 | .inr x,v,h => by
  obtain ⟨t,e⟩ := Value.isStrOf_shape (x := x) (v := v) h
  exact .inr ⟨x,t,rfl,e⟩
theorem keyIs_int (i : Int) (t : Tok) : keyIs (.inl i) (.int i t) = true := by simp [keyIs,Value.isInt]
theorem keyIs_str (x : Str) (t : Tok) : keyIs (.inr x) (.str x t) = true := by simp [keyIs,Value.isStrOf]
theorem key_ll (a b : Int) : decide ((Sum.inl a : Key) = Sum.inl b) = (a == b) := by
 by_cases e : a = b
 ·subst e;simp
 ·have h : ¬ (Sum.inl a : Key) = Sum.inl b := fun q => e (Sum.inl.inj q)
  rw [decide_eq_false h]
  exact (beq_eq_false_iff_ne.mpr e).symm
theorem key_rr (a b : Str) : decide ((Sum.inr a : Key) = Sum.inr b) = decide (a = b) := by
 by_cases e : a = b
 ·subst e;simp
 ·have h : ¬ (Sum.inr a : Key) = Sum.inr b := fun q => e (Sum.inr.inj q)
  rw [decide_eq_false h,decide_eq_false e]
theorem key_lr (a : Int) (b : Str) : decide ((Sum.inl a : Key) = Sum.inr b) = false := decide_eq_false (fun q => nomatch q)
theorem key_rl (a : Str) (b : Int) : decide ((Sum.inr a : Key) = Sum.inl b) = false := decide_eq_false (fun q => nomatch q)
def mixKind (prog : Program) (w : World) : PySem.KeyKind prog w Key where
 is := keyIs
 hash := keyH w
 inj := fun v a b ha hb => by
  rcases keyIs_shape ha with ⟨i,t,rfl,rfl⟩ | ⟨x,t,rfl,rfl⟩
  ·rcases keyIs_shape hb with ⟨j,u,rfl,e⟩ | ⟨y,u,rfl,e⟩
   ·injection e with e1 _;rw [e1]
   ·exact nomatch e
  ·rcases keyIs_shape hb with ⟨j,u,rfl,e⟩ | ⟨y,u,rfl,e⟩
   ·exact nomatch e
   ·injection e with e1 _;rw [e1]
 byValue := fun k v h => by
  rcases keyIs_shape h with ⟨i,t,rfl,rfl⟩ | ⟨x,t,rfl,rfl⟩ <;> rfl
 pyHash := fun hv h => by
  rcases keyIs_shape hv with ⟨i,t,rfl,rfl⟩ | ⟨x,t,rfl,rfl⟩
  ·exact wpAny_pyHash_int h
  ·exact wpAny_pyHash_str h
 eqBool := fun hu hv h => by
  rcases keyIs_shape hu with ⟨i,t,rfl,rfl⟩ | ⟨x,t,rfl,rfl⟩
  ·rcases keyIs_shape hv with ⟨j,u,rfl,rfl⟩ | ⟨y,u,rfl,rfl⟩
   ·rw [key_ll] at h;exact wpAny_eqBool_int h
   ·rw [key_lr] at h;exact SeqAt.EqAt.int_str i t y u _ _ _ _ h
  ·rcases keyIs_shape hv with ⟨j,u,rfl,rfl⟩ | ⟨y,u,rfl,rfl⟩
   ·rw [key_rl] at h;exact SeqAt.EqAt.str_int x t j u _ _ _ _ h
   ·rw [key_rr] at h;exact wpAny_eqBool_str h
 «strs» := fun k x t v h => by
  rcases keyIs_shape h with ⟨i,u,rfl,e⟩ | ⟨y,u,rfl,e⟩
  ·exact nomatch e
  ·injection e with e1 _
   subst e1
   cases v <;> rfl
theorem mixKind_int (prog : Program) (w : World) (i : Int) (t : Tok) : (mixKind prog w).is (.inl i) (.int i t) = true := keyIs_int i t
theorem mixKind_str (prog : Program) (w : World) (x : Str) (t : Tok) : (mixKind prog w).is (.inr x) (.str x t) = true := keyIs_str x t
end L2
namespace L2
open PySem PySem.Spec PyProof.Rows
inductive V where
 | non | bl (b : Bool) | int (i : Int) | str (x : Str) | byt (b : Array UInt8) | flt (b : UInt64) | ref (a : Addr) | ty (n : String)
 deriving DecidableEq
def RelV : V -> Value -> Prop
 | .non,u => u = Value.none
 | .bl b,u => u = Value.bool b
 | .int i,u => ∃ t,u = Value.int i t
 | .str x,u => ∃ t,u = Value.str x t
 | .byt b,u => ∃ t,u = Value.bytes b t
 | .flt b,u => ∃ t,u = Value.float b t
 | .ref a,u => u = Value.ref a
 | .ty n,u => u = Value.type n
abbrev Vals : List V -> List Value -> Prop := Paired RelV
theorem Vals.length {xs : List V} {us : List Value} (r : Vals xs us) : xs.length = us.length := Paired.length r
theorem Vals.get : ∀ {xs : List V} {us : List Value} {i : Nat} {x : V},Vals xs us -> xs[i]? = some x -> ∃ u,us[i]? = some u /\ RelV x u
 | _,_,_,_,.nil,e => by simp at e
 | _,_,0,_,.cons r _,e => by simp at e;subst e;exact ⟨_,rfl,r⟩
 | _,_,i + 1,x,.cons _ t,e => by
  obtain ⟨u,h1,h2⟩ := Vals.get (i := i) (x := x) t (by simpa using e)
  exact ⟨u,by simpa using h1,h2⟩
theorem Vals.set {x : V} {u : Value} (r : RelV x u) : ∀ {xs : List V} {us : List Value} (i : Nat),Vals xs us -> Vals (xs.set i x) (us.set i u)
 | _,_,_,.nil => .nil
 | _,_,0,.cons _ t => .cons r t
 | _,_,i + 1,.cons q t => .cons q (Vals.set r i t)
theorem Vals.append : ∀ {xs ys : List V} {us ws : List Value},Vals xs us -> Vals ys ws -> Vals (xs ++ ys) (us ++ ws)
 | _,_,_,_,.nil,s => s
 | _,_,_,_,.cons r t,s => .cons r (Vals.append t s)
theorem Vals.take : ∀ {xs : List V} {us : List Value} (n : Nat),Vals xs us -> Vals (xs.take n) (us.take n)
 | _,_,0,_ => .nil
 | _,_,_ + 1,.nil => .nil
 | _,_,n + 1,.cons r t => .cons r (Vals.take n t)
theorem Vals.drop : ∀ {xs : List V} {us : List Value} (n : Nat),Vals xs us -> Vals (xs.drop n) (us.drop n)
 | _,_,0,r => r
 | _,_,_ + 1,.nil => .nil
 | _,_,n + 1,.cons _ t => Vals.drop n t
def RelO : Option V -> Option Value -> Prop
 | some v,some u => RelV v u
 | none,none => True
 | _,_ => False
def KV {κ : Type} : List (κ × V) -> List (κ × Value) -> Prop := Paired fun (p : κ × V) (q : κ × Value) => p.1 = q.1 /\ RelV p.2 q.2
def kV : Key -> V
 | .inl i => .int i
 | .inr x => .str x
inductive HO where
 | lst (xs : List V)
 | tup (xs : List V)
 | dK (kvs : List (Key × V)) | dT (kvs : List (List Key × V))
 | set (S : Int -> Bool) (n : Nat)
 | ins (C dx : Addr) (fs : List (Str × V))
 | own (x : Addr)
 | xd (fs : List (Str × V))
 | met (f x : Addr)
 | rng (lo hi : Int)
 | frz (o : Obj) (u : HO)
 | tbl (ps : Array Value)
 | ext (φ : Heap -> Prop)
abbrev Hp := Addr -> Option HO
def upd (H : Hp) (a : Addr) (o : HO) : Hp := fun b => if b = a then some o else H b
theorem upd_same {H : Hp} {a : Addr} {o : HO} : upd H a o a = some o := by unfold upd;rw [if_pos rfl]
theorem upd_ne {H : Hp} {a b : Addr} {o : HO} (h : b ≠ a) : upd H a o b = H b := by unfold upd;rw [if_neg h]
theorem ne_of {H : Hp} {a b : Addr} {o u : HO} (h : H a = some o) (h' : H b = some u) (d : o ≠ u) : a ≠ b := by
 intro e;subst e;rw [h] at h';exact d (Option.some.inj h')
theorem ne_of_none {H : Hp} {a b : Addr} {o : HO} (h : H a = some o) (h' : H b = none) : a ≠ b := by
 intro e;subst e;rw [h] at h';cases h'
section
variable (P : Program) (w : World)
def ObjOk (H : Hp) (h : Heap) (a : Addr) : HO -> Prop
 | .lst xs => xs.length <= sizeLine /\ ∃ (its : List Value) (n : Nat),Vals xs its /\ h.get? a = some { cls := .type "list",data := .seq its.toArray n }
 | .tup xs => xs.length <= sizeLine /\ ∃ its : List Value,Vals xs its /\ IsTup h a its.toArray
 | .dK kvs => kvs.length <= sizeLine /\ (a == sysModules) = false /\ ∃ vs,KV kvs vs /\ h.DictOf (mixKind P w) a vs
 | .dT kvs => kvs.length <= sizeLine /\ (a == sysModules) = false /\ ∃ xs : List (List Key × Addr × Value),
   Paired (fun (p : List Key × V) (q : List Key × Addr × Value) => p.1 = q.1 /\ H q.2.1 = some (.tup (p.1.map kV)) /\ RelV p.2 q.2.2) kvs xs ∧
   ∃ o es ep,h.get? a = some o /\ o.ExactDict /\ o.data = .dict es ep /\ es.toList = xs.map (entryOfKey (tupleKind (mixKind P w))) /\ (xs.map (·.1)).Nodup
 | .set S n => h.SetOf (intKind P w) a S n
 | .ins C dx fs => H dx = some (.own a) /\ fs.length <= 1000 /\ dx ≠ a /\ h.get? a = some (PySem.W.instObj C dx) ∧
   ∃ mA,h.Ns1 dx mA /\ (∀ f,RelO (fs.lookup f) (mA f)) /\ PySem.Within mA (fs.map (·.1))
 | .own _ => ∃ o,h.get? a = some o
 | .xd fs => ∃ mA,h.Ns1 a mA /\ ∀ f,RelO (fs.lookup f) (mA f)
 | .rng lo hi => ∃ t u v,h.get? a = some { cls := .type "range",data := .fields #[.int lo t,.int hi u,.int 1 v] }
 | .frz o u => h.get? a = some o /\ ObjOk H h a u
 | .tbl ps => h.get? a = some { cls := .none,data := .fields ps }
 | .met f x => h.get? a = some (PySem.W.methodObj (.ref f) (.ref x))
 | .ext φ => φ h /\ (∃ o,h.get? a = some o) /\ ∀ h1 h2 : Heap,φ h1 -> (∀ o,h1.get? a = some o -> h2.get? a = some o) -> φ h2
def HOk (H : Hp) (h : Heap) : Prop := ∀ a o,H a = some o -> ObjOk P w H h a o
end
section
variable {P : Program} {w : World} {H H' : Hp} {h h' : Heap} {a : Addr} {o : HO}
theorem ObjOk.lt (x : ObjOk P w H h a o) : a < h.objs.size := by
 cases o with
 | lst xs => obtain ⟨_,_,_,_,e⟩ := x;exact Heap.lt_size e
 | tup xs => obtain ⟨_,_,_,p⟩ := x;exact p.lt
 | dK kvs => obtain ⟨_,_,_,_,o,_,_,e,_⟩ := x;exact Heap.lt_size e
 | dT kvs => obtain ⟨_,_,_,_,o,_,_,e,_⟩ := x;exact Heap.lt_size e
 | set S n => obtain ⟨o,_,_,_,e,_⟩ := x;exact Heap.lt_size e
 | ins C dx fs => obtain ⟨_,_,_,e,_⟩ := x;exact Heap.lt_size e
 | own y => obtain ⟨_,e⟩ := x;exact Heap.lt_size e
 | xd fs => obtain ⟨_,⟨_,_,_,e,_⟩,_⟩ := x;exact Heap.lt_size e
 | rng lo hi => obtain ⟨_,_,_,e⟩ := x;exact Heap.lt_size e
 | frz ob u => obtain ⟨e,_⟩ := x;exact Heap.lt_size e
 | tbl ps => exact Heap.lt_size (show h.get? a = some _ from x)
 | met f y => exact Heap.lt_size (show h.get? a = some _ from x)
 | ext φ => obtain ⟨_,⟨_,e⟩,_⟩ := x;exact Heap.lt_size e
theorem Paired.mapP {α β : Type} {F G : α -> β -> Prop} : ∀ {l₁ : List α} {l₂ : List β},Paired F l₁ l₂ -> (∀ a b,F a b -> G a b) -> Paired G l₁ l₂
 | _,_,.nil,_ => .nil
 | _,_,.cons r t,f => .cons (f _ _ r) (Paired.mapP t f)
theorem ObjOk.stay (x : ObjOk P w H h a o) (k : ∀ b u,(b = a ∨ H b = some (.own a)) -> h.get? b = some u -> h'.get? b = some u)
  (ho : ∀ b,H b = some (.own a) -> H' b = some (.own a)) (ht : ∀ b xs,H b = some (.tup xs) -> H' b = some (.tup xs)) : ObjOk P w H' h' a o := by
 induction o with
 | lst xs => obtain ⟨z,its,n,r,e⟩ := x;exact ⟨z,its,n,r,k _ _ (.inl rfl) e⟩
 | tup xs => obtain ⟨z,its,r,ob,e,c⟩ := x;exact ⟨z,its,r,ob,k _ _ (.inl rfl) e,c⟩
 | dK kvs => obtain ⟨z,y,vs,r,ob,es,ep,e,c⟩ := x;exact ⟨z,y,vs,r,ob,es,ep,k _ _ (.inl rfl) e,c⟩
 | dT kvs =>
  obtain ⟨z,y,xs,r,ob,es,ep,e,c⟩ := x
  exact ⟨z,y,xs,Paired.mapP r fun p q z => ⟨z.1,ht _ _ z.2.1,z.2.2⟩,ob,es,ep,k _ _ (.inl rfl) e,c⟩
 | set S n => obtain ⟨ob,es,ep,t,e,c⟩ := x;exact ⟨ob,es,ep,t,k _ _ (.inl rfl) e,c⟩
 | ins C dx fs =>
  obtain ⟨d,z,ne,e,mA,⟨od,es,ep,e2,c⟩,r⟩ := x
  exact ⟨ho _ d,z,ne,k _ _ (.inl rfl) e,mA,⟨od,es,ep,k _ _ (.inr d) e2,c⟩,r⟩
 | own y => obtain ⟨ob,e⟩ := x;exact ⟨ob,k _ _ (.inl rfl) e⟩
 | xd fs => obtain ⟨mA,⟨od,es,ep,e,c⟩,r⟩ := x;exact ⟨mA,⟨od,es,ep,k _ _ (.inl rfl) e,c⟩,r⟩
 | rng lo hi => obtain ⟨t,u,v,e⟩ := x;exact ⟨t,u,v,k _ _ (.inl rfl) e⟩
 | frz ob u ih => obtain ⟨e,q⟩ := x;exact ⟨k _ _ (.inl rfl) e,ih q⟩
 | tbl ps =>
  have e : h.get? a = some { cls := .none,data := .fields ps } := x
  show h'.get? a = some { cls := .none,data := .fields ps }
  exact k a _ (.inl rfl) e
 | met f y =>
  have e : h.get? a = some (PySem.W.methodObj (.ref f) (.ref y)) := x
  show h'.get? a = some (PySem.W.methodObj (.ref f) (.ref y))
  exact k a _ (.inl rfl) e
 | ext φ => obtain ⟨p,⟨o,e⟩,st⟩ := x;exact ⟨st _ _ p fun o q => k _ _ (.inl rfl) q,⟨o,k _ _ (.inl rfl) e⟩,st⟩
theorem HOk.lt (x : HOk P w H h) (e : H a = some o) : a < h.objs.size := (x a o e).lt
theorem HOk.fresh (x : HOk P w H h) (e : h.objs.size <= a) : H a = none := by
 cases q : H a with
 | none => rfl
 | some u => exact absurd (Nat.lt_of_lt_of_le (x.lt q) e) (Nat.lt_irrefl _)
theorem HOk.kept (x : HOk P w H h) (k : ∀ b u,h.get? b = some u -> h'.get? b = some u) : HOk P w H h' := fun a o e =>
 (x a o e).stay (fun b u _ q => k b u q) (fun _ q => q) fun _ _ q => q
theorem HOk.laid (x : HOk P w H h) (k : ∀ b u,h.get? b = some u -> h'.get? b = some u) (hp : h.objs.size <= a) (new : ObjOk P w (upd H a o) h' a o) : HOk P w (upd H a o) h' := fun b u e => by
 have hn := x.fresh hp
 by_cases hb : b = a
 ·subst hb;rw [upd_same] at e;cases e;exact new
 ·rw [upd_ne hb] at e
  exact (x b u e).stay (fun c v _ q => k c v q) (fun c q => by rw [upd_ne (ne_of_none q hn)];exact q) fun c xs q => by rw [upd_ne (ne_of_none q hn)];exact q
end
def Rd (H : Hp) (a : Addr) (u : HO) : Prop := H a = some u ∨ ∃ o,H a = some (.frz o u)
theorem Rd.ok {P : Program} {w : World} {H : Hp} {h : Heap} {a : Addr} {u : HO} (r : Rd H a u) (x : HOk P w H h) : ObjOk P w H h a u := by
 rcases r with r | ⟨o,r⟩
 ·exact x a u r
 ·obtain ⟨_,q⟩ := x a _ r
  exact q
def Mut : Option HO -> Prop
 | some (.lst _) => True
 | some (.dK _) => True
 | some (.dT _) => True
 | some (.set _ _) => True
 | some (.ins _ _ _) => True
 | some (.ext _) => True
 | _ => False
section
variable {P : Program} {w : World} {H : Hp} {h h' : Heap} {x e : Addr} {o' : HO}
theorem HOk.write (ok : HOk P w H h) (mu : Mut (H x)) (he : e = x ∨ H e = some (.own x)) (k : ∀ b u,b ≠ e -> h.get? b = some u -> h'.get? b = some u) (heo : ∃ u,h'.get? e = some u)
  (new : ObjOk P w (upd H x o') h' x o') : HOk P w (upd H x o') h' := fun b u q => by
 have nown : ∀ c y,H c = some (.own y) -> c ≠ x := fun c y r z => by subst z;rw [r] at mu;exact mu
 have ntup : ∀ c xs,H c = some (.tup xs) -> c ≠ x := fun c xs r z => by subst z;rw [r] at mu;exact mu
 by_cases hb : b = x
 ·subst hb;rw [upd_same] at q;cases q;exact new
 ·rw [upd_ne hb] at q
  by_cases hbe : b = e
  ·have q' : H b = some (.own x) := by
    rcases he with z | z
    ·exact absurd (hbe.trans z) hb
    ·rw [hbe];exact z
   rw [q] at q';cases q'
   obtain ⟨v,hv⟩ := heo
   exact ⟨v,by rw [hbe];exact hv⟩
  ·refine (ok b u q).stay (fun c v hc r => k c v ?_ r) (fun c r => by rw [upd_ne (nown c b r)];exact r) fun c xs r => by rw [upd_ne (ntup c xs r)];exact r
   rcases hc with rfl | hc
   ·exact hbe
   ·rintro rfl
    rcases he with z | z
    ·exact nown c b hc z
    ·rw [hc] at z;cases z;exact hb rfl
end
structure Un (fs ex : List Addr) (H H' : Hp) (h h' : Heap) : Prop where
 keep : ∀ b o,h.get? b = some o -> H b = none -> b ∉ fs -> b ∉ ex -> h'.get? b = some o
 slot : ∀ b o,h.get? b = some o -> H b = none -> b ∈ fs -> b ∉ ex -> ∃ sl,h'.get? b = some { o with slots := sl }
 free : ∀ b o,h.get? b = some o -> H b = none -> b ∉ ex -> H' b = none
 there : ∀ b o,h.get? b = some o -> b ∉ ex -> ∃ o',h'.get? b = some o'
 tups : ∀ b xs,H b = some (.tup xs) -> H' b = some (.tup xs)
 frzs : ∀ b o u,H b = some (.frz o u) -> H' b = some (.frz o u)
 tbls : ∀ b ps,H b = some (.tbl ps) -> ∃ more,H' b = some (.tbl (ps ++ more))
section
variable {fs fs' ex ex' : List Addr} {H H1 H2 : Hp} {h h1 h2 h' : Heap} {a x e : Addr} {o : HO}
theorem Un.any (u : Un fs ex H H1 h h1) {b : Addr} {ob : Obj} (q : h.get? b = some ob) (n : H b = none) (hx : b ∉ ex) : ∃ sl,h1.get? b = some { ob with slots := sl } := by
 by_cases hb : b ∈ fs
 ·exact u.slot b ob q n hb hx
 ·exact ⟨ob.slots,u.keep b ob q n hb hx⟩
theorem Un.kept (k : ∀ b u,h.get? b = some u -> h'.get? b = some u) : Un fs ex H H h h' :=
 ⟨fun b ob q _ _ _ => k b ob q,fun b ob q _ _ _ => ⟨ob.slots,k b ob q⟩,fun _ _ _ n _ => n,fun b ob q _ => ⟨ob,k b ob q⟩,fun _ _ q => q,fun _ _ _ q => q,fun _ ps q => ⟨#[],by rw [q];simp⟩⟩
theorem Un.refl : Un fs ex H H h h := Un.kept fun _ _ q => q
theorem Un.laid (k : ∀ b u,h.get? b = some u -> h'.get? b = some u) (hp : h.objs.size <= a) (hn : H a = none) : Un fs ex H (upd H a o) h h' where
 keep := fun b u q _ _ _ => k b u q
 slot := fun b u q _ _ _ => ⟨u.slots,k b u q⟩
 free := fun b u q n _ => by rw [upd_ne (Nat.ne_of_lt (Nat.lt_of_lt_of_le (Heap.lt_size q) hp))];exact n
 there := fun b u q _ => ⟨u,k b u q⟩
 tups := fun b xs q => by rw [upd_ne (ne_of_none q hn)];exact q
 frzs := fun b u xs q => by rw [upd_ne (ne_of_none q hn)];exact q
 tbls := fun b ps q => ⟨#[],by rw [upd_ne (ne_of_none q hn),q];simp⟩
theorem Un.write (mu : Mut (H x)) (he : e = x ∨ H e = some (.own x)) (k : ∀ b u,b ≠ e -> h.get? b = some u -> h'.get? b = some u) (heo : ∃ u,h'.get? e = some u) : Un fs ex H (upd H x o) h h' := by
 have hx : ∀ b,H b = none -> b ≠ x := fun b n z => by subst z;rw [n] at mu;exact mu
 have hb : ∀ b,H b = none -> b ≠ e := fun b n z => by
  subst z
  rcases he with r | r
  ·exact hx b n r
  ·rw [n] at r;cases r
 have hm : ∀ b u,H b = some u -> ¬ Mut (some u) -> b ≠ x := fun b u q nm z => by subst z;rw [q] at mu;exact nm mu
 refine ⟨fun b u q n _ _ => k b u (hb b n) q,fun b u q n _ _ => ⟨u.slots,k b u (hb b n) q⟩,fun b u q n _ => by rw [upd_ne (hx b n)];exact n,fun b u q _ => ?_,
  fun b xs q => by rw [upd_ne (hm b _ q fun z => z)];exact q,fun b u xs q => by rw [upd_ne (hm b _ q fun z => z)];exact q,fun b ps q => ⟨#[],by rw [upd_ne (hm b _ q fun z => z),q];simp⟩⟩
 by_cases hbe : b = e
 ·subst hbe;exact heo
 ·exact ⟨u,k b u hbe q⟩
end
def trk (h : Heap) (H : Hp) : List Addr := (List.range h.objs.size).filter fun a => (H a).isSome
def hidT (h : Heap) (H : Hp) : Heap := PySem.W.hideAll h (trk h H)
theorem hidT_size (h : Heap) (H : Hp) : (hidT h H).objs.size = h.objs.size := PySem.W.hideAll_size _ _
theorem hidT_get {h : Heap} {H : Hp} {b : Addr} {o : Obj} (e : h.get? b = some o) (n : H b = none) : (hidT h H).get? b = some o :=
 PySem.W.hideAll_get _ e fun hm => by
  have q : (H b).isSome = true := (List.mem_filter.mp hm).2
  rw [n] at q;simp at q
theorem of_hidT {h : Heap} {H : Hp} {b : Addr} {o : Obj} (e : (hidT h H).get? b = some o) : h.get? b = some o /\ H b = none := by
 have e' : h.get? b = some o := PySem.W.of_hideAll (trk h H) e
 refine ⟨e',?_⟩
 cases q : H b with
 | none => rfl
 | some x =>
  have hm : b ∈ trk h H := List.mem_filter.mpr ⟨List.mem_range.mpr (Heap.lt_size e'),by simp [q]⟩
  have z : (hidT h H).get? b = none := PySem.W.hideAll_none (trk h H) hm
  rw [z] at e;cases e
end L2
namespace L2
open PySem PySem.Spec PyProof.Rows
structure Mod (K : PySem.W.Frag) (mg : Str -> Option Value) (base : Heap) : Prop where
 kin : K.In base
 glob : base.Ns mainGlobals mg
 blt : ∃ mb,base.Ns builtinsNs mb /\ ∀ x : Str,x ≠ "__name__" -> mb x = bootBuiltins x
 nolimit : base.NoLimit
structure Cx where
 prog : Program
 w : World
 K : PySem.W.Frag
 mg : Str -> Option Value
 base : Heap
 A : Around
 N : List Str
 s₀ : Shared
 H₀ : Hp
 env : Env
 outer : List Env
 stack : List Env
 ex : List Addr
 fn : Str -> Bool
 calm : Bool
 pn : List (Addr × Obj)
 xe : Value -> Shared -> Prop
def frs (l : List Env) : List Addr := l.filterMap (·.frame)
abbrev Cx.fs (X : Cx) : List Addr := frs X.outer
def Vis (sc : Scope) (x : Str) : Prop := sc.names.lookup x = some .local ∨ sc.names.lookup x = some .cell ∨ sc.names.lookup x = some .free
def Loc (sc : Scope) (x : Str) : Prop := sc.names.lookup x = some .local ∨ sc.names.lookup x = some .cell
def Look (env : Env) (h : Heap) (m : Str -> Option Value) (x : Str) (u : Value) : Prop :=
 (env.kindOf x = some .local /\ m x = some u) ∨ ((env.kindOf x = some .cell ∨ env.kindOf x = some .free) /\ ∃ c,env.cells.lookup x = some c /\ h.IsCell c (some u))
structure Cx.Ok (X : Cx) : Prop where
 mod : Mod X.K X.mg X.base
 kind : X.env.scope.kind = .function
 glob : X.env.globals = mainGlobals
 blt : X.env.builtins = builtinsNs
 above : X.s₀.heap.objs.size <= X.env.locals
 inj : ∀ x y c,X.env.cells.lookup x = some c -> X.env.cells.lookup y = some c -> x = y
 has : ∀ x,(X.env.kindOf x = some .cell ∨ X.env.kindOf x = some .free) -> ∃ c,X.env.cells.lookup x = some c
 cab : ∀ x c,X.fn x = true -> X.env.cells.lookup x = some c -> X.s₀.heap.objs.size <= c
 hd : X.calm = true -> X.A.handled = none
 frames : X.A.frames = some X.stack
 stk : X.stack = X.outer ∨ (X.stack = X.env :: X.outer /\ X.env.frame = some X.env.locals)
 exf : ∀ b ∈ X.ex,b ≠ X.env.locals /\ ∀ x c,X.env.cells.lookup x = some c -> c ≠ b
 bs : ∀ b o,X.base.get? b = some o -> X.s₀.heap.get? b = some o /\ X.H₀ b = none
 bsz : X.base.objs.size <= X.s₀.heap.objs.size
 noex : ∀ b o,X.base.get? b = some o -> b ∉ X.ex
 exfs : ∀ b ∈ X.ex,b ∉ X.fs
 funs : X.s₀.heap.FunFrames X.base X.outer
 frf : ∀ b ∈ X.fs,X.H₀ b = none
structure Inv (X : Cx) (pins : List (Addr × Obj)) (σ : List (Option V)) (H : Hp) (s : Shared) : Prop where
 ok : X.Ok
 os : s.os = X.s₀.os
 bare : AllBare s.gens
 base : Un X.fs X.ex X.H₀ H X.s₀.heap s.heap
 loc : ∃ m,s.heap.Ns X.env.locals m /\ ∀ (i : Nat) (x : Str) (v : V),X.N[i]? = some x -> σ[i]? = some (some v) -> Vis X.env.scope x -> ∃ u,RelV v u /\ Look X.env s.heap m x u
 cell : ∀ x c,X.env.cells.lookup x = some c -> ∃ v,s.heap.IsCell c v
 free : H X.env.locals = none
 freeC : ∀ x c,X.env.cells.lookup x = some c -> H c = none
 pin : ∀ p ∈ X.pn ++ pins,s.heap.get? p.1 = some p.2 /\ H p.1 = none /\ p.1 ≠ X.env.locals /\ p.1 ∉ X.fs /\ ∀ v,p.2.data ≠ .cell v
 hok : HOk X.prog X.w H s.heap
 len : σ.length = X.N.length
section
variable {X : Cx} {pins : List (Addr × Obj)} {σ : List (Option V)} {H H' : Hp} {s : Shared} {h' : Heap}
theorem Cx.Ok.nofr (ok : X.Ok) {b : Addr} {o : Obj} (e : X.base.get? b = some o) : b ∉ X.fs := fun hb => by
 have := (ok.funs.mem hb).1
 rw [e] at this;cases this
theorem Inv.bs (I : Inv X pins σ H s) : ∀ b o,X.base.get? b = some o -> s.heap.get? b = some o /\ H b = none := fun b o e =>
 ⟨I.base.keep b o (I.ok.bs b o e).1 (I.ok.bs b o e).2 (I.ok.nofr e) (I.ok.noex b o e),I.base.free b o (I.ok.bs b o e).1 (I.ok.bs b o e).2 (I.ok.noex b o e)⟩
theorem Inv.bk (I : Inv X pins σ H s) : ∀ b o,X.base.get? b = some o -> s.heap.get? b = some o := fun b o e => (I.bs b o e).1
theorem Inv.mod (I : Inv X pins σ H s) : Mod X.K X.mg X.base := I.ok.mod
theorem Inv.kIn (I : Inv X pins σ H s) : X.K.In s.heap := I.ok.mod.kin.keeps I.bk
theorem Inv.lt (I : Inv X pins σ H s) : X.env.locals < s.heap.objs.size := let ⟨_,hn,_⟩ := I.loc;hn.lt
theorem Inv.sz (I : Inv X pins σ H s) : X.s₀.heap.objs.size <= s.heap.objs.size := Nat.le_trans I.ok.above (Nat.le_of_lt I.lt)
theorem Inv.nofs (I : Inv X pins σ H s) {a : Addr} (h : s.heap.objs.size <= a) : a ∉ X.fs := fun hb => by
 obtain ⟨_,o,ho,_⟩ := I.ok.funs.mem hb
 exact absurd (Nat.lt_of_lt_of_le (Heap.lt_size ho) (Nat.le_trans I.sz h)) (Nat.lt_irrefl _)
theorem Inv.cne (I : Inv X pins σ H s) : ∀ x c,X.env.cells.lookup x = some c -> c ≠ X.env.locals := fun x c e z => by
 obtain ⟨v,o,ho,hd⟩ := I.cell x c e
 obtain ⟨m,⟨o',es,ep,ho',hd',_⟩,_⟩ := I.loc
 rw [z,ho'] at ho;cases ho;rw [hd'] at hd;cases hd
theorem Inv.funs (I : Inv X pins σ H s) : s.heap.FunFrames X.base X.outer := by
 have all : ∀ (l : List Env),(∀ b ∈ frs l,b ∈ X.fs) -> X.s₀.heap.FunFrames X.base l -> s.heap.FunFrames X.base l := by
  intro l
  induction l with
  | nil => intro _ _;trivial
  | cons env r ih =>
   intro hs hl
   obtain ⟨hk,⟨L,o,hf,hn,ho,hd⟩,hr⟩ := hl
   have hL : L ∈ X.fs := hs L (by unfold frs;rw [List.filterMap_cons,hf];exact List.mem_cons_self)
   obtain ⟨sl,e⟩ := I.base.slot L o ho (I.ok.frf L hL) hL fun z => I.ok.exfs L z hL
   exact ⟨hk,⟨L,_,hf,hn,e,hd⟩,ih (fun b hb => hs b (by unfold frs;rw [List.filterMap_cons,hf];exact List.mem_cons_of_mem _ hb)) hr⟩
 exact all X.outer (fun _ hb => hb) I.ok.funs
theorem Inv.stack (I : Inv X pins σ H s) : s.heap.FunFrames X.base X.stack := by
 rcases I.ok.stk with e | ⟨e,hf⟩
 ·rw [e];exact I.funs
 ·rw [e]
  obtain ⟨m,hn,_⟩ := I.loc
  refine .cons (by rw [I.ok.kind];decide) hf hn ?_ I.funs
  exact Heap.get?_none_of_le (Nat.le_trans I.ok.bsz I.ok.above)
theorem Inv.stkSub (I : Inv X pins σ H s) : ∀ b ∈ frs X.stack,b ∈ X.env.locals :: X.fs := fun b hb => by
 rcases I.ok.stk with e | ⟨e,hf⟩
 ·rw [e] at hb;exact List.mem_cons_of_mem _ hb
 ·rw [e] at hb
  unfold frs at hb
  rw [List.filterMap_cons,hf] at hb
  exact hb
theorem Inv.stkFree (I : Inv X pins σ H s) : ∀ b ∈ frs X.stack,H b = none := fun b hb => by
 rcases List.mem_cons.mp (I.stkSub b hb) with e | hb
 ·rw [e];exact I.free
 ·obtain ⟨_,o,ho,_⟩ := I.ok.funs.mem hb
  exact I.base.free b o ho (I.ok.frf b hb) fun z => I.ok.exfs b z hb
theorem Inv.step {g' : Array GenState} {t' : Nat} {d' : Drawn} {ch : List Addr} (I : Inv X pins σ H s)
  (hch : ∀ b ∈ ch,(b ∈ X.ex ∨ X.s₀.heap.objs.size <= b) /\ b ≠ X.env.locals /\ (∀ x c,X.env.cells.lookup x = some c -> c ≠ b) /\ ∀ p ∈ X.pn ++ pins,p.1 ≠ b)
  (keep : ∀ b o,b ≠ X.env.locals -> b ∉ X.fs -> b ∉ ch -> s.heap.get? b = some o -> H b = none -> h'.get? b = some o)
  (slot : ∀ b o,b ≠ X.env.locals -> b ∈ X.fs -> b ∉ ch -> s.heap.get? b = some o -> H b = none -> ∃ sl,h'.get? b = some { o with slots := sl }) (free : ∀ b o,b ∉ ch -> s.heap.get? b = some o -> H b = none -> H' b = none)
  (there : ∀ b o,b ∉ ch -> s.heap.get? b = some o -> ∃ o',h'.get? b = some o')
  (tups : ∀ b xs,H b = some (.tup xs) -> H' b = some (.tup xs)) (frzs : ∀ b o u,H b = some (.frz o u) -> H' b = some (.frz o u)) (tbls : ∀ b ps,H b = some (.tbl ps) -> ∃ more,H' b = some (.tbl (ps ++ more)))
  (ns : ∀ m,s.heap.Ns X.env.locals m -> h'.Ns X.env.locals m) (hok : HOk X.prog X.w H' h') (hg : AllBare g') :
  Inv X pins σ H' { s with heap := h',gens := g',drawn := d',toks := t' } := by
 have neL : ∀ b o,X.s₀.heap.get? b = some o -> b ≠ X.env.locals := fun b o e => Nat.ne_of_lt (Nat.lt_of_lt_of_le (Heap.lt_size e) I.ok.above)
 have neC : ∀ b o,X.s₀.heap.get? b = some o -> b ∉ X.ex -> b ∉ ch := fun b o e hx hb => by
  rcases (hch b hb).1 with z | z
  ·exact hx z
  ·exact absurd (Nat.lt_of_lt_of_le (Heap.lt_size e) z) (Nat.lt_irrefl _)
 have cellK : ∀ x c,X.env.cells.lookup x = some c -> ∀ v,s.heap.IsCell c v -> h'.IsCell c v := fun x c e v ⟨o,ho,hd⟩ => by
  have nch : c ∉ ch := fun z => (hch c z).2.2.1 x c e rfl
  by_cases hc : c ∈ X.fs
  ·obtain ⟨sl,q⟩ := slot c o (I.cne x c e) hc nch ho (I.freeC x c e)
   exact ⟨_,q,hd⟩
  ·exact ⟨o,keep c o (I.cne x c e) hc nch ho (I.freeC x c e),hd⟩
 refine ⟨I.ok,I.os,hg,⟨fun b o e n hb hx => ?_,fun b o e n hb hx => ?_,fun b o e n hx => ?_,fun b o e hx => ?_,fun b xs e => tups b xs (I.base.tups b xs e),fun b o xs e => frzs b o xs (I.base.frzs b o xs e),fun b ps e => ?_⟩,?_,fun x c e => ?_,?_,fun x c e => ?_,fun p hp => ?_,hok,I.len⟩
 ·exact keep b o (neL b o e) hb (neC b o e hx) (I.base.keep b o e n hb hx) (I.base.free b o e n hx)
 ·obtain ⟨sl,e1⟩ := I.base.slot b o e n hb hx
  obtain ⟨sl',e2⟩ := slot b _ (neL b o e) hb (neC b o e hx) e1 (I.base.free b o e n hx)
  exact ⟨sl',e2⟩
 ·obtain ⟨o',e1⟩ := I.base.there b o e hx
  exact free b o' (neC b o e hx) e1 (I.base.free b o e n hx)
 ·obtain ⟨o',e1⟩ := I.base.there b o e hx
  exact there b o' (neC b o e hx) e1
 ·obtain ⟨m1,e1⟩ := I.base.tbls b ps e
  obtain ⟨m2,e2⟩ := tbls b _ e1
  exact ⟨m1 ++ m2,by rw [e2,Array.append_assoc]⟩
 ·obtain ⟨m,hn,hl⟩ := I.loc
  refine ⟨m,ns m hn,fun i x v e1 e2 e3 => ?_⟩
  obtain ⟨u,r,l⟩ := hl i x v e1 e2 e3
  refine ⟨u,r,?_⟩
  rcases l with l | ⟨k,c,e,z⟩
  ·exact .inl l
  ·exact .inr ⟨k,c,e,cellK x c e _ z⟩
 ·obtain ⟨v,z⟩ := I.cell x c e
  exact ⟨v,cellK x c e v z⟩
 ·obtain ⟨m,⟨o,_,_,ho,_⟩,_⟩ := I.loc
  exact free _ o (fun z => (hch _ z).2.1 rfl) ho I.free
 ·obtain ⟨v,o,ho,hd⟩ := I.cell x c e
  exact free c o (fun z => (hch c z).2.2.1 x c e rfl) ho (I.freeC x c e)
 ·obtain ⟨e,n,ne,nf,d⟩ := I.pin p hp
  have nch : p.1 ∉ ch := fun z => (hch p.1 z).2.2.2 p hp rfl
  exact ⟨keep p.1 p.2 ne nf nch e n,free p.1 p.2 nch e n,ne,nf,d⟩
theorem Inv.un {t' : Nat} (I : Inv X pins σ H s) (u : Un X.fs [] H H' s.heap h') (hok : HOk X.prog X.w H' h') : Inv X pins σ H' { s with heap := h',toks := t' } := by
 obtain ⟨m,⟨o,es,ep,ho,r⟩,_⟩ := id I.loc
 obtain ⟨sl,hL⟩ := u.any ho I.free (by simp)
 exact I.step (g' := s.gens) (d' := s.drawn) (ch := []) (fun _ z => nomatch z) (fun b o _ hb _ e n => u.keep b o e n hb (by simp)) (fun b o _ hb _ e n => u.slot b o e n hb (by simp)) (fun b o _ e n => u.free b o e n (by simp)) (fun b o _ e => u.there b o e (by simp)) u.tups u.frzs u.tbls (fun m' hm => by
  obtain ⟨o',es',ep',ho',r'⟩ := hm
  rw [ho] at ho';cases ho'
  exact ⟨_,es',ep',hL,r'⟩) hok I.bare
theorem Inv.call {g' : Array GenState} {t' : Nat} {d' : Drawn} {ch : List Addr} (I : Inv X pins σ H s) (u : Un (frs X.stack) ch H H' s.heap h') (hok : HOk X.prog X.w H' h') (hg : AllBare g')
  (hch : ∀ b ∈ ch,(b ∈ X.ex ∨ X.s₀.heap.objs.size <= b) /\ b ≠ X.env.locals /\ (∀ x c,X.env.cells.lookup x = some c -> c ≠ b) /\ ∀ p ∈ X.pn ++ pins,p.1 ≠ b) :
  Inv X pins σ H' { s with heap := h',gens := g',drawn := d',toks := t' } := by
 obtain ⟨m,⟨o,es,ep,ho,r⟩,_⟩ := id I.loc
 obtain ⟨sl,hL⟩ := u.any ho I.free fun z => (hch _ z).2.1 rfl
 exact I.step (ch := ch) hch (fun b o hL hb hc e n => u.keep b o e n (fun z => (List.mem_cons.mp (I.stkSub b z)).elim hL hb) hc) (fun b o _ _ hc e n => u.any e n hc) (fun b o hc e n => u.free b o e n hc) (fun b o hc e => u.there b o e hc) u.tups u.frzs u.tbls (fun m' hm => by
  obtain ⟨o',es',ep',ho',r'⟩ := hm
  rw [ho] at ho';cases ho'
  exact ⟨_,es',ep',hL,r'⟩) hok hg
theorem Inv.turned {t' : Nat} {it : Addr} (I : Inv X pins σ H s) (k : ∀ b o,b ≠ it -> s.heap.get? b = some o -> h'.get? b = some o) (hn : H it = none) (hL : it ≠ X.env.locals)
  (h1 : it ∈ X.ex ∨ X.s₀.heap.objs.size <= it) (h2 : ∀ x c,X.env.cells.lookup x = some c -> c ≠ it) (h3 : ∀ p ∈ X.pn ++ pins,p.1 ≠ it) : Inv X pins σ H { s with heap := h',toks := t' } := by
 have nit : ∀ b u,H b = some u -> b ≠ it := fun b u e z => by rw [z,hn] at e;cases e
 refine I.step (g' := s.gens) (d' := s.drawn) (ch := [it]) (fun b hb => ?_) (fun b o _ _ hc e _ => k b o (fun z => hc (by simp [z])) e) (fun b o _ _ hc e _ => ⟨o.slots,k b o (fun z => hc (by simp [z])) e⟩) (fun _ _ _ _ n => n)
  (fun b o hc e => ⟨o,k b o (fun z => hc (by simp [z])) e⟩) (fun _ _ e => e) (fun _ _ _ e => e) (fun b ps e => ⟨#[],by rw [e];simp⟩) (fun m hm => ?_) (fun b u e => ?_) I.bare
 ·have e : b = it := by simpa using hb
  subst e
  exact ⟨h1,hL,h2,h3⟩
 ·obtain ⟨o,es,ep,ho,r⟩ := hm
  exact ⟨o,es,ep,k _ o (Ne.symm hL) ho,r⟩
 ·refine (I.hok b u e).stay (fun c v hc q => k c v ?_ q) (fun _ q => q) fun _ _ q => q
  rcases hc with z | z
  ·rw [z];exact nit b u e
  ·exact nit c _ z
theorem Inv.tok (I : Inv X pins σ H s) (t : Nat) : Inv X pins σ H { s with toks := t } := I.un (h' := s.heap) (t' := t) Un.refl I.hok
theorem Inv.kept {t' : Nat} (I : Inv X pins σ H s) (k : ∀ b u,s.heap.get? b = some u -> h'.get? b = some u) : Inv X pins σ H { s with heap := h',toks := t' } := I.un (Un.kept k) (I.hok.kept k)
theorem Inv.laid {a : Addr} {o : HO} {t' : Nat} (I : Inv X pins σ H s) (k : ∀ b u,s.heap.get? b = some u -> h'.get? b = some u) (hp : s.heap.objs.size <= a) (new : ObjOk X.prog X.w (upd H a o) h' a o) :
  Inv X pins σ (upd H a o) { s with heap := h',toks := t' } := I.un (Un.laid k hp (I.hok.fresh hp)) (I.hok.laid k hp new)
theorem Inv.write {x e : Addr} {o : HO} {t' : Nat} (I : Inv X pins σ H s) (mu : Mut (H x)) (he : e = x ∨ H e = some (.own x)) (k : ∀ b u,b ≠ e -> s.heap.get? b = some u -> h'.get? b = some u) (heo : ∃ u,h'.get? e = some u)
  (new : ObjOk X.prog X.w (upd H x o) h' x o) : Inv X pins σ (upd H x o) { s with heap := h',toks := t' } := I.un (Un.write mu he k heo) (I.hok.write mu he k heo new)
theorem Inv.weak {σ' : List (Option V)} (I : Inv X pins σ H s) (hl : σ'.length = σ.length) (w : ∀ (i : Nat) v,σ'[i]? = some (some v) -> σ[i]? = some (some v)) : Inv X pins σ' H s :=
 ⟨I.ok,I.os,I.bare,I.base,let ⟨m,hn,hl'⟩ := I.loc;⟨m,hn,fun i x v e1 e2 e3 => hl' i x v e1 (w i v e2) e3⟩,I.cell,I.free,I.freeC,I.pin,I.hok,hl.trans I.len⟩
theorem Inv.pins_of {pins' : List (Addr × Obj)} (I : Inv X pins σ H s) (h : ∀ p ∈ pins',s.heap.get? p.1 = some p.2 /\ H p.1 = none /\ p.1 ≠ X.env.locals /\ p.1 ∉ X.fs /\ ∀ v,p.2.data ≠ .cell v) : Inv X pins' σ H s :=
 ⟨I.ok,I.os,I.bare,I.base,I.loc,I.cell,I.free,I.freeC,fun p hp => (List.mem_append.mp hp).elim (fun z => I.pin p (List.mem_append_left _ z)) (h p),I.hok,I.len⟩
theorem nodup_ix {N : List Str} (hN : N.Nodup) {i j : Nat} {x : Str} (a : N[i]? = some x) (b : N[j]? = some x) : i = j := by
 obtain ⟨h1,e1⟩ := List.getElem?_eq_some_iff.mp a
 obtain ⟨h2,e2⟩ := List.getElem?_eq_some_iff.mp b
 exact (List.getElem_inj hN).mp (e1.trans e2.symm)
theorem store_ok2 {M : Model} {A : Around} {E : Value -> Shared -> Prop} {i : Nat} {x : Str} {v : V} {u : Value} {Q : Unit -> Shared -> Prop} (I : Inv X pins σ H s) (hN : X.N.Nodup) (hi : X.N[i]? = some x) (hx : Loc X.env.scope x) (r : RelV v u)
  (h : ∀ s',Inv X pins (σ.set i (some v)) H s' -> (∃ a,Heap.SameBut a s.heap s'.heap /\ (a = X.env.locals ∨ X.env.cells.lookup x = some a)) -> Q () s') (hf : X.fn x = true ∨ X.env.scope.names.lookup x = some .local := by first | exact .inl rfl | exact .inr rfl | assumption) : wpAny M A (storeName X.env x u) Q E s := by
 obtain ⟨m,hn,hl⟩ := id I.loc
 have hcls : (X.env.scope.kind == .class || (X.env.scope.kind == .module && X.env.locals != X.env.globals)) = false := by rw [I.ok.kind];rfl
 have hiσ : i < σ.length := by rw [I.len];exact (List.getElem?_eq_some_iff.mp hi).1
 have cne := I.cne
 have tracked : ∀ {a : Addr} {h' : Heap},(∃ o,s.heap.get? a = some o /\ H a = none) -> Heap.SameBut a s.heap h' -> HOk X.prog X.w H h' := fun {a h'} ha hs b ob e => by
  obtain ⟨_,_,hfree⟩ := ha
  refine (I.hok b ob e).stay (fun c w' hc q => (hs.2 c ?_).trans q) (fun _ q => q) fun _ _ q => q
  rintro rfl
  rcases hc with rfl | hc
  ·rw [hfree] at e;cases e
  ·rw [hfree] at hc;cases hc
 rcases hx with hk | hk
 ·refine wpAny_storeName_local hk hn (fun h' hn' hs => ?_) hcls
  obtain ⟨oL,_,_,hoL,_⟩ := id hn
  refine h _ ⟨I.ok,I.os,I.bare,⟨fun b o e n hb hx => ?_,fun b o e n hb hx => ?_,I.base.free,fun b o e hx => ?_,I.base.tups,I.base.frzs,I.base.tbls⟩,⟨_,hn',fun j y v' e1 e2 e3 => ?_⟩,fun y c e => ?_,I.free,I.freeC,fun p hp => ?_,tracked ⟨oL,hoL,I.free⟩ hs,by simpa using I.len⟩ ⟨_,hs,.inl rfl⟩
  ·exact (hs.2 b (Nat.ne_of_lt (Nat.lt_of_lt_of_le (Heap.lt_size e) I.ok.above))).trans (I.base.keep b o e n hb hx)
  ·obtain ⟨sl,e1⟩ := I.base.slot b o e n hb hx
   exact ⟨sl,(hs.2 b (Nat.ne_of_lt (Nat.lt_of_lt_of_le (Heap.lt_size e) I.ok.above))).trans e1⟩
  ·obtain ⟨o',e1⟩ := I.base.there b o e hx
   exact ⟨o',(hs.2 b (Nat.ne_of_lt (Nat.lt_of_lt_of_le (Heap.lt_size e) I.ok.above))).trans e1⟩
  ·by_cases hj : j = i
   ·subst hj
    rw [hi] at e1;cases e1
    rw [List.getElem?_set_self hiσ] at e2
    cases e2
    exact ⟨u,r,.inl ⟨hk,by simp⟩⟩
   ·rw [List.getElem?_set_ne (Ne.symm hj)] at e2
    obtain ⟨u',r',q⟩ := hl j y v' e1 e2 e3
    refine ⟨u',r',?_⟩
    rcases q with ⟨k,e⟩ | ⟨k,c,e,z⟩
    ·refine .inl ⟨k,?_⟩
     have : y ≠ x := fun e => hj (nodup_ix hN e1 (e ▸ hi))
     simp [this,e]
    ·exact .inr ⟨k,c,e,z.sameBut hs (cne y c e)⟩
  ·obtain ⟨w',z⟩ := I.cell y c e
   exact ⟨w',z.sameBut hs (cne y c e)⟩
  ·obtain ⟨e,n,ne,nf,d⟩ := I.pin p hp
   exact ⟨(hs.2 p.1 ne).trans e,n,ne,nf,d⟩
 ·have hfn : X.fn x = true := by
   rcases hf with z | z
   ·exact z
   ·rw [z] at hk;cases hk
  obtain ⟨c,hc⟩ := I.ok.has x (.inl hk)
  obtain ⟨w',z⟩ := I.cell x c hc
  refine wpAny_storeName_cell I.ok.kind hk hc z (fun h' hc' hs => ?_)
  obtain ⟨oc,hoc,hocd⟩ := id z
  refine h { s with heap := h' } ⟨I.ok,I.os,I.bare,⟨fun b o e n hb hx => ?_,fun b o e n hb hx => ?_,I.base.free,fun b o e hx => ?_,I.base.tups,I.base.frzs,I.base.tbls⟩,⟨m,hn.sameBut hs (Ne.symm (cne x c hc)),fun j y v' e1 e2 e3 => ?_⟩,fun y c' e => ?_,I.free,I.freeC,fun p hp => ?_,tracked ⟨oc,hoc,I.freeC x c hc⟩ hs,by simpa using I.len⟩ ⟨c,hs,.inr hc⟩
  ·exact (hs.2 b (Nat.ne_of_lt (Nat.lt_of_lt_of_le (Heap.lt_size e) (I.ok.cab x c hfn hc)))).trans (I.base.keep b o e n hb hx)
  ·obtain ⟨sl,e1⟩ := I.base.slot b o e n hb hx
   exact ⟨sl,(hs.2 b (Nat.ne_of_lt (Nat.lt_of_lt_of_le (Heap.lt_size e) (I.ok.cab x c hfn hc)))).trans e1⟩
  ·obtain ⟨o',e1⟩ := I.base.there b o e hx
   exact ⟨o',(hs.2 b (Nat.ne_of_lt (Nat.lt_of_lt_of_le (Heap.lt_size e) (I.ok.cab x c hfn hc)))).trans e1⟩
  ·by_cases hj : j = i
   ·subst hj
    rw [hi] at e1;cases e1
    rw [List.getElem?_set_self hiσ] at e2
    cases e2
    exact ⟨u,r,.inr ⟨.inl hk,c,hc,hc'⟩⟩
   ·rw [List.getElem?_set_ne (Ne.symm hj)] at e2
    obtain ⟨u',r',q⟩ := hl j y v' e1 e2 e3
    refine ⟨u',r',?_⟩
    rcases q with q | ⟨k,c',e,z'⟩
    ·exact .inl q
    ·refine .inr ⟨k,c',e,z'.sameBut hs ?_⟩
     rintro rfl
     exact hj (nodup_ix hN e1 (I.ok.inj _ _ _ e hc ▸ hi))
  ·by_cases hcc : c' = c
   ·subst hcc;exact ⟨_,hc'⟩
   ·obtain ⟨w2,z2⟩ := I.cell y c' e
    exact ⟨w2,z2.sameBut hs hcc⟩
  ·obtain ⟨e,n,ne,nf,d⟩ := I.pin p hp
   refine ⟨(hs.2 p.1 ?_).trans e,n,ne,nf,d⟩
   intro q
   rw [q,hoc] at e
   have q' : oc = p.2 := Option.some.inj e
   exact d w' (by rw [<- q'];exact hocd)
theorem store_ok {M : Model} {A : Around} {E : Value -> Shared -> Prop} {i : Nat} {x : Str} {v : V} {u : Value} {Q : Unit -> Shared -> Prop} (I : Inv X pins σ H s) (hN : X.N.Nodup) (hi : X.N[i]? = some x) (hx : Loc X.env.scope x) (r : RelV v u)
  (h : ∀ s',Inv X pins (σ.set i (some v)) H s' -> Q () s') (hf : X.fn x = true ∨ X.env.scope.names.lookup x = some .local := by first | exact .inl rfl | exact .inr rfl | assumption) : wpAny M A (storeName X.env x u) Q E s :=
 store_ok2 I hN hi hx r (fun s' I' _ => h s' I') hf
theorem Inv.call' {s' : Shared} {ch : List Addr} (I : Inv X pins σ H s) (ho : s'.os = s.os) (u : Un (frs X.stack) ch H H' s.heap s'.heap) (hok : HOk X.prog X.w H' s'.heap) (hg : AllBare s'.gens)
  (hch : ∀ b ∈ ch,(b ∈ X.ex ∨ X.s₀.heap.objs.size <= b) /\ b ≠ X.env.locals /\ (∀ x c,X.env.cells.lookup x = some c -> c ≠ b) /\ ∀ p ∈ X.pn ++ pins,p.1 ≠ b) : Inv X pins σ H' s' := by
 obtain ⟨h',g',d',t',o'⟩ := s'
 have e : o' = s.os := ho
 subst e
 exact I.call (g' := g') (t' := t') (d' := d') u hok hg hch
end
abbrev XK := Value -> Option Addr -> Hp -> Prop
abbrev St := List (Option V)
abbrev VK := V -> Hp -> Prop
abbrev TE := St -> Hp -> VK -> Prop
abbrev TT := St -> Hp -> (Bool -> Hp -> Prop) -> Prop
abbrev TA := St -> Hp -> (List V -> Hp -> Prop) -> Prop
structure Ends where
 nx : St -> Hp -> Prop
 rt : VK
 bk : St -> Hp -> Prop := fun _ _ => False
 ct : St -> Hp -> Prop := fun _ _ => False
abbrev TS := Ends -> St -> Hp -> Prop
def EP (X : Cx) (pins : List (Addr × Obj)) (σ : St) (Q : VK) (u : Value) (s' : Shared) : Prop := ∃ v H',Inv X pins σ H' s' /\ RelV v u /\ Q v H'
def TP (X : Cx) (pins : List (Addr × Obj)) (σ : St) (Q : Bool -> Hp -> Prop) (b : Bool) (s' : Shared) : Prop := ∃ H',Inv X pins σ H' s' /\ Q b H'
def AP (X : Cx) (pins : List (Addr × Obj)) (σ : St) (Q : List V -> Hp -> Prop) (us : List Value) (s' : Shared) : Prop := ∃ vs H',Inv X pins σ H' s' /\ Vals vs us /\ Q vs H'
def SP (X : Cx) (pins : List (Addr × Obj)) (D : Ends) (f : Flow) (s' : Shared) : Prop :=
 match f with
 | .next => ∃ σ' H',Inv X pins σ' H' s' /\ D.nx σ' H'
 | .brk => ∃ σ' H',Inv X pins σ' H' s' /\ D.bk σ' H'
 | .cont => ∃ σ' H',Inv X pins σ' H' s' /\ D.ct σ' H'
 | .ret u => ∃ v σ' H',Inv X pins σ' H' s' /\ RelV v u /\ D.rt v H'
def PE (X : Cx) (e : Expr) (t : TE) : Prop :=
 ∀ (pins : List (Addr × Obj)) (s : Shared) (σ : St) (H : Hp) (Q : VK),Inv X pins σ H s -> t σ H Q -> wpAny (model X.prog X.w) X.A (eval e X.env) (EP X pins σ Q) X.xe s
def PT (X : Cx) (e : Expr) (t : TT) : Prop :=
 ∀ (pins : List (Addr × Obj)) (s : Shared) (σ : St) (H : Hp) (Q : Bool -> Hp -> Prop),Inv X pins σ H s -> t σ H Q -> wpAny (model X.prog X.w) X.A (isTrue e X.env (eval e X.env)) (TP X pins σ Q) X.xe s
def PW (X : Cx) (e : Expr) (t : TT) : Prop :=
 ∀ (whole : Sem Value) (pins : List (Addr × Obj)) (s : Shared) (σ : St) (H : Hp) (Q : Bool -> Hp -> Prop),Inv X pins σ H s -> t σ H Q -> wpAny (model X.prog X.w) X.A (isTrue e X.env whole) (TP X pins σ Q) X.xe s
theorem PW.pt {X : Cx} {e : Expr} {t : TT} (h : PW X e t) : PT X e t := h _
def PA (X : Cx) (es : List Expr) (t : TA) : Prop :=
 ∀ (pos : Pos) (pins : List (Addr × Obj)) (s : Shared) (σ : St) (H : Hp) (Q : List V -> Hp -> Prop),Inv X pins σ H s -> t σ H Q -> wpAny (model X.prog X.w) X.A (spliced (backTo pos (starEach es X.env))) (AP X pins σ Q) X.xe s
def PS (X : Cx) (st : Stmt) (t : TS) : Prop :=
 ∀ (pins : List (Addr × Obj)) (s : Shared) (σ : St) (H : Hp) (D : Ends),Inv X pins σ H s -> t D σ H -> wpAny (model X.prog X.w) X.A (exec st X.env) (SP X pins D) X.xe s
def PSs (X : Cx) (st : List Stmt) (t : TS) : Prop :=
 ∀ (pins : List (Addr × Obj)) (s : Shared) (σ : St) (H : Hp) (D : Ends),Inv X pins σ H s -> t D σ H -> wpAny (model X.prog X.w) X.A (execs st X.env) (SP X pins D) X.xe s
theorem thn {α : Type} {t : Sem α} {Q Q' : α -> Shared -> Prop} {M : Model} {A : Around} {E : Value -> Shared -> Prop} {s : Shared} (h : wpAny M A t Q E s) (hQ : ∀ a s,Q a s -> Q' a s) : wpAny M A t Q' E s := wpAny_mono h hQ fun _ _ x => x
end L2
namespace L2
open PySem PySem.Spec PyProof.Rows
section
variable {X : Cx}
def tVar (i : Nat) : TE := fun σ H Q => ∃ v,σ[i]? = some (some v) /\ Q v H
def tC (v : V) : TE := fun _ H Q => Q v H
theorem pe_var {i : Nat} {x : Str} {pos : Pos} (hN : X.N[i]? = some x) (hv : Vis X.env.scope x) (hd : (x == ("__debug__" : Str)) = false := by decide) (hcd : (x == ("__classdict__" : Str)) = false := by decide) : PE X (.Name x pos) (tVar i) := by
 intro pins s σ H Q I h
 obtain ⟨v,e,h⟩ := h
 obtain ⟨m,hn,hl⟩ := I.loc
 obtain ⟨u,r,l⟩ := hl i x v hN e hv
 have fin : EP X pins σ Q u s := ⟨v,H,I,r,h⟩
 rcases l with ⟨hk,hm⟩ | ⟨hk,c,hc,hcell⟩
 ·exact wpAny_Name (wpAny_loadName_local I.ok.kind hk hn hm fin) hd
 ·rcases hk with hk | hk
  ·exact wpAny_Name (wpAny_loadName_cell I.ok.kind hk hc hcell fin) hd
  ·exact wpAny_Name (wpAny_loadName_free I.ok.kind hk hc hcell fin hcd) hd
theorem pe_int {i j pos} : PE X (.Constant (.int i) j pos) (tC (.int i)) := fun _ _ _ H _ I h => wpAny_Constant_int ⟨.int i,H,I.tok _,⟨_,rfl⟩,h⟩
theorem pe_bl {b j pos} : PE X (.Constant (.bool b) j pos) (tC (.bl b)) := fun _ _ _ H _ I h => Constant_bool ⟨.bl b,H,I,rfl,h⟩
theorem pe_non {j pos} : PE X (.Constant .none j pos) (tC .non) := fun _ _ _ H _ I h => Constant_none ⟨.non,H,I,rfl,h⟩
theorem pe_str {x j pos} : PE X (.Constant (.str x) j pos) (tC (.str x)) := fun _ _ _ H _ I h => Calls.Constant_str ⟨.str x,H,I.tok _,⟨_,rfl⟩,h⟩
def Gl (X : Cx) (x : Str) : Prop := X.env.kindOf x = some .globalImplicit
theorem ld_glob {E : Value -> Shared -> Prop} {pins : List (Addr × Obj)} {s : Shared} {σ : St} {H : Hp} {x : Str} {u : Value} {pos : Pos} {Q : Value -> Shared -> Prop} (I : Inv X pins σ H s) (hg : Gl X x) (hm : X.mg x = some u) (h : Q u s)
  (hd : (x == ("__debug__" : Str)) = false := by decide) : wpAny (model X.prog X.w) X.A (eval (.Name x pos) X.env) Q E s :=
 Calls.Name_function_global I.ok.kind hg (Calls.loadGlobal_global (by rw [I.ok.glob];exact I.mod.glob.keeps I.bk) hm h) hd
theorem ld_blt {E : Value -> Shared -> Prop} {pins : List (Addr × Obj)} {s : Shared} {σ : St} {H : Hp} {x : Str} {u : Value} {pos : Pos} {Q : Value -> Shared -> Prop} (I : Inv X pins σ H s) (hg : Gl X x) (hm : X.mg x = none) (hv : bootBuiltins x = some u) (h : Q u s)
  (hn : x ≠ "__name__" := by decide) (hd : (x == ("__debug__" : Str)) = false := by decide) : wpAny (model X.prog X.w) X.A (eval (.Name x pos) X.env) Q E s := by
 obtain ⟨mb,h1,h2⟩ := I.mod.blt
 exact Calls.Name_function_global I.ok.kind hg (Calls.loadGlobal_builtin (by rw [I.ok.glob];exact I.mod.glob.keeps I.bk) hm (by rw [I.ok.blt];exact h1.keeps I.bk) ((h2 x hn).trans hv) h) hd
theorem pe_glob {x : Str} {v : V} {u : Value} {pos : Pos} (hg : Gl X x) (hm : X.mg x = some u) (r : RelV v u) (hd : (x == ("__debug__" : Str)) = false := by decide) : PE X (.Name x pos) (tC v) :=
 fun _ _ _ H _ I h => ld_glob I hg hm ⟨v,H,I,r,h⟩ hd
theorem pe_bltn {x : Str} {v : V} {u : Value} {pos : Pos} (hg : Gl X x) (hm : X.mg x = none) (hv : bootBuiltins x = some u) (r : RelV v u) (hn : x ≠ "__name__" := by decide) (hd : (x == ("__debug__" : Str)) = false := by decide) : PE X (.Name x pos) (tC v) :=
 fun _ _ _ H _ I h => ld_blt I hg hm hv ⟨v,H,I,r,h⟩ hn hd
variable {a b : Expr} {ta tb : TE} {pos : Pos}
def tB (t : TE) : TT := fun σ H Q => t σ H fun x H1 => ∃ c,x = .bl c /\ Q c H1
theorem pt_val {e : Expr} {t : TE} (h : PE X e t) (he : ∀ whole,isTrue e X.env whole = (do let v <- whole;standAt e.pos;holding [v] (truthy v)) := by intro _;rfl) : PT X e (tB t) := by
 intro pins s σ H Q I hw
 refine isTrue_plain (thn (h pins s σ H _ I hw) fun v s1 ⟨x,H1,I1,r1,q1⟩ => ?_) (he _)
 obtain ⟨d,rfl,q⟩ := q1
 cases r1
 exact wpAny_truthy_bool ⟨H1,I1,q⟩
variable {tA tB' : TT} {rest : List Expr}
def tAnd (t u : TT) : TT := fun σ H Q => t σ H fun c H1 => if c = true then u σ H1 Q else Q false H1
def tOr (t u : TT) : TT := fun σ H Q => t σ H fun c H1 => if c = true then Q true H1 else u σ H1 Q
def tNot (t : TT) : TT := fun σ H Q => t σ H fun c H1 => Q (!c) H1
theorem pw_and1 (ha : PT X a tA) : PW X (.BoolOp .And [a] pos) tA := by
 intro wh pins s σ H Q I h
 refine isTrue_and (thn (ha pins s σ H Q I h) fun c s1 e => ?_)
 cases c with
 | true => exact isTrue_and_nil e
 | false => exact e
theorem pw_or1 (ha : PT X a tA) : PW X (.BoolOp .Or [a] pos) tA := by
 intro wh pins s σ H Q I h
 refine isTrue_or (thn (ha pins s σ H Q I h) fun c s1 e => ?_)
 cases c with
 | false => exact isTrue_or_nil e
 | true => exact e
theorem pw_and (ha : PT X a tA) (hb : PW X (.BoolOp .And (b :: rest) pos) tB') : PW X (.BoolOp .And (a :: b :: rest) pos) (tAnd tA tB') := by
 intro wh pins s σ H Q I h
 refine isTrue_and (thn (ha pins s σ H _ I h) fun c s1 ⟨H1,I1,q1⟩ => ?_)
 cases c with
 | true => exact hb wh pins s1 σ H1 Q I1 q1
 | false => exact ⟨H1,I1,q1⟩
theorem pw_or (ha : PT X a tA) (hb : PW X (.BoolOp .Or (b :: rest) pos) tB') : PW X (.BoolOp .Or (a :: b :: rest) pos) (tOr tA tB') := by
 intro wh pins s σ H Q I h
 refine isTrue_or (thn (ha pins s σ H _ I h) fun c s1 ⟨H1,I1,q1⟩ => ?_)
 cases c with
 | true => exact ⟨H1,I1,q1⟩
 | false => exact hb wh pins s1 σ H1 Q I1 q1
theorem pt_not (ha : PT X a tA) : PT X (.UnaryOp .Not a pos) (tNot tA) := by
 intro pins s σ H Q I h
 exact isTrue_not (ha pins s σ H (fun c H1 => Q (!c) H1) I h)
def tAndV (ta tb : TE) : TE := fun σ H Q => ta σ H fun x H1 => ∃ c,x = .bl c /\ if c = true then tb σ H1 Q else Q (.bl false) H1
def tNotV (ta : TE) : TE := fun σ H Q => ta σ H fun x H1 => ∃ c,x = .bl c /\ Q (.bl (!c)) H1
theorem pe_one {op} {t : TE} (h : PE X a t) : PE X (.BoolOp op [a] pos) t := fun pins s σ H Q I hw => BoolOp_one (h pins s σ H Q I hw)
theorem pe_and (ha : PE X a ta) (hb : PE X (.BoolOp .And (b :: rest) pos) tb) : PE X (.BoolOp .And (a :: b :: rest) pos) (tAndV ta tb) := by
 intro pins s σ H Q I h
 refine BoolOp_and (thn (ha pins s σ H _ I h) fun v s1 ⟨x,H1,I1,r1,q1⟩ => ?_)
 obtain ⟨c,rfl,q1⟩ := q1
 cases r1
 refine wpAny_truthy_bool ?_
 cases c with
 | true => exact hb pins s1 σ H1 Q I1 q1
 | false => exact ⟨.bl false,H1,I1,rfl,q1⟩
theorem pe_not (ha : PE X a ta) : PE X (.UnaryOp .Not a pos) (tNotV ta) := by
 intro pins s σ H Q I h
 refine UnaryOp_ (thn (ha pins s σ H _ I h) fun v s1 ⟨x,H1,I1,r1,q1⟩ => ?_)
 obtain ⟨c,rfl,q1⟩ := q1
 cases r1
 exact not_of (wpAny_truthy_bool ⟨.bl (!c),H1,I1,rfl,q1⟩)
def tIf (t : TT) (ta tb : TE) : TE := fun σ H Q => t σ H fun c H1 => if c = true then ta σ H1 Q else tb σ H1 Q
theorem pe_ifExp {c : Expr} (hc : PT X c tA) (ha : PE X a ta) (hb : PE X b tb) : PE X (.IfExp c a b pos) (tIf tA ta tb) := by
 intro pins s σ H Q I h
 refine wpAny_IfExp (thn (hc pins s σ H _ I h) fun d s1 ⟨H1,I1,q1⟩ => ?_)
 cases d with
 | true => exact ha pins s1 σ H1 Q I1 q1
 | false => exact hb pins s1 σ H1 Q I1 q1
end
end L2
namespace L2
open PySem PySem.Spec PyProof.Rows
def SqL (K : PySem.W.Frag) (H : Hp) (a : Addr) (xs : List V) : Prop :=
 Rd H a (.lst xs) ∨
  ∃ (o : Obj) (its : Array Value) (n : Nat),K.lookup a = some o /\ o.cls = .type "list" /\ o.dict = none /\ o.data = .seq its n /\ its.size <= sizeLine /\ Vals xs its.toList
def SqT (K : PySem.W.Frag) (H : Hp) (a : Addr) (xs : List V) : Prop :=
 Rd H a (.tup xs) ∨
  ∃ (o : Obj) (its : Array Value) (n : Nat),K.lookup a = some o /\ o.cls = .type "tuple" /\ o.data = .seq its n /\ its.size <= sizeLine /\ Vals xs its.toList
def absV : Value -> Option V
 | .none => some .non
 | .bool b => some (.bl b)
 | .int i _ => some (.int i)
 | .str x _ => some (.str x)
 | .bytes b _ => some (.byt b)
 | .float b _ => some (.flt b)
 | .ref a => some (.ref a)
 | .type n => some (.ty n)
 | _ => none
theorem RelV.abs {x : V} {u : Value} (r : RelV x u) : absV u = some x := by
 cases x with
 | non => cases r;rfl
 | bl _ => cases r;rfl
 | int _ => obtain ⟨t,rfl⟩ := r;rfl
 | str _ => obtain ⟨t,rfl⟩ := r;rfl
 | byt _ => obtain ⟨t,rfl⟩ := r;rfl
 | flt _ => obtain ⟨t,rfl⟩ := r;rfl
 | ref _ => cases r;rfl
 | ty _ => cases r;rfl
theorem RelV.inj {x y : V} {u : Value} (r : RelV x u) (q : RelV y u) : x = y := Option.some.inj (r.abs.symm.trans q.abs)
theorem Vals.inj : ∀ {xs ys : List V} {us : List Value},Vals xs us -> Vals ys us -> xs = ys
 | _,_,_,.nil,.nil => rfl
 | _,_,_,.cons r t,.cons r' t' => by rw [r.inj r',Vals.inj t t']
section
variable {X : Cx} {pins : List (Addr × Obj)} {σ : St} {H : Hp} {s : Shared} {a : Addr} {xs ys : List V}
theorem SqL.of {K : PySem.W.Frag} (h : H a = some (.lst xs)) : SqL K H a xs := .inl (.inl h)
theorem SqT.of {K : PySem.W.Frag} (h : H a = some (.tup xs)) : SqT K H a xs := .inl (.inl h)
theorem Inv.list (I : Inv X pins σ H s) (h : SqL X.K H a xs) : ∃ its : List Value,Vals xs its /\ PlainL s.heap a its.toArray /\ xs.length <= sizeLine := by
 rcases h with h | ⟨o,its,n,hk,hc,hd,hs,hz,r⟩
 ·obtain ⟨z,its,n,r,e⟩ := h.ok I.hok
  exact ⟨its,r,⟨_,n,e,rfl,rfl,rfl⟩,z⟩
 ·refine ⟨its.toList,r,⟨o,n,I.kIn a o hk,hc,hd,by simpa using hs⟩,?_⟩
  have e := r.length
  simp only [Array.length_toList] at e
  omega
theorem Inv.tuple (I : Inv X pins σ H s) (h : SqT X.K H a xs) : ∃ its : List Value,Vals xs its /\ IsTup s.heap a its.toArray /\ xs.length <= sizeLine := by
 rcases h with h | ⟨o,its,n,hk,hc,hs,hz,r⟩
 ·obtain ⟨z,its,r,p⟩ := h.ok I.hok
  exact ⟨its,r,p,z⟩
 ·refine ⟨its.toList,r,⟨o,I.kIn a o hk,hc,n,by simpa using hs⟩,?_⟩
  have e := r.length
  simp only [Array.length_toList] at e
  omega
theorem Inv.list_inj (I : Inv X pins σ H s) (h : SqL X.K H a xs) (h' : SqL X.K H a ys) : xs = ys := by
 obtain ⟨its,r,⟨o,n,e,_,_,d⟩,_⟩ := I.list h
 obtain ⟨its',r',⟨o',n',e',_,_,d'⟩,_⟩ := I.list h'
 rw [e] at e';cases e'
 rw [d] at d'
 injection d' with d1 _
 have : its = its' := by simpa using congrArg Array.toList d1
 subst this
 exact r.inj r'
theorem Inv.tuple_inj (I : Inv X pins σ H s) (h : SqT X.K H a xs) (h' : SqT X.K H a ys) : xs = ys := by
 obtain ⟨its,r,⟨o,e,_,n,d⟩,_⟩ := I.tuple h
 obtain ⟨its',r',⟨o',e',_,n',d'⟩,_⟩ := I.tuple h'
 rw [e] at e';cases e'
 rw [d] at d'
 injection d' with d1 _
 have : its = its' := by simpa using congrArg Array.toList d1
 subst this
 exact r.inj r'
end
abbrev Cx.wish (X : Cx) (E : Value -> Shared -> Prop) : Cx := { X with xe := E }
abbrev Cx.nox (X : Cx) : Cx := X.wish fun _ _ => False
theorem Cx.Ok.wish {X : Cx} (ok : X.Ok) (E : Value -> Shared -> Prop) : (X.wish E).Ok :=
 ⟨ok.mod,ok.kind,ok.glob,ok.blt,ok.above,ok.inj,ok.has,ok.cab,ok.hd,ok.frames,ok.stk,ok.exf,ok.bs,ok.bsz,ok.noex,ok.exfs,ok.funs,ok.frf⟩
theorem Cx.Ok.unwish {X : Cx} {E : Value -> Shared -> Prop} (ok : (X.wish E).Ok) : X.Ok :=
 ⟨ok.mod,ok.kind,ok.glob,ok.blt,ok.above,ok.inj,ok.has,ok.cab,ok.hd,ok.frames,ok.stk,ok.exf,ok.bs,ok.bsz,ok.noex,ok.exfs,ok.funs,ok.frf⟩
section
variable {X : Cx} {pins : List (Addr × Obj)} {σ : St} {H : Hp} {s : Shared} {E : Value -> Shared -> Prop}
theorem Inv.wish (I : Inv X pins σ H s) (E : Value -> Shared -> Prop) : Inv (X.wish E) pins σ H s := ⟨I.ok.wish E,I.os,I.bare,I.base,I.loc,I.cell,I.free,I.freeC,I.pin,I.hok,I.len⟩
theorem Inv.unwish (I : Inv (X.wish E) pins σ H s) : Inv X pins σ H s := ⟨I.ok.unwish,I.os,I.bare,I.base,I.loc,I.cell,I.free,I.freeC,I.pin,I.hok,I.len⟩
theorem SP.unwish {D : Ends} {f : Flow} {s' : Shared} (h : SP (X.wish E) pins D f s') : SP X pins D f s' := by
 cases f with
 | next => obtain ⟨σ',H',I,q⟩ := h;exact ⟨σ',H',I.unwish,q⟩
 | brk => obtain ⟨σ',H',I,q⟩ := h;exact ⟨σ',H',I.unwish,q⟩
 | cont => obtain ⟨σ',H',I,q⟩ := h;exact ⟨σ',H',I.unwish,q⟩
 | ret u => obtain ⟨v,σ',H',I,r,q⟩ := h;exact ⟨v,σ',H',I.unwish,r,q⟩
theorem PSs.nox {st : List Stmt} {t : TS} (h : PSs X.nox st t) : PSs X st t := fun pins s σ H D I hw =>
 wpAny_mono (h pins s σ H D (I.wish _) hw) (fun _ _ q => q.unwish) fun _ _ z => False.elim z
end
section
variable {X : Cx} {st : Stmt} {rest : List Stmt} {t u : TS} {e : Expr} {te : TE} {pos : Pos}
def tNext : TS := fun D σ H => D.nx σ H
def tSeq (t u : TS) : TS := fun D σ H => t { D with nx := u D } σ H
theorem pss_nil : PSs X [] tNext := fun _ _ σ H _ I h => wpAny_execs_nil ⟨σ,H,I,h⟩
theorem pss_cons (h1 : PS X st t) (h2 : PSs X rest u) : PSs X (st :: rest) (tSeq t u) := by
 intro pins s σ H D I h
 refine wpAny_execs_cons (thn (h1 pins s σ H { D with nx := u D } I h) fun f s1 q => ?_)
 cases f with
 | next =>
  obtain ⟨σ',H',I',q⟩ := q
  exact h2 pins s1 σ' H' D I' q
 | ret v => exact q
 | brk => exact q
 | cont => exact q
theorem Inv.quiet {pins : List (Addr × Obj)} {σ : St} {H : Hp} {s : Shared} (I : Inv X pins σ H s) : interactive X.env = false := by simp [interactive,I.ok.kind]
def tDrop (te : TE) : TS := fun D σ H => te σ H fun _ H1 => D.nx σ H1
theorem ps_expr (he : PE X e te) (hs : swapsWith e none pos.line X.env = pure false := by rfl) : PS X (.Expr e pos) (tDrop te) := by
 intro pins s σ H D I h
 exact wpAny_Expr_any (thn (he pins s σ H _ I h) fun v s1 ⟨x,H1,I1,r1,q1⟩ => ⟨σ,H1,I1,q1⟩) I.quiet hs
def tRet (te : TE) : TS := fun D σ H => te σ H D.rt
theorem ps_ret (he : PE X e te) : PS X (.Return (some e) pos) (tRet te) := by
 intro pins s σ H D I h
 exact wpAny_Return_some (thn (he pins s σ H _ I h) fun v s1 ⟨x,H1,I1,r1,q1⟩ => ⟨x,σ,H1,I1,r1,q1⟩)
def tIfS (c : TT) (t u : TS) : TS := fun D σ H => c σ H fun b H1 => if b = true then t D σ H1 else u D σ H1
theorem ps_if {c : Expr} {a b : List Stmt} {tc : TT} (hc : PT X c tc) (ha : PSs X a t) (hb : PSs X b u) : PS X (.If c a b pos) (tIfS tc t u) := by
 intro pins s σ H D I h
 refine wpAny_If (thn (hc pins s σ H _ I h) fun d s1 ⟨H1,I1,q1⟩ => ?_)
 cases d with
 | true => exact ha pins s1 σ H1 D I1 q1
 | false => exact hb pins s1 σ H1 D I1 q1
end
abbrev TG := V -> St -> Hp -> (St -> Hp -> Prop) -> Prop
abbrev TGs := List V -> St -> Hp -> (St -> Hp -> Prop) -> Prop
def PG (X : Cx) (target : Expr) (t : TG) : Prop :=
 ∀ (pins : List (Addr × Obj)) (s : Shared) (σ : St) (H : Hp) (v : V) (u : Value) (Q : St -> Hp -> Prop),Inv X pins σ H s -> RelV v u -> t v σ H Q →
  wpAny (model X.prog X.w) X.A (assign target X.env u) (fun _ s' => ∃ σ' H',Inv X pins σ' H' s' /\ Q σ' H') X.xe s
def PGs (X : Cx) (ts : List Expr) (t : TGs) : Prop :=
 ∀ (pins : List (Addr × Obj)) (s : Shared) (σ : St) (H : Hp) (vs : List V) (us : List Value) (Q : St -> Hp -> Prop),Inv X pins σ H s -> Vals vs us -> t vs σ H Q →
  wpAny (model X.prog X.w) X.A (assignInOrder ((assignEach ts X.env).map (·.2)) us) (fun _ s' => ∃ σ' H',Inv X pins σ' H' s' /\ Q σ' H') X.xe s
abbrev TSet := V -> V -> V -> Hp -> (Hp -> Prop) -> Prop
def PSet (X : Cx) (t : TSet) : Prop :=
 ∀ (pins : List (Addr × Obj)) (s : Shared) (σ : St) (H : Hp) (o i v : V) (ov iv u : Value) (Q : Hp -> Prop),Inv X pins σ H s -> RelV o ov -> RelV i iv -> RelV v u -> t o i v H Q →
  wpAny (model X.prog X.w) X.A (setItem ov iv u) (fun _ s' => ∃ H',Inv X pins σ H' s' /\ Q H') X.xe s
section
variable {X : Cx} {pos : Pos}
def gName (i : Nat) : TG := fun v σ H Q => Q (σ.set i (some v)) H
theorem pg_name {i : Nat} {x : Str} (hN : X.N.Nodup) (hi : X.N[i]? = some x) (hx : Loc X.env.scope x) (hf : X.fn x = true ∨ X.env.scope.names.lookup x = some .local := by first | exact .inl rfl | exact .inr rfl | assumption) : PG X (.Name x pos) (gName i) := by
 intro pins s σ H v u Q I r h
 exact wpAny_assign_Name (store_ok I hN hi hx r (fun s' I' => ⟨_,H,I',h⟩) hf)
def gNil : TGs := fun vs σ H Q => vs = [] /\ Q σ H
def gCons (t : TG) (u : TGs) : TGs := fun vs σ H Q => ∃ v r,vs = v :: r /\ t v σ H fun σ' H' => u r σ' H' Q
theorem pgs_nil : PGs X [] gNil := by
 intro pins s σ H vs us Q I r h
 obtain ⟨e,h⟩ := h
 subst e
 cases r
 exact assignInOrder_nil ⟨σ,H,I,h⟩
theorem pgs_cons {e : Expr} {es : List Expr} {t : TG} {u : TGs} (h1 : PG X e t) (h2 : PGs X es u)
  (hs : (assignEach (e :: es) X.env).map (·.2) = assign e X.env :: (assignEach es X.env).map (·.2) := by rfl) : PGs X (e :: es) (gCons t u) := by
 intro pins s σ H vs us Q I r h
 obtain ⟨v,vr,e1,h⟩ := h
 subst e1
 cases r with
 | cons r rr =>
  rw [hs]
  refine assignInOrder_cons (thn (h1 pins s σ H _ _ _ I r h) fun _ s1 ⟨σ1,H1,I1,q1⟩ => ?_)
  exact h2 pins s1 σ1 H1 _ _ Q I1 rr q1
def gTup (K : PySem.W.Frag) (n : Nat) (t : TGs) : TG := fun v σ H Q => ∃ a xs,v = .ref a /\ SqT K H a xs /\ xs.length = n /\ t xs σ H Q
theorem pg_tup {es : List Expr} {k : Nat} {t : TGs} {n : Nat} (hc : X.calm = true) (h : PGs X es t)
  (hn : (assignEach es X.env).length = n := by rfl) (hst : (assignEach es X.env).findIdx? (·.1) = none := by rfl) : PG X (.Tuple es k pos) (gTup X.K n t) := by
 intro pins s σ H v u Q I r hw
 obtain ⟨a,xs,e1,hq,hl,hw⟩ := hw
 subst e1
 cases r
 obtain ⟨its,rv,ht,hz⟩ := I.tuple hq
 refine assign_Tuple_tuple (I.ok.hd hc) ht (by simp [hn,<- hl,rv.length]) hst fun h' hx => ?_
 have I1 : Inv X pins σ H { s with heap := h' } := I.kept (t' := s.toks) fun b o e => hx b o (Nat.ne_of_lt (Heap.lt_size e)) e
 exact h pins _ σ H xs _ Q I1 (by simpa using rv) hw
def gSub (to ti : TE) (t : TSet) : TG := fun v σ H Q => to σ H fun o H1 => ti σ H1 fun i H2 => t o i v H2 fun H3 => Q σ H3
theorem pg_sub {o i : Expr} {to ti : TE} {t : TSet} (ho : PE X o to) (hi : PE X i ti) (hs : PSet X t)
  (ha : ∀ v,assign (.Subscript o i pos) X.env v = (do
   let ov <- holding [v] (eval o X.env)
   let iv <- holding [v,ov] (eval i X.env)
   standAt pos
   holding [v,ov,iv] (setItem ov iv v)
   release [v,ov,iv] []) := by intro _;rfl) : PG X (.Subscript o i pos) (gSub to ti t) := by
 intro pins s σ H v u Q I r h
 rw [ha]
 refine wpAny_bind (wpAny_holding (thn (ho pins s σ H _ I h) fun ov s1 ⟨x,H1,I1,r1,q1⟩ => ?_))
 refine wpAny_bind (wpAny_holding (thn (hi pins s1 σ H1 _ I1 q1) fun iv s2 ⟨y,H2,I2,r2,q2⟩ => ?_))
 refine wpAny_bind (wpAny_standAt (wpAny_bind (wpAny_holding (thn (hs pins s2 σ H2 x y v ov iv u _ I2 r1 r2 r q2) fun _ s3 ⟨H3,I3,q3⟩ => ?_))))
 exact wpAny_release ⟨σ,H3,I3,q3⟩
def tAsg (te : TE) (g : TG) : TS := fun D σ H => te σ H fun x H1 => g x σ H1 D.nx
theorem ps_asg {tg e : Expr} {te : TE} {g : TG} (he : PE X e te) (hg : PG X tg g) (hs : swapsWithSole [tg] e pos.line X.env = pure false := by rfl) (hw : swappedStores [tg] e X.env = pure none := by rfl)
  (h1 : (assignEach [tg] X.env).map (·.2) = [assign tg X.env] := by rfl) : PS X (.Assign [tg] e pos) (tAsg te g) := by
 intro pins s σ H D I h
 refine wpAny_Assign_stores (thn (he pins s σ H _ I h) fun v s1 ⟨x,H1,I1,r1,q1⟩ => ?_) hs hw
 rw [h1]
 exact thn (hg pins s1 σ H1 x v _ I1 r1 q1) fun _ s2 q => q
theorem ps_set {i : Nat} {x : Str} {e : Expr} {te : TE} {pos' : Pos} (hN : X.N.Nodup) (hi : X.N[i]? = some x) (hx : Loc X.env.scope x) (he : PE X e te) (hs : swapsWith e (some (.Name x pos')) pos.line X.env = pure false := by rfl) (hf : X.fn x = true ∨ X.env.scope.names.lookup x = some .local := by first | exact .inl rfl | exact .inr rfl | assumption) :
  PS X (.Assign [.Name x pos'] e pos) (tAsg te (gName i)) := by
 intro pins s σ H D I h
 refine wpAny_Assign_Name (thn (he pins s σ H _ I h) fun v s1 ⟨y,H1,I1,r1,q1⟩ => ?_) hs
 exact store_ok I1 hN hi hx r1 (fun s2 I2 => ⟨_,H1,I2,q1⟩) hf
end
structure It where
 go : Nat -> Hp -> Prop
 yld : Nat -> Hp -> V -> Hp -> Prop
 stop : Nat -> Hp -> Prop
def FpOk (X : Cx) (pins : List (Addr × Obj)) (H : Hp) (b : Addr) : Prop :=
 H b = none /\ b ≠ X.env.locals /\ b ∉ X.fs /\ (b ∈ X.ex ∨ X.s₀.heap.objs.size <= b) /\ (∀ x c,X.env.cells.lookup x = some c -> c ≠ b) /\ ∀ p ∈ X.pn ++ pins,p.1 ≠ b
theorem Inv.fpOk {X : Cx} {pins : List (Addr × Obj)} {σ : St} {H H' : Hp} {s : Shared} {b : Addr} (I : Inv X pins σ H s) (hb : s.heap.objs.size <= b) (hn : H' b = none) : FpOk X pins H' b := by
 refine ⟨hn,Nat.ne_of_gt (Nat.lt_of_lt_of_le I.lt hb),I.nofs hb,.inr (Nat.le_trans I.sz hb),fun x c e z => ?_,fun p hp z => ?_⟩
 ·obtain ⟨v,q⟩ := I.cell x c e
  exact absurd (Nat.lt_of_lt_of_le q.lt (by rw [z];exact hb)) (Nat.lt_irrefl _)
 ·exact absurd (Nat.lt_of_lt_of_le (Heap.lt_size (I.pin p hp).1) (by rw [z];exact hb)) (Nat.lt_irrefl _)
structure Turn (P : Program) (w : World) (K : PySem.W.Frag) (tg : Expr) (J : It) (fp : List Addr) (it : Addr) (tn : Nat -> Heap -> Prop) : Prop where
 mem : it ∈ fp
 obj : ∀ i h,tn i h -> ∀ b ∈ fp,∃ o,h.get? b = some o /\ ∀ v,o.data ≠ .cell v
 keep : ∀ i h h',tn i h -> (∀ b ∈ fp,∀ o,h.get? b = some o -> h'.get? b = some o) -> tn i h'
 item : ∀ (X : Cx),X.prog = P -> X.w = w -> X.K = K -> X.calm = true -> ∀ (i : Nat) (pins : List (Addr × Obj)) (s : Shared) (σ : St) (H : Hp) (E : Value -> Shared -> Prop),Inv X pins σ H s -> (∀ b ∈ fp,FpOk X pins H b) -> tn i s.heap -> J.go i H →
  wpAny (model P w) X.A (pyNext (.ref it)) (fun r s1 => ∃ u,r = some u ∧
   wpAny (model P w) X.A (letOwnedTupleGo tg (.ref it) u) (fun _ s2 => ∃ x H',Inv X pins σ H' s2 /\ RelV x u /\ J.yld i H x H' /\ tn (i + 1) s2.heap /\ ∀ b ∈ fp,H' b = none) E s1) E s
 done : ∀ (X : Cx),X.prog = P -> X.w = w -> X.K = K -> X.calm = true -> ∀ (i : Nat) (pins : List (Addr × Obj)) (s : Shared) (σ : St) (H : Hp) (E : Value -> Shared -> Prop),Inv X pins σ H s -> (∀ b ∈ fp,FpOk X pins H b) -> tn i s.heap -> J.stop i H →
  wpAny (model P w) X.A (pyNext (.ref it)) (fun r s1 => r = none /\ Inv X pins σ H s1) E s
 self : ∀ (A : Around) (i : Nat) (s : Shared) (Q : Value -> Shared -> Prop) (E : Value -> Shared -> Prop),tn i s.heap -> Q (.ref it) s -> wpAny (model P w) A (pyIter (.ref it)) Q E s
abbrev TI := St -> Hp -> (It -> Hp -> Prop) -> Prop
def PIE (X : Cx) (pins : List (Addr × Obj)) (σ : St) (tg : Expr) (R : It -> Hp -> Prop) (itv : Value) (s2 : Shared) : Prop :=
 ∃ (it : Addr) (fp : List Addr) (tn : Nat -> Heap -> Prop) (J : It) (H' : Hp),itv = .ref it /\ Inv X pins σ H' s2 /\ Turn X.prog X.w X.K tg J fp it tn /\ tn 0 s2.heap /\ (∀ b ∈ fp,FpOk X pins H' b) /\ R J H'
def PI (X : Cx) (tg iter : Expr) (wi : TI) : Prop :=
 ∀ (pins : List (Addr × Obj)) (s : Shared) (σ : St) (H : Hp) (R : It -> Hp -> Prop),Inv X pins σ H s -> wi σ H R →
  wpAny (model X.prog X.w) X.A (eval iter X.env) (fun v s1 => wpAny (model X.prog X.w) X.A (pyIter v) (PIE X pins σ tg R) X.xe s1) X.xe s
theorem go_of {M : Model} {A : Around} {E : Value -> Shared -> Prop} {s : Shared} {tg : Expr} {it : Addr} {u : Value} {o : Obj} {n : String} {vs : Array Value} {Q : Unit -> Shared -> Prop} (ho : s.heap.get? it = some o) (hc : o.cls = .type n) (hd : o.data = .fields vs)
    (hn : ["enumerate","zip","dict_itemiterator","dict_reverseitemiterator","odict_iterator","itertools.zip_longest","itertools.pairwise"].contains n = false) (hQ : Q () s) : wpAny M A (letOwnedTupleGo tg (.ref it) u) Q E s := by
  unfold letOwnedTupleGo
  cases tg <;> first
    | exact wpAny_pure hQ
    | (cases u <;> first
        | exact wpAny_pure hQ
        | (refine wpAny_bind (wpAny_load ho ?_)
           rw [hc,hd]
           show wpAny M A (if (["enumerate","zip","dict_itemiterator","dict_reverseitemiterator","odict_iterator","itertools.zip_longest","itertools.pairwise"].contains n && vs[0]? == some (rawInt _)) = true then _ else _) Q E s
           rw [if_neg (by intro h;rw [hn,Bool.false_and] at h;cases h)]
           exact wpAny_pure hQ))
def Itl (K : PySem.W.Frag) (a : Addr) : It :=
 ⟨fun i H => ∃ xs x,SqL K H a xs /\ xs[i]? = some x,fun i H x H' => H' = H /\ ∀ xs,SqL K H a xs -> xs[i]? = some x,fun i H => ∃ xs,SqL K H a xs /\ xs.length <= i⟩
def Itt (K : PySem.W.Frag) (a : Addr) : It :=
 ⟨fun i H => ∃ xs x,SqT K H a xs /\ xs[i]? = some x,fun i H x H' => H' = H /\ ∀ xs,SqT K H a xs -> xs[i]? = some x,fun i H => ∃ xs,SqT K H a xs /\ xs.length <= i⟩
def Itr (lo : Int) (n : Nat) : It := ⟨fun i _ => i < n,fun i H x H' => H' = H /\ x = .int (lo + i),fun i _ => n <= i⟩
theorem turn_list {P : Program} {w : World} {K : PySem.W.Frag} {tg : Expr} (a it : Addr) : Turn P w K tg (Itl K a) [it] it (fun i h => h.IsListIter it a i) where
 mem := by simp
 obj := fun i h st b hb => by
  have e : b = it := by simpa using hb
  subst e
  obtain ⟨o,e,c,d⟩ := st
  exact ⟨o,e,fun v z => by rw [d] at z;cases z⟩
 keep := fun i h h' st k => st.at fun o e => k it (by simp) o e
 item := by
  intro X hP hw hK hc i pins s σ H E I hf st hg
  subst hP hw hK
  obtain ⟨xs,x,hq,hx⟩ := hg
  obtain ⟨its,rv,p,hz⟩ := I.list hq
  obtain ⟨u,hu,ru⟩ := rv.get hx
  obtain ⟨f0,f1,f2,f3,f4,f5⟩ := hf it (by simp)
  refine wpAny_pyNext_list_item st p.isList (x := u) (by simpa using hu) fun h' st' sb => ?_
  have I1 : Inv X pins σ H { s with heap := h' } := I.turned (t' := s.toks) (fun b o hb e => (sb.2 b hb).trans e) f0 f1 f3 f4 f5
  obtain ⟨o,e,c,d⟩ := id st'
  exact ⟨u,rfl,go_of (s := { s with heap := h' }) e c d (by decide) ⟨x,H,I1,ru,⟨rfl,fun ys hy => by rw [I.list_inj hy hq];exact hx⟩,st',fun b hb => (hf b hb).1⟩⟩
 done := by
  intro X hP hw hK hc i pins s σ H E I hf st hg
  subst hP hw hK
  obtain ⟨xs,hq,hx⟩ := hg
  obtain ⟨its,rv,p,hz⟩ := I.list hq
  obtain ⟨f0,f1,f2,f3,f4,f5⟩ := hf it (by simp)
  have hl := rv.length
  exact wpAny_pyNext_list_end (I.ok.hd hc) st p.isList (by simp;omega) fun h' eb => ⟨rfl,I.turned (t' := s.toks) (fun b o hb e => eb b o hb e) f0 f1 f3 f4 f5⟩
 self := fun _ _ _ _ _ st h => wpAny_pyIter_listiter st h
theorem turn_tuple {P : Program} {w : World} {K : PySem.W.Frag} {tg : Expr} (a it : Addr) : Turn P w K tg (Itt K a) [it] it (fun i h => h.IsTupleIter it a i) where
 mem := by simp
 obj := fun i h st b hb => by
  have e : b = it := by simpa using hb
  subst e
  obtain ⟨o,e,c,d⟩ := st
  exact ⟨o,e,fun v z => by rw [d] at z;cases z⟩
 keep := fun i h h' st k => st.at fun o e => k it (by simp) o e
 item := by
  intro X hP hw hK hc i pins s σ H E I hf st hg
  subst hP hw hK
  obtain ⟨xs,x,hq,hx⟩ := hg
  obtain ⟨its,rv,p,hz⟩ := I.tuple hq
  obtain ⟨u,hu,ru⟩ := rv.get hx
  obtain ⟨f0,f1,f2,f3,f4,f5⟩ := hf it (by simp)
  refine wpAny_pyNext_tuple_item st (show s.heap.IsTuple a its.toArray from p) (x := u) (by simpa using hu) fun h' st' sb => ?_
  have I1 : Inv X pins σ H { s with heap := h' } := I.turned (t' := s.toks) (fun b o hb e => (sb.2 b hb).trans e) f0 f1 f3 f4 f5
  obtain ⟨o,e,c,d⟩ := id st'
  exact ⟨u,rfl,go_of (s := { s with heap := h' }) e c d (by decide) ⟨x,H,I1,ru,⟨rfl,fun ys hy => by rw [I.tuple_inj hy hq];exact hx⟩,st',fun b hb => (hf b hb).1⟩⟩
 done := by
  intro X hP hw hK hc i pins s σ H E I hf st hg
  subst hP hw hK
  obtain ⟨xs,hq,hx⟩ := hg
  obtain ⟨its,rv,p,hz⟩ := I.tuple hq
  obtain ⟨f0,f1,f2,f3,f4,f5⟩ := hf it (by simp)
  have hl := rv.length
  exact wpAny_pyNext_tuple_end (I.ok.hd hc) st (show s.heap.IsTuple a its.toArray from p) (by simp;omega) fun h' eb => ⟨rfl,I.turned (t' := s.toks) (fun b o hb e => eb b o hb e) f0 f1 f3 f4 f5⟩
 self := fun _ _ _ _ _ st h => wpAny_pyIter_tupleiter st h
theorem turn_range {P : Program} {w : World} {K : PySem.W.Frag} {tg : Expr} (it : Addr) (lo : Int) (n : Nat) : Turn P w K tg (Itr lo n) [it] it (fun i h => IsRangeIter h it (lo + (i : Nat) * 1) ((n : Int) - (i : Nat)) 1) where
 mem := by simp
 obj := fun i h st b hb => by
  have e : b = it := by simpa using hb
  subst e
  exact ⟨_,st,fun v z => by
   have z' : Data.fields _ = Data.cell v := z
   cases z'⟩
 keep := fun i h h' st k => k it (by simp) _ st
 item := by
  intro X hP hw hK hc i pins s σ H E I hf st hg
  subst hP hw hK
  obtain ⟨f0,f1,f2,f3,f4,f5⟩ := hf it (by simp)
  have W := Walks.range (prog := X.prog) (w := X.w) (I.ok.hd hc) it lo 1 n
  refine W.item i s _ _ hg st fun v h' tk hv st' kk => ?_
  obtain ⟨t,rfl⟩ := hv
  have I1 : Inv X pins σ H { s with heap := h',toks := tk } := I.turned (fun b o hb e => kk b o (by simpa using hb) e) f0 f1 f3 f4 f5
  refine ⟨_,rfl,go_of (s := { s with heap := h',toks := tk }) (n := "range_iterator") st' rfl rfl (by decide) ⟨.int (lo + i),H,I1,⟨t,?_⟩,⟨rfl,rfl⟩,st',fun b hb => (hf b hb).1⟩⟩
  rw [Int.mul_one]
 done := by
  intro X hP hw hK hc i pins s σ H E I hf st hg
  subst hP hw hK
  obtain ⟨f0,f1,f2,f3,f4,f5⟩ := hf it (by simp)
  exact wpAny_pyNext_range_end (I.ok.hd hc) st (by have : n <= i := hg;omega) fun h' eb => ⟨rfl,I.turned (t' := s.toks) (fun b o hb e => eb b o hb e) f0 f1 f3 f4 f5⟩
 self := fun _ _ _ _ _ st h => wpAny_pyIter_rangeiter st h
end L2
namespace L2
open PySem PySem.Spec PyProof.Rows
section
variable {X : Cx} {tg : Expr}
def iList (K : PySem.W.Frag) (tl : TE) : TI := fun σ H R => tl σ H fun x H1 => ∃ a,x = .ref a /\ (∃ xs,SqL K H1 a xs) /\ R (Itl K a) H1
def iTup (K : PySem.W.Frag) (tl : TE) : TI := fun σ H R => tl σ H fun x H1 => ∃ a,x = .ref a /\ (∃ xs,SqT K H1 a xs) /\ R (Itt K a) H1
theorem pi_list {l : Expr} {tl : TE} (hl : PE X l tl) : PI X tg l (iList X.K tl) := by
 intro pins s σ H R I h
 refine thn (hl pins s σ H _ I h) fun v s1 ⟨x,H1,I1,r1,q1⟩ => ?_
 obtain ⟨a,e,⟨xs,hq⟩,q⟩ := q1
 subst e
 cases r1
 obtain ⟨its,rv,p,hz⟩ := I1.list hq
 refine wpAny_pyIter_list p.isList ?_
 refine ⟨s1.heap.objs.size,[s1.heap.objs.size],_,_,H1,rfl,I1.kept (t' := s1.toks) fun b o e => Heap.get?_push_of_some _ e,turn_list a _,⟨_,Heap.get?_push_size _ rfl,rfl,rfl⟩,fun b hb => ?_,q⟩
 have e : b = s1.heap.objs.size := by simpa using hb
 subst e
 exact I1.fpOk (Nat.le_refl _) (I1.hok.fresh (Nat.le_refl _))
theorem pi_tup {l : Expr} {tl : TE} (hl : PE X l tl) : PI X tg l (iTup X.K tl) := by
 intro pins s σ H R I h
 refine thn (hl pins s σ H _ I h) fun v s1 ⟨x,H1,I1,r1,q1⟩ => ?_
 obtain ⟨a,e,⟨xs,hq⟩,q⟩ := q1
 subst e
 cases r1
 obtain ⟨its,rv,p,hz⟩ := I1.tuple hq
 refine wpAny_pyIter_tuple (show s1.heap.IsTuple a its.toArray from p) ?_
 refine ⟨s1.heap.objs.size,[s1.heap.objs.size],_,_,H1,rfl,I1.kept (t' := s1.toks) fun b o e => Heap.get?_push_of_some _ e,turn_tuple a _,⟨_,Heap.get?_push_size _ rfl,rfl,rfl⟩,fun b hb => ?_,q⟩
 have e : b = s1.heap.objs.size := by simpa using hb
 subst e
 exact I1.fpOk (Nat.le_refl _) (I1.hok.fresh (Nat.le_refl _))
theorem range_it {pins : List (Addr × Obj)} {σ : St} {H : Hp} {s : Shared} {R : It -> Hp -> Prop} {E : Value -> Shared -> Prop} {lo hi : Int} {t u v : Tok} {tk : Nat} (I : Inv X pins σ H s) (h1 : -(2 ^ 62) <= lo) (h2 : lo < 2 ^ 62) (h3 : -(2 ^ 62) <= hi) (h4 : hi < 2 ^ 62)
  (q : R (Itr lo (hi - lo).toNat) H) : wpAny (model X.prog X.w) X.A (pyIter (.ref s.heap.objs.size)) (PIE X pins σ tg R) E { s with heap := s.heap.push { cls := .type "range",data := .fields #[.int lo t,.int hi u,.int 1 v] },toks := tk } := by
 refine wpAny_pyIter_range (IsRange.new ..) (small_one h1 h2 h3 h4) ?_
 have I1 : Inv X pins σ H { s with heap := s.heap.push { cls := .type "range",data := .fields #[.int lo t,.int hi u,.int 1 v] },toks := tk } := I.kept fun b o e => Heap.get?_push_of_some _ e
 refine ⟨(s.heap.push { cls := .type "range",data := .fields #[.int lo t,.int hi u,.int 1 v] }).objs.size,[(s.heap.push { cls := .type "range",data := .fields #[.int lo t,.int hi u,.int 1 v] }).objs.size],_,_,H,rfl,
  I1.kept (t' := tk) fun b o e => Heap.get?_push_of_some _ e,turn_range _ lo (hi - lo).toNat,?_,fun b hb => ?_,q⟩
 ·have e1 : lo + ((0 : Nat) : Int) * 1 = lo := by simp
  have e2 : (((hi - lo).toNat : Nat) : Int) - ((0 : Nat) : Int) = Builtin.Range.rangeSize lo hi 1 := by rw [rangeSize_one];split <;> omega
  show IsRangeIter _ _ (lo + ((0 : Nat) : Int) * 1) ((((hi - lo).toNat : Nat) : Int) - ((0 : Nat) : Int)) 1
  rw [e1,e2]
  exact Heap.get?_push_size _ rfl
 ·have e : b = (s.heap.push { cls := .type "range",data := .fields #[.int lo t,.int hi u,.int 1 v] }).objs.size := by simpa using hb
  subst e
  exact I1.fpOk (Nat.le_refl _) (I1.hok.fresh (Nat.le_refl _))
def iRng1 (ta : TA) : TI := fun σ H R => ta σ H fun vs H1 => ∃ j : Int,vs = [.int j] /\ -(2 ^ 62) <= j /\ j < 2 ^ 62 /\ R (Itr 0 j.toNat) H1
def iRng2 (ta : TA) : TI := fun σ H R => ta σ H fun vs H1 => ∃ i j : Int,vs = [.int i,.int j] /\ (-(2 ^ 62) <= i /\ i < 2 ^ 62 /\ -(2 ^ 62) <= j /\ j < 2 ^ 62) /\ R (Itr i (j - i).toNat) H1
theorem pi_range1 {a : Expr} {ta : TA} {p pos : Pos} (hg : Gl X "range") (hm : X.mg "range" = none) (ha : PA X [a] ta) (hs : starEach [a] X.env = [(false,eval a X.env)] := by rfl) : PI X tg (.Call (.Name "range" p) [a] [] pos) (iRng1 ta) := by
 intro pins s σ H R I h
 refine Call_ (ld_blt I hg hm boot_range (PyProof.Rows.callWith_type1 (thn (ha pos pins s σ H _ I h) fun us s1 ⟨vs,H1,I1,r1,q1⟩ => ?_) hs rfl))
 obtain ⟨j,e,q1,q2,q⟩ := q1
 subst e
 cases r1 with
 | cons r rr =>
  cases rr
  obtain ⟨t,rfl⟩ := r
  exact call_range_1 (range_it I1 (by omega) (by omega) q1 q2 (by simpa using q))
theorem pi_range2 {a b : Expr} {ta : TA} {p pos : Pos} (hg : Gl X "range") (hm : X.mg "range" = none) (ha : PA X [a,b] ta) (hs : starEach [a,b] X.env = [(false,eval a X.env),(false,eval b X.env)] := by rfl) (hs2 : starEach [b] X.env = [(false,eval b X.env)] := by rfl) :
  PI X tg (.Call (.Name "range" p) [a,b] [] pos) (iRng2 ta) := by
 intro pins s σ H R I h
 refine Call_ (ld_blt I hg hm boot_range (PyProof.Rows.callWith_type1 (thn (ha pos pins s σ H _ I h) fun us s1 ⟨vs,H1,I1,r1,q1⟩ => ?_) (by rw [hs,hs2]) (by rw [hs2];rfl)))
 obtain ⟨i,j,e,⟨q1,q2,q3,q4⟩,q⟩ := q1
 subst e
 cases r1 with
 | cons r rr =>
  cases rr with
  | cons r' rr =>
   cases rr
   obtain ⟨t,rfl⟩ := r
   obtain ⟨t',rfl⟩ := r'
   exact call_range_2 (range_it I1 q1 q2 q3 q4 q)
def tFor (wi : TI) (g : TG) (tb : TS) : TS := fun D σ H => wi σ H fun J H1 => ∃ W : Nat -> Nat -> St -> Hp -> Prop,(∃ m,W 0 m σ H1) /\ ∀ i m σ H,W i m σ H →
 (J.stop i H /\ D.nx σ H) ∨ (J.go i H /\ ∃ N : St -> Hp -> Prop,(∀ σ' H',N σ' H' -> ∃ m',m' < m /\ W (i + 1) m' σ' H') /\ ∀ x H',J.yld i H x H' -> g x σ H' fun σ2 H2 => tb { D with nx := N,ct := N,bk := D.nx } σ2 H2)
def pinsAt (fp : List Addr) (h : Heap) : List (Addr × Obj) := fp.filterMap fun b => (h.get? b).map fun o => (b,o)
theorem mem_pinsAt {fp : List Addr} {h : Heap} {b : Addr} {o : Obj} (hb : b ∈ fp) (e : h.get? b = some o) : (b,o) ∈ pinsAt fp h := List.mem_filterMap.mpr ⟨b,hb,by rw [e];rfl⟩
theorem of_pinsAt {fp : List Addr} {h : Heap} {p : Addr × Obj} (hp : p ∈ pinsAt fp h) : p.1 ∈ fp /\ h.get? p.1 = some p.2 := by
 obtain ⟨b,hb,e⟩ := List.mem_filterMap.mp hp
 cases q : h.get? b with
 | none => rw [q] at e;cases e
 | some o =>
  rw [q] at e
  have e' : (b,o) = p := Option.some.inj e
  subst e'
  exact ⟨hb,q⟩
theorem Inv.pinned {pins : List (Addr × Obj)} {σ : St} {H : Hp} {s : Shared} {fp : List Addr} (I : Inv X pins σ H s) (hf : ∀ b ∈ fp,FpOk X pins H b) (ho : ∀ b ∈ fp,∃ o,s.heap.get? b = some o /\ ∀ v,o.data ≠ .cell v) : Inv X (pins ++ pinsAt fp s.heap) σ H s :=
 I.pins_of fun p hp => (List.mem_append.mp hp).elim (fun z => I.pin p (List.mem_append_right _ z)) fun z => by
  obtain ⟨hb,e⟩ := of_pinsAt z
  obtain ⟨f0,f1,f2,_⟩ := hf p.1 hb
  obtain ⟨o,e',d⟩ := ho p.1 hb
  rw [e] at e';cases e'
  exact ⟨e,f0,f1,f2,d⟩
theorem Inv.unpinned {pins pl : List (Addr × Obj)} {σ : St} {H : Hp} {s : Shared} (I : Inv X (pins ++ pl) σ H s) : Inv X pins σ H s := I.pins_of fun p hp => I.pin p (List.mem_append_right _ (List.mem_append_left _ hp))
theorem ps_for {iter : Expr} {body : List Stmt} {wi : TI} {g : TG} {tb : TS} {pos : Pos} (hp : PassesOwn (model X.prog X.w) X.A X.env X.xe) (hc : X.calm = true) (hi : PI X tg iter wi) (hg : PG X tg g) (hb : PSs X body tb)
  (hs : ∀ x,foldedSetIterable iter X.env x = pure x := by intro _;rfl) : PS X (.For tg iter body [] pos) (tFor wi g tb) := by
 intro pins s σ H D I h
 refine wpAny_For (thn (hi pins s σ H _ I h) fun v s1 h1 => thn h1 fun itv s2 h2 => ?_) hs
 obtain ⟨it,fp,tn,J,H2,e,I2,T,st2,f2,W,⟨m0,w0⟩,turn⟩ := h2
 subst e
 have stat : ∀ {H' : Hp},(∀ b ∈ fp,H' b = none) -> ∀ b ∈ fp,FpOk X pins H' b := fun hn b hb => ⟨hn b hb,(f2 b hb).2⟩
 refine codeAny_forLoop_any (fun n s' => ∃ i σ' H',Inv X pins σ' H' s' /\ tn i s'.heap /\ (∀ b ∈ fp,H' b = none) /\ W i n σ' H') ?_ m0 ⟨0,σ,H2,I2,st2,fun b hb => (f2 b hb).1,w0⟩
 rintro n s3 ⟨i,σ3,H3,I3,st3,fr3,w3⟩
 rcases turn i n σ3 H3 w3 with ⟨stop,qn⟩ | ⟨go,N,hN,step⟩
 ·refine wpAny_passesOwn hp (thn (T.done X rfl rfl rfl hc i pins s3 σ3 H3 X.xe I3 (stat fr3) st3 stop) fun r s4 ⟨hr,I4⟩ => ?_)
  subst hr
  exact wpAny_execs_nil ⟨σ3,H3,I4,qn⟩
 ·refine wpAny_passesOwn hp (thn (T.item X rfl rfl rfl hc i pins s3 σ3 H3 X.xe I3 (stat fr3) st3 go) fun r s4 ⟨u,hr,h4⟩ => ?_)
  subst hr
  refine wpAny_passesOwn hp (thn h4 fun _ s5 ⟨x,H5,I5,r5,y5,st5,fr5⟩ => ?_)
  have I5' := I5.pinned (stat fr5) (T.obj _ _ st5)
  refine wpAny_passesOwn hp (thn (hg _ s5 σ3 H5 x u _ I5' r5 (step x H5 y5)) fun _ s6 ⟨σ6,H6,I6,q6⟩ => ?_)
  refine wpAny_passesOwn hp (thn (hb _ s6 σ6 H6 _ I6 q6) fun f s7 q7 => ?_)
  have again : ∀ {σ7 : St} {H7 : Hp},Inv X (pins ++ pinsAt fp s5.heap) σ7 H7 s7 -> N σ7 H7 -> ∃ m,m < n /\ ∃ i σ' H',Inv X pins σ' H' s7 /\ tn i s7.heap /\ (∀ b ∈ fp,H' b = none) /\ W i m σ' H' := fun {σ7 H7} I7 n7 => by
   obtain ⟨m',hm,w7⟩ := hN σ7 H7 n7
   refine ⟨m',hm,i + 1,σ7,H7,I7.unpinned,T.keep _ _ _ st5 fun b hb o e => (I7.pin (b,o) (List.mem_append_right _ (List.mem_append_right _ (mem_pinsAt hb e)))).1,fun b hb => ?_,w7⟩
   obtain ⟨o,e,d⟩ := T.obj _ _ st5 b hb
   exact (I7.pin (b,o) (List.mem_append_right _ (List.mem_append_right _ (mem_pinsAt hb e)))).2.1
  cases f with
  | next => obtain ⟨σ7,H7,I7,n7⟩ := q7;exact again I7 n7
  | cont => obtain ⟨σ7,H7,I7,n7⟩ := q7;exact again I7 n7
  | brk => obtain ⟨σ7,H7,I7,q7⟩ := q7;exact ⟨σ7,H7,I7.unpinned,q7⟩
  | ret v => obtain ⟨x7,σ7,H7,I7,r7,q7⟩ := q7;exact ⟨x7,σ7,H7,I7.unpinned,r7,q7⟩
end
end L2
namespace L2
open PySem PySem.Spec PyProof.Rows
abbrev R2 := V -> V -> Hp -> VK -> Prop
def OpR (X : Cx) (f : Value -> Value -> Sem Value) (r : R2) : Prop :=
 ∀ (pins : List (Addr × Obj)) (s : Shared) (σ : St) (H : Hp) (x y : V) (v u : Value) (Q : VK),Inv X pins σ H s -> RelV x v -> RelV y u -> r x y H Q →
  wpAny (model X.prog X.w) X.A (f v u) (EP X pins σ Q) X.xe s
def UnR (X : Cx) (f : Value -> Sem Value) (r : V -> Hp -> VK -> Prop) : Prop :=
 ∀ (pins : List (Addr × Obj)) (s : Shared) (σ : St) (H : Hp) (x : V) (v : Value) (Q : VK),Inv X pins σ H s -> RelV x v -> r x H Q →
  wpAny (model X.prog X.w) X.A (f v) (EP X pins σ Q) X.xe s
def CallR (X : Cx) (f : Value) (r : List V -> Hp -> VK -> Prop) : Prop :=
 ∀ (pins : List (Addr × Obj)) (s : Shared) (σ : St) (H : Hp) (xs : List V) (us : List Value) (Q : VK),Inv X pins σ H s -> Vals xs us -> r xs H Q →
  wpAny (model X.prog X.w) X.A (call f us) (EP X pins σ Q) X.xe s
def tOp (r : R2) (ta tb : TE) : TE := fun σ H Q => ta σ H fun x H1 => tb σ H1 fun y H2 => r x y H2 Q
def tUn (r : V -> Hp -> VK -> Prop) (ta : TE) : TE := fun σ H Q => ta σ H fun x H1 => r x H1 Q
def rI (C : Int -> Int -> Prop) (g : Int -> Int -> V) : R2 := fun x y H Q => ∃ i j,x = .int i /\ y = .int j /\ C i j /\ Q (g i j) H
def rI0 (g : Int -> Int -> V) : R2 := fun x y H Q => ∃ i j,x = .int i /\ y = .int j /\ Q (g i j) H
def rU (g : Int -> V) : V -> Hp -> VK -> Prop := fun x H Q => ∃ i,x = .int i /\ Q (g i) H
section
variable {X : Cx} {a b c : Expr} {ta tb tc : TE} {pos : Pos}
theorem binT (ha : PE X a ta) (hb : PE X b tb) {pins : List (Addr × Obj)} {s : Shared} {σ : St} {H : Hp} {R : V -> V -> Hp -> Prop} (I : Inv X pins σ H s)
  (h : ta σ H fun x H1 => tb σ H1 fun y H2 => R x y H2) {Q : Value -> Shared -> Prop} {f : Value -> Value -> Sem Value}
  (hf : ∀ v u s2 x y H2,Inv X pins σ H2 s2 -> RelV x v -> RelV y u -> R x y H2 -> wpAny (model X.prog X.w) X.A (f v u) Q X.xe s2) :
  wpAny (model X.prog X.w) X.A (eval a X.env) (fun v s₁ => wpAny (model X.prog X.w) X.A (eval b X.env) (fun u s₂ => wpAny (model X.prog X.w) X.A (f v u) Q X.xe s₂) X.xe s₁) X.xe s := by
 refine thn (ha pins s σ H _ I h) fun v s1 ⟨x,H1,I1,r1,q1⟩ => ?_
 refine thn (hb pins s1 σ H1 _ I1 q1) fun u s2 ⟨y,H2,I2,r2,q2⟩ => ?_
 exact hf v u s2 x y H2 I2 r1 r2 q2
theorem pe_op {op : Operator} {r : R2} (ho : OpR X (binaryOp op) r) (ha : PE X a ta) (hb : PE X b tb) : PE X (.BinOp a op b pos) (tOp r ta tb) := by
 intro pins s σ H Q I h
 exact wpAny_BinOp (binT ha hb I h fun v u s2 x y H2 I2 rx ry q => ho pins s2 σ H2 x y v u Q I2 rx ry q)
theorem pe_un {op : UnaryOp} {r : V -> Hp -> VK -> Prop} (ho : UnR X (unaryOp op) r) (ha : PE X a ta) : PE X (.UnaryOp op a pos) (tUn r ta) := by
 intro pins s σ H Q I h
 exact UnaryOp_ (thn (ha pins s σ H _ I h) fun v s1 ⟨x,H1,I1,r1,q1⟩ => ho pins s1 σ H1 x v Q I1 r1 q1)
theorem opI {f : Value -> Value -> Sem Value} {C : Int -> Int -> Prop} {g : Int -> Int -> Int}
  (rule : ∀ (i j : Int) (t u : Tok) (s : Shared) (Q : Value -> Shared -> Prop) (E : Value -> Shared -> Prop),C i j -> Q (.int (g i j) s.toks) { s with toks := s.toks + 1 } -> wpAny (model X.prog X.w) X.A (f (.int i t) (.int j u)) Q E s) :
  OpR X f (rI C fun i j => .int (g i j)) := by
 intro pins s σ H x y v u Q I rx ry h
 obtain ⟨i,j,rfl,rfl,hc,q⟩ := h
 obtain ⟨t,rfl⟩ := rx
 obtain ⟨t',rfl⟩ := ry
 exact rule i j t t' s _ _ hc ⟨.int (g i j),H,I.tok _,⟨_,rfl⟩,q⟩
theorem opI0 {f : Value -> Value -> Sem Value} {g : Int -> Int -> Int}
  (rule : ∀ (i j : Int) (t u : Tok) (s : Shared) (Q : Value -> Shared -> Prop) (E : Value -> Shared -> Prop),Q (.int (g i j) s.toks) { s with toks := s.toks + 1 } -> wpAny (model X.prog X.w) X.A (f (.int i t) (.int j u)) Q E s) :
  OpR X f (rI0 fun i j => .int (g i j)) := by
 intro pins s σ H x y v u Q I rx ry h
 obtain ⟨i,j,rfl,rfl,q⟩ := h
 obtain ⟨t,rfl⟩ := rx
 obtain ⟨t',rfl⟩ := ry
 exact rule i j t t' s _ _ ⟨.int (g i j),H,I.tok _,⟨_,rfl⟩,q⟩
theorem opB0 {f : Value -> Value -> Sem Value} {g : Int -> Int -> Bool}
  (rule : ∀ (i j : Int) (t u : Tok) (s : Shared) (Q : Value -> Shared -> Prop) (E : Value -> Shared -> Prop),Q (.bool (g i j)) s -> wpAny (model X.prog X.w) X.A (f (.int i t) (.int j u)) Q E s) :
  OpR X f (rI0 fun i j => .bl (g i j)) := by
 intro pins s σ H x y v u Q I rx ry h
 obtain ⟨i,j,rfl,rfl,q⟩ := h
 obtain ⟨t,rfl⟩ := rx
 obtain ⟨t',rfl⟩ := ry
 exact rule i j t t' s _ _ ⟨.bl (g i j),H,I,rfl,q⟩
def CDiv (i j : Int) : Prop := 0 < j /\ j < 1073741824
def CPow (i j : Int) : Prop := 0 <= j /\ j <= 1000000 /\ i.natAbs < 2 ^ 64
def CMul (i j : Int) : Prop := (-(2 ^ 64) < i /\ i < 2 ^ 64) ∨ (-(2 ^ 64) < j /\ j < 2 ^ 64)
theorem CMul.ok {i j : Int} (h : CMul i j) : IntMulOk i j := by
 rcases h with ⟨h1,h2⟩ | ⟨h1,h2⟩
 ·exact .of_left (intBits_le_64 h1 h2)
 ·exact .of_right (intBits_le_64 h1 h2)
theorem op_add : OpR X (binaryOp .Add) (rI0 fun i j => .int (i + j)) := opI0 fun _ _ _ _ _ _ _ q => add_int q
theorem op_sub : OpR X (binaryOp .Sub) (rI0 fun i j => .int (i - j)) := opI0 fun _ _ _ _ _ _ _ q => sub_int q
theorem op_mul : OpR X (binaryOp .Mult) (rI CMul fun i j => .int (i * j)) := opI fun _ _ _ _ _ _ _ hc q => mul_int q hc.ok
theorem op_fdiv : OpR X (binaryOp .FloorDiv) (rI CDiv fun i j => .int (i / j)) := opI fun i j _ _ _ _ _ hc q => by
 have h1 : (0 : Int) < j := hc.1
 have h2 : j < 1073741824 := hc.2
 exact floordiv_int (by omega) (by rw [Int.fdiv_eq_ediv_of_nonneg i (by omega)];exact q) (.inl (PyProof.noPylong_small (by omega)))
theorem op_mod : OpR X (binaryOp .Mod) (rI (fun _ j => 0 < j) fun i j => .int (i % j)) := opI fun i j _ _ _ _ _ hc q => by
 have h1 : (0 : Int) < j := hc
 exact mod_int' (by omega) (by rw [Int.fmod_eq_emod_of_nonneg i (by omega)];exact q)
theorem op_pow : OpR X (binaryOp .Pow) (rI CPow fun i j => .int (i ^ j.toNat)) := opI fun _ _ _ _ _ _ _ hc q => pow_int_small hc.1 hc.2.1 hc.2.2 q
theorem unI {f : Value -> Sem Value} {g : Int -> Int}
  (rule : ∀ (i : Int) (t : Tok) (s : Shared) (Q : Value -> Shared -> Prop) (E : Value -> Shared -> Prop),Q (.int (g i) s.toks) { s with toks := s.toks + 1 } -> wpAny (model X.prog X.w) X.A (f (.int i t)) Q E s) :
  UnR X f (rU fun i => .int (g i)) := by
 intro pins s σ H x v Q I rx h
 obtain ⟨i,rfl,q⟩ := h
 obtain ⟨t,rfl⟩ := rx
 exact rule i t s _ _ ⟨.int (g i),H,I.tok _,⟨_,rfl⟩,q⟩
theorem un_neg : UnR X (unaryOp .USub) (rU fun i => .int (-i)) := unI fun _ _ _ _ _ q => neg_int q
end
section
variable {X : Cx} {a b c : Expr} {ta tb tc : TE} {pos : Pos}
theorem fin_bl {pins : List (Addr × Obj)} {σ : St} {H : Hp} {s : Shared} {Q : VK} {k k' : Bool} (I : Inv X pins σ H s) (q : Q (.bl k) H) (e : k = k') : EP X pins σ Q (.bool k') s := by
 subst e
 exact ⟨.bl k,H,I,rfl,q⟩
theorem op_lt : OpR X (compareOp .Lt) (rI0 fun i j => .bl (decide (i < j))) := opB0 fun _ _ _ _ _ _ _ q => lt_int q
theorem op_le : OpR X (compareOp .LtE) (rI0 fun i j => .bl (decide (i <= j))) := opB0 fun _ _ _ _ _ _ _ q => le_int q
theorem op_gt : OpR X (compareOp .Gt) (rI0 fun i j => .bl (decide (j < i))) := opB0 fun _ _ _ _ _ _ _ q => gt_int q
theorem op_isN : OpR X (compareOp .Is) (fun x y H Q => y = .non /\ Q (.bl (decide (x = .non))) H) := by
 intro pins s σ H x y v u Q I rx ry h
 obtain ⟨rfl,q⟩ := h
 cases ry
 refine is_none_gen (fin_bl I q ?_)
 cases x <;> first
  | (cases rx;rfl)
  | (obtain ⟨t,rfl⟩ := rx;rfl)
theorem op_notN : OpR X (compareOp .IsNot) (fun x y H Q => y = .non /\ Q (.bl (!decide (x = .non))) H) := by
 intro pins s σ H x y v u Q I rx ry h
 obtain ⟨rfl,q⟩ := h
 cases ry
 refine isnot_none_gen (fin_bl I q ?_)
 cases x <;> first
  | (cases rx;rfl)
  | (obtain ⟨t,rfl⟩ := rx;rfl)
theorem OpR.or {f : Value -> Value -> Sem Value} {r r' : R2} (h : OpR X f r) (h' : OpR X f r') : OpR X f (fun x y H Q => r x y H Q ∨ r' x y H Q) := by
 intro pins s σ H x y v u Q I rx ry q
 rcases q with q | q
 ·exact h pins s σ H x y v u Q I rx ry q
 ·exact h' pins s σ H x y v u Q I rx ry q
theorem nomark (b : Expr) {op : CmpOp} (h : op ≠ .In := by decide) (h2 : op ≠ .NotIn := by decide) : behindInMarks op b = false := by
 have e1 : (op == CmpOp.In) = false := by cases op <;> first | rfl | exact absurd rfl h
 have e2 : (op == CmpOp.NotIn) = false := by cases op <;> first | rfl | exact absurd rfl h2
 cases b <;> simp [behindInMarks,e1,e2]
theorem pe_cmpR {op : CmpOp} {r : R2} (ho : OpR X (compareOp op) r) (ha : PE X a ta) (hb : PE X b tb) (hm : behindInMarks op b = false) : PE X (.Compare a [op] [b] pos) (tOp r ta tb) := by
 intro pins s σ H Q I h
 exact wpAny_Compare1 (binT ha hb I h fun v u s2 x y H2 I2 rx ry q => ho pins s2 σ H2 x y v u Q I2 rx ry q) hm
def tTest (t : TE) : TT := fun σ H Q => t σ H fun x H' => ∃ k,x = .bl k /\ Q k H'
theorem pt_cmpR {op : CmpOp} {r : R2} (ho : OpR X (compareOp op) r) (ha : PE X a ta) (hb : PE X b tb) (hm : behindInMarks op b = false) : PT X (.Compare a [op] [b] pos) (tTest (tOp r ta tb)) := by
 intro pins s σ H Q I h
 refine wpAny_isTrue_Compare1 (thn (ha pins s σ H _ I h) fun v s1 ⟨x,H1,I1,r1,q1⟩ => thn (hb pins s1 σ H1 _ I1 q1) fun u s2 ⟨y,H2,I2,r2,q2⟩ =>
  thn (ho pins s2 σ H2 x y v u _ I2 r1 r2 q2) fun c s3 ⟨z,H3,I3,r3,k,e,q3⟩ => ?_) hm
 subst e
 cases r3
 exact wpAny_truthy_bool ⟨H3,I3,q3⟩
def tChain (r r' : R2) (ta tb tc : TE) : TE := fun σ H Q => ta σ H fun x H1 => tb σ H1 fun y H2 => r x y H2 fun z H3 => ∃ k,z = .bl k ∧
 (if k = true then tc σ H3 fun w' H4 => r' y w' H4 Q else Q (.bl false) H3)
theorem pe_chain {op op' : CmpOp} {r r' : R2} (ho : OpR X (compareOp op) r) (ho' : OpR X (compareOp op') r') (ha : PE X a ta) (hb : PE X b tb) (hc : PE X c tc)
  (hm : lastMarks [op,op'] [b,c] = false := by with_unfolding_all rfl) : PE X (.Compare a [op,op'] [b,c] pos) (tChain r r' ta tb tc) := by
 intro pins s σ H Q I h
 refine Compare_chain (thn (ha pins s σ H _ I h) fun v s1 ⟨x,H1,I1,r1,q1⟩ => chain_link (thn (hb pins s1 σ H1 _ I1 q1) fun u s2 ⟨y,H2,I2,r2,q2⟩ =>
  thn (ho pins s2 σ H2 x y v u _ I2 r1 r2 q2) fun d s3 ⟨z,H3,I3,r3,k,e,q3⟩ => ?_)) hm
 subst e
 cases r3
 refine wpAny_truthy_bool ?_
 cases k with
 | false => exact ite_ff ⟨.bl false,H3,I3,rfl,q3⟩
 | true => exact ite_tt (chain_last (thn (hc pins s3 σ H3 _ I3 q3) fun w' s4 ⟨z',H4,I4,r4,q4⟩ => ho' pins s4 σ H4 y z' u w' Q I4 r2 r4 q4))
theorem pt_chain {op op' : CmpOp} {r r' : R2} (ho : OpR X (compareOp op) r) (ho' : OpR X (compareOp op') r') (ha : PE X a ta) (hb : PE X b tb) (hc : PE X c tc)
  (hm : lastMarks [op,op'] [b,c] = false := by with_unfolding_all rfl) : PT X (.Compare a [op,op'] [b,c] pos) (tTest (tChain r r' ta tb tc)) := by
 intro pins s σ H Q I h
 refine isTrue_chain (thn (ha pins s σ H _ I h) fun v s1 ⟨x,H1,I1,r1,q1⟩ => test_link (thn (hb pins s1 σ H1 _ I1 q1) fun u s2 ⟨y,H2,I2,r2,q2⟩ =>
  thn (ho pins s2 σ H2 x y v u _ I2 r1 r2 q2) fun d s3 ⟨z,H3,I3,r3,k,e,q3⟩ => ?_)) hm
 subst e
 cases r3
 refine wpAny_truthy_bool ?_
 cases k with
 | false =>
  obtain ⟨k',e',q'⟩ := q3
  cases e'
  exact ite_ff ⟨H3,I3,q'⟩
 | true =>
  refine ite_tt (test_last (thn (hc pins s3 σ H3 _ I3 q3) fun w' s4 ⟨z',H4,I4,r4,q4⟩ => thn (ho' pins s4 σ H4 y z' u w' _ I4 r2 r4 q4) fun d' s5 ⟨z2,H5,I5,r5,k2,e2,q5⟩ => ?_))
  subst e2
  cases r5
  exact wpAny_truthy_bool ⟨H5,I5,q5⟩
theorem line63 : (sizeLine : Nat) < 2 ^ 63 := by rw [sizeLine_eq];decide
theorem op_add_str : OpR X (binaryOp .Add) (fun x y H Q => ∃ i j,x = .str i /\ y = .str j /\ i.length + j.length <= sizeLine /\ Q (.str (i ++ j)) H) := by
 intro pins s σ H x y v u Q I rx ry h
 obtain ⟨i,j,rfl,rfl,hz,q⟩ := h
 obtain ⟨t,rfl⟩ := rx
 obtain ⟨t',rfl⟩ := ry
 exact add_str (fun t' tk => ⟨.str (i ++ j),H,I.tok _,⟨_,rfl⟩,q⟩) hz
theorem vals1 {x : V} {us : List Value} (r : Vals [x] us) : ∃ u,us = [u] /\ RelV x u := by
 cases r with
 | cons r1 r2 => cases r2;exact ⟨_,rfl,r1⟩
theorem vals2 {x y : V} {us : List Value} (r : Vals [x,y] us) : ∃ u w',us = [u,w'] /\ RelV x u /\ RelV y w' := by
 cases r with
 | cons r1 r2 =>
  cases r2 with
  | cons r3 r4 => cases r4;exact ⟨_,_,rfl,r1,r3⟩
theorem call_max2 (hc : X.calm = true) : CallR X (.builtin "max") (fun xs H Q => ∃ i j,xs = [.int i,.int j] /\ Q (.int (if j > i then j else i)) H) := by
 intro pins s σ H xs us Q I r h
 obtain ⟨i,j,rfl,q⟩ := h
 obtain ⟨u,w',rfl,⟨t,rfl⟩,⟨t',rfl⟩⟩ := vals2 r
 refine max_two_ints (I.ok.hd hc) fun h' tk k => ⟨_,H,I.kept k,?_,q⟩
 by_cases hj : j > i
 ·rw [if_pos hj,if_pos hj];exact ⟨_,rfl⟩
 ·rw [if_neg hj,if_neg hj];exact ⟨_,rfl⟩
theorem call_min2 (hc : X.calm = true) : CallR X (.builtin "min") (fun xs H Q => ∃ i j,xs = [.int i,.int j] /\ Q (.int (if j < i then j else i)) H) := by
 intro pins s σ H xs us Q I r h
 obtain ⟨i,j,rfl,q⟩ := h
 obtain ⟨u,w',rfl,⟨t,rfl⟩,⟨t',rfl⟩⟩ := vals2 r
 refine min_two_ints (I.ok.hd hc) fun h' tk k => ⟨_,H,I.kept k,?_,q⟩
 by_cases hj : j < i
 ·rw [if_pos hj,if_pos hj];exact ⟨_,rfl⟩
 ·rw [if_neg hj,if_neg hj];exact ⟨_,rfl⟩
end
end L2
namespace L2
open PySem PySem.Spec PyProof.Rows
structure ObjM (h : Heap) (x dx C : Addr) (mA : Str -> Option Value) : Prop where
 obj : h.get? x = some (PySem.W.instObj C dx)
 ns : h.Ns1 dx mA
 ne : dx ≠ x
theorem lookIn_ns {h : Heap} {dx : Addr} {mA : Str -> Option Value} (n : h.Ns1 dx mA) : ∃ od,h.get? dx = some od /\ ∀ name,PySem.W.lookIn name od = some (mA name) := by
 obtain ⟨o,es,ep,ho,hd,hk,_,hm⟩ := n
 refine ⟨o,ho,fun name => ?_⟩
 have e := hm name
 unfold nsFind findBy at e
 rw [<- Array.find?_toList] at e
 unfold PySem.W.lookIn
 rw [hd]
 dsimp only
 split
 ·rename_i y q
  rw [q] at e
  exact congrArg some e
 ·rename_i q
  rw [q] at e
  have a : es.toList.any (·.refKey) = false := by
   rw [List.any_eq_false]
   intro y hy
   obtain ⟨z,t,hkey⟩ := hk y (Array.mem_toList_iff.mp hy)
   simp [DictEntry.refKey,hkey]
  have a' : ¬ es.toList.any (·.refKey) = true := by rw [a];exact Bool.false_ne_true
  rw [if_neg a']
  exact congrArg some e
theorem ObjM.look {h : Heap} {x dx C : Addr} {mA : Str -> Option Value} (I : ObjM h x dx C mA) : ∃ od,PySem.W.InstAt h x (PySem.W.instObj C dx) C (some od) /\ ∀ name,PySem.W.lookIn name od = some (mA name) :=
 let ⟨od,ho,hl⟩ := lookIn_ns I.ns
 ⟨od,⟨I.obj,rfl,rfl,ho⟩,hl⟩
theorem RelO.some_of {v : V} {o : Option Value} (r : RelO (some v) o) : ∃ u,o = some u /\ RelV v u := by
 cases o with
 | none => exact (show False from r).elim
 | some u => exact ⟨u,rfl,r⟩
section
variable {P : Program} {w : World} {H H' : Hp} {h h' : Heap} {a C dx : Addr} {fs fs' : List (Str × V)}
theorem ins_get (hok : HOk P w H h) (e : H a = some (.ins C dx fs)) : ∃ mA,ObjM h a dx C mA /\ (∀ f,RelO (fs.lookup f) (mA f)) /\ PySem.Within mA (fs.map (·.1)) /\ fs.length <= 1000 /\ H dx = some (.own a) := by
 obtain ⟨d,z,ne,ob,mA,n,r,q⟩ := (show ObjOk P w H h a (.ins C dx fs) from hok a _ e)
 exact ⟨mA,⟨ob,n,ne⟩,r,q,z,d⟩
end
structure Cls (K : PySem.W.Frag) (C : Addr) : Prop where
 pg : PySem.W.plainGet K C Str.empty = true
 hd : PySem.W.hasDictIn K C = true
 po : PySem.W.plainOver K C = true
 sa : PySem.W.findIn K (.ref C) "__setattr__" = some (some (.builtin "object.__setattr__"))
theorem Cls.get {K : PySem.W.Frag} {C : Addr} (c : Cls K C) (f : Str) : PySem.W.plainGet K C f = true := c.pg
section
variable {X : Cx} {pins : List (Addr × Obj)} {σ : St} {H : Hp} {s : Shared} {A : Around} {E : Value -> Shared -> Prop} {Q : Value -> Shared -> Prop} {c : Value} {b : Bool}
inductive TyOf (K : PySem.W.Frag) (H : Hp) : V -> Value -> Prop where
 | non : TyOf K H .non (.type "NoneType")
 | bl (x : Bool) : TyOf K H (.bl x) (.type "bool")
 | int (i : Int) : TyOf K H (.int i) (.type "int")
 | str (x : Str) : TyOf K H (.str x) (.type "str")
 | flt (x : UInt64) : TyOf K H (.flt x) (.type "float")
 | lst {a : Addr} {xs : List V} (e : H a = some (.lst xs)) : TyOf K H (.ref a) (.type "list")
 | frz {a : Addr} {o : Obj} {xs : List V} (e : H a = some (.frz o (.lst xs))) : TyOf K H (.ref a) (.type "list")
 | tup {a : Addr} {xs : List V} (e : H a = some (.tup xs)) : TyOf K H (.ref a) (.type "tuple")
 | dK {a : Addr} {kvs : List (Key × V)} (e : H a = some (.dK kvs)) : TyOf K H (.ref a) (.type "dict")
 | dT {a : Addr} {kvs : List (List Key × V)} (e : H a = some (.dT kvs)) : TyOf K H (.ref a) (.type "dict")
 | ins {a C dx : Addr} {fs : List (Str × V)} (e : H a = some (.ins C dx fs)) (cl : Cls K C) (ha : PySem.W.findIn K (.ref C) "__class__" = some (some (.builtin "object.__class__")))
   (hn : PySem.W.specialIn K (.builtin "object.__class__") "__get__" = some (some (.builtin "getset_descriptor.__get__"))) (htk : PySem.W.takesIn K (.builtin "object.__class__") = some true)
   (hm : PySem.W.mroIn K C (.type "object") = some true) : TyOf K H (.ref a) (.ref C)
theorem isinst_ok {x : V} {u t : Value} (I : Inv X pins σ H s) (rx : RelV x u) (ty : TyOf X.K H x t) (e : PySem.W.kitOne X.K t c = some b) (h : ∀ tk,Q (.bool b) { s with toks := tk }) :
  wpAny (model X.prog X.w) A (call (.builtin "isinstance") [u,c]) Q E s := by
 cases ty with
 | non => cases (show u = Value.none from rx);exact PySem.W.kia_one PySem.W.kitx_none I.kIn True.intro e (fun z => nomatch z) h
 | bl y => cases (show u = Value.bool y from rx);exact PySem.W.kia_one PySem.W.kitx_bool I.kIn True.intro e (fun z => nomatch z) h
 | int i => obtain ⟨t,q⟩ := (show ∃ t,u = Value.int i t from rx);cases q;exact PySem.W.kia_one PySem.W.kitx_int I.kIn True.intro e (fun z => nomatch z) h
 | str y => obtain ⟨t,q⟩ := (show ∃ t,u = Value.str y t from rx);cases q;exact PySem.W.kia_one PySem.W.kitx_str I.kIn True.intro e (fun z => nomatch z) h
 | flt y => obtain ⟨t,q⟩ := (show ∃ t,u = Value.float y t from rx);cases q;exact PySem.W.kia_one PySem.W.kitx_float I.kIn True.intro e (fun z => nomatch z) h
 | @lst a xs ea =>
  cases (show u = Value.ref a from rx)
  obtain ⟨_,_,n,_,h1⟩ := (show ObjOk X.prog X.w H s.heap a (.lst xs) from I.hok a _ ea)
  exact PySem.W.kia_one PySem.W.kitx_list I.kIn ⟨_,h1,rfl⟩ e (fun z => nomatch z) h
 | @frz a ob xs ea =>
  cases (show u = Value.ref a from rx)
  obtain ⟨_,_,_,n,_,h1⟩ := (show ObjOk X.prog X.w H s.heap a (.frz ob (.lst xs)) from I.hok a _ ea)
  exact PySem.W.kia_one PySem.W.kitx_list I.kIn ⟨_,h1,rfl⟩ e (fun z => nomatch z) h
 | @tup a xs ea =>
  cases (show u = Value.ref a from rx)
  obtain ⟨_,_,_,p⟩ := (show ObjOk X.prog X.w H s.heap a (.tup xs) from I.hok a _ ea)
  obtain ⟨o,h1,h2,_⟩ := p
  exact PySem.W.kia_one PySem.W.kitx_tuple I.kIn ⟨o,h1,h2⟩ e (fun z => nomatch z) h
 | @dK a kvs ea =>
  cases (show u = Value.ref a from rx)
  obtain ⟨_,_,vs,_,p⟩ := (show ObjOk X.prog X.w H s.heap a (.dK kvs) from I.hok a _ ea)
  obtain ⟨o,es,ep,h1,h2,_⟩ := p
  exact PySem.W.kia_one PySem.W.kitx_dict I.kIn ⟨o,h1,h2.1⟩ e (fun z => nomatch z) h
 | @dT a kvs ea =>
  cases (show u = Value.ref a from rx)
  obtain ⟨_,_,xs,_,o,es,ep,h1,h2,_⟩ := (show ObjOk X.prog X.w H s.heap a (.dT kvs) from I.hok a _ ea)
  exact PySem.W.kia_one PySem.W.kitx_dict I.kIn ⟨o,h1,h2.1⟩ e (fun z => nomatch z) h
 | @ins a C dx fs ea cl ha hn htk hm =>
  cases (show u = Value.ref a from rx)
  obtain ⟨mA,O,_⟩ := ins_get I.hok ea
  obtain ⟨od,J,_⟩ := O.look
  exact PySem.W.kia_one (PySem.W.kitx_own (cl.get _) cl.hd ha hn htk hm) I.kIn J e (fun z => nomatch z) h
end
end L2
namespace L2
open PySem PySem.Spec PyProof.Rows
structure Room (k : Nat) (A : Around) : Prop where
 hd : A.handled = none
 dp : A.depth + 3 * k + 5 < recursionLimit
 un : A.units + 16 * k + 200 < cLine
theorem Room.mono {j k : Nat} {A : Around} (r : Room k A) (h : j <= k) : Room j A := ⟨r.hd,by have := r.dp;omega,by have := r.un;omega⟩
theorem Room.deeper {k : Nat} {A : Around} (r : Room (k + 1) A) (env : Env) : Room k (A.deeper env) :=
 ⟨r.hd,by have := r.dp;show A.depth + 1 + 3 * k + 5 < _;omega,by have := r.un;show A.units + 3 + 16 * k + 200 < _;omega⟩
theorem Room.depth {k : Nat} {A : Around} (r : Room k A) : A.depth < recursionLimit := by have := r.dp;omega
theorem Room.units {k : Nat} {A : Around} (r : Room k A) : A.units + 64 < cLine := by have := r.un;omega
def tNil : TA := fun _ H Q => Q [] H
def tCons (ta : TE) (tr : TA) : TA := fun σ H Q => ta σ H fun x H1 => tr σ H1 fun xs H2 => Q (x :: xs) H2
section
variable {X : Cx} {e : Expr} {es : List Expr} {te : TE} {t : TA} {pos : Pos}
theorem pa_nil : PA X [] tNil := fun _ _ _ _ H Q I h => Calls.spliced_nil ⟨[],H,I,.nil,h⟩
theorem pa_cons (ha : PE X e te) (hr : PA X es t) (hs : starEach (e :: es) X.env = (false,eval e X.env) :: starEach es X.env := by rfl) : PA X (e :: es) (tCons te t) := by
 intro pos pins s σ H Q I h
 rw [hs]
 show wpAny _ _ (spliced ((false,eval e X.env) :: backTo pos (starEach es X.env))) _ _ s
 refine Calls.spliced_cons (thn (ha pins s σ H _ I h) fun u s1 ⟨x,H1,I1,r1,q1⟩ => ?_)
 exact thn (hr pos pins s1 σ H1 _ I1 q1) fun us s2 ⟨xs,H2,I2,r2,q2⟩ => ⟨x :: xs,H2,I2,.cons r1 r2,q2⟩
def tTup (t : TA) : TE := fun σ H Q => t σ H fun xs H1 => xs.length <= sizeLine /\ ∀ p,H1 p = none -> Q (.ref p) (upd H1 p (.tup xs))
def tLst (t : TA) : TE := fun σ H Q => t σ H fun xs H1 => xs.length <= sizeLine /\ ∀ p,H1 p = none -> Q (.ref p) (upd H1 p (.lst xs))
theorem pe_tup {x1} (h : PA X es t) : PE X (.Tuple es x1 pos) (tTup t) := by
 intro pins s σ H Q I hq
 refine wpAny_Tuple_spliced (thn (h pos pins s σ H _ I hq) fun us s1 ⟨xs,H1,I1,r,z,q⟩ => ⟨by rw [<- r.length];exact z,?_⟩)
 have hf : H1 s1.heap.objs.size = none := I1.hok.fresh (Nat.le_refl _)
 refine ⟨.ref s1.heap.objs.size,upd H1 s1.heap.objs.size (.tup xs),I1.laid (t' := s1.toks) (fun b u e => Heap.get?_push_of_some _ e) (Nat.le_refl _) ?_,rfl,q _ hf⟩
 exact ⟨z,us,r,⟨_,Heap.get?_push_size _ rfl,rfl,_,rfl⟩⟩
theorem pe_lst (h : PA X es t) : PE X (.List es pos) (tLst t) := by
 intro pins s σ H Q I hq
 refine wpAny_List_spliced (thn (h pos pins s σ H _ I hq) fun us s1 ⟨xs,H1,I1,r,z,q⟩ => ⟨by rw [<- r.length];exact z,?_⟩)
 have hf : H1 s1.heap.objs.size = none := I1.hok.fresh (Nat.le_refl _)
 refine ⟨.ref s1.heap.objs.size,upd H1 s1.heap.objs.size (.lst xs),I1.laid (t' := s1.toks) (fun b u e => Heap.get?_push_of_some _ e) (Nat.le_refl _) ?_,rfl,q _ hf⟩
 exact ⟨z,us,0,r,Heap.get?_push_size _ rfl⟩
end
abbrev Sp := List V -> Hp -> VK -> XK -> Prop
abbrev CXT := List Env -> Hp -> Shared -> XK -> Value -> Shared -> Prop
structure Env0 (P : Program) (w : World) (K : PySem.W.Frag) (mg : Str -> Option Value) (base : Heap) (A : Around) (outer : List Env) (s : Shared) (H : Hp) : Prop where
 frames : A.frames = some outer
 mod : Mod K mg base
 bs : ∀ b o,base.get? b = some o -> s.heap.get? b = some o /\ H b = none
 bsz : base.objs.size <= s.heap.objs.size
 funs : s.heap.FunFrames base outer
 frf : ∀ b ∈ frs outer,H b = none
 hok : HOk P w H s.heap
 bare : AllBare s.gens
def CE (outer : List Env) (P : Program) (w : World) (H : Hp) (s : Shared) (Q : VK) (u : Value) (s' : Shared) : Prop :=
 ∃ v H',s'.os = s.os /\ AllBare s'.gens /\ Un (frs outer) [] H H' s.heap s'.heap /\ HOk P w H' s'.heap /\ RelV v u /\ Q v H'
def CR (CX : CXT) (outer : List Env) (P : Program) (w : World) (H : Hp) (s : Shared) (Q : VK) (E : XK) (r : Result) (s' : Shared) : Prop :=
 match r with
 | .ok (.ret u) => CE outer P w H s Q u s'
 | .ok _ => False
 | .error e => CX outer H s E e s'
structure FnOk (P : Program) (w : World) (K : PySem.W.Frag) (mg : Str -> Option Value) (base : Heap) (CX : CXT) (k : Nat) (f : Addr) (fd : FuncData) (ps : List Str) (sp : Sp) : Prop where
 len : ∀ vs H Q E,sp vs H Q E -> vs.length = ps.length
 run : ∀ (A : Around) (outer : List Env) (s : Shared) (H : Hp) (args : Args) (us : List Value) (vs : List V) (Q : VK) (E : XK),Room k A -> Env0 P w K mg base A outer s H -> BindsTo s fd args (ps.zip us) -> Vals vs us -> sp vs H Q E →
  codeAny (model P w) A (.call (.ref f) args) (CR CX outer P w H s Q E) s
section
variable {X : Cx} {pins : List (Addr × Obj)} {σ : St} {H : Hp} {s s' : Shared}
theorem Inv.env0 (I : Inv X pins σ H s) : Env0 X.prog X.w X.K X.mg X.base X.A X.stack s H :=
 ⟨I.ok.frames,I.ok.mod,I.bs,Nat.le_trans I.ok.bsz I.sz,I.stack,I.stkFree,I.hok,I.bare⟩
theorem Inv.after {Q : VK} {u : Value} (I : Inv X pins σ H s) (h : CE X.stack X.prog X.w H s Q u s') : EP X pins σ Q u s' := by
 obtain ⟨v,H',os,bare,un,hok,r,q⟩ := h
 obtain ⟨hh,g,d,t,os'⟩ := s'
 obtain rfl : os' = s.os := os
 exact ⟨v,H',I.call (h' := hh) (g' := g) (d' := d) (t' := t) (ch := []) un hok bare (fun b z => absurd z (by simp)),r,q⟩
end
def tCall (sp : Sp) (dvs : List V) (E : XK) (t : TA) : TE := fun σ H Q => t σ H fun vs H1 => sp (vs ++ dvs) H1 Q E
def Binds (K : PySem.W.Frag) (fd : FuncData) (ps : List Str) (ds : List Value) : Prop :=
 ∀ (s : Shared) (us : List Value),K.In s.heap -> (us ++ ds).length = ps.length -> BindsTo s fd ⟨us,[]⟩ (ps.zip (us ++ ds))
theorem Binds.all {K : PySem.W.Frag} {fd : FuncData} {ps : List Str} (h : ∀ us : List Value,us.length = ps.length -> bindArgs fd ⟨us,[]⟩ = pure (ps.zip us)) : Binds K fd ps [] := fun s us _ hl => by
 rw [List.append_nil] at hl ⊢
 exact .of_eq (h us hl)
def Passes (CX : CXT) (X : Cx) (E : XK) : Prop := ∀ (pins : List (Addr × Obj)) (σ : St) (H : Hp) (s : Shared) (e : Value) (s' : Shared),Inv X pins σ H s -> CX X.stack H s E e s' -> X.xe e s'
section
variable {X : Cx} {CX : CXT} {k : Nat} {f C : Addr} {fd : FuncData} {ps : List Str} {sp : Sp} {dvs : List V} {ds : List Value} {E : XK} {x m : Str} {p pos apos : Pos} {e o : Expr} {es : List Expr} {ta : TE} {t : TA}
theorem run_fn {pins : List (Addr × Obj)} {σ : St} {H : Hp} {s : Shared} {Q : VK} {us : List Value} {vs : List V} (F : FnOk X.prog X.w X.K X.mg X.base CX k f fd ps sp) (hr : Room k X.A) (hb : Binds X.K fd ps ds) (hd : Vals dvs ds) (hx : Passes CX X E)
  (I : Inv X pins σ H s) (r : Vals vs us) (h : sp (vs ++ dvs) H Q E) : wpAny (model X.prog X.w) X.A (call (.ref f) us) (EP X pins σ Q) X.xe s := by
 have r2 : Vals (vs ++ dvs) (us ++ ds) := r.append hd
 have hl : (us ++ ds).length = ps.length := by rw [<- r2.length];exact F.len _ _ _ _ h
 refine wpAny_call (codeAny_mono (F.run X.A X.stack s H ⟨us,[]⟩ (us ++ ds) (vs ++ dvs) Q E hr I.env0 (hb s us I.kIn hl) r2 h) fun r s' hq => ?_)
 cases r with
 | error e => exact hx pins σ H s e s' I hq
 | ok fl =>
  cases fl with
  | ret u => exact I.after hq
  | next => exact False.elim hq
  | brk => exact False.elim hq
  | cont => exact False.elim hq
theorem pe_call (F : FnOk X.prog X.w X.K X.mg X.base CX k f fd ps sp) (hr : Room k X.A) (hg : Gl X x) (hm : X.mg x = some (.ref f)) (hk : PySem.W.keepIn X.K (.ref f) = true) (hb : Binds X.K fd ps ds) (hd : Vals dvs ds) (hx : Passes CX X E)
  (ha : PA X (e :: es) t) (hdb : (x == ("__debug__" : Str)) = false := by decide) (he : starEach (e :: es) X.env = (false,eval e X.env) :: starEach es X.env := by rfl) (hpl : (backTo pos (starEach es X.env)).any (·.1) = false := by rfl) :
  PE X (.Call (.Name x p) (e :: es) [] pos) (tCall sp dvs E t) := by
 intro pins s σ H Q I h
 refine wpAny_Call_Name_kw (ld_glob I hg hm ?_ hdb)
 refine PySem.W.callWith_K (h₀ := X.base) I.ok.mod.kin hk (thn (ha pos pins s σ H _ I h) fun us s1 ⟨vs,H1,I1,r,q⟩ => ⟨I1.kIn,?_⟩) he hpl
 exact run_fn F hr hb hd hx I1 r q
end
structure FnScope (N P : List Str) (sc : Scope) : Prop where
 kind : sc.kind = .function
 co : sc.isCoroutine = false
 gen : sc.isGenerator = false
 nd : N.Nodup
 pre : N.take P.length = P
 par : ∀ x ∈ P,sc.names.lookup x = some .local ∨ sc.names.lookup x = some .cell
 nofree : ∀ y ∈ sc.names,y.2 ≠ .free
theorem bindL_out {kindOf : Str -> Option NameKind} {x : Str} : ∀ {binds : List (Str × Value)} {m : Str -> Option Value},(∀ v,(x,v) ∉ binds) -> bindL kindOf binds m x = m x
 | [],_,_ => rfl
 | (n,v) :: r,m,h => by
  unfold bindL
  rw [bindL_out fun w hw => h w (List.mem_cons_of_mem _ hw)]
  split
  ·have : x ≠ n := by rintro rfl;exact h v List.mem_cons_self
   simp [this]
  ·rfl
theorem bindC_out {kindOf : Str -> Option NameKind} {x : Str} : ∀ {binds : List (Str × Value)} {m : Str -> Option Value},(∀ v,(x,v) ∉ binds) -> bindC kindOf binds m x = m x
 | [],_,_ => rfl
 | (n,v) :: r,m,h => by
  unfold bindC
  rw [bindC_out fun w hw => h w (List.mem_cons_of_mem _ hw)]
  split
  ·rfl
  ·have : x ≠ n := by rintro rfl;exact h v List.mem_cons_self
   simp [this]
theorem bindL_get {kindOf : Str -> Option NameKind} {x : Str} {v : Value} : ∀ {P : List Str} {vs : List Value} {i : Nat} {m : Str -> Option Value},P.Nodup -> P[i]? = some x -> vs[i]? = some v -> kindOf x = some .local →
  bindL kindOf (P.zip vs) m x = some v
 | [],_,_,_,_,h,_,_ => by simp at h
 | _ :: _,[],_,_,_,_,h,_ => by simp at h
 | p :: P,w :: vs,0,m,nd,h1,h2,hk => by
  simp at h1 h2;subst h1;subst h2
  show bindL kindOf ((p,w) :: P.zip vs) m p = _
  unfold bindL
  rw [bindL_out fun v hv => (List.nodup_cons.mp nd).1 (List.of_mem_zip hv).1,if_pos hk]
  simp
 | p :: P,w :: vs,i + 1,m,nd,h1,h2,hk => by
  show bindL kindOf ((p,w) :: P.zip vs) m x = _
  unfold bindL
  exact bindL_get (i := i) (List.nodup_cons.mp nd).2 (by simpa using h1) (by simpa using h2) hk
theorem bindC_get {kindOf : Str -> Option NameKind} {x : Str} {v : Value} : ∀ {P : List Str} {vs : List Value} {i : Nat} {m : Str -> Option Value},P.Nodup -> P[i]? = some x -> vs[i]? = some v -> kindOf x ≠ some .local →
  bindC kindOf (P.zip vs) m x = some v
 | [],_,_,_,_,h,_,_ => by simp at h
 | _ :: _,[],_,_,_,_,h,_ => by simp at h
 | p :: P,w :: vs,0,m,nd,h1,h2,hk => by
  simp at h1 h2;subst h1;subst h2
  show bindC kindOf ((p,w) :: P.zip vs) m p = _
  unfold bindC
  rw [bindC_out fun v hv => (List.nodup_cons.mp nd).1 (List.of_mem_zip hv).1,if_neg hk]
  simp
 | p :: P,w :: vs,i + 1,m,nd,h1,h2,hk => by
  show bindC kindOf ((p,w) :: P.zip vs) m x = _
  unfold bindC
  exact bindC_get (i := i) (List.nodup_cons.mp nd).2 (by simpa using h1) (by simpa using h2) hk
def start (N : List Str) (vs : List V) : St := vs.map some ++ List.replicate (N.length - vs.length) none
def cxOf (CX : CXT) (P : Program) (w : World) (K : PySem.W.Frag) (mg : Str -> Option Value) (base : Heap) (N : List Str) (qual : Str) (scope : Scope) (f : Addr) (cd : Value) (A : Around) (outer : List Env) (s : Shared) (H : Hp) (E : XK) : Cx where
 prog := P
 w := w
 K := K
 mg := mg
 base := base
 A := A.deeper (envOfC qual scope s.heap.objs.size f cd)
 N := N
 s₀ := s
 H₀ := H
 env := envOfC qual scope s.heap.objs.size f cd
 outer := outer
 stack := envOfC qual scope s.heap.objs.size f cd :: outer
 ex := []
 calm := true
 fn := fun _ => true
 pn := []
 xe := fun e s' => wpAny (model P w) (A.deeper (envOfC qual scope s.heap.objs.size f cd)) (leaving (envOfC qual scope s.heap.objs.size f cd) e) (fun _ s'' => CX outer H s E e s'') (fun e' s'' => CX outer H s E e' s'') s'
theorem cell_has {sc : Scope} {n : Nat} {x : Str} (h : sc.names.lookup x = some .cell) : ∃ c,(cellsFrom n sc.names []).lookup x = some c := by
 have q := PySem.W.cellsFrom_some sc.names n [] (.inl h)
 exact Option.isSome_iff_exists.mp q
theorem inv_start {CX : CXT} {P : Program} {w : World} {K : PySem.W.Frag} {mg : Str -> Option Value} {base : Heap} {N ps : List Str} {qual : Str} {scope : Scope} {f : Addr} {cd : Value} {A : Around} {outer : List Env} {s s1 : Shared} {H : Hp} {E : XK} {us : List Value} {vs : List V}
  (S : FnScope N ps scope) (hd : A.handled = none) (e0 : Env0 P w K mg base A outer s H) (hl : vs.length = ps.length) (r : Vals vs us)
  (x : InCallC s s.heap.objs.size (bindL (envOfC qual scope s.heap.objs.size f cd).kindOf (ps.zip us) fun _ => none) (cellsFrom (s.heap.objs.size + 1) scope.names []) (bindC (envOfC qual scope s.heap.objs.size f cd).kindOf (ps.zip us) fun _ => none) s1) :
  Inv (cxOf CX P w K mg base N qual scope f cd A outer s H E) [] (start N vs) H s1 := by
 have hpl : ps.length <= N.length := by have := congrArg List.length S.pre;rw [List.length_take] at this;omega
 obtain ⟨h1,tk,rfl,hk⟩ := x.done
 have noA : ∀ b : Addr,b ∉ (cxOf CX P w K mg base N qual scope f cd A outer s H E).ex := fun b z => absurd (show b ∈ ([] : List Addr) from z) (by simp)
 refine ⟨⟨e0.mod,S.kind,rfl,rfl,Nat.le_refl _,fun y z c h1 h2 => ?_,fun y hy => ?_,fun y c _ h => ?_,fun _ => hd,Around.frames_deeper e0.frames,.inr ⟨rfl,rfl⟩,fun b z => absurd z (noA b),e0.bs,e0.bsz,fun b _ _ => noA b,fun b z => absurd z (noA b),e0.funs,e0.frf⟩,
  rfl,e0.bare,Un.kept hk,⟨_,x.toInCall.ns,fun i y v h1 h2 h3 => ?_⟩,fun y c h => ⟨_,x.cell y c h⟩,e0.hok.fresh (Nat.le_refl _),fun y c h => ?_,fun p hp => absurd (show p ∈ ([] : List (Addr × Obj)) from hp) (by simp),e0.hok.kept hk,?_⟩
 ·exact name_of_addr x.apart (PySem.mem_of_lookup h1) (PySem.mem_of_lookup h2)
 ·have hy : scope.names.lookup y = some .cell ∨ scope.names.lookup y = some .free := hy
  rcases hy with hy | hy
  ·exact cell_has hy
  ·exact absurd rfl (S.nofree _ (PySem.mem_of_lookup hy))
 ·exact Nat.le_of_lt (x.above y c (PySem.mem_of_lookup h))
 ·have hi : i < vs.length := by
   unfold start at h2
   by_cases hi : i < vs.length
   ·exact hi
   ·rw [List.getElem?_append_right (by simpa using hi)] at h2
    rw [List.getElem?_replicate] at h2
    split at h2 <;> cases h2
  have ha : vs[i]? = some v := by
   unfold start at h2
   rw [List.getElem?_append_left (by simpa using hi),List.getElem?_map] at h2
   cases e : vs[i]? with
   | none => rw [e] at h2;cases h2
   | some a => rw [e] at h2;cases h2;rfl
  obtain ⟨u,hu,rv⟩ := r.get ha
  have hp : ps[i]? = some y := by
   rw [<- S.pre,List.getElem?_take_of_lt (by omega)];exact h1
  have ndP : ps.Nodup := by rw [<- S.pre];exact S.nd.sublist (List.take_sublist _ _)
  refine ⟨u,rv,?_⟩
  rcases S.par y (List.mem_of_getElem? hp) with k | k
  ·exact .inl ⟨k,bindL_get ndP hp hu k⟩
  ·obtain ⟨c,e⟩ := cell_has (n := s.heap.objs.size + 1) k
   refine .inr ⟨.inl k,c,e,?_⟩
   have q := x.cell y c e
   rw [bindC_get ndP hp hu (by show scope.names.lookup y ≠ _;rw [k];decide)] at q
   exact q
 ·exact e0.hok.fresh (Nat.le_of_lt (x.above y c (PySem.mem_of_lookup h)))
 ·unfold start
  show _ = N.length
  rw [List.length_append,List.length_map,List.length_replicate]
  omega
theorem fn_of {CX : CXT} {P : Program} {w : World} {K : PySem.W.Frag} {mg : Str -> Option Value} {base : Heap} {k : Nat} {f : Addr} {name qual : Str} {params : Arguments} {body : List Stmt} {scope : Scope} {dV kV doc pm cdv ct oc : Value} {an od : Option Addr}
  {osl : Array (Option Value)} {N ps : List Str} {sp : Sp} (lk : K.lookup f = some ⟨oc,od,.func (PySem.W.fnOf name qual params body scope dV kV doc pm an cdv ct),osl⟩) (hcd : PySem.W.codeIn K cdv qual = true) (S : FnScope N ps scope)
  (len : ∀ vs H Q E,sp vs H Q E -> vs.length = ps.length)
  (hbody : ∀ (A : Around) (outer : List Env) (s : Shared) (H : Hp) (vs : List V) (Q : VK) (E : XK),Room k (A.deeper (envOfC qual scope s.heap.objs.size f cdv)) -> sp vs H Q E →
   ∃ t,PSs (cxOf CX P w K mg base N qual scope f cdv A outer s H E) body t /\ t { nx := fun _ H' => Q .non H',rt := Q } (start N vs) H) :
  FnOk P w K mg base CX (k + 1) f (PySem.W.fnOf name qual params body scope dV kV doc pm an cdv ct) ps sp := by
 refine ⟨len,fun A outer s H args us vs Q E hr e0 hb r hsp => ?_⟩
 have hl := len _ _ _ _ hsp
 have KX : K.In s.heap := e0.mod.kin.keeps fun b o e => (e0.bs b o e).1
 have lim : s.heap.NoLimit := e0.mod.nolimit.keeps fun b o e => (e0.bs b o e).1
 have hkind : ∀ y ∈ ps.zip us,scope.names.lookup y.1 = some .local ∨ (scope.names.lookup y.1 = some .cell /\ ((cellsFrom (s.heap.objs.size + 1) scope.names []).lookup y.1).isSome = true) := fun ⟨n,v⟩ hy => by
  rcases S.par n (List.of_mem_zip hy).1 with q | q
  ·exact .inl q
  ·exact .inr ⟨q,PySem.W.cellsFrom_some _ _ _ (.inl q)⟩
 refine codeAny_call_function hr.depth (KX _ _ lk) rfl S.co S.gen rfl (PySem.W.codeRec_of KX hcd) (hb _ _ _ _ ?_)
 refine wpAny_newFunctionEnv_cells S.kind hkind fun env he s1 x => ?_
 subst he
 refine ⟨lim.keeps x.toInCall.keep,codeAny_func ?_⟩
 obtain ⟨t,ht,hq⟩ := hbody A outer s H vs Q E (hr.deeper _) hsp
 have I : Inv (cxOf CX P w K mg base N qual scope f cdv A outer s H E) [] (start N vs) H s1 := inv_start S hr.hd e0 hl r x
 refine wpAny_mono (ht [] s1 (start N vs) H _ I hq) (fun fl s' hs => ?_) fun e s' hs => hs
 have fin : ∀ {σ' : St} {H' : Hp} {v : V} {u : Value},Inv (cxOf CX P w K mg base N qual scope f cdv A outer s H E) [] σ' H' s' -> RelV v u -> Q v H' -> CE outer P w H s Q u s' :=
  fun {σ' H' v u} J rv q => ⟨v,H',J.os,J.bare,J.base,J.hok,rv,q⟩
 cases fl with
 | ret u =>
  obtain ⟨v,σ',H',J,rv,q⟩ := hs
  exact fin J rv q
 | next =>
  obtain ⟨σ',H',J,q⟩ := hs
  exact fin (v := V.non) (u := Value.none) J rfl q
 | brk =>
  obtain ⟨_,_,_,q⟩ := hs
  exact False.elim q
 | cont =>
  obtain ⟨_,_,_,q⟩ := hs
  exact False.elim q
end L2
namespace L2
open PySem PySem.Spec PyProof.Rows
section
variable {X : Cx} {x : Str} {p pos : Pos} {e : Expr} {es : List Expr} {t : TA} {id T : String} {r : List V -> Hp -> VK -> Prop}
def tCB (r : List V -> Hp -> VK -> Prop) (t : TA) : TE := fun σ H Q => t σ H fun vs H1 => r vs H1 Q
theorem pe_callB (hc : CallR X (.builtin id) r) (hg : Gl X x) (hm : X.mg x = none) (hv : bootBuiltins x = some (.builtin id)) (ha : PA X (e :: es) t) (hn : x ≠ "__name__" := by decide) (hdb : (x == ("__debug__" : Str)) = false := by decide)
  (he : starEach (e :: es) X.env = (false,eval e X.env) :: starEach es X.env := by rfl) (hpl : (backTo pos (starEach es X.env)).any (·.1) = false := by rfl) : PE X (.Call (.Name x p) (e :: es) [] pos) (tCB r t) := by
 intro pins s σ H Q I h
 refine wpAny_Call_Name_kw (ld_blt I hg hm hv ?_ hn hdb)
 exact PyProof.Rows.callWith_builtin1 (thn (ha pos pins s σ H _ I h) fun us s1 ⟨vs,H1,I1,r1,q1⟩ => hc pins s1 σ H1 vs us Q I1 r1 q1) he hpl
theorem pe_callTy (hc : CallR X (.type T) r) (hg : Gl X x) (hm : X.mg x = none) (hv : bootBuiltins x = some (.type T)) (ha : PA X (e :: es) t) (hn : x ≠ "__name__" := by decide) (hdb : (x == ("__debug__" : Str)) = false := by decide)
  (he : starEach (e :: es) X.env = (false,eval e X.env) :: starEach es X.env := by rfl) (hpl : (backTo pos (starEach es X.env)).any (·.1) = false := by rfl) : PE X (.Call (.Name x p) (e :: es) [] pos) (tCB r t) := by
 intro pins s σ H Q I h
 refine wpAny_Call_Name_kw (ld_blt I hg hm hv ?_ hn hdb)
 exact PyProof.Rows.callWith_type1 (thn (ha pos pins s σ H _ I h) fun us s1 ⟨vs,H1,I1,r1,q1⟩ => hc pins s1 σ H1 vs us Q I1 r1 q1) he hpl
end
end L2
namespace HT
open PySem PyProof.Rows
section
variable {prog : Program} {w : World} {A : Around} {E : Value -> Shared -> Prop} {s : Shared}
theorem cat_tup {t b : Addr} {vs ws : List Value} {Q : Value -> Shared -> Prop} (ht : IsTup s.heap t vs.toArray) (hb : IsTup s.heap b ws.toArray) (hv : vs ≠ [])
  (h1 : ws = [] -> Q (.ref t) s) (h2 : ws ≠ [] -> Q (.ref s.heap.objs.size) { s with heap := s.heap.push { cls := .type "tuple",data := .seq (vs ++ ws).toArray } })
  (hsz : vs.length + ws.length <= sizeLine) : wpAny (model prog w) A (binaryOp .Add (.ref t) (.ref b)) Q E s := by
 obtain ⟨⟨cls,dd,data,sl⟩,ho,hc,n,hd⟩ := id ht
 obtain ⟨⟨cls2,dd2,data2,sl2⟩,ho2,hc2,n2,hd2⟩ := id hb
 simp only at hc hd hc2 hd2
 subst hc hd hc2 hd2
 have e : vs.toArray ++ ws.toArray = (vs ++ ws).toArray := by simp
 by_cases hw : ws = []
 ·exact concat_meets ⟨_,ho,rfl⟩ ⟨_,ho2,rfl⟩ noFill_tuple_add seq_tuple_add PySem.F.slot_tuple_add PySem.F.entry_tuple_add (PySem.F.args_tuple_add_2 _ _)
   (tuple_addW1 t b vs.toArray ws.toArray n n2 dd dd2 sl sl2 (by simpa using hv) (by simp [hw])) ⟨ho,ho2,h1 hw⟩
 ·refine concat_meets ⟨_,ho,rfl⟩ ⟨_,ho2,rfl⟩ noFill_tuple_add seq_tuple_add PySem.F.slot_tuple_add PySem.F.entry_tuple_add (PySem.F.args_tuple_add_2 _ _)
   (tuple_addW2 t b vs.toArray ws.toArray n n2 dd dd2 sl sl2 (by simpa using hv) (by simpa using hw) (by rw [List.size_toArray,List.size_toArray];exact hsz)) ⟨ho,ho2,?_⟩
  rw [e]
  exact h2 hw
def sIx (n d : Nat) : Option Int -> Nat
 | none => d
 | some v => if v < 0 then (v + (n : Int)).toNat else min v.toNat n
theorem sIx_none (n d : Nat) : sIx n d none = d := rfl
theorem sIx_nat (n d k : Nat) : sIx n d (some (k : Int)) = min k n := by
 show (if (k : Int) < 0 then ((k : Int) + (n : Int)).toNat else min (k : Int).toNat n) = min k n
 rw [if_neg (by omega),Int.toNat_natCast]
theorem sIx_le (n d : Nat) (hd : d <= n) (o : Option Int) : sIx n d o <= n := by
 cases o with
 | none => exact hd
 | some v =>
  show (if v < 0 then (v + (n : Int)).toNat else min v.toNat n) <= n
  by_cases hv : v < 0
  ·rw [if_pos hv];omega
  ·rw [if_neg hv];exact Nat.min_le_right _ _
theorem clip_eq (v : Int) (n d : Nat) : (if v < 0 then max (v + (n : Int)) 0 else min v (n : Int)) = ((sIx n d (some v) : Nat) : Int) := by
 show (if v < 0 then max (v + (n : Int)) 0 else min v (n : Int)) = (((if v < 0 then (v + (n : Int)).toNat else min v.toNat n) : Nat) : Int)
 by_cases hv : v < 0
 ·simp only [if_pos hv];omega
 ·simp only [if_neg hv];omega
theorem adjust_gen (lo hi : Option Int) (n : Nat) : Builtin.Slice.sliceAdjust lo hi 1 (n : Int) = (((sIx n 0 lo : Nat) : Int),((sIx n n hi : Nat) : Int)) := by
 have h1 : ¬ ((1 : Int) < 0) := by omega
 unfold Builtin.Slice.sliceAdjust
 simp only [h1,if_false]
 refine Prod.ext ?_ ?_
 ·cases lo with
  | none => rfl
  | some v => exact clip_eq v n 0
 ·cases hi with
  | none => rfl
  | some v => exact clip_eq v n n
theorem places_gen (i j : Nat) : Builtin.Slice.slicePlaces (i : Int) (j : Int) 1 = j - i := by
 unfold Builtin.Slice.slicePlaces
 have h1 : (1 : Int) > 0 := by omega
 simp only [h1,if_true,Int.ediv_one]
 split <;> omega
theorem slicePart_ {v : Value} {o : Option Int} {Q : Option Int -> Shared -> Prop} (p : IsPart v o) (h : Q o s) : wpAny (model prog w) A (Builtin.Slice.slicePartIndex v) Q E s := by
 cases p with
 | none => exact slicePart_none h
 | int i t => exact slicePart_int h
theorem sliceApplied_gen {sl : Addr} {vl vu : Value} {lo hi : Option Int} {n : Nat} {Q : Int × Int × Nat -> Shared -> Prop} (hs : s.heap.IsSliceOf sl vl vu .none) (pl : IsPart vl lo) (pu : IsPart vu hi)
  (h : Q (((sIx n 0 lo : Nat) : Int),1,sIx n n hi - sIx n 0 lo) s) : wpAny (model prog w) A (Builtin.Slice.sliceApplied (.ref sl) (pure (n : Int))) Q E s := by
 obtain ⟨os,hos,hcs,hds⟩ := id hs
 unfold Builtin.Slice.sliceApplied Builtin.Slice.sliceFields
 refine wpAny_bind (wpAny_bind (wpAny_field hos hds (x := vl) rfl (wpAny_bind (wpAny_field hos hds (x := vu) rfl (wpAny_bind (wpAny_field hos hds (x := .none) rfl (wpAny_pure ?_)))))))
 refine wpAny_bind (slicePart_none ?_)
 show wpAny _ _ (if ((1 : Int) == 0) = true then _ else _) _ _ s
 rw [if_neg (by decide)]
 refine wpAny_bind (slicePart_ pl (wpAny_bind (slicePart_ pu (wpAny_bind (wpAny_pure ?_)))))
 show wpAny _ _ (match Builtin.Slice.sliceAdjust lo hi 1 (n : Int) with | (lo,hi) => pure (lo,(1 : Int),Builtin.Slice.slicePlaces lo hi 1)) _ _ s
 rw [adjust_gen lo hi n]
 show wpAny _ _ (pure (((sIx n 0 lo : Nat) : Int),(1 : Int),Builtin.Slice.slicePlaces ((sIx n 0 lo : Nat) : Int) ((sIx n n hi : Nat) : Int) 1)) _ _ s
 rw [places_gen]
 exact wpAny_pure h
theorem pick_gen (xs : Array Value) (i k : Nat) : ((List.range k).filterMap fun (m : Nat) => xs[((i : Int) + (m : Int) * 1).toNat]?).toArray = ((xs.toList.drop i).take k).toArray := by
 have e : (fun (m : Nat) => xs[((i : Int) + (m : Int) * 1).toNat]?) = fun m => xs[i + m]? := by
  funext m
  have : ((i : Int) + (m : Int) * 1).toNat = i + m := by omega
  rw [this]
 rw [e]
 have := pick_run xs i k
 rw [List.filterMap_map] at this
 have e2 : ((fun x => xs[x]?) ∘ fun x => i + x) = fun m => xs[i + m]? := rfl
 rw [e2] at this
 rw [this]
theorem getItem_tuple_cut {t sl : Addr} {items : Array Value} {vl vu : Value} {lo hi : Option Int} {Q : Value -> Shared -> Prop} (ht : IsTup s.heap t items) (hs : s.heap.IsSliceOf sl vl vu .none) (pl : IsPart vl lo) (pu : IsPart vu hi)
  (hw : ¬ (sIx items.size 0 lo = 0 /\ sIx items.size items.size hi = items.size))
  (h : Q (.ref s.heap.objs.size) { s with heap := s.heap.push { cls := .type "tuple",data := .seq ((items.toList.drop (sIx items.size 0 lo)).take (sIx items.size items.size hi - sIx items.size 0 lo)).toArray } })
  (hsz : items.size <= sizeLine) : wpAny (model prog w) A (getItem (.ref t) (.ref sl)) Q E s := by
 have htake : sizeOk (.seq ((items.toList.drop (sIx items.size 0 lo)).take (sIx items.size items.size hi - sIx items.size 0 lo)).toArray) := by
  show ((items.toList.drop (sIx items.size 0 lo)).take (sIx items.size items.size hi - sIx items.size 0 lo)).toArray.size <= sizeLine
  rw [List.size_toArray,List.length_take,List.length_drop,Array.length_toList]
  omega
 have hj : sIx items.size items.size hi <= items.size := sIx_le _ _ (Nat.le_refl _) hi
 obtain ⟨os,hos,hcs,hds⟩ := id hs
 have hTs : s.TypeIs (.ref sl) "slice" := ⟨os,hos,hcs⟩
 unfold getItem
 try with_reducible refine wpAny_holding ?_
 first | refine wpAny_bind (wpAny_pure ?_) | skip
 refine wpAny_bind (wpAny_sequenceKey ht.typeIs (by decide) ?_)
 refine wpAny_bind (wpAny_callSpecial?_slot (name := Str.ofString "__getitem__") ht.typeIs PyProof.Rows.slot_tuple_getitem
  (wpAny_call_entry PyProof.Rows.slot_tuple_getitem ht.typeIs entry_tuple_getitem ?_ (args_tuple_getitem _ _)))
 show wpAny _ _ (Builtin.Tuple.tupleItemsOf (.ref t) >>= _) _ _ s
 refine wpAny_bind (tupleItemsOf_ ht ?_)
 refine wpAny_bind (wpAny_typeOf hTs ?_)
 rw [if_pos (by decide)]
 refine wpAny_bind (sliceApplied_gen hs pl pu ?_)
 have hno : ¬ ((((sIx items.size 0 lo : Nat) : Int) == 0 && (1 : Int) == 1 && (sIx items.size items.size hi - sIx items.size 0 lo) == items.size) = true) := by
  intro q
  rw [Bool.and_eq_true,Bool.and_eq_true] at q
  have q1 : ((sIx items.size 0 lo : Nat) : Int) = 0 := eq_of_beq q.1.1
  have q2 : sIx items.size items.size hi - sIx items.size 0 lo = items.size := eq_of_beq q.2
  exact hw ⟨by omega,by omega⟩
 show wpAny _ _ (if (((sIx items.size 0 lo : Nat) : Int) == 0 && (1 : Int) == 1 && (sIx items.size items.size hi - sIx items.size 0 lo) == items.size) = true then _ else _) _ _ s
 rw [if_neg hno,pick_gen]
 first
  | exact wpAny_bind (m := Builtin.Tuple.tupleExact _) (wpAny_newObj_type (wpAny_pure ⟨_,rfl,wpAny_pure h⟩) htake)
  | exact wpAny_bind (m := Builtin.Tuple.tupleExact _) (wpAny_newObj_type (wpAny_bind (wpAny_pure (wpAny_pure ⟨_,rfl,wpAny_pure h⟩))) htake)
  | exact wpAny_bind (wpAny_bind (m := Builtin.Tuple.tupleExact _) (wpAny_newObj_type (wpAny_pure (wpAny_pure ⟨_,rfl,wpAny_pure h⟩)) htake))
  | exact wpAny_bind (wpAny_bind (m := Builtin.Tuple.tupleExact _) (wpAny_newObj_type (wpAny_pure ⟨_,rfl,wpAny_pure h⟩) htake))
end
end HT
namespace L2
open PySem PySem.Spec PyProof.Rows
abbrev TO := St -> Hp -> (Option Int -> Hp -> Prop) -> Prop
def PO (X : Cx) (e : Option Expr) (t : TO) : Prop :=
 ∀ (pins : List (Addr × Obj)) (s : Shared) (σ : St) (H : Hp) (Q : Option Int -> Hp -> Prop),Inv X pins σ H s -> t σ H Q →
  wpAny (model X.prog X.w) X.A (evalPart e X.env) (fun u s' => ∃ o H',Inv X pins σ H' s' /\ IsPart u o /\ Q o H') X.xe s
def tNoPart : TO := fun _ H Q => Q none H
def tPart (t : TE) : TO := fun σ H Q => t σ H fun x H1 => ∃ i,x = .int i /\ Q (some i) H1
section
variable {X : Cx} {e : Expr} {te : TE} {lo hi : Option Expr} {tl th : TO} {pos p2 : Pos}
theorem po_none : PO X none tNoPart := by
 intro pins s σ H Q I h
 rw [evalPart_none]
 exact wpAny_pure ⟨none,H,I,.none,h⟩
theorem po_some (h : PE X e te) : PO X (some e) (tPart te) := by
 intro pins s σ H Q I hw
 rw [evalPart_some]
 refine thn (h pins s σ H _ I hw) fun u s1 ⟨x,H1,I1,r1,q1⟩ => ?_
 obtain ⟨i,rfl,q⟩ := q1
 obtain ⟨t,rfl⟩ := r1
 exact ⟨some i,H1,I1,.int i t,q⟩
def SlR (X : Cx) (r : V -> Option Int -> Option Int -> Hp -> VK -> Prop) : Prop :=
 ∀ (pins : List (Addr × Obj)) (s : Shared) (σ : St) (H : Hp) (x : V) (v vl vu : Value) (lo hi : Option Int) (sl : Addr) (Q : VK),Inv X pins σ H s -> RelV x v -> s.heap.IsSliceOf sl vl vu .none -> IsPart vl lo -> IsPart vu hi -> r x lo hi H Q →
  ∃ T id,typeLookup (.type T) "__getitem__" = pure (some (.builtin id)) /\ s.TypeIs v T /\ wpAny (model X.prog X.w) X.A (getItem v (.ref sl)) (EP X pins σ Q) X.xe s
theorem SlR.or {r r' : V -> Option Int -> Option Int -> Hp -> VK -> Prop} (h : SlR X r) (h' : SlR X r') : SlR X (fun x lo hi H Q => r x lo hi H Q ∨ r' x lo hi H Q) := by
 intro pins s σ H x v vl vu lo hi sl Q I rx hs pl pu q
 rcases q with q | q
 ·exact h pins s σ H x v vl vu lo hi sl Q I rx hs pl pu q
 ·exact h' pins s σ H x v vl vu lo hi sl Q I rx hs pl pu q
def tSl (r : V -> Option Int -> Option Int -> Hp -> VK -> Prop) (te : TE) (tl th : TO) : TE := fun σ H Q => te σ H fun x H1 => tl σ H1 fun l H2 => th σ H2 fun u H3 => r x l u H3 Q
theorem pe_slice {r : V -> Option Int -> Option Int -> Hp -> VK -> Prop} (hr : SlR X r) (he : PE X e te) (hl : PO X lo tl) (hu : PO X hi th) : PE X (.Subscript e (.Slice lo hi none p2) pos) (tSl r te tl th) := by
 intro pins s σ H Q I h
 refine Subscript_ (thn (he pins s σ H _ I h) fun v s1 ⟨x,H1,I1,r1,q1⟩ => ?_)
 refine wpAny_Slice (thn (hl pins s1 σ H1 _ I1 q1) fun vl s2 ⟨l,H2,I2,pl,q2⟩ => thn (hu pins s2 σ H2 _ I2 q2) fun vu s3 ⟨u,H3,I3,pu,q3⟩ => ?_)
 rw [evalPart_none]
 refine wpAny_pure ?_
 have I4 : Inv X pins σ H3 { s3 with heap := s3.heap.push { cls := .type "slice",data := .fields #[vl,vu,.none] } } := I3.kept (t' := s3.toks) fun b ob q => Heap.get?_push_of_some _ q
 obtain ⟨T,id,hT,ht,hg⟩ := hr pins { s3 with heap := s3.heap.push { cls := .type "slice",data := .fields #[vl,vu,.none] } } σ H3 x v vl vu l u s3.heap.objs.size Q I4 r1 (Heap.IsSliceOf.new ..) pl pu q3
 show wpAny (model X.prog X.w) X.A (subscriptTail e (.Slice lo hi none p2) v (.ref s3.heap.objs.size)) (EP X pins σ Q) X.xe { s3 with heap := s3.heap.push { cls := .type "slice",data := .fields #[vl,vu,.none] } }
 exact tail_any (ops := [.ref s3.heap.objs.size,v]) ht hT hg (by with_unfolding_all rfl)
def cutV (xs : List V) (lo hi : Option Int) : List V := (xs.drop (HT.sIx xs.length 0 lo)).take (HT.sIx xs.length xs.length hi - HT.sIx xs.length 0 lo)
theorem cutV_length (xs : List V) (lo hi : Option Int) : (cutV xs lo hi).length <= xs.length := by
 unfold cutV
 rw [List.length_take,List.length_drop]
 omega
def rSlT (K : PySem.W.Frag) : V -> Option Int -> Option Int -> Hp -> VK -> Prop := fun x lo hi H Q => ∃ a xs,x = .ref a /\ SqT K H a xs ∧
 ¬ (HT.sIx xs.length 0 lo = 0 /\ HT.sIx xs.length xs.length hi = xs.length) /\ ∀ p,H p = none -> Q (.ref p) (upd H p (.tup (cutV xs lo hi)))
theorem sl_tup : SlR X (rSlT X.K) := by
 intro pins s σ H x v vl vu lo hi sl Q I rx hs pl pu h
 obtain ⟨a,xs,rfl,hx,hw,q⟩ := h
 cases rx
 obtain ⟨its,r,ht,hz⟩ := I.tuple hx
 have hlen : its.toArray.size = xs.length := by rw [List.size_toArray];exact r.length.symm
 refine ⟨"tuple",_,PyProof.Rows.slot_tuple_getitem.lookup,ht.typeIs,?_⟩
 refine HT.getItem_tuple_cut ht hs pl pu (by rw [hlen];exact hw) ?_ (by rw [hlen];exact hz)
 rw [hlen]
 refine ⟨.ref s.heap.objs.size,_,I.laid (t' := s.toks) (o := .tup (cutV xs lo hi)) (fun b ob q => Heap.get?_push_of_some _ q) (Nat.le_refl _) ?_,rfl,q _ (I.hok.fresh (Nat.le_refl _))⟩
 exact ⟨Nat.le_trans (cutV_length xs lo hi) hz,_,(r.drop (HT.sIx xs.length 0 lo)).take (HT.sIx xs.length xs.length hi - HT.sIx xs.length 0 lo),IsTup.new _ _⟩
theorem Vals.nil_iff {xs : List V} {us : List Value} (r : Vals xs us) : us = [] ↔ xs = [] := by
 cases r with
 | nil => simp
 | cons _ _ => simp
end
end L2
namespace L2
open PySem PySem.Spec PyProof.Rows
def ixN (n : Nat) (i : Int) : Option Nat := if 0 <= i then (if i < n then some i.toNat else none) else if -(n : Int) <= i then some (i + n).toNat else none
def atI {α : Type} (xs : List α) (i : Int) : Option α := (ixN xs.length i).bind fun j => xs[j]?
theorem ixN_seq {n : Nat} {i : Int} {j : Nat} (h : ixN n i = some j) : seqIndex? i n = some j /\ j < n /\ -(n : Int) <= i /\ i < n := by
 unfold ixN at h
 by_cases h0 : 0 <= i
 ·rw [if_pos h0] at h
  by_cases h1 : i < n
  ·rw [if_pos h1] at h
   have e : i.toNat = j := Option.some.inj h
   exact ⟨by rw [seqIndex_of h0 h1,e],by omega,by omega,h1⟩
  ·rw [if_neg h1] at h;cases h
 ·rw [if_neg h0] at h
  by_cases h1 : -(n : Int) <= i
  ·rw [if_pos h1] at h
   have e : (i + n).toNat = j := Option.some.inj h
   exact ⟨by rw [seqIndex_neg (by omega) h1,e],by omega,h1,by omega⟩
  ·rw [if_neg h1] at h;cases h
theorem atI_get {α : Type} {xs : List α} {i : Int} {v : α} (h : atI xs i = some v) : ∃ j,seqIndex? i xs.length = some j /\ xs[j]? = some v /\ j < xs.length /\ -(xs.length : Int) <= i /\ i < xs.length := by
 unfold atI at h
 cases e : ixN xs.length i with
 | none => rw [e] at h;cases h
 | some j =>
  rw [e] at h
  obtain ⟨h1,h2,h3,h4⟩ := ixN_seq e
  exact ⟨j,h1,h,h2,h3,h4⟩
def PlainIx (b : Expr) : Prop := ∀ o i,subscripted b false o i = operate [o,i] (getItem o i)
def IxR (X : Cx) (r : R2) : Prop :=
 ∀ (value slice : Expr) (pins : List (Addr × Obj)) (s : Shared) (σ : St) (H : Hp) (x y : V) (v u : Value) (Q : VK),Inv X pins σ H s -> RelV x v -> RelV y u -> r x y H Q →
  subscripted slice false v u = operate [v,u] (getItem v u) -> wpAny (model X.prog X.w) X.A (subscriptTail value slice v u) (EP X pins σ Q) X.xe s
def MtR (X : Cx) (id : String) (r : V -> List V -> Hp -> VK -> Prop) : Prop :=
 ∀ (pins : List (Addr × Obj)) (s : Shared) (σ : St) (H : Hp) (x : V) (xs : List V) (v : Value) (us : List Value) (Q : VK),Inv X pins σ H s -> RelV x v -> Vals xs us -> r x xs H Q →
  wpAny (model X.prog X.w) X.A (call (.builtin id) (v :: us)) (EP X pins σ Q) X.xe s
section
variable {X : Cx} {a b : Expr} {ta tb : TE} {pos : Pos}
theorem IxR.or {r r' : R2} (h : IxR X r) (h' : IxR X r') : IxR X (fun x y H Q => r x y H Q ∨ r' x y H Q) := by
 intro value slice pins s σ H x y v u Q I rx ry q hs
 rcases q with q | q
 ·exact h value slice pins s σ H x y v u Q I rx ry q hs
 ·exact h' value slice pins s σ H x y v u Q I rx ry q hs
theorem pe_ix {r : R2} (hr : IxR X r) (ha : PE X a ta) (hb : PE X b tb) (hs : PlainIx b) : PE X (.Subscript a b pos) (tOp r ta tb) := by
 intro pins s σ H Q I h
 exact Subscript_ (binT ha hb I h fun v u s2 x y H2 I2 rx ry q => hr a b pins s2 σ H2 x y v u Q I2 rx ry q (hs _ _))
def rIxL (K : PySem.W.Frag) : R2 := fun x y H Q => ∃ p xs i v,x = .ref p /\ y = .int i /\ SqL K H p xs /\ atI xs i = some v /\ Q v H
def rIxT (K : PySem.W.Frag) : R2 := fun x y H Q => ∃ p xs i v,x = .ref p /\ y = .int i /\ SqT K H p xs /\ atI xs i = some v /\ Q v H
def rIxS : R2 := fun x y H Q => ∃ z i c,x = .str z /\ y = .int i /\ z.length <= sizeLine /\ atI z.cps.toList i = some c /\ Q (.str ⟨#[c]⟩) H
theorem ix_list : IxR X (rIxL X.K) := by
 intro value slice pins s σ H x y v u Q I rx ry h hs
 obtain ⟨p,xs,i,z,rfl,rfl,hq,he,q⟩ := h
 cases rx
 obtain ⟨t,rfl⟩ := ry
 obtain ⟨its,r,pl,hz⟩ := I.list hq
 obtain ⟨j,h1,h2,h3,h4,h5⟩ := atI_get he
 obtain ⟨w,ew,rw'⟩ := r.get h2
 have hl := r.length
 have hn := line63
 have fin : EP X pins σ Q w s := ⟨z,H,I,rw',q⟩
 by_cases h0 : 0 <= i
 ·have hj : i.toNat = j := by
   rw [seqIndex_of h0 h5] at h1
   exact Option.some.inj h1
  exact item_listR pl.isList h0 (by omega) (by rw [hj];simpa using ew) fin hs
 ·have hj : (i + (its.toArray.size : Int)).toNat = j := by
   rw [seqIndex_neg (by omega) h4] at h1
   rw [List.size_toArray,<- hl]
   exact Option.some.inj h1
  exact subscriptTail_builtinR (x := w) pl.isList.typeIs slot_list_getitem.lookup
   (wpAny_getItem_list_neg (Q := fun r s' => r = w /\ EP X pins σ Q r s') pl.isList (by omega) (by rw [List.size_toArray] <;> omega) (by omega) (by rw [hj];simpa using ew) ⟨rfl,fin⟩) hs
theorem ix_tup : IxR X (rIxT X.K) := by
 intro value slice pins s σ H x y v u Q I rx ry h hs
 obtain ⟨p,xs,i,z,rfl,rfl,hq,he,q⟩ := h
 cases rx
 obtain ⟨t,rfl⟩ := ry
 obtain ⟨its,r,pl,hz⟩ := I.tuple hq
 obtain ⟨j,h1,h2,h3,h4,h5⟩ := atI_get he
 obtain ⟨w,ew,rw'⟩ := r.get h2
 have hl := r.length
 have hn := line63
 have fin : EP X pins σ Q w s := ⟨z,H,I,rw',q⟩
 exact subscriptTail_builtinR (x := w) pl.typeIs slot_tuple_getitem.lookup
  (getItem_tuple (j := j) (Q := fun r s' => r = w /\ EP X pins σ Q r s') pl (by omega) (by omega) (by rw [List.size_toArray,<- hl];exact h1) (by simpa using ew) ⟨rfl,fin⟩) hs
theorem ix_str : IxR X rIxS := by
 intro value slice pins s σ H x y v u Q I rx ry h hs
 obtain ⟨z,i,c,rfl,rfl,hz,he,q⟩ := h
 obtain ⟨t,rfl⟩ := rx
 obtain ⟨t',rfl⟩ := ry
 obtain ⟨j,h1,h2,h3,h4,h5⟩ := atI_get he
 have hl : z.cps.toList.length = z.length := by simp [Str.length]
 rw [hl] at h1 h4 h5
 have hn := line63
 exact tail_any (typeIs_str s z t) slot_str_getitem.lookup (getItem_str (c := c) (by
  have e1 : decide (i < -(2 ^ 63 : Int)) = false := decide_eq_false (by omega)
  have e2 : decide (i ≥ 2 ^ 63) = false := decide_eq_false (by omega)
  rw [e1,e2,Bool.or_false]) (by rw [h1];simpa using h2) ⟨.str ⟨#[c]⟩,H,I.tok _,⟨_,rfl⟩,q⟩) hs
def rIx (K : PySem.W.Frag) : R2 := fun x y H Q => rIxL K x y H Q ∨ rIxT K x y H Q ∨ rIxS x y H Q
theorem ix_seq : IxR X (rIx X.K) := ix_list.or (ix_tup.or ix_str)
theorem mapSeq_set (its : List Value) (n j : Nat) (u : Value) : Obj.mapSeq (·.setIfInBounds j u) { cls := .type "list",data := .seq its.toArray n } = { cls := .type "list",data := .seq (its.set j u).toArray n } := by
 simp [Obj.mapSeq]
theorem Inv.lst {pins : List (Addr × Obj)} {σ : St} {H : Hp} {s : Shared} {p : Addr} {xs : List V} (I : Inv X pins σ H s) (h : H p = some (.lst xs)) :
  ∃ (its : List Value) (n : Nat),Vals xs its /\ s.heap.get? p = some { cls := .type "list",data := .seq its.toArray n } /\ xs.length <= sizeLine := by
 obtain ⟨z,its,n,r,e⟩ := I.hok p _ h
 exact ⟨its,n,r,e,z⟩
theorem Inv.lstUpd {pins : List (Addr × Obj)} {σ : St} {H : Hp} {s : Shared} {p : Addr} {xs ys : List V} {its its' : List Value} {n n' : Nat} {f : Obj -> Obj} (I : Inv X pins σ H s) (h : H p = some (.lst xs))
  (ho : s.heap.get? p = some { cls := .type "list",data := .seq its.toArray n }) (hf : f { cls := .type "list",data := .seq its.toArray n } = { cls := .type "list",data := .seq its'.toArray n' }) (r : Vals ys its') (hz : ys.length <= sizeLine) (t : Nat) :
  Inv X pins σ (upd H p (.lst ys)) { s with heap := s.heap.update p f,toks := t } := by
 have e : (s.heap.update p f).get? p = some { cls := .type "list",data := .seq its'.toArray n' } := by
  rw [Heap.get?_update_self f ho (by rw [hf] <;> rfl),hf]
 refine I.write (x := p) (e := p) (by rw [h];trivial) (.inl rfl) (fun b u hb q => (Heap.get?_update_other _ _ (Ne.symm hb)).trans q) ⟨_,e⟩ ?_
 exact ⟨hz,its',n',r,e⟩
def rSetL : V -> V -> V -> Hp -> (Hp -> Prop) -> Prop := fun o i v H Q => ∃ p xs k j,o = .ref p /\ i = .int k /\ H p = some (.lst xs) /\ ixN xs.length k = some j /\ Q (upd H p (.lst (xs.set j v)))
theorem set_list : PSet X rSetL := by
 intro pins s σ H o i v ov iv u Q I ro ri rv h
 obtain ⟨p,xs,k,j,rfl,rfl,hp,hj,q⟩ := h
 cases ro
 obtain ⟨t,rfl⟩ := ri
 obtain ⟨its,n,r,ho,hz⟩ := I.lst hp
 obtain ⟨h1,h2,h3,h4⟩ := ixN_seq hj
 have hl := r.length
 have hn := line63
 have I' : Inv X pins σ (upd H p (.lst (xs.set j v))) { s with heap := s.heap.update p (Obj.mapSeq (·.setIfInBounds j u)) } :=
  I.lstUpd hp ho (mapSeq_set its n j u) (r.set rv j) (by rw [List.length_set];exact hz) s.toks
 by_cases h0 : 0 <= k
 ·have hk : k.toNat = j := by
   rw [seqIndex_of h0 h4] at h1
   exact Option.some.inj h1
  exact PySem.W.ki_setAt ho h0 (by omega) (by rw [List.size_toArray,<- hl];exact h4) (by rw [hk];exact ⟨_,I',q⟩)
 ·have hk : (k + (its.toArray.size : Int)).toNat = j := by
   rw [seqIndex_neg (by omega) h3] at h1
   rw [List.size_toArray,<- hl]
   exact Option.some.inj h1
  exact PySem.W.ki_setBack ho (by omega) (by rw [List.size_toArray,<- hl];exact h3) (by omega) (by rw [hk];exact ⟨_,I',q⟩)
theorem slice_bounds (lo hi : Option Int) (n : Nat) : (sliceBounds lo hi none n).1 = ((HT.sIx n 0 lo : Nat) : Int) /\ (sliceBounds lo hi none n).2.1 = ((HT.sIx n n hi : Nat) : Int) /\ (sliceBounds lo hi none n).2.2 = 1 := by
 refine ⟨?_,?_,rfl⟩
 ·cases lo with
  | none => simp [sliceBounds,HT.sIx]
  | some i =>
   simp only [sliceBounds,HT.sIx,Option.getD_none,show (1 : Int) > 0 by decide,if_true]
   by_cases h : i < 0
   ·simp only [h,if_true] <;> omega
   ·simp only [h,if_false] <;> omega
 ·cases hi with
  | none => simp [sliceBounds,HT.sIx]
  | some i =>
   simp only [sliceBounds,HT.sIx,Option.getD_none,show (1 : Int) > 0 by decide,if_true]
   by_cases h : i < 0
   ·simp only [h,if_true] <;> omega
   ·simp only [h,if_false] <;> omega
theorem slicePick_cut (its : List Value) (lo hi : Option Int) : slicePick its.toArray lo hi none = ((its.drop (HT.sIx its.length 0 lo)).take (HT.sIx its.length its.length hi - HT.sIx its.length 0 lo)).toArray := by
 obtain ⟨h1,h2,h3⟩ := slice_bounds lo hi its.toArray.size
 unfold slicePick
 rw [h1,h2,h3]
 simp only [sliceRange_one,pick_run,List.size_toArray] <;> rfl
def rSlL (K : PySem.W.Frag) : V -> Option Int -> Option Int -> Hp -> VK -> Prop := fun x lo hi H Q => ∃ a xs,x = .ref a /\ SqL K H a xs /\ ∀ p,H p = none -> Q (.ref p) (upd H p (.lst (cutV xs lo hi)))
theorem sl_list : SlR X (rSlL X.K) := by
 intro pins s σ H x v vl vu lo hi sl Q I rx hs pl pu h
 obtain ⟨a,xs,rfl,hx,q⟩ := h
 cases rx
 obtain ⟨its,r,ht,hz⟩ := I.list hx
 have hlen := r.length
 refine ⟨"list",_,slot_list_getitem.lookup,ht.isList.typeIs,?_⟩
 refine wpAny_getItem_list_slice ht.isList hs pl pu .none (by simp) ?_ (by rw [List.size_toArray] <;> omega)
 rw [slicePick_cut,<- hlen]
 refine ⟨.ref s.heap.objs.size,_,I.laid (t' := s.toks) (o := .lst (cutV xs lo hi)) (fun b ob q => Heap.get?_push_of_some _ q) (Nat.le_refl _) ?_,rfl,q _ (I.hok.fresh (Nat.le_refl _))⟩
 exact ⟨Nat.le_trans (cutV_length xs lo hi) hz,_,0,(r.drop (HT.sIx xs.length 0 lo)).take (HT.sIx xs.length xs.length hi - HT.sIx xs.length 0 lo),Heap.get?_push_size _ rfl⟩
theorem call_len_seq : CallR X (.builtin "len") (fun xs H Q => ∃ p ys,xs = [.ref p] /\ (SqL X.K H p ys ∨ SqT X.K H p ys) /\ Q (.int ys.length) H) := by
 intro pins s σ H xs us Q I r h
 obtain ⟨p,ys,rfl,hq,q⟩ := h
 obtain ⟨u,rfl,rx⟩ := vals1 r
 cases rx
 have hn := line63
 rcases hq with hq | hq
 ·obtain ⟨its,r',pl,hz⟩ := I.list hq
  have hlen := r'.length
  exact Calls.call_len_list pl.isList (by simp only [List.size_toArray] <;> omega) ⟨.int ys.length,H,I.tok _,⟨s.toks + 1,by rw [List.size_toArray,hlen]⟩,q⟩
 ·obtain ⟨its,r',pl,hz⟩ := I.tuple hq
  have hlen := r'.length
  exact len_tuple pl (by simp only [List.size_toArray] <;> omega) ⟨.int ys.length,H,I.tok _,⟨s.toks + 1,by rw [List.size_toArray,hlen]⟩,q⟩
theorem call_len_str : CallR X (.builtin "len") (fun xs H Q => ∃ z,xs = [.str z] /\ z.length <= sizeLine /\ Q (.int z.length) H) := by
 intro pins s σ H xs us Q I r h
 obtain ⟨z,rfl,hz,q⟩ := h
 obtain ⟨u,rfl,t,rfl⟩ := vals1 r
 have hn := line63
 exact len_str (by omega) ⟨.int z.length,H,I.tok _,⟨_,rfl⟩,q⟩
theorem CallR.or {f : Value} {r r' : List V -> Hp -> VK -> Prop} (h : CallR X f r) (h' : CallR X f r') : CallR X f (fun xs H Q => r xs H Q ∨ r' xs H Q) := by
 intro pins s σ H xs us Q I rs q
 rcases q with q | q
 ·exact h pins s σ H xs us Q I rs q
 ·exact h' pins s σ H xs us Q I rs q
theorem call_list_of : CallR X (.type "list") (fun xs H Q => ∃ p ys,xs = [.ref p] /\ (SqL X.K H p ys ∨ SqT X.K H p ys) /\ ∀ l,H l = none -> Q (.ref l) (upd H l (.lst ys))) := by
 intro pins s σ H xs us Q I r h
 obtain ⟨p,ys,rfl,hq,q⟩ := h
 obtain ⟨u,rfl,rx⟩ := vals1 r
 cases rx
 have fin : ∀ (its : List Value),Vals ys its -> ys.length <= sizeLine -> ∀ (h' : Heap) (c' : Nat),(∀ b o',s.heap.get? b = some o' -> h'.get? b = some o') →
   h'.get? s.heap.objs.size = some { cls := .type "list",dict := none,data := .seq its.toArray c',slots := #[] } -> EP X pins σ Q (.ref s.heap.objs.size) { s with heap := h' } := fun its r' hz h' c' kp e =>
  ⟨.ref s.heap.objs.size,_,I.laid (t' := s.toks) kp (Nat.le_refl _) (show ObjOk X.prog X.w _ h' _ (.lst ys) from ⟨hz,its,c',r',e⟩),rfl,q _ (I.hok.fresh (Nat.le_refl _))⟩
 rcases hq with hq | hq
 ·obtain ⟨its,r',pl,hz⟩ := I.list hq
  have hlen := r'.length
  obtain ⟨o,ho,hc,n,hd⟩ := pl.isList
  exact call_list_seq p (.inl rfl) ho hc hd (fun h' c' kp e => fin its r' hz h' c' kp e) (by simp only [List.size_toArray] <;> omega)
 ·obtain ⟨its,r',pl,hz⟩ := I.tuple hq
  have hlen := r'.length
  obtain ⟨o,ho,hc,n,hd⟩ := pl
  exact call_list_seq p (.inr rfl) ho hc hd (fun h' c' kp e => fin its r' hz h' c' kp e) (by simp only [List.size_toArray] <;> omega)
theorem call_tuple_of : CallR X (.type "tuple") (fun xs H Q => ∃ p ys,xs = [.ref p] /\ ((SqL X.K H p ys /\ ∀ l,H l = none -> Q (.ref l) (upd H l (.tup ys))) ∨ (SqT X.K H p ys /\ Q (.ref p) H))) := by
 intro pins s σ H xs us Q I r h
 obtain ⟨p,ys,rfl,h⟩ := h
 obtain ⟨u,rfl,rx⟩ := vals1 r
 cases rx
 rcases h with ⟨hq,q⟩ | ⟨hq,q⟩
 ·obtain ⟨its,r',pl,hz⟩ := I.list hq
  have hlen := r'.length
  refine call_tuple_list pl.isList (fun h' kp => ?_) (by simp only [List.size_toArray] <;> omega)
  have I1 : Inv X pins σ H { s with heap := h' } := I.kept (t' := s.toks) kp
  have I2 : Inv X pins σ (upd H h'.objs.size (.tup ys)) { s with heap := h'.push { cls := .type "tuple",data := .seq its.toArray } } :=
   I1.laid (t' := s.toks) (fun b o e => Heap.get?_push_of_some _ e) (Nat.le_refl _) (show ObjOk X.prog X.w _ _ _ (.tup ys) from ⟨hz,its,r',IsTup.new _ _⟩)
  exact ⟨.ref h'.objs.size,_,I2,rfl,q _ (I1.hok.fresh (Nat.le_refl _))⟩
 ·obtain ⟨its,r',pl,hz⟩ := I.tuple hq
  exact call_tuple_same pl ⟨.ref p,H,I,rfl,q⟩
def tyV (K : PySem.W.Frag) (T : String) (x : V) (H : Hp) : Prop := match x with
 | .str _ => T = "str"
 | .int _ => T = "int"
 | .ref p => (T = "list" /\ ∃ xs,SqL K H p xs) ∨ (T = "tuple" /\ ∃ o,K.lookup p = some o /\ o.cls = .type "tuple" /\ o.dict = none) ∨
   (T = "dict" /\ ((∃ kvs,H p = some (.dK kvs)) ∨ ∃ kvs,H p = some (.dT kvs))) ∨ (T = "set" /\ ∃ S n,H p = some (.set S n))
 | _ => False
theorem tyV_is {pins : List (Addr × Obj)} {σ : St} {H : Hp} {s : Shared} {T : String} {x : V} {v : Value} (I : Inv X pins σ H s) (r : RelV x v) (ty : tyV X.K T x H) :
  s.TypeIs v T /\ ∀ a,v = .ref a -> ∃ ob,s.heap.get? a = some ob /\ ob.dict = none := by
 cases x with
 | str z =>
  obtain ⟨t,rfl⟩ := r
  cases (show T = "str" from ty)
  exact ⟨typeIs_str s z t,fun _ e => nomatch e⟩
 | int i =>
  obtain ⟨t,rfl⟩ := r
  cases (show T = "int" from ty)
  exact ⟨typeIs_int s i t,fun _ e => nomatch e⟩
 | ref p =>
  cases r
  rcases ty with ⟨rfl,xs,hq⟩ | ⟨rfl,o,hk,hc,hd⟩ | ⟨rfl,hk⟩ | ⟨rfl,S,n,hk⟩
  ·obtain ⟨its,_,pl,_⟩ := I.list hq
   refine ⟨pl.isList.typeIs,fun a e => ?_⟩
   cases e
   obtain ⟨o,n,e,c,hd,_⟩ := pl
   exact ⟨o,e,hd⟩
  ·refine ⟨⟨o,I.kIn p o hk,hc⟩,fun a e => ?_⟩
   cases e
   exact ⟨o,I.kIn _ o hk,hd⟩
  ·have z : ∃ o,s.heap.get? p = some o /\ o.ExactDict := by
    rcases hk with ⟨kvs,hk⟩ | ⟨kvs,hk⟩
    ·obtain ⟨_,_,_,_,o,_,_,e,ex,_⟩ := I.hok p _ hk
     exact ⟨o,e,ex⟩
    ·obtain ⟨_,_,_,_,o,_,_,e,ex,_⟩ := I.hok p _ hk
     exact ⟨o,e,ex⟩
   obtain ⟨o,e,ex⟩ := z
   refine ⟨⟨o,e,ex.1⟩,fun a e2 => ?_⟩
   cases e2
   exact ⟨o,e,ex.2.1⟩
  ·obtain ⟨o,_,_,_,e,ex,_⟩ := I.hok p _ hk
   refine ⟨⟨o,e,ex.1⟩,fun a e2 => ?_⟩
   cases e2
   exact ⟨o,e,ex.2.1⟩
 | _ => exact False.elim ty
def tBM (K : PySem.W.Frag) (T : String) (r : V -> List V -> Hp -> VK -> Prop) (to : TE) (t : TA) : TE := fun σ H Q => to σ H fun x H1 => tyV K T x H1 /\ t σ H1 fun xs H2 => r x xs H2 Q
variable {o e : Expr} {es : List Expr} {to : TE} {t : TA} {name : Str} {apos cpos : Pos} {T id : String} {r : V -> List V -> Hp -> VK -> Prop}
theorem pe_bm (pa : PlainAttrs T) (slot : Slot T name id) (hty : typeOf (.builtin id) = pure (.type "method_descriptor")) (hm : MtR X id r) (ho : PE X o to) (ha : PA X (e :: es) t)
  (hbase : attributeBase o name X.env (eval o X.env) = eval o X.env := by rfl)
  (hfew : ((backTo cpos (starEach (e :: es) X.env)).all (fun x => !x.1) && (backToKw cpos (keywordEach [] X.env)).all (fun x => x.1.isSome)
   && decide ((e :: es).length + ([] : List Keyword).length + (if ([] : List Keyword).isEmpty then 0 else 1) < 30)) = true := by rfl)
  (hline : (apos.endLine == cpos.line) = true := by rfl) (hs : starEach (e :: es) X.env = (false,eval e X.env) :: starEach es X.env := by rfl) (hplain : (backTo cpos (starEach es X.env)).any (·.1) = false := by rfl) :
  PE X (.Call (.Attribute o name apos) (e :: es) [] cpos) (tBM X.K T r to t) := by
 intro pins s σ H Q I h
 refine wpAny_Call_method_late hbase hfew hline rfl (thn (ho pins s σ H _ I h) fun v s1 ⟨x,H1,I1,r1,ty,q1⟩ => ?_)
 obtain ⟨h1,h2⟩ := tyV_is I1 r1 ty
 refine ⟨T,id,pa,slot,hty,h1,h2,?_⟩
 have hA := ha cpos pins s1 σ H1 _ I1 q1
 rw [hs] at hA ⊢
 refine Calls.callWith_builtin (by show (false || (backTo cpos (starEach es X.env)).any (·.1)) = false;rw [hplain] <;> rfl) (Calls.evalArgs_plain ?_)
 exact thn hA fun us s2 ⟨vs,H2,I2,r2,q2⟩ => hm pins s2 σ H2 x vs v us Q I2 r1 r2 q2
end
end L2
namespace L2
open PySem PySem.Spec PyProof.Rows
def MtM (X : Cx) (id : String) (r : V -> List V -> Hp -> VK -> Prop) : Prop :=
 ∀ (pins : List (Addr × Obj)) (s : Shared) (σ : St) (H : Hp) (x : V) (xs : List V) (v : Value) (us : List Value) (Q : VK),Inv X pins σ H s -> RelV x v -> Vals xs us -> r x xs H Q →
  wpAny (model X.prog X.w) X.A (call (.builtin id) (v :: us)) (EP X pins σ Q) X.xe s
theorem Vals.one : ∀ {x : V} {us : List Value},Vals [x] us -> ∃ u,us = [u] /\ RelV x u
 | _,_,.cons r .nil => ⟨_,rfl,r⟩
section
variable {X : Cx} {pins : List (Addr × Obj)} {σ : St} {H : Hp} {s : Shared} {l b : Addr} {xs ys zs : List V}
theorem Inv.lset {its its' : List Value} {n : Nat} {f : Array Value -> Array Value} {t' : Nat} (I : Inv X pins σ H s) (hH : H l = some (.lst xs))
  (e : s.heap.get? l = some { cls := .type "list",data := .seq its.toArray n }) (hf : f its.toArray = its'.toArray) (hv : Vals ys its') (hz : ys.length <= sizeLine) :
  Inv X pins σ (upd H l (.lst ys)) { s with heap := s.heap.update l (Obj.mapSeq f),toks := t' } := by
 have q := PySem.IsL.update e f
 rw [hf] at q
 refine I.write (x := l) (e := l) (by rw [hH];exact trivial) (.inl rfl) (fun b' u hb hu => (Heap.get?_update_other s.heap (Obj.mapSeq f) (Ne.symm hb)).trans hu) ⟨_,q⟩ ?_
 exact ⟨hz,its',_,hv,q⟩
theorem Inv.lnew {its : List Value} {t' : Nat} (I : Inv X pins σ H s) (hv : Vals ys its) (hz : ys.length <= sizeLine) :
  Inv X pins σ (upd H s.heap.objs.size (.lst ys)) { s with heap := s.heap.push { cls := .type "list",data := .seq its.toArray },toks := t' } :=
 I.laid (fun _ _ q => Heap.get?_push_of_some _ q) (Nat.le_refl _) ⟨hz,its,0,hv,Heap.get?_push_size _ rfl⟩
theorem Inv.fresh (I : Inv X pins σ H s) : H s.heap.objs.size = none := I.hok.fresh (Nat.le_refl _)
theorem Inv.lstM (I : Inv X pins σ H s) (hH : H l = some (.lst xs)) : xs.length <= sizeLine /\ ∃ (its : List Value) (n : Nat),Vals xs its /\ xs.length = its.length /\ s.heap.get? l = some { cls := .type "list",data := .seq its.toArray n } := by
 obtain ⟨z,its,n,r,e⟩ := I.hok l _ hH
 exact ⟨z,its,n,r,r.length,e⟩
end
section
variable {X : Cx}
def rAppend : V -> List V -> Hp -> VK -> Prop := fun x vs H Q => ∃ l xs y,x = .ref l /\ vs = [y] /\ H l = some (.lst xs) /\ xs.length < sizeLine /\ Q .non (upd H l (.lst (xs ++ [y])))
theorem mt_append : MtM X "list.append" rAppend := by
 intro pins s σ H x vs v us Q I rx rv h
 obtain ⟨l,xs,y,rfl,rfl,hH,hz,q⟩ := h
 cases rx
 obtain ⟨u,rfl,ru⟩ := rv.one
 obtain ⟨z,its,n,r,hl,e⟩ := I.lstM hH
 refine call_meets F.slot_list_append ⟨_,e,rfl⟩ F.entry_list_append (F.args_list_append_2 _ _) (PySem.list_append l its.toArray n u (by rw [List.size_toArray];omega)) ⟨e,?_⟩
 refine ⟨.non,_,I.lset (its' := its ++ [u]) hH e (by simp) (r.append (.cons ru .nil)) ?_,rfl,q⟩
 rw [List.length_append,List.length_singleton]
 omega
end
section
variable {prog : Program} {w : World} {A : Around} {E : Value -> Shared -> Prop} {s : Shared}
set_option maxRecDepth 100000 in
end
end L2
namespace L2
open PySem PySem.Spec PyProof.Rows
section
variable {κ : Type} [DecidableEq κ]
def valV (kvs : List (κ × V)) (k : κ) : Option V := (kvs.find? fun kv => decide (kv.1 = k)).map (·.2)
def putK (kvs : List (κ × V)) (k : κ) (v : V) : List (κ × V) :=
 if (kvs.any fun kv => decide (kv.1 = k)) = true then kvs.map (fun kv => if kv.1 = k then (kv.1,v) else kv) else kvs ++ [(k,v)]
theorem valV_pos {p : κ × V} {r : List (κ × V)} {k : κ} (e : p.1 = k) : valV (p :: r) k = some p.2 := by simp [valV,List.find?_cons,e]
theorem valV_neg {p : κ × V} {r : List (κ × V)} {k : κ} (e : ¬ p.1 = k) : valV (p :: r) k = valV r k := by simp [valV,List.find?_cons,e]
theorem valV_any (k : κ) : ∀ kvs : List (κ × V),(kvs.any fun kv => decide (kv.1 = k)) = (valV kvs k).isSome
 | [] => rfl
 | p :: r => by
  rw [List.any_cons]
  by_cases e : p.1 = k
  ·simp only [valV_pos e,decide_eq_true e,Bool.true_or,Option.isSome_some]
  ·rw [valV_neg e,decide_eq_false e,Bool.false_or];exact valV_any k r
theorem length_putK (kvs : List (κ × V)) (k : κ) (v : V) : (putK kvs k v).length <= kvs.length + 1 := by
 unfold putK
 split
 ·rw [List.length_map];omega
 ·rw [List.length_append,List.length_cons,List.length_nil];omega
theorem RelO.isSome_eq {o : Option V} {u : Option Value} (r : RelO o u) : o.isSome = u.isSome := by
 cases o with
 | none => cases u with
  | none => rfl
  | some _ => exact (show False from r).elim
 | some _ => cases u with
  | none => exact (show False from r).elim
  | some _ => rfl
theorem RelO.getD {o : Option V} {u : Option Value} {d : V} {d' : Value} (r : RelO o u) (rd : RelV d d') : RelV (o.getD d) (u.getD d') := by
 cases o with
 | none => cases u with
  | none => exact rd
  | some _ => exact (show False from r).elim
 | some _ => cases u with
  | none => exact (show False from r).elim
  | some _ => exact r
theorem KV.val {kvs : List (κ × V)} {vs : List (κ × Value)} (r : KV kvs vs) (k : κ) : RelO (valV kvs k) (valueAt vs k) := by
 unfold KV at r
 induction r with
 | nil => exact True.intro
 | @cons p q ps qs h t ih =>
  obtain ⟨h1,h2⟩ := h
  by_cases e : p.1 = k
  ·have e' : q.1 = k := h1.symm.trans e
   have b : valueAt (q :: qs) k = some q.2 := by simp [valueAt,List.find?_cons,e']
   rw [valV_pos e,b];exact h2
  ·have e' : ¬ q.1 = k := fun z => e (h1.trans z)
   have b : valueAt (q :: qs) k = valueAt qs k := by simp [valueAt,List.find?_cons,e']
   rw [valV_neg e,b];exact ih
theorem KV.any {kvs : List (κ × V)} {vs : List (κ × Value)} (r : KV kvs vs) (k : κ) : (kvs.any fun kv => decide (kv.1 = k)) = vs.any fun kv => decide (kv.1 = k) := by
 unfold KV at r
 induction r with
 | nil => rfl
 | cons h t ih => rw [List.any_cons,List.any_cons,ih,h.1]
theorem KV.repl {kvs : List (κ × V)} {vs : List (κ × Value)} (r : KV kvs vs) (k : κ) {y : V} {u : Value} (ry : RelV y u) :
  KV (kvs.map fun kv => if kv.1 = k then (kv.1,y) else kv) (vs.map fun kv => if kv.1 = k then (kv.1,u) else kv) := by
 unfold KV at r ⊢
 induction r with
 | nil => exact .nil
 | @cons p q ps qs h t ih =>
  rw [List.map_cons,List.map_cons]
  refine .cons ?_ ih
  obtain ⟨h1,h2⟩ := h
  by_cases e : p.1 = k
  ·rw [if_pos e,if_pos (h1.symm.trans e)];exact ⟨h1,ry⟩
  ·rw [if_neg e,if_neg (fun z => e (h1.trans z))];exact ⟨h1,h2⟩
theorem KV.put {kvs : List (κ × V)} {vs : List (κ × Value)} (r : KV kvs vs) (k : κ) {y : V} {u : Value} (ry : RelV y u) : KV (putK kvs k y) (stored vs k u) := by
 unfold putK stored
 rw [r.any k]
 by_cases e : (vs.any fun kv => decide (kv.1 = k)) = true
 ·rw [if_pos e,if_pos e];exact r.repl k ry
 ·rw [if_neg e,if_neg e];exact Paired.snoc r ⟨rfl,ry⟩
theorem KV.length {kvs : List (κ × V)} {vs : List (κ × Value)} (r : KV kvs vs) : kvs.length = vs.length := Paired.length r
end
theorem kV_is {P : Program} {w : World} {k : Key} {u : Value} (r : RelV (kV k) u) : (mixKind P w).is k u = true := by
 cases k with
 | inl i => obtain ⟨t,e⟩ := (show ∃ t,u = Value.int i t from r);subst e;exact mixKind_int P w i t
 | inr x => obtain ⟨t,e⟩ := (show ∃ t,u = Value.str x t from r);subst e;exact mixKind_str P w x t
theorem items_are {P : Program} {w : World} : ∀ {ks : List Key} {us : List Value},Vals (ks.map kV) us -> ItemsAre (mixKind P w) ks us
 | [],_,r => by rw [List.map_nil] at r;cases r;exact .nil
 | k :: ks,_,r => by
  rw [List.map_cons] at r
  cases r with
  | cons h t => exact .cons (kV_is h) (items_are t)
abbrev KT (H : Hp) : List (List Key × V) -> List (List Key × Addr × Value) -> Prop := Paired fun p q => p.1 = q.1 /\ H q.2.1 = some (.tup (p.1.map kV)) /\ RelV p.2 q.2.2
theorem KT.val {H : Hp} {kvs : List (List Key × V)} {xs : List (List Key × Addr × Value)} (r : KT H kvs xs) (k : List Key) : RelO (valV kvs k) ((atKey xs k).map (·.2)) := by
 induction r with
 | nil => exact True.intro
 | @cons p q ps qs h t ih =>
  obtain ⟨h1,_,h2⟩ := h
  by_cases e : p.1 = k
  ·have e' : q.1 = k := h1.symm.trans e
   have b : atKey (q :: qs) k = some q.2 := by simp [atKey,List.find?_cons,e']
   rw [valV_pos e,b];exact h2
  ·have e' : ¬ q.1 = k := fun z => e (h1.trans z)
   have b : atKey (q :: qs) k = atKey qs k := by simp [atKey,List.find?_cons,e']
   rw [valV_neg e,b];exact ih
theorem KT.repl {H : Hp} {kvs : List (List Key × V)} {xs : List (List Key × Addr × Value)} (r : KT H kvs xs) (k : List Key) {y : V} {u : Value} (ry : RelV y u) :
  KT H (kvs.map fun kv => if kv.1 = k then (kv.1,y) else kv) (xs.map (putAt k u)) := by
 induction r with
 | nil => exact .nil
 | @cons p q ps qs h t ih =>
  rw [List.map_cons,List.map_cons]
  refine .cons ?_ ih
  obtain ⟨h1,h2,h3⟩ := h
  unfold putAt
  by_cases e : p.1 = k
  ·rw [if_pos e,if_pos (h1.symm.trans e)];exact ⟨h1,h2,ry⟩
  ·rw [if_neg e,if_neg (fun z => e (h1.trans z))];exact ⟨h1,h2,h3⟩
theorem KT.put {H : Hp} {kvs : List (List Key × V)} {xs : List (List Key × Addr × Value)} (r : KT H kvs xs) (k : List Key) {b : Addr} {y : V} {u : Value} (hb : H b = some (.tup (k.map kV))) (ry : RelV y u) :
  KT H (putK kvs k y) (storedH xs k b u) := by
 have e : (kvs.any fun kv => decide (kv.1 = k)) = (atKey xs k).isSome := by
  rw [valV_any,(r.val k).isSome_eq,Option.isSome_map]
 unfold putK storedH
 rw [e]
 by_cases q : (atKey xs k).isSome = true
 ·rw [if_pos q,if_pos q];exact r.repl k ry
 ·rw [if_neg q,if_neg q];exact Paired.snoc r ⟨rfl,hb,ry⟩
theorem KT.keeps {H H' : Hp} {kvs : List (List Key × V)} {xs : List (List Key × Addr × Value)} (r : KT H kvs xs) (ht : ∀ b ys,H b = some (.tup ys) -> H' b = some (.tup ys)) : KT H' kvs xs :=
 Paired.mapP r fun _ _ z => ⟨z.1,ht _ _ z.2.1,z.2.2⟩
section
variable {P : Program} {w : World} {H : Hp} {h : Heap} {a : Addr}
theorem rd_of {u : HO} (ok : HOk P w H h) (e : Rd H a u) : ObjOk P w H h a u := e.ok ok
theorem dk_rd {kvs : List (Key × V)} (ok : HOk P w H h) (e : Rd H a (.dK kvs)) : kvs.length <= sizeLine /\ (a == sysModules) = false /\ ∃ vs,KV kvs vs /\ h.DictOf (mixKind P w) a vs :=
 show ObjOk P w H h a (.dK kvs) from rd_of ok e
theorem dk_of {kvs : List (Key × V)} (ok : HOk P w H h) (e : H a = some (.dK kvs)) : kvs.length <= sizeLine /\ (a == sysModules) = false /\ ∃ vs,KV kvs vs /\ h.DictOf (mixKind P w) a vs := dk_rd ok (.inl e)
theorem key_of {ks : List Key} (ok : HOk P w H h) (e : H a = some (.tup (ks.map kV))) : (tupleKind (mixKind P w)).is h ks a := by
 obtain ⟨_,its,r,o,h1,h2,n,h3⟩ := (show ObjOk P w H h a (.tup (ks.map kV)) from ok a _ e)
 exact ⟨o,its.toArray,n,h1,h2,h3,by simpa using items_are r⟩
theorem dt_rd {kvs : List (List Key × V)} (ok : HOk P w H h) (e : Rd H a (.dT kvs)) : kvs.length <= sizeLine /\ (a == sysModules) = false ∧
  ∃ xs,KT H kvs xs /\ h.DictOfH (tupleKind (mixKind P w)) a xs := by
 obtain ⟨z,y,xs,r,o,es,ep,h1,h2,h3,h4,h5⟩ := (show ObjOk P w H h a (.dT kvs) from rd_of ok e)
 refine ⟨z,y,xs,r,o,es,ep,h1,h2,h3,h4,fun x hx => ?_,h5⟩
 have all : ∀ {l : List (List Key × V)} {m : List (List Key × Addr × Value)},KT H l m -> ∀ x ∈ m,(tupleKind (mixKind P w)).is h x.1 x.2.1 := by
  intro l m q
  induction q with
  | nil => intro x hx;exact nomatch hx
  | @cons p q ps qs hq t ih =>
   intro x hx
   rcases List.mem_cons.mp hx with e | hx
   ·subst e
    exact key_of ok (by rw [<- hq.1];exact hq.2.1)
   ·exact ih x hx
 exact all r x hx
theorem dt_of {kvs : List (List Key × V)} (ok : HOk P w H h) (e : H a = some (.dT kvs)) : kvs.length <= sizeLine /\ (a == sysModules) = false ∧
  ∃ xs,KT H kvs xs /\ h.DictOfH (tupleKind (mixKind P w)) a xs := dt_rd ok (.inl e)
end
def DGet (H : Hp) (a : Addr) (y : V) (r : Option V) : Prop :=
 (∃ kvs k,Rd H a (.dK kvs) /\ y = kV k /\ r = valV kvs k) ∨ ∃ kvs k b,Rd H a (.dT kvs) /\ y = .ref b /\ H b = some (.tup (k.map kV)) /\ r = valV kvs k
def DPut (H : Hp) (a : Addr) (y v : V) (H' : Hp) : Prop :=
 (∃ kvs k,H a = some (.dK kvs) /\ y = kV k /\ kvs.length < sizeLine /\ H' = upd H a (.dK (putK kvs k v))) ∨
 ∃ kvs k b,H a = some (.dT kvs) /\ y = .ref b /\ H b = some (.tup (k.map kV)) /\ kvs.length < sizeLine /\ H' = upd H a (.dT (putK kvs k v))
theorem DGet.k {H : Hp} {a : Addr} {kvs : List (Key × V)} {k : Key} (e : H a = some (.dK kvs)) : DGet H a (kV k) (valV kvs k) := .inl ⟨kvs,k,.inl e,rfl,rfl⟩
theorem DPut.k {H : Hp} {a : Addr} {kvs : List (Key × V)} {k : Key} {v : V} (e : H a = some (.dK kvs)) (hl : kvs.length < sizeLine) : DPut H a (kV k) v (upd H a (.dK (putK kvs k v))) := .inl ⟨kvs,k,e,rfl,hl,rfl⟩
section
variable {X : Cx} {pins : List (Addr × Obj)} {σ : St} {H : Hp} {s : Shared} {a : Addr} {y v : V} {u r : Value} {o : Option V} {A : Around} {E : Value -> Shared -> Prop}
theorem Inv.big (I : Inv X pins σ H s) : sysModules < s.heap.objs.size := by
 have h : mainGlobals < s.heap.objs.size := (I.mod.glob.keeps I.bk).lt
 exact Nat.lt_trans (by decide) h
theorem d_getItem {Q : Value -> Shared -> Prop} (hu : A.units + 1 < cLine) (I : Inv X pins σ H s) (g : DGet H a y (some v)) (ry : RelV y u) (h : ∀ w' s',Inv X pins σ H s' -> RelV v w' -> Q w' s') :
  wpAny (model X.prog X.w) A (getItem (.ref a) u) Q E s := by
 rcases g with ⟨kvs,k,e,ey,l⟩ | ⟨kvs,k,b,e,ey,eb,l⟩
 ·subst ey
  obtain ⟨z,hd,vs,rel,dd⟩ := dk_rd I.hok e
  obtain ⟨w',hw,rw'⟩ := RelO.some_of (v := v) (o := valueAt vs k) (by rw [l];exact rel.val k)
  exact wpAny_getItem_of (kV_is ry) dd.mapOf hw (h w' _ (I.tok _) rw')
 ·subst ey
  cases (show u = Value.ref b from ry)
  obtain ⟨z,hd,xs,rel,dd⟩ := dt_rd I.hok e
  obtain ⟨w',hw,rw'⟩ := RelO.some_of (v := v) (o := (atKey xs k).map (·.2)) (by rw [l];exact rel.val k)
  obtain ⟨p,hp,hp2⟩ := Option.map_eq_some_iff.mp hw
  refine wpAny_getItem_heap (tupleKind_room_in1 hu) (key_of I.hok eb) dd hp ?_
  rw [hp2]
  exact h w' _ (I.tok _) rw'
theorem d_write {h' : Heap} {t' : Nat} {ob : HO} (I : Inv X pins σ H s) (mu : Mut (H a)) (hs : Heap.SameBut a s.heap h') (he : ∃ q,h'.get? a = some q) (new : ObjOk X.prog X.w (upd H a ob) h' a ob) :
  Inv X pins σ (upd H a ob) { s with heap := h',toks := t' } :=
 I.write (x := a) (e := a) mu (.inl rfl) (fun b q hb z => (hs.2 b hb).trans z) he new
theorem dk_new {P : Program} {w : World} {H' : Hp} {h' : Heap} {kvs : List (Key × V)} {vs : List (Key × Value)} (z : kvs.length <= sizeLine) (hd : (a == sysModules) = false) (rel : KV kvs vs) (dd : h'.DictOf (mixKind P w) a vs) :
  ObjOk P w H' h' a (.dK kvs) := ⟨z,hd,vs,rel,dd⟩
theorem d_setItem {H' : Hp} {Q : Unit -> Shared -> Prop} (hu : A.units + 1 < cLine) (I : Inv X pins σ H s) (g : DPut H a y v H') (ry : RelV y u) (rv : RelV v r) (h : ∀ s',Inv X pins σ H' s' -> Q () s') :
  wpAny (model X.prog X.w) A (setItem (.ref a) u r) Q E s := by
 rcases g with ⟨kvs,k,e,ey,l,eH⟩ | ⟨kvs,k,b,e,ey,eb,l,eH⟩
 ·subst ey eH
  obtain ⟨z,hd,vs,rel,dd⟩ := dk_of I.hok e
  have hz : vs.length <= sizeLine := by rw [<- rel.length];exact z
  have hl : (putK kvs k v).length <= sizeLine := by have := length_putK kvs k v;omega
  refine wpAny_setItem_pairs (hsz := hz) (kV_is ry) dd fun h' dd' hs => h _ ?_
  have he : ∃ q,h'.get? a = some q := let ⟨q,_,_,hq,_⟩ := dd';⟨q,hq⟩
  exact d_write I (by rw [e];exact True.intro) hs he (dk_new hl hd (rel.put k rv) dd')
 ·subst ey eH
  cases (show u = Value.ref b from ry)
  obtain ⟨z,hd,xs,rel,dd⟩ := dt_of I.hok e
  have hz : xs.length <= sizeLine := by rw [<- Paired.length rel];exact z
  have hl : (putK kvs k v).length <= sizeLine := by have := length_putK kvs k v;omega
  refine wpAny_setItem_heap (hsz := hz) (tupleKind_room_in1 hu) (key_of I.hok eb) dd fun h' dd' hs => h _ ?_
  obtain ⟨q,es,ep,hq,h2,h3,h4,_,h5⟩ := dd'
  refine d_write I (by rw [e];exact True.intro) hs ⟨q,hq⟩ ⟨hl,hd,_,(rel.put k eb rv).keeps fun c ys ec => ?_,q,es,ep,hq,h2,h3,h4,h5⟩
  rw [upd_ne (ne_of ec e (fun z => nomatch z))]
  exact ec
end
theorem dict_typeIs {X : Cx} {pins : List (Addr × Obj)} {σ : St} {H : Hp} {s : Shared} {a : Addr} {y : V} {o : Option V} (I : Inv X pins σ H s) (g : DGet H a y o) : s.TypeIs (.ref a) "dict" := by
 rcases g with ⟨kvs,k,e,_,_⟩ | ⟨kvs,k,b,e,_,_,_⟩
 ·obtain ⟨_,_,vs,_,dd⟩ := dk_rd I.hok e
  exact dd.typeIs
 ·obtain ⟨_,_,xs,_,dd⟩ := dt_rd I.hok e
  exact dd.typeIs
def sDPut (td ty tv : TE) : TS := fun D σ H => tv σ H fun v H1 => td σ H1 fun x H2 => ty σ H2 fun y H3 => ∃ a H4,x = .ref a /\ DPut H3 a y v H4 /\ D.nx σ H4
section
variable {X : Cx} {o i e value : Expr} {pos pos' tpos : Pos} {td ty tv : TE}
theorem ps_dput (hu : X.A.units + 1 < cLine) (ho : PE X o td) (hi : PE X i ty) (hv : PE X value tv) (hs : swapsWith value (some (.Subscript o i pos')) pos.line X.env = pure false) :
  PS X (.Assign [.Subscript o i pos'] value pos) (sDPut td ty tv) := by
 intro pins s σ H D I h
 refine wpAny_Assign_Subscript (thn (hv pins s σ H _ I h) fun r s1 ⟨v,H1,I1,rv,q1⟩ => thn (ho pins s1 σ H1 _ I1 q1) fun u s2 ⟨x,H2,I2,rx,q2⟩ => thn (hi pins s2 σ H2 _ I2 q2) fun iv s3 ⟨y,H3,I3,ry,a,H4,ex,g,q3⟩ => ?_) hs
 subst ex
 obtain rfl : u = Value.ref a := rx
 exact d_setItem hu I3 g ry rv fun s4 I4 => ⟨σ,H4,I4,q3⟩
end
theorem dk_empty {P : Program} {w : World} {H : Hp} (h : Heap) (hb : sysModules < h.objs.size) : ObjOk P w H (h.push { cls := .type "dict",data := .dict #[] }) h.objs.size (.dK []) :=
 ⟨Nat.zero_le _,beq_eq_false_iff_ne.mpr (Ne.symm (Nat.ne_of_lt hb)),[],.nil,Heap.DictOf.new h⟩
def tDNewK : TE := fun _ H Q => ∀ p,H p = none -> Q (.ref p) (upd H p (.dK []))
section
variable {X : Cx} {pos : Pos}
theorem pe_dnewK : PE X (.Dict [] [] pos) tDNewK := fun pins s σ H Q I h =>
 wpAny_Dict_empty ⟨.ref s.heap.objs.size,_,I.laid (a := s.heap.objs.size) (o := .dK []) (t' := s.toks) (fun _ _ q => Heap.get?_push_of_some _ q) (Nat.le_refl _) (dk_empty s.heap I.big),rfl,h _ (I.hok.fresh (Nat.le_refl _))⟩
end
structure M1 (X : Cx) (o : Expr) (m : Str) (apos : Pos) (e : Expr) (cpos : Pos) : Prop where
 base : attributeBase o m X.env (eval o X.env) = eval o X.env
 few : ((backTo cpos (starEach [e] X.env)).all (fun x => !x.1) && (backToKw cpos (keywordEach [] X.env)).all (fun x => x.1.isSome)
  && decide (([e] : List Expr).length + ([] : List Keyword).length + (if ([] : List Keyword).isEmpty then 0 else 1) < 30)) = true
 line : (apos.endLine == cpos.line) = true
 trees : backTo cpos (starEach [e] X.env) = [(false,eval e X.env)]
structure M2 (X : Cx) (o : Expr) (m : Str) (apos : Pos) (e f : Expr) (cpos : Pos) : Prop where
 base : attributeBase o m X.env (eval o X.env) = eval o X.env
 few : ((backTo cpos (starEach [e,f] X.env)).all (fun x => !x.1) && (backToKw cpos (keywordEach [] X.env)).all (fun x => x.1.isSome)
  && decide (([e,f] : List Expr).length + ([] : List Keyword).length + (if ([] : List Keyword).isEmpty then 0 else 1) < 30)) = true
 line : (apos.endLine == cpos.line) = true
 trees : backTo cpos (starEach [e,f] X.env) = [(false,eval e X.env),(false,eval f X.env)]
def IsD (H : Hp) (a : Addr) : Prop := (∃ kvs,Rd H a (.dK kvs)) ∨ ∃ kvs,Rd H a (.dT kvs)
theorem isD_at {X : Cx} {pins : List (Addr × Obj)} {σ : St} {H : Hp} {s : Shared} {a : Addr} (I : Inv X pins σ H s) (d : IsD H a) :
  s.TypeIs (.ref a) "dict" /\ (∀ b,Value.ref a = .ref b -> ∃ ob,s.heap.get? b = some ob /\ ob.dict = none) /\ (a == sysModules) = false := by
 rcases d with ⟨kvs,e⟩ | ⟨kvs,e⟩
 ·obtain ⟨_,hd,vs,_,dd⟩ := dk_rd I.hok e
  refine ⟨dd.typeIs,fun b q => ?_,hd⟩
  cases q
  obtain ⟨ob,_,_,h1,h2,_⟩ := dd
  exact ⟨ob,h1,h2.2.1⟩
 ·obtain ⟨_,hd,xs,_,dd⟩ := dt_rd I.hok e
  refine ⟨dd.typeIs,fun b q => ?_,hd⟩
  cases q
  obtain ⟨ob,_,_,h1,h2,_⟩ := dd
  exact ⟨ob,h1,h2.2.1⟩
section
variable {X : Cx} {pins : List (Addr × Obj)} {σ : St} {H : Hp} {s : Shared} {a : Addr} {y d : V} {u r : Value} {o : Option V} {A : Around} {E : Value -> Shared -> Prop}
theorem d_get1 {Q : Value -> Shared -> Prop} (hu : A.units + 1 < cLine) (I : Inv X pins σ H s) (g : DGet H a y o) (ry : RelV y u) (h : ∀ w' s',Inv X pins σ H s' -> RelV (o.getD .non) w' -> Q w' s') :
  wpAny (model X.prog X.w) A (call (.builtin "dict.get") [.ref a,u]) Q E s := by
 rcases g with ⟨kvs,k,e,ey,l⟩ | ⟨kvs,k,b,e,ey,eb,l⟩
 ·subst ey
  obtain ⟨z,hd,vs,rel,dd⟩ := dk_rd I.hok e
  refine call_meetsIn PySem.F.slot_dict_get dd.typeIs PySem.F.entry_dict_get (PySem.F.args_dict_get_2 _ _) (meets_dict_get (mixKind X.prog X.w) a (kV_is ry) hd) ⟨_,dd.mapOf,h _ _ (I.tok _) ?_⟩
  rw [l]
  exact (rel.val k).getD rfl
 ·subst ey
  cases (show u = Value.ref b from ry)
  obtain ⟨z,hd,xs,rel,dd⟩ := dt_rd I.hok e
  refine call_meetsIn PySem.F.slot_dict_get dd.typeIs PySem.F.entry_dict_get (PySem.F.args_dict_get_2 _ _) (meetsH_dict_get (tupleKind (mixKind X.prog X.w)) a b hd) ⟨tupleKind_room_in1 hu,k,xs,key_of I.hok eb,dd,h _ _ (I.tok _) ?_⟩
  rw [l]
  exact (rel.val k).getD rfl
theorem d_get2 {Q : Value -> Shared -> Prop} (hu : A.units + 1 < cLine) (I : Inv X pins σ H s) (g : DGet H a y o) (ry : RelV y u) (rd : RelV d r) (h : ∀ w' s',Inv X pins σ H s' -> RelV (o.getD d) w' -> Q w' s') :
  wpAny (model X.prog X.w) A (call (.builtin "dict.get") [.ref a,u,r]) Q E s := by
 rcases g with ⟨kvs,k,e,ey,l⟩ | ⟨kvs,k,b,e,ey,eb,l⟩
 ·subst ey
  obtain ⟨z,hd,vs,rel,dd⟩ := dk_rd I.hok e
  refine call_meetsIn PySem.F.slot_dict_get dd.typeIs PySem.F.entry_dict_get (PySem.F.args_dict_get_3 _ _ _) (meets_dict_get_default (mixKind X.prog X.w) a (kV_is ry) hd r) ⟨_,dd.mapOf,h _ _ (I.tok _) ?_⟩
  rw [l]
  exact (rel.val k).getD rd
 ·subst ey
  cases (show u = Value.ref b from ry)
  obtain ⟨z,hd,xs,rel,dd⟩ := dt_rd I.hok e
  refine call_meetsIn PySem.F.slot_dict_get dd.typeIs PySem.F.entry_dict_get (PySem.F.args_dict_get_3 _ _ _) (meetsH_dict_get_default (tupleKind (mixKind X.prog X.w)) a b hd r) ⟨tupleKind_room_in1 hu,k,xs,key_of I.hok eb,dd,h _ _ (I.tok _) ?_⟩
  rw [l]
  exact (rel.val k).getD rd
end
def tDGet2 (td ty tx : TE) : TE := fun σ H Q => td σ H fun x H1 => ∃ a,x = .ref a /\ IsD H1 a /\ ty σ H1 fun y H2 => tx σ H2 fun z H3 => ∃ o,DGet H3 a y o /\ Q (o.getD z) H3
section
variable {X : Cx} {o e f : Expr} {apos cpos : Pos} {td ty tx : TE}
theorem pe_dget2 (hu : X.A.units + 1 < cLine) (ho : PE X o td) (he : PE X e ty) (hf : PE X f tx) (m : M2 X o "get" apos e f cpos) : PE X (.Call (.Attribute o "get" apos) [e,f] [] cpos) (tDGet2 td ty tx) := by
 intro pins s σ H Q I h
 refine wpAny_Call_method m.base m.few m.line PySem.F.plainAttrs_dict PySem.F.slot_dict_get PySem.F.type_dict_get (thn (ho pins s σ H _ I h) fun u s1 ⟨x,H1,I1,rx,a,ex,d,q1⟩ => ?_)
 subst ex
 obtain rfl : u = Value.ref a := rx
 obtain ⟨t1,t2,_⟩ := isD_at I1 d
 refine ⟨t1,t2,?_⟩
 rw [m.trees]
 refine Calls.callWith_builtin rfl (Calls.evalArgs_plain (Calls.spliced_cons (thn (he pins s1 σ H1 _ I1 q1) fun iv s2 ⟨y,H2,I2,ry,q2⟩ =>
  Calls.spliced_cons (thn (hf pins s2 σ H2 _ I2 q2) fun fv s3 ⟨z,H3,I3,rz,ov,g,q3⟩ => Calls.spliced_nil ?_))))
 exact d_get2 hu I3 g ry rz fun w' s4 I4 rw' => ⟨_,H3,I4,rw',q3⟩
end
end L2
namespace Att
open PySem PySem.W PySem.Calls PyProof.Rows
theorem ints_of_wellAll {P : Params} {h : Heap} : ∀ (ns : List Int) (vs : List Value),WellAll P h vs (ns.map WData.int) -> IntsAre vs ns := by
 intro ns
 induction ns with
 | nil =>
  intro vs w
  rw [List.map_nil] at w
  cases w
  exact .nil
 | cons n ns ih =>
  intro vs w
  rw [List.map_cons] at w
  cases w with
  | cons a b =>
   cases a
   exact .cons _ _ (ih _ b)
theorem script_of {l : OpenLaw} {n : Nat} (hn : l.most = some n) {P : Params} {h : Heap} {args : List WData} {vals : List Value}
  (hpre : l.row.toRowW.claim.pre args = true) (hwl : WellAll P h vals args) :
  ∃ a vs ns,vals = [Value.ref a] /\ args = [WData.list (ns.map WData.int)] /\ h.get? a = some { cls := .type "list",data := .seq vs.toArray } /\ IntsAre vs ns /\ ns.length <= n := by
 have hsh : WShape.hasAll [] args [.list .int] = true := (pre_splitW hpre).1
 have hc : l.pre.holds [] { args := args } = true := (pre_splitW hpre).2
 obtain ⟨d,r,rfl,h1,h2⟩ := hasAllW_cons hsh
 obtain rfl := hasAllW_nil h2
 obtain ⟨xs,rfl,h3⟩ := hasW_list h1
 obtain ⟨ns,rfl⟩ := items_int h3
 have hlen : ns.length <= n := by
  unfold OpenLaw.pre at hc
  have h4 : (WTm.not (.lt (.lit (.int (n : Int))) (.len (.arg 0)))).holds [] { args := [.list (ns.map .int)] } = true := by
   have h4 := (holds_andW hc).1
   rw [hn] at h4
   exact h4
  have h5 := condW_of h4 (w_not (w_lt w_lit (w_len_list (w_arg rfl))))
  rw [List.length_map] at h5
  refine Nat.le_of_not_lt fun q => ?_
  have q' : (n : Int) < ((ns.length : Nat) : Int) := by omega
  first
   | (rw [decide_eq_true q'] at h5;exact absurd h5 (by decide))
   | (simp at h5;omega)
 cases hwl with
 | cons w1 w2 =>
  cases w2
  cases w1 with
  | list ho hall => exact ⟨_,_,ns,rfl,rfl,ho,ints_of_wellAll ns _ hall,hlen⟩
theorem post_true (l : OpenLaw) (args : List WData) : l.row.toRowW.claim.post args (.bool true) args = true :=
 postW_of (r := l.row.toRowW) (X := (true == true))
  (show WShape.has [] (.bool true) .bool = true by first | rfl | decide | simp [WShape.has,WShape.arms,WShape.armsAll])
  (show (WTm.eq .res (.lit (.bool true))).value [] { args := args,res := some (.bool true),after := args } = some (.bool (true == true)) from w_eq_bool (w_res rfl) w_lit) rfl
theorem attach_call {l : OpenLaw} {n : Nat} {q : Program} {loose : List Str} {XP : (Str -> Option Value) -> Heap -> Prop} {YP : World -> Heap -> Prop} {d : DefRec}
  (hn : l.most = some n) (hdf : d.params.defaults = [])
  (call : ∀ (w : World) (s₀ s₁ : Shared) (mg mb : Str -> Option Value) (fa : Addr) (o : Obj) (pm cd doc : Value) (a : Addr) (vs : List Value) (ns : List Int),
   Ground q loose [] XP w s₀ mg mb s₁.heap -> YP w s₁.heap →
   s₁.heap.get? fa = some o -> o.data = .func (docDef d.name d.params d.body d.scope pm cd doc) -> s₁.heap.CodeRec cd d.name -> mg d.name = some (.ref fa) →
   s₁.heap.get? a = some { cls := .type "list",data := .seq vs.toArray } -> IntsAre vs ns -> ns.length <= n -> s₁.gens = #[] →
   codeAny (model l.prog w) callerA (.call (.ref fa) ⟨[.ref a],[]⟩) (fun r s' => r = .ok (.ret (.bool true)) /\ OldK s₁.heap s'.heap /\ s'.os = s₁.os /\ AllBare s'.gens) s₁) :
  WalkO q loose XP YP l.row.toRowW d [] (fun f vs => PySem.call f vs) := by
 intro w s₀ s₁ mg mb G Y fa o pm cd doc dV kV ho hd hcd hD hmg hg args vals as hpre hlay hrd hwl hlo
 obtain rfl : dV = .none := Dflts.none hD hdf
 obtain rfl : kV = .none := Dflts.noKw hD
 obtain ⟨a,vs,ns,rfl,rfl,hobj,hints,hlen⟩ := script_of hn hpre hwl
 refine enter_call (codeAny_mono (call w s₀ s₁ mg mb fa o pm cd doc a vs ns G Y ho (fd_plain hd) hcd hmg hobj hints hlen hg) fun r s' hq => ?_)
 obtain ⟨rfl,h2,h3,h4⟩ := hq
 exact ⟨.inl ⟨.bool true,.bool true,[],rfl,fun _ => rfl,.bool true,post_true l _,fun _ => ⟨List.Pairwise.nil,fun _ hm => (nomatch hm)⟩⟩,h2,h3,h4⟩
end Att
namespace L2
open PySem PySem.Spec PyProof.Rows
theorem vals_ints : ∀ {vs : List Value} {ns : List Int},IntsAre vs ns -> Vals (ns.map V.int) vs
 | _,_,.nil => .nil
 | _,_,.cons n t h => .cons ⟨t,rfl⟩ (vals_ints h)
def Only (H : Hp) : Prop := ∀ b,H b = none ∨ ∃ o xs,H b = some (.frz o (.lst xs))
theorem law_call {P : Program} {w : World} {K : PySem.W.Frag} {mg mb : Str -> Option Value} {CX : CXT} {k : Nat} {fa a : Addr} {fd : FuncData} {x : Str} {sp : Sp} {s₁ : Shared} {vs : List Value} {ns : List Int}
  (KX : K.In s₁.heap) (hns : s₁.heap.Ns mainGlobals mg) (hb : s₁.heap.Ns builtinsNs mb) (hbb : ∀ x : Str,x ≠ "__name__" -> mb x = bootBuiltins x) (hlim : s₁.heap.NoLimit) (hg : s₁.gens = #[])
  (ha : s₁.heap.get? a = some { cls := .type "list",data := .seq vs.toArray }) (hi : IntsAre vs ns) (hl : ns.length <= sizeLine) (hr : Room k callerA)
  (F : ∀ base : Heap,K.In base -> base.Ns mainGlobals mg -> FnOk P w K mg base CX k fa fd [x] sp) (hbind : ∀ (s : Shared) (u : Value),BindsTo s fd ⟨[u],[]⟩ [(x,u)])
  (hsp : ∀ H : Hp,Only H -> SqL K H a (ns.map V.int) -> sp [.ref a] H (fun v _ => v = .bl true) fun _ _ _ => False)
  (hCX : ∀ H e s',CX [] H s₁ (fun _ _ _ => False) e s' -> False) :
  codeAny (model P w) callerA (.call (.ref fa) ⟨[.ref a],[]⟩) (fun r s' => r = .ok (.ret (.bool true)) /\ OldK s₁.heap s'.heap /\ s'.os = s₁.os /\ AllBare s'.gens) s₁ := by
 have rv := vals_ints hi
 have lenV := hi.length
 have core : ∀ H : Hp,Only H -> SqL K H a (ns.map V.int) -> HOk P w H s₁.heap -> (∀ b,H b ≠ none -> b = a) -> (H a ≠ none -> K.lookup a = none) →
   codeAny (model P w) callerA (.call (.ref fa) ⟨[.ref a],[]⟩) (fun r s' => r = .ok (.ret (.bool true)) /\ OldK s₁.heap s'.heap /\ s'.os = s₁.os /\ AllBare s'.gens) s₁ := by
  intro H hO hS hok hA hK
  have base_of : ∀ {b : Addr} {o : Obj},s₁.heap.get? b = some o -> H b = none -> (hidT s₁.heap H).get? b = some o := fun e n => hidT_get e n
  have noA : ∀ {b : Addr} {o : Obj} {es : Array DictEntry} {ep : Nat},s₁.heap.get? b = some o -> o.data = .dict es ep -> H b = none := fun {b o es ep} e d => by
   cases q : H b with
   | none => rfl
   | some u =>
    have e' : b = a := hA b (by rw [q];simp)
    subst e'
    rw [ha] at e;cases e
    have d' : Data.seq vs.toArray _ = Data.dict es ep := d
    cases d'
  have nsK : ∀ {b : Addr} {m : Str -> Option Value},s₁.heap.Ns b m -> (hidT s₁.heap H).Ns b m := fun {b m} ⟨o,es,ep,e,d,r⟩ => ⟨o,es,ep,base_of e (noA e d),d,r⟩
  have hKb : K.In (hidT s₁.heap H) := fun b o e => base_of (KX b o e) (by
   cases q : H b with
   | none => rfl
   | some u =>
    have e' : b = a := hA b (by rw [q];simp)
    subst e'
    rw [hK (by rw [q];simp)] at e;cases e)
  have hM : Mod K mg (hidT s₁.heap H) := ⟨hKb,nsK hns,⟨mb,nsK hb,hbb⟩,let ⟨mc,h1,h2⟩ := hlim;⟨mc,nsK h1,h2⟩⟩
  have e0 : Env0 P w K mg (hidT s₁.heap H) callerA [] s₁ H := ⟨rfl,hM,fun b o e => of_hidT e,Nat.le_of_eq (hidT_size _ _),trivial,fun b hb => absurd (show b ∈ ([] : List Addr) from hb) (by simp),hok,.of_eq hg⟩
  refine codeAny_mono ((F _ hKb (nsK hns)).run callerA [] s₁ H ⟨[.ref a],[]⟩ [.ref a] [.ref a] _ _ hr e0 (hbind s₁ (.ref a)) (.cons rfl .nil) (hsp H hO hS)) fun r s' h => ?_
  cases r with
  | error e => exact (hCX H e s' h).elim
  | ok fl =>
   cases fl with
   | next => exact False.elim h
   | brk => exact False.elim h
   | cont => exact False.elim h
   | ret u =>
    obtain ⟨v,H',os,bare,un,hok',r',q⟩ := h
    have q' : v = .bl true := q
    subst q'
    obtain rfl : u = Value.bool true := r'
    refine ⟨rfl,OldK.of_keep fun b o e => ?_,os,bare⟩
    cases q : H b with
    | none => exact un.keep b o e q (by intro z;exact absurd (show b ∈ ([] : List Addr) from z) (by simp)) (by simp)
    | some u =>
     rcases hO b with z | ⟨ob,xs,z⟩
     ·rw [q] at z;cases z
     ·have z2 := un.frzs b ob _ z
      obtain ⟨e1,_⟩ := hok b _ z
      obtain ⟨e2,_⟩ := hok' b _ z2
      rw [e] at e1;cases e1
      exact e2
 cases hk : K.lookup a with
 | some o =>
  have e := KX a o hk
  rw [ha] at e
  cases e
  refine core (fun _ => none) (fun _ => .inl rfl) (.inr ⟨_,vs.toArray,_,hk,rfl,rfl,rfl,by rw [List.size_toArray,lenV];exact hl,by simpa using rv⟩) (fun b u z => by have z' : (none : Option HO) = some u := z;cases z') (fun b z => absurd rfl z) fun z => absurd rfl z
 | none =>
  refine core (fun b => if b = a then some (.frz { cls := .type "list",data := .seq vs.toArray } (.lst (ns.map V.int))) else none) (fun b => ?_) (.inl (.inr ⟨{ cls := .type "list",data := .seq vs.toArray },if_pos rfl⟩)) (fun b u z => ?_) (fun b z => ?_) fun _ => hk
  ·by_cases hb : b = a
   ·exact .inr ⟨_,_,if_pos hb⟩
   ·exact .inl (if_neg hb)
  ·by_cases hb : b = a
   ·have z' := (if_pos hb).symm.trans z
    cases z'
    subst hb
    exact ⟨ha,by rw [List.length_map];exact hl,vs,_,rv,ha⟩
   ·have z' := (if_neg hb).symm.trans z
    cases z'
  ·by_cases hb : b = a
   ·exact hb
   ·exact absurd (if_neg hb) z
end L2
namespace L2
open PySem PySem.Spec PyProof.Rows
theorem walk_of {l : PySem.W.OpenLaw} {n k : Nat} {q : Program} {loose : List Str} {XP : (Str -> Option Value) -> Heap -> Prop} {YP : World -> Heap -> Prop} {d : DefRec} {K : Params -> PySem.W.Frag} {CX : World -> CXT} {sp : World -> Sp} {x : Str}
  (hn : l.most = some n) (hn2 : n <= sizeLine) (hdf : d.params.defaults = []) (hr : Room k callerA)
  (hY : ∀ (w : World) (h : Heap),YP w h -> (K w.params).In h)
  (F : ∀ (w : World) (mg : Str -> Option Value) (fa : Addr) (h : Heap),(K w.params).In h -> h.Ns mainGlobals mg -> mg d.name = some (.ref fa) →
   ∃ fd : FuncData,(∀ (s : Shared) (u : Value),BindsTo s fd ⟨[u],[]⟩ [(x,u)]) ∧
    ∀ base : Heap,(K w.params).In base -> base.Ns mainGlobals mg -> FnOk l.prog w (K w.params) mg base (CX w) k fa fd [x] (sp w))
  (hsp : ∀ (w : World) (H : Hp) (a : Addr) (ns : List Int),ns.length <= n -> Only H -> SqL (K w.params) H a (ns.map V.int) -> sp w [.ref a] H (fun v _ => v = .bl true) fun _ _ _ => False)
  (hCX : ∀ (w : World) (H : Hp) (s : Shared) (e : Value) (s' : Shared),CX w [] H s (fun _ _ _ => False) e s' -> False) :
  PySem.W.WalkO q loose XP YP l.row.toRowW d [] (fun f vs => PySem.call f vs) := by
 refine Att.attach_call hn hdf fun w s₀ s₁ mg mb fa o pm cd doc a vs ns G Y ho hd hcd hmg hobj hints hlen hg => ?_
 have KX := hY w _ Y
 obtain ⟨fd,hb,hF⟩ := F w mg fa _ KX G.T.g hmg
 exact law_call KX G.T.g G.T.b G.T.builtins G.T.nolimit hg hobj hints (Nat.le_trans hlen hn2) hr hF hb (fun H hO hS => hsp w H a ns hlen hO hS) fun H e s' => hCX w H s₁ e s'
theorem walk_ofK {l : PySem.W.OpenLaw} {n k : Nat} {q : Program} {loose : List Str} {XP : (Str -> Option Value) -> Heap -> Prop} {YP : World -> Heap -> Prop} {d : DefRec} {K : Params -> PySem.W.Frag} {CX : CXT} {sp : PySem.W.Frag -> Sp} {x : Str}
  (hn : l.most = some n) (hn2 : n <= sizeLine) (hdf : d.params.defaults = []) (hr : Room k callerA)
  (hY : ∀ (w : World) (h : Heap),YP w h -> (K w.params).In h)
  (F : ∀ (w : World) (mg : Str -> Option Value) (fa : Addr) (h : Heap),(K w.params).In h -> h.Ns mainGlobals mg -> mg d.name = some (.ref fa) →
   ∃ fd : FuncData,(∀ (s : Shared) (u : Value),BindsTo s fd ⟨[u],[]⟩ [(x,u)]) ∧
    ∀ base : Heap,(K w.params).In base -> base.Ns mainGlobals mg -> FnOk l.prog w (K w.params) mg base CX k fa fd [x] (sp (K w.params)))
  (hsp : ∀ (K : PySem.W.Frag) (H : Hp) (a : Addr) (ns : List Int),ns.length <= n -> Only H -> SqL K H a (ns.map V.int) -> sp K [.ref a] H (fun v _ => v = .bl true) fun _ _ _ => False)
  (hCX : ∀ (H : Hp) (s : Shared) (e : Value) (s' : Shared),CX [] H s (fun _ _ _ => False) e s' -> False) :
  PySem.W.WalkO q loose XP YP l.row.toRowW d [] (fun f vs => PySem.call f vs) :=
 walk_of (K := K) (CX := fun _ => CX) (sp := fun w => sp (K w.params)) hn hn2 hdf hr hY F (fun w H a ns h1 h2 h3 => hsp (K w.params) H a ns h1 h2 h3) fun _ H s e s' => hCX H s e s'
end L2
namespace L2
open PySem PySem.Spec PyProof.Rows
def defArgs (s : Stmt) : Arguments := match s with
 | .FunctionDef _ a _ _ _ _ _ _ _ _ => a
 | _ => { posonlyargs := [],args := [],vararg := none,kwonlyargs := [],kw_defaults := [],kwarg := none,defaults := [] }
def defBody (s : Stmt) : List Stmt := match s with
 | .FunctionDef _ _ b _ _ _ _ _ _ _ => b
 | _ => []
def defScope (s : Stmt) : Scope := match s with
 | .FunctionDef _ _ _ _ _ _ sc _ _ _ => sc
 | _ => { kind := .function,names := [],isGenerator := false,isCoroutine := false }
abbrev CX0 : CXT := fun _ _ _ _ _ _ => False
abbrev E0 : XK := fun _ _ _ => False
theorem pass0 {X : Cx} : Passes CX0 X E0 := fun _ _ _ _ _ _ _ h => h.elim
structure Fun (K : PySem.W.Frag) (x qual : Str) (st : Stmt) (f : Addr) (fd : FuncData) : Prop where
 ex : ∃ (oc : Value) (od : Option Addr) (kV doc pm : Value) (an : Option Addr) (cdv ct : Value) (osl : Array (Option Value)),
  fd = PySem.W.fnOf x qual (defArgs st) (defBody st) (defScope st) .none kV doc pm an cdv ct /\ K.lookup f = some ⟨oc,od,.func fd,osl⟩ /\ PySem.W.codeIn K cdv qual = true
 kp : PySem.W.keepIn K (.ref f) = true
section
variable {P : Program} {w : World} {K : PySem.W.Frag} {mg : Str -> Option Value} {base : Heap}
theorem Fun.ok {x qual : Str} {st : Stmt} {f : Addr} {fd : FuncData} {N ps : List Str} {k : Nat} {sp : Sp} (F : Fun K x qual st f fd) (S : FnScope N ps (defScope st)) (len : ∀ vs H Q E,sp vs H Q E -> vs.length = ps.length)
  (hbody : ∀ (cdv : Value) (A : Around) (outer : List Env) (s : Shared) (H : Hp) (vs : List V) (Q : VK) (E : XK),Room k (A.deeper (envOfC qual (defScope st) s.heap.objs.size f cdv)) -> sp vs H Q E →
   ∃ t,PSs (cxOf CX0 P w K mg base N qual (defScope st) f cdv A outer s H E).nox (defBody st) t /\ t { nx := fun _ H' => Q .non H',rt := Q } (start N vs) H) : FnOk P w K mg base CX0 (k + 1) f fd ps sp := by
 obtain ⟨oc,od,kV,doc,pm,an,cdv,ct,osl,rfl,lk,hcd⟩ := F.ex
 refine fn_of lk hcd S len fun A outer s H vs Q E hr hsp => ?_
 obtain ⟨t,h,q⟩ := hbody cdv A outer s H vs Q E hr hsp
 exact ⟨t,h.nox,q⟩
theorem Fun.binds {x qual : Str} {st : Stmt} {f : Addr} {fd : FuncData} {ps : List Str} (F : Fun K x qual st f fd)
  (h : ∀ (kV doc pm : Value) (an : Option Addr) (cdv ct : Value) (us : List Value),us.length = ps.length -> bindArgs (PySem.W.fnOf x qual (defArgs st) (defBody st) (defScope st) .none kV doc pm an cdv ct) ⟨us,[]⟩ = pure (ps.zip us)) : Binds K fd ps [] := by
 obtain ⟨oc,od,kV,doc,pm,an,cdv,ct,osl,rfl,lk,hcd⟩ := F.ex
 exact .all (h kV doc pm an cdv ct)
theorem fun_mk {x qual : Str} {st : Stmt} {f : Addr} {oc : Value} {od an : Option Addr} {osl : Array (Option Value)} {kV doc pm cdv ct : Value} (l : K.lookup f = some ⟨oc,od,.func (PySem.W.fnOf x qual (defArgs st) (defBody st) (defScope st) .none kV doc pm an cdv ct),osl⟩)
  (c : PySem.W.codeIn K cdv qual = true) (k : PySem.W.keepIn K (.ref f) = true) : Fun K x qual st f (PySem.W.fnOf x qual (defArgs st) (defBody st) (defScope st) .none kV doc pm an cdv ct) := ⟨⟨oc,od,kV,doc,pm,an,cdv,ct,osl,rfl,l,c⟩,k⟩
end
theorem hu_of {A : Around} {k : Nat} (hr : Room k A) : A.units + 1 < cLine := Nat.lt_of_le_of_lt (Nat.add_le_add_left (by decide : 1 <= 64) _) hr.units
section
variable {X : Cx}
theorem pv (i : Nat) {x : Str} {pos : Pos} (hN : X.N[i]? = some x := by rfl) (hv : Vis X.env.scope x := by first | exact Or.inl rfl | exact Or.inr (Or.inl rfl) | exact Or.inr (Or.inr rfl)) (hd : (x == ("__debug__" : Str)) = false := by decide)
  (hcd : (x == ("__classdict__" : Str)) = false := by decide) : PE X (.Name x pos) (tVar i) := pe_var hN hv hd hcd
end
theorem iteF {A B : Prop} (h : B) : if false = true then A else B := by
 rw [if_neg Bool.false_ne_true]
 exact h
theorem iteT {A B : Prop} (h : A) : if true = true then A else B := by
 rw [if_pos rfl]
 exact h
def Same (H H' : Hp) : Prop := ∀ b o,H b = some o -> H' b = some o
theorem Same.refl (H : Hp) : Same H H := fun _ _ h => h
theorem Same.trans {H H1 H2 : Hp} (a : Same H H1) (b : Same H1 H2) : Same H H2 := fun c o h => b c o (a c o h)
end L2
namespace L2
open PySem PySem.Spec PyProof.Rows
theorem clos_go {env : Env} {f : Str × NameKind -> List (Str × Addr) -> Sem (ForInStep (List (Str × Addr)))}
  (hf : ∀ n k r,f (n,k) r = if (k == NameKind.free) = true then (cellOf env n >>= fun c => pure (ForInStep.yield ((n,c) :: r))) else pure (ForInStep.yield r)) :
  ∀ (names : List (Str × NameKind)) (cs : List (Str × Addr)),(∀ y ∈ names,y.2 = .free -> ∃ c,env.cells.lookup y.1 = some c) →
   ∃ cl,forIn names cs f = (pure cl : Sem (List (Str × Addr))) /\ (∀ x c,cl.lookup x = some c -> cs.lookup x = some c ∨ env.cells.lookup x = some c) ∧
    (∀ x c,cs.lookup x = some c -> ∃ c',cl.lookup x = some c') /\ ∀ x,(x,NameKind.free) ∈ names -> ∃ c,cl.lookup x = some c
 | [],cs,_ => ⟨cs,rfl,fun _ _ e => .inl e,fun _ c e => ⟨c,e⟩,fun _ h => nomatch h⟩
 | (n,k) :: r,cs,h => by
  have hr : ∀ y ∈ r,y.2 = .free -> ∃ c,env.cells.lookup y.1 = some c := fun y hy => h y (List.mem_cons_of_mem _ hy)
  by_cases hk : k = .free
  ·subst hk
   obtain ⟨c,hc⟩ := h (n,.free) List.mem_cons_self rfl
   have hc : env.cells.lookup n = some c := hc
   obtain ⟨cl,e1,e2,e3,e4⟩ := clos_go hf r ((n,c) :: cs) hr
   refine ⟨cl,?_,fun x c' e => ?_,fun x c' e => ?_,fun x hx => ?_⟩
   ·rw [List.forIn_cons,hf,if_pos (show (NameKind.free == NameKind.free) = true by decide)]
    have ec : cellOf env n = pure c := by unfold cellOf;rw [hc]
    rw [ec,pure_bind,pure_bind]
    exact e1
   ·rcases e2 x c' e with q | q
    ·by_cases hx : x = n
     ·subst hx
      rw [List.lookup_cons_self] at q
      cases q
      exact .inr hc
     ·rw [List.lookup_cons,beq_eq_false_iff_ne.mpr hx] at q
      exact .inl q
    ·exact .inr q
   ·by_cases hx : x = n
    ·subst hx
     exact e3 x c (List.lookup_cons_self ..)
    ·refine e3 x c' ?_
     rw [List.lookup_cons,beq_eq_false_iff_ne.mpr hx]
     exact e
   ·rcases List.mem_cons.mp hx with q | q
    ·cases q
     exact e3 n c (List.lookup_cons_self ..)
    ·exact e4 x q
  ·obtain ⟨cl,e1,e2,e3,e4⟩ := clos_go hf r cs hr
   refine ⟨cl,?_,e2,e3,fun x hx => ?_⟩
   ·have hb : ¬ (k == NameKind.free) = true := by simpa using hk
    rw [List.forIn_cons,hf,if_neg hb,pure_bind]
    exact e1
   ·rcases List.mem_cons.mp hx with q | q
    ·cases q
     exact absurd rfl hk
    ·exact e4 x q
theorem clos_ok {env : Env} {scope : Scope} (h : ∀ y ∈ scope.names,y.2 = .free -> ∃ c,env.cells.lookup y.1 = some c) :
  ∃ cl,closureFor scope env = pure cl /\ (∀ x c,cl.lookup x = some c -> env.cells.lookup x = some c) /\ ∀ x,(x,NameKind.free) ∈ scope.names -> ∃ c,cl.lookup x = some c := by
 simp only [closureFor]
 obtain ⟨cl,e1,e2,_,e4⟩ := clos_go (env := env) (f := fun x r => match x with
  | (name,kind) => if (kind == NameKind.free) = true then (cellOf env name >>= fun c => pure (ForInStep.yield ((name,c) :: r))) else pure (ForInStep.yield r)) (fun _ _ _ => rfl) scope.names [] h
 refine ⟨cl,?_,fun x c e => ?_,e4⟩
 ·first
   | exact e1
   | (refine Eq.trans (congrArg (fun m => m >>= pure) e1) ?_;exact pure_bind _ _)
 ·rcases e2 x c e with q | q
  ·cases q
  ·exact q
structure CompSc (N N' : List Str) (ix : List Nat) (sc scope : Scope) : Prop where
 kind : scope.kind = .function
 nocell : ∀ y ∈ scope.names,y.2 ≠ .cell
 names : ∀ y ∈ scope.names,y.2 = .local -> scope.names.lookup y.1 = some .local
 free : ∀ y ∈ scope.names,y.2 = .free -> sc.names.lookup y.1 = some .cell ∨ sc.names.lookup y.1 = some .free
 nd : N'.Nodup
 cap : ∀ j,j < ix.length -> N'[j]? = (ix[j]?).bind fun i => N[i]?
 capf : ∀ x ∈ N'.take ix.length,scope.names.lookup x = some .free
def caps (ix : List Nat) (σ : St) : St := ix.map fun i => (σ[i]?).join
def compCx (X : Cx) (N' : List Str) (scope : Scope) (cl : List (Str × Addr)) (s1 : Shared) (H1 : Hp) (fp : List Addr) : Cx :=
 { X with N := N',s₀ := s1,H₀ := H1,env := compEnvC scope cl s1.heap.objs.size X.env,outer := X.stack,stack := X.stack,ex := fp,fn := fun _ => false,pn := [],xe := fun _ _ => False }
def PTs (Y : Cx) (ifs : List Expr) (tt : TT) : Prop :=
 ∀ (pins : List (Addr × Obj)) (s : Shared) (σ : St) (H : Hp) (Q : Bool -> Hp -> Prop),Inv Y pins σ H s -> tt σ H Q →
  wpAny (model Y.prog Y.w) Y.A (forIn ifs true fun c r => if r = true then do let ok <- isTrue c Y.env (eval c Y.env);pure (ForInStep.yield ok) else pure (ForInStep.yield r)) (TP Y pins σ Q) Y.xe s
def tYes : TT := fun _ H Q => Q true H
theorem pts_nil {Y : Cx} : PTs Y [] tYes := fun _ _ _ H _ I h => wpAny_tests_nil ⟨H,I,h⟩
theorem pts_one {Y : Cx} {c : Expr} {tt : TT} (h : PT Y c tt) : PTs Y [c] tt := fun pins s σ H Q I hw => wpAny_tests_one (h pins s σ H Q I hw)
structure Blk (Y : Cx) (tg : Expr) (ifs : List Expr) (elt : Expr) (g : TG) (tt : TT) (te : TE) : Prop where
 tg : PG Y tg g
 ts : PTs Y ifs tt
 el : PE Y elt te
theorem comp_loop {prog : Program} {w : World} {A : Around} {s : Shared} {elt target iter : Expr} {ifs : List Expr} {scope : Scope} {pos : Pos} {it acc : Value} {env : Env} {R : Result -> Shared -> Prop} (I : Nat -> Shared -> Prop)
  (turn : ∀ n s,I n s -> wpAny (model prog w) A (pyNext it) (fun r s₁ => match r with
   | none => R (.ok .next) s₁
   | some v => wpAny (model prog w) A (letOwnedTupleGo target it v) (fun _ s₀ => wpAny (model prog w) A (assign target env v) (fun _ s₂ =>
     wpAny (model prog w) A (forIn ifs true fun c r => if r = true then do let ok <- isTrue c env (eval c env);pure (ForInStep.yield ok) else pure (ForInStep.yield r)) (fun ok s₃ => if ok = true then wpAny (model prog w) A (eval elt env) (fun x s₄ =>
      wpAny (model prog w) A (call (.builtin "list.append") [acc,x]) (fun _ s₅ => ∃ m,m < n /\ I m s₅) (fun _ _ => False) s₄) (fun _ _ => False) s₃
      else ∃ m,m < n /\ I m s₃) (fun _ _ => False) s₂)
     (fun _ _ => False) s₀) (fun _ _ => False) s₁) (fun _ _ => False) s)
  (n : Nat) (h : I n s) : codeAny (model prog w) A (.compLoop (.ListComp elt [⟨target,iter,ifs,0⟩] scope pos) 0 it acc env) R s := by
 refine codeAny_loop rfl I (fun n s hI => ?_) n h
 show wpAny _ A ((compTurn (.ListComp elt [⟨target,iter,ifs,0⟩] scope pos) 0 it acc env).onRaise (fun x => do noteFrame x env;theTreesLotGoes x)) _ _ s
 refine wpAny_noted ?_
 rw [compTurn_list]
 refine wpAny_bind (wpAny_standAt (wpAny_bind (wpAny_mono (turn n s hI) (fun r s₁ h₁ => ?_) fun _ _ h' => h'.elim)))
 cases r with
 | none => exact wpAny_pure h₁
 | some v =>
  refine wpAny_bind (wpAny_mono h₁ (fun _ s₀ h₀' => ?_) fun _ _ h' => h'.elim)
  refine wpAny_bind (wpAny_mono h₀' (fun _ s₂ h₂ => ?_) fun _ _ h' => h'.elim)
  refine wpAny_bind (wpAny_mono h₂ (fun okb s₃ h₃ => ?_) fun _ _ h' => h'.elim)
  cases okb with
  | false => exact wpAny_pure ⟨rfl,h₃⟩
  | true => exact wpAny_bind (wpAny_bind (wpAny_mono h₃ (fun x s₄ h₄ => wpAny_bind (wpAny_mono h₄ (fun _ s₅ h₅ => wpAny_pure (wpAny_pure ⟨rfl,h₅⟩)) fun _ _ h' => h'.elim)) fun _ _ h' => h'.elim))
section
variable {X : Cx} {pins : List (Addr × Obj)} {σ : St} {H H' : Hp} {s s1 s' : Shared} {h'' : Heap}
theorem Inv.offNew {σ' : St} {H1 : Hp} (I1 : Inv X pins σ H1 s1) (I' : Inv X pins σ' H' s') (hn : H' s1.heap.objs.size = none) (sb : ∀ b o,b ≠ s1.heap.objs.size -> s'.heap.get? b = some o -> h''.get? b = some o) :
  Inv X pins σ' H' { s' with heap := h'' } :=
 I'.turned (t' := s'.toks) (it := s1.heap.objs.size) sb hn (Nat.ne_of_gt I1.lt) (.inr I1.sz)
  (fun x c e z => by
   obtain ⟨v,q⟩ := I1.cell x c e
   have := q.lt
   rw [z] at this
   exact Nat.lt_irrefl _ this)
  fun p hp z => by
   have := Heap.lt_size (I1.pin p hp).1
   rw [z] at this
   exact Nat.lt_irrefl _ this
end
def CompW (D : Addr) (ix : List Nat) (nl : Nat) (J : It) (g : TG) (tt : TT) (te : TE) (σ : St) (H0 : Hp) (Q : Hp -> Prop) : Prop :=
 ∃ W : Nat -> Nat -> List V -> Hp -> Prop,(∃ m,W 0 m [] (upd H0 D (.lst []))) /\ ∀ i m acc H1,W i m acc H1 →
  (J.stop i H1 /\ Q H1) ∨
  (J.go i H1 /\ ∃ N : List V -> Hp -> Prop,(∀ acc' H',N acc' H' -> ∃ m',m' < m /\ W (i + 1) m' acc' H') ∧
   ∀ x H2,J.yld i H1 x H2 -> g x (caps ix σ ++ List.replicate nl none) H2 fun σ2 H3 => σ2.take ix.length = caps ix σ ∧
    tt σ2 H3 fun b H4 => if b = true then te σ2 H4 fun v H5 => H5 D = some (.lst acc) /\ acc.length < sizeLine /\ N (acc ++ [v]) (upd H5 D (.lst (acc ++ [v]))) else N acc H4)
theorem relabel_free {env : Env} {x : Str} : ∀ {l : List (Str × NameKind)},l.lookup x = some .free →
  (l.map fun (n,k) => if (k == NameKind.free && env.scope.kind == .function && env.kindOf n == some .cell) then (n,NameKind.cell) else (n,k)).lookup x = some .cell ∨
  (l.map fun (n,k) => if (k == NameKind.free && env.scope.kind == .function && env.kindOf n == some .cell) then (n,NameKind.cell) else (n,k)).lookup x = some .free
 | [],h => by cases h
 | (n,k) :: r,h => by
  show List.lookup x ((if (k == NameKind.free && env.scope.kind == .function && env.kindOf n == some .cell) = true then (n,NameKind.cell) else (n,k)) :: _) = some .cell ∨ List.lookup x ((if (k == NameKind.free && env.scope.kind == .function && env.kindOf n == some .cell) = true then (n,NameKind.cell) else (n,k)) :: _) = some .free
  by_cases hx : x = n
  ·subst hx
   rw [List.lookup_cons_self] at h
   cases h
   by_cases hc : (NameKind.free == NameKind.free && env.scope.kind == .function && env.kindOf x == some .cell) = true
   ·left
    rw [if_pos hc,List.lookup_cons_self]
   ·right
    rw [if_neg hc,List.lookup_cons_self]
  ·have hb : (x == n) = false := beq_eq_false_iff_ne.mpr hx
   simp only [List.lookup_cons,hb] at h
   have ih := relabel_free (env := env) h
   by_cases hc : (k == NameKind.free && env.scope.kind == .function && env.kindOf n == some .cell) = true
   ·rw [if_pos hc]
    simp only [List.lookup_cons,hb]
    exact ih
   ·rw [if_neg hc]
    simp only [List.lookup_cons,hb]
    exact ih
theorem relabel_has {env : Env} {x : Str} : ∀ {l : List (Str × NameKind)},(∀ y ∈ l,y.2 ≠ .cell) →
  ((l.map fun (n,k) => if (k == NameKind.free && env.scope.kind == .function && env.kindOf n == some .cell) then (n,NameKind.cell) else (n,k)).lookup x = some .cell ∨
  (l.map fun (n,k) => if (k == NameKind.free && env.scope.kind == .function && env.kindOf n == some .cell) then (n,NameKind.cell) else (n,k)).lookup x = some .free) -> (x,NameKind.free) ∈ l
 | [],_,h => by rcases h with z | z <;> cases z
 | (n,k) :: r,hn,h => by
  have hn' : ∀ y ∈ r,y.2 ≠ .cell := fun y hy => hn y (List.mem_cons_of_mem _ hy)
  have h : List.lookup x ((if (k == NameKind.free && env.scope.kind == .function && env.kindOf n == some .cell) = true then (n,NameKind.cell) else (n,k)) :: r.map fun (n,k) => if (k == NameKind.free && env.scope.kind == .function && env.kindOf n == some .cell) then (n,NameKind.cell) else (n,k)) = some .cell ∨
   List.lookup x ((if (k == NameKind.free && env.scope.kind == .function && env.kindOf n == some .cell) = true then (n,NameKind.cell) else (n,k)) :: r.map fun (n,k) => if (k == NameKind.free && env.scope.kind == .function && env.kindOf n == some .cell) then (n,NameKind.cell) else (n,k)) = some .free := h
  by_cases hx : x = n
  ·subst hx
   by_cases hk : k = .free
   ·subst hk;exact List.mem_cons_self
   ·exfalso
    have hc : ¬ (k == NameKind.free && env.scope.kind == .function && env.kindOf x == some .cell) = true := by
     have : (k == NameKind.free) = false := by simpa using hk
     rw [this]
     exact Bool.false_ne_true
    rw [if_neg hc,List.lookup_cons_self] at h
    rcases h with z | z
    ·cases z;exact hn (x,.cell) List.mem_cons_self rfl
    ·cases z;exact hk rfl
  ·have hb : (x == n) = false := beq_eq_false_iff_ne.mpr hx
   refine List.mem_cons_of_mem _ (relabel_has (env := env) hn' ?_)
   by_cases hc : (k == NameKind.free && env.scope.kind == .function && env.kindOf n == some .cell) = true
   ·rw [if_pos hc] at h
    simp only [List.lookup_cons,hb] at h
    exact h
   ·rw [if_neg hc] at h
    simp only [List.lookup_cons,hb] at h
    exact h
theorem comp_core {X : Cx} {pins : List (Addr × Obj)} {σ : St} {H2 : Hp} {s2 : Shared} {E : Value -> Shared -> Prop} {tg iter elt : Expr} {ifs : List Expr} {scope sc : Scope} {pos : Pos} {N' : List Str} {ix : List Nat} {nl : Nat} {g : TG} {tt : TT} {te : TE}
  {cl : List (Str × Addr)} {J : It} {fp : List Addr} {it : Addr} {tn : Nat -> Heap -> Prop} {Q : V -> Hp -> Prop} {RR : Value -> Addr -> Result -> Shared -> Prop}
  (hc : X.calm = true) (S : CompSc X.N N' ix sc scope) (hsc : X.env.scope = sc) (hnl : N'.length = ix.length + nl)
  (hcl1 : ∀ x c,cl.lookup x = some c -> X.env.cells.lookup x = some c) (hcl2 : ∀ x,(x,NameKind.free) ∈ scope.names -> ∃ c,cl.lookup x = some c)
  (blk : ∀ (cl : List (Str × Addr)) (s1 : Shared) (H1 : Hp) (fp : List Addr),Blk (compCx X N' scope cl s1 H1 fp) tg ifs elt g tt te)
  (I2 : Inv X pins σ H2 s2) (T : Turn X.prog X.w X.K tg J fp it tn) (st2 : tn 0 s2.heap) (f2 : ∀ b ∈ fp,FpOk X pins H2 b)
  (h : ∀ D,H2 D = none -> CompW D ix nl J g tt te σ H2 fun H' => Q (.ref D) H')
  (fin : ∀ (D C : Addr) (s' : Shared) (H' : Hp),Inv X pins σ H' s' -> (∃ m,s'.heap.Ns C m) -> C ≠ X.env.locals -> (∀ x c,X.env.cells.lookup x = some c -> c ≠ C) →
   (∀ (σ' : St) (s'' : Shared) (h'' : Heap),Inv X pins σ' H' s'' -> Heap.SameBut C s''.heap h'' -> Inv X pins σ' H' { s'' with heap := h'' }) -> Q (.ref D) H' -> RR (.ref D) C (.ok .next) s') :
  wpAny (model X.prog X.w) X.A (newList []) (fun acc s₃ => wpAny (model X.prog X.w) X.A (newFunctionEnv scope X.env.globals cl [] X.env.qual none .none (some X.env)) (fun cenv s₄ =>
   codeAny (model X.prog X.w) X.A (.compStart (.ListComp elt [⟨tg,iter,ifs,0⟩] scope pos) 0 (.ref it) acc { cenv with scope := relabel scope X.env }) (RR acc cenv.locals) s₄) E s₃) E s2 := by
 refine wpAny_newObj_type (wpAny_newFunctionEnv S.nocell (by intro y hy;simp at hy) (fun h₁ hns₁ hsb₁ => ?_) S.kind)
 dsimp only at hns₁ hsb₁ ⊢
 have I1 : Inv X pins σ (upd H2 s2.heap.objs.size (.lst [])) { s2 with heap := s2.heap.push { cls := .type "list",dict := none,data := .seq ([] : List Value).toArray } } :=
  I2.lnew (t' := s2.toks) (ys := []) (its := []) .nil (Nat.zero_le _)
 have hDn : H2 s2.heap.objs.size = none := I2.hok.fresh (Nat.le_refl _)
 obtain ⟨W,⟨m0,w0⟩,turn⟩ := h _ hDn
 have old : ∀ b o,(s2.heap.push { cls := .type "list",dict := none,data := .seq ([] : List Value).toArray }).get? b = some o -> h₁.get? b = some o := fun b o e =>
  hsb₁.extBut b o (Nat.ne_of_lt (Heap.lt_size e)) (Heap.get?_push_of_some _ e)
 generalize hs1 : ({ s2 with heap := s2.heap.push { cls := .type "list",dict := none,data := .seq ([] : List Value).toArray } } : Shared) = s1 at I1
 have hheap : s2.heap.push { cls := .type "list",dict := none,data := .seq ([] : List Value).toArray } = s1.heap := by rw [<- hs1]
 rw [hheap] at hns₁ old ⊢
 have fpIn : ∀ b ∈ fp,b < s2.heap.objs.size := fun b hb => by
  obtain ⟨o,e,_⟩ := T.obj _ _ st2 b hb
  exact Heap.lt_size e
 have hsz1 : s1.heap.objs.size = s2.heap.objs.size + 1 := by rw [<- hheap,Heap.size_push]
 have up21 : ∀ b o,s2.heap.get? b = some o -> s1.heap.get? b = some o := fun b o e => by rw [<- hheap];exact Heap.get?_push_of_some _ e
 have hcell1 : ∀ x c,cl.lookup x = some c -> c < s1.heap.objs.size := fun x c e => by
  obtain ⟨v,q⟩ := I1.cell x c (hcl1 x c e)
  exact q.lt
 have hstk : ∀ b ∈ frs X.stack,b < s1.heap.objs.size := fun b hb => by
  obtain ⟨_,o,ho,_⟩ := (I1.stack).mem hb
  exact Heap.lt_size ho
 have okY : (compCx X N' scope cl s1 (upd H2 s2.heap.objs.size (.lst [])) fp).Ok := by
  refine ⟨I1.ok.mod,S.kind,I1.ok.glob,I1.ok.blt,Nat.le_refl _,fun x y c e1 e2 => I1.ok.inj x y c (hcl1 x c e1) (hcl1 y c e2),fun x hx => ?_,fun x c hf => absurd hf (by intro z;cases z),I1.ok.hd,I1.ok.frames,.inl rfl,fun b hb => ⟨?_,fun x c e => ?_⟩,fun b o e => ?_,
   Nat.le_trans I1.ok.bsz I1.sz,fun b o e hb => ?_,fun b hb hb2 => ?_,I1.stack,I1.stkFree⟩
  ·exact hcl2 x (relabel_has S.nocell hx)
  ·exact Nat.ne_of_lt (Nat.lt_of_lt_of_le (fpIn b hb) (by show s2.heap.objs.size <= s1.heap.objs.size;rw [hsz1];exact Nat.le_succ _))
  ·exact (f2 b hb).2.2.2.2.1 x c (hcl1 x c e)
  ·exact I1.bs b o e
  ·have := (f2 b hb)
   obtain ⟨o',e',_⟩ := T.obj _ _ st2 b hb
   have hlt := Nat.lt_of_lt_of_le (Heap.lt_size e) I1.ok.bsz
   rcases this.2.2.2.1 with z | z
   ·exact I1.ok.noex b o e z
   ·exact absurd (Nat.lt_of_lt_of_le hlt z) (Nat.lt_irrefl _)
  ·rcases List.mem_cons.mp (I1.stkSub b hb2) with z | z
   ·exact (f2 b hb).2.1 z
   ·exact (f2 b hb).2.2.1 z
 have hlenc : (caps ix σ ++ List.replicate nl none).length = N'.length := by
  rw [List.length_append,List.length_replicate,hnl];simp [caps]
 have IY : Inv (compCx X N' scope cl s1 (upd H2 s2.heap.objs.size (.lst [])) fp) [] (caps ix σ ++ List.replicate nl none) (upd H2 s2.heap.objs.size (.lst [])) { s2 with heap := h₁,toks := s2.toks + ([] : List (Str × Value)).length } := by
  refine ⟨okY,?_,I2.bare,Un.kept old,⟨_,hns₁,fun j x v e1 e2 e3 => ?_⟩,fun x c e => ?_,I1.hok.fresh (Nat.le_refl _),fun x c e => I1.freeC x c (hcl1 x c e),fun p hp => absurd (show p ∈ ([] : List (Addr × Obj)) from hp) (by simp),I1.hok.kept old,hlenc⟩
  ·show s2.os = s1.os
   rw [<- hs1]
  ·have hj : j < ix.length := by
    by_cases hj : j < ix.length
    ·exact hj
    ·exfalso
     have hl : (caps ix σ).length = ix.length := by simp [caps]
     rw [List.getElem?_append_right (by rw [hl];omega),List.getElem?_replicate] at e2
     split at e2 <;> cases e2
   have hl : (caps ix σ).length = ix.length := by simp [caps]
   rw [List.getElem?_append_left (by rw [hl];exact hj)] at e2
   have hci := S.cap j hj
   obtain ⟨i,hi⟩ : ∃ i,ix[j]? = some i := ⟨ix[j],by simp [hj]⟩
   rw [hi] at hci
   have hNi : X.N[i]? = some x := by
    have : N'[j]? = X.N[i]? := hci
    rw [<- this];exact e1
   have hσ : σ[i]? = some (some v) := by
    unfold caps at e2
    rw [List.getElem?_map,hi] at e2
    have e2' : (σ[i]?).join = some v := by simpa using e2
    cases q : σ[i]? with
    | none => rw [q] at e2';cases e2'
    | some o => rw [q] at e2';rw [show o = some v from e2']
   have hfl : scope.names.lookup x = some .free := S.capf x (by
    rw [List.mem_iff_getElem?]
    exact ⟨j,by rw [List.getElem?_take_of_lt hj];exact e1⟩)
   have hfree : (x,NameKind.free) ∈ scope.names := PySem.mem_of_lookup hfl
   have hpk : X.env.kindOf x = some .cell ∨ X.env.kindOf x = some .free := by
    have := S.free (x,.free) hfree rfl
    rw [<- hsc] at this
    exact this
   have hvis : Vis X.env.scope x := by
    rcases hpk with z | z
    ·exact .inr (.inl z)
    ·exact .inr (.inr z)
   obtain ⟨m,hn,hloc⟩ := I1.loc
   obtain ⟨u,ru,l⟩ := hloc i x v hNi hσ hvis
   refine ⟨u,ru,?_⟩
   rcases l with ⟨hk,_⟩ | ⟨hk,c,ec,z⟩
   ·rcases hpk with q | q <;> rw [hk] at q <;> cases q
   ·obtain ⟨c',hc'⟩ := hcl2 x hfree
    have : c' = c := by
     have := hcl1 x c' hc'
     rw [ec] at this;exact (Option.some.inj this).symm
    subst this
    refine .inr ⟨relabel_free hfl,c',hc',?_⟩
    ·obtain ⟨o,ho,hd⟩ := z
     exact ⟨o,old _ _ ho,hd⟩
  ·obtain ⟨v,o,ho,hd⟩ := I1.cell x c (hcl1 x c e)
   exact ⟨v,o,old _ _ ho,hd⟩
 have back : ∀ {pY : List (Addr × Obj)} {σ' : St} {H' : Hp} {s' : Shared},Inv (compCx X N' scope cl s1 (upd H2 s2.heap.objs.size (.lst [])) fp) pY σ' H' s' -> Inv X pins σ H' s' := fun {pY σ' H' s'} J' =>
  I1.call' J'.os J'.base J'.hok J'.bare fun b hb => ⟨(f2 b hb).2.2.2.1,(f2 b hb).2.1,(f2 b hb).2.2.2.2.1,(f2 b hb).2.2.2.2.2⟩
 have stat : ∀ {H' : Hp} {pY : List (Addr × Obj)},(∀ b ∈ fp,H' b = none) -> pY = [] -> ∀ b ∈ fp,FpOk (compCx X N' scope cl s1 (upd H2 s2.heap.objs.size (.lst [])) fp) pY H' b := fun {H' pY} hn hp b hb => by
  subst hp
  refine ⟨hn b hb,(okY.exf b hb).1,okY.exfs b hb,.inl hb,(okY.exf b hb).2,fun p hp => absurd (show p ∈ ([] : List (Addr × Obj)) from hp) (by simp)⟩
 have st1 : tn 0 h₁ := T.keep 0 s2.heap h₁ st2 fun b hb o e => old b o (up21 b o e)
 have fr1 : ∀ b ∈ fp,(upd H2 s2.heap.objs.size (.lst [])) b = none := fun b hb => by
  rw [upd_ne (Nat.ne_of_lt (fpIn b hb))]
  exact (f2 b hb).1
 have loop : ∀ s₃ : Shared,s₃ = { s2 with heap := h₁,toks := s2.toks + ([] : List (Str × Value)).length } →
   codeAny (model X.prog X.w) X.A (.compLoop (.ListComp elt [⟨tg,iter,ifs,0⟩] scope pos) 0 (.ref it) (.ref s2.heap.objs.size) (compEnvC scope cl s1.heap.objs.size X.env)) (RR (.ref s2.heap.objs.size) s1.heap.objs.size) s₃ := by
  rintro s₃ rfl
  refine comp_loop (fun n s' => ∃ i σ' H' acc,Inv (compCx X N' scope cl s1 (upd H2 s2.heap.objs.size (.lst [])) fp) [] σ' H' s' /\ σ'.take ix.length = caps ix σ /\ tn i s'.heap /\ (∀ b ∈ fp,H' b = none) /\ W i n acc H') ?_ m0
   ⟨0,_,_,[],IY,by rw [List.take_append_of_le_length (by simp [caps])];exact List.take_of_length_le (by simp [caps]),st1,fr1,w0⟩
  rintro n s' ⟨i,σ',H',acc,J',hσ,st',fr',w'⟩
  have Jc : Inv (compCx X N' scope cl s1 (upd H2 s2.heap.objs.size (.lst [])) fp) [] (caps ix σ ++ List.replicate nl none) H' s' := by
   refine J'.weak (by rw [hlenc];exact J'.len.symm) fun j v e => ?_
   have hl : (caps ix σ).length = ix.length := by simp [caps]
   by_cases hj : j < ix.length
   ·rw [List.getElem?_append_left (by rw [hl];exact hj),<- hσ,List.getElem?_take_of_lt hj] at e
    exact e
   ·rw [List.getElem?_append_right (by rw [hl];omega),List.getElem?_replicate] at e
    split at e <;> cases e
  rcases turn i n acc H' w' with ⟨stop,q⟩ | ⟨go,N,hN,step⟩
  ·refine wpAny_mono (T.done (compCx X N' scope cl s1 (upd H2 s2.heap.objs.size (.lst [])) fp) rfl rfl rfl hc i [] s' _ H' (fun _ _ => False) Jc (stat fr' rfl) st' stop) (fun r s4 ⟨hr,I4⟩ => ?_) fun _ _ z => z
   subst hr
   have IX := back I4
   obtain ⟨m,hm,_⟩ := I4.loc
   exact fin _ _ s4 H' IX ⟨m,hm⟩ (Nat.ne_of_gt I1.lt) (fun x c e z => by
    obtain ⟨v,q⟩ := I1.cell x c e
    have := q.lt
    rw [z] at this
    exact Nat.lt_irrefl _ this) (fun σ'' s'' h'' I'' sb => Inv.offNew I1 I'' I4.free fun b o hb e => (sb.2 b hb).trans e) q
  ·refine wpAny_mono (T.item (compCx X N' scope cl s1 (upd H2 s2.heap.objs.size (.lst [])) fp) rfl rfl rfl hc i [] s' _ H' (fun _ _ => False) Jc (stat fr' rfl) st' go) (fun r s4 ⟨u,hr,h4⟩ => ?_) fun _ _ z => z
   subst hr
   refine wpAny_mono h4 (fun _ s5 ⟨x,H5,I5,r5,y5,st5,fr5⟩ => ?_) fun _ _ z => z
   have I5' := I5.pinned (stat fr5 rfl) (T.obj _ _ st5)
   obtain ⟨btg,bts,bel⟩ := blk cl s1 (upd H2 s2.heap.objs.size (.lst [])) fp
   refine wpAny_mono (btg _ s5 _ H5 x u _ I5' r5 (step x H5 y5)) (fun _ s6 ⟨σ6,H6,I6,hσ6,q6⟩ => ?_) fun _ _ z => z
   have again : ∀ {H7 : Hp} {s7 : Shared} {acc' : List V},Inv (compCx X N' scope cl s1 (upd H2 s2.heap.objs.size (.lst [])) fp) ([] ++ pinsAt fp s5.heap) σ6 H7 s7 -> N acc' H7 →
     ∃ m,m < n /\ ∃ i σ' H' acc,Inv (compCx X N' scope cl s1 (upd H2 s2.heap.objs.size (.lst [])) fp) [] σ' H' s7 /\ σ'.take ix.length = caps ix σ /\ tn i s7.heap /\ (∀ b ∈ fp,H' b = none) /\ W i m acc H' := fun {H7 s7 acc'} I7 n7 => by
    obtain ⟨m',hm,w7⟩ := hN acc' H7 n7
    refine ⟨m',hm,i + 1,σ6,H7,acc',I7.unpinned,hσ6,T.keep _ _ _ st5 fun b hb o e => (I7.pin (b,o) (List.mem_append_right _ (List.mem_append_right _ (mem_pinsAt hb e)))).1,fun b hb => ?_,w7⟩
    obtain ⟨o,e,d⟩ := T.obj _ _ st5 b hb
    exact (I7.pin (b,o) (List.mem_append_right _ (List.mem_append_right _ (mem_pinsAt hb e)))).2.1
   refine wpAny_mono (bts _ s6 σ6 H6 _ I6 q6) (fun okb s7 ⟨H7,I7,q7⟩ => ?_) fun _ _ z => z
   cases okb with
   | false => exact again I7 q7
   | true =>
    refine wpAny_mono (bel _ s7 σ6 H7 _ I7 q7) (fun v s8 ⟨y,H8,I8,r8,hD8,hz8,n8⟩ => ?_) fun _ _ z => z
    refine wpAny_mono (mt_append (X := compCx X N' scope cl s1 (upd H2 s2.heap.objs.size (.lst [])) fp) _ s8 σ6 H8 (.ref s2.heap.objs.size) [y] (.ref s2.heap.objs.size) [v] (fun _ H9 => N (acc ++ [y]) H9) I8 rfl (.cons r8 .nil)
     ⟨s2.heap.objs.size,acc,y,rfl,rfl,hD8,hz8,n8⟩) (fun _ s9 ⟨_,H9,I9,_,n9⟩ => again I9 n9) fun _ _ z => z
 have he : ({ newEnv scope s1.heap.objs.size X.env.globals cl X.env.qual none .none (some X.env) builtinsNs with scope := relabel scope X.env } : Env) = compEnvC scope cl s1.heap.objs.size X.env := rfl
 exact codeAny_compStart_list (loop _ rfl) (T.self _ 0 _ _ _ st1 (loop _ rfl))
def tComp (ix : List Nat) (nl : Nat) (wi : TI) (g : TG) (tt : TT) (te : TE) : TE := fun σ H Q => wi σ H fun J H0 => ∀ D,H0 D = none -> CompW D ix nl J g tt te σ H0 fun H' => Q (.ref D) H'
theorem pe_comp {X : Cx} {N : List Str} {tg iter elt : Expr} {ifs : List Expr} {scope sc : Scope} {pos : Pos} {N' : List Str} {ix : List Nat} {nl : Nat} {wi : TI} {g : TG} {tt : TT} {te : TE}
  (hc : X.calm = true) (S : CompSc N N' ix sc scope) (hXN : X.N = N) (hsc : X.env.scope = sc) (hnl : N'.length = ix.length + nl) (hi : PI X tg iter wi)
  (blk : ∀ (cl : List (Str × Addr)) (s1 : Shared) (H1 : Hp) (fp : List Addr),Blk (compCx X N' scope cl s1 H1 fp) tg ifs elt g tt te)
  (hs : ∀ x,foldedSetIterable iter X.env x = pure x := by intro _;rfl) : PE X (.ListComp elt [⟨tg,iter,ifs,0⟩] scope pos) (tComp ix nl wi g tt te) := by
 subst hXN
 intro pins s σ H Q I h
 rw [eval_ListComp]
 obtain ⟨cl,e1,e2,e3⟩ := clos_ok (env := X.env) (scope := scope) fun y hy hf => I.ok.has y.1 (by
  have := S.free y hy hf
  rw [<- hsc] at this
  exact this)
 refine wpAny_comprehension_free (use := none) (cl := cl) rfl hs e1 S.kind S.names (wpAny_mono (hi pins s σ H _ I h) (fun xv s₁ h₁ => wpAny_mono h₁ (fun itv s₂ h₂ => ?_) fun _ _ e => e) fun _ _ e => e)
 obtain ⟨it,fp,tn,J,H2,e,I2,T,st2,f2,q⟩ := h₂
 subst e
 refine comp_core (Q := Q) (RR := fun acc C => compPost (model X.prog X.w) X.A X.xe none (EP X pins σ Q) acc C) hc S hsc hnl e2 e3 blk I2 T st2 f2 q ?_
 intro D C s' H' I' hm hC1 hC2 hb hq
 obtain ⟨m,hm⟩ := hm
 exact ⟨m,hm,fun h'' sb => ⟨.ref D,H',hb σ s' h'' I' sb,rfl,hq⟩⟩
end L2
namespace L2
open PySem PySem.Spec PyProof.Rows
mutual
inductive Dp (K : PySem.W.Frag) (H : Hp) : V -> PyData -> Prop
 | non : Dp K H .non .none
 | bl (b : Bool) : Dp K H (.bl b) (.bool b)
 | int (i : Int) : Dp K H (.int i) (.int i)
 | str (x : Str) : Dp K H (.str x) (.str x)
 | lst {a : Addr} {xs : List V} {ds : List PyData} : SqL K H a xs -> DpAll K H xs ds -> Dp K H (.ref a) (.list ds)
 | tup {a : Addr} {xs : List V} {ds : List PyData} : SqT K H a xs -> DpAll K H xs ds -> Dp K H (.ref a) (.tuple ds)
inductive DpAll (K : PySem.W.Frag) (H : Hp) : List V -> List PyData -> Prop
 | nil : DpAll K H [] []
 | cons {v : V} {vs : List V} {d : PyData} {ds : List PyData} : Dp K H v d -> DpAll K H vs ds -> DpAll K H (v :: vs) (d :: ds)
end
section
variable {X : Cx} {pins : List (Addr × Obj)} {σ : St} {H : Hp} {s : Shared}
mutual
theorem Inv.reads (I : Inv X pins σ H s) : ∀ {v : V} {d : PyData} {u : Value},Dp X.K H v d -> RelV v u -> ∃ as,Reads s.heap u d as
 | _,_,_,.non,r => by cases r;exact ⟨_,.none⟩
 | _,_,_,.bl b,r => by cases r;exact ⟨_,.bool b⟩
 | _,_,_,.int i,r => by obtain ⟨t,rfl⟩ := r;exact ⟨_,.int i t⟩
 | _,_,_,.str x,r => by obtain ⟨t,rfl⟩ := r;exact ⟨_,.str x t⟩
 | _,_,_,.lst q all,r => by
  cases r
  obtain ⟨its,rv,⟨o,n,e,c,_,d⟩,_⟩ := I.list q
  obtain ⟨as,h⟩ := Inv.readsAll I all rv
  exact ⟨_,.list e c d (by simpa using h)⟩
 | _,_,_,.tup q all,r => by
  cases r
  obtain ⟨its,rv,⟨o,e,c,n,d⟩,_⟩ := I.tuple q
  obtain ⟨as,h⟩ := Inv.readsAll I all rv
  exact ⟨_,.tuple e c d (by simpa using h)⟩
theorem Inv.readsAll (I : Inv X pins σ H s) : ∀ {vs : List V} {ds : List PyData} {us : List Value},DpAll X.K H vs ds -> Vals vs us -> ∃ as,ReadsAll s.heap us ds as
 | _,_,_,.nil,r => by cases r;exact ⟨_,.nil⟩
 | _,_,_,.cons h t,r => by
  cases r with
  | cons r1 r2 =>
   obtain ⟨as,h1⟩ := Inv.reads I h r1
   obtain ⟨bs,h2⟩ := Inv.readsAll I t r2
   exact ⟨_,.cons h1 h2⟩
end
end
def rEqD (K : PySem.W.Frag) : R2 := fun x y H Q => ∃ d e,Dp K H x d /\ Dp K H y e /\ SeqAt.shaped d = true /\ SeqAt.shaped e = true /\ Q (.bl (PyData.eqv d e)) H
def rNeD (K : PySem.W.Frag) : R2 := fun x y H Q => ∃ d e,Dp K H x d /\ Dp K H y e /\ SeqAt.shaped d = true /\ SeqAt.shaped e = true /\ Q (.bl (!PyData.eqv d e)) H
section
variable {X : Cx}
theorem op_eqD (hu : X.A.units + 64 < cLine) : OpR X (compareOp .Eq) (rEqD X.K) := by
 intro pins s σ H x y v u Q I rx ry h
 obtain ⟨d,e,hd,he,sd,se,q⟩ := h
 obtain ⟨as,h1⟩ := I.reads hd rx
 obtain ⟨bs,h2⟩ := I.reads he ry
 exact eq_dataH h1 h2 sd se hu (fin_bl I q rfl)
theorem op_neD (hu : X.A.units + 64 < cLine) : OpR X (compareOp .NotEq) (rNeD X.K) := by
 intro pins s σ H x y v u Q I rx ry h
 obtain ⟨d,e,hd,he,sd,se,q⟩ := h
 obtain ⟨as,h1⟩ := I.reads hd rx
 obtain ⟨bs,h2⟩ := I.reads he ry
 exact ne_dataH h1 h2 sd se hu (fin_bl I q rfl)
theorem ints_of_vals : ∀ {ns : List Int} {us : List Value},Vals (ns.map V.int) us -> IntsAre us ns
 | [],_,.nil => .nil
 | i :: ns,_,.cons r t => by
  obtain ⟨k,rfl⟩ := r
  exact .cons i k (ints_of_vals t)
inductive KRows : List DictEntry -> List (Str × V) -> Prop
 | nil : KRows [] []
 | cons {e : DictEntry} {es : List DictEntry} {x : Str} {t : Tok} {v : V} {D : List (Str × V)} : e.key = .str x t -> RelV v e.val -> KRows es D -> KRows (e :: es) ((x,v) :: D)
def KTab (K : PySem.W.Frag) (a : Addr) (D : List (Str × V)) : Prop :=
 (a == sysModules) = false /\ ∃ o es ep,K.lookup a = some o /\ o.ExactDict /\ o.data = .dict es ep /\ KRows es.toList D
theorem KRows.rows {es : List DictEntry} {D : List (Str × V)} (h : KRows es D) : KTD.Rows RelV es D := by
 induction h with
 | nil => exact .nil
 | cons h1 h2 _ ih => exact .cons h1 h2 ih
theorem ktab_get {A : Around} {E : Value -> Shared -> Prop} {s : Shared} {K : PySem.W.Frag} {prog : Program} {w : World} {a : Addr} {D : List (Str × V)} {k : Str} {tk : Tok} {Q : Option Value -> Shared -> Prop} (hK : K.In s.heap) (T : KTab K a D)
  (h1 : ∀ d v,KTD.datumAt k D = some d -> RelV d v -> Q (some v) { s with toks := s.toks + 1 }) (h2 : KTD.datumAt k D = none -> Q none { s with toks := s.toks + 1 }) :
  wpAny (model prog w) A (dictGet a (.str k tk)) Q E s := by
 obtain ⟨_,o,es,ep,ho,hc,hd,hr⟩ := T
 have ho := hK _ _ ho
 have hr := hr.rows
 unfold dictGet
 try with_reducible refine wpAny_holding ?_
 refine wpAny_bind (wpAny_pyHash_str (wpAny_bind (KTD.kt_dictFind_strs (s := { s with toks := s.toks + 1 }) ho hd (by obtain ⟨l⟩ := es;simpa using hr.exact) ?_)))
 have hq : Q (findBy (fun k v => v.isStr k) es k) { s with toks := s.toks + 1 } := by
  have hf : findBy (fun k v => v.isStr k) es k = (es.toList.find? fun e => e.key.isStr k).map (·.val) := by
   obtain ⟨l⟩ := es
   simp [findBy]
  rw [hf]
  cases hat : KTD.datumAt k D with
  | some d => obtain ⟨v,hv,hfl⟩ := hr.find_some hat;rw [hv];exact h1 d v hat hfl
  | none => rw [hr.find_none hat];exact h2 hat
 rw [findBy_of_findIdx?] at hq
 cases hi : es.findIdx? fun e => e.key.isStr k with
 | none => rw [hi] at hq;exact wpAny_pure hq
 | some i => rw [hi] at hq;exact wpAny_bind (wpAny_dictEntries (s := { s with toks := s.toks + 1 }) ho hd (wpAny_pure hq))
theorem ix_ktab : IxR X (fun x y H Q => ∃ a k D v,x = .ref a /\ y = .str k /\ KTab X.K a D /\ KTD.datumAt k D = some v /\ Q v H) := by
 intro value slice pins s σ H x y v u Q I rx ry h hs
 obtain ⟨a,k,D,d,rfl,rfl,T,hk,q⟩ := h
 cases rx
 obtain ⟨t,rfl⟩ := ry
 have hT : s.TypeIs (.ref a) "dict" := by
  obtain ⟨_,o,es,ep,ho,hc,_⟩ := T
  exact ⟨o,I.kIn _ _ ho,hc.1⟩
 have main : wpAny (model X.prog X.w) X.A (getItem (.ref a) (.str k t)) (EP X pins σ Q) X.xe s := by
  unfold getItem
  try with_reducible refine wpAny_holding ?_
  refine wpAny_bind (wpAny_sequenceKey hT (by decide) ?_)
  refine wpAny_bind (wpAny_callSpecial?_slot (name := Str.ofString "__getitem__") hT PySem.F.slot_dict_getitem
   (wpAny_call_entry PySem.F.slot_dict_getitem hT PySem.F.entry_dict_getitem ?_ (PySem.F.args_dict_getitem_2 _ _)))
  show wpAny _ _ (dictGet a (.str k t) >>= _) _ _ s
  exact wpAny_bind (ktab_get I.kIn T (fun d' v' ha hv => wpAny_pure ⟨v',rfl,wpAny_pure (by
   rw [hk] at ha;cases ha
   exact ⟨d,H,I.tok _,hv,q⟩)⟩) fun hn => by rw [hk] at hn;cases hn)
 exact tail_any hT PySem.F.slot_dict_getitem.lookup main hs
end
section
variable {prog : Program} {w : World} {A : Around} {E : Value -> Shared -> Prop} {s : Shared}
theorem draw_list {it t : Addr} {items : Array Value} (hne : t ≠ it) : ∀ (n i : Nat) (s : Shared) (Q : List Value -> Shared -> Prop),s.heap.IsListIter it t i -> s.heap.IsList t items -> i + n <= items.size →
  (∀ h',h'.IsListIter it t (i + n) -> Heap.SameBut it s.heap h' -> Q ((items.toList.drop i).take n) { s with heap := h' }) -> wpAny (model prog w) A (draw (.ref it) n) Q E s
 | 0,i,s,Q,hit,_,_,hQ => by
  show wpAny _ _ (pure []) Q E s
  exact wpAny_pure (by simpa using hQ s.heap hit (Heap.SameBut.refl ..))
 | n + 1,i,s,Q,hit,ht,hle,hQ => by
  have hlt : i < items.size := by omega
  show wpAny _ _ (pyNext (.ref it) >>= _) Q E s
  refine wpAny_bind (wpAny_pyNext_list_item hit ht (x := items[i]) (by simp [hlt]) fun h₁ hit₁ hs₁ => ?_)
  refine wpAny_bind (wpAny_holding (draw_list hne n (i + 1) _ _ hit₁ (ht.extBut hs₁.extBut hne) (by omega) fun h₂ hit₂ hs₂ => wpAny_pure ?_))
  have hd : items.toList.drop i = items[i] :: items.toList.drop (i + 1) := by simp [List.drop_eq_getElem_cons,hlt]
  have := hQ h₂ (by rw [show i + (n + 1) = i + 1 + n by omega];exact hit₂) (hs₁.trans hs₂)
  rw [hd,List.take_succ_cons] at this
  exact this
theorem unpackItems_list {t : Addr} {items : Array Value} {Q : List Value -> Shared -> Prop} (hh : A.handled = none) (ht : s.heap.IsList t items)
  (hQ : ∀ h',Heap.ExtBut s.heap.objs.size s.heap h' -> Q items.toList { s with heap := h' }) : wpAny (model prog w) A (unpackItems (.ref t) items.size none) Q E s := by
 have hlt : t ≠ s.heap.objs.size := by obtain ⟨o,ho,_⟩ := ht;exact Nat.ne_of_lt (Heap.lt_size ho)
 unfold unpackItems
 refine wpAny_bind ?_
 ·unfold notIterableAtAll
  refine wpAny_bind (wpAny_specialOf ht.typeIs PySem.F.slot_list_iter.lookup ?_)
  refine wpAny_pure ?_
  simp only [Bool.false_eq_true,if_false]
  refine wpAny_bind (wpAny_holding (wpAny_pyIter_list ht ?_))
  have htp : (s.heap.push { cls := .type "list_iterator",data := .fields #[.ref t,.int 0 0] }).IsList t items := by
   obtain ⟨o,ho,r⟩ := ht
   exact ⟨o,Heap.get?_push_of_some _ ho,r⟩
  refine wpAny_bind (wpAny_holding (draw_list hlt items.size 0 _ _ ⟨_,Heap.get?_push_size _ rfl,rfl,rfl⟩ htp (by omega) fun h₁ hit₁ hs₁ => ?_))
  have hall : List.take items.size (List.drop 0 items.toList) = items.toList := by
   rw [List.drop_zero];exact List.take_of_length_le (by simp)
  rw [hall]
  rw [if_neg (by simp)]
  have ht₁ : h₁.IsList t items := htp.extBut hs₁.extBut hlt
  refine wpAny_bind (wpAny_holding (wpAny_pyNext_list_end hh hit₁ ht₁ (by simp) fun h₂ he₂ => ?_))
  simp only [Option.isSome_none,Bool.false_eq_true,if_false]
  refine wpAny_pure (hQ h₂ fun b o hb e => he₂ b o hb (hs₁.extBut b o hb (Heap.get?_push_of_some _ e)))
theorem assign_Tuple_list {env : Env} {elts : List Expr} {x1} {pos : Pos} {t : Addr} {items : Array Value} {Q : Unit -> Shared -> Prop} (hh : A.handled = none) (ht : s.heap.IsList t items)
  (hn : (assignEach elts env).length = items.size) (hstar : (assignEach elts env).findIdx? (·.1) = none)
  (h : ∀ h',Heap.ExtBut s.heap.objs.size s.heap h' -> wpAny (model prog w) A (assignInOrder ((assignEach elts env).map (·.2)) items.toList) Q E { s with heap := h' }) :
  wpAny (model prog w) A (assign (.Tuple elts x1 pos) env (.ref t)) Q E s := by
 rw [assign_Tuple]
 refine wpAny_bind (wpAny_standAt ?_)
 unfold unpack
 rw [hn,hstar]
 exact wpAny_bind (wpAny_holding (unpackItems_list hh ht h))
end
section
variable {X : Cx} {pos : Pos}
def gLst (K : PySem.W.Frag) (n : Nat) (t : TGs) : TG := fun v σ H Q => ∃ a xs,v = .ref a /\ SqL K H a xs /\ xs.length = n /\ t xs σ H Q
theorem pg_lst {es : List Expr} {k : Nat} {t : TGs} {n : Nat} (hc : X.calm = true) (h : PGs X es t)
  (hn : (assignEach es X.env).length = n := by rfl) (hst : (assignEach es X.env).findIdx? (·.1) = none := by rfl) : PG X (.Tuple es k pos) (gLst X.K n t) := by
 intro pins s σ H v u Q I r hw
 obtain ⟨a,xs,e1,hq,hl,hw⟩ := hw
 subst e1
 cases r
 obtain ⟨its,rv,ht,hz⟩ := I.list hq
 refine assign_Tuple_list (I.ok.hd hc) ht.isList (by simp [hn,<- hl,rv.length]) hst fun h' hx => ?_
 have I1 : Inv X pins σ H { s with heap := h' } := I.kept (t' := s.toks) fun b o e => hx b o (Nat.ne_of_lt (Heap.lt_size e)) e
 exact h pins _ σ H xs _ Q I1 (by simpa using rv) hw
end
end L2
namespace L2
open PySem PySem.Spec PyProof.Rows
section
variable {X : Cx} {K : PySem.W.Frag}
theorem kList (h : X.K = K) : CallR X (.type "list") (fun xs H Q => ∃ p ys,xs = [.ref p] /\ (SqL K H p ys ∨ SqT K H p ys) /\ ∀ l,H l = none -> Q (.ref l) (upd H l (.lst ys))) := by subst h;exact call_list_of
theorem kTuple (h : X.K = K) : CallR X (.type "tuple") (fun xs H Q => ∃ p ys,xs = [.ref p] /\ ((SqL K H p ys /\ ∀ l,H l = none -> Q (.ref l) (upd H l (.tup ys))) ∨ (SqT K H p ys /\ Q (.ref p) H))) := by subst h;exact call_tuple_of
theorem kEqD (h : X.K = K) (hu : X.A.units + 64 < cLine) : OpR X (compareOp .Eq) (rEqD K) := by subst h;exact op_eqD hu
theorem kNeD (h : X.K = K) (hu : X.A.units + 64 < cLine) : OpR X (compareOp .NotEq) (rNeD K) := by subst h;exact op_neD hu
theorem kgTup (h : X.K = K) {es : List Expr} {k : Nat} {t : TGs} {n : Nat} {pos : Pos} (hc : X.calm = true) (hg : PGs X es t) (hn : (assignEach es X.env).length = n := by rfl) (hst : (assignEach es X.env).findIdx? (·.1) = none := by rfl) : PG X (.Tuple es k pos) (gTup K n t) := by
 subst h;exact pg_tup hc hg hn hst
theorem kgLst (h : X.K = K) {es : List Expr} {k : Nat} {t : TGs} {n : Nat} {pos : Pos} (hc : X.calm = true) (hg : PGs X es t) (hn : (assignEach es X.env).length = n := by rfl) (hst : (assignEach es X.env).findIdx? (·.1) = none := by rfl) : PG X (.Tuple es k pos) (gLst K n t) := by
 subst h;exact pg_lst hc hg hn hst
theorem kiList (h : X.K = K) {tg l : Expr} {tl : TE} (hl : PE X l tl) : PI X tg l (iList K tl) := by subst h;exact pi_list hl
theorem kiTup (h : X.K = K) {tg l : Expr} {tl : TE} (hl : PE X l tl) : PI X tg l (iTup K tl) := by subst h;exact pi_tup hl
theorem kBm (h : X.K = K) {o e : Expr} {es : List Expr} {to : TE} {t : TA} {name : Str} {apos cpos : Pos} {T id : String} {r : V -> List V -> Hp -> VK -> Prop} (pa : PlainAttrs T) (slot : Slot T name id) (hty : typeOf (.builtin id) = pure (.type "method_descriptor")) (hm : MtR X id r) (ho : PE X o to) (ha : PA X (e :: es) t)
  (hbase : attributeBase o name X.env (eval o X.env) = eval o X.env := by rfl)
  (hfew : ((backTo cpos (starEach (e :: es) X.env)).all (fun x => !x.1) && (backToKw cpos (keywordEach [] X.env)).all (fun x => x.1.isSome)
   && decide ((e :: es).length + ([] : List Keyword).length + (if ([] : List Keyword).isEmpty then 0 else 1) < 30)) = true := by rfl)
  (hline : (apos.endLine == cpos.line) = true := by rfl) (hs : starEach (e :: es) X.env = (false,eval e X.env) :: starEach es X.env := by rfl) (hplain : (backTo cpos (starEach es X.env)).any (·.1) = false := by rfl) :
  PE X (.Call (.Attribute o name apos) (e :: es) [] cpos) (tBM K T r to t) := by
 subst h;exact pe_bm pa slot hty hm ho ha hbase hfew hline hs hplain
end
end L2
namespace L2
open PySem PySem.Spec PyProof.Rows
theorem bt_len : bootBuiltins "len" = some (.builtin "len") := by decide +kernel
theorem bt_min : bootBuiltins "min" = some (.builtin "min") := by decide +kernel
theorem bt_max : bootBuiltins "max" = some (.builtin "max") := by decide +kernel
theorem bt_isinstance : bootBuiltins "isinstance" = some (.builtin "isinstance") := by decide +kernel
theorem bt_list : bootBuiltins "list" = some (.type "list") := by decide +kernel
theorem bt_tuple : bootBuiltins "tuple" = some (.type "tuple") := by decide +kernel
theorem bt_bool : bootBuiltins "bool" = some (.type "bool") := by decide +kernel
theorem bt_int : bootBuiltins "int" = some (.type "int") := by decide +kernel
theorem bt_str : bootBuiltins "str" = some (.type "str") := by decide +kernel
structure Def (P : Program) (w : World) (K : PySem.W.Frag) (mg : Str -> Option Value) (base : Heap) (x : Str) (k : Nat) (ps : List Str) (sp : Sp) (f : Addr) : Prop where
 at_ : mg x = some (.ref f)
 ok : ∃ fd,FnOk P w K mg base CX0 k f fd ps sp /\ Binds K fd ps []
 kp : PySem.W.keepIn K (.ref f) = true
section
variable {X : Cx} {x : Str} {k j : Nat} {ps : List Str} {sp : Sp} {f : Addr} {p pos : Pos} {e : Expr} {es : List Expr} {t : TA}
theorem pe_callD (D : Def X.prog X.w X.K X.mg X.base x k ps sp f) (hr : Room j X.A) (hk : k <= j) (hg : Gl X x) (ha : PA X (e :: es) t) (hdb : (x == ("__debug__" : Str)) = false := by decide)
  (he : starEach (e :: es) X.env = (false,eval e X.env) :: starEach es X.env := by rfl) (hpl : (backTo pos (starEach es X.env)).any (·.1) = false := by rfl) :
  PE X (.Call (.Name x p) (e :: es) [] pos) (tCall sp [] E0 t) := by
 obtain ⟨fd,F,B⟩ := D.ok
 exact pe_call F (hr.mono hk) hg D.at_ D.kp B .nil pass0 ha hdb he hpl
end
theorem same_upd {H : Hp} {p : Addr} {o : HO} (hp : H p = none) : Same H (upd H p o) := fun b o' e => by
 rw [upd_ne (ne_of_none e hp)]
 exact e
theorem shaped_ints (ns : List Int) : SeqAt.shaped (.list (ns.map PyData.int)) = true := by
 have h1 : PyData.canLay0 (.list (ns.map PyData.int)) = true := by simp only [PyData.canLay0,canLayAll_ints]
 have h2 : PyData.depth (.list (ns.map PyData.int)) <= 64 := by
  simp only [PyData.depth,depthAll_ints]
  decide
 unfold SeqAt.shaped
 rw [h1,decide_eq_true h2]
 rfl
end L2
namespace L2
open PySem PySem.Spec PyProof.Rows
inductive Dat where
 | non | bl (b : Bool) | int (i : Int) | str (x : Str) | ty (n : String) | fn (x : Str) | tup (ds : List Dat) | lst (ds : List Dat) | dct (ks : List Key) (ds : List Dat)
def FzL (K : PySem.W.Frag) (H : Hp) (a : Addr) (xs : List V) : Prop :=
 (∃ o,H a = some (.frz o (.lst xs))) ∨
  ∃ (o : Obj) (its : Array Value) (n : Nat),K.lookup a = some o /\ o.cls = .type "list" /\ o.dict = none /\ o.data = .seq its n /\ its.size <= sizeLine /\ Vals xs its.toList
theorem FzL.sq {K : PySem.W.Frag} {H : Hp} {a : Addr} {xs : List V} (h : FzL K H a xs) : SqL K H a xs := by
 rcases h with ⟨o,h⟩ | h
 ·exact .inl (.inr ⟨o,h⟩)
 ·exact .inr h
mutual
inductive Rep (K : PySem.W.Frag) (N : Addr -> Prop) (H : Hp) : (Addr -> Prop) -> V -> Dat -> Prop
 | non {M : Addr -> Prop} : Rep K N H M .non .non
 | bl {M : Addr -> Prop} (b : Bool) : Rep K N H M (.bl b) (.bl b)
 | int {M : Addr -> Prop} (i : Int) : Rep K N H M (.int i) (.int i)
 | str {M : Addr -> Prop} (x : Str) : Rep K N H M (.str x) (.str x)
 | ty {M : Addr -> Prop} (n : String) : Rep K N H M (.ty n) (.ty n)
 | fn {M : Addr -> Prop} {a : Addr} {x : Str} : PySem.W.nsIn K mainGlobals x = some (some (.ref a)) -> Rep K N H M (.ref a) (.fn x)
 | tup {M : Addr -> Prop} {a : Addr} {xs : List V} {ds : List Dat} : SqT K H a xs -> RepA K N H xs ds -> Rep K N H M (.ref a) (.tup ds)
 | lst {M : Addr -> Prop} {a : Addr} {xs : List V} {ds : List Dat} : H a = some (.lst xs) -> ¬ M a -> RepA K N H xs ds -> Rep K N H M (.ref a) (.lst ds)
 | fzl {M : Addr -> Prop} {a : Addr} {xs : List V} {ds : List Dat} : FzL K H a xs -> RepA K N H xs ds -> Rep K N H M (.ref a) (.lst ds)
 | dct {M : Addr -> Prop} {a : Addr} {kvs : List (Key × V)} {ds : List Dat} : H a = some (.dK kvs) -> ¬ M a -> RepA K N H (kvs.map Prod.snd) ds -> Rep K N H M (.ref a) (.dct (kvs.map Prod.fst) ds)
 | ktb {M : Addr -> Prop} {a : Addr} {D : List (Str × V)} {ds : List Dat} : KTab K a D -> RepA K N H (D.map Prod.snd) ds -> Rep K N H M (.ref a) (.dct (D.map fun p => .inr p.1) ds)
inductive RepA (K : PySem.W.Frag) (N : Addr -> Prop) (H : Hp) : List V -> List Dat -> Prop
 | nil : RepA K N H [] []
 | cons {v : V} {vs : List V} {d : Dat} {ds : List Dat} : Rep K N H N v d -> RepA K N H vs ds -> RepA K N H (v :: vs) (d :: ds)
end
def Hard : HO -> Prop
 | .tup _ => True
 | .frz _ _ => True
 | _ => False
def Fr (P : Addr -> Prop) (H H' : Hp) : Prop := ∀ b o,H b = some o -> (P b -> Hard o) -> H' b = some o
theorem Fr.refl (P : Addr -> Prop) (H : Hp) : Fr P H H := fun _ _ h _ => h
theorem Fr.trans {P : Addr -> Prop} {H H1 H2 : Hp} (a : Fr P H H1) (b : Fr P H1 H2) : Fr P H H2 := fun c o h n => b c o (a c o h n) n
theorem Fr.mono {P P' : Addr -> Prop} {H H' : Hp} (a : Fr P H H') (h : ∀ b,P b -> P' b) : Fr P' H H' := fun c o e n => a c o e fun z => n (h c z)
theorem Same.fr {P : Addr -> Prop} {H H' : Hp} (a : Same H H') : Fr P H H' := fun c o h _ => a c o h
section
variable {K : PySem.W.Frag} {N N' M M' P : Addr -> Prop} {H H' : Hp}
theorem Fr.tup (f : Fr P H H') {a : Addr} {xs : List V} (h : SqT K H a xs) : SqT K H' a xs := by
 rcases h with (h | ⟨o,h⟩) | h
 ·exact .inl (.inl (f _ _ h fun _ => trivial))
 ·exact .inl (.inr ⟨o,f _ _ h fun _ => trivial⟩)
 ·exact .inr h
theorem Fr.fzl (f : Fr P H H') {a : Addr} {xs : List V} (h : FzL K H a xs) : FzL K H' a xs := by
 rcases h with ⟨o,h⟩ | h
 ·exact .inl ⟨o,f _ _ h fun _ => trivial⟩
 ·exact .inr h
mutual
theorem Rep.fr (f : Fr P H H') (hN : ∀ a,P a -> N a) : ∀ {M : Addr -> Prop} {v : V} {d : Dat},(∀ a,P a -> M a) -> Rep K N H M v d -> Rep K N H' M v d
 | _,_,_,_,.non => .non
 | _,_,_,_,.bl b => .bl b
 | _,_,_,_,.int i => .int i
 | _,_,_,_,.str x => .str x
 | _,_,_,_,.ty n => .ty n
 | _,_,_,_,.fn h => .fn h
 | _,_,_,_,.tup q r => .tup (f.tup q) (RepA.fr f hN r)
 | _,_,_,hM,.lst q n r => .lst (f _ _ q fun z => absurd (hM _ z) n) n (RepA.fr f hN r)
 | _,_,_,_,.fzl q r => .fzl (f.fzl q) (RepA.fr f hN r)
 | _,_,_,hM,.dct q n r => .dct (f _ _ q fun z => absurd (hM _ z) n) n (RepA.fr f hN r)
 | _,_,_,_,.ktb q r => .ktb q (RepA.fr f hN r)
theorem RepA.fr (f : Fr P H H') (hN : ∀ a,P a -> N a) : ∀ {vs : List V} {ds : List Dat},RepA K N H vs ds -> RepA K N H' vs ds
 | _,_,.nil => .nil
 | _,_,.cons h t => .cons (Rep.fr f hN hN h) (RepA.fr f hN t)
end
mutual
theorem Rep.mono (hN : ∀ a,N' a -> N a) : ∀ {M M' : Addr -> Prop} {v : V} {d : Dat},(∀ a,M' a -> M a) -> Rep K N H M v d -> Rep K N' H M' v d
 | _,_,_,_,_,.non => .non
 | _,_,_,_,_,.bl b => .bl b
 | _,_,_,_,_,.int i => .int i
 | _,_,_,_,_,.str x => .str x
 | _,_,_,_,_,.ty n => .ty n
 | _,_,_,_,_,.fn h => .fn h
 | _,_,_,_,_,.tup q r => .tup q (RepA.mono hN r)
 | _,_,_,_,hM,.lst q n r => .lst q (fun z => n (hM _ z)) (RepA.mono hN r)
 | _,_,_,_,_,.fzl q r => .fzl q (RepA.mono hN r)
 | _,_,_,_,hM,.dct q n r => .dct q (fun z => n (hM _ z)) (RepA.mono hN r)
 | _,_,_,_,_,.ktb q r => .ktb q (RepA.mono hN r)
theorem RepA.mono (hN : ∀ a,N' a -> N a) : ∀ {vs : List V} {ds : List Dat},RepA K N H vs ds -> RepA K N' H vs ds
 | _,_,.nil => .nil
 | _,_,.cons h t => .cons (Rep.mono hN hN h) (RepA.mono hN t)
end
theorem Rep.same (f : Same H H') {v : V} {d : Dat} (h : Rep K N H M v d) : Rep K N H' M v d := h.fr f.fr (fun _ z => z.elim) (P := fun _ => False) fun _ z => z.elim
theorem RepA.same (f : Same H H') {vs : List V} {ds : List Dat} (h : RepA K N H vs ds) : RepA K N H' vs ds := h.fr f.fr (P := fun _ => False) fun _ z => z.elim
theorem RepA.length : ∀ {vs : List V} {ds : List Dat},RepA K N H vs ds -> vs.length = ds.length
 | _,_,.nil => rfl
 | _,_,.cons _ t => congrArg (· + 1) (RepA.length t)
theorem RepA.append : ∀ {vs ws : List V} {ds es : List Dat},RepA K N H vs ds -> RepA K N H ws es -> RepA K N H (vs ++ ws) (ds ++ es)
 | _,_,_,_,.nil,s => s
 | _,_,_,_,.cons h t,s => .cons h (RepA.append t s)
theorem RepA.get : ∀ {vs : List V} {ds : List Dat} {i : Nat} {d : Dat},RepA K N H vs ds -> ds[i]? = some d -> ∃ v,vs[i]? = some v /\ Rep K N H N v d
 | _,_,_,_,.nil,e => by simp at e
 | _,_,0,_,.cons r _,e => by simp at e;subst e;exact ⟨_,rfl,r⟩
 | _,_,i + 1,x,.cons _ t,e => by
  obtain ⟨u,h1,h2⟩ := RepA.get (i := i) (d := x) t (by simpa using e)
  exact ⟨u,by simpa using h1,h2⟩
theorem RepA.take : ∀ {vs : List V} {ds : List Dat} (n : Nat),RepA K N H vs ds -> RepA K N H (vs.take n) (ds.take n)
 | _,_,0,_ => .nil
 | _,_,_ + 1,.nil => .nil
 | _,_,n + 1,.cons r t => .cons r (RepA.take n t)
theorem RepA.drop : ∀ {vs : List V} {ds : List Dat} (n : Nat),RepA K N H vs ds -> RepA K N H (vs.drop n) (ds.drop n)
 | _,_,0,r => r
 | _,_,_ + 1,.nil => .nil
 | _,_,n + 1,.cons _ t => RepA.drop n t
theorem RepA.set {v : V} {d : Dat} (h : Rep K N H N v d) : ∀ {vs : List V} {ds : List Dat} (i : Nat),RepA K N H vs ds -> RepA K N H (vs.set i v) (ds.set i d)
 | _,_,_,.nil => .nil
 | _,_,0,.cons _ t => .cons h t
 | _,_,i + 1,.cons q t => .cons q (RepA.set h i t)
theorem RepA.snoc {vs : List V} {ds : List Dat} {v : V} {d : Dat} (r : RepA K N H vs ds) (h : Rep K N H N v d) : RepA K N H (vs ++ [v]) (ds ++ [d]) := r.append (.cons h .nil)
end
mutual
def Dat.isD : Dat -> Bool
 | .non => true
 | .bl _ => true
 | .int _ => true
 | .str _ => true
 | .ty _ => false
 | .fn _ => false
 | .tup ds => isDs ds
 | .lst ds => isDs ds
 | .dct _ _ => false
def isDs : List Dat -> Bool
 | [] => true
 | d :: ds => d.isD && isDs ds
end
mutual
def Dat.pd : Dat -> PyData
 | .non => .none
 | .bl b => .bool b
 | .int i => .int i
 | .str x => .str x
 | .ty _ => .none
 | .fn _ => .none
 | .tup ds => .tuple (pds ds)
 | .lst ds => .list (pds ds)
 | .dct _ _ => .none
def pds : List Dat -> List PyData
 | [] => []
 | d :: ds => d.pd :: pds ds
end
mutual
def Dat.hard : Dat -> Bool
 | .tup ds => hards ds
 | .lst _ => false
 | .dct _ _ => false
 | _ => true
def hards : List Dat -> Bool
 | [] => true
 | d :: ds => d.hard && hards ds
end
section
variable {K : PySem.W.Frag} {N : Addr -> Prop} {H : Hp}
mutual
theorem Rep.dp : ∀ {M : Addr -> Prop} {v : V} {d : Dat},Rep K N H M v d -> d.isD = true -> Dp K H v d.pd
 | _,_,_,.non,_ => .non
 | _,_,_,.bl b,_ => .bl b
 | _,_,_,.int i,_ => .int i
 | _,_,_,.str x,_ => .str x
 | _,_,_,.ty n,h => by simp [Dat.isD] at h
 | _,_,_,.fn _,h => by simp [Dat.isD] at h
 | _,_,_,.tup q r,h => .tup q (RepA.dp r (by simpa [Dat.isD] using h))
 | _,_,_,.lst q n r,h => .lst (SqL.of q) (RepA.dp r (by simpa [Dat.isD] using h))
 | _,_,_,.fzl q r,h => .lst q.sq (RepA.dp r (by simpa [Dat.isD] using h))
 | _,_,_,.dct _ _ _,h => by simp [Dat.isD] at h
 | _,_,_,.ktb _ _,h => by simp [Dat.isD] at h
theorem RepA.dp : ∀ {vs : List V} {ds : List Dat},RepA K N H vs ds -> isDs ds = true -> DpAll K H vs (pds ds)
 | _,_,.nil,_ => .nil
 | _,_,.cons h t,e => .cons (Rep.dp h (by simp [isDs] at e;exact e.1)) (RepA.dp t (by simp [isDs] at e;exact e.2))
end
mutual
theorem Rep.hard {N' : Addr -> Prop} : ∀ {M M' : Addr -> Prop} {v : V} {d : Dat},Rep K N H M v d -> d.hard = true -> Rep K N' H M' v d
 | _,_,_,_,.non,_ => .non
 | _,_,_,_,.bl b,_ => .bl b
 | _,_,_,_,.int i,_ => .int i
 | _,_,_,_,.str x,_ => .str x
 | _,_,_,_,.ty n,h => .ty n
 | _,_,_,_,.fn q,h => .fn q
 | _,_,_,_,.tup q r,h => .tup q (RepA.hard r (by simpa [Dat.hard] using h))
 | _,_,_,_,.lst q n r,h => by simp [Dat.hard] at h
 | _,_,_,_,.fzl q r,h => by simp [Dat.hard] at h
 | _,_,_,_,.dct _ _ _,h => by simp [Dat.hard] at h
 | _,_,_,_,.ktb _ _,h => by simp [Dat.hard] at h
theorem RepA.hard {N' : Addr -> Prop} : ∀ {vs : List V} {ds : List Dat},RepA K N H vs ds -> hards ds = true -> RepA K N' H vs ds
 | _,_,.nil,_ => .nil
 | _,_,.cons h t,e => .cons (Rep.hard h (by simp [hards] at e;exact e.1)) (RepA.hard t (by simp [hards] at e;exact e.2))
end
end
inductive Sl where
 | no | va (d : Dat) | ow (d : Dat)
abbrev Ev := List Sl
structure Bs where
 Z : Addr -> Prop
 P : Addr -> Prop
 H0 : Hp
 mu : Nat -> Option Addr
 kp : List (V × Dat)
def Nn (B : Bs) (O : Nat -> Option Addr) : Addr -> Prop := fun a => B.Z a ∨ ∃ i,O i = some a
def OA (O : Nat -> Option Addr) : Addr -> Prop := fun a => ∃ i,O i = some a
inductive Own (K : PySem.W.Frag) (N : Addr -> Prop) (H : Hp) (a : Addr) : Dat -> Prop
 | lst {xs : List V} {ds : List Dat} : H a = some (.lst xs) -> RepA K N H xs ds -> Own K N H a (.lst ds)
 | dct {kvs : List (Key × V)} {ds : List Dat} : H a = some (.dK kvs) -> RepA K N H (kvs.map Prod.snd) ds -> Own K N H a (.dct (kvs.map Prod.fst) ds)
theorem Own.fr {K : PySem.W.Frag} {N P : Addr -> Prop} {H H' : Hp} {a : Addr} {d : Dat} (f : Fr P H H') (hN : ∀ a,P a -> N a) (ha : ¬ P a) : Own K N H a d -> Own K N H' a d
 | .lst q r => .lst (f _ _ q fun z => absurd z ha) (r.fr f hN)
 | .dct q r => .dct (f _ _ q fun z => absurd z ha) (r.fr f hN)
theorem Own.mono {K : PySem.W.Frag} {N N' : Addr -> Prop} {H : Hp} {a : Addr} {d : Dat} (h : ∀ b,N' b -> N b) : Own K N H a d -> Own K N' H a d
 | .lst q r => .lst q (r.mono h)
 | .dct q r => .dct q (r.mono h)
theorem Own.soft {K : PySem.W.Frag} {N : Addr -> Prop} {H : Hp} {a : Addr} {d : Dat} (h : Own K N H a d) : ∃ o,H a = some o /\ ¬ Hard o := by
 cases h with
 | lst q _ => exact ⟨_,q,fun z => z⟩
 | dct q _ => exact ⟨_,q,fun z => z⟩
theorem Own.rep {K : PySem.W.Frag} {N M : Addr -> Prop} {H : Hp} {a : Addr} {d : Dat} (h : Own K N H a d) (hM : ¬ M a) : Rep K N H M (.ref a) d := by
 cases h with
 | lst q r => exact .lst q hM r
 | dct q r => exact .dct q hM r
structure Sta (K : PySem.W.Frag) (ml : List Nat) (B : Bs) (O : Nat -> Option Addr) (H : Hp) (σ : St) (δ : Ev) : Prop where
 len : σ.length = δ.length
 va : ∀ (i : Nat) (d : Dat),δ[i]? = some (Sl.va d) -> ∃ v,σ[i]? = some (some v) /\ Rep K (Nn B O) H (Nn B O) v d
 ow : ∀ (i : Nat) (d : Dat),δ[i]? = some (Sl.ow d) -> ∃ a,O i = some a /\ σ[i]? = some (some (.ref a)) /\ Own K (Nn B O) H a d
 dom : ∀ (i : Nat) a,O i = some a -> ∃ d,δ[i]? = some (Sl.ow d)
 inj : ∀ i j a,O i = some a -> O j = some a -> i = j
 old : ∀ i a,O i = some a -> ¬ B.Z a /\ (B.P a ∨ B.H0 a = none)
 zin : ∀ a,B.Z a -> ∃ o,H a = some o
 frm : Fr B.P B.H0 H
 par : (∀ i a,B.mu i = some a -> i ∈ ml) /\ ∀ i ∈ ml,O i = B.mu i
 pin : ∀ a,B.P a -> ∃ o,H a = some o
 kep : ∀ p ∈ B.kp,Rep K (Nn B O) H (Nn B O) p.1 p.2
section
variable {K : PySem.W.Frag} {ml : List Nat} {B : Bs} {O : Nat -> Option Addr} {H H' : Hp} {σ : St} {δ δ' : Ev}
theorem Sta.nin (S : Sta K ml B O H σ δ) {a : Addr} (h : Nn B O a) : ∃ o,H a = some o := by
 rcases h with h | ⟨i,h⟩
 ·exact S.zin a h
 ·obtain ⟨d,e⟩ := S.dom i a h
  obtain ⟨a',e1,_,w⟩ := S.ow i d e
  rw [h] at e1
  cases e1
  obtain ⟨o,q,_⟩ := w.soft
  exact ⟨o,q⟩
theorem Sta.new (S : Sta K ml B O H σ δ) {a : Addr} (h : H a = none) : ¬ Nn B O a := fun z => by
 obtain ⟨o,q⟩ := S.nin z
 rw [h] at q
 cases q
theorem Sta.same (S : Sta K ml B O H σ δ) (f : Same H H') : Sta K ml B O H' σ δ where
 len := S.len
 va := fun i d e => let ⟨v,a,b⟩ := S.va i d e;⟨v,a,b.same f⟩
 ow := fun i d e => let ⟨a,b,c,w⟩ := S.ow i d e;⟨a,b,c,w.fr (P := fun _ => False) f.fr (fun _ z => z.elim) fun z => z⟩
 dom := S.dom
 inj := S.inj
 old := S.old
 zin := fun a h => let ⟨o,q⟩ := S.zin a h;⟨o,f _ _ q⟩
 frm := S.frm.trans f.fr
 par := S.par
 pin := fun a h => let ⟨o,q⟩ := S.pin a h;⟨o,f _ _ q⟩
 kep := fun p h => (S.kep p h).same f
theorem Sta.fresh (S : Sta K ml B O H σ δ) {a : Addr} (h : H a = none) : B.H0 a = none := by
 cases q : B.H0 a with
 | none => rfl
 | some o =>
  by_cases hp : B.P a
  ·obtain ⟨o',e⟩ := S.pin a hp
   rw [h] at e
   cases e
  ·have := S.frm a o q fun z => absurd z hp
   rw [h] at this
   cases this
def Bs.add (B : Bs) (p : Addr) : Bs := { B with Z := fun a => B.Z a ∨ a = p }
theorem nn_add {p : Addr} : ∀ a,Nn B O a -> Nn (B.add p) O a := fun a h => by
 rcases h with h | h
 ·exact .inl (.inl h)
 ·exact .inr h
mutual
theorem Rep.away {p : Addr} (hp : H p = none) (N N' : Addr -> Prop) (hN : ∀ a,N' a -> N a ∨ a = p) : ∀ {M M' : Addr -> Prop} {v : V} {d : Dat},(∀ a,M' a -> M a ∨ a = p) -> Rep K N H M v d -> Rep K N' H M' v d
 | _,_,_,_,_,.non => .non
 | _,_,_,_,_,.bl b => .bl b
 | _,_,_,_,_,.int i => .int i
 | _,_,_,_,_,.str x => .str x
 | _,_,_,_,_,.ty n => .ty n
 | _,_,_,_,_,.fn h => .fn h
 | _,_,_,_,_,.tup q r => .tup q (RepA.away hp N N' hN r)
 | _,_,_,_,hM,.lst q n r => .lst q (fun z => by rcases hM _ z with z | z;exact n z;rw [z,hp] at q;cases q) (RepA.away hp N N' hN r)
 | _,_,_,_,_,.fzl q r => .fzl q (RepA.away hp N N' hN r)
 | _,_,_,_,hM,.dct q n r => .dct q (fun z => by rcases hM _ z with z | z;exact n z;rw [z,hp] at q;cases q) (RepA.away hp N N' hN r)
 | _,_,_,_,_,.ktb q r => .ktb q (RepA.away hp N N' hN r)
theorem RepA.away {p : Addr} (hp : H p = none) (N N' : Addr -> Prop) (hN : ∀ a,N' a -> N a ∨ a = p) : ∀ {vs : List V} {ds : List Dat},RepA K N H vs ds -> RepA K N' H vs ds
 | _,_,.nil => .nil
 | _,_,.cons h t => .cons (Rep.away hp N N' hN hN h) (RepA.away hp N N' hN t)
end
theorem nn_add' {p : Addr} : ∀ a,Nn (B.add p) O a -> Nn B O a ∨ a = p := fun a h => by
 rcases h with (h | h) | h
 ·exact .inl (.inl h)
 ·exact .inr h
 ·exact .inl (.inr h)
theorem Sta.laid (S : Sta K ml B O H σ δ) {p : Addr} {o : HO} (hp : H p = none) : Sta K ml (B.add p) O (upd H p o) σ δ where
 len := S.len
 va := fun i d e => let ⟨v,a,b⟩ := S.va i d e;⟨v,a,(b.away hp _ _ nn_add' nn_add').same (same_upd hp)⟩
 ow := fun i d e => by
  obtain ⟨a,b,c,w⟩ := S.ow i d e
  refine ⟨a,b,c,?_⟩
  have hne : ∀ o,H a = some o -> upd H p o = upd H p o := fun _ _ => rfl
  cases w with
  | lst q r => exact .lst (same_upd hp _ _ q) ((r.away hp _ _ nn_add').same (same_upd hp))
  | dct q r => exact .dct (same_upd hp _ _ q) ((r.away hp _ _ nn_add').same (same_upd hp))
 dom := S.dom
 inj := S.inj
 old := fun i a h => by
  refine ⟨fun z => ?_,(S.old i a h).2⟩
  rcases z with z | z
  ·exact (S.old i a h).1 z
  ·obtain ⟨o,q⟩ := S.nin (.inr ⟨i,h⟩)
   rw [z,hp] at q
   cases q
 zin := fun a h => by
  rcases h with h | h
  ·obtain ⟨o,q⟩ := S.zin a h
   exact ⟨o,same_upd hp _ _ q⟩
  ·exact ⟨_,by rw [h];exact upd_same⟩
 frm := S.frm.trans (same_upd hp).fr
 par := S.par
 pin := fun a h => let ⟨o,q⟩ := S.pin a h;⟨o,same_upd hp _ _ q⟩
 kep := fun p h => ((S.kep p h).away hp _ _ nn_add' nn_add').same (same_upd hp)
theorem nn_up {i : Nat} {o : Option Addr} : ∀ a,Nn B (fun j => if j = i then none else O j) a -> Nn B O a := fun a h => by
 rcases h with h | ⟨j,h⟩
 ·exact .inl h
 ·refine .inr ⟨j,?_⟩
  by_cases hj : j = i
  ·simp [hj] at h
  ·simpa [hj] using h
theorem set_get {α : Type} {l : List α} {i j : Nat} {x y : α} (h : (l.set i x)[j]? = some y) : (j = i /\ y = x /\ i < l.length) ∨ (j ≠ i /\ l[j]? = some y) := by
 by_cases hj : j = i
 ·subst hj
  rw [List.getElem?_set_self'] at h
  cases q : l[j]? with
  | none => rw [q] at h;cases h
  | some z =>
   rw [q] at h
   cases h
   exact .inl ⟨rfl,rfl,(List.getElem?_eq_some_iff.mp q).1⟩
 ·rw [List.getElem?_set_ne (Ne.symm hj)] at h
  exact .inr ⟨hj,h⟩
theorem Sta.setVa (S : Sta K ml B O H σ δ) {i : Nat} {v : V} {d : Dat} (hm : i ∉ ml) (h : Rep K (Nn B O) H (Nn B O) v d) : Sta K ml B (fun j => if j = i then none else O j) H (σ.set i (some v)) (δ.set i (.va d)) where
 len := by rw [List.length_set,List.length_set,S.len]
 va := fun j e q => by
  rcases set_get q with ⟨rfl,z,hl⟩ | ⟨hj,q⟩
  ·cases z
   exact ⟨v,by rw [List.getElem?_set_self (by rw [S.len];exact hl)],h.mono (nn_up (o := none)) (nn_up (o := none))⟩
  ·obtain ⟨u,e1,r⟩ := S.va j e q
   exact ⟨u,by rw [List.getElem?_set_ne (Ne.symm hj)];exact e1,r.mono (nn_up (o := none)) (nn_up (o := none))⟩
 ow := fun j e q => by
  rcases set_get q with ⟨rfl,z,hl⟩ | ⟨hj,q⟩
  ·cases z
  ·obtain ⟨a,e1,e2,w⟩ := S.ow j e q
   exact ⟨a,by simpa [hj] using e1,by rw [List.getElem?_set_ne (Ne.symm hj)];exact e2,w.mono (nn_up (o := none))⟩
 dom := fun j a e => by
  by_cases hj : j = i
  ·simp [hj] at e
  ·obtain ⟨d,q⟩ := S.dom j a (by simpa [hj] using e)
   exact ⟨d,by rw [List.getElem?_set_ne (Ne.symm hj)];exact q⟩
 inj := fun j k a e1 e2 => by
  by_cases hj : j = i
  ·simp [hj] at e1
  ·by_cases hk : k = i
   ·simp [hk] at e2
   ·exact S.inj j k a (by simpa [hj] using e1) (by simpa [hk] using e2)
 old := fun j a e => by
  by_cases hj : j = i
  ·simp [hj] at e
  ·exact S.old j a (by simpa [hj] using e)
 zin := S.zin
 frm := S.frm
 par := ⟨S.par.1,fun j hj => by
  have hne : j ≠ i := fun z => hm (z ▸ hj)
  have h2 : O j = B.mu j := S.par.2 j hj
  simpa [hne] using h2⟩
 pin := S.pin
 kep := fun p hp => (S.kep p hp).mono (nn_up (o := none)) (nn_up (o := none))
theorem nn_upS {i : Nat} {p : Addr} : ∀ a,Nn B (fun j => if j = i then some p else O j) a -> Nn (B.add p) O a := fun a h => by
 rcases h with h | ⟨j,h⟩
 ·exact .inl (.inl h)
 ·by_cases hj : j = i
  ·simp [hj] at h
   exact .inl (.inr h.symm)
  ·exact .inr ⟨j,by simpa [hj] using h⟩
theorem Sta.setOw {p : Addr} (S : Sta K ml (B.add p) O H σ δ) {i : Nat} {d : Dat} (hm : i ∉ ml) (hl : i < δ.length) (hz : ¬ B.Z p) (h0 : B.H0 p = none) (h : Own K (Nn (B.add p) O) H p d) :
  Sta K ml B (fun j => if j = i then some p else O j) H (σ.set i (some (.ref p))) (δ.set i (.ow d)) where
 len := by rw [List.length_set,List.length_set,S.len]
 va := fun j e q => by
  rcases set_get q with ⟨rfl,z,_⟩ | ⟨hj,q⟩
  ·cases z
  ·obtain ⟨u,e1,r⟩ := S.va j e q
   exact ⟨u,by rw [List.getElem?_set_ne (Ne.symm hj)];exact e1,r.mono nn_upS nn_upS⟩
 ow := fun j e q => by
  rcases set_get q with ⟨rfl,z,hl⟩ | ⟨hj,q⟩
  ·cases z
   exact ⟨p,by simp,by rw [List.getElem?_set_self (by rw [S.len];exact hl)],h.mono nn_upS⟩
  ·obtain ⟨a,e1,e2,w⟩ := S.ow j e q
   exact ⟨a,by simpa [hj] using e1,by rw [List.getElem?_set_ne (Ne.symm hj)];exact e2,w.mono nn_upS⟩
 dom := fun j a e => by
  by_cases hj : j = i
  ·subst hj
   exact ⟨d,by rw [List.getElem?_set_self hl]⟩
  ·obtain ⟨d,q⟩ := S.dom j a (by simpa [hj] using e)
   exact ⟨d,by rw [List.getElem?_set_ne (Ne.symm hj)];exact q⟩
 inj := fun j k a e1 e2 => by
  by_cases hj : j = i
  ·by_cases hk : k = i
   ·rw [hj,hk]
   ·simp [hj] at e1
    simp [hk] at e2
    exact absurd (.inr e1.symm) (S.old k a e2).1
  ·by_cases hk : k = i
   ·simp [hk] at e2
    simp [hj] at e1
    exact absurd (.inr e2.symm) (S.old j a e1).1
   ·exact S.inj j k a (by simpa [hj] using e1) (by simpa [hk] using e2)
 old := fun j a e => by
  by_cases hj : j = i
  ·simp [hj] at e
   subst e
   exact ⟨hz,.inr h0⟩
  ·have := S.old j a (by simpa [hj] using e)
   exact ⟨fun z => this.1 (.inl z),this.2⟩
 zin := fun a h => S.zin a (.inl h)
 frm := S.frm
 par := ⟨S.par.1,fun j hj => by
  have hne : j ≠ i := fun z => hm (z ▸ hj)
  have h2 : O j = B.mu j := S.par.2 j hj
  simpa [hne] using h2⟩
 pin := S.pin
 kep := fun p hp => (S.kep p hp).mono nn_upS nn_upS
theorem Sta.wrote (S : Sta K ml B O H σ δ) {i : Nat} {a : Addr} {d : Dat} {o : HO} (e : O i = some a) (ho : ¬ Hard o) (h : Own K (Nn B O) (upd H a o) a d) : Sta K ml B O (upd H a o) σ (δ.set i (.ow d)) := by
 have hf : Fr (fun b => b = a) H (upd H a o) := fun b u q n => by
  by_cases hb : b = a
  ·subst hb
   obtain ⟨d',q'⟩ := S.dom i b e
   obtain ⟨a',e1,_,w⟩ := S.ow i d' q'
   rw [e] at e1
   cases e1
   obtain ⟨u',q1,hh⟩ := w.soft
   rw [q] at q1
   cases q1
   exact absurd (n rfl) hh
  ·rw [upd_ne hb]
   exact q
 have hN : ∀ b,b = a -> Nn B O b := fun b z => .inr ⟨i,z ▸ e⟩
 have hin : ∀ b,(∃ u,H b = some u) -> ∃ u,upd H a o b = some u := fun b ⟨u,q⟩ => by
  by_cases hb : b = a
  ·exact ⟨o,by rw [hb];exact upd_same⟩
  ·exact ⟨u,by rw [upd_ne hb];exact q⟩
 refine ⟨by rw [List.length_set,S.len],fun j d' q => ?_,fun j d' q => ?_,fun j b q => ?_,S.inj,S.old,fun b h => hin b (S.zin b h),?_,S.par,fun b h => hin b (S.pin b h),fun p hp => (S.kep p hp).fr hf hN hN⟩
 ·rcases set_get q with ⟨_,z,_⟩ | ⟨hj,q⟩
  ·cases z
  ·obtain ⟨v,e1,r⟩ := S.va j d' q
   exact ⟨v,e1,r.fr hf hN hN⟩
 ·rcases set_get q with ⟨rfl,z,hl⟩ | ⟨hj,q⟩
  ·cases z
   obtain ⟨d0,q0⟩ := S.dom j a e
   obtain ⟨a',e1,e2,_⟩ := S.ow j d0 q0
   rw [e] at e1
   cases e1
   exact ⟨a,e,e2,h⟩
  ·obtain ⟨a',e1,e2,w⟩ := S.ow j d' q
   exact ⟨a',e1,e2,w.fr hf hN fun z => hj (S.inj j i a (z ▸ e1) e)⟩
 ·by_cases hj : j = i
  ·subst hj
   obtain ⟨d0,q0⟩ := S.dom j b q
   exact ⟨d,by rw [List.getElem?_set_self (List.getElem?_eq_some_iff.mp q0).1]⟩
  ·obtain ⟨d0,q0⟩ := S.dom j b q
   exact ⟨d0,by rw [List.getElem?_set_ne (Ne.symm hj)];exact q0⟩
 ·intro b u q n
  have h1 := S.frm b u q n
  by_cases hb : b = a
  ·subst hb
   rcases (S.old i b e).2 with z | z
   ·obtain ⟨d',q'⟩ := S.dom i b e
    obtain ⟨a',e1,_,w⟩ := S.ow i d' q'
    rw [e] at e1
    cases e1
    obtain ⟨u',q1,hh⟩ := w.soft
    rw [h1] at q1
    cases q1
    exact absurd (n z) hh
   ·rw [q] at z
    cases z
  ·rw [upd_ne hb]
   exact h1
theorem Sta.keepV (S : Sta K ml B O H σ δ) {ps : List (V × Dat)} (h : ∀ p ∈ ps,Rep K (Nn B O) H (Nn B O) p.1 p.2) : Sta K ml { B with kp := ps ++ B.kp } O H σ δ :=
 ⟨S.len,S.va,S.ow,S.dom,S.inj,S.old,S.zin,S.frm,S.par,S.pin,fun p hp => (List.mem_append.mp hp).elim (h p) (S.kep p)⟩
theorem Sta.unkeep {ps : List (V × Dat)} (S : Sta K ml { B with kp := ps ++ B.kp } O H σ δ) : Sta K ml B O H σ δ :=
 ⟨S.len,S.va,S.ow,S.dom,S.inj,S.old,S.zin,S.frm,S.par,S.pin,fun p hp => S.kep p (List.mem_append_right _ hp)⟩
end
def rz (B : Bs) : Addr -> Prop := fun a => B.Z a ∨ ∃ i,B.mu i = some a
def av (B : Bs) (O : Nat -> Option Addr) (b : Bool) : Addr -> Prop := if b then Nn B O else fun a => Nn B O a /\ rz B a
def at_ (B : Bs) (O : Nat -> Option Addr) (b : Bool) : Addr -> Prop := if b then Nn B O else fun _ => False
theorem at_av {B : Bs} {O : Nat -> Option Addr} {b : Bool} : ∀ a,at_ B O b a -> av B O b a := fun a h => by
 cases b with
 | true => exact h
 | false => exact h.elim
theorem at_mono {B : Bs} {O : Nat -> Option Addr} {b c : Bool} (h : b = true -> c = true) : ∀ a,at_ B O b a -> at_ B O c a := fun a z => by
 cases b with
 | true => rw [h rfl];exact z
 | false => exact z.elim
theorem Sta.rzn {K : PySem.W.Frag} {ml : List Nat} {B : Bs} {O : Nat -> Option Addr} {H : Hp} {σ : St} {δ : Ev} (S : Sta K ml B O H σ δ) : ∀ a,rz B a -> Nn B O a := fun a h => by
 rcases h with h | ⟨i,h⟩
 ·exact .inl h
 ·exact .inr ⟨i,(S.par.2 i (S.par.1 i a h)).trans h⟩
theorem Sta.rza {K : PySem.W.Frag} {ml : List Nat} {B : Bs} {O : Nat -> Option Addr} {H : Hp} {σ : St} {δ : Ev} (S : Sta K ml B O H σ δ) {b : Bool} : ∀ a,rz B a -> av B O b a := fun a h => by
 cases b with
 | true => exact S.rzn a h
 | false => exact ⟨S.rzn a h,h⟩
theorem av_mono {B : Bs} {O : Nat -> Option Addr} {b c : Bool} (h : b = true -> c = true) : ∀ a,av B O b a -> av B O c a := fun a z => by
 cases b with
 | true => rw [h rfl];exact z
 | false => cases c with
  | true => exact z.1
  | false => exact z
structure Res (K : PySem.W.Frag) (ml : List Nat) (B : Bs) (O : Nat -> Option Addr) (H : Hp) (σ : St) (pu bt bi : Bool) (H' : Hp) (δ' : Ev) (v : V) (d : Dat) : Prop where
 sta : Sta K ml B O H' σ δ'
 frm : Fr (OA O) H H'
 pur : pu = true -> Same H H'
 rep : Rep K (av B O bi) H' (at_ B O bt) v d
abbrev VF := Ev -> Option (Dat × Ev)
def TV (K : PySem.W.Frag) (ml : List Nat) (pu bt bi : Bool) (f : VF) : TE := fun σ H Q => ∃ B O δ d δ',Sta K ml B O H σ δ /\ f δ = some (d,δ') /\ ∀ v H',Res K ml B O H σ pu bt bi H' δ' v d -> Q v H'
theorem PE.imp {X : Cx} {e : Expr} {t u : TE} (h : PE X e t) (k : ∀ σ H Q,u σ H Q -> t σ H Q) : PE X e u := fun pins s σ H Q I w => h pins s σ H Q I (k σ H Q w)
theorem PT.imp {X : Cx} {e : Expr} {t u : TT} (h : PT X e t) (k : ∀ σ H Q,u σ H Q -> t σ H Q) : PT X e u := fun pins s σ H Q I w => h pins s σ H Q I (k σ H Q w)
theorem PW.imp {X : Cx} {e : Expr} {t u : TT} (h : PW X e t) (k : ∀ σ H Q,u σ H Q -> t σ H Q) : PW X e u := fun whole pins s σ H Q I w => h whole pins s σ H Q I (k σ H Q w)
theorem PA.imp {X : Cx} {e : List Expr} {t u : TA} (h : PA X e t) (k : ∀ σ H Q,u σ H Q -> t σ H Q) : PA X e u := fun pos pins s σ H Q I w => h pos pins s σ H Q I (k σ H Q w)
theorem PS.imp {X : Cx} {e : Stmt} {t u : TS} (h : PS X e t) (k : ∀ D σ H,u D σ H -> t D σ H) : PS X e u := fun pins s σ H D I w => h pins s σ H D I (k D σ H w)
theorem PSs.imp {X : Cx} {e : List Stmt} {t u : TS} (h : PSs X e t) (k : ∀ D σ H,u D σ H -> t D σ H) : PSs X e u := fun pins s σ H D I w => h pins s σ H D I (k D σ H w)
end L2
namespace L2
open PySem PySem.Spec PyProof.Rows
section
variable {X : Cx} {K : PySem.W.Frag} {ml : List Nat} {e a b c : Expr} {pa ta ia pb tb ib pc tc ic : Bool} {fa fb fc : VF} {r : R2} {o : Dat -> Dat -> Option Dat} {B : Bs} {O : Nat -> Option Addr} {H H1 H' : Hp} {σ : St} {δ δ' : Ev} {v : V} {d : Dat}
def fC (d : Dat) : VF := fun δ => some (d,δ)
theorem Res.refl {pu bt bi : Bool} (S : Sta K ml B O H σ δ) (h : Rep K (av B O bi) H (at_ B O bt) v d) : Res K ml B O H σ pu bt bi H δ v d := ⟨S,Fr.refl _ _,fun _ => Same.refl _,h⟩
theorem ve_c (h : PE X e (tC v)) (hr : ∀ N H M,Rep K N H M v d) : PE X e (TV K ml true true true (fC d)) := h.imp fun σ H Q ⟨B,O,δ,d',δ',S,q,k⟩ => by
 cases q
 exact k v H (Res.refl S (hr _ _ _))
theorem ve_int {i j pos} : PE X (.Constant (.int i) j pos) (TV K ml true true true (fC (.int i))) := ve_c pe_int fun _ _ _ => .int i
theorem ve_bl {i j pos} : PE X (.Constant (.bool i) j pos) (TV K ml true true true (fC (.bl i))) := ve_c pe_bl fun _ _ _ => .bl i
theorem ve_non {j pos} : PE X (.Constant .none j pos) (TV K ml true true true (fC .non)) := ve_c pe_non fun _ _ _ => .non
theorem ve_str {i j pos} : PE X (.Constant (.str i) j pos) (TV K ml true true true (fC (.str i))) := ve_c pe_str fun _ _ _ => .str i
def fV (i : Nat) : VF := fun δ => match δ[i]? with
 | some (.va d) => some (d,δ)
 | _ => none
def fO (i : Nat) : VF := fun δ => match δ[i]? with
 | some (.va d) => some (d,δ)
 | some (.ow d) => some (d,δ)
 | _ => none
theorem ve_var {i : Nat} (h : PE X e (tVar i)) : PE X e (TV K ml true true true (fV i)) := h.imp fun σ H Q ⟨B,O,δ,d',δ',S,q,k⟩ => by
 unfold fV at q
 split at q
 ·rename_i d hd
  cases q
  obtain ⟨v,e1,r⟩ := S.va i _ hd
  exact ⟨v,e1,k v H (Res.refl S r)⟩
 ·cases q
theorem ve_own {i : Nat} (h : PE X e (tVar i)) : PE X e (TV K ml true false true (fO i)) := h.imp fun σ H Q ⟨B,O,δ,d',δ',S,q,k⟩ => by
 unfold fO at q
 split at q
 ·rename_i d hd
  cases q
  obtain ⟨v,e1,r⟩ := S.va i _ hd
  exact ⟨v,e1,k v H (Res.refl S (r.mono (fun _ z => z) fun a z => z.elim))⟩
 ·rename_i d hd
  cases q
  obtain ⟨a,e1,e2,w⟩ := S.ow i _ hd
  exact ⟨.ref a,e2,k _ H (Res.refl S (w.rep fun z => z))⟩
 ·cases q
theorem Res.live {H2 : Hp} {v2 : V} {d2 : Dat} (R2 : Res K ml B O H1 σ pb tb ib H2 δ' v2 d2) (hs : (pb || (ta && ia)) = true) (h : Rep K (av B O ia) H1 (at_ B O ta) v d) : Rep K (av B O ia) H2 (at_ B O ta) v d := by
 cases pb with
 | true => exact h.same (R2.pur rfl)
 | false =>
  have hs : (ta && ia) = true := by simpa using hs
  obtain ⟨h1,h2⟩ := (Bool.and_eq_true _ _).mp hs
  subst h1 h2
  exact h.fr R2.frm (fun a z => .inr z) fun a z => .inr z
def f2 (o : Dat -> Dat -> Option Dat) (fa fb : VF) : VF := fun δ => (fa δ).bind fun p => (fb p.2).bind fun q => (o p.1 q.1).map fun c => (c,q.2)
theorem f2_inv {δ2 : Ev} (h : f2 o fa fb δ = some (d,δ2)) : ∃ x δ1 y,fa δ = some (x,δ1) /\ fb δ1 = some (y,δ2) /\ o x y = some d := by
 unfold f2 at h
 cases h1 : fa δ with
 | none => rw [h1] at h;cases h
 | some p =>
  rw [h1] at h
  cases h2 : fb p.2 with
  | none => simp [h2] at h
  | some q =>
   simp only [Option.bind_some,h2] at h
   cases h3 : o p.1 q.1 with
   | none => rw [h3] at h;cases h
   | some c =>
    rw [h3] at h
    cases h
    exact ⟨p.1,p.2,q.1,rfl,h2,h3⟩
def OpS (K : PySem.W.Frag) (r : R2) (o : Dat -> Dat -> Option Dat) : Prop := ∀ (H : Hp) (N N' M M' : Addr -> Prop) (x y : V) (d e c : Dat) (Q : VK),Rep K N H M x d -> Rep K N' H M' y e -> o d e = some c -> (∀ v,(∀ H' N M,Rep K N H' M v c) -> Q v H) -> r x y H Q
def OpC (K : PySem.W.Frag) (r : R2) (o : Dat -> Dat -> Option Dat) : Prop := ∀ (H : Hp) (N M M' : Addr -> Prop) (x y : V) (d e c : Dat) (Q : VK),Rep K N H M x d -> Rep K N H M' y e -> o d e = some c →
 (∀ v H',Same H H' -> (∀ M,(∀ a,M a -> ∃ o,H a = some o) -> Rep K N H' M v c) -> Q v H') -> r x y H Q
def OpI (K : PySem.W.Frag) (r : R2) (o : Dat -> Dat -> Option Dat) : Prop := ∀ (H : Hp) (N N' M M' : Addr -> Prop) (x y : V) (d e c : Dat) (Q : VK),Rep K N H M x d -> Rep K N' H M' y e -> o d e = some c -> (∀ v,Rep K N H N v c -> Q v H) -> r x y H Q
theorem tv_opS (ho : OpS K r o) (hs : (pb || (ta && ia)) = true) {Q : VK} (h : TV K ml (pa && pb) true true (f2 o fa fb) σ H Q) : tOp r (TV K ml pa ta ia fa) (TV K ml pb tb ib fb) σ H Q := by
 obtain ⟨B,O,δ,d,δ2,S,q,k⟩ := h
 obtain ⟨x,δ1,y,h1,h2,h3⟩ := f2_inv q
 refine ⟨B,O,δ,x,δ1,S,h1,fun v1 H1 R1 => ⟨B,O,δ1,y,δ2,R1.sta,h2,fun v2 H2 R2 => ?_⟩⟩
 exact ho H2 _ _ _ _ v1 v2 x y d Q (R2.live hs R1.rep) R2.rep h3 fun v hv => k v H2 ⟨R2.sta,R1.frm.trans R2.frm,fun z => by
  obtain ⟨z1,z2⟩ := (Bool.and_eq_true _ _).mp z
  exact (R1.pur z1).trans (R2.pur z2),hv _ _ _⟩
theorem tv_opC (ho : OpC K r o) (hs : (pb || (ta && ia)) = true) {Q : VK} (h : TV K ml (pa && pb) true (ia && ib) (f2 o fa fb) σ H Q) : tOp r (TV K ml pa ta ia fa) (TV K ml pb tb ib fb) σ H Q := by
 obtain ⟨B,O,δ,d,δ2,S,q,k⟩ := h
 obtain ⟨x,δ1,y,h1,h2,h3⟩ := f2_inv q
 refine ⟨B,O,δ,x,δ1,S,h1,fun v1 H1 R1 => ⟨B,O,δ1,y,δ2,R1.sta,h2,fun v2 H2 R2 => ?_⟩⟩
 have g1 : ∀ a,av B O (ia && ib) a -> av B O ia a := av_mono fun z => ((Bool.and_eq_true _ _).mp z).1
 have g2 : ∀ a,av B O (ia && ib) a -> av B O ib a := av_mono fun z => ((Bool.and_eq_true _ _).mp z).2
 refine ho H2 (av B O (ia && ib)) _ _ v1 v2 x y d Q ((R2.live hs R1.rep).mono g1 fun _ z => z) (R2.rep.mono g2 fun _ z => z) h3 fun v H3 s3 hv => k v H3 ⟨R2.sta.same s3,(R1.frm.trans R2.frm).trans s3.fr,fun z => ?_,hv _ fun a z => R2.sta.nin z⟩
 obtain ⟨z1,z2⟩ := (Bool.and_eq_true _ _).mp z
 exact ((R1.pur z1).trans (R2.pur z2)).trans s3
theorem tv_opI (ho : OpI K r o) (hs : (pb || (ta && ia)) = true) {Q : VK} (h : TV K ml (pa && pb) ia ia (f2 o fa fb) σ H Q) : tOp r (TV K ml pa ta ia fa) (TV K ml pb tb ib fb) σ H Q := by
 obtain ⟨B,O,δ,d,δ2,S,q,k⟩ := h
 obtain ⟨x,δ1,y,h1,h2,h3⟩ := f2_inv q
 refine ⟨B,O,δ,x,δ1,S,h1,fun v1 H1 R1 => ⟨B,O,δ1,y,δ2,R1.sta,h2,fun v2 H2 R2 => ?_⟩⟩
 exact ho H2 _ _ _ _ v1 v2 x y d Q (R2.live hs R1.rep) R2.rep h3 fun v hv => k v H2 ⟨R2.sta,R1.frm.trans R2.frm,fun z => by
  obtain ⟨z1,z2⟩ := (Bool.and_eq_true _ _).mp z
  exact (R1.pur z1).trans (R2.pur z2),hv.mono (fun _ z => z) at_av⟩
theorem ve_op {op : Operator} {pos : Pos} (ho : OpR X (binaryOp op) r) (hv : OpS K r o) (ha : PE X a (TV K ml pa ta ia fa)) (hb : PE X b (TV K ml pb tb ib fb)) (hs : (pb || (ta && ia)) = true := by rfl) : PE X (.BinOp a op b pos) (TV K ml (pa && pb) true true (f2 o fa fb)) :=
 (pe_op ho ha hb).imp fun _ _ _ h => tv_opS hv hs h
theorem ve_opC {op : Operator} {pos : Pos} (ho : OpR X (binaryOp op) r) (hv : OpC K r o) (ha : PE X a (TV K ml pa ta ia fa)) (hb : PE X b (TV K ml pb tb ib fb)) (hs : (pb || (ta && ia)) = true := by rfl) : PE X (.BinOp a op b pos) (TV K ml (pa && pb) true (ia && ib) (f2 o fa fb)) :=
 (pe_op ho ha hb).imp fun _ _ _ h => tv_opC hv hs h
theorem ve_cmp {op : CmpOp} {pos : Pos} (ho : OpR X (compareOp op) r) (hv : OpS K r o) (ha : PE X a (TV K ml pa ta ia fa)) (hb : PE X b (TV K ml pb tb ib fb)) (hm : behindInMarks op b = false) (hs : (pb || (ta && ia)) = true := by rfl) : PE X (.Compare a [op] [b] pos) (TV K ml (pa && pb) true true (f2 o fa fb)) :=
 (pe_cmpR ho ha hb hm).imp fun _ _ _ h => tv_opS hv hs h
theorem ve_ix {pos : Pos} (ho : IxR X r) (hv : OpI K r o) (ha : PE X a (TV K ml pa ta ia fa)) (hb : PE X b (TV K ml pb tb ib fb)) (hx : PlainIx b) (hs : (pb || (ta && ia)) = true := by rfl) : PE X (.Subscript a b pos) (TV K ml (pa && pb) ia ia (f2 o fa fb)) :=
 (pe_ix ho ha hb hx).imp fun _ _ _ h => tv_opI hv hs h
def oI (C : Int -> Int -> Bool) (g : Int -> Int -> Dat) : Dat -> Dat -> Option Dat
 | .int i,.int j => if C i j = true then some (g i j) else none
 | _,_ => none
theorem oI_inv {C : Int -> Int -> Bool} {g : Int -> Int -> Dat} {d e c : Dat} (h : oI C g d e = some c) : ∃ i j,d = .int i /\ e = .int j /\ C i j = true /\ c = g i j := by
 unfold oI at h
 split at h
 ·split at h
  ·rename_i hc
   cases h
   exact ⟨_,_,rfl,rfl,hc,rfl⟩
  ·cases h
 ·cases h
theorem ops_I {C : Int -> Int -> Prop} {C' : Int -> Int -> Bool} {g : Int -> Int -> V} {g' : Int -> Int -> Dat} (hC : ∀ i j,C' i j = true -> C i j) (hg : ∀ i j N H M,Rep K N H M (g i j) (g' i j)) : OpS K (rI C g) (oI C' g') := by
 intro H N N' M M' x y d e c Q hx hy h k
 obtain ⟨i,j,rfl,rfl,hc,rfl⟩ := oI_inv h
 cases hx
 cases hy
 exact ⟨_,_,rfl,rfl,hC _ _ hc,k _ fun _ _ _ => hg ..⟩
theorem ops_I0 {g : Int -> Int -> V} {g' : Int -> Int -> Dat} (hg : ∀ i j N H M,Rep K N H M (g i j) (g' i j)) : OpS K (rI0 g) (oI (fun _ _ => true) g') := by
 intro H N N' M M' x y d e c Q hx hy h k
 obtain ⟨i,j,rfl,rfl,hc,rfl⟩ := oI_inv h
 cases hx
 cases hy
 exact ⟨_,_,rfl,rfl,k _ fun _ _ _ => hg ..⟩
def cMul (i j : Int) : Bool := (decide (-18446744073709551616 < i) && decide (i < 18446744073709551616)) || (decide (-18446744073709551616 < j) && decide (j < 18446744073709551616))
def cDiv (i j : Int) : Bool := decide (0 < j) && decide (j < 1073741824)
def cPow (i j : Int) : Bool := decide (0 <= j) && decide (j <= 1000000) && decide (i.natAbs < 18446744073709551616)
abbrev oSub := oI (fun _ _ => true) fun i j => .int (i - j)
abbrev oMul := oI cMul fun i j => .int (i * j)
abbrev oFdiv := oI cDiv fun i j => .int (i / j)
abbrev oMod := oI (fun _ j => decide (0 < j)) fun i j => .int (i % j)
abbrev oPow := oI cPow fun i j => .int (i ^ j.toNat)
abbrev oLt := oI (fun _ _ => true) fun i j => .bl (decide (i < j))
abbrev oLe := oI (fun _ _ => true) fun i j => .bl (decide (i <= j))
abbrev oGt := oI (fun _ _ => true) fun i j => .bl (decide (j < i))
theorem s_sub : OpS K (rI0 fun i j => .int (i - j)) oSub := ops_I0 fun i j _ _ _ => .int _
theorem s_mul : OpS K (rI CMul fun i j => .int (i * j)) oMul := ops_I (fun i j h => by
 have p : (2 : Int) ^ 64 = 18446744073709551616 := by decide
 unfold CMul
 rw [p]
 simpa [cMul] using h) fun i j _ _ _ => .int _
theorem s_fdiv : OpS K (rI CDiv fun i j => .int (i / j)) oFdiv := ops_I (fun i j h => by show 0 < j /\ j < 1073741824;simpa [cDiv] using h) fun i j _ _ _ => .int _
theorem s_mod : OpS K (rI (fun _ j => 0 < j) fun i j => .int (i % j)) oMod := ops_I (fun i j h => by simpa using h) fun i j _ _ _ => .int _
theorem s_pow : OpS K (rI CPow fun i j => .int (i ^ j.toNat)) oPow := ops_I (fun i j h => by
 have p : (2 : Nat) ^ 64 = 18446744073709551616 := by decide
 unfold CPow
 rw [p]
 simpa [cPow,and_assoc] using h) fun i j _ _ _ => .int _
theorem s_lt : OpS K (rI0 fun i j => .bl (decide (i < j))) oLt := ops_I0 fun i j _ _ _ => .bl _
theorem s_le : OpS K (rI0 fun i j => .bl (decide (i <= j))) oLe := ops_I0 fun i j _ _ _ => .bl _
theorem s_gt : OpS K (rI0 fun i j => .bl (decide (j < i))) oGt := ops_I0 fun i j _ _ _ => .bl _
def okD (d : Dat) : Bool := d.isD && SeqAt.shaped d.pd
def eqD (d e : Dat) : Bool := PyData.eqv d.pd e.pd
def oEq (d e : Dat) : Option Dat := if (okD d && okD e) = true then some (.bl (eqD d e)) else none
def oNe (d e : Dat) : Option Dat := if (okD d && okD e) = true then some (.bl (!eqD d e)) else none
theorem s_eq : OpS K (rEqD K) oEq := by
 intro H N N' M M' x y d e c Q hx hy h k
 unfold oEq at h
 split at h
 ·rename_i hh
  cases h
  simp only [okD,Bool.and_eq_true] at hh
  exact ⟨d.pd,e.pd,hx.dp hh.1.1,hy.dp hh.2.1,hh.1.2,hh.2.2,k _ fun _ _ _ => .bl _⟩
 ·cases h
theorem s_ne : OpS K (rNeD K) oNe := by
 intro H N N' M M' x y d e c Q hx hy h k
 unfold oNe at h
 split at h
 ·rename_i hh
  cases h
  simp only [okD,Bool.and_eq_true] at hh
  exact ⟨d.pd,e.pd,hx.dp hh.1.1,hy.dp hh.2.1,hh.1.2,hh.2.2,k _ fun _ _ _ => .bl _⟩
 ·cases h
def isN : Dat -> Bool
 | .non => true
 | _ => false
def oIsN : Dat -> Dat -> Option Dat
 | d,.non => some (.bl (isN d))
 | _,_ => none
def oNotN : Dat -> Dat -> Option Dat
 | d,.non => some (.bl (!isN d))
 | _,_ => none
theorem rep_isN {N M : Addr -> Prop} (h : Rep K N H M v d) : decide (v = V.non) = isN d := by
 cases h <;> simp [isN]
theorem s_isN : OpS K (fun x y H Q => y = .non /\ Q (.bl (decide (x = .non))) H) oIsN := by
  intro H N N' M M' x y d e c Q hx hy h k
  cases hy <;> first
    | (cases h
       refine ⟨rfl,?_⟩
       rw [rep_isN hx]
       exact k _ fun _ _ _ => .bl _)
    | (simp [oIsN] at h)
theorem s_notN : OpS K (fun x y H Q => y = .non /\ Q (.bl (!decide (x = .non))) H) oNotN := by
  intro H N N' M M' x y d e c Q hx hy h k
  cases hy <;> first
    | (cases h
       refine ⟨rfl,?_⟩
       rw [rep_isN hx]
       exact k _ fun _ _ _ => .bl _)
    | (simp [oNotN] at h)
def seqD : Dat -> Option (List Dat)
 | .tup ds => some ds
 | .lst ds => some ds
 | _ => none
theorem Rep.seq {N M : Addr -> Prop} {ds : List Dat} (h : Rep K N H M v d) (e : seqD d = some ds) : ∃ a xs,v = .ref a /\ (SqL K H a xs ∨ SqT K H a xs) /\ RepA K N H xs ds := by
 cases h <;> first
  | (cases e;rename_i q r;exact ⟨_,_,rfl,.inr q,r⟩)
  | (cases e;rename_i q n r;exact ⟨_,_,rfl,.inl (SqL.of q),r⟩)
  | (cases e;rename_i q r;exact ⟨_,_,rfl,.inl q.sq,r⟩)
  | cases e
theorem atI_rep {N : Addr -> Prop} {xs : List V} {ds : List Dat} {i : Int} (r : RepA K N H xs ds) (h : atI ds i = some d) : ∃ v,atI xs i = some v /\ Rep K N H N v d := by
 unfold atI at h ⊢
 rw [r.length]
 cases hi : ixN ds.length i with
 | none => rw [hi] at h;cases h
 | some j =>
  rw [hi] at h
  exact r.get h
end
end L2
namespace L2
open PySem PySem.Spec PyProof.Rows
section
variable {X : Cx} {K : PySem.W.Frag} {ml : List Nat} {e a b c : Expr} {es : List Expr} {pa ta ia pb tb ib pc tc ic pu bt bi ps bs : Bool} {fa fb fc : VF} {r r' : R2} {o o' : Dat -> Dat -> Option Dat} {B : Bs} {O : Nat -> Option Addr} {H H1 H' : Hp} {σ : St} {δ δ' : Ev} {v : V} {d : Dat} {p : Addr} {pos : Pos}
theorem Sta.unadd (S : Sta K ml (B.add p) O H σ δ) : Sta K ml B O H σ δ where
 len := S.len
 va := fun i d e => let ⟨v,a,b⟩ := S.va i d e;⟨v,a,b.mono nn_add nn_add⟩
 ow := fun i d e => let ⟨a,b,c,w⟩ := S.ow i d e;⟨a,b,c,w.mono nn_add⟩
 dom := S.dom
 inj := S.inj
 old := fun i a h => ⟨fun z => (S.old i a h).1 (.inl z),(S.old i a h).2⟩
 zin := fun a h => S.zin a (.inl h)
 frm := S.frm
 par := S.par
 pin := S.pin
 kep := fun p h => (S.kep p h).mono nn_add nn_add
structure ResN (K : PySem.W.Frag) (ml : List Nat) (B : Bs) (O : Nat -> Option Addr) (H : Hp) (σ : St) (pu : Bool) (H' : Hp) (δ' : Ev) (p : Addr) (d : Dat) : Prop where
 sta : Sta K ml (B.add p) O H' σ δ'
 frm : Fr (OA O) H H'
 pur : pu = true -> Same H H'
 own : Own K (Nn (B.add p) O) H' p d
 nz : ¬ Nn B O p
 h0 : B.H0 p = none
def TN (K : PySem.W.Frag) (ml : List Nat) (pu : Bool) (f : VF) : TE := fun σ H Q => ∃ B O δ d δ',Sta K ml B O H σ δ /\ f δ = some (d,δ') /\ ∀ p H',ResN K ml B O H σ pu H' δ' p d -> Q (.ref p) H'
theorem ve_new {f : VF} (h : PE X e (TN K ml pu f)) : PE X e (TV K ml pu true true f) := h.imp fun σ H Q ⟨B,O,δ,d,δ',S,q,k⟩ =>
 ⟨B,O,δ,d,δ',S,q,fun p H' R => k _ H' ⟨R.sta.unadd,R.frm,R.pur,(R.own.mono nn_add).rep R.nz⟩⟩
theorem mkN {xs : List V} {ds : List Dat} (S : Sta K ml B O H1 σ δ') (f : Fr (OA O) H H1) (s : pu = true -> Same H H1) (hp : H1 p = none) (r : RepA K (Nn B O) H1 xs ds) : ResN K ml B O H σ pu (upd H1 p (.lst xs)) δ' p (.lst ds) :=
 ⟨S.laid hp,f.trans (same_upd hp).fr,fun z => (s z).trans (same_upd hp),.lst upd_same ((r.away hp _ _ nn_add').same (same_upd hp)),S.new hp,S.fresh hp⟩
theorem mkD (S : Sta K ml B O H1 σ δ') (f : Fr (OA O) H H1) (s : pu = true -> Same H H1) (hp : H1 p = none) : ResN K ml B O H σ pu (upd H1 p (.dK [])) δ' p (.dct [] []) :=
 ⟨S.laid hp,f.trans (same_upd hp).fr,fun z => (s z).trans (same_upd hp),.dct (kvs := []) upd_same .nil,S.new hp,S.fresh hp⟩
theorem vn_dict0 : PE X (.Dict [] [] pos) (TN K ml true (fC (.dct [] []))) := pe_dnewK.imp fun σ H Q ⟨B,O,δ,d,δ',S,q,k⟩ => by
 cases q
 exact fun p hp => k p _ (mkD S (Fr.refl _ _) (fun _ => Same.refl _) hp)
abbrev VFs := Ev -> Option (List Dat × Ev)
structure ResA (K : PySem.W.Frag) (ml : List Nat) (B : Bs) (O : Nat -> Option Addr) (H : Hp) (σ : St) (pu b : Bool) (H' : Hp) (δ' : Ev) (vs : List V) (ds : List Dat) : Prop where
 sta : Sta K ml B O H' σ δ'
 frm : Fr (OA O) H H'
 pur : pu = true -> Same H H'
 rep : RepA K (av B O b) H' vs ds
def TAV (K : PySem.W.Frag) (ml : List Nat) (pu b : Bool) (f : VFs) : TA := fun σ H Q => ∃ B O δ d δ',Sta K ml B O H σ δ /\ f δ = some (d,δ') /\ ∀ vs H',ResA K ml B O H σ pu b H' δ' vs d -> Q vs H'
def fNil : VFs := fun δ => some ([],δ)
def fCons (fa : VF) (fs : VFs) : VFs := fun δ => (fa δ).bind fun p => (fs p.2).map fun q => (p.1 :: q.1,q.2)
theorem fCons_inv {fs : VFs} {ds : List Dat} (h : fCons fa fs δ = some (ds,δ')) : ∃ x δ1 xs,fa δ = some (x,δ1) /\ fs δ1 = some (xs,δ') /\ ds = x :: xs := by
 unfold fCons at h
 cases h1 : fa δ with
 | none => rw [h1] at h;cases h
 | some p =>
  rw [h1] at h
  cases h2 : fs p.2 with
  | none => simp [h2] at h
  | some q =>
   simp only [Option.bind_some,h2] at h
   cases h
   exact ⟨p.1,p.2,q.1,rfl,h2,rfl⟩
theorem va_nil : PA X [] (TAV K ml true true fNil) := pa_nil.imp fun σ H Q ⟨B,O,δ,d,δ',S,q,k⟩ => by
 cases q
 exact k [] H ⟨S,Fr.refl _ _,fun _ => Same.refl _,.nil⟩
theorem va_cons {fs : VFs} (ha : PE X a (TV K ml pa ta ia fa)) (hr : PA X es (TAV K ml ps bs fs)) (hs : starEach (a :: es) X.env = (false,eval a X.env) :: starEach es X.env := by rfl) (hl : (ps || (ta && ia)) = true := by rfl) (ht : ta = true := by rfl) :
  PA X (a :: es) (TAV K ml (pa && ps) (ta && ia && bs) (fCons fa fs)) := (pa_cons ha hr hs).imp fun σ H Q ⟨B,O,δ,d,δ2,S,q,k⟩ => by
 obtain ⟨x,δ1,xs,h1,h2,rfl⟩ := fCons_inv q
 refine ⟨B,O,δ,x,δ1,S,h1,fun v1 H1 R1 => ⟨B,O,δ1,xs,δ2,R1.sta,h2,fun vs H2 R2 => k _ H2 ⟨R2.sta,R1.frm.trans R2.frm,fun z => ?_,?_⟩⟩⟩
 ·obtain ⟨z1,z2⟩ := (Bool.and_eq_true _ _).mp z
  exact (R1.pur z1).trans (R2.pur z2)
 ·have g : ∀ c,((ta && ia && bs) = true -> c = true) -> ∀ a,av B O (ta && ia && bs) a -> av B O c a := fun c h => av_mono h
  have g1 := g ta fun z => by simp only [Bool.and_eq_true] at z;exact z.1.1
  have g2 := g ia fun z => by simp only [Bool.and_eq_true] at z;exact z.1.2
  have g3 := g bs fun z => by simp only [Bool.and_eq_true] at z;exact z.2
  refine .cons ?_ (R2.rep.mono g3)
  have h : Rep K (av B O ia) H2 (at_ B O ta) v1 x := by
   cases ps with
   | true => exact R1.rep.same (R2.pur rfl)
   | false =>
    have hs : (ta && ia) = true := by simpa using hl
    obtain ⟨h1,h2⟩ := (Bool.and_eq_true _ _).mp hs
    subst h1 h2
    exact R1.rep.fr R2.frm (fun a z => .inr z) fun a z => .inr z
  subst ht
  exact h.mono g2 g1
def fTup (fs : VFs) : VF := fun δ => (fs δ).bind fun p => if p.1.length <= 16777216 then some (.tup p.1,p.2) else none
def fLst (fs : VFs) : VF := fun δ => (fs δ).bind fun p => if p.1.length <= 16777216 then some (.lst p.1,p.2) else none
theorem fTup_inv {fs : VFs} {g : List Dat -> Dat} (h : ((fs δ).bind fun p => if p.1.length <= 16777216 then some (g p.1,p.2) else none) = some (d,δ')) : ∃ ds,fs δ = some (ds,δ') /\ ds.length <= 16777216 /\ d = g ds := by
 cases h1 : fs δ with
 | none => rw [h1] at h;cases h
 | some p =>
  rw [h1] at h
  have h : (if p.1.length <= 16777216 then some (g p.1,p.2) else none) = some (d,δ') := h
  split at h
  ·cases h
   exact ⟨p.1,rfl,by assumption,rfl⟩
  ·cases h
theorem ve_tup {x1} {fs : VFs} (h : PA X es (TAV K ml pu bs fs)) : PE X (.Tuple es x1 pos) (TV K ml pu true bs (fTup fs)) := (pe_tup h).imp fun σ H Q ⟨B,O,δ,d,δ',S,q,k⟩ => by
 obtain ⟨ds,h1,hl,rfl⟩ := fTup_inv (g := Dat.tup) q
 refine ⟨B,O,δ,ds,δ',S,h1,fun vs H1 R => ⟨by rw [R.rep.length,sizeLine_eq];exact hl,fun p hp => k _ _ ⟨R.sta.same (same_upd hp),R.frm.trans (same_upd hp).fr,fun z => (R.pur z).trans (same_upd hp),.tup (SqT.of upd_same) (R.rep.same (same_upd hp))⟩⟩⟩
theorem vn_lst {fs : VFs} (h : PA X es (TAV K ml pu true fs)) : PE X (.List es pos) (TN K ml pu (fLst fs)) := (pe_lst h).imp fun σ H Q ⟨B,O,δ,d,δ',S,q,k⟩ => by
 obtain ⟨ds,h1,hl,rfl⟩ := fTup_inv (g := Dat.lst) q
 exact ⟨B,O,δ,ds,δ',S,h1,fun vs H1 R => ⟨by rw [R.rep.length,sizeLine_eq];exact hl,fun p hp => k p _ (mkN R.sta R.frm R.pur hp R.rep)⟩⟩
abbrev VB := Ev -> Option (Bool × Ev)
structure ResB (K : PySem.W.Frag) (ml : List Nat) (B : Bs) (O : Nat -> Option Addr) (H : Hp) (σ : St) (pu : Bool) (H' : Hp) (δ' : Ev) : Prop where
 sta : Sta K ml B O H' σ δ'
 frm : Fr (OA O) H H'
 pur : pu = true -> Same H H'
def TB (K : PySem.W.Frag) (ml : List Nat) (pu : Bool) (f : VB) : TT := fun σ H Q => ∃ B O δ k δ',Sta K ml B O H σ δ /\ f δ = some (k,δ') /\ ∀ H',ResB K ml B O H σ pu H' δ' -> Q k H'
def fB (f : VF) : VB := fun δ => (f δ).bind fun p => match p.1 with
 | .bl k => some (k,p.2)
 | _ => none
theorem fB_inv {f : VF} {k : Bool} (h : fB f δ = some (k,δ')) : f δ = some (.bl k,δ') := by
 unfold fB at h
 cases h1 : f δ with
 | none => rw [h1] at h;cases h
 | some p =>
  obtain ⟨x,δ1⟩ := p
  rw [h1] at h
  cases x <;> first
   | (cases h;rfl)
   | cases h
theorem tb_test {f : VF} {t : TE} (ht : ∀ σ H Q,TV K ml pu bt bi f σ H Q -> t σ H Q) {Q : Bool -> Hp -> Prop} (h : TB K ml pu (fB f) σ H Q) : t σ H fun x H' => ∃ k,x = .bl k /\ Q k H' := by
 obtain ⟨B,O,δ,k,δ',S,q,w⟩ := h
 refine ht σ H _ ⟨B,O,δ,.bl k,δ',S,fB_inv q,fun v H' R => ⟨k,?_,w H' ⟨R.sta,R.frm,R.pur⟩⟩⟩
 cases R.rep
 rfl
theorem vt_cmp {op : CmpOp} (ho : OpR X (compareOp op) r) (hv : OpS K r o) (ha : PE X a (TV K ml pa ta ia fa)) (hb : PE X b (TV K ml pb tb ib fb)) (hm : behindInMarks op b = false) (hs : (pb || (ta && ia)) = true := by rfl) : PT X (.Compare a [op] [b] pos) (TB K ml (pa && pb) (fB (f2 o fa fb))) :=
 (pt_cmpR ho ha hb hm).imp fun _ _ _ h => tb_test (fun _ _ _ => tv_opS hv hs) h
theorem vt_val {f : VF} (h : PE X e (TV K ml pu bt bi f)) (he : ∀ whole,isTrue e X.env whole = (do let v <- whole;standAt e.pos;holding [v] (truthy v)) := by intro _;rfl) : PT X e (TB K ml pu (fB f)) :=
 (pt_val h he).imp fun _ _ _ h => tb_test (fun _ _ _ z => z) h
def bAnd (x y : VB) : VB := fun δ => (x δ).bind fun p => if p.1 = true then y p.2 else some (false,p.2)
def bOr (x y : VB) : VB := fun δ => (x δ).bind fun p => if p.1 = true then some (true,p.2) else y p.2
def bNot (x : VB) : VB := fun δ => (x δ).map fun p => (!p.1,p.2)
theorem ResB.refl (S : Sta K ml B O H σ δ) : ResB K ml B O H σ pu H δ := ⟨S,Fr.refl _ _,fun _ => Same.refl _⟩
theorem tb_and {x y : VB} {Q : Bool -> Hp -> Prop} (h : TB K ml (pa && pb) (bAnd x y) σ H Q) : tAnd (TB K ml pa x) (TB K ml pb y) σ H Q := by
 obtain ⟨B,O,δ,k,δ',S,q,w⟩ := h
 unfold bAnd at q
 cases h1 : x δ with
 | none => rw [h1] at q;cases q
 | some p =>
  obtain ⟨kk,δ1⟩ := p
  rw [h1] at q
  refine ⟨B,O,δ,kk,δ1,S,h1,fun H1 R1 => ?_⟩
  cases kk with
  | true =>
   have q : y δ1 = some (k,δ') := q
   exact iteT ⟨B,O,δ1,k,δ',R1.sta,q,fun H2 R2 => w H2 ⟨R2.sta,R1.frm.trans R2.frm,fun z => by
    obtain ⟨z1,z2⟩ := (Bool.and_eq_true _ _).mp z
    exact (R1.pur z1).trans (R2.pur z2)⟩⟩
  | false =>
   have q : some (false,δ1) = some (k,δ') := q
   cases q
   exact iteF (w H1 ⟨R1.sta,R1.frm,fun z => R1.pur ((Bool.and_eq_true _ _).mp z).1⟩)
theorem tb_or {x y : VB} {Q : Bool -> Hp -> Prop} (h : TB K ml (pa && pb) (bOr x y) σ H Q) : tOr (TB K ml pa x) (TB K ml pb y) σ H Q := by
 obtain ⟨B,O,δ,k,δ',S,q,w⟩ := h
 unfold bOr at q
 cases h1 : x δ with
 | none => rw [h1] at q;cases q
 | some p =>
  obtain ⟨kk,δ1⟩ := p
  rw [h1] at q
  refine ⟨B,O,δ,kk,δ1,S,h1,fun H1 R1 => ?_⟩
  cases kk with
  | false =>
   have q : y δ1 = some (k,δ') := q
   exact iteF ⟨B,O,δ1,k,δ',R1.sta,q,fun H2 R2 => w H2 ⟨R2.sta,R1.frm.trans R2.frm,fun z => by
    obtain ⟨z1,z2⟩ := (Bool.and_eq_true _ _).mp z
    exact (R1.pur z1).trans (R2.pur z2)⟩⟩
  | true =>
   have q : some (true,δ1) = some (k,δ') := q
   cases q
   exact iteT (w H1 ⟨R1.sta,R1.frm,fun z => R1.pur ((Bool.and_eq_true _ _).mp z).1⟩)
theorem vt_not {x : VB} (h : PT X a (TB K ml pu x)) : PT X (.UnaryOp .Not a pos) (TB K ml pu (bNot x)) := (pt_not h).imp fun σ H Q ⟨B,O,δ,k,δ',S,q,w⟩ => by
 unfold bNot at q
 cases h1 : x δ with
 | none => rw [h1] at q;cases q
 | some p =>
  rw [h1] at q
  cases q
  exact ⟨B,O,δ,p.1,p.2,S,h1,w⟩
theorem vw_and1 {x : VB} (h : PT X a (TB K ml pu x)) : PW X (.BoolOp .And [a] pos) (TB K ml pu x) := pw_and1 h
theorem vw_or1 {x : VB} (h : PT X a (TB K ml pu x)) : PW X (.BoolOp .Or [a] pos) (TB K ml pu x) := pw_or1 h
theorem vw_and {x y : VB} (ha : PT X a (TB K ml pa x)) (hb : PW X (.BoolOp .And (b :: es) pos) (TB K ml pb y)) : PW X (.BoolOp .And (a :: b :: es) pos) (TB K ml (pa && pb) (bAnd x y)) := (pw_and ha hb).imp fun _ _ _ h => tb_and h
theorem vw_or {x y : VB} (ha : PT X a (TB K ml pa x)) (hb : PW X (.BoolOp .Or (b :: es) pos) (TB K ml pb y)) : PW X (.BoolOp .Or (a :: b :: es) pos) (TB K ml (pa && pb) (bOr x y)) := (pw_or ha hb).imp fun _ _ _ h => tb_or h
theorem vt_w {x : VB} (h : PW X e (TB K ml pu x)) : PT X e (TB K ml pu x) := h.pt
def fAnd (x y : VF) : VF := fun δ => (x δ).bind fun p => match p.1 with
 | .bl true => y p.2
 | .bl false => some (.bl false,p.2)
 | _ => none
def fNot (x : VF) : VF := fun δ => (x δ).bind fun p => match p.1 with
 | .bl k => some (.bl (!k),p.2)
 | _ => none
theorem ve_one {op} {f : VF} (h : PE X a (TV K ml pu bt bi f)) : PE X (.BoolOp op [a] pos) (TV K ml pu bt bi f) := pe_one h
theorem ve_and (ha : PE X a (TV K ml pa ta ia fa)) (hb : PE X (.BoolOp .And (b :: es) pos) (TV K ml pb tb ib fb)) : PE X (.BoolOp .And (a :: b :: es) pos) (TV K ml (pa && pb) tb ib (fAnd fa fb)) := (pe_and ha hb).imp fun σ H Q ⟨B,O,δ,d,δ',S,q,k⟩ => by
 unfold fAnd at q
 cases h1 : fa δ with
 | none => rw [h1] at q;cases q
 | some p =>
  obtain ⟨x,δ1⟩ := p
  rw [h1] at q
  refine ⟨B,O,δ,x,δ1,S,h1,fun v1 H1 R1 => ?_⟩
  cases x with
  | bl kk =>
   have e1 : v1 = .bl kk := by cases R1.rep;rfl
   refine ⟨kk,e1,?_⟩
   cases kk with
   | true =>
    exact iteT ⟨B,O,δ1,d,δ',R1.sta,q,fun v2 H2 R2 => k v2 H2 ⟨R2.sta,R1.frm.trans R2.frm,fun z => by
     obtain ⟨z1,z2⟩ := (Bool.and_eq_true _ _).mp z
     exact (R1.pur z1).trans (R2.pur z2),R2.rep⟩⟩
   | false =>
    cases q
    exact iteF (k _ H1 ⟨R1.sta,R1.frm,fun z => R1.pur ((Bool.and_eq_true _ _).mp z).1,.bl _⟩)
  | _ => cases q
theorem ve_not (ha : PE X a (TV K ml pa ta ia fa)) : PE X (.UnaryOp .Not a pos) (TV K ml pa true true (fNot fa)) := (pe_not ha).imp fun σ H Q ⟨B,O,δ,d,δ',S,q,k⟩ => by
 unfold fNot at q
 cases h1 : fa δ with
 | none => rw [h1] at q;cases q
 | some p =>
  obtain ⟨x,δ1⟩ := p
  rw [h1] at q
  refine ⟨B,O,δ,x,δ1,S,h1,fun v1 H1 R1 => ?_⟩
  cases x with
  | bl kk =>
   have e1 : v1 = .bl kk := by cases R1.rep;rfl
   cases q
   exact ⟨kk,e1,k _ H1 ⟨R1.sta,R1.frm,R1.pur,.bl _⟩⟩
  | _ => cases q
def fIf (t : VB) (x y : VF) : VF := fun δ => (t δ).bind fun p => if p.1 = true then x p.2 else y p.2
theorem ve_if {t : VB} (ht : PT X c (TB K ml pc t)) (ha : PE X a (TV K ml pa ta ia fa)) (hb : PE X b (TV K ml pb tb ib fb)) : PE X (.IfExp c a b pos) (TV K ml (pc && pa && pb) (ta && tb) (ia && ib) (fIf t fa fb)) := (pe_ifExp ht ha hb).imp fun σ H Q ⟨B,O,δ,d,δ',S,q,k⟩ => by
 unfold fIf at q
 cases h1 : t δ with
 | none => rw [h1] at q;cases q
 | some p =>
  obtain ⟨kk,δ1⟩ := p
  rw [h1] at q
  refine ⟨B,O,δ,kk,δ1,S,h1,fun H1 R1 => ?_⟩
  have g1 : ∀ c,((ta && tb) = true -> c = true) -> ∀ a,at_ B O (ta && tb) a -> at_ B O c a := fun c h => at_mono h
  have g2 : ∀ c,((ia && ib) = true -> c = true) -> ∀ a,av B O (ia && ib) a -> av B O c a := fun c h => av_mono h
  cases kk with
  | true =>
   exact iteT ⟨B,O,δ1,d,δ',R1.sta,q,fun v2 H2 R2 => k v2 H2 ⟨R2.sta,R1.frm.trans R2.frm,fun z => by
    simp only [Bool.and_eq_true] at z
    exact (R1.pur z.1.1).trans (R2.pur z.1.2),R2.rep.mono (g2 _ fun z => ((Bool.and_eq_true _ _).mp z).1) (g1 _ fun z => ((Bool.and_eq_true _ _).mp z).1)⟩⟩
  | false =>
   exact iteF ⟨B,O,δ1,d,δ',R1.sta,q,fun v2 H2 R2 => k v2 H2 ⟨R2.sta,R1.frm.trans R2.frm,fun z => by
    simp only [Bool.and_eq_true] at z
    exact (R1.pur z.1.1).trans (R2.pur z.2),R2.rep.mono (g2 _ fun z => ((Bool.and_eq_true _ _).mp z).2) (g1 _ fun z => ((Bool.and_eq_true _ _).mp z).2)⟩⟩
def f3 (o o' : Dat -> Dat -> Option Dat) (fa fb fc : VF) : VF := fun δ => (fa δ).bind fun p => (fb p.2).bind fun q => (o p.1 q.1).bind fun z => match z with
 | .bl true => (fc q.2).bind fun s => (o' q.1 s.1).map fun u => (u,s.2)
 | .bl false => some (.bl false,q.2)
 | _ => none
theorem tv_chain (ho : OpS K r o) (ho' : OpS K r' o') (hs : (pb || (ta && ia)) = true) (hs' : (pc || (tb && ib)) = true) {Q : VK} (h : TV K ml (pa && pb && pc) true true (f3 o o' fa fb fc) σ H Q) : tChain r r' (TV K ml pa ta ia fa) (TV K ml pb tb ib fb) (TV K ml pc tc ic fc) σ H Q := by
 obtain ⟨B,O,δ,d,δ3,S,q,k⟩ := h
 unfold f3 at q
 cases h1 : fa δ with
 | none => rw [h1] at q;cases q
 | some p =>
  obtain ⟨x,δ1⟩ := p
  rw [h1] at q
  cases h2 : fb δ1 with
  | none => simp [h2] at q
  | some p2 =>
   obtain ⟨y,δ2⟩ := p2
   simp only [Option.bind_some,h2] at q
   refine ⟨B,O,δ,x,δ1,S,h1,fun v1 H1 R1 => ⟨B,O,δ1,y,δ2,R1.sta,h2,fun v2 H2 R2 => ?_⟩⟩
   cases h3 : o x y with
   | none => rw [h3] at q;cases q
   | some z =>
    rw [h3] at q
    refine ho H2 _ _ _ _ v1 v2 x y z _ (R2.live hs R1.rep) R2.rep h3 fun v hv => ?_
    have hv := hv (fun _ => none) (fun _ => True) fun _ => True
    cases z with
    | bl kk =>
     have e1 : v = .bl kk := by cases hv;rfl
     refine ⟨kk,e1,?_⟩
     cases kk with
     | false =>
      cases q
      exact iteF (k _ H2 ⟨R2.sta,R1.frm.trans R2.frm,fun z => by
       simp only [Bool.and_eq_true] at z
       exact (R1.pur z.1.1).trans (R2.pur z.1.2),.bl _⟩)
     | true =>
      have q : ((fc δ2).bind fun s => (o' y s.1).map fun u => (u,s.2)) = some (d,δ3) := q
      cases h4 : fc δ2 with
      | none => rw [h4] at q;cases q
      | some p4 =>
       obtain ⟨z4,δ4⟩ := p4
       rw [h4] at q
       have q : ((o' y z4).map fun u => (u,δ4)) = some (d,δ3) := q
       cases h5 : o' y z4 with
       | none => rw [h5] at q;cases q
       | some u =>
        rw [h5] at q
        cases q
        refine iteT ⟨B,O,δ2,z4,_,R2.sta,h4,fun v4 H4 R4 => ?_⟩
        exact ho' H4 _ _ _ _ v2 v4 y z4 d Q (R4.live hs' R2.rep) R4.rep h5 fun v hv => k v H4 ⟨R4.sta,(R1.frm.trans R2.frm).trans R4.frm,fun z => by
         simp only [Bool.and_eq_true] at z
         exact ((R1.pur z.1.1).trans (R2.pur z.1.2)).trans (R4.pur z.2),hv _ _ _⟩
    | _ => cases q
theorem ve_chain {op op' : CmpOp} (ho : OpR X (compareOp op) r) (ho' : OpR X (compareOp op') r') (hv : OpS K r o) (hv' : OpS K r' o') (ha : PE X a (TV K ml pa ta ia fa)) (hb : PE X b (TV K ml pb tb ib fb)) (hc : PE X c (TV K ml pc tc ic fc))
  (hm : lastMarks [op,op'] [b,c] = false := by with_unfolding_all rfl) (hs : (pb || (ta && ia)) = true := by rfl) (hs' : (pc || (tb && ib)) = true := by rfl) : PE X (.Compare a [op,op'] [b,c] pos) (TV K ml (pa && pb && pc) true true (f3 o o' fa fb fc)) :=
 (pe_chain ho ho' ha hb hc hm).imp fun _ _ _ h => tv_chain hv hv' hs hs' h
theorem vt_chain {op op' : CmpOp} (ho : OpR X (compareOp op) r) (ho' : OpR X (compareOp op') r') (hv : OpS K r o) (hv' : OpS K r' o') (ha : PE X a (TV K ml pa ta ia fa)) (hb : PE X b (TV K ml pb tb ib fb)) (hc : PE X c (TV K ml pc tc ic fc))
  (hm : lastMarks [op,op'] [b,c] = false := by with_unfolding_all rfl) (hs : (pb || (ta && ia)) = true := by rfl) (hs' : (pc || (tb && ib)) = true := by rfl) : PT X (.Compare a [op,op'] [b,c] pos) (TB K ml (pa && pb && pc) (fB (f3 o o' fa fb fc))) :=
 (pt_chain ho ho' ha hb hc hm).imp fun _ _ _ h => tb_test (fun _ _ _ => tv_chain hv hv' hs hs') h
end
end L2
namespace L2
open PySem PySem.Spec PyProof.Rows
section
variable {X : Cx} {K : PySem.W.Frag} {ml : List Nat} {e a b c : Expr} {es : List Expr} {pa ta ia pb tb ib pc tc ic pu bt bi ps bs : Bool} {fa fb fc : VF} {B : Bs} {O : Nat -> Option Addr} {H H1 H' : Hp} {σ : St} {δ δ' : Ev} {v : V} {d : Dat} {p : Addr} {pos : Pos}
def f1 (o : Dat -> Option Dat) (fa : VF) : VF := fun δ => (fa δ).bind fun p => (o p.1).map fun c => (c,p.2)
theorem f1_inv {o : Dat -> Option Dat} (h : f1 o fa δ = some (d,δ')) : ∃ x,fa δ = some (x,δ') /\ o x = some d := by
 unfold f1 at h
 cases h1 : fa δ with
 | none => rw [h1] at h;cases h
 | some p =>
  rw [h1] at h
  have h : ((o p.1).map fun c => (c,p.2)) = some (d,δ') := h
  cases h3 : o p.1 with
  | none => rw [h3] at h;cases h
  | some c =>
   rw [h3] at h
   cases h
   exact ⟨p.1,rfl,h3⟩
abbrev RC := List V -> Hp -> VK -> Prop
def CalS (K : PySem.W.Frag) (r : RC) (o : Dat -> Option Dat) : Prop := ∀ (H : Hp) (N M : Addr -> Prop) (x : V) (d c : Dat) (Q : VK),Rep K N H M x d -> o d = some c -> (∀ v,(∀ H' N M,Rep K N H' M v c) -> Q v H) -> r [x] H Q
def CalC (K : PySem.W.Frag) (r : RC) (o : Dat -> Option Dat) : Prop := ∀ (H : Hp) (N M : Addr -> Prop) (x : V) (d c : Dat) (Q : VK),Rep K N H M x d -> o d = some c →
 (∀ v H',Same H H' -> (∀ M,(∀ a,M a -> ∃ o,H a = some o) -> Rep K N H' M v c) -> Q v H') -> r [x] H Q
def CalN (K : PySem.W.Frag) (r : RC) (o : Dat -> Option Dat) : Prop := ∀ (H : Hp) (N M : Addr -> Prop) (x : V) (d c : Dat) (Q : VK),Rep K N H M x d -> o d = some c →
 (∀ p xs ds,H p = none -> RepA K N H xs ds -> c = .lst ds -> Q (.ref p) (upd H p (.lst xs))) -> r [x] H Q
def CalS2 (K : PySem.W.Frag) (r : RC) (o : Dat -> Dat -> Option Dat) : Prop := ∀ (H : Hp) (N N' M M' : Addr -> Prop) (x y : V) (d e c : Dat) (Q : VK),Rep K N H M x d -> Rep K N' H M' y e -> o d e = some c -> (∀ v,(∀ H' N M,Rep K N H' M v c) -> Q v H) -> r [x,y] H Q
theorem tv_call1S {r : RC} {o : Dat -> Option Dat} (ho : CalS K r o) {Q : VK} (h : TV K ml pa true true (f1 o fa) σ H Q) : tCB r (tCons (TV K ml pa ta ia fa) tNil) σ H Q := by
 obtain ⟨B,O,δ,d,δ',S,q,k⟩ := h
 obtain ⟨x,h1,h2⟩ := f1_inv q
 exact ⟨B,O,δ,x,δ',S,h1,fun v1 H1 R1 => ho H1 _ _ v1 x d Q R1.rep h2 fun v hv => k v H1 ⟨R1.sta,R1.frm,R1.pur,hv _ _ _⟩⟩
theorem tv_call1C {r : RC} {o : Dat -> Option Dat} (ho : CalC K r o) {Q : VK} (h : TV K ml pa true ia (f1 o fa) σ H Q) : tCB r (tCons (TV K ml pa ta ia fa) tNil) σ H Q := by
 obtain ⟨B,O,δ,d,δ',S,q,k⟩ := h
 obtain ⟨x,h1,h2⟩ := f1_inv q
 exact ⟨B,O,δ,x,δ',S,h1,fun v1 H1 R1 => ho H1 _ _ v1 x d Q R1.rep h2 fun v H2 s2 hv => k v H2 ⟨R1.sta.same s2,R1.frm.trans s2.fr,fun z => (R1.pur z).trans s2,hv _ fun a z => R1.sta.nin z⟩⟩
theorem tv_call1N {r : RC} {o : Dat -> Option Dat} (ho : CalN K r o) {Q : VK} (h : TN K ml pa (f1 o fa) σ H Q) : tCB r (tCons (TV K ml pa ta true fa) tNil) σ H Q := by
 obtain ⟨B,O,δ,d,δ',S,q,k⟩ := h
 obtain ⟨x,h1,h2⟩ := f1_inv q
 refine ⟨B,O,δ,x,δ',S,h1,fun v1 H1 R1 => ho H1 _ _ v1 x d Q R1.rep h2 fun p xs ds hp hr he => ?_⟩
 subst he
 exact k p _ (mkN R1.sta R1.frm R1.pur hp hr)
theorem tv_call2S {r : RC} {o : Dat -> Dat -> Option Dat} (ho : CalS2 K r o) (hs : (pb || (ta && ia)) = true) {Q : VK} (h : TV K ml (pa && pb) true true (f2 o fa fb) σ H Q) : tCB r (tCons (TV K ml pa ta ia fa) (tCons (TV K ml pb tb ib fb) tNil)) σ H Q := by
 obtain ⟨B,O,δ,d,δ2,S,q,k⟩ := h
 obtain ⟨x,δ1,y,h1,h2,h3⟩ := f2_inv q
 refine ⟨B,O,δ,x,δ1,S,h1,fun v1 H1 R1 => ⟨B,O,δ1,y,δ2,R1.sta,h2,fun v2 H2 R2 => ?_⟩⟩
 exact ho H2 _ _ _ _ v1 v2 x y d Q (R2.live hs R1.rep) R2.rep h3 fun v hv => k v H2 ⟨R2.sta,R1.frm.trans R2.frm,fun z => by
  obtain ⟨z1,z2⟩ := (Bool.and_eq_true _ _).mp z
  exact (R1.pur z1).trans (R2.pur z2),hv _ _ _⟩
section
variable {x : Str} {p' : Pos} {id T : String} {r : RC}
theorem ve_B1 {o : Dat -> Option Dat} (hc : CallR X (.builtin id) r) (ho : CalS K r o) (hg : Gl X x) (hm : X.mg x = none) (hv : bootBuiltins x = some (.builtin id)) (ha : PE X a (TV K ml pa ta ia fa)) (hn : x ≠ "__name__" := by decide) (hdb : (x == ("__debug__" : Str)) = false := by decide)
  (he : starEach (a :: []) X.env = (false,eval a X.env) :: starEach [] X.env := by rfl) : PE X (.Call (.Name x p') [a] [] pos) (TV K ml pa true true (f1 o fa)) :=
 (pe_callB hc hg hm hv (pa_cons ha pa_nil he) hn hdb he).imp fun _ _ _ h => tv_call1S ho h
theorem ve_B2 {o : Dat -> Dat -> Option Dat} (hc : CallR X (.builtin id) r) (ho : CalS2 K r o) (hg : Gl X x) (hm : X.mg x = none) (hv : bootBuiltins x = some (.builtin id)) (ha : PE X a (TV K ml pa ta ia fa)) (hb : PE X b (TV K ml pb tb ib fb)) (hn : x ≠ "__name__" := by decide) (hdb : (x == ("__debug__" : Str)) = false := by decide)
  (he : starEach (a :: [b]) X.env = (false,eval a X.env) :: starEach [b] X.env := by rfl) (he2 : starEach (b :: []) X.env = (false,eval b X.env) :: starEach [] X.env := by rfl) (hpl : (backTo pos (starEach [b] X.env)).any (·.1) = false := by rfl) (hs : (pb || (ta && ia)) = true := by rfl) :
  PE X (.Call (.Name x p') [a,b] [] pos) (TV K ml (pa && pb) true true (f2 o fa fb)) :=
 (pe_callB hc hg hm hv (pa_cons ha (pa_cons hb pa_nil he2) he) hn hdb he hpl).imp fun _ _ _ h => tv_call2S ho hs h
theorem ve_T1 {o : Dat -> Option Dat} (hc : CallR X (.type T) r) (ho : CalC K r o) (hg : Gl X x) (hm : X.mg x = none) (hv : bootBuiltins x = some (.type T)) (ha : PE X a (TV K ml pa ta ia fa)) (hn : x ≠ "__name__" := by decide) (hdb : (x == ("__debug__" : Str)) = false := by decide)
  (he : starEach (a :: []) X.env = (false,eval a X.env) :: starEach [] X.env := by rfl) : PE X (.Call (.Name x p') [a] [] pos) (TV K ml pa true ia (f1 o fa)) :=
 (pe_callTy hc hg hm hv (pa_cons ha pa_nil he) hn hdb he).imp fun _ _ _ h => tv_call1C ho h
theorem vn_T1 {o : Dat -> Option Dat} (hc : CallR X (.type T) r) (ho : CalN K r o) (hg : Gl X x) (hm : X.mg x = none) (hv : bootBuiltins x = some (.type T)) (ha : PE X a (TV K ml pa ta true fa)) (hn : x ≠ "__name__" := by decide) (hdb : (x == ("__debug__" : Str)) = false := by decide)
  (he : starEach (a :: []) X.env = (false,eval a X.env) :: starEach [] X.env := by rfl) : PE X (.Call (.Name x p') [a] [] pos) (TN K ml pa (f1 o fa)) :=
 (pe_callTy hc hg hm hv (pa_cons ha pa_nil he) hn hdb he).imp fun _ _ _ h => tv_call1N ho h
end
def oLen : Dat -> Option Dat
 | .tup ds => some (.int ds.length)
 | .lst ds => some (.int ds.length)
 | .str z => if z.length <= 16777216 then some (.int z.length) else none
 | _ => none
def rLen (K : PySem.W.Frag) : RC := fun xs H Q => (∃ p ys,xs = [.ref p] /\ (SqL K H p ys ∨ SqT K H p ys) /\ Q (.int ys.length) H) ∨ ∃ z,xs = [.str z] /\ z.length <= sizeLine /\ Q (.int z.length) H
theorem kLenA (h : X.K = K) : CallR X (.builtin "len") (rLen K) := by subst h;exact call_len_seq.or call_len_str
theorem s_len : CalS K (rLen K) oLen := by
  intro H N M x d c Q hx h k
  cases d <;> first
    | (rename_i ds
       obtain ⟨a,xs,rfl,sq,r⟩ := hx.seq rfl
       cases h
       refine .inl ⟨a,xs,rfl,sq,?_⟩
       rw [r.length]
       exact k _ fun _ _ _ => .int _)
    | (cases hx
       simp only [oLen] at h
       split at h
       · cases h
         exact .inr ⟨_,rfl,by rw [sizeLine_eq];assumption,k _ fun _ _ _ => .int _⟩
       · cases h)
    | cases h
def oList (d : Dat) : Option Dat := (seqD d).map Dat.lst
def oTuple (d : Dat) : Option Dat := (seqD d).map Dat.tup
def rListC (K : PySem.W.Frag) : RC := fun xs H Q => ∃ p ys,xs = [.ref p] /\ (SqL K H p ys ∨ SqT K H p ys) /\ ∀ l,H l = none -> Q (.ref l) (upd H l (.lst ys))
def rTupleC (K : PySem.W.Frag) : RC := fun xs H Q => ∃ p ys,xs = [.ref p] /\ ((SqL K H p ys /\ ∀ l,H l = none -> Q (.ref l) (upd H l (.tup ys))) ∨ (SqT K H p ys /\ Q (.ref p) H))
theorem kListC (h : X.K = K) : CallR X (.type "list") (rListC K) := kList h
theorem kTupleC (h : X.K = K) : CallR X (.type "tuple") (rTupleC K) := kTuple h
theorem seq_some {d : Dat} {g : List Dat -> Dat} {c : Dat} (h : (seqD d).map g = some c) : ∃ ds,seqD d = some ds /\ c = g ds := by
 cases h1 : seqD d with
 | none => rw [h1] at h;cases h
 | some ds => rw [h1] at h;cases h;exact ⟨ds,rfl,rfl⟩
theorem n_list : CalN K (rListC K) oList := by
 intro H N M x d c Q hx h k
 obtain ⟨ds,h1,rfl⟩ := seq_some h
 obtain ⟨a,xs,rfl,sq,r⟩ := hx.seq h1
 exact ⟨a,xs,rfl,sq,fun l hl => k l xs ds hl r rfl⟩
theorem c_tuple : CalC K (rTupleC K) oTuple := by
 intro H N M x d c Q hx h k
 obtain ⟨ds,h1,rfl⟩ := seq_some h
 obtain ⟨a,xs,rfl,sq,r⟩ := hx.seq h1
 rcases sq with sq | sq
 ·exact ⟨a,xs,rfl,.inl ⟨sq,fun l hl => k _ _ (same_upd hl) fun M hM => .tup (SqT.of upd_same) (r.same (same_upd hl))⟩⟩
 ·exact ⟨a,xs,rfl,.inr ⟨sq,k _ _ (Same.refl _) fun M hM => .tup sq r⟩⟩
def o2I (g : Int -> Int -> Int) : Dat -> Dat -> Option Dat
 | .int i,.int j => some (.int (g i j))
 | _,_ => none
theorem s2_int {g : Int -> Int -> Int} : CalS2 K (fun xs H Q => ∃ i j,xs = [.int i,.int j] /\ Q (.int (g i j)) H) (o2I g) := by
 intro H N N' M M' x y d e c Q hx hy h k
 unfold o2I at h
 split at h
 ·cases h
  cases hx
  cases hy
  exact ⟨_,_,rfl,k _ fun _ _ _ => .int _⟩
 ·cases h
abbrev oMax := o2I fun i j => if j > i then j else i
abbrev oMin := o2I fun i j => if j < i then j else i
theorem s_max : CalS2 K (fun xs H Q => ∃ i j,xs = [.int i,.int j] /\ Q (.int (if j > i then j else i)) H) oMax := s2_int
theorem s_min : CalS2 K (fun xs H Q => ∃ i j,xs = [.int i,.int j] /\ Q (.int (if j < i then j else i)) H) oMin := s2_int
def tyD : Dat -> Option String
 | .non => some "NoneType"
 | .bl _ => some "bool"
 | .int _ => some "int"
 | .str _ => some "str"
 | .tup _ => some "tuple"
 | .lst _ => some "list"
 | _ => none
def isiT (t n : String) : Option Bool := if ((Value.type t) == (Value.type n)) = true then some true else if PySem.W.kitMeta n = true then (PySem.fastBuiltinMro t).map (·.contains (.type n)) else none
theorem isiT_ok {t n : String} {k : Bool} (h : isiT t n = some k) : PySem.W.kitOne K (.type t) (.type n) = some k := h
def oIsi : Dat -> Dat -> Option Dat
 | d,.ty n => (tyD d).bind fun t => (isiT t n).map Dat.bl
 | _,_ => none
def rIsi (K : PySem.W.Frag) : RC := fun xs H Q => ∃ x n d N M t k,xs = [x,.ty n] /\ Rep K N H M x d /\ tyD d = some t /\ isiT t n = some k /\ Q (.bl k) H
theorem call_isiD : CallR X (.builtin "isinstance") (rIsi X.K) := by
 intro pins s σ H xs us Q I r h
 obtain ⟨x,n,d,N,M,t,k,rfl,hx,ht,hk,q⟩ := h
 obtain ⟨u,c,rfl,rx,rc⟩ := vals2 r
 cases (show c = Value.type n from rc)
 have e := isiT_ok (K := X.K) hk
 have fin : ∀ tk,EP X pins σ Q (.bool k) { s with toks := tk } := fun tk => ⟨.bl k,H,I.tok tk,rfl,q⟩
 cases hx with
 | non => cases ht;exact isinst_ok I rx (.non) e fin
 | bl y => cases ht;exact isinst_ok I rx (.bl y) e fin
 | int i => cases ht;exact isinst_ok I rx (.int i) e fin
 | str y => cases ht;exact isinst_ok I rx (.str y) e fin
 | ty n => cases ht
 | fn _ => cases ht
 | dct _ _ _ => cases ht
 | ktb _ _ => cases ht
 | tup q _ =>
  cases ht
  cases rx
  obtain ⟨its,_,⟨o,h1,h2,_⟩,_⟩ := I.tuple q
  exact PySem.W.kia_one PySem.W.kitx_tuple I.kIn ⟨o,h1,h2⟩ e (fun z => nomatch z) fin
 | lst q _ _ =>
  cases ht
  cases rx
  obtain ⟨its,_,⟨o,n,h1,h2,_⟩,_⟩ := I.list (SqL.of q)
  exact PySem.W.kia_one PySem.W.kitx_list I.kIn ⟨o,h1,h2⟩ e (fun z => nomatch z) fin
 | fzl q _ =>
  cases ht
  cases rx
  obtain ⟨its,_,⟨o,n,h1,h2,_⟩,_⟩ := I.list q.sq
  exact PySem.W.kia_one PySem.W.kitx_list I.kIn ⟨o,h1,h2⟩ e (fun z => nomatch z) fin
theorem kIsi (h : X.K = K) : CallR X (.builtin "isinstance") (rIsi K) := by subst h;exact call_isiD
theorem s_isi : CalS2 K (rIsi K) oIsi := by
  intro H N N' M M' x y d e c Q hx hy h k
  cases hy <;> first
    | (simp only [oIsi] at h
       cases h1 : tyD d with
       | none => rw [h1] at h;cases h
       | some t =>
         rw [h1] at h
         rename_i n
         have h : (isiT t n).map Dat.bl = some c := h
         cases h2 : isiT t n with
         | none => rw [h2] at h;cases h
         | some kk =>
           rw [h2] at h
           cases h
           exact ⟨x,n,d,N,M,t,kk,rfl,hx,h1,h2,k _ fun _ _ _ => .bl _⟩)
    | cases h
def oNeg : Dat -> Option Dat
 | .int i => some (.int (-i))
 | _ => none
theorem ve_neg (ha : PE X a (TV K ml pa ta ia fa)) : PE X (.UnaryOp .USub a pos) (TV K ml pa true true (f1 oNeg fa)) := (pe_un un_neg ha).imp fun σ H Q ⟨B,O,δ,d,δ',S,q,k⟩ => by
 obtain ⟨x,h1,h2⟩ := f1_inv q
 refine ⟨B,O,δ,x,δ',S,h1,fun v1 H1 R1 => ?_⟩
 cases x with
 | int i =>
  cases h2
  have e1 : v1 = .int i := by cases R1.rep;rfl
  exact ⟨i,e1,k _ H1 ⟨R1.sta,R1.frm,R1.pur,.int _⟩⟩
 | _ => cases h2
abbrev VP := Ev -> Option (Option Int × Ev)
def TPO (K : PySem.W.Frag) (ml : List Nat) (pu : Bool) (f : VP) : TO := fun σ H Q => ∃ B O δ k δ',Sta K ml B O H σ δ /\ f δ = some (k,δ') /\ ∀ H',ResB K ml B O H σ pu H' δ' -> Q k H'
def pNo : VP := fun δ => some (none,δ)
def pSo (f : VF) : VP := fun δ => (f δ).bind fun p => match p.1 with
 | .int i => some (some i,p.2)
 | _ => none
theorem PO.imp {e : Option Expr} {t u : TO} (h : PO X e t) (k : ∀ σ H Q,u σ H Q -> t σ H Q) : PO X e u := fun pins s σ H Q I w => h pins s σ H Q I (k σ H Q w)
theorem vp_no : PO X none (TPO K ml true pNo) := po_none.imp fun σ H Q ⟨B,O,δ,d,δ',S,q,k⟩ => by
 cases q
 exact k H (ResB.refl S)
theorem vp_so (h : PE X a (TV K ml pa ta ia fa)) : PO X (some a) (TPO K ml pa (pSo fa)) := (po_some h).imp fun σ H Q ⟨B,O,δ,d,δ',S,q,k⟩ => by
 unfold pSo at q
 cases h1 : fa δ with
 | none => rw [h1] at q;cases q
 | some p =>
  obtain ⟨x,δ1⟩ := p
  rw [h1] at q
  refine ⟨B,O,δ,x,δ1,S,h1,fun v1 H1 R1 => ?_⟩
  cases x with
  | int i =>
   have e1 : v1 = .int i := by cases R1.rep;rfl
   cases q
   exact ⟨i,e1,k H1 ⟨R1.sta,R1.frm,R1.pur⟩⟩
  | _ => cases q
def cutD (ds : List Dat) (lo hi : Option Int) : List Dat := (ds.drop (HT.sIx ds.length 0 lo)).take (HT.sIx ds.length ds.length hi - HT.sIx ds.length 0 lo)
theorem cut_rep {N : Addr -> Prop} {xs : List V} {ds : List Dat} (r : RepA K N H xs ds) (lo hi : Option Int) : RepA K N H (cutV xs lo hi) (cutD ds lo hi) := by
 unfold cutV cutD
 rw [r.length]
 exact (r.drop _).take _
def oSl (d : Dat) (lo hi : Option Int) : Option Dat := match d with
 | .lst ds => some (.lst (cutD ds lo hi))
 | .tup ds => some (.tup (cutD ds lo hi))
 | _ => none
def fSl (fa : VF) (fl fh : VP) : VF := fun δ => (fa δ).bind fun p => (fl p.2).bind fun l => (fh l.2).bind fun u => (oSl p.1 l.1 u.1).map fun c => (c,u.2)
theorem tup_whole {prog : Program} {w : World} {A : Around} {E : Value -> Shared -> Prop} {s : Shared} {t sl : Addr} {items : Array Value} {vl vu : Value} {lo hi : Option Int} {Q : Value -> Shared -> Prop} (ht : IsTup s.heap t items) (hs : s.heap.IsSliceOf sl vl vu .none) (pl : IsPart vl lo)
  (pu : IsPart vu hi) (h1 : HT.sIx items.size 0 lo = 0) (h2 : HT.sIx items.size items.size hi = items.size) (h : Q (.ref t) s) : wpAny (model prog w) A (getItem (.ref t) (.ref sl)) Q E s := by
 obtain ⟨os,hos,hcs,hds⟩ := id hs
 have hT : s.TypeIs (.ref sl) "slice" := ⟨os,hos,hcs⟩
 unfold getItem
 try with_reducible refine wpAny_holding ?_
 first | refine wpAny_bind (wpAny_pure ?_) | skip
 refine wpAny_bind (wpAny_sequenceKey ht.typeIs (by decide) ?_)
 refine wpAny_bind (wpAny_callSpecial?_slot (name := Str.ofString "__getitem__") ht.typeIs PyProof.Rows.slot_tuple_getitem
  (wpAny_call_entry PyProof.Rows.slot_tuple_getitem ht.typeIs PyProof.Rows.entry_tuple_getitem ?_ (PyProof.Rows.args_tuple_getitem _ _)))
 show wpAny _ _ (Builtin.Tuple.tupleItemsOf (.ref t) >>= _) _ _ s
 refine wpAny_bind (PyProof.Rows.tupleItemsOf_ ht ?_)
 refine wpAny_bind (wpAny_typeOf hT ?_)
 rw [if_pos (by decide)]
 refine wpAny_bind (HT.sliceApplied_gen hs pl pu ?_)
 rw [h1,h2]
 show wpAny _ _ (if ((((0 : Nat) : Int) == 0 && (1 : Int) == 1 && (items.size - 0) == items.size) = true) then _ else _) _ _ s
 rw [if_pos (by simp)]
 refine wpAny_bind (m := Builtin.Tuple.tupleIsExact _) (wpAny_bind (wpAny_typeOf ht.typeIs (wpAny_pure ?_)))
 rw [if_pos (by decide)]
 exact wpAny_bind (wpAny_rule (wpAny_pure ⟨_,rfl,wpAny_pure h⟩))
def rSlW (K : PySem.W.Frag) : V -> Option Int -> Option Int -> Hp -> VK -> Prop := fun x lo hi H Q => ∃ a xs,x = .ref a /\ SqT K H a xs /\ (HT.sIx xs.length 0 lo = 0 /\ HT.sIx xs.length xs.length hi = xs.length) /\ Q (.ref a) H
theorem sl_tupW : SlR X (rSlW X.K) := by
 intro pins s σ H x v vl vu lo hi sl Q I rx hs pl pu h
 obtain ⟨a,xs,rfl,hx,hw,q⟩ := h
 cases rx
 obtain ⟨its,r,ht,hz⟩ := I.tuple hx
 have hlen : its.toArray.size = xs.length := by rw [List.size_toArray];exact r.length.symm
 refine ⟨"tuple",_,PyProof.Rows.slot_tuple_getitem.lookup,ht.typeIs,?_⟩
 exact tup_whole ht hs pl pu (by rw [hlen];exact hw.1) (by rw [hlen];exact hw.2) ⟨.ref a,H,I,rfl,q⟩
def rSl (K : PySem.W.Frag) : V -> Option Int -> Option Int -> Hp -> VK -> Prop := fun x lo hi H Q => (rSlT K x lo hi H Q ∨ rSlL K x lo hi H Q) ∨ rSlW K x lo hi H Q
theorem kSl (h : X.K = K) : SlR X (rSl K) := by subst h;exact (sl_tup.or sl_list).or sl_tupW
theorem fSl_inv {fl fh : VP} (h : fSl fa fl fh δ = some (d,δ')) : ∃ x δ1 l δ2 u,fa δ = some (x,δ1) /\ fl δ1 = some (l,δ2) /\ fh δ2 = some (u,δ') /\ oSl x l u = some d := by
 unfold fSl at h
 cases h1 : fa δ with
 | none => rw [h1] at h;cases h
 | some p =>
  rw [h1] at h
  cases h2 : fl p.2 with
  | none => simp [h2] at h
  | some q =>
   simp only [Option.bind_some,h2] at h
   cases h3 : fh q.2 with
   | none => simp [h3] at h
   | some s =>
    simp only [Option.bind_some,h3] at h
    cases h4 : oSl p.1 q.1 s.1 with
    | none => rw [h4] at h;cases h
    | some c =>
     rw [h4] at h
     cases h
     exact ⟨p.1,p.2,q.1,q.2,s.1,rfl,h2,h3,h4⟩
theorem ve_sl {lo hi : Option Expr} {p2 : Pos} {fl fh : VP} (hK : X.K = K) (ha : PE X a (TV K ml pa ta ia fa)) (hl : PO X lo (TPO K ml pb fl)) (hh : PO X hi (TPO K ml pc fh)) (hs : (pb && pc || (ta && ia)) = true := by rfl) :
  PE X (.Subscript a (.Slice lo hi none p2) pos) (TV K ml (pa && pb && pc) true ia (fSl fa fl fh)) := (pe_slice (kSl hK) ha hl hh).imp fun σ H Q ⟨B,O,δ,d,δ3,S,q,k⟩ => by
 obtain ⟨x,δ1,l,δ2,u,h1,h2,h3,h4⟩ := fSl_inv q
 refine ⟨B,O,δ,x,δ1,S,h1,fun v1 H1 R1 => ⟨B,O,δ1,l,δ2,R1.sta,h2,fun H2 R2 => ⟨B,O,δ2,u,δ3,R2.sta,h3,fun H3 R3 => ?_⟩⟩⟩
 have hx : Rep K (av B O ia) H3 (at_ B O ta) v1 x := by
  rcases (Bool.or_eq_true _ _).mp hs with z | z
  ·obtain ⟨z1,z2⟩ := (Bool.and_eq_true _ _).mp z
   exact (R1.rep.same (R2.pur z1)).same (R3.pur z2)
  ·obtain ⟨z1,z2⟩ := (Bool.and_eq_true _ _).mp z
   subst z1 z2
   exact (R1.rep.fr R2.frm (fun a z => .inr z) fun a z => .inr z).fr R3.frm (fun a z => .inr z) fun a z => .inr z
 have hpur : (pa && pb && pc) = true -> Same H H3 := fun z => by
  simp only [Bool.and_eq_true] at z
  exact ((R1.pur z.1.1).trans (R2.pur z.1.2)).trans (R3.pur z.2)
 have hfr := (R1.frm.trans R2.frm).trans R3.frm
 cases x with
 | lst ds =>
  cases h4
  obtain ⟨a,xs,rfl,sq,r⟩ := hx.seq rfl
  rcases sq with sq | sq
  ·exact .inl (.inr ⟨a,xs,rfl,sq,fun p hp => k _ _ ⟨R3.sta.same (same_upd hp),hfr.trans (same_upd hp).fr,fun z => (hpur z).trans (same_upd hp),.lst upd_same (R3.sta.new hp) ((cut_rep r l u).same (same_upd hp))⟩⟩)
  ·cases hx with
   | lst q n r' => exact .inl (.inr ⟨a,_,rfl,SqL.of q,fun p hp => k _ _ ⟨R3.sta.same (same_upd hp),hfr.trans (same_upd hp).fr,fun z => (hpur z).trans (same_upd hp),.lst upd_same (R3.sta.new hp) ((cut_rep r' l u).same (same_upd hp))⟩⟩)
   | fzl q r' => exact .inl (.inr ⟨a,_,rfl,q.sq,fun p hp => k _ _ ⟨R3.sta.same (same_upd hp),hfr.trans (same_upd hp).fr,fun z => (hpur z).trans (same_upd hp),.lst upd_same (R3.sta.new hp) ((cut_rep r' l u).same (same_upd hp))⟩⟩)
 | tup ds =>
  cases h4
  cases hx with
  | tup q r' =>
   by_cases hw : HT.sIx ds.length 0 l = 0 /\ HT.sIx ds.length ds.length u = ds.length
   ·refine .inr ⟨_,_,rfl,q,by rw [r'.length];exact hw,k _ _ ⟨R3.sta,hfr,hpur,?_⟩⟩
    have e : cutD ds l u = ds := by
     unfold cutD
     rw [hw.1,hw.2]
     simp
    rw [e]
    exact .tup q r'
   ·exact .inl (.inl ⟨_,_,rfl,q,by rw [r'.length];exact hw,fun p hp => k _ _ ⟨R3.sta.same (same_upd hp),hfr.trans (same_upd hp).fr,fun z => (hpur z).trans (same_upd hp),.tup (SqT.of upd_same) ((cut_rep r' l u).same (same_upd hp))⟩⟩)
 | _ => cases h4
end
end L2
namespace L2
open PySem PySem.Spec PyProof.Rows
inductive Ou where
 | nx (δ : Ev) | rt (d : Dat) (δ : Ev) | bk (δ : Ev) | ct (δ : Ev)
abbrev VS := Ev -> Option Ou
def Post (K : PySem.W.Frag) (ml : List Nat) (B : Bs) (D : Ends) : Ou -> Prop
 | .nx δ' => ∀ σ' H' O',Sta K ml B O' H' σ' δ' -> D.nx σ' H'
 | .rt d δ' => ∀ v σ' H' O',Sta K ml B O' H' σ' δ' -> Rep K (rz B) H' (rz B) v d -> D.rt v H'
 | .bk δ' => ∀ σ' H' O',Sta K ml B O' H' σ' δ' -> D.bk σ' H'
 | .ct δ' => ∀ σ' H' O',Sta K ml B O' H' σ' δ' -> D.ct σ' H'
def TSt (K : PySem.W.Frag) (ml : List Nat) (g : VS) : TS := fun D σ H => ∃ B O δ o,Sta K ml B O H σ δ /\ g δ = some o /\ Post K ml B D o
section
variable {X : Cx} {K : PySem.W.Frag} {ml : List Nat} {e a b c : Expr} {es : List Expr} {pa ta ia pb tb ib pc tc ic pu bt bi ps bs : Bool} {fa fb fc f : VF} {B B' : Bs} {O : Nat -> Option Addr} {H H1 H' : Hp} {σ : St} {δ δ' : Ev} {v : V} {d : Dat} {p : Addr} {pos : Pos} {st : Stmt} {rest : List Stmt} {g g' : VS}
def sNil : VS := fun δ => some (.nx δ)
def sSeq (g g' : VS) : VS := fun δ => (g δ).bind fun o => match o with
 | .nx δ' => g' δ'
 | o => some o
theorem vss_nil : PSs X [] (TSt K ml sNil) := pss_nil.imp fun D σ H ⟨B,O,δ,o,S,q,k⟩ => by
 cases q
 exact k σ H O S
theorem vss_cons (h1 : PS X st (TSt K ml g)) (h2 : PSs X rest (TSt K ml g')) : PSs X (st :: rest) (TSt K ml (sSeq g g')) := (pss_cons h1 h2).imp fun D σ H ⟨B,O,δ,o,S,q,k⟩ => by
 unfold sSeq at q
 cases h1 : g δ with
 | none => rw [h1] at q;cases q
 | some z =>
  rw [h1] at q
  refine ⟨B,O,δ,z,S,h1,?_⟩
  cases z with
  | nx δ1 => exact fun σ' H' O' S' => ⟨B,O',δ1,o,S',q,k⟩
  | rt d δ1 => cases q;exact k
  | bk δ1 => cases q;exact k
  | ct δ1 => cases q;exact k
theorem vss_one (h1 : PS X st (TSt K ml g)) : PSs X [st] (TSt K ml g) := (pss_cons h1 pss_nil).imp fun D σ H ⟨B,O,δ,o,S,q,k⟩ => ⟨B,O,δ,o,S,q,by cases o <;> exact k⟩
def sRet (f : VF) : VS := fun δ => (f δ).map fun p => .rt p.1 p.2
theorem vs_ret (h : PE X e (TV K ml pu bt bi f)) (ht : bt = true := by rfl) : PS X (.Return (some e) pos) (TSt K ml (sRet f)) := (ps_ret h).imp fun D σ H ⟨B,O,δ,o,S,q,k⟩ => by
 unfold sRet at q
 cases h1 : f δ with
 | none => rw [h1] at q;cases q
 | some p =>
  rw [h1] at q
  cases q
  subst ht
  exact ⟨B,O,δ,p.1,p.2,S,h1,fun v H' R => k v σ H' O R.sta (R.rep.mono R.sta.rza R.sta.rzn)⟩
def sDrop (f : VF) : VS := fun δ => (f δ).map fun p => .nx p.2
theorem vs_expr (h : PE X e (TV K ml pu bt bi f)) (hs : swapsWith e none pos.line X.env = pure false := by rfl) : PS X (.Expr e pos) (TSt K ml (sDrop f)) := (ps_expr h hs).imp fun D σ H ⟨B,O,δ,o,S,q,k⟩ => by
 unfold sDrop at q
 cases h1 : f δ with
 | none => rw [h1] at q;cases q
 | some p =>
  rw [h1] at q
  cases q
  exact ⟨B,O,δ,p.1,p.2,S,h1,fun v H' R => k σ H' O R.sta⟩
def sIf (t : VB) (g g' : VS) : VS := fun δ => (t δ).bind fun p => if p.1 = true then g p.2 else g' p.2
theorem vs_if {x y : List Stmt} {t : VB} (ht : PT X c (TB K ml pc t)) (ha : PSs X x (TSt K ml g)) (hb : PSs X y (TSt K ml g')) : PS X (.If c x y pos) (TSt K ml (sIf t g g')) := (ps_if ht ha hb).imp fun D σ H ⟨B,O,δ,o,S,q,k⟩ => by
 unfold sIf at q
 cases h1 : t δ with
 | none => rw [h1] at q;cases q
 | some p =>
  obtain ⟨kk,δ1⟩ := p
  rw [h1] at q
  refine ⟨B,O,δ,kk,δ1,S,h1,fun H1 R1 => ?_⟩
  cases kk with
  | true => exact iteT ⟨B,O,δ1,o,R1.sta,q,k⟩
  | false => exact iteF ⟨B,O,δ1,o,R1.sta,q,k⟩
abbrev VX := Ev -> Option (Sl × Ev)
inductive St1 (K : PySem.W.Frag) (B : Bs) (O : Nat -> Option Addr) (H : Hp) : Bs -> V -> Sl -> Prop
 | va {v : V} {d : Dat} : St1 K B O H { B with kp := [(v,d)] ++ B.kp } v (.va d)
 | ol {p : Addr} {xs : List V} {ds : List Dat} : H p = some (.lst xs) -> xs.length = ds.length -> ¬ Nn B O p -> B.H0 p = none -> St1 K B O H { B.add p with kp := xs.zip ds ++ B.kp } (.ref p) (.ow (.lst ds))
 | od {p : Addr} {kvs : List (Key × V)} {ds : List Dat} : H p = some (.dK kvs) -> kvs.length = ds.length -> ¬ Nn B O p -> B.H0 p = none -> St1 K B O H { B.add p with kp := (kvs.map Prod.snd).zip ds ++ B.kp } (.ref p) (.ow (.dct (kvs.map Prod.fst) ds))
theorem St1.fr {s : Sl} (h : St1 K B O H B' v s) (f : Fr (OA O) H H') : St1 K B O H' B' v s := by
 cases h with
 | va => exact .va
 | ol q l n z => exact .ol (f _ _ q fun w => absurd (.inr w) n) l n z
 | od q l n z => exact .od (f _ _ q fun w => absurd (.inr w) n) l n z
def TX (K : PySem.W.Frag) (ml : List Nat) (f : VX) : TE := fun σ H Q => ∃ B O δ s δ',Sta K ml B O H σ δ /\ f δ = some (s,δ') /\ ∀ v H' B',Sta K ml B' O H' σ δ' -> St1 K B O H' B' v s -> Fr (OA O) H H' -> Q v H'
def xV (f : VF) : VX := fun δ => (f δ).map fun p => (.va p.1,p.2)
def xO (f : VF) : VX := fun δ => (f δ).map fun p => (.ow p.1,p.2)
theorem vx_va (h : PE X e (TV K ml pu true true f)) : PE X e (TX K ml (xV f)) := h.imp fun σ H Q ⟨B,O,δ,o,δ',S,q,k⟩ => by
 unfold xV at q
 cases h1 : f δ with
 | none => rw [h1] at q;cases q
 | some p =>
  rw [h1] at q
  cases q
  exact ⟨B,O,δ,p.1,p.2,S,h1,fun v H' R => k v H' _ (R.sta.keepV (ps := [(v,p.1)]) fun z hz => by
   rw [List.mem_singleton.mp hz]
   exact R.rep) .va R.frm⟩
theorem zip_rep {N : Addr -> Prop} : ∀ {xs : List V} {ds : List Dat},RepA K N H xs ds -> ∀ z ∈ xs.zip ds,Rep K N H N z.1 z.2
 | _,_,.nil,z,hz => nomatch hz
 | _,_,.cons h t,z,hz => by
  rcases List.mem_cons.mp hz with e | e
  ·rw [e];exact h
  ·exact zip_rep t z e
theorem rep_zip {N : Addr -> Prop} : ∀ {xs : List V} {ds : List Dat},xs.length = ds.length -> (∀ z ∈ xs.zip ds,Rep K N H N z.1 z.2) -> RepA K N H xs ds
 | [],[],_,_ => .nil
 | x :: xs,d :: ds,hl,h => .cons (h (x,d) (List.mem_cons_self ..)) (rep_zip (by simpa using hl) fun z hz => h z (List.mem_cons_of_mem _ hz))
theorem vx_ow (h : PE X e (TN K ml pu f)) : PE X e (TX K ml (xO f)) := h.imp fun σ H Q ⟨B,O,δ,o,δ',S,q,k⟩ => by
 unfold xO at q
 cases h1 : f δ with
 | none => rw [h1] at q;cases q
 | some p =>
  obtain ⟨d,δ1⟩ := p
  rw [h1] at q
  cases q
  refine ⟨B,O,δ,d,δ1,S,h1,fun p H' R => ?_⟩
  have w := R.own
  cases w with
  | lst q r => exact k _ H' _ (R.sta.keepV (zip_rep r)) (.ol q r.length R.nz R.h0) R.frm
  | dct q r => exact k _ H' _ (R.sta.keepV (zip_rep r)) (.od q (by simpa using r.length) R.nz R.h0) R.frm
theorem St1.bind {O' : Nat -> Option Addr} {s : Sl} {i : Nat} (h : St1 K B O H' B' v s) (S : Sta K ml B' O' H' σ δ) (hm : i ∉ ml) (hl : i < δ.length) : ∃ O'',Sta K ml B O'' H' (σ.set i (some v)) (δ.set i s) := by
 cases h with
 | va =>
  refine ⟨_,Sta.unkeep (ps := _) (S.setVa hm (S.kep _ (List.mem_append_left _ (List.mem_singleton.mpr rfl))))⟩
 | ol q l n z =>
  refine ⟨_,Sta.setOw (Sta.unkeep (B := B.add _) S) hm hl (fun w => n (.inl w)) z (.lst q (rep_zip l fun z hz => S.kep z (List.mem_append_left _ hz)))⟩
 | od q l n z =>
  refine ⟨_,Sta.setOw (Sta.unkeep (B := B.add _) S) hm hl (fun w => n (.inl w)) z (.dct q (rep_zip (by simpa using l) fun z hz => S.kep z (List.mem_append_left _ hz)))⟩
def sSet (i : Nat) (x : VX) : VS := fun δ => (x δ).bind fun p => if i < p.2.length then some (.nx (p.2.set i p.1)) else none
theorem vs_set {i : Nat} {y : Str} {x : VX} {pos' : Pos} (hN : X.N.Nodup) (hi : X.N[i]? = some y) (hx : Loc X.env.scope y) (he : PE X e (TX K ml x)) (hm : i ∉ ml := by decide) (hs : swapsWith e (some (.Name y pos')) pos.line X.env = pure false := by rfl)
  (hf : X.fn y = true ∨ X.env.scope.names.lookup y = some .local := by first | exact .inl rfl | exact .inr rfl | assumption) : PS X (.Assign [.Name y pos'] e pos) (TSt K ml (sSet i x)) := (ps_set hN hi hx he hs hf).imp fun D σ H ⟨B,O,δ,o,S,q,k⟩ => by
 unfold sSet at q
 cases h1 : x δ with
 | none => rw [h1] at q;cases q
 | some p =>
  obtain ⟨s,δ1⟩ := p
  rw [h1] at q
  have q : (if i < δ1.length then some (Ou.nx (δ1.set i s)) else none) = some o := q
  split at q
  ·rename_i hl
   cases q
   refine ⟨B,O,δ,s,δ1,S,h1,fun v H' B' S' h' f' => ?_⟩
   obtain ⟨O'',S''⟩ := h'.bind S' hm hl
   exact k _ _ _ S''
  ·cases q
abbrev VG := Dat -> Ev -> Option Ev
def TGV (K : PySem.W.Frag) (ml : List Nat) (h : VG) : TG := fun v σ H Q => ∃ B O δ d δ',Sta K ml B O H σ δ /\ Rep K (Nn B O) H (Nn B O) v d /\ h d δ = some δ' /\ ∀ σ' O',Sta K ml B O' H σ' δ' -> (∀ i ∈ ml,σ'[i]? = σ[i]?) -> Q σ' H
theorem PG.imp {t u : TG} (h : PG X e t) (k : ∀ v σ H Q,u v σ H Q -> t v σ H Q) : PG X e u := fun pins s σ H v w Q I r z => h pins s σ H v w Q I r (k v σ H Q z)
theorem PGs.imp {t u : TGs} (h : PGs X es t) (k : ∀ v σ H Q,u v σ H Q -> t v σ H Q) : PGs X es u := fun pins s σ H v w Q I r z => h pins s σ H v w Q I r (k v σ H Q z)
theorem PG.or {t u : TG} (h : PG X e t) (h' : PG X e u) : PG X e (fun v σ H Q => t v σ H Q ∨ u v σ H Q) := fun pins s σ H v w Q I r z => by
 rcases z with z | z
 ·exact h pins s σ H v w Q I r z
 ·exact h' pins s σ H v w Q I r z
def gN (i : Nat) : VG := fun d δ => some (δ.set i (.va d))
theorem vg_name {i : Nat} {x : Str} (hN : X.N.Nodup) (hi : X.N[i]? = some x) (hx : Loc X.env.scope x) (hm : i ∉ ml := by decide) (hf : X.fn x = true ∨ X.env.scope.names.lookup x = some .local := by first | exact .inl rfl | exact .inr rfl | assumption) : PG X (.Name x pos) (TGV K ml (gN i)) :=
 (pg_name hN hi hx hf).imp fun v σ H Q ⟨B,O,δ,d,δ',S,r,q,k⟩ => by
  cases q
  exact k _ _ (S.setVa hm r) fun j hj => List.getElem?_set_ne fun (z : i = j) => hm (z ▸ hj)
abbrev VGs := List Dat -> Ev -> Option Ev
def TGVs (K : PySem.W.Frag) (ml : List Nat) (h : VGs) : TGs := fun vs σ H Q => ∃ B O δ ds δ',Sta K ml B O H σ δ /\ RepA K (Nn B O) H vs ds /\ h ds δ = some δ' /\ ∀ σ' O',Sta K ml B O' H σ' δ' -> (∀ i ∈ ml,σ'[i]? = σ[i]?) -> Q σ' H
def gsNil : VGs := fun ds δ => match ds with
 | [] => some δ
 | _ => none
def gsCons (g : VG) (gs : VGs) : VGs := fun ds δ => match ds with
 | d :: r => (g d δ).bind fun δ1 => gs r δ1
 | [] => none
theorem vgs_nil : PGs X [] (TGVs K ml gsNil) := pgs_nil.imp fun vs σ H Q ⟨B,O,δ,ds,δ',S,r,q,k⟩ => by
 cases r with
 | nil => cases q;exact ⟨rfl,k _ _ S fun _ _ => rfl⟩
 | cons _ _ => cases q
theorem vgs_cons {g : VG} {gs : VGs} (h1 : PG X e (TGV K ml g)) (h2 : PGs X es (TGVs K ml gs)) (hs : (assignEach (e :: es) X.env).map (·.2) = assign e X.env :: (assignEach es X.env).map (·.2) := by rfl) : PGs X (e :: es) (TGVs K ml (gsCons g gs)) :=
 (pgs_cons h1 h2 hs).imp fun vs σ H Q ⟨B,O,δ,ds,δ',S,r,q,k⟩ => by
  cases r with
  | nil => cases q
  | @cons v vs d ds h t =>
   have q : ((g d δ).bind fun δ1 => gs ds δ1) = some δ' := q
   cases h1 : g d δ with
   | none => rw [h1] at q;cases q
   | some δ1 =>
    rw [h1] at q
    have S0 := S.keepV (zip_rep t)
    exact ⟨v,vs,rfl,_,O,δ,d,δ1,S0,h,h1,fun σ1 O1 S1 m1 => ⟨B,O1,δ1,ds,δ',S1.unkeep,rep_zip t.length fun z hz => S1.kep z (List.mem_append_left _ hz),q,fun σ2 O2 S2 m2 => k σ2 O2 S2 fun i hi => (m2 i hi).trans (m1 i hi)⟩⟩
def gTp (n : Nat) (gs : VGs) : VG := fun d δ => (seqD d).bind fun ds => if ds.length = n then gs ds δ else none
theorem vg_tup {gs : VGs} {k n : Nat} (hK : X.K = K) (hc : X.calm = true) (h : PGs X es (TGVs K ml gs)) (hn : (assignEach es X.env).length = n := by rfl) (hst : (assignEach es X.env).findIdx? (·.1) = none := by rfl) : PG X (.Tuple es k pos) (TGV K ml (gTp n gs)) :=
 ((kgTup (K := K) hK hc h hn hst).or (kgLst (K := K) hK hc h hn hst)).imp fun v σ H Q ⟨B,O,δ,d,δ',S,r,q,k⟩ => by
  unfold gTp at q
  cases h1 : seqD d with
  | none => rw [h1] at q;cases q
  | some ds =>
   rw [h1] at q
   have q : (if ds.length = n then gs ds δ else none) = some δ' := q
   split at q
   ·rename_i hl
    obtain ⟨a,xs,rfl,sq,ra⟩ := r.seq h1
    have fin : TGVs K ml gs xs σ H Q := ⟨B,O,δ,ds,δ',S,ra,q,k⟩
    rcases sq with sq | sq
    ·exact .inr ⟨a,xs,rfl,sq,ra.length.trans hl,fin⟩
    ·exact .inl ⟨a,xs,rfl,sq,ra.length.trans hl,fin⟩
   ·cases q
def sAsg (f : VF) (g : VG) : VS := fun δ => (f δ).bind fun p => (g p.1 p.2).map Ou.nx
theorem vs_asg {tg : Expr} {gg : VG} (he : PE X e (TV K ml pu true true f)) (hg : PG X tg (TGV K ml gg)) (hs : swapsWithSole [tg] e pos.line X.env = pure false := by rfl) (hw : swappedStores [tg] e X.env = pure none := by rfl)
  (h1 : (assignEach [tg] X.env).map (·.2) = [assign tg X.env] := by rfl) : PS X (.Assign [tg] e pos) (TSt K ml (sAsg f gg)) := (ps_asg he hg hs hw h1).imp fun D σ H ⟨B,O,δ,o,S,q,k⟩ => by
 unfold sAsg at q
 cases h1 : f δ with
 | none => rw [h1] at q;cases q
 | some p =>
  obtain ⟨d,δ1⟩ := p
  rw [h1] at q
  have q : (gg d δ1).map Ou.nx = some o := q
  cases h2 : gg d δ1 with
  | none => rw [h2] at q;cases q
  | some δ2 =>
   rw [h2] at q
   cases q
   exact ⟨B,O,δ,d,δ1,S,h1,fun v H' R => ⟨B,O,δ1,d,δ2,R.sta,R.rep,h2,fun σ' O' S' _ => k σ' H' O' S'⟩⟩
def MuV (K : PySem.W.Frag) (r : V -> List V -> Hp -> VK -> Prop) (m : List Dat -> List Dat -> Option (List Dat)) : Prop := ∀ (H : Hp) (N : Addr -> Prop) (l : Addr) (xs vs : List V) (ds es ds' : List Dat) (Q : VK),
 H l = some (.lst xs) -> N l -> RepA K N H xs ds -> RepA K N H vs es -> m ds es = some ds' -> (∀ v xs',RepA K N H xs' ds' -> Q v (upd H l (.lst xs'))) -> r (.ref l) vs H Q
def ownL (δ : Ev) (i : Nat) : Option (List Dat) := match δ[i]? with
 | some (.ow (.lst ds)) => some ds
 | _ => none
def sMut (i : Nat) (m : List Dat -> List Dat -> Option (List Dat)) (fs : VFs) : VS := fun δ => (ownL δ i).bind fun _ => (fs δ).bind fun p => (ownL p.2 i).bind fun ds => (m ds p.1).map fun ds' => .nx (p.2.set i (.ow (.lst ds')))
theorem ownL_some {i : Nat} {ds : List Dat} (h : ownL δ i = some ds) : δ[i]? = some (.ow (.lst ds)) := by
 unfold ownL at h
 split at h
 ·cases h;assumption
 ·cases h
theorem rep_upd_own {N : Addr -> Prop} {l : Addr} {o : HO} {xs : List V} {ds ys : List Dat} {zs : List V} (ho : H l = some (.lst zs)) (hN : N l) (h : RepA K N H xs ds) : RepA K N (upd H l o) xs ds :=
 h.fr (P := fun b => b = l) (fun b u q n => by
  by_cases hb : b = l
  ·subst hb
   rw [ho] at q
   cases q
   exact absurd (n rfl) fun z => z
  ·rw [upd_ne hb]
   exact q) fun a z => z ▸ hN
theorem vs_mut {i : Nat} {x : Str} {name : Str} {apos cpos npos : Pos} {id : String} {r : V -> List V -> Hp -> VK -> Prop} {m : List Dat -> List Dat -> Option (List Dat)} {fs : VFs} (hK : X.K = K) (slot : Slot "list" name id) (hty : typeOf (.builtin id) = pure (.type "method_descriptor")) (hm : MtR X id r) (hmu : MuV K r m)
  (ho : PE X (.Name x npos) (tVar i)) (ha : PA X (e :: es) (TAV K ml pu true fs))
  (hbase : attributeBase (.Name x npos) name X.env (eval (.Name x npos) X.env) = eval (.Name x npos) X.env := by rfl)
  (hfew : ((backTo cpos (starEach (e :: es) X.env)).all (fun x => !x.1) && (backToKw cpos (keywordEach [] X.env)).all (fun x => x.1.isSome)
   && decide ((e :: es).length + ([] : List Keyword).length + (if ([] : List Keyword).isEmpty then 0 else 1) < 30)) = true := by rfl)
  (hline : (apos.endLine == cpos.line) = true := by rfl) (hs : starEach (e :: es) X.env = (false,eval e X.env) :: starEach es X.env := by rfl) (hplain : (backTo cpos (starEach es X.env)).any (·.1) = false := by rfl)
  (hsw : swapsWith (.Call (.Attribute (.Name x npos) name apos) (e :: es) [] cpos) none pos.line X.env = pure false := by rfl) :
  PS X (.Expr (.Call (.Attribute (.Name x npos) name apos) (e :: es) [] cpos) pos) (TSt K ml (sMut i m fs)) :=
 (ps_expr (kBm (K := K) hK PySem.F.plainAttrs_list slot hty hm ho ha hbase hfew hline hs hplain) hsw).imp fun D σ H ⟨B,O,δ,o,S,q,k⟩ => by
  unfold sMut at q
  cases h0 : ownL δ i with
  | none => rw [h0] at q;cases q
  | some ds0 =>
   rw [h0] at q
   have q : ((fs δ).bind fun p => (ownL p.2 i).bind fun ds => (m ds p.1).map fun ds' => Ou.nx (p.2.set i (.ow (.lst ds')))) = some o := q
   cases h1 : fs δ with
   | none => rw [h1] at q;cases q
   | some p =>
    obtain ⟨es',δ1⟩ := p
    rw [h1] at q
    have q : ((ownL δ1 i).bind fun ds => (m ds es').map fun ds' => Ou.nx (δ1.set i (.ow (.lst ds')))) = some o := q
    cases h2 : ownL δ1 i with
    | none => rw [h2] at q;cases q
    | some ds =>
     rw [h2] at q
     have q : ((m ds es').map fun ds' => Ou.nx (δ1.set i (.ow (.lst ds')))) = some o := q
     cases h3 : m ds es' with
     | none => rw [h3] at q;cases q
     | some ds' =>
      rw [h3] at q
      cases q
      obtain ⟨l,e1,e2,w⟩ := S.ow i _ (ownL_some h0)
      cases w with
      | lst hl0 _ =>
       refine ⟨.ref l,e2,.inl ⟨rfl,_,SqL.of hl0⟩,B,O,δ,es',δ1,S,h1,fun vs H1 R => ?_⟩
       obtain ⟨l',e3,_,w1⟩ := R.sta.ow i _ (ownL_some h2)
       rw [e1] at e3
       cases e3
       cases w1 with
       | lst hl1 r1 =>
        refine hmu H1 (Nn B O) l _ vs ds es' ds' _ hl1 (.inr ⟨i,e1⟩) r1 R.rep h3 fun v xs' r2 => ?_
        exact k σ _ O (R.sta.wrote e1 (fun z => z) (.lst upd_same (rep_upd_own (ys := []) hl1 (.inr ⟨i,e1⟩) r2)))
def mApp : List Dat -> List Dat -> Option (List Dat)
 | ds,[d] => if ds.length < 16777216 then some (ds ++ [d]) else none
 | _,_ => none
theorem mu_app : MuV K rAppend mApp := by
 intro H N l xs vs ds es ds' Q hl hN rx re h k
 cases re with
 | nil => cases h
 | @cons v vs d es hd t =>
  cases t with
  | cons _ _ => cases h
  | nil =>
   simp only [mApp] at h
   split at h
   ·rename_i hz
    cases h
    exact ⟨l,xs,v,rfl,rfl,hl,by rw [rx.length,sizeLine_eq];exact hz,k _ _ (rx.snoc hd)⟩
   ·cases h
end
end L2
namespace L2
open PySem PySem.Spec PyProof.Rows
section
variable {X : Cx} {K : PySem.W.Frag} {ml : List Nat} {e a b c : Expr} {es : List Expr} {pa ta ia pb tb ib pc tc ic pu bt bi ps bs : Bool} {fa fb fc f : VF} {B B' : Bs} {O : Nat -> Option Addr} {H H1 H' : Hp} {σ : St} {δ δ' : Ev} {v : V} {d : Dat} {p : Addr} {pos : Pos} {st : Stmt} {rest : List Stmt} {g g' : VS}
def again (nxt : VS) : Ou -> Option Ou
 | .nx δ => nxt δ
 | .ct δ => nxt δ
 | .bk δ => some (.nx δ)
 | .rt d δ => some (.rt d δ)
open Classical in
def Walk (K : PySem.W.Frag) (J : It) (kps : List (V × Dat)) (ds : List Dat) : Prop := ∀ (N : Addr -> Prop) (H : Hp),(∀ p ∈ kps,Rep K N H N p.1 p.2) →
 (∀ (i : Nat) (d : Dat),ds[i]? = some d -> J.go i H /\ ∀ x H',J.yld i H x H' -> Same H H' /\ Rep K N H' N x d) /\ J.stop ds.length H
abbrev VI := Ev -> Option (List Dat × Ev)
def TIV (K : PySem.W.Frag) (ml : List Nat) (pu : Bool) (f : VI) : TI := fun σ H R => ∃ B O δ ds δ',Sta K ml B O H σ δ /\ f δ = some (ds,δ') ∧
 ∀ J kps H',Sta K ml { B with kp := kps ++ B.kp } O H' σ δ' -> Fr (OA O) H H' -> (pu = true -> Same H H') -> Walk K J kps ds -> R J H'
theorem PI.imp {tg : Expr} {t u : TI} (h : PI X tg e t) (k : ∀ σ H R,u σ H R -> t σ H R) : PI X tg e u := fun pins s σ H R I w => h pins s σ H R I (k σ H R w)
theorem PI.or {tg : Expr} {t u : TI} (h : PI X tg e t) (h' : PI X tg e u) : PI X tg e (fun σ H R => t σ H R ∨ u σ H R) := fun pins s σ H R I z => by
 rcases z with z | z
 ·exact h pins s σ H R I z
 ·exact h' pins s σ H R I z
def iSeq (f : VF) : VI := fun δ => (f δ).bind fun p => (seqD p.1).map fun ds => (ds,p.2)
theorem walk_lst {a : Addr} {ds : List Dat} : Walk K (Itl K a) [(.ref a,.lst ds)] ds := by
 intro N H h
 have r := h _ (List.mem_singleton.mpr rfl)
 have fin : ∀ xs,SqL K H a xs -> RepA K N H xs ds -> (∀ (i : Nat) (d : Dat),ds[i]? = some d -> (Itl K a).go i H /\ ∀ x H',(Itl K a).yld i H x H' -> Same H H' /\ Rep K N H' N x d) /\ (Itl K a).stop ds.length H := fun xs sq r => by
  refine ⟨fun i d e => ?_,xs,sq,by rw [r.length];exact Nat.le_refl _⟩
  obtain ⟨x,e1,r1⟩ := r.get e
  refine ⟨⟨xs,x,sq,e1⟩,fun y H' hy => ?_⟩
  obtain ⟨e2,e3⟩ := hy
  subst e2
  have := e3 xs sq
  rw [e1] at this
  cases this
  exact ⟨Same.refl _,r1⟩
 cases r with
 | lst q n r => exact fin _ (SqL.of q) r
 | fzl q r => exact fin _ q.sq r
theorem walk_tup {a : Addr} {ds : List Dat} : Walk K (Itt K a) [(.ref a,.tup ds)] ds := by
 intro N H h
 have r := h _ (List.mem_singleton.mpr rfl)
 cases r with
 | tup sq r =>
  refine ⟨fun i d e => ?_,_,sq,by rw [r.length];exact Nat.le_refl _⟩
  obtain ⟨x,e1,r1⟩ := r.get e
  refine ⟨⟨_,x,sq,e1⟩,fun y H' hy => ?_⟩
  obtain ⟨e2,e3⟩ := hy
  subst e2
  have := e3 _ sq
  rw [e1] at this
  cases this
  exact ⟨Same.refl _,r1⟩
theorem vi_seq {tg : Expr} (hK : X.K = K) (h : PE X e (TV K ml pu true true f)) : PI X tg e (TIV K ml pu (iSeq f)) := ((kiList (K := K) hK h).or (kiTup (K := K) hK h)).imp fun σ H R ⟨B,O,δ,ds,δ',S,q,k⟩ => by
 unfold iSeq at q
 cases h1 : f δ with
 | none => rw [h1] at q;cases q
 | some p =>
  obtain ⟨x,δ1⟩ := p
  rw [h1] at q
  cases x with
  | lst ds' =>
   cases q
   refine .inl ⟨B,O,δ,_,δ1,S,h1,fun v H1 R1 => ?_⟩
   obtain ⟨a,xs,rfl,sq,r⟩ := R1.rep.seq rfl
   refine ⟨a,rfl,?_,k _ [(.ref a,.lst ds)] H1 (R1.sta.keepV fun p hp => by rw [List.mem_singleton.mp hp];exact R1.rep) R1.frm R1.pur walk_lst⟩
   have r := R1.rep
   cases r with
   | lst q _ _ => exact ⟨_,SqL.of q⟩
   | fzl q _ => exact ⟨_,q.sq⟩
  | tup ds' =>
   cases q
   refine .inr ⟨B,O,δ,_,δ1,S,h1,fun v H1 R1 => ?_⟩
   obtain ⟨a,xs,rfl,sq,r⟩ := R1.rep.seq rfl
   refine ⟨a,rfl,?_,k _ [(.ref a,.tup ds)] H1 (R1.sta.keepV fun p hp => by rw [List.mem_singleton.mp hp];exact R1.rep) R1.frm R1.pur walk_tup⟩
   have r := R1.rep
   cases r with
   | tup q _ => exact ⟨_,q⟩
  | _ => cases q
def rngD (lo : Int) (n : Nat) : List Dat := (List.range n).map fun k : Nat => .int (lo + k)
def iR1 (f : VF) : VI := fun δ => (f δ).bind fun p => match p.1 with
 | .int j => if -4611686018427387904 <= j /\ j < 4611686018427387904 then some (rngD 0 j.toNat,p.2) else none
 | _ => none
def iR2 (f g : VF) : VI := fun δ => (f δ).bind fun p => (g p.2).bind fun q => match p.1,q.1 with
 | .int i,.int j => if (-4611686018427387904 <= i /\ i < 4611686018427387904) /\ -4611686018427387904 <= j /\ j < 4611686018427387904 then some (rngD i (j - i).toNat,q.2) else none
 | _,_ => none
theorem rngD_get {lo : Int} {n i : Nat} {d : Dat} (h : (rngD lo n)[i]? = some d) : i < n /\ d = .int (lo + i) := by
 unfold rngD at h
 rw [List.getElem?_map] at h
 cases h1 : (List.range n)[i]? with
 | none => rw [h1] at h;cases h
 | some k =>
  rw [h1] at h
  cases h
  have := List.getElem?_eq_some_iff.mp h1
  obtain ⟨hl,e⟩ := this
  rw [List.length_range] at hl
  rw [List.getElem_range] at e
  subst e
  exact ⟨hl,rfl⟩
theorem walk_rng {lo : Int} {n : Nat} : Walk K (Itr lo n) [] (rngD lo n) := by
 intro N H _
 refine ⟨fun i d e => ?_,by simp [Itr,rngD]⟩
 obtain ⟨hl,rfl⟩ := rngD_get e
 refine ⟨hl,fun x H' hy => ?_⟩
 obtain ⟨rfl,rfl⟩ := hy
 exact ⟨Same.refl _,.int _⟩
theorem vi_range1 {tg : Expr} {p' : Pos} (hg : Gl X "range") (hm : X.mg "range" = none) (h : PE X a (TV K ml pa ta ia fa)) (hs : starEach [a] X.env = [(false,eval a X.env)] := by rfl) (hs1 : starEach (a :: []) X.env = (false,eval a X.env) :: starEach [] X.env := by rfl) :
  PI X tg (.Call (.Name "range" p') [a] [] pos) (TIV K ml pa (iR1 fa)) := (pi_range1 hg hm (pa_cons h pa_nil hs1) hs).imp fun σ H R ⟨B,O,δ,ds,δ',S,q,k⟩ => by
 unfold iR1 at q
 cases h1 : fa δ with
 | none => rw [h1] at q;cases q
 | some p =>
  obtain ⟨x,δ1⟩ := p
  rw [h1] at q
  cases x with
  | int j =>
   have q : (if -4611686018427387904 <= j /\ j < 4611686018427387904 then some (rngD 0 j.toNat,δ1) else none) = some (ds,δ') := q
   split at q
   ·rename_i hj
    cases q
    have p62 : (2 : Int) ^ 62 = 4611686018427387904 := by decide
    refine ⟨B,O,δ,_,_,S,h1,fun v H1 R1 => ⟨j,?_,by rw [p62];exact hj.1,by rw [p62];exact hj.2,k _ [] H1 (R1.sta.keepV fun _ z => nomatch z) R1.frm R1.pur walk_rng⟩⟩
    have r := R1.rep
    cases r
    rfl
   ·cases q
  | _ => cases q
theorem vi_range2 {tg : Expr} {p' : Pos} (hg : Gl X "range") (hm : X.mg "range" = none) (h : PE X a (TV K ml pa ta ia fa)) (h' : PE X b (TV K ml pb tb ib fb)) (hs : starEach [a,b] X.env = [(false,eval a X.env),(false,eval b X.env)] := by rfl) (hs2 : starEach [b] X.env = [(false,eval b X.env)] := by rfl)
  (he : starEach (a :: [b]) X.env = (false,eval a X.env) :: starEach [b] X.env := by rfl) (he2 : starEach (b :: []) X.env = (false,eval b X.env) :: starEach [] X.env := by rfl) :
  PI X tg (.Call (.Name "range" p') [a,b] [] pos) (TIV K ml (pa && pb) (iR2 fa fb)) := (pi_range2 hg hm (pa_cons h (pa_cons h' pa_nil he2) he) hs hs2).imp fun σ H R ⟨B,O,δ,ds,δ',S,q,k⟩ => by
 unfold iR2 at q
 cases h1 : fa δ with
 | none => rw [h1] at q;cases q
 | some p =>
  obtain ⟨x,δ1⟩ := p
  rw [h1] at q
  cases h2 : fb δ1 with
  | none => simp [h2] at q
  | some p2 =>
   obtain ⟨y,δ2⟩ := p2
   simp only [Option.bind_some,h2] at q
   cases x with
   | int i =>
    cases y with
    | int j =>
     have q : (if (-4611686018427387904 <= i /\ i < 4611686018427387904) /\ -4611686018427387904 <= j /\ j < 4611686018427387904 then some (rngD i (j - i).toNat,δ2) else none) = some (ds,δ') := q
     split at q
     ·rename_i hj
      cases q
      have p62 : (2 : Int) ^ 62 = 4611686018427387904 := by decide
      refine ⟨B,O,δ,_,_,S,h1,fun v H1 R1 => ⟨B,O,δ1,_,_,R1.sta,h2,fun v2 H2 R2 => ⟨i,j,?_,by rw [p62];exact ⟨hj.1.1,hj.1.2,hj.2.1,hj.2.2⟩,k _ [] H2 (R2.sta.keepV fun _ z => nomatch z) (R1.frm.trans R2.frm) (fun z => by
       obtain ⟨z1,z2⟩ := (Bool.and_eq_true _ _).mp z
       exact (R1.pur z1).trans (R2.pur z2)) walk_rng⟩⟩⟩
      have r1 := R1.rep
      have r2 := R2.rep
      cases r1
      cases r2
      rfl
     ·cases q
    | _ => cases q
   | _ => cases q
def forV (gg : VG) (s : VS) : List Dat -> VS
 | [] => fun δ => some (.nx δ)
 | d :: r => fun δ => (gg d δ).bind fun δ1 => (s δ1).bind (again (forV gg s r))
def sFor (fi : VI) (gg : VG) (s : VS) : VS := fun δ => (fi δ).bind fun p => forV gg s p.1 p.2
theorem vs_for {tg iter : Expr} {body : List Stmt} {fi : VI} {gg : VG} (hp : PassesOwn (model X.prog X.w) X.A X.env X.xe) (hc : X.calm = true) (hi : PI X tg iter (TIV K ml pu fi)) (hg : PG X tg (TGV K ml gg)) (hb : PSs X body (TSt K ml g))
  (hs : ∀ x,foldedSetIterable iter X.env x = pure x := by intro _;rfl) : PS X (.For tg iter body [] pos) (TSt K ml (sFor fi gg g)) := (ps_for hp hc hi hg hb hs).imp fun D σ H ⟨B,O,δ,o,S,q,k⟩ => by
 unfold sFor at q
 cases h1 : fi δ with
 | none => rw [h1] at q;cases q
 | some p =>
  obtain ⟨ds,δ1⟩ := p
  rw [h1] at q
  have q : forV gg g ds δ1 = some o := q
  refine ⟨B,O,δ,ds,δ1,S,h1,fun J kps H1 S1 _ _ wk => ?_⟩
  refine ⟨fun i m σ H => m = ds.length - i /\ i <= ds.length /\ ∃ O δ,Sta K ml { B with kp := kps ++ B.kp } O H σ δ /\ forV gg g (ds.drop i) δ = some o,⟨ds.length,rfl,Nat.zero_le _,O,δ1,S1,q⟩,?_⟩
  rintro i m σ H ⟨rfl,hi,O,δ,S,hf⟩
  have w := wk (Nn B O) H fun p hp => S.kep p (List.mem_append_left _ hp)
  by_cases hlt : i < ds.length
  ·obtain ⟨go,yl⟩ := w.1 i ds[i] (by simp [hlt])
   rw [List.drop_eq_getElem_cons hlt] at hf
   refine .inr ⟨go,fun σ' H' => ∃ O δ,Sta K ml { B with kp := kps ++ B.kp } O H' σ' δ /\ forV gg g (ds.drop (i + 1)) δ = some o,fun σ' H' w' => ⟨ds.length - (i + 1),by omega,rfl,hlt,w'⟩,fun x H' hy => ?_⟩
   obtain ⟨sm,rx⟩ := yl x H' hy
   have hf : ((gg ds[i] δ).bind fun δ1 => (g δ1).bind (again (forV gg g (ds.drop (i + 1))))) = some o := hf
   cases h2 : gg ds[i] δ with
   | none => rw [h2] at hf;cases hf
   | some δ2 =>
    rw [h2] at hf
    have hf : (g δ2).bind (again (forV gg g (ds.drop (i + 1)))) = some o := hf
    refine ⟨_,O,δ,ds[i],δ2,S.same sm,rx,h2,fun σ2 O2 S2 _ => ?_⟩
    cases h3 : g δ2 with
    | none => rw [h3] at hf;cases hf
    | some z =>
     rw [h3] at hf
     refine ⟨_,O2,δ2,z,S2,h3,?_⟩
     cases z with
     | nx δ3 => exact fun σ' H' O' S' => ⟨O',δ3,S',hf⟩
     | ct δ3 => exact fun σ' H' O' S' => ⟨O',δ3,S',hf⟩
     | bk δ3 => cases hf;exact fun σ' H' O' S' => k σ' H' O' S'.unkeep
     | rt d δ3 => cases hf;exact fun v σ' H' O' S' r => k v σ' H' O' S'.unkeep r
  ·have e : i = ds.length := by omega
   subst e
   rw [List.drop_length] at hf
   cases hf
   exact .inl ⟨w.2,k σ H O S.unkeep⟩
end
end L2
namespace L2
open PySem PySem.Spec PyProof.Rows
section
variable {X : Cx} {K : PySem.W.Frag} {ml : List Nat} {e a b c : Expr} {es : List Expr} {pa ta ia pb tb ib pc tc ic pu bt bi ps bs : Bool} {fa fb fc f : VF} {B B' : Bs} {O : Nat -> Option Addr} {H H1 H' : Hp} {σ : St} {δ δ' : Ev} {v : V} {d : Dat} {p : Addr} {pos : Pos} {st : Stmt} {rest : List Stmt} {g g' : VS}
theorem Sta.call {P : Addr -> Prop} (S : Sta K ml B O H σ δ) (hl : δ'.length = δ.length) (h : ∀ i : Nat,(δ'[i]? = δ[i]? /\ ∀ a,O i = some a -> ¬ P a) ∨ ∃ a d',O i = some a /\ δ'[i]? = some (Sl.ow d') /\ Own K (Nn B O) H' a d')
  (f : Fr P H H') (hP : ∀ a,P a -> OA O a) : Sta K ml B O H' σ δ' where
 len := by rw [hl,S.len]
 va := fun i d e => by
  rcases h i with ⟨e1,_⟩ | ⟨a,d',_,e1,_⟩
  ·rw [e1] at e
   obtain ⟨v,e2,r⟩ := S.va i d e
   exact ⟨v,e2,r.fr f (fun a z => .inr (hP a z)) fun a z => .inr (hP a z)⟩
  ·rw [e1] at e
   cases e
 ow := fun i d e => by
  rcases h i with ⟨e1,n⟩ | ⟨a,d',e2,e1,w⟩
  ·rw [e1] at e
   obtain ⟨a,e2,e3,w⟩ := S.ow i d e
   exact ⟨a,e2,e3,w.fr f (fun a z => .inr (hP a z)) (n a e2)⟩
  ·rw [e1] at e
   cases e
   obtain ⟨d0,q0⟩ := S.dom i a e2
   obtain ⟨a',e3,e4,_⟩ := S.ow i d0 q0
   rw [e2] at e3
   cases e3
   exact ⟨a,e2,e4,w⟩
 dom := fun i a e => by
  rcases h i with ⟨e1,n⟩ | ⟨a,d',e2,e1,w⟩
  ·obtain ⟨d0,q0⟩ := S.dom i a e
   exact ⟨d0,e1.trans q0⟩
  ·exact ⟨d',e1⟩
 inj := S.inj
 old := S.old
 zin := fun a h' => by
  obtain ⟨o,q⟩ := S.zin a h'
  exact ⟨o,f a o q fun z => by
   obtain ⟨i,e⟩ := hP a z
   exact absurd h' (S.old i a e).1⟩
 frm := fun b o q n => by
  have h1 := S.frm b o q n
  refine f b o h1 fun z => ?_
  obtain ⟨i,e⟩ := hP b z
  rcases (S.old i b e).2 with w | w
  ·exact n w
  ·rw [q] at w;cases w
 par := S.par
 pin := fun a h' => by
  obtain ⟨o,q⟩ := S.pin a h'
  by_cases z : P a
  ·obtain ⟨i,e⟩ := hP a z
   rcases h i with ⟨_,n⟩ | ⟨a',d',e2,e1,w⟩
   ·exact absurd z (n a e)
   ·rw [e] at e2
    cases e2
    obtain ⟨o,q,_⟩ := w.soft
    exact ⟨o,q⟩
  ·exact ⟨o,f a o q fun y => absurd y z⟩
 kep := fun p hp => (S.kep p hp).fr f (fun a z => .inr (hP a z)) fun a z => .inr (hP a z)
abbrev VFun := List Dat -> Option (Dat × List Dat)
def argP (ml : List Nat) (vs : List V) : Addr -> Prop := fun a => ∃ i ∈ ml,vs[i]? = some (.ref a)
def Zp (Z : Addr -> Prop) (ml : List Nat) (vs : List V) : Addr -> Prop := fun a => Z a ∨ argP ml vs a
structure ArgsV (K : PySem.W.Frag) (ml : List Nat) (Z : Addr -> Prop) (H : Hp) (vs : List V) (ds : List Dat) : Prop where
 len : vs.length = ds.length
 mem : ∀ i ∈ ml,i < ds.length
 va : ∀ (i : Nat) (d : Dat),i ∉ ml -> ds[i]? = some d -> ∃ v,vs[i]? = some v /\ Rep K (Zp Z ml vs) H (Zp Z ml vs) v d
 ow : ∀ (i : Nat) (d : Dat),i ∈ ml -> ds[i]? = some d -> ∃ a,vs[i]? = some (.ref a) /\ Own K (Zp Z ml vs) H a d /\ ¬ Z a
 inj : ∀ (i j : Nat) (a : Addr),i ∈ ml -> j ∈ ml -> vs[i]? = some (.ref a) -> vs[j]? = some (.ref a) -> i = j
 zin : ∀ a,Z a -> ∃ o,H a = some o
def spV (K : PySem.W.Frag) (ml : List Nat) (n : Nat) (F : VFun) : Sp := fun vs H Q _ => ∃ (Z : Addr -> Prop) (ds : List Dat) (r : Dat) (os : List Dat),ds.length = n /\ ArgsV K ml Z H vs ds /\ F ds = some (r,os) ∧
 ∀ v H',Fr (argP ml vs) H H' -> (∀ (k i : Nat) (a : Addr) (o : Dat),ml[k]? = some i -> vs[i]? = some (.ref a) -> os[k]? = some o -> Own K (Zp Z ml vs) H' a o) -> Rep K (Zp Z ml vs) H' (Zp Z ml vs) v r -> Q v H'
def envD (ml : List Nat) (n : Nat) (ds : List Dat) : Ev := ds.mapIdx (fun i d => if i ∈ ml then Sl.ow d else Sl.va d) ++ List.replicate (n - ds.length) Sl.no
def outs (ml : List Nat) (δ : Ev) : Option (List Dat) := ml.mapM fun (i : Nat) => match (δ[i]? : Option Sl) with
 | some (Sl.ow d) => some d
 | _ => none
def runV (n : Nat) (ml : List Nat) (g : VS) : VFun := fun ds => (g (envD ml n ds)).bind fun o => match o with
 | .rt d δ => (outs ml δ).map fun os => (d,os)
 | .nx δ => (outs ml δ).map fun os => (.non,os)
 | _ => none
theorem outs_get : ∀ {ml : List Nat} {δ : Ev} {os : List Dat},outs ml δ = some os -> ∀ (k i : Nat) (o : Dat),ml[k]? = some i -> os[k]? = some o -> δ[i]? = some (.ow o)
 | [],_,_,h,k,i,o,e1,e2 => by simp at e1
 | j :: ml,δ,os,h,k,i,o,e1,e2 => by
  unfold outs at h
  rw [List.mapM_cons] at h
  split at h
  ·rename_i d hd
   cases h2 : (ml.mapM fun (i : Nat) => match (δ[i]? : Option Sl) with
    | some (Sl.ow d) => some d
    | _ => none : Option (List Dat)) with
   | none => rw [h2] at h;cases h
   | some os2 =>
    rw [h2] at h
    cases h
    cases k with
    | zero =>
     cases e1
     cases e2
     exact hd
    | succ k => exact outs_get (ml := ml) h2 k i o (by simpa using e1) (by simpa using e2)
  ·cases h
theorem start_sta {N : List Str} {Z : Addr -> Prop} {vs : List V} {ds : List Dat} (A : ArgsV K ml Z H vs ds) (hn : ds.length <= N.length) :
  ∃ mu : Nat -> Option Addr,(∀ i a,mu i = some a ↔ i ∈ ml /\ vs[i]? = some (.ref a)) /\ Sta K ml ⟨Z,argP ml vs,H,mu,[]⟩ mu H (start N vs) (envD ml N.length ds) := by
 classical
 let mu : Nat -> Option Addr := fun i => if i ∈ ml then (match vs[i]? with
  | some (.ref a) => some a
  | _ => none) else none
 have hmu : ∀ i a,mu i = some a ↔ i ∈ ml /\ vs[i]? = some (.ref a) := fun i a => by
  show (if i ∈ ml then (match vs[i]? with
   | some (.ref a) => some a
   | _ => none) else none) = some a ↔ _
  by_cases hi : i ∈ ml
  ·rw [if_pos hi]
   constructor
   ·intro h
    split at h
    ·rename_i b hb
     cases h
     exact ⟨hi,hb⟩
    ·cases h
   ·rintro ⟨_,h⟩
    rw [h]
  ·rw [if_neg hi]
   exact ⟨(fun h => nomatch h),fun h => absurd h.1 hi⟩
 have hN : ∀ a,Nn ⟨Z,argP ml vs,H,mu,[]⟩ mu a -> Zp Z ml vs a := fun a h => by
  rcases h with h | ⟨i,h⟩
  ·exact .inl h
  ·exact .inr ⟨i,(hmu i a).mp h⟩
 have hget : ∀ (i : Nat) (s : Sl),(envD ml N.length ds)[i]? = some s -> (∃ d,ds[i]? = some d /\ s = if i ∈ ml then .ow d else .va d) ∨ s = .no := fun i s h => by
  unfold envD at h
  by_cases hi : i < ds.length
  ·rw [List.getElem?_append_left (by simpa using hi),List.getElem?_mapIdx] at h
   cases q : ds[i]? with
   | none => rw [q] at h;cases h
   | some d => rw [q] at h;cases h;exact .inl ⟨d,rfl,rfl⟩
  ·rw [List.getElem?_append_right (by simpa using hi),List.getElem?_replicate] at h
   split at h
   ·cases h;exact .inr rfl
   ·cases h
 have hst : ∀ (i : Nat) (v : V),vs[i]? = some v -> (start N vs)[i]? = some (some v) := fun i v h => by
  unfold start
  have hi : i < vs.length := (List.getElem?_eq_some_iff.mp h).1
  rw [List.getElem?_append_left (by simpa using hi),List.getElem?_map,h]
  rfl
 refine ⟨mu,hmu,?_,fun i d q => ?_,fun i d q => ?_,fun i a q => ?_,fun i j a q1 q2 => ?_,fun i a q => ?_,A.zin,Fr.refl _ _,⟨fun i a q => ((hmu i a).mp q).1,fun i _ => rfl⟩,fun a q => ?_,fun p hp => nomatch hp⟩
 ·unfold start envD
  have := A.len
  simp
  omega
 ·rcases hget i _ q with ⟨e,h1,h2⟩ | h
  ·by_cases hi : i ∈ ml
   ·rw [if_pos hi] at h2;cases h2
   ·rw [if_neg hi] at h2
    cases h2
    obtain ⟨v,e1,r⟩ := A.va i d hi h1
    exact ⟨v,hst i v e1,r.mono hN hN⟩
  ·cases h
 ·rcases hget i _ q with ⟨e,h1,h2⟩ | h
  ·by_cases hi : i ∈ ml
   ·rw [if_pos hi] at h2
    cases h2
    obtain ⟨a,e1,w,_⟩ := A.ow i d hi h1
    exact ⟨a,(hmu i a).mpr ⟨hi,e1⟩,hst i _ e1,w.mono hN⟩
   ·rw [if_neg hi] at h2;cases h2
  ·cases h
 ·obtain ⟨hi,e1⟩ := (hmu i a).mp q
  have hl := A.mem i hi
  refine ⟨ds[i],?_⟩
  unfold envD
  rw [List.getElem?_append_left (by simpa using hl),List.getElem?_mapIdx]
  simp [hl,hi]
 ·exact A.inj i j a ((hmu i a).mp q1).1 ((hmu j a).mp q2).1 ((hmu i a).mp q1).2 ((hmu j a).mp q2).2
 ·obtain ⟨hi,e1⟩ := (hmu i a).mp q
  refine ⟨fun z => ?_,.inl ⟨i,hi,e1⟩⟩
  obtain ⟨a',e2,_,n⟩ := A.ow i (ds[i]'(A.mem i hi)) hi (by simp [A.mem i hi])
  rw [e1] at e2
  cases e2
  exact n z
 ·obtain ⟨i,hi,e1⟩ := q
  obtain ⟨a',e2,w,n⟩ := A.ow i (ds[i]'(A.mem i hi)) hi (by simp [A.mem i hi])
  rw [e1] at e2
  cases e2
  obtain ⟨o,q,_⟩ := w.soft
  exact ⟨o,q⟩
theorem bodyV {N ps : List Str} {vs : List V} {Q : VK} {E : XK} (hps : ps.length <= N.length) (h : spV K ml ps.length (runV N.length ml g) vs H Q E) : TSt K ml g { nx := fun _ H' => Q .non H',rt := Q } (start N vs) H := by
 obtain ⟨Z,ds,r,os,hn,AV,hF,k⟩ := h
 obtain ⟨mu,hmu,S0⟩ := start_sta (N := N) AV (by rw [hn];exact hps)
 unfold runV at hF
 cases h1 : g (envD ml N.length ds) with
 | none => rw [h1] at hF;cases hF
 | some o =>
  rw [h1] at hF
  refine ⟨_,mu,_,o,S0,h1,?_⟩
  have fin : ∀ (δ' : Ev) (v : V) (σ' : St) (H' : Hp) (O' : Nat -> Option Addr),outs ml δ' = some os -> Sta K ml ⟨Z,argP ml vs,H,mu,[]⟩ O' H' σ' δ' -> Rep K (rz ⟨Z,argP ml vs,H,mu,[]⟩) H' (rz ⟨Z,argP ml vs,H,mu,[]⟩) v r -> Q v H' := fun δ' v σ' H' O' ho S' hr' => by
   have hz : ∀ a,Zp Z ml vs a -> rz ⟨Z,argP ml vs,H,mu,[]⟩ a := fun a h => by
    rcases h with h | ⟨i,hi,e⟩
    ·exact .inl h
    ·exact .inr ⟨i,(hmu i a).mpr ⟨hi,e⟩⟩
   refine k v H' S'.frm (fun kk i a o e1 e2 e3 => ?_) (hr'.mono hz hz)
   have hd := outs_get ho kk i o e1 e3
   obtain ⟨a',e4,_,w⟩ := S'.ow i o hd
   have hi : i ∈ ml := List.mem_of_getElem? e1
   have := (S'.par.2 i hi).trans ((hmu i a).mpr ⟨hi,e2⟩)
   rw [this] at e4
   cases e4
   refine w.mono fun b hb => ?_
   rcases hb with hb | ⟨j,hj,e5⟩
   ·exact .inl hb
   ·exact .inr ⟨j,(S'.par.2 j hj).trans ((hmu j b).mpr ⟨hj,e5⟩)⟩
  cases o with
  | rt d δ' =>
   have hF : (outs ml δ').map (fun os => (d,os)) = some (r,os) := hF
   cases h2 : outs ml δ' with
   | none => rw [h2] at hF;cases hF
   | some os' =>
    rw [h2] at hF
    cases hF
    exact fun v σ' H' O' S' hr' => fin δ' v σ' H' O' h2 S' hr'
  | nx δ' =>
   have hF : (outs ml δ').map (fun os => (Dat.non,os)) = some (r,os) := hF
   cases h2 : outs ml δ' with
   | none => rw [h2] at hF;cases hF
   | some os' =>
    rw [h2] at hF
    cases hF
    exact fun σ' H' O' S' => fin δ' .non σ' H' O' h2 S' .non
  | bk δ' => cases hF
  | ct δ' => cases hF
theorem Fun.okV {P : Program} {w : World} {mg : Str -> Option Value} {base : Heap} {x qual : Str} {st : Stmt} {f : Addr} {fd : FuncData} {N ps : List Str} {k : Nat} (F : Fun K x qual st f fd) (S : FnScope N ps (defScope st)) (hps : ps.length <= N.length)
  (hbody : ∀ (cdv : Value) (A : Around) (outer : List Env) (s : Shared) (H : Hp) (E : XK),Room k (A.deeper (envOfC qual (defScope st) s.heap.objs.size f cdv)) →
   PSs (cxOf CX0 P w K mg base N qual (defScope st) f cdv A outer s H E).nox (defBody st) (TSt K ml g)) : FnOk P w K mg base CX0 (k + 1) f fd ps (spV K ml ps.length (runV N.length ml g)) := by
 refine F.ok S (fun vs H Q E h => ?_) (fun cdv A outer s H vs Q E hr h => ⟨_,hbody cdv A outer s H E hr,bodyV hps h⟩)
 obtain ⟨Z,ds,r,os,hn,AV,_⟩ := h
 rw [AV.len,hn]
inductive AV where
 | d (d : Dat) | o (j : Nat)
inductive RepG (K : PySem.W.Frag) (N : Addr -> Prop) (H : Hp) (σ : St) : List V -> List AV -> Prop
 | nil : RepG K N H σ [] []
 | d {v : V} {vs : List V} {d : Dat} {as : List AV} : Rep K N H N v d -> RepG K N H σ vs as -> RepG K N H σ (v :: vs) (.d d :: as)
 | o {v : V} {vs : List V} {j : Nat} {as : List AV} : σ[j]? = some (some v) -> RepG K N H σ vs as -> RepG K N H σ (v :: vs) (.o j :: as)
abbrev VFg := Ev -> Option (List AV × Ev)
structure ResG (K : PySem.W.Frag) (ml : List Nat) (B : Bs) (O : Nat -> Option Addr) (H : Hp) (σ : St) (pu : Bool) (H' : Hp) (δ' : Ev) (vs : List V) (as : List AV) : Prop where
 sta : Sta K ml B O H' σ δ'
 frm : Fr (OA O) H H'
 pur : pu = true -> Same H H'
 rep : RepG K (Nn B O) H' σ vs as
def TAG (K : PySem.W.Frag) (ml : List Nat) (pu : Bool) (f : VFg) : TA := fun σ H Q => ∃ B O δ as δ',Sta K ml B O H σ δ /\ f δ = some (as,δ') /\ ∀ vs H',ResG K ml B O H σ pu H' δ' vs as -> Q vs H'
def aNil : VFg := fun δ => some ([],δ)
def aE (f : VF) (fs : VFg) : VFg := fun δ => (f δ).bind fun p => (fs p.2).map fun q => (.d p.1 :: q.1,q.2)
def slot (δ : Ev) (j : Nat) : Option Dat := match δ[j]? with
 | some (.va d) => some d
 | some (.ow d) => some d
 | _ => none
def aO (j : Nat) (fs : VFg) : VFg := fun δ => (slot δ j).bind fun _ => (fs δ).map fun q => (.o j :: q.1,q.2)
theorem vga_nil : PA X [] (TAG K ml true aNil) := pa_nil.imp fun σ H Q ⟨B,O,δ,d,δ',S,q,k⟩ => by
 cases q
 exact k [] H ⟨S,Fr.refl _ _,fun _ => Same.refl _,.nil⟩
theorem vga_e {fs : VFg} (ha : PE X a (TV K ml pa true true fa)) (hr : PA X es (TAG K ml ps fs)) (hs : starEach (a :: es) X.env = (false,eval a X.env) :: starEach es X.env := by rfl) : PA X (a :: es) (TAG K ml (pa && ps) (aE fa fs)) := (pa_cons ha hr hs).imp fun σ H Q ⟨B,O,δ,as,δ2,S,q,k⟩ => by
 unfold aE at q
 cases h1 : fa δ with
 | none => rw [h1] at q;cases q
 | some p =>
  obtain ⟨x,δ1⟩ := p
  rw [h1] at q
  have q : ((fs δ1).map fun q => (AV.d x :: q.1,q.2)) = some (as,δ2) := q
  cases h2 : fs δ1 with
  | none => rw [h2] at q;cases q
  | some p2 =>
   rw [h2] at q
   cases q
   refine ⟨B,O,δ,x,δ1,S,h1,fun v1 H1 R1 => ⟨B,O,δ1,_,_,R1.sta,h2,fun vs H2 R2 => k _ H2 ⟨R2.sta,R1.frm.trans R2.frm,fun z => ?_,.d (R1.rep.fr R2.frm (fun a z => .inr z) fun a z => .inr z) R2.rep⟩⟩⟩
   obtain ⟨z1,z2⟩ := (Bool.and_eq_true _ _).mp z
   exact (R1.pur z1).trans (R2.pur z2)
theorem slot_some {j : Nat} {d : Dat} (h : slot δ j = some d) : δ[j]? = some (.va d) ∨ δ[j]? = some (.ow d) := by
 unfold slot at h
 split at h
 ·cases h;exact .inl (by assumption)
 ·cases h;exact .inr (by assumption)
 ·cases h
theorem Sta.slot (S : Sta K ml B O H σ δ) {j : Nat} {d : Dat} (h : slot δ j = some d) : ∃ v,σ[j]? = some (some v) := by
 rcases slot_some h with h | h
 ·obtain ⟨v,e,_⟩ := S.va j d h
  exact ⟨v,e⟩
 ·obtain ⟨a,_,e,_⟩ := S.ow j d h
  exact ⟨_,e⟩
theorem vga_o {fs : VFg} {j : Nat} (ha : PE X a (tVar j)) (hr : PA X es (TAG K ml ps fs)) (hs : starEach (a :: es) X.env = (false,eval a X.env) :: starEach es X.env := by rfl) : PA X (a :: es) (TAG K ml ps (aO j fs)) := (pa_cons ha hr hs).imp fun σ H Q ⟨B,O,δ,as,δ2,S,q,k⟩ => by
 unfold aO at q
 cases h1 : slot δ j with
 | none => rw [h1] at q;cases q
 | some d =>
  rw [h1] at q
  have q : ((fs δ).map fun q => (AV.o j :: q.1,q.2)) = some (as,δ2) := q
  cases h2 : fs δ with
  | none => rw [h2] at q;cases q
  | some p2 =>
   rw [h2] at q
   cases q
   obtain ⟨v,e⟩ := S.slot h1
   exact ⟨v,e,B,O,δ,_,_,S,h2,fun vs H2 R2 => k _ H2 ⟨R2.sta,R2.frm,R2.pur,.o e R2.rep⟩⟩
theorem RepG.length : ∀ {N : Addr -> Prop} {vs : List V} {as : List AV},RepG K N H σ vs as -> vs.length = as.length
 | _,_,_,.nil => rfl
 | _,_,_,.d _ t => congrArg (· + 1) (RepG.length t)
 | _,_,_,.o _ t => congrArg (· + 1) (RepG.length t)
theorem RepG.getD : ∀ {N : Addr -> Prop} {vs : List V} {as : List AV} {i : Nat} {d : Dat},RepG K N H σ vs as -> as[i]? = some (.d d) -> ∃ v,vs[i]? = some v /\ Rep K N H N v d
 | _,_,_,_,_,.nil,e => by simp at e
 | _,_,_,0,_,.d h _,e => by simp at e;subst e;exact ⟨_,rfl,h⟩
 | _,_,_,0,_,.o h _,e => by simp at e
 | _,_,_,i + 1,_,.d _ t,e => by
  obtain ⟨u,h1,h2⟩ := RepG.getD (i := i) t (by simpa using e)
  exact ⟨u,by simpa using h1,h2⟩
 | _,_,_,i + 1,_,.o _ t,e => by
  obtain ⟨u,h1,h2⟩ := RepG.getD (i := i) t (by simpa using e)
  exact ⟨u,by simpa using h1,h2⟩
theorem RepG.getO : ∀ {N : Addr -> Prop} {vs : List V} {as : List AV} {i j : Nat},RepG K N H σ vs as -> as[i]? = some (.o j) -> ∃ v,vs[i]? = some v /\ σ[j]? = some (some v)
 | _,_,_,_,_,.nil,e => by simp at e
 | _,_,_,0,_,.d h _,e => by simp at e
 | _,_,_,0,_,.o h _,e => by simp at e;subst e;exact ⟨_,rfl,h⟩
 | _,_,_,i + 1,_,.d _ t,e => by
  obtain ⟨u,h1,h2⟩ := RepG.getO (i := i) t (by simpa using e)
  exact ⟨u,by simpa using h1,h2⟩
 | _,_,_,i + 1,_,.o _ t,e => by
  obtain ⟨u,h1,h2⟩ := RepG.getO (i := i) t (by simpa using e)
  exact ⟨u,by simpa using h1,h2⟩
def argD (δ : Ev) : AV -> Option Dat
 | .d d => some d
 | .o j => slot δ j
def argDs (δ : Ev) : List AV -> Option (List Dat)
 | [] => some []
 | a :: as => (argD δ a).bind fun d => (argDs δ as).map fun ds => d :: ds
theorem argDs_get : ∀ {as : List AV} {ds : List Dat},argDs δ as = some ds -> as.length = ds.length /\ ∀ (i : Nat) (d : Dat),ds[i]? = some d -> ∃ a,as[i]? = some a /\ argD δ a = some d
 | [],ds,h => by cases h;exact ⟨rfl,fun i d e => by simp at e⟩
 | a :: as,ds,h => by
  unfold argDs at h
  cases h1 : argD δ a with
  | none => rw [h1] at h;cases h
  | some d =>
   rw [h1] at h
   cases h2 : argDs δ as with
   | none => simp [h2] at h
   | some ds' =>
    simp only [Option.bind_some,h2] at h
    cases h
    obtain ⟨l,g⟩ := argDs_get h2
    refine ⟨by simp [l],fun i e he => ?_⟩
    cases i with
    | zero => cases he;exact ⟨a,rfl,h1⟩
    | succ i =>
     obtain ⟨b,e1,e2⟩ := g i e (by simpa using he)
     exact ⟨b,by simpa using e1,e2⟩
def jsOf : List AV -> List Nat
 | [] => []
 | .d _ :: as => jsOf as
 | .o j :: as => j :: jsOf as
theorem js_mem : ∀ {as : List AV} {i j : Nat},as[i]? = some (.o j) -> j ∈ jsOf as
 | [],_,_,e => by simp at e
 | .d _ :: as,0,j,e => by simp at e
 | .o k :: as,0,j,e => by simp at e;subst e;exact List.mem_cons_self
 | .d _ :: as,i + 1,j,e => js_mem (as := as) (i := i) (by simpa using e)
 | .o k :: as,i + 1,j,e => List.mem_cons_of_mem _ (js_mem (as := as) (i := i) (by simpa using e))
theorem js_of : ∀ {as : List AV} {j : Nat},j ∈ jsOf as -> ∃ i : Nat,as[i]? = some (AV.o j)
 | [],_,h => nomatch h
 | .d _ :: as,j,h => by
  obtain ⟨i,e⟩ := js_of (as := as) h
  exact ⟨i + 1,by simpa using e⟩
 | .o k :: as,j,h => by
  rcases List.mem_cons.mp h with e | e
  ·exact ⟨0,by rw [e];rfl⟩
  ·obtain ⟨i,e⟩ := js_of (as := as) e
   exact ⟨i + 1,by simpa using e⟩
theorem js_inj : ∀ {as : List AV} {i k j : Nat},(jsOf as).Nodup -> as[i]? = some (.o j) -> as[k]? = some (.o j) -> i = k
 | [],_,_,_,_,e,_ => by simp at e
 | .d _ :: as,0,_,j,_,e,_ => by simp at e
 | .d _ :: as,_ + 1,0,j,_,_,e => by simp at e
 | .d _ :: as,i + 1,k + 1,j,n,e1,e2 => congrArg (· + 1) (js_inj (as := as) n (by simpa using e1) (by simpa using e2))
 | .o x :: as,0,0,j,_,_,_ => rfl
 | .o x :: as,0,k + 1,j,n,e1,e2 => by
  simp at e1
  subst e1
  have h : as[k]? = some (.o x) := by simpa using e2
  exact absurd (js_mem h) (List.nodup_cons.mp n).1
 | .o x :: as,i + 1,0,j,n,e1,e2 => by
  simp at e2
  subst e2
  have h : as[i]? = some (.o x) := by simpa using e1
  exact absurd (js_mem h) (List.nodup_cons.mp n).1
 | .o x :: as,i + 1,k + 1,j,n,e1,e2 => congrArg (· + 1) (js_inj (as := as) (List.nodup_cons.mp n).2 (by simpa using e1) (by simpa using e2))
def mutOk (δ : Ev) (as : List AV) (i : Nat) : Bool := match as[i]? with
 | some (.o j) => match δ[j]? with
  | some (.ow _) => true
  | _ => false
 | _ => false
def allMu (mF : List Nat) : List AV -> Nat -> Bool
 | [],_ => true
 | .d _ :: as,i => allMu mF as (i + 1)
 | .o _ :: as,i => decide (i ∈ mF) && allMu mF as (i + 1)
theorem allMu_get {mF : List Nat} : ∀ {as : List AV} {k i j : Nat},allMu mF as k = true -> as[i]? = some (.o j) -> k + i ∈ mF
 | [],_,_,_,_,e => by simp at e
 | .d _ :: as,k,0,j,h,e => by simp at e
 | .o _ :: as,k,0,j,h,e => by
  simp only [allMu,Bool.and_eq_true,decide_eq_true_eq] at h
  exact h.1
 | .d _ :: as,k,i + 1,j,h,e => by
  have := allMu_get (as := as) (k := k + 1) (i := i) (j := j) h (by simpa using e)
  rwa [show k + (i + 1) = k + 1 + i by omega]
 | .o _ :: as,k,i + 1,j,h,e => by
  simp only [allMu,Bool.and_eq_true] at h
  have := allMu_get (as := as) (k := k + 1) (i := i) (j := j) h.2 (by simpa using e)
  rwa [show k + (i + 1) = k + 1 + i by omega]
def kidsHard : Dat -> Bool
 | .lst ds => hards ds
 | .dct _ ds => hards ds
 | _ => false
theorem Own.kids {N N' : Addr -> Prop} {a : Addr} (w : Own K N H a d) (h : kidsHard d = true) : Own K N' H a d := by
 cases w with
 | lst q r => exact .lst q (r.hard h)
 | dct q r => exact .dct q (r.hard h)
def putO (as : List AV) : List Nat -> List Dat -> Ev -> Ev
 | i :: is,o :: os,δ => match as[i]? with
  | some (.o j) => putO as is os (δ.set j (.ow o))
  | _ => putO as is os δ
 | _,_,δ => δ
theorem putO_len {as : List AV} : ∀ {is : List Nat} {os : List Dat} {δ : Ev},(putO as is os δ).length = δ.length
 | [],_,_ => rfl
 | _ :: _,[],_ => rfl
 | i :: is,o :: os,δ => by
  unfold putO
  split
  ·rw [putO_len,List.length_set]
  ·rw [putO_len]
theorem putO_get {as : List AV} : ∀ {is : List Nat} {os : List Dat} {δ : Ev} (j : Nat),is.length = os.length -> j < δ.length →
  (∃ (k i : Nat) (o : Dat),is[k]? = some i /\ os[k]? = some o /\ as[i]? = some (AV.o j) /\ (putO as is os δ)[j]? = some (Sl.ow o)) ∨ ((∀ i ∈ is,as[i]? ≠ some (AV.o j)) /\ (putO as is os δ)[j]? = δ[j]?)
 | [],[],δ,j,_,_ => .inr ⟨(fun i h => nomatch h),rfl⟩
 | i :: is,o :: os,δ,j,hl,hj => by
  unfold putO
  split
  ·rename_i j0 e0
   rcases putO_get (is := is) (os := os) (δ := δ.set j0 (.ow o)) j (by simpa using hl) (by rw [List.length_set];exact hj) with ⟨k,i',o',h1,h2,h3,h4⟩ | ⟨h1,h2⟩
   ·exact .inl ⟨k + 1,i',o',by simpa using h1,by simpa using h2,h3,h4⟩
   ·by_cases hjj : j = j0
    ·subst hjj
     rw [List.getElem?_set_self hj] at h2
     exact .inl ⟨0,i,o,rfl,rfl,e0,h2⟩
    ·rw [List.getElem?_set_ne (Ne.symm hjj)] at h2
     refine .inr ⟨fun i' hi' => ?_,h2⟩
     rcases List.mem_cons.mp hi' with z | z
     ·rw [z,e0]
      intro w
      cases w
      exact hjj rfl
     ·exact h1 i' z
  ·rename_i hn
   rcases putO_get (is := is) (os := os) (δ := δ) j (by simpa using hl) hj with ⟨k,i',o',h1,h2,h3,h4⟩ | ⟨h1,h2⟩
   ·exact .inl ⟨k + 1,i',o',by simpa using h1,by simpa using h2,h3,h4⟩
   ·refine .inr ⟨fun i' hi' => ?_,h2⟩
    rcases List.mem_cons.mp hi' with z | z
    ·rw [z]
     exact fun w => hn j w
    ·exact h1 i' z
def callOk (mF : List Nat) (as : List AV) (δ : Ev) : Bool := mF.all (mutOk δ as) && decide (jsOf as).Nodup
def backOk (mF : List Nat) (as : List AV) (r : Dat) (os : List Dat) : Bool := (allMu mF as 0 || r.hard) && (allMu mF as 0 || os.all kidsHard) && decide (mF.length = os.length)
def fCall (n : Nat) (mF : List Nat) (F : VFun) (fs : VFg) : VF := fun δ => (fs δ).bind fun p => (argDs p.2 p.1).bind fun ds => if ds.length = n /\ callOk mF p.1 p.2 = true then (F ds).bind fun q => if backOk mF p.1 q.1 q.2 = true then some (q.1,putO p.1 mF q.2 p.2) else none else none
theorem tv_call {n : Nat} {mF : List Nat} {F : VFun} {fs : VFg} {Q : VK} (h : TV K ml (ps && mF.isEmpty) true true (fCall n mF F fs) σ H Q) : tCall (spV K mF n F) [] E0 (TAG K ml ps fs) σ H Q := by
 obtain ⟨B,O,δ,d,δ2,S,q,k⟩ := h
 unfold fCall at q
 cases h1 : fs δ with
 | none => rw [h1] at q;cases q
 | some p =>
  obtain ⟨as,δ1⟩ := p
  rw [h1] at q
  have q : ((argDs δ1 as).bind fun ds => if ds.length = n /\ callOk mF as δ1 = true then (F ds).bind fun q => if backOk mF as q.1 q.2 = true then some (q.1,putO as mF q.2 δ1) else none else none) = some (d,δ2) := q
  cases h2 : argDs δ1 as with
  | none => rw [h2] at q;cases q
  | some ds =>
   rw [h2] at q
   have q : (if ds.length = n /\ callOk mF as δ1 = true then (F ds).bind fun q => if backOk mF as q.1 q.2 = true then some (q.1,putO as mF q.2 δ1) else none else none) = some (d,δ2) := q
   split at q
   ·rename_i hc
    cases h3 : F ds with
    | none => rw [h3] at q;cases q
    | some z =>
     obtain ⟨r,os⟩ := z
     rw [h3] at q
     have q : (if backOk mF as r os = true then some (r,putO as mF os δ1) else none) = some (d,δ2) := q
     split at q
     ·rename_i hb
      cases q
      obtain ⟨hn,hc⟩ := hc
      simp only [callOk,Bool.and_eq_true,decide_eq_true_eq,List.all_eq_true] at hc
      simp only [backOk,Bool.and_eq_true,decide_eq_true_eq] at hb
      obtain ⟨hmu,hnd⟩ := hc
      obtain ⟨⟨hres,hkid⟩,hlen⟩ := hb
      refine ⟨B,O,δ,as,δ1,S,h1,fun vs H1 R => ?_⟩
      show spV K mF n F (vs ++ []) H1 Q E0
      rw [List.append_nil]
      obtain ⟨hal,hag⟩ := argDs_get h2
      have hm : ∀ i ∈ mF,∃ j a x,as[i]? = some (.o j) /\ δ1[j]? = some (.ow x) /\ O j = some a /\ vs[i]? = some (.ref a) /\ Own K (Nn B O) H1 a x := fun i hi => by
       have := hmu i hi
       unfold mutOk at this
       split at this
       ·rename_i j ej
        split at this
        ·rename_i x ex
         obtain ⟨a,e1,e2,w⟩ := R.sta.ow j x ex
         obtain ⟨v,e3,e4⟩ := R.rep.getO ej
         rw [e2] at e4
         cases e4
         exact ⟨j,a,x,ej,ex,e1,e3,w⟩
        ·cases this
       ·cases this
      have hP : ∀ a,argP mF vs a -> ∃ i j,i ∈ mF /\ as[i]? = some (.o j) /\ O j = some a := fun a ⟨i,hi,e⟩ => by
       obtain ⟨j,a',x,e1,_,e2,e3,_⟩ := hm i hi
       rw [e] at e3
       cases e3
       exact ⟨i,j,hi,e1,e2⟩
      have hPO : ∀ a,argP mF vs a -> OA O a := fun a h => by
       obtain ⟨i,j,_,_,e⟩ := hP a h
       exact ⟨j,e⟩
      have hZp : ∀ a,Zp (fun a => Nn B O a /\ ∀ j ∈ jsOf as,O j ≠ some a) mF vs a -> Nn B O a := fun a h => by
       rcases h with h | h
       ·exact h.1
       ·exact .inr (hPO a h)
      refine ⟨fun a => Nn B O a /\ ∀ j ∈ jsOf as,O j ≠ some a,ds,_,os,hn,⟨by rw [<- hal,R.rep.length],fun i hi => ?_,fun i x hi e => ?_,fun i x hi e => ?_,fun i j a hi hj e1 e2 => ?_,fun a h => R.sta.nin h.1⟩,h3,fun v H2 f2 w2 r2 => ?_⟩
      ·obtain ⟨j,a,x,e1,_⟩ := hm i hi
       rw [<- hal]
       exact (List.getElem?_eq_some_iff.mp e1).1
      ·obtain ⟨a,e1,e2⟩ := hag i x e
       cases a with
       | d y =>
        cases e2
        obtain ⟨v,e3,r⟩ := R.rep.getD e1
        exact ⟨v,e3,r.mono hZp hZp⟩
       | o j =>
        obtain ⟨v,e3,e4⟩ := R.rep.getO e1
        refine ⟨v,e3,?_⟩
        rcases slot_some e2 with e5 | e5
        ·obtain ⟨v',e6,r⟩ := R.sta.va j x e5
         rw [e4] at e6
         cases e6
         exact r.mono hZp hZp
        ·obtain ⟨a,e7,e6,w⟩ := R.sta.ow j x e5
         rw [e4] at e6
         cases e6
         refine (w.mono hZp).rep fun z => ?_
         rcases z with z | z
         ·exact z.2 j (js_mem e1) e7
         ·obtain ⟨i',j',hi',e8,e9⟩ := hP a z
          have : j = j' := R.sta.inj j j' a e7 e9
          subst this
          have := js_inj hnd e1 e8
          subst this
          exact hi hi'
      ·obtain ⟨a,e1,e2⟩ := hag i x e
       obtain ⟨j,b,y,e3,e4,e5,e6,w⟩ := hm i hi
       rw [e3] at e1
       cases e1
       have e7 : slot δ1 j = some y := by unfold slot;rw [e4]
       have e2 : slot δ1 j = some x := e2
       rw [e7] at e2
       cases e2
       exact ⟨b,e6,w.mono hZp,fun z => z.2 j (js_mem e3) e5⟩
      ·obtain ⟨j1,b1,_,e3,_,e4,e5,_⟩ := hm i hi
       obtain ⟨j2,b2,_,e6,_,e7,e8,_⟩ := hm j hj
       rw [e1] at e5
       cases e5
       rw [e2] at e8
       cases e8
       have : j1 = j2 := R.sta.inj j1 j2 a e4 e7
       subst this
       exact js_inj hnd e3 e6
      ·have S2 : Sta K ml B O H2 σ (putO as mF os δ1) := by
        refine R.sta.call putO_len (fun j => ?_) f2 hPO
        by_cases hj : j < δ1.length
        ·rcases putO_get (as := as) (is := mF) (os := os) (δ := δ1) j hlen hj with ⟨kk,i,o,e1,e2,e3,e4⟩ | ⟨e1,e2⟩
         ·obtain ⟨j',a,x,e5,_,e6,e7,_⟩ := hm i (List.mem_of_getElem? e1)
          rw [e3] at e5
          cases e5
          have w := w2 kk i a o e1 e7 e2
          refine .inr ⟨a,o,e6,e4,?_⟩
          rcases (Bool.or_eq_true _ _).mp hkid with z | z
          ·refine w.mono fun b hb => ?_
           by_cases hjs : ∃ j' ∈ jsOf as,O j' = some b
           ·obtain ⟨j',hj',e8⟩ := hjs
            obtain ⟨i',e9⟩ := js_of hj'
            have hi' := allMu_get z e9
            rw [Nat.zero_add] at hi'
            obtain ⟨j'',a'',_,e10,_,e11,e12,_⟩ := hm i' hi'
            rw [e9] at e10
            cases e10
            rw [e8] at e11
            cases e11
            exact .inr ⟨i',hi',e12⟩
           ·exact .inl ⟨hb,fun j' hj' e => hjs ⟨j',hj',e⟩⟩
          ·exact w.kids (List.all_eq_true.mp z o (List.mem_of_getElem? e2))
         ·refine .inl ⟨e2,fun a ea hPa => ?_⟩
          obtain ⟨i,j',hi,e3,e4⟩ := hP a hPa
          have : j = j' := R.sta.inj j j' a ea e4
          subst this
          exact e1 i hi e3
        ·refine .inl ⟨?_,fun a ea => ?_⟩
         ·rw [List.getElem?_eq_none (by rw [putO_len];omega),List.getElem?_eq_none (by omega)]
         ·obtain ⟨x,ex⟩ := R.sta.dom j a ea
          exact absurd (List.getElem?_eq_some_iff.mp ex).1 hj
       refine k v H2 ⟨S2,R.frm.trans (f2.mono hPO),fun z => ?_,?_⟩
       ·obtain ⟨z1,z2⟩ := (Bool.and_eq_true _ _).mp z
        refine (R.pur z1).trans fun b o e => f2 b o e fun w => ?_
        obtain ⟨i,hi,_⟩ := w
        rw [List.isEmpty_iff.mp z2] at hi
        cases hi
       ·rcases (Bool.or_eq_true _ _).mp hres with z | z
        ·have hN : ∀ a,Nn B O a -> Zp (fun a => Nn B O a /\ ∀ j ∈ jsOf as,O j ≠ some a) mF vs a := fun b hb => by
          by_cases hjs : ∃ j' ∈ jsOf as,O j' = some b
          ·obtain ⟨j',hj',e8⟩ := hjs
           obtain ⟨i',e9⟩ := js_of hj'
           have hi' := allMu_get z e9
           rw [Nat.zero_add] at hi'
           obtain ⟨j'',a'',_,e10,_,e11,e12,_⟩ := hm i' hi'
           rw [e9] at e10
           cases e10
           rw [e8] at e11
           cases e11
           exact .inr ⟨i',hi',e12⟩
          ·exact .inl ⟨hb,fun j' hj' e => hjs ⟨j',hj',e⟩⟩
         exact r2.mono hN hN
        ·exact r2.hard z
     ·cases q
   ·cases q
theorem ve_call {x : Str} {kk j n : Nat} {qs : List Str} {mF : List Nat} {F : VFun} {ff : Addr} {p' : Pos} {fs : VFg} (hK : X.K = K) (D : Def X.prog X.w K X.mg X.base x kk qs (spV K mF n F) ff) (hr : Room j X.A) (hk : kk <= j) (hg : Gl X x) (ha : PA X (e :: es) (TAG K ml ps fs)) (hdb : (x == ("__debug__" : Str)) = false := by decide)
  (he : starEach (e :: es) X.env = (false,eval e X.env) :: starEach es X.env := by rfl) (hpl : (backTo pos (starEach es X.env)).any (·.1) = false := by rfl) :
  PE X (.Call (.Name x p') (e :: es) [] pos) (TV K ml (ps && mF.isEmpty) true true (fCall n mF F fs)) := by
 subst hK
 exact (pe_callD D hr hk hg ha hdb he hpl).imp fun _ _ _ h => tv_call h
end
end L2
namespace L2
open PySem PySem.Spec PyProof.Rows
section
variable {X : Cx} {K : PySem.W.Frag} {ml : List Nat} {e a b c : Expr} {es : List Expr} {pi pt pe pu bt bi ps bs : Bool} {f : VF} {B B' : Bs} {O : Nat -> Option Addr} {H H0 H1 H' : Hp} {σ : St} {δ δ' : Ev} {v : V} {d : Dat} {p : Addr} {pos : Pos} {ix : List Nat} {nl : Nat}
def capsD (ix : List Nat) (δ : Ev) : Ev := ix.map fun i => (δ[i]?).getD .no
def nos (nl : Nat) : Ev := List.replicate nl Sl.no
def compV (n nl : Nat) (gg : VG) (tb : VB) (fe : VF) : List Dat -> List Dat -> Ev -> Option (List Dat × Ev)
 | [],acc,δ => some (acc,δ)
 | d :: r,acc,δ => (gg d (δ ++ nos nl)).bind fun δ1 => (tb δ1).bind fun p => if p.1 = true then (fe p.2).bind fun q => if acc.length < 16777216 then compV n nl gg tb fe r (acc ++ [q.1]) (q.2.take n) else none else compV n nl gg tb fe r acc (p.2.take n)
def backD : List Nat -> Ev -> Ev -> Ev
 | i :: is,s :: ss,δ => match s with
  | .ow d => backD is ss (δ.set i (.ow d))
  | _ => backD is ss δ
 | _,_,δ => δ
def fComp (ix : List Nat) (nl : Nat) (fi : VI) (gg : VG) (tb : VB) (fe : VF) : VF := fun δ => (fi δ).bind fun p => (compV ix.length nl gg tb fe p.1 [] (capsD ix p.2)).map fun q => (.lst q.1,backD ix q.2 p.2)
def bYes : VB := fun δ => some (true,δ)
theorem backD_len : ∀ {ix : List Nat} {ss δ : Ev},(backD ix ss δ).length = δ.length
 | [],_,_ => rfl
 | _ :: _,[],_ => rfl
 | i :: is,s :: ss,δ => by
  cases s <;> simp only [backD] <;> rw [backD_len] <;> try rw [List.length_set]
theorem backD_get : ∀ {ix : List Nat} {ss δ : Ev} (i : Nat),i < δ.length -> ix.length = ss.length →
  (∃ (j : Nat) (d : Dat),ix[j]? = some i /\ ss[j]? = some (Sl.ow d) /\ (backD ix ss δ)[i]? = some (Sl.ow d)) ∨ ((∀ (j : Nat) (d : Dat),ix[j]? = some i -> ss[j]? ≠ some (Sl.ow d)) /\ (backD ix ss δ)[i]? = δ[i]?)
 | [],ss,δ,i,hi,hl => .inr ⟨(fun j d h => by simp at h),rfl⟩
 | k :: is,[],δ,i,hi,hl => by cases hl
 | k :: is,s :: ss,δ,i,hi,hl => by
  have hl2 : is.length = ss.length := by simpa using hl
  cases s with
  | ow d =>
   simp only [backD]
   rcases backD_get (ix := is) (ss := ss) (δ := δ.set k (.ow d)) i (by rw [List.length_set];exact hi) hl2 with ⟨j,d',h1,h2,h3⟩ | ⟨h1,h2⟩
   ·exact .inl ⟨j + 1,d',by simpa using h1,by simpa using h2,h3⟩
   ·by_cases hk : i = k
    ·subst hk
     rw [List.getElem?_set_self hi] at h2
     exact .inl ⟨0,d,rfl,rfl,h2⟩
    ·rw [List.getElem?_set_ne (Ne.symm hk)] at h2
     refine .inr ⟨fun j d' e => ?_,h2⟩
     cases j with
     | zero => cases e;exact absurd rfl hk
     | succ j => simpa using h1 j d' (by simpa using e)
  | va d =>
   simp only [backD]
   rcases backD_get (ix := is) (ss := ss) (δ := δ) i hi hl2 with ⟨j,d',h1,h2,h3⟩ | ⟨h1,h2⟩
   ·exact .inl ⟨j + 1,d',by simpa using h1,by simpa using h2,h3⟩
   ·refine .inr ⟨fun j d' e => ?_,h2⟩
    cases j with
    | zero => simp
    | succ j => simpa using h1 j d' (by simpa using e)
  | no =>
   simp only [backD]
   rcases backD_get (ix := is) (ss := ss) (δ := δ) i hi hl2 with ⟨j,d',h1,h2,h3⟩ | ⟨h1,h2⟩
   ·exact .inl ⟨j + 1,d',by simpa using h1,by simpa using h2,h3⟩
   ·refine .inr ⟨fun j d' e => ?_,h2⟩
    cases j with
    | zero => simp
    | succ j => simpa using h1 j d' (by simpa using e)
def Oc (ix : List Nat) (O : Nat -> Option Addr) : Nat -> Option Addr := fun j => (ix[j]?).bind O
def Bc (ix : List Nat) (B : Bs) (O : Nat -> Option Addr) (H0 : Hp) (D : Addr) (kp : List (V × Dat)) : Bs :=
 ⟨fun a => (B.Z a ∨ a = D) ∨ ∃ i,O i = some a /\ i ∉ ix,OA (Oc ix O),H0,Oc ix O,kp⟩
theorem nn_bc {D : Addr} {kp : List (V × Dat)} : ∀ a,Nn (Bc ix B O H0 D kp) (Oc ix O) a -> Nn B O a ∨ a = D := fun a h => by
 rcases h with ((h | h) | ⟨i,h,_⟩) | ⟨j,h⟩
 ·exact .inl (.inl h)
 ·exact .inr h
 ·exact .inl (.inr ⟨i,h⟩)
 ·unfold Oc at h
  cases q : ix[j]? with
  | none => rw [q] at h;cases h
  | some i => rw [q] at h;exact .inl (.inr ⟨i,h⟩)
theorem nn_bc' {D : Addr} {kp : List (V × Dat)} : ∀ a,Nn (B.add D) O a -> Nn (Bc ix B O H0 D kp) (Oc ix O) a := fun a h => by
 rcases h with h | ⟨i,h⟩
 ·exact .inl (.inl h)
 ·by_cases hi : i ∈ ix
  ·obtain ⟨j,hj⟩ := List.mem_iff_getElem?.mp hi
   exact .inr ⟨j,by unfold Oc;rw [hj];exact h⟩
  ·exact .inl (.inr ⟨i,h,hi⟩)
theorem Sta.withKp {kp : List (V × Dat)} (S : Sta K ml B O H σ δ) (h : ∀ p ∈ kp,Rep K (Nn B O) H (Nn B O) p.1 p.2) : Sta K ml { B with kp := kp } O H σ δ :=
 ⟨S.len,S.va,S.ow,S.dom,S.inj,S.old,S.zin,S.frm,S.par,S.pin,h⟩
theorem Sta.writeZ {D : Addr} {o : HO} {acc : List V} (S : Sta K ml B O H σ δ) (hD : B.Z D) (hl : H D = some (.lst acc)) (h0 : B.H0 D = none) : Sta K ml B O (upd H D o) σ δ := by
 have hf : Fr (fun b => b = D) H (upd H D o) := fun b u q n => by
  by_cases hb : b = D
  ·subst hb
   rw [hl] at q
   cases q
   exact absurd (n rfl) fun z => z
  ·rw [upd_ne hb]
   exact q
 have hN : ∀ b,b = D -> Nn B O b := fun b z => .inl (z ▸ hD)
 have hin : ∀ b,(∃ u,H b = some u) -> ∃ u,upd H D o b = some u := fun b ⟨u,q⟩ => by
  by_cases hb : b = D
  ·exact ⟨o,by rw [hb];exact upd_same⟩
  ·exact ⟨u,by rw [upd_ne hb];exact q⟩
 refine ⟨S.len,fun i d q => ?_,fun i d q => ?_,S.dom,S.inj,S.old,fun b h => hin b (S.zin b h),fun b u q n => ?_,S.par,fun b h => hin b (S.pin b h),fun p hp => (S.kep p hp).fr hf hN hN⟩
 ·obtain ⟨v,e,r⟩ := S.va i d q
  exact ⟨v,e,r.fr hf hN hN⟩
 ·obtain ⟨a,e,e2,w⟩ := S.ow i d q
  exact ⟨a,e,e2,w.fr hf hN fun z => (S.old i a e).1 (z ▸ hD)⟩
 ·have hb : b ≠ D := fun z => by rw [z,h0] at q;cases q
  rw [upd_ne hb]
  exact S.frm b u q n
theorem capsD_get {j : Nat} {s : Sl} (h : (capsD ix δ ++ nos nl)[j]? = some s) : (∃ i,ix[j]? = some i /\ s = (δ[i]?).getD .no) ∨ s = .no := by
 unfold capsD nos at h
 by_cases hj : j < ix.length
 ·rw [List.getElem?_append_left (by simpa using hj),List.getElem?_map] at h
  cases q : ix[j]? with
  | none => rw [q] at h;cases h
  | some i => rw [q] at h;cases h;exact .inl ⟨i,rfl,rfl⟩
 ·rw [List.getElem?_append_right (by simpa using hj),List.getElem?_replicate] at h
  split at h
  ·cases h;exact .inr rfl
  ·cases h
theorem caps_get {i j : Nat} {v : V} (hi : ix[j]? = some i) (h : σ[i]? = some (some v)) : (caps ix σ ++ List.replicate nl none)[j]? = some (some v) := by
 have hj : j < ix.length := (List.getElem?_eq_some_iff.mp hi).1
 unfold caps
 rw [List.getElem?_append_left (by simpa using hj),List.getElem?_map,hi]
 show some ((σ[i]?).join) = _
 rw [h]
 rfl
theorem Sta.inner {D : Addr} (S : Sta K ml B O H0 σ δ) (hD : H0 D = none) (hnd : ix.Nodup) {kps : List (V × Dat)} (hk : ∀ p ∈ kps,Rep K (Nn B O) H0 (Nn B O) p.1 p.2) :
  Sta K (List.range ix.length) (Bc ix B O H0 D kps) (Oc ix O) (upd H0 D (.lst [])) (caps ix σ ++ List.replicate nl none) (capsD ix δ ++ nos nl) where
 len := by simp [caps,capsD,nos]
 va := fun j d e => by
  rcases capsD_get e with ⟨i,hi,q⟩ | q
  ·have q : δ[i]? = some (.va d) := by
    cases w : δ[i]? with
    | none => rw [w] at q;cases q
    | some s => rw [w] at q;rw [show s = .va d from q.symm]
   obtain ⟨v,e1,r⟩ := S.va i d q
   exact ⟨v,caps_get hi e1,(r.away hD _ _ nn_bc nn_bc).same (same_upd hD)⟩
  ·cases q
 ow := fun j d e => by
  rcases capsD_get e with ⟨i,hi,q⟩ | q
  ·have q : δ[i]? = some (.ow d) := by
    cases w : δ[i]? with
    | none => rw [w] at q;cases q
    | some s => rw [w] at q;rw [show s = .ow d from q.symm]
   obtain ⟨a,e1,e2,w⟩ := S.ow i d q
   refine ⟨a,by unfold Oc;rw [hi];exact e1,caps_get hi e2,?_⟩
   cases w with
   | lst q' r => exact .lst (same_upd hD _ _ q') ((r.away hD _ _ nn_bc).same (same_upd hD))
   | dct q' r => exact .dct (same_upd hD _ _ q') ((r.away hD _ _ nn_bc).same (same_upd hD))
  ·cases q
 dom := fun j a e => by
  unfold Oc at e
  cases hi : ix[j]? with
  | none => rw [hi] at e;cases e
  | some i =>
   rw [hi] at e
   obtain ⟨d,q⟩ := S.dom i a e
   refine ⟨d,?_⟩
   have hj : j < ix.length := (List.getElem?_eq_some_iff.mp hi).1
   unfold capsD
   rw [List.getElem?_append_left (by simpa using hj),List.getElem?_map,hi]
   show some ((δ[i]?).getD .no) = _
   rw [q]
   rfl
 inj := fun j k a e1 e2 => by
  unfold Oc at e1 e2
  cases hi : ix[j]? with
  | none => rw [hi] at e1;cases e1
  | some i =>
   cases hk : ix[k]? with
   | none => rw [hk] at e2;cases e2
   | some i' =>
    rw [hi] at e1
    rw [hk] at e2
    have : i = i' := S.inj i i' a e1 e2
    subst this
    obtain ⟨l1,q1⟩ := List.getElem?_eq_some_iff.mp hi
    obtain ⟨l2,q2⟩ := List.getElem?_eq_some_iff.mp hk
    exact (List.getElem_inj hnd).mp (q1.trans q2.symm)
 old := fun j a e => by
  have e' := e
  unfold Oc at e'
  cases hi : ix[j]? with
  | none => rw [hi] at e';cases e'
  | some i =>
   rw [hi] at e'
   refine ⟨fun z => ?_,.inl ⟨j,e⟩⟩
   rcases z with (z | z) | ⟨i',z,n⟩
   ·exact (S.old i a e').1 z
   ·obtain ⟨o,q⟩ := S.nin (.inr ⟨i,e'⟩)
    rw [z,hD] at q
    cases q
   ·have : i = i' := S.inj i i' a e' z
    subst this
    exact n (List.mem_of_getElem? hi)
 zin := fun a h => by
  rcases h with (h | h) | ⟨i,h,_⟩
  ·obtain ⟨o,q⟩ := S.zin a h
   exact ⟨o,same_upd hD _ _ q⟩
  ·exact ⟨_,by rw [h];exact upd_same⟩
  ·obtain ⟨o,q⟩ := S.nin (.inr ⟨i,h⟩)
   exact ⟨o,same_upd hD _ _ q⟩
 frm := (same_upd hD).fr
 par := ⟨fun j a e => by
  have e : (ix[j]?).bind O = some a := e
  cases hi : ix[j]? with
  | none => rw [hi] at e;cases e
  | some i => exact List.mem_range.mpr (List.getElem?_eq_some_iff.mp hi).1,fun j _ => rfl⟩
 pin := fun a ⟨j,e⟩ => by
  unfold Oc at e
  cases hi : ix[j]? with
  | none => rw [hi] at e;cases e
  | some i =>
   rw [hi] at e
   obtain ⟨o,q⟩ := S.nin (.inr ⟨i,e⟩)
   exact ⟨o,same_upd hD _ _ q⟩
 kep := fun p hp => ((hk p hp).away hD _ _ nn_bc nn_bc).same (same_upd hD)
theorem Sta.turn {O' : Nat -> Option Addr} {σ' : St} {n : Nat} {m : St} (S : Sta K (List.range n) B O' H σ' δ) (hmu : ∀ j,n <= j -> B.mu j = none) (hm : m.length = n) (hσ : σ'.take n = m) (hn : n <= δ.length) : Sta K (List.range n) B B.mu H (m ++ List.replicate nl none) (δ.take n ++ nos nl) := by
 have hO : ∀ j,j < n -> O' j = B.mu j := fun j hj => S.par.2 j (List.mem_range.mpr hj)
 have hle : ∀ j a,B.mu j = some a -> O' j = some a := fun j a e => by rw [hO j (List.mem_range.mp (S.par.1 j a e))];exact e
 have hN : ∀ a,Nn B B.mu a -> Nn B O' a := fun a h => by
  rcases h with h | ⟨j,h⟩
  ·exact .inl h
  ·exact .inr ⟨j,hle j a h⟩
 have hg : ∀ (j : Nat) (s : Sl),(δ.take n ++ nos nl)[j]? = some s -> (j < n /\ δ[j]? = some s) ∨ s = .no := fun j s h => by
  have hl : (δ.take n).length = n := by rw [List.length_take];omega
  by_cases hj : j < n
  ·rw [List.getElem?_append_left (by rw [hl];exact hj),List.getElem?_take_of_lt hj] at h
   exact .inl ⟨hj,h⟩
  ·unfold nos at h
   rw [List.getElem?_append_right (by rw [hl];omega),List.getElem?_replicate] at h
   split at h
   ·cases h;exact .inr rfl
   ·cases h
 have hs : ∀ (j : Nat) (v : V),j < n -> σ'[j]? = some (some v) -> (m ++ List.replicate nl none)[j]? = some (some v) := fun j v hj e => by
  rw [List.getElem?_append_left (by rw [hm];exact hj),<- hσ,List.getElem?_take_of_lt hj]
  exact e
 refine ⟨?_,fun j d e => ?_,fun j d e => ?_,fun j a e => ?_,fun j k a e1 e2 => S.inj j k a (hle j a e1) (hle k a e2),fun j a e => S.old j a (hle j a e),S.zin,S.frm,⟨S.par.1,fun j _ => rfl⟩,S.pin,fun p hp => (S.kep p hp).mono hN hN⟩
 ·simp [hm,nos,List.length_take]
  omega
 ·rcases hg j _ e with ⟨hj,e⟩ | e
  ·obtain ⟨v,e1,r⟩ := S.va j d e
   exact ⟨v,hs j v hj e1,r.mono hN hN⟩
  ·cases e
 ·rcases hg j _ e with ⟨hj,e⟩ | e
  ·obtain ⟨a,e1,e2,w⟩ := S.ow j d e
   exact ⟨a,(hO j hj) ▸ e1,hs j _ hj e2,w.mono hN⟩
  ·cases e
 ·have hj := List.mem_range.mp (S.par.1 j a e)
  obtain ⟨d,q⟩ := S.dom j a (hle j a e)
  refine ⟨d,?_⟩
  rw [List.getElem?_append_left (by rw [List.length_take];omega),List.getElem?_take_of_lt hj]
  exact q
theorem caps_len (ix : List Nat) (σ : St) : (caps ix σ).length = ix.length := by simp [caps]
theorem take_caps {σ' : St} (hl : ix.length <= σ'.length) (h : ∀ i ∈ List.range ix.length,σ'[i]? = (caps ix σ ++ List.replicate nl none)[i]?) : σ'.take ix.length = caps ix σ := by
 refine List.ext_getElem? fun j => ?_
 by_cases hj : j < ix.length
 ·rw [List.getElem?_take_of_lt hj,h j (List.mem_range.mpr hj),List.getElem?_append_left (by rw [caps_len];exact hj)]
 ·rw [List.getElem?_eq_none (by rw [List.length_take];omega),List.getElem?_eq_none (by rw [caps_len];omega)]
theorem tv_comp {fi : VI} {gg : VG} {tb : VB} {fe : VF} (hnd : ix.Nodup) {Q : VK} (h : TN K ml (pi && pt && pe) (fComp ix nl fi gg tb fe) σ H Q) :
  tComp ix nl (TIV K ml pi fi) (TGV K (List.range ix.length) gg) (TB K (List.range ix.length) pt tb) (TV K (List.range ix.length) pe true true fe) σ H Q := by
 obtain ⟨B,O,δ,d,δ2,S,q,k⟩ := h
 unfold fComp at q
 cases h1 : fi δ with
 | none => rw [h1] at q;cases q
 | some p =>
  obtain ⟨ds,δ1⟩ := p
  rw [h1] at q
  have q : ((compV ix.length nl gg tb fe ds [] (capsD ix δ1)).map fun q => (Dat.lst q.1,backD ix q.2 δ1)) = some (d,δ2) := q
  cases h2 : compV ix.length nl gg tb fe ds [] (capsD ix δ1) with
  | none => rw [h2] at q;cases q
  | some z =>
   obtain ⟨res,δf⟩ := z
   rw [h2] at q
   cases q
   refine ⟨B,O,δ,ds,δ1,S,h1,fun J kps H0 S0 f0 p0 wk D hD => ?_⟩
   have hDO : ∀ j,Oc ix O j ≠ some D := fun j e => by
    unfold Oc at e
    cases hi : ix[j]? with
    | none => rw [hi] at e;cases e
    | some i =>
     rw [hi] at e
     obtain ⟨o,q⟩ := S0.nin (.inr ⟨i,e⟩)
     rw [hD] at q
     cases q
   have hmu0 : ∀ kp j,ix.length <= j -> (Bc ix B O H0 D kp).mu j = none := fun kp j hj => by
    show (ix[j]?).bind O = none
    rw [List.getElem?_eq_none hj]
    rfl
   refine ⟨fun i m acc H1 => m = ds.length - i /\ i <= ds.length /\ ∃ (accD : List Dat) (δc : Ev),δc.length = ix.length /\ acc.length = accD.length ∧
     Sta K (List.range ix.length) (Bc ix B O H0 D (kps ++ acc.zip accD)) (Oc ix O) H1 (caps ix σ ++ List.replicate nl none) (δc ++ nos nl) /\ H1 D = some (.lst acc) /\ ((pt && pe) = true -> Same H0 H1) ∧
     compV ix.length nl gg tb fe (ds.drop i) accD δc = some (res,δf),
    ⟨ds.length,rfl,Nat.zero_le _,[],capsD ix δ1,by simp [capsD],rfl,by
     rw [List.zip_nil_left,List.append_nil]
     exact S0.unkeep.inner hD hnd fun p hp => S0.kep p (List.mem_append_left _ hp),upd_same,fun _ => same_upd hD,h2⟩,?_⟩
   rintro i m acc H1 ⟨rfl,hi,accD,δc,hlc,hacc,S1,hD1,pur1,hc⟩
   have w := wk (Nn (Bc ix B O H0 D (kps ++ acc.zip accD)) (Oc ix O)) H1 fun p hp => S1.kep p (List.mem_append_left _ hp)
   by_cases hlt : i < ds.length
   ·obtain ⟨go,yl⟩ := w.1 i ds[i] (by simp [hlt])
    rw [List.drop_eq_getElem_cons hlt] at hc
    simp only [compV] at hc
    cases g1 : gg ds[i] (δc ++ nos nl) with
    | none => rw [g1] at hc;cases hc
    | some δ3 =>
     rw [g1] at hc
     simp only [Option.bind_some] at hc
     cases g2 : tb δ3 with
     | none => rw [g2] at hc;cases hc
     | some z =>
      obtain ⟨kk,δ4⟩ := z
      rw [g2] at hc
      simp only [Option.bind_some] at hc
      refine .inr ⟨go,fun acc' H' => ∃ (accD : List Dat) (δc : Ev),δc.length = ix.length /\ acc'.length = accD.length ∧
       Sta K (List.range ix.length) (Bc ix B O H0 D (kps ++ acc'.zip accD)) (Oc ix O) H' (caps ix σ ++ List.replicate nl none) (δc ++ nos nl) /\ H' D = some (.lst acc') /\ ((pt && pe) = true -> Same H0 H') ∧
       compV ix.length nl gg tb fe (ds.drop (i + 1)) accD δc = some (res,δf),fun acc' H' w' => ⟨ds.length - (i + 1),by omega,rfl,hlt,w'⟩,fun x H2 hy => ?_⟩
      obtain ⟨sm,rx⟩ := yl x H2 hy
      refine ⟨_,_,_,ds[i],δ3,S1.same sm,rx,g1,fun σ3 O3 S3 m3 => ?_⟩
      have ln3 : ix.length <= σ3.length := by
       by_cases hz : ix.length = 0
       ·omega
       ·have hj : ix.length - 1 < ix.length := by omega
        have := m3 (ix.length - 1) (List.mem_range.mpr hj)
        have hs : (caps ix σ ++ List.replicate nl none)[ix.length - 1]? ≠ none := by
         rw [List.getElem?_append_left (by rw [caps_len];exact hj)]
         simp [caps,hj]
        rw [<- this] at hs
        have hlt3 : ix.length - 1 < σ3.length := Nat.lt_of_not_le fun z => hs (List.getElem?_eq_none_iff.mpr z)
        omega
      have hσ3 := take_caps ln3 m3
      refine ⟨hσ3,_,_,δ3,kk,δ4,S3,g2,fun H4 R4 => ?_⟩
      have hD4 : H4 D = some (.lst acc) := R4.frm _ _ (sm _ _ hD1) fun z => by
       obtain ⟨j,e⟩ := z
       have := (R4.sta.old j D e).1
       exact absurd (.inl (.inr rfl)) this
      have ln4 : ix.length <= δ4.length := by rw [<- R4.sta.len];exact ln3
      cases kk with
      | false =>
       rw [if_neg Bool.false_ne_true] at hc
       refine iteF ⟨accD,δ4.take ix.length,by rw [List.length_take];omega,hacc,R4.sta.turn (hmu0 _) (caps_len ix σ) hσ3 ln4,hD4,fun z => ?_,hc⟩
       exact ((pur1 z).trans sm).trans (R4.pur ((Bool.and_eq_true _ _).mp z).1)
      | true =>
       rw [if_pos rfl] at hc
       cases g3 : fe δ4 with
       | none => rw [g3] at hc;cases hc
       | some z =>
        obtain ⟨dv,δ5⟩ := z
        rw [g3] at hc
        simp only [Option.bind_some] at hc
        split at hc
        ·rename_i hz
         refine iteT ⟨_,_,δ4,dv,δ5,R4.sta,g3,fun v H5 R5 => ?_⟩
         have hD5 : H5 D = some (.lst acc) := R5.frm _ _ hD4 fun z => by
          obtain ⟨j,e⟩ := z
          have := (R5.sta.old j D e).1
          exact absurd (.inl (.inr rfl)) this
         have ln5 : ix.length <= δ5.length := by rw [<- R5.sta.len];exact ln3
         have S6 := R5.sta.turn (nl := nl) (hmu0 _) (caps_len ix σ) hσ3 ln5
         have hv : Rep K (Nn (Bc ix B O H0 D (kps ++ acc.zip accD)) (Oc ix O)) H5 (Nn (Bc ix B O H0 D (kps ++ acc.zip accD)) (Oc ix O)) v dv := by
          have hN : ∀ a,Nn (Bc ix B O H0 D (kps ++ acc.zip accD)) (Oc ix O) a -> av (Bc ix B O H0 D (kps ++ acc.zip accD)) O3 true a := fun a h => by
           rcases h with h | ⟨j,h⟩
           ·exact .inl h
           ·refine .inr ⟨j,?_⟩
            have hj : j ∈ List.range ix.length := R5.sta.par.1 j a h
            rw [R5.sta.par.2 j hj]
            exact h
          exact R5.rep.mono hN hN
         have S7 := S6.withKp (kp := kps ++ (acc ++ [v]).zip (accD ++ [dv])) fun p hp => by
          rw [List.zip_append hacc,<- List.append_assoc] at hp
          rcases List.mem_append.mp hp with z | z
          ·exact S6.kep p z
          ·rw [List.mem_singleton.mp (show p ∈ [(v,dv)] from z)]
           exact hv
         refine ⟨hD5,by rw [hacc,sizeLine_eq];exact hz,accD ++ [dv],δ5.take ix.length,by rw [List.length_take];omega,by simp [hacc],?_,upd_same,fun z => ?_,hc⟩
         ·exact S7.writeZ (.inl (.inr rfl)) hD5 hD
         ·intro b o e
          have hb : b ≠ D := fun z => by rw [z,hD] at e;cases e
          rw [upd_ne hb]
          obtain ⟨z1,z2⟩ := (Bool.and_eq_true _ _).mp z
          exact (((pur1 z).trans sm).trans ((R4.pur z1).trans (R5.pur z2))) b o e
        ·cases hc
   ·have e : i = ds.length := by omega
    subst e
    rw [List.drop_length] at hc
    cases hc
    refine .inl ⟨w.2,k D H1 ?_⟩
    have fP : Fr (OA (Oc ix O)) H0 H1 := S1.frm
    have hPO : ∀ a,OA (Oc ix O) a -> OA O a := fun a ⟨j,e⟩ => by
     unfold Oc at e
     cases hi : ix[j]? with
     | none => rw [hi] at e;cases e
     | some i => rw [hi] at e;exact ⟨i,e⟩
    have SL := S0.unkeep.laid (o := .lst acc) hD
    have fL : Fr (OA (Oc ix O)) (upd H0 D (.lst acc)) H1 := fun b o e n => by
     by_cases hb : b = D
     ·subst hb
      rw [upd_same] at e
      cases e
      exact hD1
     ·rw [upd_ne hb] at e
      exact fP b o e n
    refine ⟨SL.call (backD_len) (fun i => ?_) fL hPO,f0.trans (fP.mono hPO),fun z => ?_,.lst hD1 (rep_zip hacc fun p hp => (S1.kep p (List.mem_append_right _ hp)).mono nn_bc' nn_bc'),S0.unkeep.new hD,S0.fresh hD⟩
    ·by_cases hlt' : i < δ1.length
     ·rcases backD_get (ix := ix) (ss := δf) (δ := δ1) i hlt' hlc.symm with ⟨j,x,e1,e2,e3⟩ | ⟨e1,e2⟩
      ·have e4 : (δf ++ nos nl)[j]? = some (.ow x) := by
        rw [List.getElem?_append_left (List.getElem?_eq_some_iff.mp e2).1]
        exact e2
       obtain ⟨a,e5,_,w⟩ := S1.ow j x e4
       refine .inr ⟨a,x,?_,e3,w.mono nn_bc'⟩
       unfold Oc at e5
       rw [e1] at e5
       exact e5
      ·refine .inl ⟨e2,fun a ea ⟨j,ej⟩ => ?_⟩
       obtain ⟨x,ex⟩ := S1.dom j a ej
       unfold Oc at ej
       cases hi : ix[j]? with
       | none => rw [hi] at ej;cases ej
       | some i' =>
        rw [hi] at ej
        have : i = i' := S0.inj i i' a ea ej
        subst this
        have hj : j < δf.length := by rw [hlc];exact (List.getElem?_eq_some_iff.mp hi).1
        rw [List.getElem?_append_left hj] at ex
        exact e1 j x hi ex
     ·refine .inl ⟨?_,fun a ea => ?_⟩
      ·rw [List.getElem?_eq_none (by rw [backD_len];omega),List.getElem?_eq_none (by omega)]
      ·obtain ⟨x,ex⟩ := S0.dom i a ea
       exact absurd (List.getElem?_eq_some_iff.mp ex).1 hlt'
    ·simp only [Bool.and_eq_true] at z
     exact (p0 z.1.1).trans (pur1 (by simp [z.1.2,z.2]))
theorem tb_yes {Q : Bool -> Hp -> Prop} (h : TB K ml true bYes σ H Q) : tYes σ H Q := by
 obtain ⟨B,O,δ,k,δ',S,q,w⟩ := h
 cases q
 exact w H (ResB.refl S)
theorem vb_one {Y : Cx} {t : VB} (h : PT Y c (TB K ml pt t)) : PTs Y [c] (TB K ml pt t) := pts_one h
theorem vb_nil {Y : Cx} : PTs Y [] (TB K ml true bYes) := fun pins s σ H Q I hw => pts_nil pins s σ H Q I (tb_yes hw)
theorem vn_comp {N : List Str} {tg iter elt : Expr} {ifs : List Expr} {scope sc : Scope} {N' : List Str} {fi : VI} {gg : VG} {tb : VB} {fe : VF}
  (hc : X.calm = true) (S : CompSc N N' ix sc scope) (hXN : X.N = N) (hsc : X.env.scope = sc) (hnl : N'.length = ix.length + nl) (hnd : ix.Nodup) (hi : PI X tg iter (TIV K ml pi fi))
  (blk : ∀ (cl : List (Str × Addr)) (s1 : Shared) (H1 : Hp) (fp : List Addr),Blk (compCx X N' scope cl s1 H1 fp) tg ifs elt (TGV K (List.range ix.length) gg) (TB K (List.range ix.length) pt tb) (TV K (List.range ix.length) pe true true fe))
  (hs : ∀ x,foldedSetIterable iter X.env x = pure x := by intro _;rfl) : PE X (.ListComp elt [⟨tg,iter,ifs,0⟩] scope pos) (TN K ml (pi && pt && pe) (fComp ix nl fi gg tb fe)) :=
 (pe_comp hc S hXN hsc hnl hi blk hs).imp fun _ _ _ h => tv_comp hnd h
theorem tx_tn {Q : VK} {o : Bool} (h : TX K ml (if o then xO f else xV f) σ H Q) : TN K ml pu f σ H Q := by
 obtain ⟨B,O,δ,s,δ',S,q,k⟩ := h
 have e : ∃ d,f δ = some (d,δ') /\ s = if o then .ow d else .va d := by
  cases o with
  | true =>
   have q : (f δ).map (fun p => (Sl.ow p.1,p.2)) = some (s,δ') := q
   cases h1 : f δ with
   | none => rw [h1] at q;cases q
   | some p => rw [h1] at q;cases q;exact ⟨p.1,rfl,rfl⟩
  | false =>
   have q : (f δ).map (fun p => (Sl.va p.1,p.2)) = some (s,δ') := q
   cases h1 : f δ with
   | none => rw [h1] at q;cases q
   | some p => rw [h1] at q;cases q;exact ⟨p.1,rfl,rfl⟩
 obtain ⟨d,h1,hs⟩ := e
 refine ⟨B,O,δ,d,δ',S,h1,fun p H' R => ?_⟩
 cases o with
 | true =>
  cases hs
  have w := R.own
  cases w with
  | lst q1 r => exact k _ H' _ (R.sta.keepV (zip_rep r)) (.ol q1 r.length R.nz R.h0) R.frm
  | dct q1 r => exact k _ H' _ (R.sta.keepV (zip_rep r)) (.od q1 (by simpa using r.length) R.nz R.h0) R.frm
 | false =>
  cases hs
  exact k _ H' _ (R.sta.unadd.keepV (ps := [(.ref p,d)]) fun z hz => by
   rw [List.mem_singleton.mp hz]
   exact (R.own.mono nn_add).rep R.nz) .va R.frm
theorem ts_set {i : Nat} {x : VX} {te : TE} (hte : ∀ σ H Q,TX K ml x σ H Q -> te σ H Q) (hm : i ∉ ml) {D : Ends} (h : TSt K ml (sSet i x) D σ H) : tAsg te (gName i) D σ H := by
 obtain ⟨B,O,δ,o,S,q,k⟩ := h
 unfold sSet at q
 cases h1 : x δ with
 | none => rw [h1] at q;cases q
 | some p =>
  obtain ⟨s,δ1⟩ := p
  rw [h1] at q
  have q : (if i < δ1.length then some (Ou.nx (δ1.set i s)) else none) = some o := q
  split at q
  ·rename_i hl
   cases q
   refine hte _ _ _ ⟨B,O,δ,s,δ1,S,h1,fun v H' B' S' h' f' => ?_⟩
   obtain ⟨O'',S''⟩ := h'.bind S' hm hl
   exact k _ _ _ S''
  ·cases q
end
end L2
namespace L2
open PySem PySem.Spec PyProof.Rows
abbrev DefV (P : Program) (w : World) (K : PySem.W.Frag) (mg : Str -> Option Value) (base : Heap) (x : Str) (k : Nat) (ps : List Str) (mF : List Nat) (F : VFun) (f : Addr) : Prop := Def P w K mg base x k ps (spV K mF ps.length F) f
section
variable {X : Cx} {K : PySem.W.Frag} {ml : List Nat} {e a b c : Expr} {es : List Expr} {pa ta ia pb tb ib pc tc ic pu bt bi ps bs : Bool} {fa fb fc f : VF} {B B' : Bs} {O : Nat -> Option Addr} {H H0 H1 H' : Hp} {σ : St} {δ δ' : Ev} {v : V} {d : Dat} {p : Addr} {pos : Pos}
theorem ve_const {x : Str} (hg : Gl X x) (h : ∃ u v,X.mg x = some u /\ RelV v u /\ ∀ N H M,Rep K N H M v d) (hd : (x == ("__debug__" : Str)) = false := by decide) : PE X (.Name x pos) (TV K ml true true true (fC d)) := by
 obtain ⟨u,v,h1,h2,h3⟩ := h
 exact ve_c (pe_glob hg h1 h2 hd) h3
def rCatA (K : PySem.W.Frag) : R2 := fun x y H Q => ∃ a b xs ys,x = .ref a /\ y = .ref b /\ SqT K H a xs /\ SqT K H b ys /\ xs.length + ys.length <= sizeLine ∧
 (xs = [] -> Q (.ref b) H) /\ (xs ≠ [] -> ys = [] -> Q (.ref a) H) /\ (xs ≠ [] -> ys ≠ [] -> ∀ p,H p = none -> Q (.ref p) (upd H p (.tup (xs ++ ys))))
theorem op_catA : OpR X (binaryOp .Add) (rCatA X.K) := by
 intro pins s σ H x y v u Q I rx ry h
 obtain ⟨a,b,xs,ys,rfl,rfl,ha,hb,hz,q0,q1,q2⟩ := h
 cases rx
 cases ry
 obtain ⟨its,r1,p1,_⟩ := I.tuple ha
 obtain ⟨its2,r2,p2,_⟩ := I.tuple hb
 by_cases hx : xs = []
 ·subst hx
  have e0 : its = [] := r1.nil_iff.mpr rfl
  subst e0
  obtain ⟨⟨cls,dd,data,sl⟩,ho,hc,n,hd⟩ := id p1
  obtain ⟨⟨cls2,dd2,data2,sl2⟩,ho2,hc2,n2,hd2⟩ := id p2
  simp only at hc hd hc2 hd2
  subst hc hd hc2 hd2
  exact concat_meets ⟨_,ho,rfl⟩ ⟨_,ho2,rfl⟩ noFill_tuple_add seq_tuple_add PySem.F.slot_tuple_add PySem.F.entry_tuple_add (PySem.F.args_tuple_add_2 _ _)
   (tuple_addW0 a b _ its2.toArray n n2 dd dd2 sl sl2 (by simp)) ⟨ho,ho2,⟨.ref b,H,I,rfl,q0 rfl⟩⟩
 ·refine HT.cat_tup p1 p2 (fun z => hx (r1.nil_iff.mp z)) (fun z => ⟨.ref a,H,I,rfl,q1 hx (r2.nil_iff.mp z)⟩) (fun z => ?_) (by rw [<- r1.length,<- r2.length];exact hz)
  refine ⟨.ref s.heap.objs.size,_,I.laid (t' := s.toks) (o := .tup (xs ++ ys)) (fun b ob q => Heap.get?_push_of_some _ q) (Nat.le_refl _) ?_,rfl,q2 hx (fun w => z (r2.nil_iff.mpr w)) _ (I.hok.fresh (Nat.le_refl _))⟩
  exact ⟨by rw [List.length_append];exact hz,_,r1.append r2,IsTup.new _ _⟩
def rCatS (K : PySem.W.Frag) : R2 := fun x y H Q => ∃ l b xs zs,x = .ref l /\ y = .ref b /\ SqL K H l xs /\ SqL K H b zs /\ xs.length + zs.length <= sizeLine /\ ∀ p,H p = none -> Q (.ref p) (upd H p (.lst (xs ++ zs)))
theorem op_catS : OpR X (binaryOp .Add) (rCatS X.K) := by
 intro pins s σ H x y v u Q I rx ry h
 obtain ⟨l,b,xs,zs,rfl,rfl,hH,hB,hz,q⟩ := h
 cases rx
 cases ry
 obtain ⟨its,r,p1,_⟩ := I.list hH
 obtain ⟨its2,r2,p2,_⟩ := I.list hB
 obtain ⟨⟨cls,dd,data,sl⟩,n,ho,hc,_,hd⟩ := id p1
 obtain ⟨⟨cls2,dd2,data2,sl2⟩,n2,ho2,hc2,_,hd2⟩ := id p2
 simp only at hc hd hc2 hd2
 subst hc hd hc2 hd2
 have ea : its.toArray ++ its2.toArray = (its ++ its2).toArray := by simp
 have hl := r.length
 have hl2 := r2.length
 refine concat_meets ⟨_,ho,rfl⟩ ⟨_,ho2,rfl⟩ noFill_list_add seq_list_add PySem.F.slot_list_add PySem.F.entry_list_add (PySem.F.args_list_add_2 _ _) (list_addW l b its.toArray its2.toArray n n2 dd dd2 sl sl2 (by rw [List.size_toArray,List.size_toArray,<- hl,<- hl2];exact hz)) ⟨ho,ho2,?_⟩
 rw [ea]
 exact ⟨.ref _,_,I.lnew (t' := s.toks) (r.append r2) (by rw [List.length_append];omega),rfl,q _ I.fresh⟩
def rPlus (K : PySem.W.Frag) : R2 := fun x y H Q => ((rI0 (fun i j => .int (i + j)) x y H Q ∨ rCatA K x y H Q) ∨ rCatS K x y H Q) ∨ ∃ i j,x = .str i /\ y = .str j /\ i.length + j.length <= sizeLine /\ Q (.str (i ++ j)) H
theorem kPlus (h : X.K = K) : OpR X (binaryOp .Add) (rPlus K) := by subst h;exact ((op_add.or op_catA).or op_catS).or op_add_str
def oPlus : Dat -> Dat -> Option Dat
 | .int i,.int j => some (.int (i + j))
 | .tup ds,.tup es => if ds.length + es.length <= 16777216 then some (.tup (ds ++ es)) else none
 | .lst ds,.lst es => if ds.length + es.length <= 16777216 then some (.lst (ds ++ es)) else none
 | .str x,.str y => if x.length + y.length <= 16777216 then some (.str (x ++ y)) else none
 | _,_ => none
theorem Rep.tupE {N M : Addr -> Prop} {ds : List Dat} (h : Rep K N H M v (.tup ds)) : ∃ a xs,v = .ref a /\ SqT K H a xs /\ RepA K N H xs ds := by
 cases h with
 | tup q r => exact ⟨_,_,rfl,q,r⟩
theorem Rep.lstE {N M : Addr -> Prop} {ds : List Dat} (h : Rep K N H M v (.lst ds)) : ∃ a xs,v = .ref a /\ SqL K H a xs /\ RepA K N H xs ds := by
 cases h with
 | lst q n r => exact ⟨_,_,rfl,SqL.of q,r⟩
 | fzl q r => exact ⟨_,_,rfl,q.sq,r⟩
theorem c_plus : OpC K (rPlus K) oPlus := by
 intro H N M M' x y d e c Q hx hy h k
 cases d with
 | int i =>
  cases e with
  | int j =>
   cases h
   cases hx
   cases hy
   exact .inl (.inl (.inl ⟨_,_,rfl,rfl,k _ _ (Same.refl _) fun _ _ => .int _⟩))
  | _ => cases h
 | str i =>
  cases e with
  | str j =>
   simp only [oPlus] at h
   split at h
   ·cases h
    cases hx
    cases hy
    exact .inr ⟨_,_,rfl,rfl,by rw [sizeLine_eq];assumption,k _ _ (Same.refl _) fun _ _ => .str _⟩
   ·cases h
  | _ => cases h
 | tup ds =>
  cases e with
  | tup es =>
   simp only [oPlus] at h
   split at h
   ·rename_i hz
    cases h
    obtain ⟨a,xs,rfl,q1,r1⟩ := hx.tupE
    obtain ⟨b,ys,rfl,q2,r2⟩ := hy.tupE
    refine .inl (.inl (.inr ⟨a,b,xs,ys,rfl,rfl,q1,q2,by rw [r1.length,r2.length,sizeLine_eq];exact hz,fun z => ?_,fun z1 z2 => ?_,fun z1 z2 p hp => ?_⟩))
    ·subst z
     have : ds = [] := List.length_eq_zero_iff.mp r1.length.symm
     subst this
     exact k _ _ (Same.refl _) fun M hM => .tup q2 r2
    ·subst z2
     have : es = [] := List.length_eq_zero_iff.mp r2.length.symm
     subst this
     rw [List.append_nil] at k
     exact k _ _ (Same.refl _) fun M hM => .tup q1 r1
    ·exact k _ _ (same_upd hp) fun M hM => .tup (SqT.of upd_same) ((r1.append r2).same (same_upd hp))
   ·cases h
  | _ => cases h
 | lst ds =>
  cases e with
  | lst es =>
   simp only [oPlus] at h
   split at h
   ·rename_i hz
    cases h
    obtain ⟨a,xs,rfl,q1,r1⟩ := hx.lstE
    obtain ⟨b,ys,rfl,q2,r2⟩ := hy.lstE
    exact .inl (.inr ⟨a,b,xs,ys,rfl,rfl,q1,q2,by rw [r1.length,r2.length,sizeLine_eq];exact hz,fun p hp => k _ _ (same_upd hp) fun M hM => .lst upd_same (fun z => by
     obtain ⟨o,q⟩ := hM _ z
     rw [hp] at q
     cases q) ((r1.append r2).same (same_upd hp))⟩)
   ·cases h
  | _ => cases h
 | _ => cases h
def rTimes : PySem.W.Frag -> R2 := fun _ => rI CMul fun i j => .int (i * j)
theorem kTimes (h : X.K = K) : OpR X (binaryOp .Mult) (rTimes K) := op_mul
abbrev oTimes := oMul
theorem c_times : OpC K (rTimes K) oTimes := by
 intro H N M M' x y d e c Q hx hy h k
 exact s_mul H N N M M' x y d e c Q hx hy h fun v hv => k v H (Same.refl _) fun M _ => hv _ _ _
def keyD : Dat -> Option Key
 | .int i => some (.inl i)
 | .str x => some (.inr x)
 | _ => none
theorem Rep.key {N M : Addr -> Prop} {k : Key} (h : Rep K N H M v d) (e : keyD d = some k) : v = kV k := by
 cases h <;> first
  | (cases e;rfl)
  | cases e
def lookK (ks : List Key) (ds : List Dat) (k : Key) : Option Dat := match ks,ds with
 | k' :: ks,d :: ds => if k' = k then some d else lookK ks ds k
 | _,_ => none
theorem look_rep {N : Addr -> Prop} {k : Key} : ∀ {kvs : List (Key × V)} {ds : List Dat},RepA K N H (kvs.map Prod.snd) ds →
  (∃ v d,valV kvs k = some v /\ lookK (kvs.map Prod.fst) ds k = some d /\ Rep K N H N v d) ∨ (valV kvs k = none /\ lookK (kvs.map Prod.fst) ds k = none)
 | [],_,.nil => .inr ⟨rfl,rfl⟩
 | (k',v) :: kvs,_,.cons h t => by
  by_cases hk : k' = k
  ·refine .inl ⟨v,_,valV_pos (p := (k',v)) hk,?_,h⟩
   simp [lookK,hk]
  ·rcases look_rep (k := k) t with ⟨v',d',h1,h2,h3⟩ | ⟨h1,h2⟩
   ·exact .inl ⟨v',d',(valV_neg (p := (k',v)) hk).trans h1,by simpa [lookK,hk] using h2,h3⟩
   ·exact .inr ⟨(valV_neg (p := (k',v)) hk).trans h1,by simpa [lookK,hk] using h2⟩
theorem ix_dK (hu : X.A.units + 1 < cLine) : IxR X (fun x y H Q => ∃ a v,x = .ref a /\ DGet H a y (some v) /\ Q v H) := by
 intro value slice pins s σ H x y v u Q I rx ry h hs
 obtain ⟨a,w,rfl,g,q⟩ := h
 cases rx
 exact tail_any (dict_typeIs I g) PySem.F.slot_dict_getitem.lookup (d_getItem hu I g ry fun w' s3 I3 rw' => ⟨w,H,I3,rw',q⟩) hs
def rIxA (K : PySem.W.Frag) : R2 := fun x y H Q => (rIx K x y H Q ∨ ∃ a v,x = .ref a /\ DGet H a y (some v) /\ Q v H) ∨ ∃ a k D v,x = .ref a /\ y = .str k /\ KTab K a D /\ KTD.datumAt k D = some v /\ Q v H
theorem kIxA (h : X.K = K) (hu : X.A.units + 1 < cLine) : IxR X (rIxA K) := by subst h;exact (ix_seq.or (ix_dK hu)).or ix_ktab
def oIxA : Dat -> Dat -> Option Dat
 | .tup ds,.int i => atI ds i
 | .lst ds,.int i => atI ds i
 | .dct ks ds,e => (keyD e).bind (lookK ks ds)
 | .str z,.int i => if z.length <= 16777216 then (atI z.cps.toList i).map fun c => .str ⟨#[c]⟩ else none
 | _,_ => none
theorem datum_rep {N : Addr -> Prop} {k : Str} : ∀ {D : List (Str × V)} {ds : List Dat},RepA K N H (D.map Prod.snd) ds →
  (∃ v d,KTD.datumAt k D = some v /\ lookK (D.map fun p => .inr p.1) ds (.inr k) = some d /\ Rep K N H N v d) ∨ (KTD.datumAt k D = none /\ lookK (D.map fun p => .inr p.1) ds (.inr k) = none)
 | [],_,.nil => .inr ⟨rfl,rfl⟩
 | (k',v) :: D,_,.cons h t => by
  by_cases hk : k' = k
  ·subst hk
   exact .inl ⟨v,_,by simp [KTD.datumAt],by simp [lookK],h⟩
  ·have hk2 : ¬ k = k' := fun z => hk z.symm
   rcases datum_rep (k := k) t with ⟨v',d',h1,h2,h3⟩ | ⟨h1,h2⟩
   ·exact .inl ⟨v',d',by simpa [KTD.datumAt,hk,hk2] using h1,by simpa [lookK,hk] using h2,h3⟩
   ·exact .inr ⟨by simpa [KTD.datumAt,hk,hk2] using h1,by simpa [lookK,hk] using h2⟩
theorem look_int {i : Int} : ∀ {D : List (Str × V)} {ds : List Dat},lookK (D.map fun p => .inr p.1) ds (.inl i) = none
 | [],_ => by simp [lookK]
 | _ :: _,[] => by simp [lookK]
 | p :: D,d :: ds => by simpa [lookK] using look_int (D := D) (ds := ds)
theorem i_any : OpI K (rIxA K) oIxA := by
 intro H N N' M M' x y d e c Q hx hy h k
 have seq : ∀ ds i,seqD d = some ds -> e = .int i -> atI ds i = some c -> rIxA K x y H Q := fun ds i h1 h2 h3 => by
  subst h2
  cases hy
  obtain ⟨a,xs,rfl,sq,r⟩ := hx.seq h1
  obtain ⟨v,hv,rv⟩ := atI_rep r h3
  rcases sq with sq | sq
  ·exact .inl (.inl (.inl ⟨a,xs,i,v,rfl,rfl,sq,hv,k v rv⟩))
  ·exact .inl (.inl (.inr (.inl ⟨a,xs,i,v,rfl,rfl,sq,hv,k v rv⟩)))
 cases d with
 | tup ds =>
  cases e with
  | int i => exact seq ds i rfl rfl h
  | _ => cases h
 | lst ds =>
  cases e with
  | int i => exact seq ds i rfl rfl h
  | _ => cases h
 | str z =>
  cases e with
  | int i =>
   simp only [oIxA] at h
   split at h
   ·cases hc : atI z.cps.toList i with
    | none => rw [hc] at h;cases h
    | some ch =>
     rw [hc] at h
     cases h
     cases hx
     cases hy
     exact .inl (.inl (.inr (.inr ⟨z,i,ch,rfl,rfl,by rw [sizeLine_eq];assumption,hc,k _ (.str _)⟩)))
   ·cases h
  | _ => cases h
 | dct ks ds =>
  simp only [oIxA] at h
  cases hk : keyD e with
  | none => rw [hk] at h;cases h
  | some kk =>
   rw [hk] at h
   have h : lookK ks ds kk = some c := h
   have ey := hy.key hk
   subst ey
   cases hx with
   | dct q n r =>
    rcases look_rep (k := kk) r with ⟨v,d',h1,h2,h3⟩ | ⟨h1,h2⟩
    ·rw [h] at h2
     cases h2
     exact .inl (.inr ⟨_,v,rfl,h1 ▸ DGet.k q,k v h3⟩)
    ·rw [h] at h2;cases h2
   | ktb T r =>
    cases kk with
    | inl i => rw [look_int] at h;cases h
    | inr x =>
     rcases datum_rep (k := x) r with ⟨v,d',h1,h2,h3⟩ | ⟨h1,h2⟩
     ·rw [h] at h2
      cases h2
      exact .inr ⟨_,x,_,v,rfl,rfl,T,h1,k v h3⟩
     ·rw [h] at h2;cases h2
 | _ => cases h
def ownD (δ : Ev) (i : Nat) : Option (List Key × List Dat) := match δ[i]? with
 | some (.ow (.dct ks ds)) => some (ks,ds)
 | _ => none
theorem ownD_some {i : Nat} {ks : List Key} {ds : List Dat} (h : ownD δ i = some (ks,ds)) : δ[i]? = some (.ow (.dct ks ds)) := by
 unfold ownD at h
 split at h
 ·cases h;assumption
 ·cases h
def fDget2 (i : Nat) (fk fx : VF) : VF := fun δ => (ownD δ i).bind fun _ => (fk δ).bind fun p => (fx p.2).bind fun q => (keyD p.1).bind fun k => (ownD q.2 i).map fun z => ((lookK z.1 z.2 k).getD q.1,q.2)
theorem ve_dget2 {i : Nat} {fk fx : VF} {apos cpos : Pos} (hu : X.A.units + 1 < cLine) (ho : PE X a (tVar i)) (hk : PE X b (TV K ml pa ta ia fk)) (hx : PE X c (TV K ml pb true true fx)) (m : M2 X a "get" apos b c cpos) :
  PE X (.Call (.Attribute a "get" apos) [b,c] [] cpos) (TV K ml (pa && pb) true true (fDget2 i fk fx)) := (pe_dget2 hu ho hk hx m).imp fun σ H Q ⟨B,O,δ,d,δ3,S,q,k⟩ => by
 unfold fDget2 at q
 cases h0 : ownD δ i with
 | none => rw [h0] at q;cases q
 | some z0 =>
  obtain ⟨ks0,ds0⟩ := z0
  rw [h0] at q
  cases h1 : fk δ with
  | none => simp [h1] at q
  | some p1 =>
   obtain ⟨y,δ1⟩ := p1
   simp only [Option.bind_some,h1] at q
   cases h2 : fx δ1 with
   | none => simp [h2] at q
   | some p2 =>
    obtain ⟨z,δ2⟩ := p2
    simp only [Option.bind_some,h2] at q
    cases h3 : keyD y with
    | none => simp [h3] at q
    | some kk =>
     simp only [Option.bind_some,h3] at q
     cases h4 : ownD δ2 i with
     | none => simp [h4] at q
     | some zz =>
      obtain ⟨ks,ds⟩ := zz
      simp only [h4] at q
      cases q
      obtain ⟨l,e1,e2,w⟩ := S.ow i _ (ownD_some h0)
      refine ⟨.ref l,e2,l,rfl,?_,B,O,δ,y,δ1,S,h1,fun v1 H1 R1 => ⟨B,O,δ1,z,_,R1.sta,h2,fun v2 H2 R2 => ?_⟩⟩
      ·generalize hw : Dat.dct ks0 ds0 = dd at w
       cases w with
       | lst _ _ => cases hw
       | dct q _ => exact .inl ⟨_,.inl q⟩
      ·have ey := R1.rep.key h3
       subst ey
       obtain ⟨l',e3,_,w2⟩ := R2.sta.ow i _ (ownD_some h4)
       rw [e1] at e3
       cases e3
       have fin : ∀ o,Rep K (Nn B O) H2 (Nn B O) (o : V) ((lookK ks ds kk).getD z) -> Q o H2 := fun o ho => k o H2 ⟨R2.sta,R1.frm.trans R2.frm,fun z => by
        obtain ⟨z1,z2⟩ := (Bool.and_eq_true _ _).mp z
        exact (R1.pur z1).trans (R2.pur z2),ho⟩
       generalize hw : Dat.dct ks ds = dd at w2
       cases w2 with
       | lst _ _ => cases hw
       | dct q r =>
        cases hw
        refine ⟨_,DGet.k q,fin _ ?_⟩
        rcases look_rep (k := kk) r with ⟨v,d',g1,g2,g3⟩ | ⟨g1,g2⟩
        ·rw [g1,g2];exact g3
        ·rw [g1,g2];exact R2.rep
def putKD : List Key -> List Dat -> Key -> Dat -> List Key × List Dat
 | k' :: ks,d :: ds,k,v => if k' = k then (k' :: ks,v :: ds) else let r := putKD ks ds k v;(k' :: r.1,d :: r.2)
 | _,_,k,v => ([k],[v])
def sDput (i : Nat) (fk fv : VF) : VS := fun δ => (fv δ).bind fun p => (ownD p.2 i).bind fun _ => (fk p.2).bind fun q => (keyD q.1).bind fun k => (ownD q.2 i).bind fun z => if z.1.length < 16777216 /\ z.1.Nodup then some (.nx (q.2.set i (.ow (let r := putKD z.1 z.2 k p.1;.dct r.1 r.2)))) else none
theorem putKD_rep {N : Addr -> Prop} {k : Key} {v : V} (h : Rep K N H N v d) : ∀ {kvs : List (Key × V)} {ds : List Dat},(kvs.map Prod.fst).Nodup -> RepA K N H (kvs.map Prod.snd) ds →
  (putK kvs k v).map Prod.fst = (putKD (kvs.map Prod.fst) ds k d).1 /\ RepA K N H ((putK kvs k v).map Prod.snd) (putKD (kvs.map Prod.fst) ds k d).2
 | [],_,_,.nil => ⟨rfl,.cons h .nil⟩
 | (k',u) :: kvs,_,nd,.cons hu t => by
  obtain ⟨n1,n2⟩ := List.nodup_cons.mp nd
  by_cases hk : k' = k
  ·subst hk
   have e : putK ((k',u) :: kvs) k' v = (k',v) :: kvs := by
    unfold putK
    rw [if_pos (by simp)]
    simp only [List.map_cons,if_true]
    congr 1
    refine (List.map_congr_left fun p hp => ?_).trans (List.map_id _)
    have : p.1 ≠ k' := fun z => n1 (List.mem_map.mpr ⟨p,hp,z⟩)
    simp [this]
   rw [e]
   exact ⟨by simp [putKD],by simpa [putKD] using RepA.cons h t⟩
  ·obtain ⟨h1,h2⟩ := putKD_rep (k := k) h n2 t
   have e : putK ((k',u) :: kvs) k v = (k',u) :: putK kvs k v := by
    unfold putK
    simp only [List.any_cons,hk,decide_false,Bool.false_or]
    split
    ·simp [hk]
    ·rfl
   rw [e]
   exact ⟨by simpa [putKD,hk] using h1,by simpa [putKD,hk] using RepA.cons hu h2⟩
theorem rep_upd_ownD {N : Addr -> Prop} {l : Addr} {o : HO} {xs : List V} {ds : List Dat} {kvs : List (Key × V)} (ho : H l = some (.dK kvs)) (hN : N l) (h : RepA K N H xs ds) : RepA K N (upd H l o) xs ds :=
 h.fr (P := fun b => b = l) (fun b u q n => by
  by_cases hb : b = l
  ·subst hb
   rw [ho] at q
   cases q
   exact absurd (n rfl) fun z => z
  ·rw [upd_ne hb]
   exact q) fun a z => z ▸ hN
theorem vs_dput {i : Nat} {fk fv : VF} {pos' : Pos} (hu : X.A.units + 1 < cLine) (ho : PE X a (tVar i)) (hk : PE X b (TV K ml pa ta ia fk)) (hv : PE X c (TV K ml pb true true fv)) (hs : swapsWith c (some (.Subscript a b pos')) pos.line X.env = pure false) :
  PS X (.Assign [.Subscript a b pos'] c pos) (TSt K ml (sDput i fk fv)) := (ps_dput hu ho hk hv hs).imp fun D σ H ⟨B,O,δ,o,S,q,k⟩ => by
 unfold sDput at q
 cases h1 : fv δ with
 | none => rw [h1] at q;cases q
 | some p1 =>
  obtain ⟨z,δ1⟩ := p1
  rw [h1] at q
  have q : ((ownD δ1 i).bind fun _ => (fk δ1).bind fun q => (keyD q.1).bind fun k => (ownD q.2 i).bind fun z_1 => if z_1.1.length < 16777216 /\ z_1.1.Nodup then some (Ou.nx (q.2.set i (.ow (let r := putKD z_1.1 z_1.2 k z;.dct r.1 r.2)))) else none) = some o := q
  cases h0 : ownD δ1 i with
  | none => rw [h0] at q;cases q
  | some z0 =>
  obtain ⟨ks0,ds0⟩ := z0
  rw [h0] at q
  cases h2 : fk δ1 with
  | none => simp [h2] at q
  | some p2 =>
   obtain ⟨y,δ2⟩ := p2
   simp only [Option.bind_some,h2] at q
   cases h3 : keyD y with
   | none => simp [h3] at q
   | some kk =>
    simp only [Option.bind_some,h3] at q
    cases h4 : ownD δ2 i with
    | none => simp [h4] at q
    | some zz =>
     obtain ⟨ks,ds⟩ := zz
     simp only [h4,Option.bind_some] at q
     split at q
     ·rename_i hz
      cases q
      refine ⟨B,O,δ,z,δ1,S,h1,fun v1 H1 R1 => ?_⟩
      obtain ⟨l,e1,e2,_⟩ := R1.sta.ow i _ (ownD_some h0)
      refine ⟨.ref l,e2,B,O,δ1,y,δ2,R1.sta,h2,fun v2 H2 R2 => ?_⟩
      have ey := R2.rep.key h3
      subst ey
      obtain ⟨l',e3,_,w2⟩ := R2.sta.ow i _ (ownD_some h4)
      rw [e1] at e3
      cases e3
      generalize hw : Dat.dct ks ds = dd at w2
      cases w2 with
      | lst _ _ => cases hw
      | dct qd r =>
       cases hw
       have rv := R1.rep.fr R2.frm (fun a z => .inr z) fun a z => .inr z
       obtain ⟨g1,g2⟩ := putKD_rep (k := kk) rv hz.2 r
       refine ⟨l,_,rfl,DPut.k qd (by rw [sizeLine_eq];simpa using hz.1),k σ _ O (R2.sta.wrote e1 (fun z => z) ?_)⟩
       have w : Own K (Nn B O) (upd H2 l (.dK (putK _ kk v1))) l (.dct ((putK _ kk v1).map Prod.fst) _) := .dct upd_same (rep_upd_ownD qd (.inr ⟨i,e1⟩) g2)
       rw [g1] at w
       exact w
     ·cases q
end
end L2
namespace L2
open PySem PySem.Spec PyProof.Rows
section
variable {X : Cx} {K : PySem.W.Frag} {ml : List Nat} {e a b c : Expr} {es : List Expr} {pa ta ia pb tb ib pc tc ic pu bt bi ps bs : Bool} {fa fb fc f : VF} {B B' : Bs} {O : Nat -> Option Addr} {H H0 H1 H' : Hp} {σ : St} {δ δ' : Ev} {v : V} {d : Dat} {p : Addr} {pos : Pos}
def sPutL (i : Nat) (fi fv : VF) : VS := fun δ => (fv δ).bind fun p => (ownL p.2 i).bind fun _ => (fi p.2).bind fun q => (ownL q.2 i).bind fun ds => match q.1 with
 | .int k => (ixN ds.length k).map fun j => .nx (q.2.set i (.ow (.lst (ds.set j p.1))))
 | _ => none
theorem vs_put {i : Nat} {fi fv : VF} {pos' : Pos} (hK : X.K = K) (ho : PE X a (tVar i)) (hi : PE X b (TV K ml pa ta ia fi)) (hv : PE X c (TV K ml pb true true fv))
  (ha : ∀ v,assign (.Subscript a b pos') X.env v = (do
   let ov <- holding [v] (eval a X.env)
   let iv <- holding [v,ov] (eval b X.env)
   standAt pos'
   holding [v,ov,iv] (setItem ov iv v)
   release [v,ov,iv] []) := by intro _;rfl)
  (hs : swapsWithSole [.Subscript a b pos'] c pos.line X.env = pure false := by rfl) (hw : swappedStores [.Subscript a b pos'] c X.env = pure none := by rfl)
  (h1 : (assignEach [.Subscript a b pos'] X.env).map (·.2) = [assign (.Subscript a b pos') X.env] := by rfl) : PS X (.Assign [.Subscript a b pos'] c pos) (TSt K ml (sPutL i fi fv)) :=
 (ps_asg hv (pg_sub ho hi set_list ha) hs hw h1).imp fun D σ H ⟨B,O,δ,o,S,q,k⟩ => by
  unfold sPutL at q
  cases h1 : fv δ with
  | none => rw [h1] at q;cases q
  | some p1 =>
   obtain ⟨z,δ1⟩ := p1
   rw [h1] at q
   cases h0 : ownL δ1 i with
   | none => simp [h0] at q
   | some ds0 =>
    simp only [Option.bind_some,h0] at q
    cases h2 : fi δ1 with
    | none => simp [h2] at q
    | some p2 =>
     obtain ⟨y,δ2⟩ := p2
     simp only [Option.bind_some,h2] at q
     cases h4 : ownL δ2 i with
     | none => simp [h4] at q
     | some ds =>
      simp only [h4,Option.bind_some] at q
      cases y with
      | int kk =>
       have q : ((ixN ds.length kk).map fun j => Ou.nx (δ2.set i (.ow (.lst (ds.set j z))))) = some o := q
       cases h5 : ixN ds.length kk with
       | none => rw [h5] at q;cases q
       | some j =>
        rw [h5] at q
        cases q
        refine ⟨B,O,δ,z,δ1,S,h1,fun v1 H1 R1 => ?_⟩
        obtain ⟨l,e1,e2,_⟩ := R1.sta.ow i _ (ownL_some h0)
        refine ⟨.ref l,e2,B,O,δ1,_,δ2,R1.sta,h2,fun v2 H2 R2 => ?_⟩
        have ey : v2 = .int kk := by
         have r := R2.rep
         cases r
         rfl
        subst ey
        obtain ⟨l',e3,_,w2⟩ := R2.sta.ow i _ (ownL_some h4)
        rw [e1] at e3
        cases e3
        cases w2 with
        | lst hl r =>
         have rv := R1.rep.fr R2.frm (fun a z => .inr z) fun a z => .inr z
         refine ⟨l,_,kk,j,rfl,rfl,hl,by rw [r.length];exact h5,k σ _ O (R2.sta.wrote e1 (fun z => z) (.lst upd_same (rep_upd_own (ys := []) hl (.inr ⟨i,e1⟩) (r.set rv j))))⟩
      | _ => cases q
end
end L2
namespace L2
open PySem PySem.Spec PyProof.Rows
section
variable {prog : Program} {w : World} {A : Around} {E : Value -> Shared -> Prop} {s : Shared}
theorem next_tup_item {it t : Addr} {i : Nat} {items : Array Value} {x : Value} {Q : Value -> Shared -> Prop} (hit : s.heap.IsTupleIter it t i) (ht : s.heap.IsTuple t items) (hx : items[i]? = some x)
  (hQ : ∀ h',h'.IsTupleIter it t (i + 1) -> Heap.SameBut it s.heap h' -> Q x { s with heap := h' }) : wpAny (model prog w) A (Builtin.SmallTypes.nextOf (.ref it)) Q E s := by
 obtain ⟨oi,g1,c1,d1⟩ := id hit
 obtain ⟨ot,g2,_,nt,d2⟩ := ht
 unfold Builtin.SmallTypes.nextOf
 refine wpAny_bind (wpAny_callSpecial?_slot (name := Str.ofString "__next__") hit.typeIs F.slot_tuple_iterator_next (wpAny_call_entry F.slot_tuple_iterator_next hit.typeIs F.entry_tuple_iterator_next ?_ (F.args_tuple_iterator_next_1 _)))
 show wpAny _ _ (field (Value.ref it) 0 >>= _) _ _ s
 refine wpAny_bind (wpAny_field g1 d1 (x := .ref t) rfl ?_)
 show wpAny _ _ (if (Value.ref t == .none) = true then _ else _) _ _ s
 rw [if_neg (show ¬ (Value.ref t == Value.none) = true from Bool.false_ne_true)]
 show wpAny _ _ (field (Value.ref it) 1 >>= _) _ _ s
 refine wpAny_bind (wpAny_field g1 d1 (x := .int i 0) rfl ?_)
 show wpAny _ _ (seqItems? (Value.ref t) >>= _) _ _ s
 refine wpAny_bind (wpAny_seqItems g2 d2 ?_)
 simp only [hx,Int.toNat_natCast]
 refine wpAny_bind (wpAny_setField g1 d1 (by simp) (wpAny_pure ⟨x,rfl,wpAny_pure (hQ _ ⟨_,Heap.get?_update_self _ g1 (Obj.isFreed_of_fields (Obj.data_mapFields d1 _)),(Obj.cls_mapFields ..).trans c1,?_⟩ (Heap.SameBut.update ..))⟩))
 rw [Obj.data_mapFields d1]
 simp [rawInt]
theorem next_tup_end {it t : Addr} {i : Nat} {items : Array Value} {Q : Value -> Shared -> Prop} (hh : A.handled = none) (hit : s.heap.IsTupleIter it t i) (ht : s.heap.IsTuple t items) (hx : items[i]? = none)
  (hE : ∀ h' e,Heap.ExtBut it s.heap h' -> (∃ o,h'.get? e = some o /\ o.cls = .type "StopIteration") -> E (.ref e) { s with heap := h' }) : wpAny (model prog w) A (Builtin.SmallTypes.nextOf (.ref it)) Q E s := by
 obtain ⟨oi,g1,c1,d1⟩ := id hit
 obtain ⟨ot,g2,_,nt,d2⟩ := ht
 unfold Builtin.SmallTypes.nextOf
 refine wpAny_bind (wpAny_callSpecial?_slot (name := Str.ofString "__next__") hit.typeIs F.slot_tuple_iterator_next (wpAny_call_entry F.slot_tuple_iterator_next hit.typeIs F.entry_tuple_iterator_next ?_ (F.args_tuple_iterator_next_1 _)))
 show wpAny _ _ (field (Value.ref it) 0 >>= _) _ _ s
 refine wpAny_bind (wpAny_field g1 d1 (x := .ref t) rfl ?_)
 show wpAny _ _ (if (Value.ref t == .none) = true then _ else _) _ _ s
 rw [if_neg (show ¬ (Value.ref t == Value.none) = true from Bool.false_ne_true)]
 show wpAny _ _ (field (Value.ref it) 1 >>= _) _ _ s
 refine wpAny_bind (wpAny_field g1 d1 (x := .int i 0) rfl ?_)
 show wpAny _ _ (seqItems? (Value.ref t) >>= _) _ _ s
 refine wpAny_bind (wpAny_seqItems g2 d2 ?_)
 simp only [hx,Int.toNat_natCast]
 refine wpAny_bind (wpAny_rule (wpAny_bind (wpAny_setField g1 d1 (by simp) ?_)))
 show wpAny _ _ (newExc (Value.type "StopIteration") [] >>= _) _ _ _
 refine wpAny_bind ?_
 unfold newExc newTuple
 refine wpAny_bind (wpAny_newObj_type ?_ (by size_fits))
 refine wpAny_bind (m := firstArgMember _ _) (wpAny_of_eq (a := Value.none) (by first | rfl | (unfold firstArgMember;rfl)) (wpAny_newObj_type ?_ (by size_fits)))
 unfold raiseNew
 refine wpAny_bind (wpAny_handled ?_)
 first | rw [hh] | rw [show A.in1.handled = none from hh]
 refine wpAny_bind (wpAny_pure (wpAny_throw (hE _ _ (((Heap.SameBut.update ..).extBut.push _).push _) ⟨_,Heap.get?_push_size _ rfl,rfl⟩)))
end
theorem draws_tup {prog : Program} {w : World} {A : Around} (hh : A.handled = none) (it t : Addr) (hne : t ≠ it) (items : Array Value) :
  Draws prog w A it [it,t] items.size (fun i v => items[i]? = some v) (fun i h => h.IsTupleIter it t i /\ h.IsTuple t items) where
 live := fun _ _ st => let ⟨o,ho,_⟩ := st.1;⟨o,ho⟩
 frame := fun _ _ _ st hk => ⟨st.1.at fun o e => hk it (by simp) o e,by obtain ⟨o,ho,r⟩ := st.2;exact ⟨o,hk t (by simp) o ho,r⟩⟩
 item := fun i s Q E hi st hQ => next_tup_item st.1 st.2 (x := items[i]) (by simp [hi]) fun h' a b => hQ _ h' s.toks (by simp [hi]) ⟨a,st.2.extBut b.extBut hne⟩ b
 done := fun s Q E st hE => next_tup_end hh st.1 st.2 (by simp) hE
section
variable {X : Cx} {pins : List (Addr × Obj)} {σ : St} {H : Hp} {s : Shared} {h' : Heap}
theorem Inv.turnedL {t' : Nat} {fp : List Addr} (I : Inv X pins σ H s) (k : ∀ b o,b ∉ fp -> s.heap.get? b = some o -> h'.get? b = some o) (there : ∀ b ∈ fp,∃ o,h'.get? b = some o) (hf : ∀ b ∈ fp,FpOk X pins H b) : Inv X pins σ H { s with heap := h',toks := t' } := by
 have nit : ∀ b u,H b = some u -> b ∉ fp := fun b u e z => by rw [(hf b z).1] at e;cases e
 have hL : X.env.locals ∉ fp := fun z => (hf _ z).2.1 rfl
 refine I.step (g' := s.gens) (d' := s.drawn) (ch := fp) (fun b hb => ?_) (fun b o _ _ hc e _ => k b o hc e) (fun b o _ _ hc e _ => ⟨o.slots,k b o hc e⟩) (fun _ _ _ _ n => n)
  (fun b o hc e => ⟨o,k b o hc e⟩) (fun _ _ e => e) (fun _ _ _ e => e) (fun b ps e => ⟨#[],by rw [e];simp⟩) (fun m hm => ?_) (fun b u e => ?_) I.bare
 ·obtain ⟨_,f1,f2,f3,f4,f5⟩ := hf b hb
  exact ⟨f3,f1,f4,f5⟩
 ·obtain ⟨o,es,ep,ho,r⟩ := hm
  exact ⟨o,es,ep,k _ o hL ho,r⟩
 ·refine (I.hok b u e).stay (fun c v hc q => k c v ?_ q) (fun _ q => q) fun _ _ q => q
  rcases hc with z | z
  ·rw [z];exact nit b u e
  ·exact nit c _ z
end
section
variable {X : Cx} {pins : List (Addr × Obj)} {σ : St} {H : Hp} {s : Shared} {h' : Heap}
theorem Inv.turnedL' {t' : Nat} {fp : List Addr} (I : Inv X pins σ H s) (k : ∀ b o,b ∉ fp -> s.heap.get? b = some o -> h'.get? b = some o) (hf : ∀ b ∈ fp,FpOk X pins H b) : Inv X pins σ H { s with heap := h',toks := t' } := by
 have nit : ∀ b u,H b = some u -> b ∉ fp := fun b u e z => by rw [(hf b z).1] at e;cases e
 have hL : X.env.locals ∉ fp := fun z => (hf _ z).2.1 rfl
 refine I.step (g' := s.gens) (d' := s.drawn) (ch := fp) (fun b hb => ?_) (fun b o _ _ hc e _ => k b o hc e) (fun b o _ _ hc e _ => ⟨o.slots,k b o hc e⟩) (fun _ _ _ _ n => n)
  (fun b o hc e => ⟨o,k b o hc e⟩) (fun _ _ e => e) (fun _ _ _ e => e) (fun b ps e => ⟨#[],by rw [e];simp⟩) (fun m hm => ?_) (fun b u e => ?_) I.bare
 ·obtain ⟨_,f1,f2,f3,f4,f5⟩ := hf b hb
  exact ⟨f3,f1,f4,f5⟩
 ·obtain ⟨o,es,ep,ho,r⟩ := hm
  exact ⟨o,es,ep,k _ o hL ho,r⟩
 ·refine (I.hok b u e).stay (fun c v hc q => k c v ?_ q) (fun _ q => q) fun _ _ q => q
  rcases hc with z | z
  ·rw [z];exact nit b u e
  ·exact nit c _ z
end
def SqA (K : PySem.W.Frag) (tup : Bool) (H : Hp) (a : Addr) (xs : List V) : Prop := if tup = true then SqT K H a xs else SqL K H a xs
def Src (tup : Bool) (h : Heap) (a : Addr) (items : Array Value) : Prop := if tup = true then h.IsTuple a items else h.IsList a items
def IsIt (tup : Bool) (h : Heap) (it a : Addr) (i : Nat) : Prop := if tup = true then h.IsTupleIter it a i else h.IsListIter it a i
theorem drawsA {prog : Program} {w : World} {A : Around} (hh : A.handled = none) (tup : Bool) (it t : Addr) (hne : t ≠ it) (items : Array Value) :
  Draws prog w A it [it,t] items.size (fun i v => items[i]? = some v) (fun i h => IsIt tup h it t i /\ Src tup h t items) := by
 cases tup with
 | true => exact draws_tup hh it t hne items
 | false => exact Draws.list hh it t hne items
theorem Src.lt {tup : Bool} {h : Heap} {a : Addr} {items : Array Value} (s : Src tup h a items) : a < h.objs.size := by
 cases tup with
 | true => obtain ⟨o,e,_⟩ := s;exact Heap.lt_size e
 | false => obtain ⟨o,e,_⟩ := s;exact Heap.lt_size e
theorem Inv.srcA {X : Cx} {pins : List (Addr × Obj)} {σ : St} {H : Hp} {s : Shared} {a : Addr} {xs : List V} {tup : Bool} (I : Inv X pins σ H s) (h : SqA X.K tup H a xs) : ∃ its : List Value,Vals xs its /\ Src tup s.heap a its.toArray /\ xs.length <= sizeLine := by
 cases tup with
 | true =>
  obtain ⟨its,r,p,z⟩ := I.tuple h
  exact ⟨its,r,p,z⟩
 | false =>
  obtain ⟨its,r,p,z⟩ := I.list h
  exact ⟨its,r,p.isList,z⟩
theorem Inv.sq_inj {X : Cx} {pins : List (Addr × Obj)} {σ : St} {H : Hp} {s : Shared} {a : Addr} {xs ys : List V} {tup : Bool} (I : Inv X pins σ H s) (h : SqA X.K tup H a xs) (h' : SqA X.K tup H a ys) : xs = ys := by
 cases tup with
 | true => exact I.tuple_inj h h'
 | false => exact I.list_inj h h'
theorem IsIt.at {tup : Bool} {h h' : Heap} {it a : Addr} {i : Nat} (st : IsIt tup h it a i) (k : ∀ o,h.get? it = some o -> h'.get? it = some o) : IsIt tup h' it a i := by
 cases tup with
 | true => exact Heap.IsTupleIter.at st k
 | false => exact Heap.IsListIter.at st k
theorem IsIt.obj {tup : Bool} {h : Heap} {it a : Addr} {i : Nat} (st : IsIt tup h it a i) : ∃ o,h.get? it = some o /\ ∀ v,o.data ≠ .cell v := by
 cases tup with
 | true =>
  obtain ⟨o,e,c,d⟩ := st
  exact ⟨o,e,fun v z => by rw [d] at z;cases z⟩
 | false =>
  obtain ⟨o,e,c,d⟩ := st
  exact ⟨o,e,fun v z => by rw [d] at z;cases z⟩
def Ite (K : PySem.W.Frag) (tup : Bool) (a : Addr) : It :=
 ⟨fun i H => ∃ xs x,SqA K tup H a xs /\ xs[i]? = some x,fun i H v H' => ∃ p x,(∀ xs,SqA K tup H a xs -> xs[i]? = some x) /\ H p = none /\ H' = upd H p (.tup [.int i,x]) /\ v = .ref p,fun i H => ∃ xs,SqA K tup H a xs /\ xs.length = i⟩
theorem turn_enum {P : Program} {w : World} {K : PySem.W.Frag} {es : List Expr} {k : Nat} {pos : Pos} (tup : Bool) (a e it : Addr) (hei : e ≠ it) (hae : a ≠ e) (hai : a ≠ it) :
  Turn P w K (.Tuple es k pos) (Ite K tup a) [e,it] e (fun i h => (∃ old,IsEnum h e it i old) /\ IsIt tup h it a i) where
 mem := by simp
 obj := fun i h st b hb => by
  obtain ⟨⟨old,he⟩,hi⟩ := st
  rcases List.mem_cons.mp hb with z | z
  ·subst z
   exact ⟨_,he,fun v z => by cases z⟩
  ·have := List.mem_singleton.mp z
   subst this
   exact hi.obj
 keep := fun i h h' st kk => by
  obtain ⟨⟨old,he⟩,hi⟩ := st
  exact ⟨⟨old,kk e (by simp) _ he⟩,hi.at fun o q => kk it (by simp) o q⟩
 item := by
  intro X hP hw hK hc i pins s σ H E I hf st hg
  subst hP hw hK
  obtain ⟨⟨old,he⟩,hi⟩ := st
  obtain ⟨xs,x,hq,hx⟩ := hg
  obtain ⟨its,rv,src,hz⟩ := I.srcA hq
  have hlt : i < its.toArray.size := by
   have := (List.getElem?_eq_some_iff.mp hx).1
   have := rv.length
   simp only [List.size_toArray]
   omega
  have hh : X.A.in1.handled = none := I.ok.hd hc
  refine wpAny_pyNext_enum_itemD (drawsA hh tup it a hai its.toArray) he ⟨hi,src⟩ hlt hei (by simp [hei,Ne.symm hae]) fun u h1 tk hu ho st1 ht hsz hk => ⟨_,rfl,?_⟩
  refine wpAny_letOwnedTupleGo_enum (s := { s with heap := h1,toks := tk + 1 }) ho fun h2 he2 sb2 => ?_
  have sb2 : Heap.SameBut e h1 h2 := sb2
  obtain ⟨u',hu',ru⟩ := rv.get hx
  have hu : its.toArray[i]? = some u := hu
  rw [List.getElem?_toArray,hu'] at hu
  have hu := Option.some.inj hu
  subst hu
  have kk : ∀ b o,b ∉ [e,it] -> s.heap.get? b = some o -> h2.get? b = some o := fun b o hb q => by
   have h1b : b ≠ e := fun z => hb (by simp [z])
   have h2b : b ≠ it := fun z => hb (by simp [z])
   exact (sb2.2 b h1b).trans (hk b o h1b h2b q)
  have hnew : h2.get? s.heap.objs.size = some { cls := .type "tuple",data := .seq #[.int i tk,u'] } := (sb2.2 _ (Nat.ne_of_gt (Heap.lt_size he))).trans ht
  have hfree : H s.heap.objs.size = none := I.hok.fresh (Nat.le_refl _)
  have hlt2 : ∀ b ∈ [e,it],b < s.heap.objs.size := fun b hb => by
   rcases List.mem_cons.mp hb with z | z
   ·rw [z];exact Heap.lt_size he
   ·rw [List.mem_singleton.mp z]
    obtain ⟨o,q,_⟩ := hi.obj
    exact Heap.lt_size q
  have I0 : Inv X pins σ (upd H s.heap.objs.size (.tup [.int i,x])) { s with heap := s.heap.push { cls := .type "tuple",data := .seq #[.int i tk,u'] },toks := tk } :=
   I.laid (fun b o q => Heap.get?_push_of_some _ q) (Nat.le_refl _) ⟨by show 2 <= sizeLine;decide,[.int i tk,u'],.cons ⟨tk,rfl⟩ (.cons ru .nil),IsTup.new _ _⟩
  have I1 : Inv X pins σ (upd H s.heap.objs.size (.tup [.int i,x])) { s with heap := h2,toks := tk + 1 } := by
   refine Inv.turnedL (s := { s with heap := s.heap.push { cls := .type "tuple",data := .seq #[.int i tk,u'] },toks := tk }) (h' := h2) (t' := tk + 1) (fp := [e,it]) I0 (fun b o hb q => ?_) (fun b hb => ?_) fun b hb => ⟨by rw [upd_ne (Nat.ne_of_lt (hlt2 b hb))];exact (hf b hb).1,(hf b hb).2⟩
   ·by_cases hbn : b = s.heap.objs.size
    ·subst hbn
     have q : (s.heap.push { cls := .type "tuple",data := .seq #[.int i tk,u'] }).get? s.heap.objs.size = some o := q
     rw [Heap.get?_push_size _ rfl] at q
     cases q
     exact hnew
    ·exact kk b o hb ((Heap.get?_push_ne _ _ _ hbn).symm.trans q)
   ·rcases List.mem_cons.mp hb with z | z
    ·rw [z];exact ⟨_,he2⟩
    ·rw [List.mem_singleton.mp z]
     obtain ⟨o,q,_⟩ := st1.1.obj
     exact ⟨o,(sb2.2 it (Ne.symm hei)).trans q⟩
  refine ⟨.ref s.heap.objs.size,upd H s.heap.objs.size (.tup [.int i,x]),?_,rfl,⟨_,x,fun ys hy => by rw [I.sq_inj hy hq];exact hx,hfree,rfl,rfl⟩,⟨⟨_,by simpa using he2⟩,st1.1.at fun o q => (sb2.2 it (Ne.symm hei)).trans q⟩,fun b hb => ?_⟩
  ·exact I1
  ·rw [upd_ne (Nat.ne_of_lt (hlt2 b hb))]
   exact (hf b hb).1
 done := by
  intro X hP hw hK hc i pins s σ H E I hf st hg
  subst hP hw hK
  obtain ⟨⟨old,he⟩,hi⟩ := st
  obtain ⟨xs,hq,hx⟩ := hg
  obtain ⟨its,rv,src,hz⟩ := I.srcA hq
  have hh : X.A.in1.handled = none := I.ok.hd hc
  have hn : its.toArray.size = i := by rw [List.size_toArray,<- rv.length];exact hx
  refine wpAny_pyNext_enum_endD (drawsA hh tup it a hai its.toArray) he ⟨by rw [hn];exact hi,src⟩ fun h1 xb => ⟨rfl,?_⟩
  obtain ⟨f0,f1,f2,f3,f4,f5⟩ := hf it (by simp)
  exact I.turned (t' := s.toks) (fun b o hb q => xb b o hb q) f0 f1 f3 f4 f5
 self := fun _ i _ _ _ st h => wpAny_pyIter_enum st.1.choose_spec h
theorem enum_newT (a : Addr) (items : Array Value) (n : Nat) (dd : Option Addr) (sl : Array (Option Value)) :
  Meets (Builtin.«enumerate.__new__» ⟨[.type "enumerate",.ref a],[]⟩) (fun _ R s => s.heap.get? a = some { cls := .type "tuple",dict := dd,data := .seq items n,slots := sl } ∧
   R (.ok (.ret (.ref (s.heap.push { cls := .type "tuple_iterator",data := .fields #[.ref a,.int 0 0] }).objs.size)))
    { s with heap := (s.heap.push { cls := .type "tuple_iterator",data := .fields #[.ref a,.int 0 0] }).push { cls := .type "enumerate",data := .fields #[.none,.bool false,.ref s.heap.objs.size,rawInt 0,.none,.none] } }) := by
 refine .of_wp fun prog w A R s h => ?_
 obtain ⟨hp,g,d,tk,os⟩ := s
 obtain ⟨ha,h⟩ := h
 have hs := sub_enumerate
 have hT : Heap.IsTuple (Shared.heap ⟨hp,g,d,tk,os⟩) a items := ⟨_,ha,rfl,n,rfl⟩
 wp_walk using AutoSeq1.wpAny_loadPart' ha
 refine wpAny_stack_any fun st => wpAny_pure ?_
 split
 ·rename_i c _ _ _ _ _
  cases (c == Value.type "enumerate") <;> (wp_walk using AutoSeq1.wpAny_loadPart' ha,wpAny_pyIter_tuple hT;exact ⟨_,rfl,h⟩)
 ·wp_walk using AutoSeq1.wpAny_loadPart' ha,wpAny_pyIter_tuple hT
  exact ⟨_,rfl,h⟩
theorem call_enumA {prog : Program} {w : World} {A : Around} {E : Value -> Shared -> Prop} {s : Shared} {a : Addr} {items : Array Value} {tup : Bool} {Q : Value -> Shared -> Prop} (hs : Src tup s.heap a items)
  (h : ∀ h',IsEnum h' (s.heap.objs.size + 1) s.heap.objs.size 0 .none -> IsIt tup h' s.heap.objs.size a 0 -> (∀ b o,s.heap.get? b = some o -> h'.get? b = some o) -> Q (.ref (s.heap.objs.size + 1)) { s with heap := h' }) :
  wpAny (model prog w) A (call (.type "enumerate") [.ref a]) Q E s := by
 cases tup with
 | false => exact call_enumerate_list hs fun h' a1 a2 _ a4 => h h' a1 a2 a4
 | true =>
  obtain ⟨⟨cc,dd,dt,sl⟩,g1,hc,n,hd⟩ := hs
  replace hc : cc = .type "tuple" := hc
  replace hd : dt = .seq items n := hd
  subst hc hd
  have hz : (s.heap.push { cls := .type "tuple_iterator",data := .fields #[.ref a,.int 0 0] }).objs.size = s.heap.objs.size + 1 := Heap.size_push ..
  refine callType_new F.called_enumerate (by decide) (F.typeCall_enumerate_1 _) (F.newCall_enumerate_1 _) (fun obj => F.args_object_init_2 obj _) F.entry_enumerate_new (enum_newT a items n dd sl) ⟨g1,?_⟩
  show _ /\ _
  rw [hz]
  have he := Heap.get?_push_size (s.heap.push { cls := .type "tuple_iterator",data := .fields #[.ref a,.int 0 0] }) (o := { cls := .type "enumerate",data := .fields #[.none,.bool false,.ref s.heap.objs.size,rawInt 0,.none,.none] }) rfl
  rw [hz] at he
  exact ⟨⟨_,he,rfl⟩,h _ he ⟨_,Heap.get?_push_of_some _ (Heap.get?_push_size _ rfl),rfl,rfl⟩ fun b o x => Heap.get?_push_of_some _ (Heap.get?_push_of_some _ x)⟩
theorem bt_enumerate : bootBuiltins "enumerate" = some (.type "enumerate") := by decide +kernel
theorem bt_zip : bootBuiltins "zip" = some (.type "zip") := by decide +kernel
section
variable {X : Cx} {K : PySem.W.Frag} {ml : List Nat} {l : Expr} {pu : Bool} {f : VF} {p pos tpos : Pos} {es : List Expr} {tk : Nat} {δ : Ev}
def iEnu (K : PySem.W.Frag) (tl : TE) : TI := fun σ H R => tl σ H fun x H1 => ∃ a tup,x = .ref a /\ (∃ xs,SqA K tup H1 a xs) /\ R (Ite K tup a) H1
theorem pi_enum {tl : TE} (hg : Gl X "enumerate") (hm : X.mg "enumerate" = none) (hl : PE X l tl) (he : starEach (l :: []) X.env = (false,eval l X.env) :: starEach [] X.env := by rfl) :
  PI X (.Tuple es tk tpos) (.Call (.Name "enumerate" p) [l] [] pos) (iEnu X.K tl) := by
 intro pins s σ H R I h
 refine wpAny_Call_Name_kw (ld_blt I hg hm bt_enumerate ?_ (by decide) (by decide))
 refine PyProof.Rows.callWith_type1 (thn (pa_cons hl pa_nil he pos pins s σ H (fun vs H1 => match vs with
  | [x] => ∃ a tup,x = .ref a /\ (∃ xs,SqA X.K tup H1 a xs) /\ R (Ite X.K tup a) H1
  | _ => False) I h) fun us s1 ⟨vs,H1,I1,r1,q1⟩ => ?_) he (by rfl)
 match vs,r1,q1 with
 | [x],r1,q1 =>
  obtain ⟨a,tup,rfl,⟨xs,hq⟩,hR⟩ := q1
  obtain ⟨u,rfl,ru⟩ := vals1 r1
  cases ru
  obtain ⟨its,rv,src,_⟩ := I1.srcA hq
  refine call_enumA src fun h' he' hi' kp => ?_
  have I2 : Inv X pins σ H1 { s1 with heap := h' } := I1.kept (t' := s1.toks) kp
  have hn : ∀ b,s1.heap.objs.size <= b -> H1 b = none := fun b hb => I1.hok.fresh hb
  refine wpAny_pyIter_enum he' ⟨s1.heap.objs.size + 1,[s1.heap.objs.size + 1,s1.heap.objs.size],_,Ite X.K tup a,H1,rfl,I2,turn_enum tup a (s1.heap.objs.size + 1) s1.heap.objs.size (Nat.succ_ne_self _) (fun z => ?_) (fun z => ?_),⟨⟨_,he'⟩,hi'⟩,fun b hb => ?_,hR⟩
  ·have := src.lt
   rw [z] at this
   exact absurd this (Nat.not_lt_of_le (Nat.le_succ _))
  ·have := src.lt
   rw [z] at this
   exact absurd this (Nat.lt_irrefl _)
  ·have hb' : s1.heap.objs.size <= b := by
    rcases List.mem_cons.mp hb with z | z
    ·rw [z];exact Nat.le_succ _
    ·rw [List.mem_singleton.mp z];exact Nat.le_refl _
   exact I1.fpOk hb' (hn b hb')
theorem kiEnum (h : X.K = K) {tl : TE} (hg : Gl X "enumerate") (hm : X.mg "enumerate" = none) (hl : PE X l tl) (he : starEach (l :: []) X.env = (false,eval l X.env) :: starEach [] X.env := by rfl) :
  PI X (.Tuple es tk tpos) (.Call (.Name "enumerate" p) [l] [] pos) (iEnu K tl) := by subst h;exact pi_enum hg hm hl he
def enuD : Nat -> List Dat -> List Dat
 | _,[] => []
 | i,d :: ds => .tup [.int i,d] :: enuD (i + 1) ds
def iEnum (f : VF) : VI := fun δ => (f δ).bind fun p => (seqD p.1).map fun ds => (enuD 0 ds,p.2)
theorem enuD_get : ∀ {ds : List Dat} {n i : Nat} {d : Dat},(enuD n ds)[i]? = some d -> ∃ x,ds[i]? = some x /\ d = .tup [.int (n + i : Nat),x]
 | [],_,_,_,h => by simp [enuD] at h
 | x :: ds,n,0,d,h => by simp [enuD] at h;exact ⟨x,rfl,h.symm⟩
 | x :: ds,n,i + 1,d,h => by
  have h : (enuD (n + 1) ds)[i]? = some d := by simpa [enuD] using h
  obtain ⟨y,h1,h2⟩ := enuD_get h
  exact ⟨y,by simpa using h1,by rw [h2,show n + 1 + i = n + (i + 1) by omega]⟩
theorem enuD_len : ∀ (ds : List Dat) (n : Nat),(enuD n ds).length = ds.length
 | [],_ => rfl
 | _ :: ds,n => congrArg (· + 1) (enuD_len ds (n + 1))
theorem walk_enum {a : Addr} {tup : Bool} {ds : List Dat} : Walk K (Ite K tup a) [(.ref a,if tup = true then .tup ds else .lst ds)] (enuD 0 ds) := by
 intro N H h
 have r := h _ (List.mem_singleton.mpr rfl)
 have fin : ∀ xs,SqA K tup H a xs -> RepA K N H xs ds -> (∀ (i : Nat) (d : Dat),(enuD 0 ds)[i]? = some d -> (Ite K tup a).go i H /\ ∀ x H',(Ite K tup a).yld i H x H' -> Same H H' /\ Rep K N H' N x d) /\ (Ite K tup a).stop (enuD 0 ds).length H := fun xs sq r => by
  refine ⟨fun i d e => ?_,xs,sq,by rw [r.length,enuD_len]⟩
  obtain ⟨z,e1,rfl⟩ := enuD_get e
  obtain ⟨x,e2,r1⟩ := r.get e1
  refine ⟨⟨xs,x,sq,e2⟩,fun y H' hy => ?_⟩
  obtain ⟨p,x',e3,hp,rfl,rfl⟩ := hy
  have := e3 xs sq
  rw [e2] at this
  cases this
  refine ⟨same_upd hp,.tup (SqT.of upd_same) (.cons ?_ (.cons (r1.same (same_upd hp)) .nil))⟩
  rw [Nat.zero_add]
  exact .int _
 cases tup with
 | true =>
  have r : Rep K N H N (.ref a) (.tup ds) := r
  cases r with
  | tup sq r => exact fin _ sq r
 | false =>
  have r : Rep K N H N (.ref a) (.lst ds) := r
  cases r with
  | lst q n r => exact fin _ (SqL.of q) r
  | fzl q r => exact fin _ q.sq r
theorem vi_enum (hK : X.K = K) (hg : Gl X "enumerate") (hm : X.mg "enumerate" = none) (h : PE X l (TV K ml pu true true f)) (he : starEach (l :: []) X.env = (false,eval l X.env) :: starEach [] X.env := by rfl) :
  PI X (.Tuple es tk tpos) (.Call (.Name "enumerate" p) [l] [] pos) (TIV K ml pu (iEnum f)) := (kiEnum (K := K) hK hg hm h he).imp fun σ H R ⟨B,O,δ,ds,δ',S,q,k⟩ => by
 unfold iEnum at q
 cases h1 : f δ with
 | none => rw [h1] at q;cases q
 | some p =>
  obtain ⟨x,δ1⟩ := p
  rw [h1] at q
  refine ⟨B,O,δ,x,δ1,S,h1,fun v H1 R1 => ?_⟩
  cases x with
  | lst ds' =>
   cases q
   obtain ⟨a,xs,rfl,sq,r⟩ := R1.rep.lstE
   exact ⟨a,false,rfl,⟨xs,sq⟩,k _ [(.ref a,.lst ds')] H1 (R1.sta.keepV fun p hp => by rw [List.mem_singleton.mp hp];exact R1.rep) R1.frm R1.pur (walk_enum (tup := false))⟩
  | tup ds' =>
   cases q
   obtain ⟨a,xs,rfl,sq,r⟩ := R1.rep.tupE
   exact ⟨a,true,rfl,⟨xs,sq⟩,k _ [(.ref a,.tup ds')] H1 (R1.sta.keepV fun p hp => by rw [List.mem_singleton.mp hp];exact R1.rep) R1.frm R1.pur (walk_enum (tup := true))⟩
  | _ => cases q
end
end L2
namespace L2
open PySem PySem.Spec PyProof.Rows
section
variable {prog : Program} {w : World} {A : Around} {E : Value -> Shared -> Prop} {s : Shared}
theorem IsIt.ext {tup : Bool} {h h' : Heap} {it a b : Addr} {i : Nat} (x : IsIt tup h it a i) (hs : Heap.ExtBut b h h') (hne : it ≠ b) : IsIt tup h' it a i := x.at fun o e => hs _ _ hne e
theorem Src.ext {tup : Bool} {h h' : Heap} {a b : Addr} {xs : Array Value} (x : Src tup h a xs) (hs : Heap.ExtBut b h h') (hne : a ≠ b) : Src tup h' a xs := by
 cases tup with
 | true => obtain ⟨o,e,r⟩ := x;exact ⟨o,hs _ _ hne e,r⟩
 | false => obtain ⟨o,e,r⟩ := x;exact ⟨o,hs _ _ hne e,r⟩
theorem nextA_item {tup : Bool} {it a : Addr} {i : Nat} {xs : Array Value} {x : Value} {Q : Value -> Shared -> Prop} (hi : IsIt tup s.heap it a i) (hs : Src tup s.heap a xs) (hx : xs[i]? = some x)
  (hQ : ∀ h',IsIt tup h' it a (i + 1) -> Heap.SameBut it s.heap h' -> Q x { s with heap := h' }) : wpAny (model prog w) A (Builtin.SmallTypes.nextOf (.ref it)) Q E s := by
 cases tup with
 | true => exact next_tup_item hi hs hx hQ
 | false => exact wpAny_nextOf_list_item hi hs hx hQ
theorem nextA_end {tup : Bool} {it a : Addr} {i : Nat} {xs : Array Value} {Q : Value -> Shared -> Prop} (hh : A.handled = none) (hi : IsIt tup s.heap it a i) (hs : Src tup s.heap a xs) (hx : xs[i]? = none)
  (hE : ∀ h' e,Heap.ExtBut it s.heap h' -> (∃ o,h'.get? e = some o /\ o.cls = .type "StopIteration") -> E (.ref e) { s with heap := h' }) : wpAny (model prog w) A (Builtin.SmallTypes.nextOf (.ref it)) Q E s := by
 cases tup with
 | true => exact next_tup_end hh hi hs hx hE
 | false => exact wpAny_nextOf_list_end hh hi hs hx hE
structure ZSt (t1 t2 : Bool) (h : Heap) (z p q i1 i2 a b : Addr) (k : Nat) (f0 : Value) : Prop where
 zip : IsZip h z p q f0
 its : IsPair h p (.ref i1) (.ref i2)
 res : ∃ u v,IsPair h q u v
 one : IsIt t1 h i1 a k
 two : IsIt t2 h i2 b k
theorem zipA_item {t1 t2 : Bool} {z p q i1 i2 a b : Addr} {k : Nat} {xs ys : Array Value} {x y : Value} {Q : Value -> Shared -> Prop} (D : ZipApart z p q i1 i2 a b) (S : ZSt t1 t2 s.heap z p q i1 i2 a b k .none)
  (s1 : Src t1 s.heap a xs) (s2 : Src t2 s.heap b ys) (hx : xs[k]? = some x) (hy : ys[k]? = some y)
  (hQ : ∀ h',ZSt t1 t2 h' z p q i1 i2 a b (k + 1) (rawInt s.heap.objs.size) -> IsPair h' s.heap.objs.size x y -> h'.objs.size = s.heap.objs.size + 1 →
   (∀ c o,c ≠ z -> c ≠ q -> c ≠ i1 -> c ≠ i2 -> s.heap.get? c = some o -> h'.get? c = some o) -> Q (.ref s.heap.objs.size) { s with heap := h' }) :
  wpAny (model prog w) A (Builtin.«zip.__next__» ⟨[.ref z],[]⟩) (fun fin s' => ∃ v,fin = .done (.ret v) /\ Q v s') E s := by
 obtain ⟨gz,gi,⟨u,v,gr⟩,g1,g2⟩ := S
 show wpAny _ _ (field (Value.ref z) 2 >>= _) _ _ _
 refine wpAny_bind (wpAny_field gz rfl (x := .bool false) rfl ?_)
 show wpAny _ _ (field (Value.ref z) 3 >>= _) _ _ _
 refine wpAny_bind (wpAny_field gz rfl (x := .ref p) rfl (wpAny_bind (wpAny_seqItems gi rfl ?_)))
 show wpAny _ _ (Builtin.SmallTypes.ownedTupleIsFree (Value.ref z) >>= _) _ _ _
 refine wpAny_bind ?_
 (unfold Builtin.SmallTypes.ownedTupleIsFree)
 refine wpAny_bind (wpAny_field gz rfl (x := .none) rfl (wpAny_pure ?_))
 simp only [if_true]
 refine wpAny_bind (wpAny_rule (wpAny_bind (wpAny_field gz rfl (x := .ref q) rfl (wpAny_bind (wpAny_setField_rec gz (by simp) fun ha za ba => wpAny_bind ?_)))))
 have za : IsZip ha z p q .ellipsis := za
 simp only [List.zipIdx_nil,List.zipIdx_cons,List.forIn_nil,List.forIn_cons]
 refine wpAny_bind (wpAny_bind (wpAny_onRaise ?_))
 show wpAny _ _ (Builtin.SmallTypes.nextOf (Value.ref i1) >>= _) _ _ _
 refine wpAny_bind (nextA_item (g1.ext ba.extBut D.i1z) (s1.ext ba.extBut D.l1z) hx fun hb n1 bb => wpAny_pure ?_)
 have rb : IsPair hb q u v := bb.extBut _ _ D.TOi1 (ba.extBut _ _ D.TOz gr)
 refine wpAny_bind (wpAny_seqItems rb rfl (wpAny_bind (wpAny_updateSeq_pair rb fun hc rc bc => wpAny_bind (wpAny_letGo (wpAny_pure ?_)))))
 have rc : IsPair hc q x v := rc
 refine wpAny_bind (wpAny_bind (wpAny_onRaise ?_))
 show wpAny _ _ (Builtin.SmallTypes.nextOf (Value.ref i2) >>= _) _ _ _
 refine wpAny_bind (nextA_item (((g2.ext ba.extBut D.i2z).ext bb.extBut D.i12.symm).ext bc.extBut D.TOi2.symm) (((s2.ext ba.extBut D.l2z).ext bb.extBut D.l2i1).ext bc.extBut D.l2TO) hy fun hd n2 bd => wpAny_pure ?_)
 have rd : IsPair hd q x v := bd.extBut _ _ D.TOi2 rc
 refine wpAny_bind (wpAny_seqItems rd rfl (wpAny_bind (wpAny_updateSeq_pair rd fun he re be => wpAny_bind (wpAny_letGo (wpAny_pure (wpAny_pure ?_))))))
 have re : IsPair he q x y := re
 refine wpAny_bind (wpAny_seqItems re rfl (wpAny_bind (wpAny_newTuple ?_)))
 have size : he.objs.size = s.heap.objs.size := by rw [be.1,bd.1,bc.1,bb.1,ba.1]
 have ze : IsZip he z p q .ellipsis := be.extBut _ _ D.TOz.symm (bd.extBut _ _ D.i2z.symm (bc.extBut _ _ D.TOz.symm (bb.extBut _ _ D.i1z.symm za)))
 have ke : ∀ c o,c ≠ z -> c ≠ q -> c ≠ i1 -> c ≠ i2 -> s.heap.get? c = some o -> he.get? c = some o := fun c o c1 c2 c3 c4 g => be.extBut _ _ c2 (bd.extBut _ _ c4 (bc.extBut _ _ c2 (bb.extBut _ _ c3 (ba.extBut _ _ c1 g))))
 have e1 : IsIt t1 he i1 a (k + 1) := ((n1.ext bc.extBut D.TOi1.symm).ext bd.extBut D.i12).ext be.extBut D.TOi1.symm
 have e2 : IsIt t2 he i2 b (k + 1) := n2.ext be.extBut D.TOi2.symm
 have ie : IsPair he p (.ref i1) (.ref i2) := ke _ _ D.TIz D.TITO D.TIi1 D.TIi2 gi
 have zlt : z < he.objs.size := Heap.lt_size ze
 show wpAny _ _ (Builtin.SmallTypes.ownedTupleHandOut (Value.ref z) (.ref he.objs.size) >>= _) _ _ _
 refine wpAny_bind ?_
 (unfold Builtin.SmallTypes.ownedTupleHandOut)
 have zf : IsZip (he.push { cls := .type "tuple",data := .seq #[x,y] }) z p q .ellipsis := Heap.get?_push_of_some _ ze
 refine wpAny_bind (wpAny_setField_rec zf (by simp) fun hg zg bg => ?_)
 have zg : IsZip hg z p q (rawInt he.objs.size) := zg
 refine wpAny_setField_rec zg (by simp) fun hk zk bk => ?_
 have zk : IsZip hk z p q (rawInt he.objs.size) := zk
 have up : ∀ c o,c ≠ z -> he.get? c = some o -> hk.get? c = some o := fun c o c1 g => bk.extBut _ _ c1 (bg.extBut _ _ c1 (Heap.get?_push_of_some _ g))
 have tk : IsPair hk he.objs.size x y := bk.extBut _ _ (Nat.ne_of_gt zlt) (bg.extBut _ _ (Nat.ne_of_gt zlt) (Heap.get?_push_size _ rfl))
 have szk : hk.objs.size = he.objs.size + 1 := by rw [bk.1,bg.1,Heap.size_push]
 rw [size] at zk tk szk
 refine wpAny_pure ⟨_,rfl,?_⟩
 show Q (.ref he.objs.size) _
 rw [size]
 exact hQ hk ⟨zk,up _ _ D.TIz ie,⟨x,y,up _ _ D.TOz re⟩,e1.at fun o g => up _ o D.i1z g,e2.at fun o g => up _ o D.i2z g⟩ tk szk fun c o c1 c2 c3 c4 g => up c o c1 (ke c o c1 c2 c3 c4 g)
theorem zipA_end {t1 t2 : Bool} {z p q i1 i2 a b : Addr} {k : Nat} {xs ys : Array Value} {Q : Fin -> Shared -> Prop} (hh : A.handled = none) (D : ZipApart z p q i1 i2 a b) (S : ZSt t1 t2 s.heap z p q i1 i2 a b k .none)
  (s1 : Src t1 s.heap a xs) (s2 : Src t2 s.heap b ys) (hend : xs[k]? = none ∨ ys[k]? = none)
  (hE : ∀ h' e,(∀ c o,c ≠ z -> c ≠ q -> c ≠ i1 -> c ≠ i2 -> s.heap.get? c = some o -> h'.get? c = some o) -> (∃ o,h'.get? e = some o /\ o.cls = .type "StopIteration") -> E (.ref e) { s with heap := h' }) :
  wpAny (model prog w) A (Builtin.«zip.__next__» ⟨[.ref z],[]⟩) Q E s := by
 obtain ⟨gz,gi,⟨u,v,gr⟩,g1,g2⟩ := S
 show wpAny _ _ (field (Value.ref z) 2 >>= _) _ _ _
 refine wpAny_bind (wpAny_field gz rfl (x := .bool false) rfl ?_)
 show wpAny _ _ (field (Value.ref z) 3 >>= _) _ _ _
 refine wpAny_bind (wpAny_field gz rfl (x := .ref p) rfl (wpAny_bind (wpAny_seqItems gi rfl ?_)))
 show wpAny _ _ (Builtin.SmallTypes.ownedTupleIsFree (Value.ref z) >>= _) _ _ _
 refine wpAny_bind ?_
 (unfold Builtin.SmallTypes.ownedTupleIsFree)
 refine wpAny_bind (wpAny_field gz rfl (x := .none) rfl (wpAny_pure ?_))
 simp only [if_true]
 refine wpAny_bind (wpAny_rule (wpAny_bind (wpAny_field gz rfl (x := .ref q) rfl (wpAny_bind (wpAny_setField_rec gz (by simp) fun ha za ba => wpAny_bind ?_)))))
 have za : IsZip ha z p q .ellipsis := za
 simp only [List.zipIdx_nil,List.zipIdx_cons,List.forIn_nil,List.forIn_cons]
 refine wpAny_bind (wpAny_bind (wpAny_onRaise ?_))
 show wpAny _ _ (Builtin.SmallTypes.nextOf (Value.ref i1) >>= _) _ _ _
 cases hx : xs[k]? with
 | none =>
  refine wpAny_bind (nextA_end hh (g1.ext ba.extBut D.i1z) (s1.ext ba.extBut D.l1z) hx fun hb e bb ⟨oe,ge,ce⟩ => ?_)
  have zb : IsZip hb z p q .ellipsis := bb _ _ D.i1z.symm za
  have ne : e ≠ z := fun w => by subst w;rw [zb] at ge;cases ge;simp at ce
  exact wpAny_setField_rec zb (by simp) fun hc _ bc => hE hc e (fun c o c1 _ c3 _ g => bc.extBut _ _ c1 (bb _ _ c3 (ba.extBut _ _ c1 g))) ⟨oe,bc.extBut _ _ ne ge,ce⟩
 | some x =>
  have hy : ys[k]? = none := hend.resolve_left fun w => by rw [hx] at w;cases w
  refine wpAny_bind (nextA_item (g1.ext ba.extBut D.i1z) (s1.ext ba.extBut D.l1z) hx fun hb n1 bb => wpAny_pure ?_)
  have rb : IsPair hb q u v := bb.extBut _ _ D.TOi1 (ba.extBut _ _ D.TOz gr)
  refine wpAny_bind (wpAny_seqItems rb rfl (wpAny_bind (wpAny_updateSeq_pair rb fun hc rc bc => wpAny_bind (wpAny_letGo (wpAny_pure (wpAny_bind (wpAny_bind (wpAny_onRaise ?_))))))))
  show wpAny _ _ (Builtin.SmallTypes.nextOf (Value.ref i2) >>= _) _ _ _
  refine wpAny_bind (nextA_end hh (((g2.ext ba.extBut D.i2z).ext bb.extBut D.i12.symm).ext bc.extBut D.TOi2.symm) (((s2.ext ba.extBut D.l2z).ext bb.extBut D.l2i1).ext bc.extBut D.l2TO) hy fun hd e bd ⟨oe,ge,ce⟩ => ?_)
  have zd : IsZip hd z p q .ellipsis := bd _ _ D.i2z.symm (bc.extBut _ _ D.TOz.symm (bb.extBut _ _ D.i1z.symm za))
  have ne : e ≠ z := fun w => by subst w;rw [zd] at ge;cases ge;simp at ce
  exact wpAny_setField_rec zd (by simp) fun hf _ bf => hE hf e (fun c o c1 c2 c3 c4 g => bf.extBut _ _ c1 (bd _ _ c4 (bc.extBut _ _ c2 (bb.extBut _ _ c3 (ba.extBut _ _ c1 g))))) ⟨oe,bf.extBut _ _ ne ge,ce⟩
theorem nextZ_item {t1 t2 : Bool} {z p q i1 i2 a b : Addr} {k : Nat} {xs ys : Array Value} {x y : Value} {Q : Option Value -> Shared -> Prop} (D : ZipApart z p q i1 i2 a b) (S : ZSt t1 t2 s.heap z p q i1 i2 a b k .none)
  (s1 : Src t1 s.heap a xs) (s2 : Src t2 s.heap b ys) (hx : xs[k]? = some x) (hy : ys[k]? = some y)
  (hQ : ∀ h',ZSt t1 t2 h' z p q i1 i2 a b (k + 1) (rawInt s.heap.objs.size) -> IsPair h' s.heap.objs.size x y -> h'.objs.size = s.heap.objs.size + 1 →
   (∀ c o,c ≠ z -> c ≠ q -> c ≠ i1 -> c ≠ i2 -> s.heap.get? c = some o -> h'.get? c = some o) -> Q (some (.ref s.heap.objs.size)) { s with heap := h' }) : wpAny (model prog w) A (pyNext (.ref z)) Q E s := by
 have ty : s.TypeIs (.ref z) "zip" := ⟨_,S.zip,rfl⟩
 (unfold pyNext)
 exact wpAny_bind (wpAny_attempt (wpAny_callSpecial?_slot (name := Str.ofString "__next__") ty F.slot_zip_next (wpAny_call_entry F.slot_zip_next ty F.entry_zip_next (zipA_item D S s1 s2 hx hy fun h' a1 a2 a3 a4 => wpAny_pure (hQ h' a1 a2 a3 a4)) (F.args_zip_next_1 _))))
theorem nextZ_end {t1 t2 : Bool} {z p q i1 i2 a b : Addr} {k : Nat} {xs ys : Array Value} {Q : Option Value -> Shared -> Prop} (hh : A.handled = none) (D : ZipApart z p q i1 i2 a b) (S : ZSt t1 t2 s.heap z p q i1 i2 a b k .none)
  (s1 : Src t1 s.heap a xs) (s2 : Src t2 s.heap b ys) (hend : xs[k]? = none ∨ ys[k]? = none)
  (hQ : ∀ h',(∀ c o,c ≠ z -> c ≠ q -> c ≠ i1 -> c ≠ i2 -> s.heap.get? c = some o -> h'.get? c = some o) -> Q none { s with heap := h' }) : wpAny (model prog w) A (pyNext (.ref z)) Q E s := by
 have ty : s.TypeIs (.ref z) "zip" := ⟨_,S.zip,rfl⟩
 (unfold pyNext)
 refine wpAny_bind (wpAny_attempt (wpAny_callSpecial?_slot (name := Str.ofString "__next__") ty F.slot_zip_next (wpAny_call_entry F.slot_zip_next ty F.entry_zip_next (zipA_end hh D S s1 s2 hend fun h' e kk ⟨o,ge,ce⟩ => ?_) (F.args_zip_next_1 _))))
 exact wpAny_bind (wpAny_isInstance (T := "StopIteration") (b := true) ⟨o,ge,ce⟩ isSubtype_stop (wpAny_pure (hQ _ kk)))
end
def itCls (tup : Bool) : String := if tup = true then "tuple_iterator" else "list_iterator"
abbrev zO (tup : Bool) (a : Addr) : Obj := { cls := .type (itCls tup),data := .fields #[.ref a,.int 0 0] }
theorem iterA {prog : Program} {w : World} {A : Around} {E : Value -> Shared -> Prop} {s : Shared} {tup : Bool} {a : Addr} {xs : Array Value} {Q : Value -> Shared -> Prop} (h : Src tup s.heap a xs) (hQ : Q (.ref s.heap.objs.size) { s with heap := s.heap.push (zO tup a) }) :
  wpAny (model prog w) A (pyIter (.ref a)) Q E s := by
 cases tup with
 | true => exact wpAny_pyIter_tuple h hQ
 | false => exact wpAny_pyIter_list h hQ
theorem Src.push {tup : Bool} {h : Heap} {a : Addr} {xs : Array Value} (x : Src tup h a xs) (o : Obj) : Src tup (h.push o) a xs := by
 cases tup with
 | true => obtain ⟨o,e,r⟩ := x;exact ⟨o,Heap.get?_push_of_some _ e,r⟩
 | false => obtain ⟨o,e,r⟩ := x;exact ⟨o,Heap.get?_push_of_some _ e,r⟩
theorem zip_newA (t1 t2 : Bool) (a b : Addr) (xs ys : Array Value) :
  Meets (Builtin.«zip.__new__» ⟨[.type "zip",.ref a,.ref b],[]⟩) (fun _ R s => Src t1 s.heap a xs /\ Src t2 s.heap b ys /\ ∀ h1 h2 h3 h4 h5,h1 = s.heap.push (zO t1 a) -> h2 = h1.push (zO t2 b) -> h3 = h2.push { cls := .type "tuple",data := .seq #[.ref s.heap.objs.size,.ref h1.objs.size] } →
   h4 = h3.push { cls := .type "tuple",data := .seq #[.none,.none] } -> h5 = h4.push { cls := .type "zip",data := .fields #[.none,.bool false,.bool false,.ref h2.objs.size,.ref h3.objs.size] } -> R (.ok (.ret (.ref h4.objs.size))) { s with heap := h5 }) := by
 refine .of_wp fun prog w A R s h => ?_
 obtain ⟨hp,g,d,tk,os⟩ := s
 obtain ⟨g1,g2,h⟩ := h
 have hs := sub_zip
 have k1 : Src t1 (Shared.heap ⟨hp,g,d,tk,os⟩) a xs := g1
 have k2 : Src t2 (Shared.heap ⟨hp.push (zO t1 a),g,d,tk,os⟩) b ys := Src.push g2 _
 wp_walk using iterA k1,iterA k2
 exact ⟨_,rfl,h _ _ _ _ _ rfl rfl rfl rfl rfl⟩
theorem call_zipA {prog : Program} {w : World} {A : Around} {E : Value -> Shared -> Prop} {s : Shared} {t1 t2 : Bool} {a b : Addr} {xs ys : Array Value} {Q : Value -> Shared -> Prop} (g1 : Src t1 s.heap a xs) (g2 : Src t2 s.heap b ys)
  (h : ∀ h',ZSt t1 t2 h' (s.heap.objs.size + 4) (s.heap.objs.size + 2) (s.heap.objs.size + 3) s.heap.objs.size (s.heap.objs.size + 1) a b 0 .none -> (∀ c o,s.heap.get? c = some o -> h'.get? c = some o) -> Q (.ref (s.heap.objs.size + 4)) { s with heap := h' }) :
  wpAny (model prog w) A (call (.type "zip") [.ref a,.ref b]) Q E s := by
 refine callType_new F.called_zip (by decide) (F.typeCall_zip_2 _ _) (F.newCall_zip_2 _ _) (fun obj => F.args_object_init_3 obj _ _) F.entry_zip_new (zip_newA t1 t2 a b xs ys) ⟨g1,g2,?_⟩
 rintro h1 h2 h3 h4 h5 e1 e2 e3 e4 e5
 have z1 : h1.objs.size = s.heap.objs.size + 1 := by rw [e1,Heap.size_push]
 have z2 : h2.objs.size = s.heap.objs.size + 2 := by rw [e2,Heap.size_push,z1]
 have z3 : h3.objs.size = s.heap.objs.size + 3 := by rw [e3,Heap.size_push,z2]
 have z4 : h4.objs.size = s.heap.objs.size + 4 := by rw [e4,Heap.size_push,z3]
 have u4 : ∀ c o,h4.get? c = some o -> h5.get? c = some o := fun c o q => by rw [e5];exact Heap.get?_push_of_some _ q
 have u3 : ∀ c o,h3.get? c = some o -> h5.get? c = some o := fun c o q => u4 c o (by rw [e4];exact Heap.get?_push_of_some _ q)
 have u2 : ∀ c o,h2.get? c = some o -> h5.get? c = some o := fun c o q => u3 c o (by rw [e3];exact Heap.get?_push_of_some _ q)
 have u1 : ∀ c o,h1.get? c = some o -> h5.get? c = some o := fun c o q => u2 c o (by rw [e2];exact Heap.get?_push_of_some _ q)
 have u0 : ∀ c o,s.heap.get? c = some o -> h5.get? c = some o := fun c o q => u1 c o (by rw [e1];exact Heap.get?_push_of_some _ q)
 have o5 : h5.get? h4.objs.size = some { cls := .type "zip",data := .fields #[.none,.bool false,.bool false,.ref h2.objs.size,.ref h3.objs.size] } := by rw [e5];exact Heap.get?_push_size _ rfl
 have o4 : h5.get? h3.objs.size = some { cls := .type "tuple",data := .seq #[.none,.none] } := u4 _ _ (by rw [e4];exact Heap.get?_push_size _ rfl)
 have o3 : h5.get? h2.objs.size = some { cls := .type "tuple",data := .seq #[.ref s.heap.objs.size,.ref h1.objs.size] } := u3 _ _ (by rw [e3];exact Heap.get?_push_size _ rfl)
 have o2 : h5.get? h1.objs.size = some (zO t2 b) := u2 _ _ (by rw [e2];exact Heap.get?_push_size _ rfl)
 have o1 : h5.get? s.heap.objs.size = some (zO t1 a) := u1 _ _ (by rw [e1];exact Heap.get?_push_size _ rfl)
 show _ /\ _
 rw [z2,z3,z4] at o5
 rw [z3] at o4
 rw [z1,z2] at o3
 rw [z1] at o2
 rw [z4]
 refine ⟨⟨_,o5,rfl⟩,h _ ⟨o5,o3,⟨_,_,o4⟩,?_,?_⟩ u0⟩
 ·cases t1 with
  | true => exact ⟨_,o1,rfl,rfl⟩
  | false => exact ⟨_,o1,rfl,rfl⟩
 ·cases t2 with
  | true => exact ⟨_,o2,rfl,rfl⟩
  | false => exact ⟨_,o2,rfl,rfl⟩
theorem zapart (n a b : Nat) (ha : a < n) (hb : b < n) : ZipApart (n + 4) (n + 2) (n + 3) n (n + 1) a b := by
 have f : ∀ x y : Nat,x < y ∨ y < x -> x ≠ y := fun x y h => by omega
 exact ⟨f _ _ (by omega),f _ _ (by omega),f _ _ (by omega),f _ _ (by omega),f _ _ (by omega),f _ _ (by omega),f _ _ (by omega),f _ _ (by omega),f _ _ (by omega),f _ _ (by omega),f _ _ (by omega),f _ _ (by omega),f _ _ (by omega),f _ _ (by omega),f _ _ (by omega),f _ _ (by omega),f _ _ (by omega),f _ _ (by omega)⟩
def Itz (K : PySem.W.Frag) (t1 t2 : Bool) (a b : Addr) : It :=
  ⟨fun i H => ∃ xs ys x y,SqA K t1 H a xs /\ SqA K t2 H b ys /\ xs[i]? = some x /\ ys[i]? = some y,
   fun i H v H' => ∃ p x y,(∀ xs,SqA K t1 H a xs -> xs[i]? = some x) /\ (∀ ys,SqA K t2 H b ys -> ys[i]? = some y) /\ H p = none /\ H' = upd H p (.tup [x,y]) /\ v = .ref p,
   fun i H => ∃ xs ys,SqA K t1 H a xs /\ SqA K t2 H b ys /\ (xs.length <= i ∨ ys.length <= i)⟩
theorem turn_zip {P : Program} {w : World} {K : PySem.W.Frag} {es : List Expr} {k : Nat} {pos : Pos} (t1 t2 : Bool) (z p q i1 i2 a b : Addr) (D : ZipApart z p q i1 i2 a b) :
  Turn P w K (.Tuple es k pos) (Itz K t1 t2 a b) [z,p,q,i1,i2] z (fun i h => ZSt t1 t2 h z p q i1 i2 a b i .none) where
 mem := by simp
 obj := fun i h st c hc => by
  simp only [List.mem_cons,List.not_mem_nil,or_false] at hc
  rcases hc with rfl | rfl | rfl | rfl | rfl
  ·exact ⟨_,st.zip,fun v e => by cases e⟩
  ·exact ⟨_,st.its,fun v e => by cases e⟩
  ·obtain ⟨u,v,g⟩ := st.res
   exact ⟨_,g,fun v e => by cases e⟩
  ·exact st.one.obj
  ·exact st.two.obj
 keep := fun i h h' st kk => by
  obtain ⟨u,v,g⟩ := st.res
  exact ⟨kk z (by simp) _ st.zip,kk p (by simp) _ st.its,⟨u,v,kk q (by simp) _ g⟩,st.one.at fun o e => kk i1 (by simp) o e,st.two.at fun o e => kk i2 (by simp) o e⟩
 item := by
  intro X hP hw hK hc i pins s σ H E I hf st hg
  subst hP hw hK
  obtain ⟨xs,ys,x,y,hq1,hq2,hx,hy⟩ := hg
  obtain ⟨us,r1,g1,_⟩ := I.srcA hq1
  obtain ⟨vs,r2,g2,_⟩ := I.srcA hq2
  obtain ⟨u,hu,ru⟩ := r1.get hx
  obtain ⟨v,hv,rv⟩ := r2.get hy
  refine nextZ_item D st g1 g2 (by simpa using hu) (by simpa using hv) fun h1 st1 hp hsz hk => ⟨_,rfl,?_⟩
  refine wpAny_letOwnedTupleGo_zip (s := { s with heap := h1 }) st1.zip fun h2 z2 sb => ?_
  have sb : Heap.SameBut z h1 h2 := sb
  have lt : ∀ c ∈ [z,p,q,i1,i2],c < s.heap.objs.size := fun c hc => by
   simp only [List.mem_cons,List.not_mem_nil,or_false] at hc
   rcases hc with rfl | rfl | rfl | rfl | rfl
   ·exact Heap.lt_size st.zip
   ·exact Heap.lt_size st.its
   ·obtain ⟨u,v,g⟩ := st.res
    exact Heap.lt_size g
   ·obtain ⟨o,e,_⟩ := st.one.obj
    exact Heap.lt_size e
   ·obtain ⟨o,e,_⟩ := st.two.obj
    exact Heap.lt_size e
  have up : ∀ c o,c ≠ z -> h1.get? c = some o -> h2.get? c = some o := fun c o hcz e => (sb.2 c hcz).trans e
  have st2 : ZSt t1 t2 h2 z p q i1 i2 a b (i + 1) .none := by
   obtain ⟨u',v',g⟩ := st1.res
   exact ⟨z2,up _ _ D.TIz st1.its,⟨u',v',up _ _ D.TOz g⟩,st1.one.at fun o e => up _ o D.i1z e,st1.two.at fun o e => up _ o D.i2z e⟩
  have hnew : h2.get? s.heap.objs.size = some { cls := .type "tuple",data := .seq #[u,v] } := up _ _ (Nat.ne_of_gt (lt z (by simp))) hp
  have hfree : H s.heap.objs.size = none := I.hok.fresh (Nat.le_refl _)
  have I0 : Inv X pins σ (upd H s.heap.objs.size (.tup [x,y])) { s with heap := s.heap.push { cls := .type "tuple",data := .seq #[u,v] },toks := s.toks } :=
   I.laid (fun c o e => Heap.get?_push_of_some _ e) (Nat.le_refl _) ⟨by show 2 <= sizeLine;decide,[u,v],.cons ru (.cons rv .nil),IsTup.new _ _⟩
  have I1 : Inv X pins σ (upd H s.heap.objs.size (.tup [x,y])) { s with heap := h2,toks := s.toks } := by
   refine Inv.turnedL (s := { s with heap := s.heap.push { cls := .type "tuple",data := .seq #[u,v] },toks := s.toks }) (h' := h2) (t' := s.toks) (fp := [z,p,q,i1,i2]) I0 (fun c o hc e => ?_) (fun c hc => ?_) fun c hc => ⟨by rw [upd_ne (Nat.ne_of_lt (lt c hc))];exact (hf c hc).1,(hf c hc).2⟩
   ·by_cases hcn : c = s.heap.objs.size
    ·subst hcn
     have e : (s.heap.push { cls := .type "tuple",data := .seq #[u,v] }).get? s.heap.objs.size = some o := e
     rw [Heap.get?_push_size _ rfl] at e
     cases e
     exact hnew
    ·have e' := (Heap.get?_push_ne _ _ _ hcn).symm.trans e
     exact up c o (fun w => hc (by simp [w])) (hk c o (fun w => hc (by simp [w])) (fun w => hc (by simp [w])) (fun w => hc (by simp [w])) (fun w => hc (by simp [w])) e')
   ·simp only [List.mem_cons,List.not_mem_nil,or_false] at hc
    rcases hc with rfl | rfl | rfl | rfl | rfl
    ·exact ⟨_,st2.zip⟩
    ·exact ⟨_,st2.its⟩
    ·obtain ⟨u,v,g⟩ := st2.res
     exact ⟨_,g⟩
    ·obtain ⟨o,e,_⟩ := st2.one.obj
     exact ⟨o,e⟩
    ·obtain ⟨o,e,_⟩ := st2.two.obj
     exact ⟨o,e⟩
  exact ⟨.ref s.heap.objs.size,_,I1,rfl,⟨_,x,y,fun zs hz => by rw [I.sq_inj hz hq1];exact hx,fun zs hz => by rw [I.sq_inj hz hq2];exact hy,hfree,rfl,rfl⟩,st2,fun c hc => by
   rw [upd_ne (Nat.ne_of_lt (lt c hc))]
   exact (hf c hc).1⟩
 done := by
  intro X hP hw hK hc i pins s σ H E I hf st hg
  subst hP hw hK
  obtain ⟨xs,ys,hq1,hq2,hend⟩ := hg
  obtain ⟨us,r1,g1,_⟩ := I.srcA hq1
  obtain ⟨vs,r2,g2,_⟩ := I.srcA hq2
  have l1 := r1.length
  have l2 := r2.length
  have he : us.toArray[i]? = none ∨ vs.toArray[i]? = none := by
   rcases hend with z | z
   ·exact .inl (by simp;omega)
   ·exact .inr (by simp;omega)
  refine nextZ_end (I.ok.hd hc) D st g1 g2 he fun h1 hk => ⟨rfl,?_⟩
  have fq : ∀ c ∈ [z,q,i1,i2],c ∈ [z,p,q,i1,i2] := fun c hc => by
   simp only [List.mem_cons,List.not_mem_nil,or_false] at hc ⊢
   rcases hc with w | w | w | w <;> simp [w]
  have I' := Inv.turnedL' (s := s) (h' := h1) (t' := s.toks) (fp := [z,q,i1,i2]) I (fun c o hc e => hk c o (fun w => hc (by simp [w])) (fun w => hc (by simp [w])) (fun w => hc (by simp [w])) (fun w => hc (by simp [w])) e) fun c hc => hf c (fq c hc)
  exact I'
 self := fun _ i _ _ _ st h => wpAny_pyIter_zip st.zip h
section
variable {X : Cx} {K : PySem.W.Frag} {ml : List Nat} {l m : Expr} {pa ta ia pb tb ib : Bool} {f g : VF} {p pos tpos : Pos} {es : List Expr} {tk : Nat} {δ : Ev}
def iZp (K : PySem.W.Frag) (tl tm : TE) : TI := fun σ H R => tl σ H fun x H1 => tm σ H1 fun y H2 => ∃ a b t1 t2,x = .ref a /\ y = .ref b /\ (∃ xs,SqA K t1 H2 a xs) /\ (∃ ys,SqA K t2 H2 b ys) /\ R (Itz K t1 t2 a b) H2
theorem pi_zip {tl tm : TE} (hg : Gl X "zip") (hm : X.mg "zip" = none) (hl : PE X l tl) (hr : PE X m tm) (he : starEach (l :: [m]) X.env = (false,eval l X.env) :: starEach [m] X.env := by rfl) (he2 : starEach (m :: []) X.env = (false,eval m X.env) :: starEach [] X.env := by rfl)
  (hpl : (backTo pos (starEach [m] X.env)).any (·.1) = false := by rfl) : PI X (.Tuple es tk tpos) (.Call (.Name "zip" p) [l,m] [] pos) (iZp X.K tl tm) := by
 intro pins s σ H R I h
 refine wpAny_Call_Name_kw (ld_blt I hg hm bt_zip ?_ (by decide) (by decide))
 refine PyProof.Rows.callWith_type1 (thn (pa_cons hl (pa_cons hr pa_nil he2) he pos pins s σ H (fun vs H1 => match vs with
  | [x,y] => ∃ a b t1 t2,x = .ref a /\ y = .ref b /\ (∃ xs,SqA X.K t1 H1 a xs) /\ (∃ ys,SqA X.K t2 H1 b ys) /\ R (Itz X.K t1 t2 a b) H1
  | _ => False) I h) fun us s1 ⟨vs,H1,I1,r1,q1⟩ => ?_) he hpl
 match vs,r1,q1 with
 | [x,y],r1,q1 =>
  obtain ⟨a,b,t1,t2,rfl,rfl,⟨xs,hq1⟩,⟨ys,hq2⟩,hR⟩ := q1
  obtain ⟨u,v,rfl,ru,rv⟩ := vals2 r1
  cases ru
  cases rv
  obtain ⟨us,w1,g1,_⟩ := I1.srcA hq1
  obtain ⟨vs,w2,g2,_⟩ := I1.srcA hq2
  refine call_zipA g1 g2 fun h' st kp => ?_
  have I2 : Inv X pins σ H1 { s1 with heap := h' } := I1.kept (t' := s1.toks) kp
  have ha := g1.lt
  have hb := g2.lt
  have D : ZipApart (s1.heap.objs.size + 4) (s1.heap.objs.size + 2) (s1.heap.objs.size + 3) s1.heap.objs.size (s1.heap.objs.size + 1) a b := by
   exact zapart _ a b ha hb
  refine wpAny_pyIter_zip st.zip ⟨s1.heap.objs.size + 4,[s1.heap.objs.size + 4,s1.heap.objs.size + 2,s1.heap.objs.size + 3,s1.heap.objs.size,s1.heap.objs.size + 1],_,Itz X.K t1 t2 a b,H1,rfl,I2,turn_zip t1 t2 _ _ _ _ _ a b D,st,fun c hc => ?_,hR⟩
  have hc' : s1.heap.objs.size <= c := by
   simp only [List.mem_cons,List.not_mem_nil,or_false] at hc
   rcases hc with w | w | w | w | w <;> rw [w] <;> first | exact Nat.le_add_right _ _ | exact Nat.le_refl _
  exact I1.fpOk hc' (I1.hok.fresh hc')
theorem kiZip (h : X.K = K) {tl tm : TE} (hg : Gl X "zip") (hm : X.mg "zip" = none) (hl : PE X l tl) (hr : PE X m tm) (he : starEach (l :: [m]) X.env = (false,eval l X.env) :: starEach [m] X.env := by rfl) (he2 : starEach (m :: []) X.env = (false,eval m X.env) :: starEach [] X.env := by rfl)
  (hpl : (backTo pos (starEach [m] X.env)).any (·.1) = false := by rfl) : PI X (.Tuple es tk tpos) (.Call (.Name "zip" p) [l,m] [] pos) (iZp K tl tm) := by subst h;exact pi_zip hg hm hl hr he he2 hpl
def zipD : List Dat -> List Dat -> List Dat
 | d :: ds,e :: es => .tup [d,e] :: zipD ds es
 | _,_ => []
def iZip (f g : VF) : VI := fun δ => (f δ).bind fun p => (g p.2).bind fun q => (seqD p.1).bind fun ds => (seqD q.1).map fun es => (zipD ds es,q.2)
theorem zipD_get : ∀ {ds es : List Dat} {i : Nat} {d : Dat},(zipD ds es)[i]? = some d -> ∃ x y,ds[i]? = some x /\ es[i]? = some y /\ d = .tup [x,y]
 | [],_,_,_,h => by simp [zipD] at h
 | _ :: _,[],_,_,h => by simp [zipD] at h
 | x :: ds,y :: es,0,d,h => by simp [zipD] at h;exact ⟨x,y,rfl,rfl,h.symm⟩
 | x :: ds,y :: es,i + 1,d,h => by
  obtain ⟨x',y',h1,h2,h3⟩ := zipD_get (ds := ds) (es := es) (i := i) (d := d) (by simpa [zipD] using h)
  exact ⟨x',y',by simpa using h1,by simpa using h2,h3⟩
theorem zipD_len : ∀ {ds es : List Dat},ds.length <= (zipD ds es).length ∨ es.length <= (zipD ds es).length
 | [],_ => .inl (Nat.zero_le _)
 | _ :: _,[] => .inr (Nat.zero_le _)
 | x :: ds,y :: es => by
  rcases zipD_len (ds := ds) (es := es) with h | h
  ·exact .inl (Nat.succ_le_succ h)
  ·exact .inr (Nat.succ_le_succ h)
def isTup : Dat -> Bool
 | .tup _ => true
 | _ => false
theorem Rep.sqA {N M : Addr -> Prop} {H : Hp} {v : V} {d : Dat} {ds : List Dat} (h : Rep K N H M v d) (e : seqD d = some ds) : ∃ a tup xs,v = .ref a /\ SqA K tup H a xs /\ RepA K N H xs ds /\ tup = isTup d := by
  cases d <;> first
    | (cases e
       obtain ⟨a,xs,h1,h2,h3⟩ := h.tupE
       exact ⟨a,true,xs,h1,h2,h3,rfl⟩)
    | (cases e
       obtain ⟨a,xs,h1,h2,h3⟩ := h.lstE
       exact ⟨a,false,xs,h1,h2,h3,rfl⟩)
    | cases e
theorem vi_zip (hK : X.K = K) (hg : Gl X "zip") (hm : X.mg "zip" = none) (h : PE X l (TV K ml pa true true f)) (h' : PE X m (TV K ml pb true true g)) (he : starEach (l :: [m]) X.env = (false,eval l X.env) :: starEach [m] X.env := by rfl) (he2 : starEach (m :: []) X.env = (false,eval m X.env) :: starEach [] X.env := by rfl)
  (hpl : (backTo pos (starEach [m] X.env)).any (·.1) = false := by rfl) : PI X (.Tuple es tk tpos) (.Call (.Name "zip" p) [l,m] [] pos) (TIV K ml (pa && pb) (iZip f g)) := (kiZip (K := K) hK hg hm h h' he he2 hpl).imp fun σ H R ⟨B,O,δ,ds,δ2,S,q,k⟩ => by
 unfold iZip at q
 cases h1 : f δ with
 | none => rw [h1] at q;cases q
 | some p1 =>
  obtain ⟨x,δ1⟩ := p1
  rw [h1] at q
  cases h2 : g δ1 with
  | none => simp [h2] at q
  | some p2 =>
   obtain ⟨y,δ3⟩ := p2
   simp only [Option.bind_some,h2] at q
   cases h3 : seqD x with
   | none => rw [h3] at q;cases q
   | some xs =>
    rw [h3] at q
    have q : (seqD y).map (fun es => (zipD xs es,δ3)) = some (ds,δ2) := q
    cases h4 : seqD y with
    | none => rw [h4] at q;cases q
    | some ys =>
     rw [h4] at q
     cases q
     refine ⟨B,O,δ,x,δ1,S,h1,fun v1 H1 R1 => ⟨B,O,δ1,y,_,R1.sta,h2,fun v2 H2 R2 => ?_⟩⟩
     have r1 := R1.rep.fr R2.frm (fun a z => .inr z) fun a z => .inr z
     obtain ⟨a,t1,us,e1,q1,w1,et1⟩ := r1.sqA h3
     obtain ⟨b,t2,vs,e2,q2,w2,et2⟩ := R2.rep.sqA h4
     refine ⟨a,b,t1,t2,e1,e2,⟨us,q1⟩,⟨vs,q2⟩,k _ [(v1,x),(v2,y)] H2 (R2.sta.keepV fun z hz => ?_) (R1.frm.trans R2.frm) (fun z => ?_) ?_⟩
     ·simp only [List.mem_cons,List.not_mem_nil,or_false] at hz
      rcases hz with rfl | rfl
      ·exact r1
      ·exact R2.rep
     ·obtain ⟨z1,z2⟩ := (Bool.and_eq_true _ _).mp z
      exact (R1.pur z1).trans (R2.pur z2)
     ·intro N H h
      obtain ⟨a',t1',us',f1,f2,f3,f4⟩ := (h (v1,x) (by simp)).sqA h3
      obtain ⟨b',t2',vs',g1,g2,g3,g4⟩ := (h (v2,y) (by simp)).sqA h4
      have f1 : v1 = .ref a' := f1
      have g1 : v2 = .ref b' := g1
      rw [e1] at f1
      rw [e2] at g1
      cases f1
      cases g1
      have : t1' = t1 := f4.trans et1.symm
      subst this
      have : t2' = t2 := g4.trans et2.symm
      subst this
      refine ⟨fun i d e => ?_,us',vs',f2,g2,?_⟩
      ·obtain ⟨dx,dy,hx,hy,rfl⟩ := zipD_get e
       obtain ⟨ux,ex,rx⟩ := f3.get hx
       obtain ⟨uy,ey,ry⟩ := g3.get hy
       refine ⟨⟨us',vs',ux,uy,f2,g2,ex,ey⟩,fun z H' hz => ?_⟩
       obtain ⟨pp,x',y',c1,c2,hp,rfl,rfl⟩ := hz
       have d1 := c1 us' f2
       have d2 := c2 vs' g2
       rw [ex] at d1
       rw [ey] at d2
       cases d1
       cases d2
       exact ⟨same_upd hp,.tup (SqT.of upd_same) (.cons (rx.same (same_upd hp)) (.cons (ry.same (same_upd hp)) .nil))⟩
      ·rcases zipD_len (ds := xs) (es := ys) with w | w
       ·exact .inl (by rw [f3.length];exact w)
       ·exact .inr (by rw [g3.length];exact w)
end
end L2
namespace L2
open PySem PySem.Spec PyProof.Rows PySem.W
section
variable {prog : Program} {w : World} {A : Around} {E : Value -> Shared -> Prop} {s : Shared}
theorem star_items {t : Addr} {items : Array Value} {Q : List Value -> Shared -> Prop} (hh : A.handled = none) (ht : IsTup s.heap t items) (h1 : 1 <= items.size) (hz : items.size <= 16777216)
  (hQ : ∀ (x : Value) (hb : Heap) (tk : Nat),items[0]? = some x -> (∀ b o,s.heap.get? b = some o -> hb.get? b = some o) -> Q [x,.ref hb.objs.size] { s with heap := hb.push { cls := .type "list",data := .seq (items.toList.drop 1).toArray },toks := tk }) :
  wpAny (model prog w) A (unpackItems (.ref t) 2 (some 1)) Q E s := by
 have hne : t ≠ s.heap.objs.size := by obtain ⟨o,e,_⟩ := ht;exact Nat.ne_of_lt (Heap.lt_size e)
 (unfold unpackItems)
 refine wpAny_bind ?_
 (unfold notIterableAtAll)
 refine wpAny_bind (wpAny_specialOf ht.typeIs slot_tuple_iter.lookup (wpAny_pure ?_))
 simp only [Bool.false_eq_true,if_false]
 refine wpAny_bind (wpAny_holding (iter_tuple ht (wpAny_bind (wpAny_holding (draw_tuple hne 1 0 _ _ ⟨_,Heap.get?_push_size _ rfl,rfl,rfl⟩ (ht.push _) (by omega) fun ha ia ba => ?_)))))
 have ta : IsTup ha t items := (ht.push _).extBut ba.extBut hne
 have ia : ha.IsTupleIter s.heap.objs.size t 1 := ia
 obtain ⟨oi,gi,_⟩ := id ia
 obtain ⟨ot,gt,_⟩ := id ta
 have hsz : ha.objs.size = s.heap.objs.size + 1 := by rw [ba.1,Heap.size_push]
 have len1 : ((items.toList.drop 0).take 1).length = 1 := by simp;omega
 rw [if_neg (show ¬ ((items.toList.drop 0).take 1).length < 1 by rw [len1];exact Nat.lt_irrefl _)]
 refine wpAny_bind (wpAny_holding (kun_collect (s := { s with heap := ha }) (T := "tuple_iterator") (.inr (.inr (.inr rfl))) (Walks.tuple (A := A.in1) hh s.heap.objs.size t hne items) (fun j u st => st.1.typeIs) (k := 1) h1 ⟨ia,ta⟩ (Heap.lt_size gi) (Heap.lt_size gt) (fun hb tk kb => ?_) (by rw [sizeLine_eq];exact hz)))
 have lenr : (items.toList.drop 1).length = items.size - 1 := by simp
 show wpAny _ _ (if (items.toList.drop 1).length < 2 - 1 - 1 then _ else _) _ _ _
 rw [if_neg (Nat.not_lt_zero _)]
 show wpAny _ _ (newList ((items.toList.drop 1).take ((items.toList.drop 1).length - (2 - 1 - 1))) >>= fun d => pure ((items.toList.drop 0).take 1 ++ [d] ++ (items.toList.drop 1).drop ((items.toList.drop 1).length - (2 - 1 - 1)))) _ _ _
 have e1 : (items.toList.drop 1).take ((items.toList.drop 1).length - (2 - 1 - 1)) = items.toList.drop 1 := List.take_of_length_le (Nat.le_refl _)
 have e2 : (items.toList.drop 1).drop ((items.toList.drop 1).length - (2 - 1 - 1)) = [] := List.drop_length
 rw [e1,e2]
 refine wpAny_bind (wpAny_newObj_type (wpAny_pure ?_) (by show _ <= sizeLine;rw [sizeLine_eq];simp;omega))
 obtain ⟨x,hx⟩ : ∃ x,items[0]? = some x := ⟨items[0],by simp [show 0 < items.size by omega]⟩
 have e3 : (items.toList.drop 0).take 1 = [x] := by
  rw [List.drop_zero]
  have : items.toList[0]? = some x := by simpa using hx
  cases hl : items.toList with
  | nil => rw [hl] at this;cases this
  | cons y r => rw [hl] at this;cases this;rfl
 rw [e3]
 have keep : ∀ b o,s.heap.get? b = some o -> hb.get? b = some o := fun b o e => kb b o (Nat.ne_of_lt (Heap.lt_size e)) (ba.extBut b o (Nat.ne_of_lt (Heap.lt_size e)) (Heap.get?_push_of_some _ e))
 exact hQ x hb tk hx keep
end
section
variable {X : Cx} {K : PySem.W.Frag} {ml : List Nat} {e a b c : Expr} {es : List Expr} {pa ta ia pb tb ib pc tc ic pu bt bi ps bs : Bool} {fa fb fc f : VF} {B B' : Bs} {O : Nat -> Option Addr} {H H0 H1 H' : Hp} {σ : St} {δ δ' : Ev} {v : V} {d : Dat} {p : Addr} {pos : Pos}
def gStar (K : PySem.W.Frag) (i j : Nat) : TG := fun v σ H Q => ∃ a x xs,v = .ref a /\ SqT K H a (x :: xs) /\ ∀ p,H p = none -> Q ((σ.set i (some x)).set j (some (.ref p))) (upd H p (.lst xs))
theorem pg_star {i j : Nat} {x y : Str} {px py ps tp : Pos} {k : Nat} (hc : X.calm = true) (hN : X.N.Nodup) (hi : X.N[i]? = some x) (hj : X.N[j]? = some y) (hx : Loc X.env.scope x) (hy : Loc X.env.scope y)
  (fx : X.fn x = true ∨ X.env.scope.names.lookup x = some .local) (fy : X.fn y = true ∨ X.env.scope.names.lookup y = some .local)
  (hl : (assignEach [.Name x px,.Starred (.Name y py) ps] X.env).map (·.2) = [assign (.Name x px) X.env,assign (.Name y py) X.env]) (hn : (assignEach [.Name x px,.Starred (.Name y py) ps] X.env).length = 2) (hst : (assignEach [.Name x px,.Starred (.Name y py) ps] X.env).findIdx? (·.1) = some 1) :
  PG X (.Tuple [.Name x px,.Starred (.Name y py) ps] k tp) (gStar X.K i j) := by
 intro pins s σ H v u Q I r hw
 obtain ⟨a,z,zs,e1,hq,q⟩ := hw
 subst e1
 cases r
 obtain ⟨its,rv,ht,hz⟩ := I.tuple hq
 rw [assign_Tuple]
 refine wpAny_bind (wpAny_standAt ?_)
 (unfold unpack)
 rw [hn,hst]
 have hlen := rv.length
 rw [List.length_cons] at hlen
 have hz' : its.length <= 16777216 := by rw [<- sizeLine_eq,<- hlen];exact hz
 refine wpAny_bind (wpAny_holding (star_items (I.ok.hd hc) ht (by rw [List.size_toArray];omega) (by rw [List.size_toArray];exact hz') fun u hb tk hu kp => ?_))
 rw [hl]
 cases rv with
 | @cons _ w _ ws rz rzs =>
  have hu : some w = some u := by simpa using hu
  cases hu
  have I1 : Inv X pins σ H { s with heap := hb,toks := tk } := I.kept kp
  have I2 := Inv.lnew (s := { s with heap := hb,toks := tk }) (t' := tk) I1 rzs (by rw [sizeLine_eq];simp only [List.length_cons] at hz' hlen;have := rzs.length;omega)
  refine assignInOrder_cons (wpAny_assign_Name (store_ok I2 hN hi hx rz (fun s3 I3 => ?_) fx))
  refine assignInOrder_cons (wpAny_assign_Name (store_ok I3 hN hj hy (v := .ref hb.objs.size) rfl (fun s4 I4 => assignInOrder_nil ⟨_,_,I4,q _ (I1.hok.fresh (Nat.le_refl _))⟩) fy))
def sStar (i j : Nat) (f : VF) : VS := fun δ => (f δ).bind fun p => match p.1 with
 | .tup (d :: ds) => some (.nx ((p.2.set i (.va d)).set j (.va (.lst ds))))
 | _ => none
theorem vs_star {i j : Nat} {x y : Str} {px py sp tp : Pos} {k : Nat} (hK : X.K = K) (hc : X.calm = true) (hN : X.N.Nodup) (hi : X.N[i]? = some x) (hj : X.N[j]? = some y) (hij : i ≠ j) (hx : Loc X.env.scope x) (hy : Loc X.env.scope y) (he : PE X e (TV K ml pu true true f))
  (hmi : i ∉ ml := by decide) (hmj : j ∉ ml := by decide)
  (fx : X.fn x = true ∨ X.env.scope.names.lookup x = some .local := by first | exact .inl rfl | exact .inr rfl | assumption) (fy : X.fn y = true ∨ X.env.scope.names.lookup y = some .local := by first | exact .inl rfl | exact .inr rfl | assumption)
  (hl : (assignEach [.Name x px,.Starred (.Name y py) sp] X.env).map (·.2) = [assign (.Name x px) X.env,assign (.Name y py) X.env] := by rfl) (hn : (assignEach [.Name x px,.Starred (.Name y py) sp] X.env).length = 2 := by rfl) (hst : (assignEach [.Name x px,.Starred (.Name y py) sp] X.env).findIdx? (·.1) = some 1 := by rfl)
  (hs : swapsWithSole [.Tuple [.Name x px,.Starred (.Name y py) sp] k tp] e pos.line X.env = pure false := by rfl) (hw : swappedStores [.Tuple [.Name x px,.Starred (.Name y py) sp] k tp] e X.env = pure none := by rfl)
  (h1 : (assignEach [.Tuple [.Name x px,.Starred (.Name y py) sp] k tp] X.env).map (·.2) = [assign (.Tuple [.Name x px,.Starred (.Name y py) sp] k tp) X.env] := by rfl) :
  PS X (.Assign [.Tuple [.Name x px,.Starred (.Name y py) sp] k tp] e pos) (TSt K ml (sStar i j f)) := by
 subst hK
 refine (ps_asg he (pg_star hc hN hi hj hx hy fx fy hl hn hst) hs hw h1).imp fun D σ H ⟨B,O,δ,o,S,q,k⟩ => ?_
 unfold sStar at q
 cases h1 : f δ with
 | none => rw [h1] at q;cases q
 | some p1 =>
  obtain ⟨z,δ1⟩ := p1
  rw [h1] at q
  refine ⟨B,O,δ,z,δ1,S,h1,fun v H1 R => ?_⟩
  cases z with
  | tup ds =>
   cases ds with
   | nil => cases q
   | cons d ds =>
    cases q
    obtain ⟨a,xs,rfl,sq,r⟩ := R.rep.tupE
    cases r with
    | @cons v0 vs _ _ r1 r2 =>
     refine ⟨a,v0,vs,rfl,sq,fun p hp => ?_⟩
     have S1 := (R.sta.same (same_upd (o := .lst vs) hp)).setVa hmi (r1.same (same_upd (o := .lst vs) hp))
     have N1 : ∀ c,Nn B (fun j => if j = i then none else O j) c -> Nn B O c := nn_up (o := none)
     refine k _ _ _ (S1.setVa hmj (.lst upd_same (fun z => R.sta.new hp (N1 _ z)) ((r2.same (same_upd hp)).mono N1)))
  | _ => cases q
end
end L2
namespace L2
open PySem PySem.Spec PyProof.Rows
section
variable {X : Cx} {K : PySem.W.Frag} {ml : List Nat} {e a b c : Expr} {es : List Expr} {pa ta ia pb tb ib pc tc ic pu bt bi ps bs : Bool} {fa fb fc f : VF} {B B' : Bs} {O : Nat -> Option Addr} {H H0 H1 H' : Hp} {σ : St} {δ δ' : Ev} {v : V} {d : Dat} {p : Addr} {pos : Pos}
def rInD (K : PySem.W.Frag) (neg : Bool) : R2 := fun x y H Q => ∃ d e ds,Dp K H x d /\ Dp K H y e /\ (e = .list ds ∨ e = .tuple ds) /\ SeqAt.shaped d = true /\ SeqAt.shaped e = true /\ Q (.bl (if neg then !ds.any (fun z => PyData.eqv z d) else ds.any fun z => PyData.eqv z d)) H
theorem shaped_parts {d : PyData} (h : SeqAt.shaped d = true) : d.canLay0 = true /\ d.depth <= 64 := by
 unfold SeqAt.shaped at h
 simp only [Bool.and_eq_true,decide_eq_true_eq] at h
 exact h
theorem op_inD (neg : Bool) (hu : X.A.units + 64 < cLine) : OpR X (compareOp (if neg then .NotIn else .In)) (rInD X.K neg) := by
 intro pins s σ H x y v u Q I rx ry h
 obtain ⟨d,e,ds,hd,he,hk,sd,se,q⟩ := h
 obtain ⟨as,h1⟩ := I.reads hd rx
 obtain ⟨bs,h2⟩ := I.reads he ry
 obtain ⟨c1,d1⟩ := shaped_parts sd
 obtain ⟨c2,d2⟩ := shaped_parts se
 have fin : ∀ k,(k = if neg then !ds.any (fun z => PyData.eqv z d) else ds.any fun z => PyData.eqv z d) -> EP X pins σ Q (.bool k) s := fun k hk => by subst hk;exact ⟨.bl _,H,I,rfl,q⟩
 rcases hk with rfl | rfl
 ·have hc : PyData.canLayAll0 ds = true := by simpa [PyData.canLay0] using c2
  have hdep : PyData.depthAll ds <= 63 := by simp only [PyData.depth] at d2;omega
  have hm : X.A.units + 1 + min (PyData.depthAll ds) d.depth < cLine := by have := Nat.min_le_left (PyData.depthAll ds) d.depth;omega
  cases neg with
  | false => exact SeqAt.in_list_reads h2 h1 hc c1 hm (fin _ rfl)
  | true => exact SeqAt.notIn_list_reads h2 h1 hc c1 hm (fin _ rfl)
 ·have hc : PyData.canLayAll0 ds = true := by simpa [PyData.canLay0] using c2
  have hdep : PyData.depthAll ds <= 63 := by simp only [PyData.depth] at d2;omega
  have hm : X.A.units + 1 + min (PyData.depthAll ds) d.depth < cLine := by have := Nat.min_le_left (PyData.depthAll ds) d.depth;omega
  cases neg with
  | false => exact SeqAt.in_tuple_reads h2 h1 hc c1 hm (fin _ rfl)
  | true => exact SeqAt.notIn_tuple_reads h2 h1 hc c1 hm (fin _ rfl)
theorem kInD (h : X.K = K) (hu : X.A.units + 64 < cLine) : OpR X (compareOp .In) (rInD K false) := by subst h;exact op_inD false hu
theorem kNotInD (h : X.K = K) (hu : X.A.units + 64 < cLine) : OpR X (compareOp .NotIn) (rInD K true) := by subst h;exact op_inD true hu
def inE (d : Dat) (ds : List Dat) : Bool := (pds ds).any fun z => PyData.eqv z d.pd
def oInD (neg : Bool) (d e : Dat) : Option Dat := (seqD e).bind fun ds => if (okD d && okD e) = true then some (.bl (if neg then !inE d ds else inE d ds)) else none
theorem s_inD {neg : Bool} : OpS K (rInD K neg) (oInD neg) := by
 intro H N N' M M' x y d e c Q hx hy h k
 unfold oInD at h
 cases hs : seqD e with
 | none => rw [hs] at h;cases h
 | some ds =>
  rw [hs] at h
  have h : (if (okD d && okD e) = true then some (Dat.bl (if neg then !inE d ds else inE d ds)) else none) = some c := h
  split at h
  ·rename_i hh
   cases h
   simp only [okD,Bool.and_eq_true] at hh
   refine ⟨d.pd,e.pd,pds ds,hx.dp hh.1.1,hy.dp hh.2.1,?_,hh.1.2,hh.2.2,k _ fun _ _ _ => .bl _⟩
   cases e <;> first
    | (cases hs;exact .inr rfl)
    | (cases hs;exact .inl rfl)
    | cases hs
  ·cases h
def tGet1 (K : PySem.W.Frag) (td ty : TE) : TE := fun σ H Q => td σ H fun x H1 => ∃ a,x = .ref a /\ ((IsD H1 a /\ ty σ H1 fun y H2 => ∃ o,DGet H2 a y o /\ Q (o.getD .non) H2) ∨ ∃ D,KTab K a D /\ ty σ H1 fun y H2 => ∃ k,y = .str k /\ Q ((KTD.datumAt k D).getD .non) H2)
theorem pe_get1A {apos cpos : Pos} {td ty : TE} (hu : X.A.units + 1 < cLine) (ho : PE X a td) (he : PE X e ty) (m : M1 X a "get" apos e cpos) : PE X (.Call (.Attribute a "get" apos) [e] [] cpos) (tGet1 X.K td ty) := by
 intro pins s σ H Q I h
 refine wpAny_Call_method m.base m.few m.line PySem.F.plainAttrs_dict PySem.F.slot_dict_get PySem.F.type_dict_get (thn (ho pins s σ H _ I h) fun u s1 ⟨x,H1,I1,rx,l,ex,q1⟩ => ?_)
 subst ex
 obtain rfl : u = Value.ref l := rx
 rcases q1 with ⟨hd,q1⟩ | ⟨D,T,q1⟩
 ·obtain ⟨t1,t2,_⟩ := isD_at I1 hd
  refine ⟨t1,t2,?_⟩
  rw [m.trees]
  refine Calls.callWith_builtin rfl (Calls.evalArgs_plain (Calls.spliced_cons (thn (he pins s1 σ H1 _ I1 q1) fun iv s2 ⟨y,H2,I2,ry,ov,g,q2⟩ => Calls.spliced_nil ?_)))
  exact d_get1 hu I2 g ry fun w' s3 I3 rw' => ⟨_,H2,I3,rw',q2⟩
 ·obtain ⟨hsys,o,ents,ep,hk,hex,hdat,_⟩ := id T
  refine ⟨⟨o,I1.kIn _ _ hk,hex.1⟩,fun b q => ?_,?_⟩
  ·cases q
   exact ⟨o,I1.kIn _ _ hk,hex.2.1⟩
  rw [m.trees]
  refine Calls.callWith_builtin rfl (Calls.evalArgs_plain (Calls.spliced_cons (thn (he pins s1 σ H1 _ I1 q1) fun iv s2 ⟨y,H2,I2,ry,k,ey,q2⟩ => Calls.spliced_nil ?_)))
  subst ey
  obtain ⟨t,rfl⟩ := ry
  have hT : s2.TypeIs (.ref l) "dict" := ⟨o,I2.kIn _ _ hk,hex.1⟩
  refine wpAny_call_entry PySem.F.slot_dict_get hT PySem.F.entry_dict_get ?_ (PySem.F.args_dict_get_2 _ _)
  show wpAny _ _ (dictGet l (.str k t) >>= _) _ _ s2
  refine wpAny_bind (ktab_get I2.kIn T (fun d' v' ha hv => wpAny_pure ⟨v',rfl,?_⟩) fun hn => ?_)
  ·rw [ha] at q2
   exact ⟨d',H2,I2.tok _,hv,q2⟩
  ·rw [hn] at q2
   show wpAny _ _ (Builtin.Dict.missed l (.str k t) >>= _) _ _ _
   unfold Builtin.Dict.missed
   rw [if_neg (by rw [hsys];exact Bool.false_ne_true)]
   exact wpAny_bind (wpAny_pure (wpAny_pure ⟨.none,rfl,.non,H2,I2.tok _,rfl,q2⟩))
def oGet1 : Dat -> Dat -> Option Dat
 | .dct ks ds,.str x => some ((lookK ks ds (.inr x)).getD .non)
 | _,_ => none
theorem ve_get1 {apos cpos : Pos} (hK : X.K = K) (hu : X.A.units + 1 < cLine) (ha : PE X a (TV K ml pa ta ia fa)) (hb : PE X b (TV K ml pb tb ib fb)) (m : M1 X a "get" apos b cpos) (hs : (pb || (ta && ia)) = true := by rfl) :
  PE X (.Call (.Attribute a "get" apos) [b] [] cpos) (TV K ml (pa && pb) ia ia (f2 oGet1 fa fb)) := by
 subst hK
 refine (pe_get1A hu ha hb m).imp fun σ H Q ⟨B,O,δ,d,δ2,S,q,k⟩ => ?_
 obtain ⟨x,δ1,y,h1,h2,h3⟩ := f2_inv q
 refine ⟨B,O,δ,x,δ1,S,h1,fun v1 H1 R1 => ?_⟩
 have fin : ∀ v2 H2 (R2 : Res X.K ml B O H1 σ pb tb ib H2 δ2 v2 y) o,Rep X.K (av B O ia) H2 (av B O ia) o d -> Q o H2 := fun v2 H2 R2 o ho => k o H2 ⟨R2.sta,R1.frm.trans R2.frm,fun z => by
  obtain ⟨z1,z2⟩ := (Bool.and_eq_true _ _).mp z
  exact (R1.pur z1).trans (R2.pur z2),ho.mono (fun _ z => z) at_av⟩
 cases x with
 | dct ks ds =>
  cases y with
  | str z =>
   cases h3
   generalize hx : Dat.dct ks ds = dd at R1
   have r1 := R1.rep
   cases r1 with
   | @dct _ l kvs ds' qd n r =>
    cases hx
    refine ⟨l,rfl,.inl ⟨.inl ⟨_,.inl qd⟩,B,O,δ1,_,δ2,R1.sta,h2,fun v2 H2 R2 => ?_⟩⟩
    have r2 := R2.rep
    cases r2
    have h4 : H2 l = some (.dK kvs) /\ RepA X.K (av B O ia) H2 (kvs.map Prod.snd) ds := by
     cases pb with
     | true => exact ⟨R2.pur rfl _ _ qd,r.same (R2.pur rfl)⟩
     | false =>
      have hs : (ta && ia) = true := by simpa using hs
      obtain ⟨z1,z2⟩ := (Bool.and_eq_true _ _).mp hs
      subst z1 z2
      exact ⟨R2.frm _ _ qd fun w => absurd (.inr w) n,r.fr R2.frm fun a z => .inr z⟩
    refine ⟨_,DGet.k (k := .inr z) h4.1,fin _ _ R2 _ ?_⟩
    rcases look_rep (k := .inr z) h4.2 with ⟨v,d',g1,g2,g3⟩ | ⟨g1,g2⟩
    ·rw [g1,g2];exact g3
    ·rw [g1,g2];exact .non
   | @ktb _ l D ds' T r =>
    cases hx
    refine ⟨l,rfl,.inr ⟨D,T,B,O,δ1,_,δ2,R1.sta,h2,fun v2 H2 R2 => ?_⟩⟩
    have r2 := R2.rep
    cases r2
    refine ⟨z,rfl,fin _ _ R2 _ ?_⟩
    have r' : RepA X.K (av B O ia) H2 (D.map Prod.snd) ds := by
     cases pb with
     | true => exact r.same (R2.pur rfl)
     | false =>
      have hs : (ta && ia) = true := by simpa using hs
      obtain ⟨z1,z2⟩ := (Bool.and_eq_true _ _).mp hs
      subst z1 z2
      exact r.fr R2.frm fun a z => .inr z
    rcases datum_rep (k := z) r' with ⟨v,d',g1,g2,g3⟩ | ⟨g1,g2⟩
    ·rw [g1,g2];exact g3
    ·rw [g1,g2];exact .non
   | _ => cases hx
  | _ => cases h3
 | _ => cases h3
end
end L2
namespace L2
open PySem PySem.Spec PyProof.Rows
theorem bt_all : bootBuiltins "all" = some (.builtin "all") := by decide +kernel
section
variable {X : Cx} {K : PySem.W.Frag} {ml : List Nat} {e a b c : Expr} {es : List Expr} {pa ta ia pb tb ib pc tc ic pu bt bi ps bs : Bool} {fa fb fc f : VF} {B B' : Bs} {O : Nat -> Option Addr} {H H0 H1 H' : Hp} {σ : St} {δ δ' : Ev} {v : V} {d : Dat} {p : Addr} {pos : Pos}
theorem blv_get {ks : List Bool} {us : List Value} (r : Vals (ks.map V.bl) us) {i : Nat} {u : Value} (h : us[i]? = some u) : ∃ k,ks[i]? = some k /\ u = .bool k := by
 have hl := r.length
 rw [List.length_map] at hl
 have hi : i < us.length := (List.getElem?_eq_some_iff.mp h).1
 have e : (ks.map V.bl)[i]? = some (.bl ks[i]) := by simp [hl ▸ hi]
 obtain ⟨w,h1,h2⟩ := r.get e
 rw [h] at h1
 cases h1
 exact ⟨ks[i],by simp [hl ▸ hi],h2⟩
theorem range_all {ks : List Bool} : (List.range ks.length).all (fun i => (ks[i]?).getD true) = ks.all id := by
 induction ks with
 | nil => rfl
 | cons k ks ih =>
  rw [List.length_cons,List.range_succ_eq_map,List.all_cons,List.all_map,List.all_cons,<- ih]
  rfl
def rAllB (K : PySem.W.Frag) (g : List Bool -> Bool) : RC := fun xs H Q => ∃ p ks,xs = [.ref p] /\ SqL K H p (ks.map V.bl) /\ Q (.bl (g ks)) H
theorem truth_bl {prog : Program} {w : World} {A : Around} {ks : List Bool} {us : List Value} (r : Vals (ks.map V.bl) us) : TruthOf prog w A (fun i v => us.toArray[i]? = some v) fun i => (ks[i]?).getD true := by
 intro i v s Q E hP hQ
 obtain ⟨k,h1,rfl⟩ := blv_get r (by simpa using hP)
 have hQ : Q ((ks[i]?).getD true) s := hQ
 rw [h1] at hQ
 exact wpAny_truthy_bool hQ
theorem call_allB (hc : X.calm = true) : CallR X (.builtin "all") (rAllB X.K fun ks => ks.all id) := by
 intro pins s σ H xs us Q I r h
 obtain ⟨l,ks,rfl,hq,q⟩ := h
 obtain ⟨u,rfl,rx⟩ := vals1 r
 cases rx
 obtain ⟨its,rv,pl,hz⟩ := I.list hq
 have hl := pl.isList
 have hne : l ≠ s.heap.objs.size := by obtain ⟨o,g,_⟩ := hl;exact Nat.ne_of_lt (Heap.lt_size g)
 have hlen := rv.length
 rw [List.length_map] at hlen
 refine call_all_walk (wpAny_pyIter_list hl ⟨_,_,_,_,_,_,_,rfl,Walks.list (show X.A.in1.handled = none from I.ok.hd hc) s.heap.objs.size l hne its.toArray,⟨⟨_,Heap.get?_push_size _ rfl,rfl,rfl⟩,?_⟩,truth_bl rv,fun h' tk hk => ?_⟩)
 ·obtain ⟨o,g,r⟩ := hl
  exact ⟨o,Heap.get?_push_of_some _ g,r⟩
 ·rw [List.size_toArray,<- hlen,range_all]
  exact ⟨.bl _,H,I.kept (t' := tk) fun b o g => hk b o (by simp;exact Nat.ne_of_lt (Heap.lt_size g)) (Heap.get?_push_of_some _ g),rfl,q⟩
theorem kAll (h : X.K = K) (hc : X.calm = true) : CallR X (.builtin "all") (rAllB K fun ks => ks.all id) := by subst h;exact call_allB hc
def blsD : List Dat -> Option (List Bool)
 | [] => some []
 | .bl k :: ds => (blsD ds).map fun ks => k :: ks
 | _ => none
theorem bls_rep {N : Addr -> Prop} : ∀ {xs : List V} {ds : List Dat} {ks : List Bool},RepA K N H xs ds -> blsD ds = some ks -> xs = ks.map V.bl
 | _,_,_,.nil,h => by cases h;rfl
 | _,_,_,@RepA.cons _ _ _ v vs d ds h t,e => by
  cases d with
  | bl k =>
   cases h
   have e : (blsD ds).map (fun ks => k :: ks) = some _ := e
   cases h2 : blsD ds with
   | none => rw [h2] at e;cases e
   | some ks' =>
    rw [h2] at e
    cases e
    rw [bls_rep t h2,List.map_cons]
  | _ => cases e
def oAllB (g : List Bool -> Bool) : Dat -> Option Dat
 | .lst ds => (blsD ds).map fun ks => .bl (g ks)
 | _ => none
abbrev oAll := oAllB fun ks => ks.all id
theorem s_allB {g : List Bool -> Bool} : CalS K (rAllB K g) (oAllB g) := by
 intro H N M x d c Q hx h k
 cases d with
 | lst ds =>
  have h : (blsD ds).map (fun ks => Dat.bl (g ks)) = some c := h
  cases h1 : blsD ds with
  | none => rw [h1] at h;cases h
  | some ks =>
   rw [h1] at h
   cases h
   obtain ⟨a,xs,rfl,sq,r⟩ := hx.lstE
   have := bls_rep r h1
   subst this
   exact ⟨a,ks,rfl,sq,k _ fun _ _ _ => .bl _⟩
 | _ => cases h
theorem s_all : CalS K (rAllB K fun ks => ks.all id) oAll := s_allB
def intsD : List Dat -> Option (List Int)
 | [] => some []
 | .int i :: ds => (intsD ds).map fun ns => i :: ns
 | _ => none
theorem ints_rep {N : Addr -> Prop} : ∀ {xs : List V} {ds : List Dat} {ns : List Int},RepA K N H xs ds -> intsD ds = some ns -> xs = ns.map V.int
 | _,_,_,.nil,h => by cases h;rfl
 | _,_,_,@RepA.cons _ _ _ v vs d ds h t,e => by
  cases d with
  | int k =>
   cases h
   have e : (intsD ds).map (fun ks => k :: ks) = some _ := e
   cases h2 : intsD ds with
   | none => rw [h2] at e;cases e
   | some ks' =>
    rw [h2] at e
    cases e
    rw [ints_rep t h2,List.map_cons]
  | _ => cases e
end
end L2
namespace L2
open PySem PySem.Spec PyProof.Rows
end L2
namespace L2
open PySem PySem.Spec PyProof.Rows
section
variable {X : Cx} {K : PySem.W.Frag} {ml : List Nat} {e : Expr} {es : List Expr} {pu bt bi bs : Bool} {f : VF} {fs : VFs}
theorem ve_free (h : PE X e (TV K ml pu bt bi f)) (hb : (bt && bi) = true := by rfl) : PE X e (TV K ml pu true true f) := by
 obtain ⟨h1,h2⟩ := (Bool.and_eq_true _ _).mp hb
 subst h1 h2
 exact h
theorem ve_in (h : PE X e (TV K ml pu bt bi f)) (hb : bi = true := by rfl) : PE X e (TV K ml pu bt true f) := by
 subst hb
 exact h
theorem va_free (h : PA X es (TAV K ml pu bs fs)) (hb : bs = true := by rfl) : PA X es (TAV K ml pu true fs) := by
 subst hb
 exact h
theorem vs_never {st : Stmt} : PS X st (TSt K ml fun _ => none) := fun _ _ _ _ _ _ ⟨_,_,_,_,_,q,_⟩ => nomatch q
variable {a b c : Expr} {pa ta ia pb tb ib pc tc ic : Bool} {fa fb fc : VF} {pos : Pos} {δ : Ev}
end
end L2
namespace L2
open PySem PySem.Spec PyProof.Rows
end L2
namespace L2
open PySem PySem.Spec PyProof.Rows
theorem cf_app : ∀ (names : List (Str × NameKind)) (n : Nat) (acc : List (Str × Addr)),cellsFrom n names acc = cellsFrom n names [] ++ acc
 | [],_,_ => rfl
 | (x,k) :: r,n,acc => by
  unfold cellsFrom
  split
  ·rw [cf_app r (n + 1) ((x,n) :: acc),cf_app r (n + 1) [(x,n)]]
   simp
  ·exact cf_app r n acc
theorem cf_mem : ∀ {names : List (Str × NameKind)} {n : Nat} {x : Str} {c : Addr},(x,c) ∈ cellsFrom n names [] -> (x,NameKind.cell) ∈ names
 | [],_,_,_,h => nomatch h
 | (y,k) :: r,n,x,c,h => by
  unfold cellsFrom at h
  split at h
  ·rename_i hk
   rw [cf_app] at h
   rcases List.mem_append.mp h with h | h
   ·exact List.mem_cons_of_mem _ (cf_mem h)
   ·cases List.mem_singleton.mp h
    rw [show k = NameKind.cell from beq_iff_eq.mp hk]
    exact List.mem_cons_self
  ·exact List.mem_cons_of_mem _ (cf_mem h)
theorem cf_has : ∀ {names : List (Str × NameKind)} {n : Nat} {x : Str},(x,NameKind.cell) ∈ names -> ∃ c,(x,c) ∈ cellsFrom n names []
 | (y,k) :: r,n,x,h => by
  unfold cellsFrom
  rcases List.mem_cons.mp h with e | h
  ·cases e
   rw [if_pos (by decide),cf_app]
   exact ⟨n,List.mem_append_right _ (List.mem_singleton.mpr rfl)⟩
  ·split
   ·rw [cf_app]
    obtain ⟨c,hc⟩ := cf_has (n := n + 1) h
    exact ⟨c,List.mem_append_left _ hc⟩
   ·exact cf_has h
theorem lookup_mem : ∀ {l : List (Str × Addr)} {x : Str} {c : Addr},(x,c) ∈ l -> ∃ c',l.lookup x = some c'
 | (y,d) :: r,x,c,h => by
  rw [List.lookup_cons]
  cases hb : x == y with
  | true => exact ⟨d,rfl⟩
  | false =>
   rcases List.mem_cons.mp h with e | h
   ·cases e
    simp at hb
   ·exact lookup_mem h
theorem lookup_app : ∀ {l m : List (Str × Addr)} {x : Str} {c : Addr},(l ++ m).lookup x = some c -> l.lookup x = some c ∨ (l.lookup x = none /\ m.lookup x = some c)
 | [],_,_,_,h => .inr ⟨rfl,h⟩
 | (y,d) :: r,m,x,c,h => by
  rw [List.cons_append,List.lookup_cons] at h
  rw [List.lookup_cons]
  cases hb : x == y with
  | true => rw [hb] at h;exact .inl h
  | false => rw [hb] at h;exact lookup_app h
theorem app_lookup : ∀ {l m : List (Str × Addr)} {x : Str},l.lookup x = none -> (l ++ m).lookup x = m.lookup x
 | [],_,_,_ => rfl
 | (y,d) :: r,m,x,h => by
  rw [List.lookup_cons] at h
  rw [List.cons_append,List.lookup_cons]
  cases hb : x == y with
  | true => rw [hb] at h;cases h
  | false => rw [hb] at h;exact app_lookup h
theorem newEnv_comp {M : Model} {A : Around} {E : Value -> Shared -> Prop} {s : Shared} {scope : Scope} {globals : Addr} {closure : List (Str × Addr)} {qual : Str} {outer : Env} {Q : Env -> Shared -> Prop}
  (hQ : Q (newEnv scope s.heap.objs.size globals (cellsFrom (s.heap.objs.size + 1) scope.names closure) qual none .none (some outer) builtinsNs) { s with heap := pushCells (s.heap.push { cls := .type "dict",data := .dict #[] }) scope.names }) :
  wpAny M A (newFunctionEnv scope globals closure [] qual none .none (some outer)) Q E s := by
 simp only [newFunctionEnv,Option.isSome_some,if_true]
 refine wpAny_bind (wpAny_alloc ?_)
 refine wpAny_bind (wpAny_layCells _ (fun name kind cells => by cases hkc : kind == NameKind.cell <;> simp [hkc]) _ _ _ _ ?_)
 rw [show ({ s with heap := s.heap.push { cls := .type "dict",data := .dict #[] } } : Shared).heap.objs.size = s.heap.objs.size + 1 from Heap.size_push ..]
 rw [List.forIn_nil]
 exact wpAny_bind (wpAny_pure (wpAny_pure hQ))
theorem lookup_left : ∀ {l m : List (Str × Addr)} {x : Str} {c : Addr},l.lookup x = some c -> (l ++ m).lookup x = some c
 | (y,d) :: r,m,x,c,h => by
  rw [List.lookup_cons] at h
  rw [List.cons_append,List.lookup_cons]
  cases hb : x == y with
  | true => rw [hb] at h;exact h
  | false => rw [hb] at h;exact lookup_left h
structure CompSc2 (X : Cx) (N' : List Str) (ix : List Nat) (scope : Scope) : Prop where
 kind : scope.kind = .function
 cel : ∀ y ∈ scope.names,y.2 = .cell -> scope.names.lookup y.1 = some .cell
 names : ∀ y ∈ scope.names,y.2 = .local -> scope.names.lookup y.1 = some .local
 free : ∀ y ∈ scope.names,y.2 = .free -> X.env.kindOf y.1 = some .cell ∨ X.env.kindOf y.1 = some .free
 nd : N'.Nodup
 cap : ∀ j,j < ix.length -> N'[j]? = (ix[j]?).bind fun i => X.N[i]?
 capf : ∀ x ∈ N'.take ix.length,scope.names.lookup x = some .free
def compCx2 (X : Cx) (N' : List Str) (scope : Scope) (cl : List (Str × Addr)) (s1 : Shared) (H1 : Hp) (fp : List Addr) : Cx :=
 { X with N := N',s₀ := s1,H₀ := H1,env := compEnvC scope cl s1.heap.objs.size X.env,outer := X.stack,stack := X.stack,ex := fp,fn := fun x => scope.names.lookup x == some NameKind.cell,pn := [],xe := fun _ _ => False }
theorem relabel_has2 {env : Env} {x : Str} : ∀ {l : List (Str × NameKind)},
  ((l.map fun (n,k) => if (k == NameKind.free && env.scope.kind == .function && env.kindOf n == some .cell) then (n,NameKind.cell) else (n,k)).lookup x = some .cell ∨
  (l.map fun (n,k) => if (k == NameKind.free && env.scope.kind == .function && env.kindOf n == some .cell) then (n,NameKind.cell) else (n,k)).lookup x = some .free) -> (x,NameKind.free) ∈ l ∨ (x,NameKind.cell) ∈ l
 | [],h => by rcases h with z | z <;> cases z
 | (n,k) :: r,h => by
  have h : List.lookup x ((if (k == NameKind.free && env.scope.kind == .function && env.kindOf n == some .cell) = true then (n,NameKind.cell) else (n,k)) :: r.map fun (n,k) => if (k == NameKind.free && env.scope.kind == .function && env.kindOf n == some .cell) then (n,NameKind.cell) else (n,k)) = some .cell ∨
   List.lookup x ((if (k == NameKind.free && env.scope.kind == .function && env.kindOf n == some .cell) = true then (n,NameKind.cell) else (n,k)) :: r.map fun (n,k) => if (k == NameKind.free && env.scope.kind == .function && env.kindOf n == some .cell) then (n,NameKind.cell) else (n,k)) = some .free := h
  by_cases hc : (k == NameKind.free && env.scope.kind == .function && env.kindOf n == some .cell) = true
  ·rw [if_pos hc] at h
   by_cases hx : x = n
   ·subst hx
    have hk : k = .free := by
     simp only [Bool.and_eq_true] at hc
     exact beq_iff_eq.mp hc.1.1
    subst hk
    exact .inl List.mem_cons_self
   ·have hb : (x == n) = false := beq_eq_false_iff_ne.mpr hx
    simp only [List.lookup_cons,hb] at h
    rcases relabel_has2 (env := env) h with z | z
    ·exact .inl (List.mem_cons_of_mem _ z)
    ·exact .inr (List.mem_cons_of_mem _ z)
  ·rw [if_neg hc] at h
   by_cases hx : x = n
   ·subst hx
    rw [List.lookup_cons_self] at h
    rcases h with z | z
    ·cases z;exact .inr List.mem_cons_self
    ·cases z;exact .inl List.mem_cons_self
   ·have hb : (x == n) = false := beq_eq_false_iff_ne.mpr hx
    simp only [List.lookup_cons,hb] at h
    rcases relabel_has2 (env := env) h with z | z
    ·exact .inl (List.mem_cons_of_mem _ z)
    ·exact .inr (List.mem_cons_of_mem _ z)
end L2
namespace L2
open PySem PySem.Spec PyProof.Rows
section
variable {X : Cx} {K : PySem.W.Frag} {ml : List Nat} {pi pt pe pu : Bool} {pos : Pos} {ix : List Nat} {nl : Nat} {f : VF}
def compOk (N N' : List Str) (ix : List Nat) (names : List (Str × NameKind)) (k : Str -> Option NameKind) : Bool :=
 names.all (fun y => y.2 != .cell || names.lookup y.1 == some .cell) && (names.all (fun y => y.2 != .local || names.lookup y.1 == some .local) && (names.all (fun y => y.2 != .free || (k y.1 == some .cell || k y.1 == some .free)) &&
  (decide N'.Nodup && ((List.range ix.length).all (fun j => N'[j]? == (ix[j]?).bind fun i => N[i]?) && (N'.take ix.length).all fun x => names.lookup x == some .free))))
theorem compOk_sc {N' : List Str} {scope : Scope} (hk : scope.kind = .function) (h : compOk X.N N' ix scope.names X.env.kindOf = true) : CompSc2 X N' ix scope := by
 unfold compOk at h
 simp only [Bool.and_eq_true,List.all_eq_true,Bool.or_eq_true,bne_iff_ne,beq_iff_eq,decide_eq_true_eq,List.mem_range] at h
 obtain ⟨h1,h2,h3,h4,h5,h6⟩ := h
 exact ⟨hk,fun y hy e => (h1 y hy).resolve_left fun z => z e,fun y hy e => (h2 y hy).resolve_left fun z => z e,fun y hy e => (h3 y hy).resolve_left fun z => z e,h4,h5,h6⟩
end
end L2
namespace L2
open PySem PySem.Spec PyProof.Rows
end L2
namespace L2
open PySem PySem.Spec PyProof.Rows
section
variable {X : Cx} {K : PySem.W.Frag} {H : Hp}
def minI : List Int -> Int
 | [] => 0
 | [i] => i
 | i :: j :: r => let m := minI (j :: r);if m < i then m else i
theorem minI_eq : ∀ {ns : List Int} {m : Int},m ∈ ns -> (∀ a ∈ ns,m <= a) -> m = minI ns
 | [i],m,h,_ => List.mem_singleton.mp h
 | i :: j :: r,m,h,h2 => by
  have sp : minI (j :: r) ∈ j :: r /\ ∀ a ∈ j :: r,minI (j :: r) <= a := spec (j :: r) (by simp)
  have h3 := h2 (minI (j :: r)) (List.mem_cons_of_mem _ sp.1)
  have h4 := h2 i List.mem_cons_self
  show m = if minI (j :: r) < i then minI (j :: r) else i
  rcases List.mem_cons.mp h with e | e
  ·split <;> omega
  ·have h5 := sp.2 m e
   split <;> omega
where
 spec : ∀ ns : List Int,ns ≠ [] -> minI ns ∈ ns /\ ∀ a ∈ ns,minI ns <= a
  | [],h => absurd rfl h
  | [i],_ => ⟨List.mem_singleton.mpr rfl,fun a h => by rw [List.mem_singleton.mp h];exact Int.le_refl _⟩
  | i :: j :: r,_ => by
   obtain ⟨h1,h2⟩ := spec (j :: r) (by simp)
   show (if minI (j :: r) < i then minI (j :: r) else i) ∈ _ /\ ∀ a ∈ i :: j :: r,(if minI (j :: r) < i then minI (j :: r) else i) <= a
   split
   ·refine ⟨List.mem_cons_of_mem _ h1,fun a h => ?_⟩
    rcases List.mem_cons.mp h with e | e
    ·omega
    ·exact h2 a e
   ·refine ⟨List.mem_cons_self,fun a h => ?_⟩
    rcases List.mem_cons.mp h with e | e
    ·omega
    ·have := h2 a e
     omega
def rBest (K : PySem.W.Frag) (g : List Int -> Int) : RC := fun xs H Q => ∃ p ns,xs = [.ref p] /\ SqL K H p (ns.map V.int) /\ ns ≠ [] /\ Q (.int (g ns)) H
theorem call_minL (hc : X.calm = true) : CallR X (.builtin "min") (rBest X.K minI) := by
 intro pins s σ H xs us Q I r h
 obtain ⟨l,ns,rfl,hq,hne,q⟩ := h
 obtain ⟨u,rfl,rx⟩ := vals1 r
 cases rx
 obtain ⟨its,rv,pl,hz⟩ := I.list hq
 have hi := ints_of_vals rv
 obtain ⟨xs,ex⟩ := hi.allInts.items
 have hns : ns = xs.toList.map (·.1) := by rw [<- hi.numsOf,<- nums_intItems,<- ex]
 have hpos : 0 < ns.length := List.length_pos_iff.mpr hne
 have hsz : 0 < xs.size := by rw [hns,List.length_map,Array.length_toList] at hpos;exact hpos
 have hl := pl.isList
 rw [ex] at hl
 refine min_intList (I.ok.hd hc) hl hsz fun v h' tk hv hk => ?_
 obtain ⟨t,rfl⟩ := intItems_at hv
 obtain ⟨b1,b2⟩ := argBest_lt (numAt xs) (xs.size - 1)
 have e : numAt xs (argBest (fun i j => decide (numAt xs i < numAt xs j)) (xs.size - 1)) = minI ns := by
  refine minI_eq ?_ fun a ha => ?_
  ·rw [hns,numAt_eq]
   exact PySem.getD_mem (by rw [List.length_map,Array.length_toList];omega)
  ·rw [hns] at ha
   obtain ⟨j,hj,rfl⟩ := PySem.mem_getD ha
   rw [List.length_map,Array.length_toList] at hj
   rw [<- numAt_eq]
   exact b2 j (by omega)
 exact ⟨.int (minI ns),H,I.kept (t' := tk) hk,⟨t,by rw [e]⟩,q⟩
theorem kMinL (h : X.K = K) (hc : X.calm = true) : CallR X (.builtin "min") (rBest K minI) := by subst h;exact call_minL hc
def oBest (g : List Int -> Int) : Dat -> Option Dat
 | .lst (d :: ds) => (intsD (d :: ds)).map fun ns => .int (g ns)
 | _ => none
theorem s_best {g : List Int -> Int} : CalS K (rBest K g) (oBest g) := by
 intro H N M x d c Q hx h k
 cases d with
 | lst ds =>
  cases ds with
  | nil => cases h
  | cons d ds =>
   have h : (intsD (d :: ds)).map (fun ns => Dat.int (g ns)) = some c := h
   cases h1 : intsD (d :: ds) with
   | none => rw [h1] at h;cases h
   | some ns =>
    rw [h1] at h
    cases h
    obtain ⟨a,xs,rfl,sq,r⟩ := hx.lstE
    have e := ints_rep r h1
    subst e
    refine ⟨a,ns,rfl,sq,fun z => ?_,k _ fun _ _ _ => .int _⟩
    subst z
    have := r.length
    simp at this
 | _ => cases h
end
end L2
namespace L2
open PySem PySem.Spec PyProof.Rows
end L2
namespace L2
open PySem PySem.Spec PyProof.Rows
end L2
namespace L2
open PySem PySem.Spec PyProof.Rows
end L2
namespace L2
open PySem PySem.Spec PyProof.Rows
section
variable {X : Cx} {K : PySem.W.Frag} {ml : List Nat} {e a b c : Expr} {es : List Expr} {pa ta ia pb tb ib pc tc ic pu bt bi ps bs : Bool} {fa fb fc f : VF} {pos p' : Pos} {d : Dat} {x : Str}
theorem vv (i : Nat) (hN : X.N[i]? = some x := by rfl) (hv : Vis X.env.scope x := by first | exact Or.inl rfl | exact Or.inr (Or.inl rfl) | exact Or.inr (Or.inr rfl)) (hd : (x == ("__debug__" : Str)) = false := by decide)
  (hcd : (x == ("__classdict__" : Str)) = false := by decide) : PE X (.Name x pos) (TV K ml true true true (fV i)) := ve_var (pe_var hN hv hd hcd)
theorem vo (i : Nat) (hN : X.N[i]? = some x := by rfl) (hv : Vis X.env.scope x := by first | exact Or.inl rfl | exact Or.inr (Or.inl rfl) | exact Or.inr (Or.inr rfl)) (hd : (x == ("__debug__" : Str)) = false := by decide)
  (hcd : (x == ("__classdict__" : Str)) = false := by decide) : PE X (.Name x pos) (TV K ml true false true (fO i)) := ve_own (pe_var hN hv hd hcd)
theorem vix (hu : X.A.units + 1 < cLine) (ha : PE X a (TV K ml pa ta ia fa)) (hb : PE X b (TV K ml pb tb ib fb)) (hK : X.K = K := by rfl) (hx : PlainIx b := by exact fun _ _ => rfl) (hs : (pb || (ta && ia)) = true := by rfl) : PE X (.Subscript a b pos) (TV K ml (pa && pb) ia ia (f2 oIxA fa fb)) :=
 ve_ix (kIxA hK hu) i_any ha hb hx hs
theorem veq (hu : X.A.units + 64 < cLine) (ha : PE X a (TV K ml pa ta ia fa)) (hb : PE X b (TV K ml pb tb ib fb)) (hK : X.K = K := by rfl) (hs : (pb || (ta && ia)) = true := by rfl) : PE X (.Compare a [.Eq] [b] pos) (TV K ml (pa && pb) true true (f2 oEq fa fb)) :=
 ve_cmp (kEqD hK hu) s_eq ha hb (nomark _) hs
theorem vteq (hu : X.A.units + 64 < cLine) (ha : PE X a (TV K ml pa ta ia fa)) (hb : PE X b (TV K ml pb tb ib fb)) (hK : X.K = K := by rfl) (hs : (pb || (ta && ia)) = true := by rfl) : PT X (.Compare a [.Eq] [b] pos) (TB K ml (pa && pb) (fB (f2 oEq fa fb))) :=
 vt_cmp (kEqD hK hu) s_eq ha hb (nomark _) hs
theorem vcal {kk j n : Nat} {qs : List Str} {mF : List Nat} {F : VFun} {ff : Addr} {fs : VFg} (D : Def X.prog X.w K X.mg X.base x kk qs (spV K mF n F) ff) (hr : Room j X.A) (ha : PA X (e :: es) (TAG K ml ps fs)) (hK : X.K = K := by rfl) (hk : kk <= j := by decide) (hg : Gl X x := by rfl) (hdb : (x == ("__debug__" : Str)) = false := by decide)
  (he : starEach (e :: es) X.env = (false,eval e X.env) :: starEach es X.env := by rfl) (hpl : (backTo pos (starEach es X.env)).any (·.1) = false := by rfl) :
  PE X (.Call (.Name x p') (e :: es) [] pos) (TV K ml (ps && mF.isEmpty) true true (fCall n mF F fs)) := ve_call hK D hr hk hg ha hdb he hpl
theorem vlen (hm : X.mg "len" = none) (ha : PE X a (TV K ml pa ta ia fa)) (hK : X.K = K := by rfl) (hg : Gl X "len" := by rfl) (he : starEach (a :: []) X.env = (false,eval a X.env) :: starEach [] X.env := by rfl) : PE X (.Call (.Name "len" p') [a] [] pos) (TV K ml pa true true (f1 oLen fa)) :=
 ve_B1 (kLenA hK) s_len hg hm bt_len ha (by decide) (by decide) he
theorem vty {n : String} (hm : X.mg x = none) (hv : bootBuiltins x = some (.type n)) (hg : Gl X x := by rfl) (hn : x ≠ "__name__" := by decide) (hd : (x == ("__debug__" : Str)) = false := by decide) : PE X (.Name x pos) (TV K ml true true true (fC (.ty n))) :=
 ve_c (pe_bltn (v := .ty n) hg hm hv rfl hn hd) fun _ _ _ => .ty _
theorem visi (hm : X.mg "isinstance" = none) (ha : PE X a (TV K ml pa ta ia fa)) (hb : PE X b (TV K ml pb tb ib fb)) (hK : X.K = K := by rfl) (hg : Gl X "isinstance" := by rfl)
  (he : starEach (a :: [b]) X.env = (false,eval a X.env) :: starEach [b] X.env := by rfl) (he2 : starEach (b :: []) X.env = (false,eval b X.env) :: starEach [] X.env := by rfl) (hpl : (backTo pos (starEach [b] X.env)).any (·.1) = false := by rfl) (hs : (pb || (ta && ia)) = true := by rfl) :
  PE X (.Call (.Name "isinstance" p') [a,b] [] pos) (TV K ml (pa && pb) true true (f2 oIsi fa fb)) := ve_B2 (kIsi hK) s_isi hg hm bt_isinstance ha hb (by decide) (by decide) he he2 hpl hs
end
def A4 (K : PySem.W.Frag) (x : Str) (st : Stmt) (f : Addr) : Prop := ∃ (oc : Value) (od : Option Addr) (kV doc pm : Value) (an : Option Addr) (cdv ct : Value) (osl : Array (Option Value)),PySem.W.nsIn K mainGlobals x = some (some (.ref f)) ∧
 K.lookup f = some ⟨oc,od,.func (PySem.W.fnOf x x (defArgs st) (defBody st) (defScope st) .none kV doc pm an cdv ct),osl⟩ /\ PySem.W.codeIn K cdv x = true /\ PySem.W.keepIn K (.ref f) = true
theorem a4 {K : PySem.W.Frag} {x : Str} {st : Stmt} {f : Addr} {oc : Value} {od : Option Addr} {kV doc pm : Value} {an : Option Addr} {cdv ct : Value} {osl : Array (Option Value)} (a : PySem.W.nsIn K mainGlobals x = some (some (.ref f)))
  (b : K.lookup f = some ⟨oc,od,.func (PySem.W.fnOf x x (defArgs st) (defBody st) (defScope st) .none kV doc pm an cdv ct),osl⟩) (c : PySem.W.codeIn K cdv x = true) (d : PySem.W.keepIn K (.ref f) = true) : A4 K x st f := ⟨oc,od,kV,doc,pm,an,cdv,ct,osl,a,b,c,d⟩
theorem mkDf {P : Program} {w : World} {K : PySem.W.Frag} {mg : Str -> Option Value} {base h : Heap} {x : Str} {st : Stmt} {f : Addr} {ps : List Str} {sp : Sp} {k : Nat} (X : K.In h) (G : h.Ns mainGlobals mg) (p : A4 K x st f) (ok : ∀ {fd : FuncData},Fun K x x st f fd -> FnOk P w K mg base CX0 k f fd ps sp)
  (hb : ∀ (kV doc pm : Value) (an : Option Addr) (cdv ct : Value) (us : List Value),us.length = ps.length -> bindArgs (PySem.W.fnOf x x (defArgs st) (defBody st) (defScope st) .none kV doc pm an cdv ct) ⟨us,[]⟩ = pure (ps.zip us)) : Def P w K mg base x k ps sp f := by
 obtain ⟨oc,od,kV,doc,pm,an,cdv,ct,osl,a,b,c,d⟩ := p
 have U := fun_mk (st := st) b c d
 exact ⟨PySem.W.mg_of X G a,⟨_,ok U,U.binds hb⟩,d⟩
theorem okW (P : Program) (w : World) (K : PySem.W.Frag) (mg : Str -> Option Value) (base : Heap) {x qual : Str} {st : Stmt} {f : Addr} {fd : FuncData} (N ps : List Str) (k : Nat) (g : VS) (ml : List Nat) (F : Fun K x qual st f fd) (S : FnScope N ps (defScope st))
  (hbody : ∀ (cdv : Value) (A : Around) (outer : List Env) (s : Shared) (H : Hp) (E : XK) (hr : Room k (A.deeper (envOfC qual (defScope st) s.heap.objs.size f cdv))) (_ : (A.deeper (envOfC qual (defScope st) s.heap.objs.size f cdv)).units + 64 < cLine) (_ : (A.deeper (envOfC qual (defScope st) s.heap.objs.size f cdv)).units + 1 < cLine),
   PSs (cxOf CX0 P w K mg base N qual (defScope st) f cdv A outer s H E).nox (defBody st) (TSt K ml g)) (hps : ps.length <= N.length := by decide) : FnOk P w K mg base CX0 (k + 1) f fd ps (spV K ml ps.length (runV N.length ml g)) :=
 Fun.okV F S hps fun cdv A outer s H E hr => hbody cdv A outer s H E hr hr.units (hu_of hr)
theorem mkSc {N P : List Str} {sc : Scope} (a : sc.kind = .function := by rfl) (b : sc.isCoroutine = false := by rfl) (c : sc.isGenerator = false := by rfl) (d : N.Nodup := by decide +kernel) (e : N.take P.length = P := by rfl)
  (f : ∀ x ∈ P,sc.names.lookup x = some .local ∨ sc.names.lookup x = some .cell := by decide +kernel) (g : ∀ y ∈ sc.names,y.2 ≠ NameKind.free := by decide +kernel) : FnScope N P sc := ⟨a,b,c,d,e,f,g⟩
end L2
namespace L2
open PySem PySem.Spec PyProof.Rows
section
variable {X : Cx} {K : PySem.W.Frag} {ml : List Nat} {e a b c d : Expr} {B : Bs} {O : Nat -> Option Addr} {H : Hp} {σ : St} {δ : Ev} {pos : Pos}
def sPar4 (i j k l : Nat) (x y z u : VX) : VS := fun δ => (x δ).bind fun p => (y p.2).bind fun q => (z q.2).bind fun r => (u r.2).bind fun s =>
 if i < s.2.length /\ j < s.2.length /\ k < s.2.length /\ l < s.2.length then some (.nx ((((s.2.set l s.1).set k r.1).set j q.1).set i p.1)) else none
theorem sPar4_inv {i j k l : Nat} {x y z u : VX} {o : Ou} (h : sPar4 i j k l x y z u δ = some o) : ∃ s1 δ1 s2 δ2 s3 δ3 s4 δ4,x δ = some (s1,δ1) /\ y δ1 = some (s2,δ2) /\ z δ2 = some (s3,δ3) /\ u δ3 = some (s4,δ4) ∧
  (i < δ4.length /\ j < δ4.length /\ k < δ4.length /\ l < δ4.length) /\ o = .nx ((((δ4.set l s4).set k s3).set j s2).set i s1) := by
 unfold sPar4 at h
 cases h1 : x δ with
 | none => rw [h1] at h;cases h
 | some p =>
  rw [h1] at h
  cases h2 : y p.2 with
  | none => simp [h2] at h
  | some q =>
   simp only [Option.bind_some,h2] at h
   cases h3 : z q.2 with
   | none => simp [h3] at h
   | some r =>
    simp only [Option.bind_some,h3] at h
    cases h4 : u r.2 with
    | none => simp [h4] at h
    | some s =>
     simp only [Option.bind_some,h4] at h
     split at h
     ·cases h
      exact ⟨p.1,p.2,q.1,q.2,r.1,r.2,s.1,s.2,rfl,h2,h3,h4,by assumption,rfl⟩
     ·cases h
theorem vs_tup4 {i j k l : Nat} {x y z u : Str} {fx fy fz fu : VX} {px py pz pu pt : Pos} {kt k2 pt2} (hK : X.K = K) (hc : X.calm = true) (hN : X.N.Nodup) (hi : X.N[i]? = some x) (hj : X.N[j]? = some y) (hk : X.N[k]? = some z) (hl : X.N[l]? = some u)
  (hd : [i,j,k,l].Nodup) (hx : Loc X.env.scope x) (hy : Loc X.env.scope y) (hz : Loc X.env.scope z) (hu : Loc X.env.scope u) (ha : PE X a (TX K ml fx)) (hb : PE X b (TX K ml fy)) (hcc : PE X c (TX K ml fz)) (hdd : PE X d (TX K ml fu))
  (hmi : i ∉ ml := by decide) (hmj : j ∉ ml := by decide) (hmk : k ∉ ml := by decide) (hml : l ∉ ml := by decide)
  (hs : swapsWithSole [.Tuple [.Name x px,.Name y py,.Name z pz,.Name u pu] kt pt] (.Tuple [a,b,c,d] k2 pt2) pos.line X.env = pure false := by rfl)
  (hw : swappedStores [.Tuple [.Name x px,.Name y py,.Name z pz,.Name u pu] kt pt] (.Tuple [a,b,c,d] k2 pt2) X.env = pure none := by rfl)
  (hn : (assignEach [.Name x px,.Name y py,.Name z pz,.Name u pu] X.env).length = 4 := by rfl) (hst : (assignEach [.Name x px,.Name y py,.Name z pz,.Name u pu] X.env).findIdx? (·.1) = none := by rfl)
  (g1 : (assignEach [.Name x px,.Name y py,.Name z pz,.Name u pu] X.env).map (·.2) = assign (.Name x px) X.env :: (assignEach [.Name y py,.Name z pz,.Name u pu] X.env).map (·.2) := by rfl)
  (g2 : (assignEach [.Name y py,.Name z pz,.Name u pu] X.env).map (·.2) = assign (.Name y py) X.env :: (assignEach [.Name z pz,.Name u pu] X.env).map (·.2) := by rfl)
  (g3 : (assignEach [.Name z pz,.Name u pu] X.env).map (·.2) = assign (.Name z pz) X.env :: (assignEach [.Name u pu] X.env).map (·.2) := by rfl)
  (g4 : (assignEach [.Name u pu] X.env).map (·.2) = assign (.Name u pu) X.env :: (assignEach [] X.env).map (·.2) := by rfl)
  (fx' : X.fn x = true ∨ X.env.scope.names.lookup x = some .local := by first | exact .inl rfl | exact .inr rfl | assumption) (fy' : X.fn y = true ∨ X.env.scope.names.lookup y = some .local := by first | exact .inl rfl | exact .inr rfl | assumption) (fz' : X.fn z = true ∨ X.env.scope.names.lookup z = some .local := by first | exact .inl rfl | exact .inr rfl | assumption)
  (fu' : X.fn u = true ∨ X.env.scope.names.lookup u = some .local := by first | exact .inl rfl | exact .inr rfl | assumption)
  (h1 : (assignEach [.Tuple [.Name x px,.Name y py,.Name z pz,.Name u pu] kt pt] X.env).map (·.2) = [assign (.Tuple [.Name x px,.Name y py,.Name z pz,.Name u pu] kt pt) X.env] := by rfl)
  (he : starEach (a :: [b,c,d]) X.env = (false,eval a X.env) :: starEach [b,c,d] X.env := by rfl) (he2 : starEach (b :: [c,d]) X.env = (false,eval b X.env) :: starEach [c,d] X.env := by rfl) (he3 : starEach (c :: [d]) X.env = (false,eval c X.env) :: starEach [d] X.env := by rfl)
  (he4 : starEach (d :: []) X.env = (false,eval d X.env) :: starEach [] X.env := by rfl) :
  PS X (.Assign [.Tuple [.Name x px,.Name y py,.Name z pz,.Name u pu] kt pt] (.Tuple [a,b,c,d] k2 pt2) pos) (TSt K ml (sPar4 i j k l fx fy fz fu)) :=
 (ps_asg (pe_tup (pa_cons ha (pa_cons hb (pa_cons hcc (pa_cons hdd pa_nil he4) he3) he2) he)) (kgTup (K := K) hK hc (pgs_cons (pg_name hN hi hx fx') (pgs_cons (pg_name hN hj hy fy') (pgs_cons (pg_name hN hk hz fz') (pgs_cons (pg_name hN hl hu fu') pgs_nil g4) g3) g2) g1) hn hst) hs hw h1).imp fun D σ H ⟨B,O,δ,o,S,q,kk⟩ => by
  obtain ⟨s1,δ1,s2,δ2,s3,δ3,s4,δ4,h1,h2,h3,h4,hll,rfl⟩ := sPar4_inv q
  simp only [List.nodup_cons,List.mem_cons,List.not_mem_nil,or_false,not_or] at hd
  obtain ⟨⟨hij,hik,hil⟩,⟨hjk,hjl⟩,hkl,_⟩ := hd
  refine ⟨B,O,δ,s1,δ1,S,h1,fun v H1 B1 S1 w1 f1 => ⟨B1,O,δ1,s2,δ2,S1,h2,fun v2 H2 B2 S2 w2 f2 => ⟨B2,O,δ2,s3,δ3,S2,h3,fun v3 H3 B3 S3 w3 f3 => ⟨B3,O,δ3,s4,δ4,S3,h4,fun v4 H4 B4 S4 w4 f4 => ⟨(by show 4 <= sizeLine;decide),fun p hp => ⟨p,_,rfl,SqT.of upd_same,rfl,v,_,rfl,v2,_,rfl,v3,_,rfl,v4,_,rfl,rfl,?_⟩⟩⟩⟩⟩⟩
  have f5 : Fr (OA O) H4 (upd H4 p (.tup [v,v2,v3,v4])) := (same_upd hp).fr
  obtain ⟨O5,S5⟩ := (w4.fr f5).bind (S4.same (same_upd hp)) hml hll.2.2.2
  obtain ⟨O6,S6⟩ := ((w3.fr f4).fr f5).bind S5 hmk (by rw [List.length_set];exact hll.2.2.1)
  obtain ⟨O7,S7⟩ := (((w2.fr f3).fr f4).fr f5).bind S6 hmj (by rw [List.length_set,List.length_set];exact hll.2.1)
  obtain ⟨O8,S8⟩ := ((((w1.fr f2).fr f3).fr f4).fr f5).bind S7 hmi (by rw [List.length_set,List.length_set,List.length_set];exact hll.1)
  have e : (((σ.set i (some v)).set j (some v2)).set k (some v3)).set l (some v4) = (((σ.set l (some v4)).set k (some v3)).set j (some v2)).set i (some v) := by
   have c : ∀ (l : St) {i j : Nat} (a b : Option V),i ≠ j -> (l.set i a).set j b = (l.set j b).set i a := fun l i j a b h => List.set_comm a b h
   rw [c σ (some v) (some v2) hij,c (σ.set j (some v2)) (some v) (some v3) hik,c ((σ.set j (some v2)).set k (some v3)) (some v) (some v4) hil,c σ (some v2) (some v3) hjk,c (σ.set k (some v3)) (some v2) (some v4) hjl,c σ (some v3) (some v4) hkl]
  rw [e]
  exact kk _ _ _ S8
end
end L2
namespace L2
open PySem PySem.Spec PyProof.Rows
end L2
namespace L2
open PySem PySem.Spec PyProof.Rows
theorem compTurn_two0 (elt tg1 it1 tg2 it2 : Expr) (ifs1 ifs2 : List Expr) (scope : Scope) (pos : Pos) (it acc : Value) (env : Env) :
  compTurn (.ListComp elt [⟨tg1,it1,ifs1,0⟩,⟨tg2,it2,ifs2,0⟩] scope pos) 0 it acc env = (do
   standAt it1.pos
   match <- pyNext it with
   | none => pure (.done .next)
   | some v =>
    letOwnedTupleGo tg1 it v
    assign tg1 env v
    let mut ok := true
    for c in ifs1 do
     if ok then ok <- isTrue c env (eval c env)
    if ok then
     let x <- eval it2 env
     standAt it2.pos
     let x <- foldedSetIterable it2 env x
     let _ <- runOwn (.compStart (.ListComp elt [⟨tg1,it1,ifs1,0⟩,⟨tg2,it2,ifs2,0⟩] scope pos) 1 (<- holding [x] (pyIter x)) acc env) env
    PySem.again (.compLoop (.ListComp elt [⟨tg1,it1,ifs1,0⟩,⟨tg2,it2,ifs2,0⟩] scope pos) 0 it acc env)) := by rfl
theorem compTurn_two1 (elt tg1 it1 tg2 it2 : Expr) (ifs1 ifs2 : List Expr) (scope : Scope) (pos : Pos) (it acc : Value) (env : Env) :
  compTurn (.ListComp elt [⟨tg1,it1,ifs1,0⟩,⟨tg2,it2,ifs2,0⟩] scope pos) 1 it acc env = (do
   standAt it2.pos
   match <- pyNext it with
   | none => pure (.done .next)
   | some v =>
    letOwnedTupleGo tg2 it v
    assign tg2 env v
    let mut ok := true
    for c in ifs2 do
     if ok then ok <- isTrue c env (eval c env)
    if ok then
     (do let _ <- call (.builtin "list.append") [acc,<- eval elt env])
    PySem.again (.compLoop (.ListComp elt [⟨tg1,it1,ifs1,0⟩,⟨tg2,it2,ifs2,0⟩] scope pos) 1 it acc env)) := by rfl
theorem comp_loop1 {prog : Program} {w : World} {A : Around} {s : Shared} {elt tg1 it1 tg2 it2 : Expr} {ifs1 ifs2 : List Expr} {scope : Scope} {pos : Pos} {it acc : Value} {env : Env} {R : Result -> Shared -> Prop} (I : Nat -> Shared -> Prop)
  (turn : ∀ n s,I n s -> wpAny (model prog w) A (pyNext it) (fun r s₁ => match r with
   | none => R (.ok .next) s₁
   | some v => wpAny (model prog w) A (letOwnedTupleGo tg2 it v) (fun _ s₀ => wpAny (model prog w) A (assign tg2 env v) (fun _ s₂ =>
     wpAny (model prog w) A (forIn ifs2 true fun c r => if r = true then do let ok <- isTrue c env (eval c env);pure (ForInStep.yield ok) else pure (ForInStep.yield r)) (fun ok s₃ => if ok = true then wpAny (model prog w) A (eval elt env) (fun x s₄ =>
      wpAny (model prog w) A (call (.builtin "list.append") [acc,x]) (fun _ s₅ => ∃ m,m < n /\ I m s₅) (fun _ _ => False) s₄) (fun _ _ => False) s₃
      else ∃ m,m < n /\ I m s₃) (fun _ _ => False) s₂)
     (fun _ _ => False) s₀) (fun _ _ => False) s₁) (fun _ _ => False) s)
  (n : Nat) (h : I n s) : codeAny (model prog w) A (.compLoop (.ListComp elt [⟨tg1,it1,ifs1,0⟩,⟨tg2,it2,ifs2,0⟩] scope pos) 1 it acc env) R s := by
 refine codeAny_loop rfl I (fun n s hI => ?_) n h
 show wpAny _ A ((compTurn (.ListComp elt [⟨tg1,it1,ifs1,0⟩,⟨tg2,it2,ifs2,0⟩] scope pos) 1 it acc env).onRaise (fun x => do noteFrame x env;theTreesLotGoes x)) _ _ s
 refine wpAny_noted ?_
 rw [compTurn_two1]
 refine wpAny_bind (wpAny_standAt (wpAny_bind (wpAny_mono (turn n s hI) (fun r s₁ h₁ => ?_) fun _ _ h' => h'.elim)))
 cases r with
 | none => exact wpAny_pure h₁
 | some v =>
  refine wpAny_bind (wpAny_mono h₁ (fun _ s₀ h₀' => ?_) fun _ _ h' => h'.elim)
  refine wpAny_bind (wpAny_mono h₀' (fun _ s₂ h₂ => ?_) fun _ _ h' => h'.elim)
  refine wpAny_bind (wpAny_mono h₂ (fun okb s₃ h₃ => ?_) fun _ _ h' => h'.elim)
  cases okb with
  | false => exact wpAny_pure ⟨rfl,h₃⟩
  | true => exact wpAny_bind (wpAny_bind (wpAny_mono h₃ (fun x s₄ h₄ => wpAny_bind (wpAny_mono h₄ (fun _ s₅ h₅ => wpAny_pure (wpAny_pure ⟨rfl,h₅⟩)) fun _ _ h' => h'.elim)) fun _ _ h' => h'.elim))
theorem comp_loop0 {prog : Program} {w : World} {A : Around} {s : Shared} {elt tg1 it1 tg2 it2 : Expr} {ifs1 ifs2 : List Expr} {scope : Scope} {pos : Pos} {it acc : Value} {env : Env} {R : Result -> Shared -> Prop} (I : Nat -> Shared -> Prop)
  (turn : ∀ n s,I n s -> wpAny (model prog w) A (pyNext it) (fun r s₁ => match r with
   | none => R (.ok .next) s₁
   | some v => wpAny (model prog w) A (letOwnedTupleGo tg1 it v) (fun _ s₀ => wpAny (model prog w) A (assign tg1 env v) (fun _ s₂ =>
     wpAny (model prog w) A (forIn ifs1 true fun c r => if r = true then do let ok <- isTrue c env (eval c env);pure (ForInStep.yield ok) else pure (ForInStep.yield r)) (fun ok s₃ => if ok = true then
      wpAny (model prog w) A (eval it2 env) (fun x s₄ => wpAny (model prog w) A (pyIter x) (fun i2 s₅ =>
       codeAny (model prog w) A (.compStart (.ListComp elt [⟨tg1,it1,ifs1,0⟩,⟨tg2,it2,ifs2,0⟩] scope pos) 1 i2 acc env) (fun r s₆ => match r with | .ok _ => ∃ m,m < n /\ I m s₆ | .error _ => False) s₅) (fun _ _ => False) s₄) (fun _ _ => False) s₃
      else ∃ m,m < n /\ I m s₃) (fun _ _ => False) s₂)
     (fun _ _ => False) s₀) (fun _ _ => False) s₁) (fun _ _ => False) s)
  (n : Nat) (h : I n s) (hs : ∀ x,foldedSetIterable it2 env x = pure x := by intro _;rfl) : codeAny (model prog w) A (.compLoop (.ListComp elt [⟨tg1,it1,ifs1,0⟩,⟨tg2,it2,ifs2,0⟩] scope pos) 0 it acc env) R s := by
 refine codeAny_loop rfl I (fun n s hI => ?_) n h
 show wpAny _ A ((compTurn (.ListComp elt [⟨tg1,it1,ifs1,0⟩,⟨tg2,it2,ifs2,0⟩] scope pos) 0 it acc env).onRaise (fun x => do noteFrame x env;theTreesLotGoes x)) _ _ s
 refine wpAny_noted ?_
 rw [compTurn_two0]
 refine wpAny_bind (wpAny_standAt (wpAny_bind (wpAny_mono (turn n s hI) (fun r s₁ h₁ => ?_) fun _ _ h' => h'.elim)))
 cases r with
 | none => exact wpAny_pure h₁
 | some v =>
  refine wpAny_bind (wpAny_mono h₁ (fun _ s₀ h₀' => ?_) fun _ _ h' => h'.elim)
  refine wpAny_bind (wpAny_mono h₀' (fun _ s₂ h₂ => ?_) fun _ _ h' => h'.elim)
  refine wpAny_bind (wpAny_mono h₂ (fun okb s₃ h₃ => ?_) fun _ _ h' => h'.elim)
  cases okb with
  | false => exact wpAny_pure ⟨rfl,h₃⟩
  | true =>
   refine wpAny_bind (wpAny_mono h₃ (fun x s₄ h₄ => ?_) fun _ _ h' => h'.elim)
   refine wpAny_bind (wpAny_standAt (wpAny_bind (wpAny_of_eq (hs x) (wpAny_bind (wpAny_holding (wpAny_mono h₄ (fun i2 s₅ h₅ => ?_) fun _ _ h' => h'.elim))))))
   refine wpAny_bind (wpAny_runOwn (codeAny_mono h₅ fun r s₆ h₆ => ?_))
   cases r with
   | ok f => exact wpAny_pure ⟨rfl,h₆⟩
   | error e => exact h₆.elim
theorem codeAny_compStart_two1 {prog : Program} {w : World} {A : Around} {s : Shared} {elt tg1 it1 tg2 it2 : Expr} {ifs1 ifs2 : List Expr} {scope : Scope} {pos : Pos} {it acc : Value} {env : Env} {R : Result -> Shared -> Prop}
  (h0 : codeAny (model prog w) A (.compLoop (.ListComp elt [⟨tg1,it1,ifs1,0⟩,⟨tg2,it2,ifs2,0⟩] scope pos) 1 it acc env) R s)
  (h : wpAny (model prog w) A (pyIter it) (fun it' s' => codeAny (model prog w) A (.compLoop (.ListComp elt [⟨tg1,it1,ifs1,0⟩,⟨tg2,it2,ifs2,0⟩] scope pos) 1 it' acc env) R s')
   (notedBy (model prog w) A env fun x s' => R (.error x) s') s) :
  codeAny (model prog w) A (.compStart (.ListComp elt [⟨tg1,it1,ifs1,0⟩,⟨tg2,it2,ifs2,0⟩] scope pos) 1 it acc env) R s := by
 refine codeAny_of_tree ?_
 show wpAny _ _ ((compStart (.ListComp elt [⟨tg1,it1,ifs1,0⟩,⟨tg2,it2,ifs2,0⟩] scope pos) 1 it acc env).onRaise (fun x => do noteFrame x env;standAt theWindowsPlace)) _ _ s
 refine wpAny_notedAt ?_
 unfold compStart
 show wpAny _ _ (ask >>= _) _ _ s
 refine wpAny_bind (wpAny_askSetting (wpAny_ite ?_))
 split
 ·first
   | exact wpAny_bind (wpAny_pure (wpAny_pure (And.intro rfl h0)))
   | exact wpAny_pure (And.intro rfl h0)
 ·first
   | exact wpAny_bind (wpAny_rule (wpAny_bind (wpAny_standAt (wpAny_bind (wpAny_mono h (fun it' s' h' => wpAny_pure (And.intro rfl h')) fun _ _ x => x)))))
   | (refine wpAny_bind (wpAny_rule ?_);show wpAny _ _ (standAt it2.pos >>= _) _ _ s;exact wpAny_bind (wpAny_standAt (wpAny_bind (wpAny_mono h (fun it' s' h' => wpAny_pure (And.intro rfl h')) fun _ _ x => x))))
def EmW (D : Addr) (wi : TI) (g : TG) (tt : TT) (te : TE) (acc0 : List V) (σ : St) (H : Hp) (N : List V -> St -> Hp -> Prop) : Prop :=
 wi σ H fun J H0 => ∃ W : Nat -> Nat -> List V -> St -> Hp -> Prop,(∃ m,W 0 m acc0 σ H0) /\ ∀ i m acc σ1 H1,W i m acc σ1 H1 →
  (J.stop i H1 /\ N acc σ1 H1) ∨
  (J.go i H1 /\ ∃ N2 : List V -> St -> Hp -> Prop,(∀ acc' σ' H',N2 acc' σ' H' -> ∃ m',m' < m /\ W (i + 1) m' acc' σ' H') ∧
   ∀ x H2,J.yld i H1 x H2 -> g x σ1 H2 fun σ2 H3 => tt σ2 H3 fun b H4 => if b = true then te σ2 H4 fun v H5 => H5 D = some (.lst acc) /\ acc.length < sizeLine /\ N2 (acc ++ [v]) σ2 (upd H5 D (.lst (acc ++ [v]))) else N2 acc σ2 H4)
theorem emit2 {Y : Cx} {elt tg1 it1 tg2 it2 : Expr} {ifs1 ifs2 : List Expr} {scope : Scope} {pos : Pos} {wi : TI} {g : TG} {tt : TT} {te : TE} {pins : List (Addr × Obj)} {s : Shared} {σ : St} {H : Hp} {D : Addr} {acc0 : List V} {N : List V -> St -> Hp -> Prop}
  (hc : Y.calm = true) (hxe : Y.xe = fun _ _ => False) (hi : PI Y tg2 it2 wi) (hg : PG Y tg2 g) (ht : PTs Y ifs2 tt) (he : PE Y elt te) (I : Inv Y pins σ H s) (h : EmW D wi g tt te acc0 σ H N) :
  wpAny (model Y.prog Y.w) Y.A (eval it2 Y.env) (fun x s₄ => wpAny (model Y.prog Y.w) Y.A (pyIter x) (fun i2 s₅ =>
   codeAny (model Y.prog Y.w) Y.A (.compStart (.ListComp elt [⟨tg1,it1,ifs1,0⟩,⟨tg2,it2,ifs2,0⟩] scope pos) 1 i2 (.ref D) Y.env) (fun r s₆ => match r with | .ok _ => ∃ acc' σ' H',Inv Y pins σ' H' s₆ /\ N acc' σ' H' | .error _ => False) s₅) (fun _ _ => False) s₄) (fun _ _ => False) s := by
 have nx : ∀ {α : Sort _} {x : Value} {s : Shared},Y.xe x s -> α := fun z => by rw [hxe] at z;exact z.elim
 refine wpAny_mono (hi pins s σ H _ I h) (fun v s1 h1 => wpAny_mono h1 (fun itv s2 h2 => ?_) fun _ _ z => nx z) fun _ _ z => nx z
 obtain ⟨it,fp,tn,J,H2,e,I2,T,st2,f2,W,⟨m0,w0⟩,turn⟩ := h2
 subst e
 have stat : ∀ {H' : Hp},(∀ b ∈ fp,H' b = none) -> ∀ b ∈ fp,FpOk Y pins H' b := fun hn b hb => ⟨hn b hb,(f2 b hb).2⟩
 have loop : ∀ s₃ : Shared,s₃ = s2 -> codeAny (model Y.prog Y.w) Y.A (.compLoop (.ListComp elt [⟨tg1,it1,ifs1,0⟩,⟨tg2,it2,ifs2,0⟩] scope pos) 1 (.ref it) (.ref D) Y.env) (fun r s₆ => match r with | .ok _ => ∃ acc' σ' H',Inv Y pins σ' H' s₆ /\ N acc' σ' H' | .error _ => False) s₃ := by
  rintro s₃ rfl
  refine comp_loop1 (fun n s' => ∃ i σ' H' acc,Inv Y pins σ' H' s' /\ tn i s'.heap /\ (∀ b ∈ fp,H' b = none) /\ W i n acc σ' H') ?_ m0 ⟨0,σ,H2,acc0,I2,st2,fun b hb => (f2 b hb).1,w0⟩
  rintro n s3 ⟨i,σ3,H3,acc,I3,st3,fr3,w3⟩
  rcases turn i n acc σ3 H3 w3 with ⟨stop,qn⟩ | ⟨go,N2,hN,step⟩
  ·refine wpAny_mono (T.done Y rfl rfl rfl hc i pins s3 σ3 H3 (fun _ _ => False) I3 (stat fr3) st3 stop) (fun r s4 ⟨hr,I4⟩ => ?_) fun _ _ z => z
   subst hr
   exact ⟨acc,σ3,H3,I4,qn⟩
  ·refine wpAny_mono (T.item Y rfl rfl rfl hc i pins s3 σ3 H3 (fun _ _ => False) I3 (stat fr3) st3 go) (fun r s4 ⟨u,hr,h4⟩ => ?_) fun _ _ z => z
   subst hr
   refine wpAny_mono h4 (fun _ s5 ⟨x,H5,I5,r5,y5,st5,fr5⟩ => ?_) fun _ _ z => z
   have I5' := I5.pinned (stat fr5) (T.obj _ _ st5)
   refine wpAny_mono (hg _ s5 σ3 H5 x u _ I5' r5 (step x H5 y5)) (fun _ s6 ⟨σ6,H6,I6,q6⟩ => ?_) fun _ _ z => nx z
   have again : ∀ {H7 : Hp} {s7 : Shared} {acc' : List V},Inv Y (pins ++ pinsAt fp s5.heap) σ6 H7 s7 -> N2 acc' σ6 H7 -> ∃ m,m < n /\ ∃ i σ' H' acc,Inv Y pins σ' H' s7 /\ tn i s7.heap /\ (∀ b ∈ fp,H' b = none) /\ W i m acc σ' H' := fun {H7 s7 acc'} I7 n7 => by
    obtain ⟨m',hm,w7⟩ := hN acc' σ6 H7 n7
    refine ⟨m',hm,i + 1,σ6,H7,acc',I7.unpinned,T.keep _ _ _ st5 fun b hb o e => (I7.pin (b,o) (List.mem_append_right _ (List.mem_append_right _ (mem_pinsAt hb e)))).1,fun b hb => ?_,w7⟩
    obtain ⟨o,e,d⟩ := T.obj _ _ st5 b hb
    exact (I7.pin (b,o) (List.mem_append_right _ (List.mem_append_right _ (mem_pinsAt hb e)))).2.1
   refine wpAny_mono (ht _ s6 σ6 H6 _ I6 q6) (fun okb s7 ⟨H7,I7,q7⟩ => ?_) fun _ _ z => nx z
   cases okb with
   | false => exact again I7 q7
   | true =>
    refine wpAny_mono (he _ s7 σ6 H7 _ I7 q7) (fun v s8 ⟨y,H8,I8,r8,hD8,hz8,n8⟩ => ?_) fun _ _ z => nx z
    refine wpAny_mono (mt_append (X := Y) _ s8 σ6 H8 (.ref D) [y] (.ref D) [v] (fun _ H9 => N2 (acc ++ [y]) σ6 H9) I8 rfl (.cons r8 .nil)
     ⟨D,acc,y,rfl,rfl,hD8,hz8,n8⟩) (fun _ s9 ⟨_,H9,I9,_,n9⟩ => again I9 n9) fun _ _ z => nx z
 exact codeAny_compStart_two1 (loop _ rfl) (T.self _ 0 _ _ _ st2 (loop _ rfl))
end L2
namespace L2
open PySem PySem.Spec PyProof.Rows
structure Blk2 (Y : Cx) (tg : Expr) (ifs : List Expr) (tg2 it2 : Expr) (ifs2 : List Expr) (elt : Expr) (g : TG) (tt : TT) (wi2 : TI) (g2 : TG) (tt2 : TT) (te : TE) : Prop where
 tg : PG Y tg g
 ts : PTs Y ifs tt
 it : PI Y tg2 it2 wi2
 tg2 : PG Y tg2 g2
 ts2 : PTs Y ifs2 tt2
 el : PE Y elt te
def CompW2 (D : Addr) (ix : List Nat) (nl : Nat) (J : It) (g : TG) (tt : TT) (wi2 : TI) (g2 : TG) (tt2 : TT) (te : TE) (σ : St) (H0 : Hp) (Q : Hp -> Prop) : Prop :=
 ∃ W : Nat -> Nat -> List V -> Hp -> Prop,(∃ m,W 0 m [] (upd H0 D (.lst []))) /\ ∀ i m acc H1,W i m acc H1 →
  (J.stop i H1 /\ Q H1) ∨
  (J.go i H1 /\ ∃ N : List V -> Hp -> Prop,(∀ acc' H',N acc' H' -> ∃ m',m' < m /\ W (i + 1) m' acc' H') ∧
   ∀ x H2,J.yld i H1 x H2 -> g x (caps ix σ ++ List.replicate nl none) H2 fun σ2 H3 => σ2.take ix.length = caps ix σ ∧
    tt σ2 H3 fun b H4 => if b = true then EmW D wi2 g2 tt2 te acc σ2 H4 (fun acc' σ' H' => σ'.take ix.length = caps ix σ /\ N acc' H') else N acc H4)
def tComp2 (ix : List Nat) (nl : Nat) (wi : TI) (g : TG) (tt : TT) (wi2 : TI) (g2 : TG) (tt2 : TT) (te : TE) : TE := fun σ H Q => wi σ H fun J H0 => ∀ D,H0 D = none -> CompW2 D ix nl J g tt wi2 g2 tt2 te σ H0 fun H' => Q (.ref D) H'
theorem comp_core3 {X : Cx} {pins : List (Addr × Obj)} {σ : St} {H2 : Hp} {s2 : Shared} {E : Value -> Shared -> Prop} {tg iter tg2 it2 elt : Expr} {ifs ifs2 : List Expr} {scope : Scope} {pos : Pos} {N' : List Str} {ix : List Nat} {nl : Nat} {g g2 : TG} {tt tt2 : TT} {wi2 : TI} {te : TE}
  {cl : List (Str × Addr)} {J : It} {fp : List Addr} {it : Addr} {tn : Nat -> Heap -> Prop} {Q : V -> Hp -> Prop} {RR : Value -> Addr -> Result -> Shared -> Prop}
  (hs2 : ∀ (env : Env) (x : Value),foldedSetIterable it2 env x = pure x) (hc : X.calm = true) (S : CompSc2 X N' ix scope) (hnl : N'.length = ix.length + nl)
  (hcl1 : ∀ x c,cl.lookup x = some c -> X.env.cells.lookup x = some c) (hcl2 : ∀ x,(x,NameKind.free) ∈ scope.names -> ∃ c,cl.lookup x = some c)
  (blk : ∀ (cl : List (Str × Addr)) (s1 : Shared) (H1 : Hp) (fp : List Addr),Blk2 (compCx2 X N' scope cl s1 H1 fp) tg ifs tg2 it2 ifs2 elt g tt wi2 g2 tt2 te)
  (I2 : Inv X pins σ H2 s2) (T : Turn X.prog X.w X.K tg J fp it tn) (st2 : tn 0 s2.heap) (f2 : ∀ b ∈ fp,FpOk X pins H2 b)
  (h : ∀ D,H2 D = none -> CompW2 D ix nl J g tt wi2 g2 tt2 te σ H2 fun H' => Q (.ref D) H')
  (fin : ∀ (D C : Addr) (s' : Shared) (H' : Hp),Inv X pins σ H' s' -> (∃ m,s'.heap.Ns C m) -> C ≠ X.env.locals -> (∀ x c,X.env.cells.lookup x = some c -> c ≠ C) →
   (∀ (σ' : St) (s'' : Shared) (h'' : Heap),Inv X pins σ' H' s'' -> Heap.SameBut C s''.heap h'' -> Inv X pins σ' H' { s'' with heap := h'' }) -> Q (.ref D) H' -> RR (.ref D) C (.ok .next) s') :
  wpAny (model X.prog X.w) X.A (newList []) (fun acc s₃ => wpAny (model X.prog X.w) X.A (newFunctionEnv scope X.env.globals cl [] X.env.qual none .none (some X.env)) (fun cenv s₄ =>
   codeAny (model X.prog X.w) X.A (.compStart (.ListComp elt [⟨tg,iter,ifs,0⟩,⟨tg2,it2,ifs2,0⟩] scope pos) 0 (.ref it) acc { cenv with scope := relabel scope X.env }) (RR acc cenv.locals) s₄) E s₃) E s2 := by
 refine wpAny_newObj_type (newEnv_comp ?_)
 dsimp only
 have I1 : Inv X pins σ (upd H2 s2.heap.objs.size (.lst [])) { s2 with heap := s2.heap.push { cls := .type "list",dict := none,data := .seq ([] : List Value).toArray } } :=
  I2.lnew (t' := s2.toks) (ys := []) (its := []) .nil (Nat.zero_le _)
 have hDn : H2 s2.heap.objs.size = none := I2.hok.fresh (Nat.le_refl _)
 obtain ⟨W,⟨m0,w0⟩,turn⟩ := h _ hDn
 generalize hs1 : ({ s2 with heap := s2.heap.push { cls := .type "list",dict := none,data := .seq ([] : List Value).toArray } } : Shared) = s1 at I1
 have hheap : s2.heap.push { cls := .type "list",dict := none,data := .seq ([] : List Value).toArray } = s1.heap := by rw [<- hs1]
 rw [hheap]
 have old : ∀ b o,s1.heap.get? b = some o -> (pushCells (s1.heap.push { cls := .type "dict",data := .dict #[] }) scope.names).get? b = some o := fun b o e => pushCells_keeps _ _ _ _ (Heap.get?_push_of_some _ e)
 have hns₁ : (pushCells (s1.heap.push { cls := .type "dict",data := .dict #[] }) scope.names).Ns s1.heap.objs.size (fun _ => none) := (Heap.Ns.new s1.heap (.type "dict")).keeps fun b o e => pushCells_keeps _ _ _ _ e
 have okc := cellsFrom_ok scope.names (s1.heap.push { cls := .type "dict",data := .dict #[] }) (s1.heap.objs.size + 1) [] ⟨fun _ _ hm => (nomatch hm),List.Pairwise.nil⟩ (by rw [Heap.size_push];exact Nat.le_refl _)
 rw [Heap.size_push] at okc
 generalize hz1 : pushCells (s1.heap.push { cls := .type "dict",data := .dict #[] }) scope.names = h₁ at old hns₁ okc
 rw [cf_app]
 generalize hnc : cellsFrom (s1.heap.objs.size + 1) scope.names [] = nc at okc
 have ncm : ∀ x c,nc.lookup x = some c -> (x,NameKind.cell) ∈ scope.names /\ h₁.IsCell c none /\ s1.heap.objs.size + 1 <= c := fun x c e => by
  have hm := PySem.mem_of_lookup e
  exact ⟨cf_mem (n := s1.heap.objs.size + 1) (by rw [hnc];exact hm),okc.empty x c hm⟩
 have nch : ∀ x,(x,NameKind.cell) ∈ scope.names -> ∃ c,nc.lookup x = some c := fun x h => by
  obtain ⟨c,hc⟩ := cf_has (n := s1.heap.objs.size + 1) h
  rw [hnc] at hc
  exact lookup_mem hc
 have fpIn : ∀ b ∈ fp,b < s2.heap.objs.size := fun b hb => by
  obtain ⟨o,e,_⟩ := T.obj _ _ st2 b hb
  exact Heap.lt_size e
 have hsz1 : s1.heap.objs.size = s2.heap.objs.size + 1 := by rw [<- hheap,Heap.size_push]
 have up21 : ∀ b o,s2.heap.get? b = some o -> s1.heap.get? b = some o := fun b o e => by rw [<- hheap];exact Heap.get?_push_of_some _ e
 have hcell1 : ∀ x c,cl.lookup x = some c -> c < s1.heap.objs.size := fun x c e => by
  obtain ⟨v,q⟩ := I1.cell x c (hcl1 x c e)
  exact q.lt
 have hstk : ∀ b ∈ frs X.stack,b < s1.heap.objs.size := fun b hb => by
  obtain ⟨_,o,ho,_⟩ := (I1.stack).mem hb
  exact Heap.lt_size ho
 have okY : (compCx2 X N' scope (nc ++ cl) s1 (upd H2 s2.heap.objs.size (.lst [])) fp).Ok := by
  refine ⟨I1.ok.mod,S.kind,I1.ok.glob,I1.ok.blt,Nat.le_refl _,fun x y c e1 e2 => ?_,fun x hx => ?_,fun x c hf e => ?_,I1.ok.hd,I1.ok.frames,.inl rfl,fun b hb => ⟨?_,fun x c e => ?_⟩,fun b o e => ?_,
   Nat.le_trans I1.ok.bsz I1.sz,fun b o e hb => ?_,fun b hb hb2 => ?_,I1.stack,I1.stkFree⟩
  ·rcases lookup_app e1 with n1 | ⟨_,o1⟩
   ·rcases lookup_app e2 with n2 | ⟨_,o2⟩
    ·exact PySem.name_of_addr okc.apart (PySem.mem_of_lookup n1) (PySem.mem_of_lookup n2)
    ·exact absurd (Nat.lt_of_lt_of_le (hcell1 y c o2) (Nat.le_of_succ_le (ncm x c n1).2.2)) (Nat.lt_irrefl _)
   ·rcases lookup_app e2 with n2 | ⟨_,o2⟩
    ·exact absurd (Nat.lt_of_lt_of_le (hcell1 x c o1) (Nat.le_of_succ_le (ncm y c n2).2.2)) (Nat.lt_irrefl _)
    ·exact I1.ok.inj x y c (hcl1 x c o1) (hcl1 y c o2)
  ·cases q : nc.lookup x with
   | some c => exact ⟨c,lookup_left q⟩
   | none =>
    rcases relabel_has2 hx with h | h
    ·obtain ⟨c,hc⟩ := hcl2 x h
     exact ⟨c,(app_lookup q).trans hc⟩
    ·obtain ⟨c,hc⟩ := nch x h
     rw [q] at hc
     cases hc
  ·have hx : (x,NameKind.cell) ∈ scope.names := PySem.mem_of_lookup (beq_iff_eq.mp hf)
   obtain ⟨c',hc'⟩ := nch x hx
   have := lookup_left (m := cl) hc'
   have e : (nc ++ cl).lookup x = some c := e
   rw [this] at e
   cases e
   exact Nat.le_of_succ_le (ncm x c hc').2.2
  ·exact Nat.ne_of_lt (Nat.lt_of_lt_of_le (fpIn b hb) (by show s2.heap.objs.size <= s1.heap.objs.size;rw [hsz1];exact Nat.le_succ _))
  ·rcases lookup_app e with n1 | ⟨_,o1⟩
   ·have h1 := fpIn b hb
    have h2 := (ncm x c n1).2.2
    rw [hsz1] at h2
    exact fun z => absurd (z ▸ h2) (Nat.not_le_of_lt (Nat.lt_of_lt_of_le h1 (Nat.le_trans (Nat.le_succ _) (Nat.le_succ _))))
   ·exact (f2 b hb).2.2.2.2.1 x c (hcl1 x c o1)
  ·exact I1.bs b o e
  ·have := (f2 b hb)
   obtain ⟨o',e',_⟩ := T.obj _ _ st2 b hb
   have hlt := Nat.lt_of_lt_of_le (Heap.lt_size e) I1.ok.bsz
   rcases this.2.2.2.1 with z | z
   ·exact I1.ok.noex b o e z
   ·exact absurd (Nat.lt_of_lt_of_le hlt z) (Nat.lt_irrefl _)
  ·rcases List.mem_cons.mp (I1.stkSub b hb2) with z | z
   ·exact (f2 b hb).2.1 z
   ·exact (f2 b hb).2.2.1 z
 have hlenc : (caps ix σ ++ List.replicate nl none).length = N'.length := by
  rw [List.length_append,List.length_replicate,hnl];simp [caps]
 have IY : Inv (compCx2 X N' scope (nc ++ cl) s1 (upd H2 s2.heap.objs.size (.lst [])) fp) [] (caps ix σ ++ List.replicate nl none) (upd H2 s2.heap.objs.size (.lst [])) { s2 with heap := h₁ } := by
  refine ⟨okY,?_,I2.bare,Un.kept old,⟨_,hns₁,fun j x v e1 e2 e3 => ?_⟩,fun x c e => ?_,I1.hok.fresh (Nat.le_refl _),fun x c e => ?_,fun p hp => absurd (show p ∈ ([] : List (Addr × Obj)) from hp) (by simp),I1.hok.kept old,hlenc⟩
  ·show s2.os = s1.os
   rw [<- hs1]
  ·have hj : j < ix.length := by
    by_cases hj : j < ix.length
    ·exact hj
    ·exfalso
     have hl : (caps ix σ).length = ix.length := by simp [caps]
     rw [List.getElem?_append_right (by rw [hl];omega),List.getElem?_replicate] at e2
     split at e2 <;> cases e2
   have hl : (caps ix σ).length = ix.length := by simp [caps]
   rw [List.getElem?_append_left (by rw [hl];exact hj)] at e2
   have hci := S.cap j hj
   obtain ⟨i,hi⟩ : ∃ i,ix[j]? = some i := ⟨ix[j],by simp [hj]⟩
   rw [hi] at hci
   have hNi : X.N[i]? = some x := by
    have : N'[j]? = X.N[i]? := hci
    rw [<- this];exact e1
   have hσ : σ[i]? = some (some v) := by
    unfold caps at e2
    rw [List.getElem?_map,hi] at e2
    have e2' : (σ[i]?).join = some v := by simpa using e2
    cases q : σ[i]? with
    | none => rw [q] at e2';cases e2'
    | some o => rw [q] at e2';rw [show o = some v from e2']
   have hfl : scope.names.lookup x = some .free := S.capf x (by
    rw [List.mem_iff_getElem?]
    exact ⟨j,by rw [List.getElem?_take_of_lt hj];exact e1⟩)
   have hfree : (x,NameKind.free) ∈ scope.names := PySem.mem_of_lookup hfl
   have hpk : X.env.kindOf x = some .cell ∨ X.env.kindOf x = some .free := by
    exact S.free (x,.free) hfree rfl
   have hvis : Vis X.env.scope x := by
    rcases hpk with z | z
    ·exact .inr (.inl z)
    ·exact .inr (.inr z)
   obtain ⟨m,hn,hloc⟩ := I1.loc
   obtain ⟨u,ru,l⟩ := hloc i x v hNi hσ hvis
   refine ⟨u,ru,?_⟩
   rcases l with ⟨hk,_⟩ | ⟨hk,c,ec,z⟩
   ·rcases hpk with q | q <;> rw [hk] at q <;> cases q
   ·obtain ⟨c',hc'⟩ := hcl2 x hfree
    have : c' = c := by
     have := hcl1 x c' hc'
     rw [ec] at this;exact (Option.some.inj this).symm
    subst this
    have hnc0 : nc.lookup x = none := by
     cases q : nc.lookup x with
     | none => rfl
     | some d =>
      have := S.cel (x,.cell) (ncm x d q).1 rfl
      rw [hfl] at this
      cases this
    refine .inr ⟨relabel_free hfl,c',(app_lookup hnc0).trans hc',?_⟩
    ·obtain ⟨o,ho,hd⟩ := z
     exact ⟨o,old _ _ ho,hd⟩
  ·rcases lookup_app e with n1 | ⟨_,o1⟩
   ·exact ⟨none,(ncm x c n1).2.1⟩
   ·obtain ⟨v,o,ho,hd⟩ := I1.cell x c (hcl1 x c o1)
    exact ⟨v,o,old _ _ ho,hd⟩
  ·rcases lookup_app e with n1 | ⟨_,o1⟩
   ·exact I1.hok.fresh (Nat.le_of_succ_le (ncm x c n1).2.2)
   ·exact I1.freeC x c (hcl1 x c o1)
 have back : ∀ {pY : List (Addr × Obj)} {σ' : St} {H' : Hp} {s' : Shared},Inv (compCx2 X N' scope (nc ++ cl) s1 (upd H2 s2.heap.objs.size (.lst [])) fp) pY σ' H' s' -> Inv X pins σ H' s' := fun {pY σ' H' s'} J' =>
  I1.call' J'.os J'.base J'.hok J'.bare fun b hb => ⟨(f2 b hb).2.2.2.1,(f2 b hb).2.1,(f2 b hb).2.2.2.2.1,(f2 b hb).2.2.2.2.2⟩
 have stat : ∀ {H' : Hp} {pY : List (Addr × Obj)},(∀ b ∈ fp,H' b = none) -> pY = [] -> ∀ b ∈ fp,FpOk (compCx2 X N' scope (nc ++ cl) s1 (upd H2 s2.heap.objs.size (.lst [])) fp) pY H' b := fun {H' pY} hn hp b hb => by
  subst hp
  refine ⟨hn b hb,(okY.exf b hb).1,okY.exfs b hb,.inl hb,(okY.exf b hb).2,fun p hp => absurd (show p ∈ ([] : List (Addr × Obj)) from hp) (by simp)⟩
 have st1 : tn 0 h₁ := T.keep 0 s2.heap h₁ st2 fun b hb o e => old b o (up21 b o e)
 have fr1 : ∀ b ∈ fp,(upd H2 s2.heap.objs.size (.lst [])) b = none := fun b hb => by
  rw [upd_ne (Nat.ne_of_lt (fpIn b hb))]
  exact (f2 b hb).1
 have loop : ∀ s₃ : Shared,s₃ = { s2 with heap := h₁ } →
   codeAny (model X.prog X.w) X.A (.compLoop (.ListComp elt [⟨tg,iter,ifs,0⟩,⟨tg2,it2,ifs2,0⟩] scope pos) 0 (.ref it) (.ref s2.heap.objs.size) (compEnvC scope (nc ++ cl) s1.heap.objs.size X.env)) (RR (.ref s2.heap.objs.size) s1.heap.objs.size) s₃ := by
  rintro s₃ rfl
  refine comp_loop0 (hs := hs2 _) (fun n s' => ∃ i σ' H' acc,Inv (compCx2 X N' scope (nc ++ cl) s1 (upd H2 s2.heap.objs.size (.lst [])) fp) [] σ' H' s' /\ σ'.take ix.length = caps ix σ /\ tn i s'.heap /\ (∀ b ∈ fp,H' b = none) /\ W i n acc H') ?_ m0
   ⟨0,_,_,[],IY,by rw [List.take_append_of_le_length (by simp [caps])];exact List.take_of_length_le (by simp [caps]),st1,fr1,w0⟩
  rintro n s' ⟨i,σ',H',acc,J',hσ,st',fr',w'⟩
  have Jc : Inv (compCx2 X N' scope (nc ++ cl) s1 (upd H2 s2.heap.objs.size (.lst [])) fp) [] (caps ix σ ++ List.replicate nl none) H' s' := by
   refine J'.weak (by rw [hlenc];exact J'.len.symm) fun j v e => ?_
   have hl : (caps ix σ).length = ix.length := by simp [caps]
   by_cases hj : j < ix.length
   ·rw [List.getElem?_append_left (by rw [hl];exact hj),<- hσ,List.getElem?_take_of_lt hj] at e
    exact e
   ·rw [List.getElem?_append_right (by rw [hl];omega),List.getElem?_replicate] at e
    split at e <;> cases e
  rcases turn i n acc H' w' with ⟨stop,q⟩ | ⟨go,N,hN,step⟩
  ·refine wpAny_mono (T.done (compCx2 X N' scope (nc ++ cl) s1 (upd H2 s2.heap.objs.size (.lst [])) fp) rfl rfl rfl hc i [] s' _ H' (fun _ _ => False) Jc (stat fr' rfl) st' stop) (fun r s4 ⟨hr,I4⟩ => ?_) fun _ _ z => z
   subst hr
   have IX := back I4
   obtain ⟨m,hm,_⟩ := I4.loc
   exact fin _ _ s4 H' IX ⟨m,hm⟩ (Nat.ne_of_gt I1.lt) (fun x c e z => by
    obtain ⟨v,q⟩ := I1.cell x c e
    have := q.lt
    rw [z] at this
    exact Nat.lt_irrefl _ this) (fun σ'' s'' h'' I'' sb => Inv.offNew I1 I'' I4.free fun b o hb e => (sb.2 b hb).trans e) q
  ·refine wpAny_mono (T.item (compCx2 X N' scope (nc ++ cl) s1 (upd H2 s2.heap.objs.size (.lst [])) fp) rfl rfl rfl hc i [] s' _ H' (fun _ _ => False) Jc (stat fr' rfl) st' go) (fun r s4 ⟨u,hr,h4⟩ => ?_) fun _ _ z => z
   subst hr
   refine wpAny_mono h4 (fun _ s5 ⟨x,H5,I5,r5,y5,st5,fr5⟩ => ?_) fun _ _ z => z
   have I5' := I5.pinned (stat fr5 rfl) (T.obj _ _ st5)
   obtain ⟨btg,bts,bit,bt2,bs2,bel⟩ := blk (nc ++ cl) s1 (upd H2 s2.heap.objs.size (.lst [])) fp
   refine wpAny_mono (btg _ s5 _ H5 x u _ I5' r5 (step x H5 y5)) (fun _ s6 ⟨σ6,H6,I6,hσ6,q6⟩ => ?_) fun _ _ z => z
   have again : ∀ {σ7 : St} {H7 : Hp} {s7 : Shared} {acc' : List V},σ7.take ix.length = caps ix σ -> Inv (compCx2 X N' scope (nc ++ cl) s1 (upd H2 s2.heap.objs.size (.lst [])) fp) ([] ++ pinsAt fp s5.heap) σ7 H7 s7 -> N acc' H7 →
     ∃ m,m < n /\ ∃ i σ' H' acc,Inv (compCx2 X N' scope (nc ++ cl) s1 (upd H2 s2.heap.objs.size (.lst [])) fp) [] σ' H' s7 /\ σ'.take ix.length = caps ix σ /\ tn i s7.heap /\ (∀ b ∈ fp,H' b = none) /\ W i m acc H' := fun {σ7 H7 s7 acc'} hσ7 I7 n7 => by
    obtain ⟨m',hm,w7⟩ := hN acc' H7 n7
    refine ⟨m',hm,i + 1,σ7,H7,acc',I7.unpinned,hσ7,T.keep _ _ _ st5 fun b hb o e => (I7.pin (b,o) (List.mem_append_right _ (List.mem_append_right _ (mem_pinsAt hb e)))).1,fun b hb => ?_,w7⟩
    obtain ⟨o,e,d⟩ := T.obj _ _ st5 b hb
    exact (I7.pin (b,o) (List.mem_append_right _ (List.mem_append_right _ (mem_pinsAt hb e)))).2.1
   refine wpAny_mono (bts _ s6 σ6 H6 _ I6 q6) (fun okb s7 ⟨H7,I7,q7⟩ => ?_) fun _ _ z => z
   cases okb with
   | false => exact again hσ6 I7 q7
   | true =>
    refine wpAny_mono (emit2 (Y := compCx2 X N' scope (nc ++ cl) s1 (upd H2 s2.heap.objs.size (.lst [])) fp) hc rfl bit bt2 bs2 bel I7 q7) (fun x s8 h8 => wpAny_mono h8 (fun i2 s9 h9 => codeAny_mono h9 fun r s10 h10 => ?_) fun _ _ z => z) fun _ _ z => z
    cases r with
    | ok f =>
     obtain ⟨acc',σ',H',I9,hσ9,n9⟩ := h10
     exact again hσ9 I9 n9
    | error e => exact h10.elim
 have he : ({ newEnv scope s1.heap.objs.size X.env.globals (nc ++ cl) X.env.qual none .none (some X.env) builtinsNs with scope := relabel scope X.env } : Env) = compEnvC scope (nc ++ cl) s1.heap.objs.size X.env := rfl
 exact codeAny_compStart_list (loop _ rfl) (T.self _ 0 _ _ _ st1 (loop _ rfl))
theorem pe_comp3 {X : Cx} {tg iter tg2 it2 elt : Expr} {ifs ifs2 : List Expr} {scope : Scope} {pos : Pos} {N' : List Str} {ix : List Nat} {nl : Nat} {wi wi2 : TI} {g g2 : TG} {tt tt2 : TT} {te : TE}
  (hc : X.calm = true) (S : CompSc2 X N' ix scope) (hnl : N'.length = ix.length + nl) (hi : PI X tg iter wi)
  (blk : ∀ (cl : List (Str × Addr)) (s1 : Shared) (H1 : Hp) (fp : List Addr),Blk2 (compCx2 X N' scope cl s1 H1 fp) tg ifs tg2 it2 ifs2 elt g tt wi2 g2 tt2 te)
  (hs : ∀ x,foldedSetIterable iter X.env x = pure x := by intro _;rfl) (hs2 : ∀ (env : Env) (x : Value),foldedSetIterable it2 env x = pure x := by intro _ _;rfl) : PE X (.ListComp elt [⟨tg,iter,ifs,0⟩,⟨tg2,it2,ifs2,0⟩] scope pos) (tComp2 ix nl wi g tt wi2 g2 tt2 te) := by
 intro pins s σ H Q I h
 rw [eval_ListComp]
 obtain ⟨cl,e1,e2,e3⟩ := clos_ok (env := X.env) (scope := scope) fun y hy hf => I.ok.has y.1 (S.free y hy hf)
 refine wpAny_comprehension_free (use := none) (cl := cl) rfl hs e1 S.kind S.names (wpAny_mono (hi pins s σ H _ I h) (fun xv s₁ h₁ => wpAny_mono h₁ (fun itv s₂ h₂ => ?_) fun _ _ e => e) fun _ _ e => e)
 obtain ⟨it,fp,tn,J,H2,e,I2,T,st2,f2,q⟩ := h₂
 subst e
 refine comp_core3 (Q := Q) (RR := fun acc C => compPost (model X.prog X.w) X.A X.xe none (EP X pins σ Q) acc C) hs2 hc S hnl e2 e3 blk I2 T st2 f2 q ?_
 intro D C s' H' I' hm hC1 hC2 hb hq
 obtain ⟨m,hm⟩ := hm
 exact ⟨m,hm,fun h'' sb => ⟨.ref D,H',hb σ s' h'' I' sb,rfl,hq⟩⟩
end L2
namespace L2
open PySem PySem.Spec PyProof.Rows
def inrV (gg : VG) (tb : VB) (fe : VF) : List Dat -> List Dat -> Ev -> Option (List Dat × Ev)
 | [],acc,δ => some (acc,δ)
 | d :: r,acc,δ => (gg d δ).bind fun δ1 => (tb δ1).bind fun p => if p.1 = true then (fe p.2).bind fun q => if acc.length < 16777216 then inrV gg tb fe r (acc ++ [q.1]) q.2 else none else inrV gg tb fe r acc p.2
def compV2 (n nl : Nat) (gg : VG) (tb : VB) (fi2 : VI) (gg2 : VG) (tb2 : VB) (fe : VF) : List Dat -> List Dat -> Ev -> Option (List Dat × Ev)
 | [],acc,δ => some (acc,δ)
 | d :: r,acc,δ => (gg d (δ ++ nos nl)).bind fun δ1 => (tb δ1).bind fun p => if p.1 = true then (fi2 p.2).bind fun u => (inrV gg2 tb2 fe u.1 acc u.2).bind fun q => compV2 n nl gg tb fi2 gg2 tb2 fe r q.1 (q.2.take n) else compV2 n nl gg tb fi2 gg2 tb2 fe r acc (p.2.take n)
def fComp2 (ix : List Nat) (nl : Nat) (fi : VI) (gg : VG) (tb : VB) (fi2 : VI) (gg2 : VG) (tb2 : VB) (fe : VF) : VF := fun δ => (fi δ).bind fun p => (compV2 ix.length nl gg tb fi2 gg2 tb2 fe p.1 [] (capsD ix p.2)).map fun q => (.lst q.1,backD ix q.2 p.2)
section
variable {X : Cx} {K : PySem.W.Frag} {ml : List Nat} {e a b c : Expr} {es : List Expr} {pi pt pe pi2 pt2 pu bt bi ps bs : Bool} {f : VF} {B B' : Bs} {O : Nat -> Option Addr} {H H0 H1 H' : Hp} {σ : St} {δ δ' : Ev} {v : V} {d : Dat} {p : Addr} {pos : Pos} {ix : List Nat} {nl : Nat}
theorem tv_comp3 {fi fi2 : VI} {gg gg2 : VG} {tb tb2 : VB} {fe : VF} (hnd : ix.Nodup) {Q : VK} (h : TN K ml (pi && (pt && pi2 && pt2 && pe)) (fComp2 ix nl fi gg tb fi2 gg2 tb2 fe) σ H Q) :
  tComp2 ix nl (TIV K ml pi fi) (TGV K (List.range ix.length) gg) (TB K (List.range ix.length) pt tb) (TIV K (List.range ix.length) pi2 fi2) (TGV K (List.range ix.length) gg2) (TB K (List.range ix.length) pt2 tb2) (TV K (List.range ix.length) pe true true fe) σ H Q := by
 obtain ⟨B,O,δ,d,δ2,S,q,k⟩ := h
 unfold fComp2 at q
 cases h1 : fi δ with
 | none => rw [h1] at q;cases q
 | some p =>
  obtain ⟨ds,δ1⟩ := p
  rw [h1] at q
  have q : ((compV2 ix.length nl gg tb fi2 gg2 tb2 fe ds [] (capsD ix δ1)).map fun q => (Dat.lst q.1,backD ix q.2 δ1)) = some (d,δ2) := q
  cases h2 : compV2 ix.length nl gg tb fi2 gg2 tb2 fe ds [] (capsD ix δ1) with
  | none => rw [h2] at q;cases q
  | some z =>
   obtain ⟨res,δf⟩ := z
   rw [h2] at q
   cases q
   refine ⟨B,O,δ,ds,δ1,S,h1,fun J kps H0 S0 f0 p0 wk D hD => ?_⟩
   have hDO : ∀ j,Oc ix O j ≠ some D := fun j e => by
    unfold Oc at e
    cases hi : ix[j]? with
    | none => rw [hi] at e;cases e
    | some i =>
     rw [hi] at e
     obtain ⟨o,q⟩ := S0.nin (.inr ⟨i,e⟩)
     rw [hD] at q
     cases q
   have hmu0 : ∀ kp j,ix.length <= j -> (Bc ix B O H0 D kp).mu j = none := fun kp j hj => by
    show (ix[j]?).bind O = none
    rw [List.getElem?_eq_none hj]
    rfl
   refine ⟨fun i m acc H1 => m = ds.length - i /\ i <= ds.length /\ ∃ (accD : List Dat) (δc : Ev),δc.length = ix.length /\ acc.length = accD.length ∧
     Sta K (List.range ix.length) (Bc ix B O H0 D (kps ++ acc.zip accD)) (Oc ix O) H1 (caps ix σ ++ List.replicate nl none) (δc ++ nos nl) /\ H1 D = some (.lst acc) /\ ((pt && pi2 && pt2 && pe) = true -> Same H0 H1) ∧
     compV2 ix.length nl gg tb fi2 gg2 tb2 fe (ds.drop i) accD δc = some (res,δf),
    ⟨ds.length,rfl,Nat.zero_le _,[],capsD ix δ1,by simp [capsD],rfl,by
     rw [List.zip_nil_left,List.append_nil]
     exact S0.unkeep.inner hD hnd fun p hp => S0.kep p (List.mem_append_left _ hp),upd_same,fun _ => same_upd hD,h2⟩,?_⟩
   rintro i m acc H1 ⟨rfl,hi,accD,δc,hlc,hacc,S1,hD1,pur1,hc⟩
   have w := wk (Nn (Bc ix B O H0 D (kps ++ acc.zip accD)) (Oc ix O)) H1 fun p hp => S1.kep p (List.mem_append_left _ hp)
   by_cases hlt : i < ds.length
   ·obtain ⟨go,yl⟩ := w.1 i ds[i] (by simp [hlt])
    rw [List.drop_eq_getElem_cons hlt] at hc
    simp only [compV2] at hc
    cases g1 : gg ds[i] (δc ++ nos nl) with
    | none => rw [g1] at hc;cases hc
    | some δ3 =>
     rw [g1] at hc
     simp only [Option.bind_some] at hc
     cases g2 : tb δ3 with
     | none => rw [g2] at hc;cases hc
     | some z =>
      obtain ⟨kk,δ4⟩ := z
      rw [g2] at hc
      simp only [Option.bind_some] at hc
      refine .inr ⟨go,fun acc' H' => ∃ (accD : List Dat) (δc : Ev),δc.length = ix.length /\ acc'.length = accD.length ∧
       Sta K (List.range ix.length) (Bc ix B O H0 D (kps ++ acc'.zip accD)) (Oc ix O) H' (caps ix σ ++ List.replicate nl none) (δc ++ nos nl) /\ H' D = some (.lst acc') /\ ((pt && pi2 && pt2 && pe) = true -> Same H0 H') ∧
       compV2 ix.length nl gg tb fi2 gg2 tb2 fe (ds.drop (i + 1)) accD δc = some (res,δf),fun acc' H' w' => ⟨ds.length - (i + 1),by omega,rfl,hlt,w'⟩,fun x H2 hy => ?_⟩
      obtain ⟨sm,rx⟩ := yl x H2 hy
      refine ⟨_,_,_,ds[i],δ3,S1.same sm,rx,g1,fun σ3 O3 S3 m3 => ?_⟩
      have ln3 : ix.length <= σ3.length := by
       by_cases hz : ix.length = 0
       ·omega
       ·have hj : ix.length - 1 < ix.length := by omega
        have := m3 (ix.length - 1) (List.mem_range.mpr hj)
        have hs : (caps ix σ ++ List.replicate nl none)[ix.length - 1]? ≠ none := by
         rw [List.getElem?_append_left (by rw [caps_len];exact hj)]
         simp [caps,hj]
        rw [<- this] at hs
        have hlt3 : ix.length - 1 < σ3.length := Nat.lt_of_not_le fun z => hs (List.getElem?_eq_none_iff.mpr z)
        omega
      have hσ3 := take_caps ln3 m3
      refine ⟨hσ3,_,_,δ3,kk,δ4,S3,g2,fun H4 R4 => ?_⟩
      have hD4 : H4 D = some (.lst acc) := R4.frm _ _ (sm _ _ hD1) fun z => by
       obtain ⟨j,e⟩ := z
       have := (R4.sta.old j D e).1
       exact absurd (.inl (.inr rfl)) this
      have ln4 : ix.length <= δ4.length := by rw [<- R4.sta.len];exact ln3
      cases kk with
      | false =>
       rw [if_neg Bool.false_ne_true] at hc
       refine iteF ⟨accD,δ4.take ix.length,by rw [List.length_take];omega,hacc,R4.sta.turn (hmu0 _) (caps_len ix σ) hσ3 ln4,hD4,fun z => ?_,hc⟩
       simp only [Bool.and_eq_true] at z
       exact ((pur1 (by simp [z.1.1.1,z.1.1.2,z.1.2,z.2])).trans sm).trans (R4.pur z.1.1.1)
      | true =>
       rw [if_pos rfl] at hc
       cases g3 : fi2 δ4 with
       | none => rw [g3] at hc;cases hc
       | some z =>
        obtain ⟨ds2,δ5⟩ := z
        rw [g3] at hc
        simp only [Option.bind_some] at hc
        cases g4 : inrV gg2 tb2 fe ds2 accD δ5 with
        | none => rw [g4] at hc;cases hc
        | some z2 =>
         obtain ⟨res2,δ2f⟩ := z2
         rw [g4] at hc
         simp only [Option.bind_some] at hc
         refine iteT ⟨_,_,δ4,ds2,δ5,R4.sta,g3,fun J2 kps2 H5 S5 f5 p5 wk2 => ?_⟩
         have hD5 : H5 D = some (.lst acc) := f5 _ _ hD4 fun z => by
          obtain ⟨j,e⟩ := z
          have := (R4.sta.old j D e).1
          exact absurd (.inl (.inr rfl)) this
         refine ⟨fun i2 m2 acc1 σ1 H6 => m2 = ds2.length - i2 /\ i2 <= ds2.length /\ ∃ (accD1 : List Dat) (δc1 : Ev) (O1 : Nat -> Option Addr),acc1.length = accD1.length ∧
           Sta K (List.range ix.length) (Bc ix B O H0 D (kps2 ++ (kps ++ acc1.zip accD1))) O1 H6 σ1 δc1 /\ σ1.take ix.length = caps ix σ /\ ix.length <= σ1.length /\ H6 D = some (.lst acc1) /\ ((pt && pi2 && pt2 && pe) = true -> Same H0 H6) ∧
           inrV gg2 tb2 fe (ds2.drop i2) accD1 δc1 = some (res2,δ2f),
          ⟨ds2.length,rfl,Nat.zero_le _,accD,δ5,_,hacc,S5,hσ3,ln3,hD5,fun z => by
           simp only [Bool.and_eq_true] at z
           exact (((pur1 (by simp [z.1.1.1,z.1.1.2,z.1.2,z.2])).trans sm).trans (R4.pur z.1.1.1)).trans (p5 z.1.1.2),g4⟩,?_⟩
         rintro i2 m2 acc1 σ1 H6 ⟨rfl,hi2,accD1,δc1,O1,hacc1,S6,hσ1,ln1,hD6,pur6,hc6⟩
         have w2 := wk2 (Nn (Bc ix B O H0 D (kps2 ++ (kps ++ acc1.zip accD1))) O1) H6 fun p hp => S6.kep p (List.mem_append_left _ hp)
         by_cases hlt2 : i2 < ds2.length
         ·obtain ⟨go2,yl2⟩ := w2.1 i2 ds2[i2] (by simp [hlt2])
          rw [List.drop_eq_getElem_cons hlt2] at hc6
          simp only [inrV] at hc6
          cases k1 : gg2 ds2[i2] δc1 with
          | none => rw [k1] at hc6;cases hc6
          | some δ7 =>
           rw [k1] at hc6
           simp only [Option.bind_some] at hc6
           cases k2 : tb2 δ7 with
           | none => rw [k2] at hc6;cases hc6
           | some z3 =>
            obtain ⟨kk2,δ8⟩ := z3
            rw [k2] at hc6
            simp only [Option.bind_some] at hc6
            refine .inr ⟨go2,fun acc' σ' H' => ∃ (accD1 : List Dat) (δc1 : Ev) (O1 : Nat -> Option Addr),acc'.length = accD1.length ∧
             Sta K (List.range ix.length) (Bc ix B O H0 D (kps2 ++ (kps ++ acc'.zip accD1))) O1 H' σ' δc1 /\ σ'.take ix.length = caps ix σ /\ ix.length <= σ'.length /\ H' D = some (.lst acc') /\ ((pt && pi2 && pt2 && pe) = true -> Same H0 H') ∧
             inrV gg2 tb2 fe (ds2.drop (i2 + 1)) accD1 δc1 = some (res2,δ2f),fun acc' σ' H' w' => ⟨ds2.length - (i2 + 1),by omega,rfl,hlt2,w'⟩,fun x2 H7 hy2 => ?_⟩
            obtain ⟨sm2,rx2⟩ := yl2 x2 H7 hy2
            refine ⟨_,_,_,ds2[i2],δ7,S6.same sm2,rx2,k1,fun σ7 O7 S7 m7 => ?_⟩
            have hσ7 : σ7.take ix.length = caps ix σ := by
             rw [<- hσ1]
             refine List.ext_getElem? fun j => ?_
             rw [List.getElem?_take,List.getElem?_take]
             split
             ·rename_i hj
              exact m7 j (List.mem_range.mpr hj)
             ·rfl
            have ln7 : ix.length <= σ7.length := by
             have : (σ7.take ix.length).length = ix.length := by rw [hσ7,caps_len]
             rw [List.length_take] at this
             omega
            refine ⟨_,_,δ7,kk2,δ8,S7,k2,fun H8 R8 => ?_⟩
            have hD8 : H8 D = some (.lst acc1) := R8.frm _ _ (sm2 _ _ hD6) fun z => by
             obtain ⟨j,e⟩ := z
             have := (R8.sta.old j D e).1
             exact absurd (.inl (.inr rfl)) this
            cases kk2 with
            | false =>
             rw [if_neg Bool.false_ne_true] at hc6
             refine iteF ⟨accD1,δ8,_,hacc1,R8.sta,hσ7,ln7,hD8,fun z => ?_,hc6⟩
             have z0 := z
             simp only [Bool.and_eq_true] at z
             exact ((pur6 z0).trans sm2).trans (R8.pur z.1.2)
            | true =>
             rw [if_pos rfl] at hc6
             cases k3 : fe δ8 with
             | none => rw [k3] at hc6;cases hc6
             | some z4 =>
              obtain ⟨dv,δ9⟩ := z4
              rw [k3] at hc6
              simp only [Option.bind_some] at hc6
              split at hc6
              ·rename_i hz
               refine iteT ⟨_,_,δ8,dv,δ9,R8.sta,k3,fun v H9 R9 => ?_⟩
               have hD9 : H9 D = some (.lst acc1) := R9.frm _ _ hD8 fun z => by
                obtain ⟨j,e⟩ := z
                have := (R9.sta.old j D e).1
                exact absurd (.inl (.inr rfl)) this
               have hv : Rep K (Nn (Bc ix B O H0 D (kps2 ++ (kps ++ acc1.zip accD1))) O7) H9 (Nn (Bc ix B O H0 D (kps2 ++ (kps ++ acc1.zip accD1))) O7) v dv := R9.rep.mono (fun a h => by
                rcases h with h | h
                ·exact .inl h
                ·exact .inr h) (fun a h => by
                rcases h with h | h
                ·exact .inl h
                ·exact .inr h)
               have S10 := R9.sta.withKp (kp := kps2 ++ (kps ++ (acc1 ++ [v]).zip (accD1 ++ [dv]))) fun p hp => by
                rw [List.zip_append hacc1,<- List.append_assoc,<- List.append_assoc] at hp
                rcases List.mem_append.mp hp with z | z
                ·exact R9.sta.kep p (by rw [<- List.append_assoc];exact z)
                ·rw [List.mem_singleton.mp (show p ∈ [(v,dv)] from z)]
                 exact hv
               refine ⟨hD9,by rw [hacc1,sizeLine_eq];exact hz,accD1 ++ [dv],δ9,O7,by simp [hacc1],?_,hσ7,ln7,upd_same,fun z => ?_,hc6⟩
               ·exact S10.writeZ (.inl (.inr rfl)) hD9 hD
               ·intro b o e
                have hb : b ≠ D := fun z => by rw [z,hD] at e;cases e
                rw [upd_ne hb]
                have z0 := z
                simp only [Bool.and_eq_true] at z
                exact (((pur6 z0).trans sm2).trans ((R8.pur z.1.2).trans (R9.pur z.2))) b o e
              ·cases hc6
         ·have e : i2 = ds2.length := by omega
          subst e
          rw [List.drop_length] at hc6
          cases hc6
          refine .inl ⟨w2.2,hσ1,res2,δ2f.take ix.length,by rw [List.length_take,<- S6.len];omega,hacc1,?_,hD6,pur6,hc⟩
          have S11 := S6.turn (nl := nl) (hmu0 _) (caps_len ix σ) hσ1 (by rw [<- S6.len];exact ln1)
          exact S11.withKp (kp := kps ++ acc1.zip res2) fun p hp => S11.kep p (List.mem_append_right _ hp)
   ·have e : i = ds.length := by omega
    subst e
    rw [List.drop_length] at hc
    cases hc
    refine .inl ⟨w.2,k D H1 ?_⟩
    have fP : Fr (OA (Oc ix O)) H0 H1 := S1.frm
    have hPO : ∀ a,OA (Oc ix O) a -> OA O a := fun a ⟨j,e⟩ => by
     unfold Oc at e
     cases hi : ix[j]? with
     | none => rw [hi] at e;cases e
     | some i => rw [hi] at e;exact ⟨i,e⟩
    have SL := S0.unkeep.laid (o := .lst acc) hD
    have fL : Fr (OA (Oc ix O)) (upd H0 D (.lst acc)) H1 := fun b o e n => by
     by_cases hb : b = D
     ·subst hb
      rw [upd_same] at e
      cases e
      exact hD1
     ·rw [upd_ne hb] at e
      exact fP b o e n
    refine ⟨SL.call (backD_len) (fun i => ?_) fL hPO,f0.trans (fP.mono hPO),fun z => ?_,.lst hD1 (rep_zip hacc fun p hp => (S1.kep p (List.mem_append_right _ hp)).mono nn_bc' nn_bc'),S0.unkeep.new hD,S0.fresh hD⟩
    ·by_cases hlt' : i < δ1.length
     ·rcases backD_get (ix := ix) (ss := δf) (δ := δ1) i hlt' hlc.symm with ⟨j,x,e1,e2,e3⟩ | ⟨e1,e2⟩
      ·have e4 : (δf ++ nos nl)[j]? = some (.ow x) := by
        rw [List.getElem?_append_left (List.getElem?_eq_some_iff.mp e2).1]
        exact e2
       obtain ⟨a,e5,_,w⟩ := S1.ow j x e4
       refine .inr ⟨a,x,?_,e3,w.mono nn_bc'⟩
       unfold Oc at e5
       rw [e1] at e5
       exact e5
      ·refine .inl ⟨e2,fun a ea ⟨j,ej⟩ => ?_⟩
       obtain ⟨x,ex⟩ := S1.dom j a ej
       unfold Oc at ej
       cases hi : ix[j]? with
       | none => rw [hi] at ej;cases ej
       | some i' =>
        rw [hi] at ej
        have : i = i' := S0.inj i i' a ea ej
        subst this
        have hj : j < δf.length := by rw [hlc];exact (List.getElem?_eq_some_iff.mp hi).1
        rw [List.getElem?_append_left hj] at ex
        exact e1 j x hi ex
     ·refine .inl ⟨?_,fun a ea => ?_⟩
      ·rw [List.getElem?_eq_none (by rw [backD_len];omega),List.getElem?_eq_none (by omega)]
      ·obtain ⟨x,ex⟩ := S0.dom i a ea
       exact absurd (List.getElem?_eq_some_iff.mp ex).1 hlt'
    ·rw [Bool.and_eq_true] at z
     exact (p0 z.1).trans (pur1 z.2)
theorem vn_comp3 {tg iter tg2 it2 elt : Expr} {ifs ifs2 : List Expr} {scope : Scope} {N' : List Str} {fi fi2 : VI} {gg gg2 : VG} {tb tb2 : VB} {fe : VF}
  (hc : X.calm = true) (hk : scope.kind = .function) (hok : compOk X.N N' ix scope.names X.env.kindOf = true) (hnl : N'.length = ix.length + nl) (hnd : ix.Nodup) (hi : PI X tg iter (TIV K ml pi fi))
  (blk : ∀ (cl : List (Str × Addr)) (s1 : Shared) (H1 : Hp) (fp : List Addr),Blk2 (compCx2 X N' scope cl s1 H1 fp) tg ifs tg2 it2 ifs2 elt (TGV K (List.range ix.length) gg) (TB K (List.range ix.length) pt tb) (TIV K (List.range ix.length) pi2 fi2) (TGV K (List.range ix.length) gg2) (TB K (List.range ix.length) pt2 tb2) (TV K (List.range ix.length) pe true true fe))
  (hs : ∀ x,foldedSetIterable iter X.env x = pure x := by intro _;rfl) (hs2 : ∀ (env : Env) (x : Value),foldedSetIterable it2 env x = pure x := by intro _ _;rfl) : PE X (.ListComp elt [⟨tg,iter,ifs,0⟩,⟨tg2,it2,ifs2,0⟩] scope pos) (TN K ml (pi && (pt && pi2 && pt2 && pe)) (fComp2 ix nl fi gg tb fi2 gg2 tb2 fe)) :=
 (pe_comp3 hc (compOk_sc hk hok) hnl hi blk hs hs2).imp fun _ _ _ h => tv_comp3 hnd h
end
end L2
namespace L2
open PySem PySem.Spec PyProof.Rows
section
variable {prog : Program} {w : World} {A : Around} {R : Result -> Shared -> Prop} {I : Addr} {fp wr : List Addr} {n : Nat} {P : Nat -> Value -> Prop} {St : Nat -> Heap -> Prop}
theorem loopName : (toString "min" ++ toString ".loop" : String) = "min.loop" := by decide
theorem minD_go (W : Walks prog w A.in1 I fp wr n P St) (bt : Nat -> Nat -> Bool) (hcmp : CmpOf prog w A.in1 .Lt P bt) (S : Addr) (hSf : S ∉ fp) (kw : List (Str × Value)) : ∀ (k j : Nat) (s : Shared) (vb : Value) (c : Nat),n - (j + 1) = k -> j + 1 <= n -> St (j + 1) s.heap -> P (argBest bt j) vb →
  s.heap.get? S = some ⟨.type "list",none,.seq #[vb,vb] c,#[]⟩ →
  (∀ v g tk,P (argBest bt (n - 1)) v -> (∀ b o,b ∉ wr -> b ≠ S -> s.heap.get? b = some o -> g.get? b = some o) -> R (.ok (.ret v)) { s with heap := g,toks := tk }) →
  codeAny (model prog w) A (.builtin "min.loop" ⟨[.ref I,.none,.ref S],kw⟩) R s := by
 have nSw : S ∉ wr := fun z => hSf (W.sub _ z)
 intro k
 induction k with
 | zero =>
  intro j s vb c ek ej est ep eS eR
  have ej' : j + 1 = n := by omega
  refine codeAny_builtin F.entry_min_loop (by
   rw [Around.under_plainId F.plain_min_loop _]
   show wpAny _ A.in1 (seqItems? (.ref S) >>= _) _ _ s
   refine wpAny_bind (wpAny_seqItems eS rfl ?_)
   show wpAny _ A.in1 (tryCatch (pyNext (.ref I)) _ >>= _) _ _ s
   refine wpAny_bind (wpAny_tryCatch (W.done s _ _ (ej' ▸ est) fun g tk kept => ?_))
   have eS' := kept S _ nSw eS
   show wpAny _ A.in1 (updateSeq S (fun _ => #[]) >>= _) _ _ _
   refine wpAny_bind (wpAny_updateSeq eS' rfl (wpAny_bind (wpAny_letGo (wpAny_pure ?_))))
   exact eR vb _ tk (by rw [<- ej'];exact ep) fun b o z1 z2 e => (Heap.get?_update_other _ _ (Ne.symm z2)).trans (kept b o z1 e))
 | succ k ih =>
  intro j s vb c ek ej est ep eS eR
  have hlt : j + 1 < n := by omega
  refine codeAny_builtin F.entry_min_loop (by
   rw [Around.under_plainId F.plain_min_loop _]
   show wpAny _ A.in1 (seqItems? (.ref S) >>= _) _ _ s
   refine wpAny_bind (wpAny_seqItems eS rfl ?_)
   show wpAny _ A.in1 (tryCatch (pyNext (.ref I)) _ >>= _) _ _ s
   refine wpAny_bind (wpAny_tryCatch (W.item (j + 1) s _ _ hlt est fun v g tk pv est' kept => ?_))
   have eS' := kept S _ nSw eS
   show wpAny _ A.in1 (tryCatch (holding [v,v] (richCompare .Lt v vb >>= _)) _ >>= _) _ _ _
   refine wpAny_bind (wpAny_tryCatch (wpAny_holding (wpAny_bind (hcmp (j + 1) (argBest bt j) v vb _ _ _ pv ep ?_))))
   refine wpAny_bind (wpAny_holding (wpAny_truthy_bool ?_))
   refine wpAny_bind (wpAny_letGo (wpAny_pure ?_))
   cases hb : bt (j + 1) (argBest bt j) with
   | true =>
    simp only [if_true]
    refine wpAny_bind (wpAny_updateSeq eS' rfl (wpAny_bind (wpAny_letGo ?_)))
    rw [loopName]
    refine wpAny_pure ⟨plainId_quiet F.plain_min_loop _,ih (j + 1) _ v _ (by omega) hlt (W.frame _ _ _ est' fun b hbf o e => (Heap.get?_update_other _ _ (fun z : S = b => hSf (by rw [z];exact hbf))).trans e) (by simp only [argBest,hb,if_true];exact pv) (Heap.get?_update_self _ eS' rfl)
     fun v' g' tk' pv' kept' => eR v' g' tk' pv' fun b o z1 z2 e => kept' b o z1 z2 ((Heap.get?_update_other _ _ (Ne.symm z2)).trans (kept b o z1 e))⟩
   | false =>
    simp only [Bool.false_eq_true,if_false]
    refine wpAny_bind (wpAny_letGo ?_)
    rw [loopName]
    exact wpAny_pure ⟨plainId_quiet F.plain_min_loop _,ih (j + 1) _ vb c (by omega) hlt est' (by simp only [argBest,hb,Bool.false_eq_true,if_false];exact ep) eS' fun v' g' tk' pv' kept' =>
     eR v' g' tk' pv' fun b o z1 z2 e => kept' b o z1 z2 (kept b o z1 e)⟩)
theorem minD_first (W : Walks prog w A.in1 I fp wr n P St) (bt : Nat -> Nat -> Bool) (hcmp : CmpOf prog w A.in1 .Lt P bt) (S : Addr) (hSf : S ∉ fp) (kw : List (Str × Value)) (hn : 0 < n) {s : Shared} {c : Nat} (est : St 0 s.heap) (eS : s.heap.get? S = some ⟨.type "list",none,.seq #[] c,#[]⟩)
  (eR : ∀ v g tk,P (argBest bt (n - 1)) v -> (∀ b o,b ∉ wr -> b ≠ S -> s.heap.get? b = some o -> g.get? b = some o) -> R (.ok (.ret v)) { s with heap := g,toks := tk }) :
  codeAny (model prog w) A (.builtin "min.loop" ⟨[.ref I,.none,.ref S],kw⟩) R s := by
 have nSw : S ∉ wr := fun z => hSf (W.sub _ z)
 refine codeAny_builtin F.entry_min_loop (by
  rw [Around.under_plainId F.plain_min_loop _]
  show wpAny _ A.in1 (seqItems? (.ref S) >>= _) _ _ s
  refine wpAny_bind (wpAny_seqItems eS rfl ?_)
  show wpAny _ A.in1 (tryCatch (pyNext (.ref I)) _ >>= _) _ _ s
  refine wpAny_bind (wpAny_tryCatch (W.item 0 s _ _ hn est fun v g tk pv est' kept => ?_))
  have eS' := kept S _ nSw eS
  refine wpAny_bind (wpAny_pure ?_)
  show wpAny _ A.in1 (updateSeq S (fun _ => #[v,v]) >>= _) _ _ _
  refine wpAny_bind (wpAny_updateSeq eS' rfl ?_)
  rw [loopName]
  exact wpAny_pure ⟨plainId_quiet F.plain_min_loop _,minD_go W bt hcmp S hSf kw _ 0 _ v _ rfl hn (W.frame _ _ _ est' fun b hbf o e => (Heap.get?_update_other _ _ (fun z : S = b => hSf (by rw [z];exact hbf))).trans e) pv (Heap.get?_update_self _ eS' rfl)
   fun v' g' tk' pv' kept' => eR v' g' tk' pv' fun b o z1 z2 e => kept' b o z1 z2 ((Heap.get?_update_other _ _ (Ne.symm z2)).trans (kept b o z1 e))⟩)
theorem minD_none (W : Walks prog w A.in1 I fp wr n P St) (S : Addr) (hSf : S ∉ fp) (x : Str) (d : Value) (kw : List (Str × Value)) (hn : n = 0) {s : Shared} {c : Nat} (est : St 0 s.heap) (eS : s.heap.get? S = some ⟨.type "list",none,.seq #[] c,#[]⟩)
  (eR : ∀ g tk,(∀ b o,b ∉ wr -> b ≠ S -> s.heap.get? b = some o -> g.get? b = some o) -> R (.ok (.ret d)) { s with heap := g,toks := tk }) :
  codeAny (model prog w) A (.builtin "min.loop" ⟨[.ref I,.none,.ref S],(x,d) :: kw⟩) R s := by
 refine codeAny_builtin F.entry_min_loop (by
  rw [Around.under_plainId F.plain_min_loop _]
  show wpAny _ A.in1 (seqItems? (.ref S) >>= _) _ _ s
  refine wpAny_bind (wpAny_seqItems eS rfl ?_)
  show wpAny _ A.in1 (tryCatch (pyNext (.ref I)) _ >>= _) _ _ s
  refine wpAny_bind (wpAny_tryCatch (W.done s _ _ (hn ▸ est) fun g tk kept => ?_))
  exact wpAny_bind (wpAny_rule (wpAny_pure (eR g tk fun b o z1 _ e => kept b o z1 e))))
end
end L2
namespace L2
open PySem PySem.Spec PyProof.Rows
section
variable {prog : Program} {w : World} {M : Model} {A : Around} {E : Value -> Shared -> Prop} {s : Shared}
theorem callB_kw {pos : Pos} {id : String} {args : List (Bool × Sem Value)} {kws : List (Option Str × Sem Value)} {Q : Value -> Shared -> Prop} (h1 : args.any (·.1) = false) (h2 : kws.any (·.1.isNone) = false)
  (h : wpAny M A (evalArgs (.builtin id) true args kws) (fun a s₁ => wpAny M A (call (.builtin id) a.pos a.kw) Q E s₁) E s) : wpAny M A (callWith pos (.builtin id) [] args kws) Q E s := by
 unfold callWith
 refine wpAny_bind (wpAny_holding (wpAny_mono h (fun a s₁ hx => wpAny_bind (wpAny_standAt ?_)) fun _ _ z => z))
 rw [h1,h2]
 exact wpAny_bind (wpAny_pure (wpAny_bind (wpAny_mono hx (fun r s₂ hr => wpAny_bind (wpAny_holding (wpAny_point (wpAny_pure hr)))) fun _ _ z => z)))
theorem treeB_kw {id : String} {b : Builtin} {args : List Value} {kw : List (Str × Value)} {Q : Value -> Shared -> Prop} (hk : builtinKind id = none) (hp : plainId id = true) (hb : entryFor table id = some b) (ha : argsOk id ⟨args,kw⟩)
  (hc : wpAny (model prog w) A.in1 (b ⟨args,kw⟩) (fun fin s' => match fin with
   | .done f => (match (Except.ok f : Result) with | .ok (.ret v) => Q v s' | .ok _ => False | .error e => E e s')
   | .again c' => c'.quiet = true /\ codeAny (model prog w) A c' (fun r s' => match r with | .ok (.ret v) => Q v s' | .ok _ => False | .error e => E e s') s') E s) : wpAny (model prog w) A (call (.builtin id) args kw) Q E s := by
 refine wpAny_call (codeAny_call_builtin hp hb (by
  simp only [checkBuiltinCall,hk]
  cases hsig : Manifest.signature? id with
  | none => exact wpAny_pure hc
  | some sig =>
   simp only [argsOk,hsig] at ha
   have e : Bind.checkArgs id sig ⟨args,kw⟩ = pure () := ha
   show wpAny _ A.in1 (Bind.checkArgs id sig ⟨args,kw⟩) _ _ s
   rw [e]
   exact wpAny_pure hc))
theorem args_minD (a d : Value) : argsOk "min" ⟨[a],[(Str.ofString "default",d)]⟩ := by unfold argsOk;kernel_rfl
theorem min_default {l : Addr} {xs : Array (Int × Tok)} {d : Value} {Q : Value -> Shared -> Prop} (hh : A.handled = none) (hl : s.heap.IsList l (intItems xs))
  (h0 : xs.size = 0 -> ∀ g tk,(∀ b o,s.heap.get? b = some o -> g.get? b = some o) -> Q d { s with heap := g,toks := tk })
  (h1 : 0 < xs.size -> ∀ v g tk,(intItems xs)[argBest (fun i j => decide (numAt xs i < numAt xs j)) (xs.size - 1)]? = some v -> (∀ b o,s.heap.get? b = some o -> g.get? b = some o) -> Q v { s with heap := g,toks := tk }) :
  wpAny (model prog w) A (call (.builtin "min") [.ref l] [(Str.ofString "default",d)]) Q E s := by
 refine treeB_kw F.kind_min F.plain_min F.entry_min (args_minD _ _) ?_
 show wpAny _ A.in1 (Builtin.Builtins.bindParams "min" ["key","default"] 0 ⟨[],[(Str.ofString "default",d)]⟩ >>= _) _ _ s
 refine wpAny_bind (wpAny_of_eq (show Builtin.Builtins.bindParams "min" ["key","default"] 0 ⟨[],[(Str.ofString "default",d)]⟩ = pure [none,some d] from rfl) ?_)
 refine wpAny_bind (wpAny_pure ?_)
 refine wpAny_bind (iter_intList hl fun s₂ e st hfp hlI => wpAny_bind (wpAny_newObj_type ?_))
 subst e
 have W := Walks.list (prog := prog) (w := w) (A := A.in1) hh _ l hlI (intItems xs)
 have hS : ∀ b ∈ [s.heap.objs.size,l],b ≠ (s.heap.push { cls := .type "list_iterator",data := .fields #[.ref l,.int 0 0] }).objs.size := fun b hb => Nat.ne_of_lt (hfp b hb)
 have kept : ∀ {g : Heap},(∀ b o,b ∉ [s.heap.objs.size] -> b ≠ (s.heap.push { cls := .type "list_iterator",data := .fields #[.ref l,.int 0 0] }).objs.size -> ((s.heap.push { cls := .type "list_iterator",data := .fields #[.ref l,.int 0 0] }).push { cls := .type "list",data := .seq ([] : List Value).toArray }).get? b = some o -> g.get? b = some o) →
   ∀ b o,s.heap.get? b = some o -> g.get? b = some o := fun hk b o e => by
  have hb := Heap.lt_size e
  exact hk b o (fun z => by rw [List.mem_singleton.mp z] at hb;exact Nat.lt_irrefl _ hb) (Nat.ne_of_lt (by rw [Heap.size_push];exact Nat.lt_succ_of_lt hb)) (Heap.get?_push_of_some _ (Heap.get?_push_of_some _ e))
 rw [loopName]
 by_cases hz : xs.size = 0
 ·exact wpAny_pure ⟨plainId_quiet F.plain_min_loop _,minD_none W _ (fun z => hS _ z rfl) _ d [] (by simpa [intItems] using hz) (W.frame 0 _ _ st fun b _ o e => Heap.get?_push_of_some _ e) (Heap.get?_push_size _ rfl) fun g tk hk => h0 hz g tk (kept hk)⟩
 ·exact wpAny_pure ⟨plainId_quiet F.plain_min_loop _,minD_first W _ (CmpOf.ints_lt (numAt xs) (fun _ _ => intItems_at)) _ (fun z => hS _ z rfl) _ (by simp [intItems];omega) (W.frame 0 _ _ st fun b _ o e => Heap.get?_push_of_some _ e) (Heap.get?_push_size _ rfl)
   fun v g tk hv hk => h1 (by omega) v g tk (by simpa [intItems] using hv) (kept hk)⟩
end
section
variable {X : Cx} {K : PySem.W.Frag} {ml : List Nat} {e a b c : Expr} {es : List Expr} {pa ta ia : Bool} {fa fb fc f : VF} {H : Hp} {σ : St} {d : Dat} {p' pos : Pos}
def rMinN (K : PySem.W.Frag) : RC := fun xs H Q => ∃ (p : Addr) (ns : List Int),xs = [.ref p] /\ SqL K H p (ns.map V.int) /\ Q (if ns = [] then .non else .int (minI ns)) H
theorem call_minN (hc : X.calm = true) {pins : List (Addr × Obj)} {s : Shared} {xs : List V} {us : List Value} {Q : VK} (I : Inv X pins σ H s) (r : Vals xs us) (h : rMinN X.K xs H Q) : wpAny (model X.prog X.w) X.A (call (.builtin "min") us [(Str.ofString "default",.none)]) (EP X pins σ Q) X.xe s := by
 obtain ⟨l,ns,rfl,hq,q⟩ := h
 obtain ⟨u,rfl,rx⟩ := vals1 r
 cases rx
 obtain ⟨its,rv,pl,hz⟩ := I.list hq
 have hi := ints_of_vals rv
 obtain ⟨xs,ex⟩ := hi.allInts.items
 have hns : ns = xs.toList.map (·.1) := by rw [<- hi.numsOf,<- nums_intItems,<- ex]
 have hl := pl.isList
 rw [ex] at hl
 refine min_default (I.ok.hd hc) hl (fun h0 g tk hk => ?_) fun h1 v g tk hv hk => ?_
 ·have : ns = [] := by rw [hns,List.map_eq_nil_iff,<- List.length_eq_zero_iff,Array.length_toList];exact h0
  rw [if_pos this] at q
  exact ⟨.non,H,I.kept (t' := tk) hk,rfl,q⟩
 ·have hne : ns ≠ [] := fun z => by rw [z] at hns;have := congrArg List.length hns;simp at this;omega
  rw [if_neg hne] at q
  obtain ⟨t,rfl⟩ := intItems_at hv
  obtain ⟨b1,b2⟩ := argBest_lt (numAt xs) (xs.size - 1)
  have e : numAt xs (argBest (fun i j => decide (numAt xs i < numAt xs j)) (xs.size - 1)) = minI ns := by
   refine minI_eq (by rw [hns,numAt_eq];exact PySem.getD_mem (by rw [List.length_map,Array.length_toList];omega)) fun a ha => ?_
   rw [hns] at ha
   obtain ⟨j,hj,rfl⟩ := PySem.mem_getD ha
   rw [List.length_map,Array.length_toList] at hj
   rw [<- numAt_eq]
   exact b2 j (by omega)
  exact ⟨.int (minI ns),H,I.kept (t' := tk) hk,⟨t,by rw [e]⟩,q⟩
def oMinN : Dat -> Option Dat
 | .lst ds => (intsD ds).map fun ns => if ns = [] then .non else .int (minI ns)
 | _ => none
theorem s_minN : CalS K (rMinN K) oMinN := by
 intro H N M x d c Q hx h k
 cases d with
 | lst ds =>
  have h : (intsD ds).map (fun ns => if ns = [] then Dat.non else Dat.int (minI ns)) = some c := h
  cases h1 : intsD ds with
  | none => rw [h1] at h;cases h
  | some ns =>
   rw [h1,Option.map_some,Option.some.injEq] at h
   subst h
   obtain ⟨a,xs,rfl,sq,r⟩ := hx.lstE
   have e := ints_rep r h1
   subst e
   refine ⟨a,ns,rfl,sq,k _ fun _ _ _ => ?_⟩
   split
   ·exact .non
   ·exact .int _
 | _ => cases h
theorem ve_minN {j : Nat} {kp cp : Pos} (hK : X.K = K) (hc : X.calm = true) (hg : Gl X "min") (hm : X.mg "min" = none) (hv : bootBuiltins "min" = some (.builtin "min")) (ha : PE X a (TV K ml pa ta ia fa))
  (he : starEach (a :: []) X.env = (false,eval a X.env) :: starEach [] X.env := by rfl) : PE X (.Call (.Name "min" p') [a] [⟨some "default",.Constant .none j cp,kp⟩] pos) (TV K ml pa true true (f1 oMinN fa)) := by
 subst hK
 refine PE.imp (t := tCB (rMinN X.K) (tCons (TV X.K ml pa ta ia fa) tNil)) ?_ fun _ _ _ h => tv_call1S s_minN h
 intro pins s σ H Q I h
 refine wpAny_Call_Name_kw (ld_blt I hg hm hv ?_ (by decide) (by decide))
 have hp := (pa_cons ha pa_nil he) pos pins s σ H _ I h
 rw [he] at hp ⊢
 refine callB_kw rfl rfl (evalArgs_kw rfl (thn hp fun us s1 ⟨vs,H1,I1,r1,q1⟩ => ?_))
 refine wpAny_evalAll_cons (wpAny_bind (thn (pe_non (X := X) pins s1 σ H1 (fun v H2 => v = .non /\ H2 = H1) I1 ⟨rfl,rfl⟩) fun u s2 ⟨v,H2,I2,rv,e1,e2⟩ => wpAny_bind (wpAny_standAt (wpAny_pure (wpAny_evalAll_nil ?_)))))
 subst e1 e2
 cases rv
 exact call_minN hc I2 r1 q1
end
end L2
namespace L2
open PySem PySem.Spec PyProof.Rows
section
variable {X : Cx} {K : PySem.W.Frag} {ml : List Nat} {pi pt pe pi2 pt2 pu : Bool} {pos : Pos} {ix : List Nat} {nl : Nat} {f : VF}
theorem ps_setC3 {i : Nat} {y : Str} {py spos : Pos} {tg iter tg2 it2 elt : Expr} {ifs ifs2 : List Expr} {scope : Scope} {N' : List Str} {wi wi2 : TI} {g g2 : TG} {tt tt2 : TT} {te : TE}
  (hN : X.N.Nodup) (hi' : X.N[i]? = some y) (hy : X.env.scope.names.lookup y = some .local)
  (hc : X.calm = true) (S : CompSc2 X N' ix scope) (hnl : N'.length = ix.length + nl) (hi : PI X tg iter wi)
  (blk : ∀ (cl : List (Str × Addr)) (s1 : Shared) (H1 : Hp) (fp : List Addr),Blk2 (compCx2 X N' scope cl s1 H1 fp) tg ifs tg2 it2 ifs2 elt g tt wi2 g2 tt2 te)
  (hsw : swapsWith (.ListComp elt [⟨tg,iter,ifs,0⟩,⟨tg2,it2,ifs2,0⟩] scope pos) (some (.Name y py)) spos.line X.env = pure true := by rfl)
  (hs : ∀ x,foldedSetIterable iter X.env x = pure x := by intro _;rfl) (hs2 : ∀ (env : Env) (x : Value),foldedSetIterable it2 env x = pure x := by intro _ _;rfl) : PS X (.Assign [.Name y py] (.ListComp elt [⟨tg,iter,ifs,0⟩,⟨tg2,it2,ifs2,0⟩] scope pos) spos) (tAsg (tComp2 ix nl wi g tt wi2 g2 tt2 te) (gName i)) := by
 intro pins s σ H D I h
 rw [exec_Assign_Name_used _ _ _ _ hsw]
 refine wpAny_bind (wpAny_standAt (wpAny_bind ?_))
 show wpAny _ X.A (do let _ <- comprehension (.ListComp elt [⟨tg,iter,ifs,0⟩,⟨tg2,it2,ifs2,0⟩] scope pos) scope X.env _ (newList []) false (eval iter X.env) (some (assign (.Name y py) X.env))) _ _ s
 obtain ⟨cl,e1,e2,e3⟩ := clos_ok (env := X.env) (scope := scope) fun y hy hf => I.ok.has y.1 (S.free y hy hf)
 refine wpAny_bind (wpAny_mono (wpAny_comprehension_free (use := some (assign (.Name y py) X.env)) (cl := cl) (Q := fun _ s' => SP X pins D .next s') rfl hs e1 S.kind S.names
  (wpAny_mono (hi pins s σ H _ I h) (fun xv s₁ h₁ => wpAny_mono h₁ (fun itv s₂ h₂ => ?_) fun _ _ e => e) fun _ _ e => e)) (fun _ s' hq => wpAny_pure (wpAny_pure hq)) fun _ _ e => e)
 obtain ⟨it,fp,tn,J,H2,e,I2,T,st2,f2,q⟩ := h₂
 subst e
 refine comp_core3 (Q := fun v H' => D.nx (σ.set i (some v)) H') (RR := fun acc C => compPost (model X.prog X.w) X.A X.xe (some (assign (.Name y py) X.env)) (fun _ s' => SP X pins D .next s') acc C) hs2 hc S hnl e2 e3 blk I2 T st2 f2 q ?_
 intro Dl C s' H' I' hm hC1 hC2 hb hq
 obtain ⟨m,hm⟩ := hm
 show wpAny _ X.A (assign (.Name y py) X.env (.ref Dl)) _ _ _
 refine wpAny_assign_Name (store_ok2 I' hN hi' (.inl hy) (v := .ref Dl) rfl (fun s'' I'' ⟨a,hsb,ha⟩ => ?_) (.inr hy))
 have hCa : C ≠ a := by
  rcases ha with z | z
  ·rw [z];exact hC1
  ·exact Ne.symm (hC2 y a z)
 exact ⟨m,hm.sameBut hsb hCa,fun h'' sb => ⟨_,H',hb _ s'' h'' I'' sb,hq⟩⟩
theorem vs_setC3 {i : Nat} {y : Str} {py spos : Pos} {tg iter tg2 it2 elt : Expr} {ifs ifs2 : List Expr} {scope : Scope} {N' : List Str} {fi fi2 : VI} {gg gg2 : VG} {tb tb2 : VB} {fe : VF} (o : Bool)
  (hN : X.N.Nodup) (hi' : X.N[i]? = some y) (hy : X.env.scope.names.lookup y = some .local)
  (hc : X.calm = true) (hk : scope.kind = .function) (hok : compOk X.N N' ix scope.names X.env.kindOf = true) (hnl : N'.length = ix.length + nl) (hnd : ix.Nodup) (hi : PI X tg iter (TIV K ml pi fi))
  (blk : ∀ (cl : List (Str × Addr)) (s1 : Shared) (H1 : Hp) (fp : List Addr),Blk2 (compCx2 X N' scope cl s1 H1 fp) tg ifs tg2 it2 ifs2 elt (TGV K (List.range ix.length) gg) (TB K (List.range ix.length) pt tb) (TIV K (List.range ix.length) pi2 fi2) (TGV K (List.range ix.length) gg2) (TB K (List.range ix.length) pt2 tb2) (TV K (List.range ix.length) pe true true fe))
  (hm : i ∉ ml := by decide)
  (hsw : swapsWith (.ListComp elt [⟨tg,iter,ifs,0⟩,⟨tg2,it2,ifs2,0⟩] scope pos) (some (.Name y py)) spos.line X.env = pure true := by rfl)
  (hs : ∀ x,foldedSetIterable iter X.env x = pure x := by intro _;rfl) (hs2 : ∀ (env : Env) (x : Value),foldedSetIterable it2 env x = pure x := by intro _ _;rfl) : PS X (.Assign [.Name y py] (.ListComp elt [⟨tg,iter,ifs,0⟩,⟨tg2,it2,ifs2,0⟩] scope pos) spos) (TSt K ml (sSet i (if o then xO (fComp2 ix nl fi gg tb fi2 gg2 tb2 fe) else xV (fComp2 ix nl fi gg tb fi2 gg2 tb2 fe)))) :=
 (ps_setC3 hN hi' hy hc (compOk_sc hk hok) hnl hi blk hsw hs hs2).imp fun D σ H h => ts_set (fun σ H Q z => tv_comp3 hnd (tx_tn (pu := pi && (pt && pi2 && pt2 && pe)) z)) hm h
end
end L2
namespace L2
open PySem
section
variable {α β : Type} {d x y z c : Dat} {δ δ1 δ' : Ev} {fa fb fc : VF} {o o' : Dat -> Dat -> Option Dat} {i j k n : Nat} {s : Sl} {b : Bool} {ds : List Dat}
def q0 (r : Option α) (δ : Ev) : Option (α × Ev) := r.map fun c => (c,δ)
@[simp] theorem q0_s {a : α} : q0 (some a) δ = some (a,δ) := (rfl)
@[simp] theorem fC_e : fC d δ = some (d,δ) := (rfl)
def qV : Option Sl -> Ev -> Option (Dat × Ev)
 | some (.va d),δ => some (d,δ)
 | _,_ => none
def qO : Option Sl -> Ev -> Option (Dat × Ev)
 | some (.va d),δ => some (d,δ)
 | some (.ow d),δ => some (d,δ)
 | _,_ => none
@[simp] theorem fV_e : fV i δ = qV δ[i]? δ := by unfold fV qV;split <;> simp_all
@[simp] theorem fO_e : fO i δ = qO δ[i]? δ := by unfold fO qO;split <;> simp_all
@[simp] theorem qV_s : qV (some (.va d)) δ = some (d,δ) := (rfl)
@[simp] theorem qO_o : qO (some (.ow d)) δ = some (d,δ) := (rfl)
def q1 (o : Dat -> Option Dat) (r : Option (Dat × Ev)) : Option (Dat × Ev) := r.bind fun p => q0 (o p.1) p.2
@[simp] theorem f1_e {o : Dat -> Option Dat} : f1 o fa δ = q1 o (fa δ) := (rfl)
@[simp] theorem q1_s {o : Dat -> Option Dat} : q1 o (some (x,δ)) = q0 (o x) δ := (rfl)
def q2 (o : Dat -> Dat -> Option Dat) (r : Option (Dat × Ev)) (fb : VF) : Option (Dat × Ev) := r.bind fun p => (fb p.2).bind fun q => q0 (o p.1 q.1) q.2
def q2b (o : Dat -> Dat -> Option Dat) (x : Dat) (r : Option (Dat × Ev)) : Option (Dat × Ev) := r.bind fun q => q0 (o x q.1) q.2
@[simp] theorem f2_e : f2 o fa fb δ = q2 o (fa δ) fb := (rfl)
@[simp] theorem q2_s : q2 o (some (x,δ)) fb = q2b o x (fb δ) := (rfl)
@[simp] theorem q2b_s : q2b o x (some (y,δ)) = q0 (o x y) δ := (rfl)
def q3 (o o' : Dat -> Dat -> Option Dat) (r : Option (Dat × Ev)) (fb fc : VF) : Option (Dat × Ev) := r.bind fun p => (fb p.2).bind fun q => (o p.1 q.1).bind fun z => match z with
 | .bl true => (fc q.2).bind fun s => (o' q.1 s.1).map fun u => (u,s.2)
 | .bl false => some (.bl false,q.2)
 | _ => none
def q3b (o o' : Dat -> Dat -> Option Dat) (x : Dat) (r : Option (Dat × Ev)) (fc : VF) : Option (Dat × Ev) := q3 o o' (some (x,[])) (fun _ => r) fc
def q3c (o' : Dat -> Dat -> Option Dat) (y : Dat) (δ : Ev) (fc : VF) : Option Dat -> Option (Dat × Ev)
 | some (.bl true) => q2b o' y (fc δ)
 | some (.bl false) => some (.bl false,δ)
 | _ => none
@[simp] theorem f3_e : f3 o o' fa fb fc δ = q3 o o' (fa δ) fb fc := (rfl)
@[simp] theorem q3_s : q3 o o' (some (x,δ)) fb fc = q3b o o' x (fb δ) fc := (rfl)
@[simp] theorem q3b_s : q3b o o' x (some (y,δ)) fc = q3c o' y δ fc (o x y) := by
 simp only [q3b,q3,Option.bind_some]
 cases o x y with
 | none => rfl
 | some z => cases z with
  | bl b => cases b <;> rfl
  | _ => rfl
@[simp] theorem q3c_t : q3c o' y δ fc (some (.bl true)) = q2b o' y (fc δ) := (rfl)
@[simp] theorem q3c_f : q3c o' y δ fc (some (.bl false)) = some (.bl false,δ) := (rfl)
def qc (r : Option (Dat × Ev)) (fs : VFs) : Option (List Dat × Ev) := r.bind fun p => (fs p.2).map fun q => (p.1 :: q.1,q.2)
def qcb (x : Dat) (r : Option (List Dat × Ev)) : Option (List Dat × Ev) := r.map fun q => (x :: q.1,q.2)
@[simp] theorem fNil_e : fNil δ = some ([],δ) := (rfl)
@[simp] theorem fCons_e {fs : VFs} : fCons fa fs δ = qc (fa δ) fs := (rfl)
@[simp] theorem qc_s {fs : VFs} : qc (some (x,δ)) fs = qcb x (fs δ) := (rfl)
@[simp] theorem qcb_s : qcb x (some (ds,δ)) = some (x :: ds,δ) := (rfl)
def qT (g : List Dat -> Dat) (r : Option (List Dat × Ev)) : Option (Dat × Ev) := r.bind fun p => if p.1.length <= 16777216 then some (g p.1,p.2) else none
@[simp] theorem fTup_e {fs : VFs} : fTup fs δ = qT .tup (fs δ) := (rfl)
@[simp] theorem fLst_e {fs : VFs} : fLst fs δ = qT .lst (fs δ) := (rfl)
@[simp] theorem qT_s {g : List Dat -> Dat} : qT g (some (ds,δ)) = if ds.length <= 16777216 then some (g ds,δ) else none := (rfl)
def qB : Option (Dat × Ev) -> Option (Bool × Ev)
 | some (.bl k,δ) => some (k,δ)
 | _ => none
@[simp] theorem fB_e : fB fa δ = qB (fa δ) := by
 unfold fB qB
 cases fa δ with
 | none => rfl
 | some p =>
  obtain ⟨d,e⟩ := p
  cases d <;> rfl
@[simp] theorem qB_s : qB (some (.bl b,δ)) = some (b,δ) := (rfl)
variable {tb tb' : VB} {g g' : VS}
def qAnd (r : Option (Bool × Ev)) (y : VB) : Option (Bool × Ev) := r.bind fun p => if p.1 = true then y p.2 else some (false,p.2)
def qOr (r : Option (Bool × Ev)) (y : VB) : Option (Bool × Ev) := r.bind fun p => if p.1 = true then some (true,p.2) else y p.2
def qNot (r : Option (Bool × Ev)) : Option (Bool × Ev) := r.map fun p => (!p.1,p.2)
@[simp] theorem bAnd_e : bAnd tb tb' δ = qAnd (tb δ) tb' := (rfl)
@[simp] theorem bOr_e : bOr tb tb' δ = qOr (tb δ) tb' := (rfl)
@[simp] theorem bNot_e : bNot tb δ = qNot (tb δ) := (rfl)
@[simp] theorem bYes_e : bYes δ = some (true,δ) := (rfl)
@[simp] theorem qAnd_t : qAnd (some (true,δ)) tb = tb δ := (rfl)
@[simp] theorem qAnd_f : qAnd (some (false,δ)) tb = some (false,δ) := (rfl)
@[simp] theorem qOr_t : qOr (some (true,δ)) tb = some (true,δ) := (rfl)
@[simp] theorem qOr_f : qOr (some (false,δ)) tb = tb δ := (rfl)
@[simp] theorem qNot_s : qNot (some (b,δ)) = some (!b,δ) := (rfl)
def qA (r : Option (Dat × Ev)) (y : VF) : Option (Dat × Ev) := r.bind fun p => match p.1 with
 | .bl true => y p.2
 | .bl false => some (.bl false,p.2)
 | _ => none
def qN (r : Option (Dat × Ev)) : Option (Dat × Ev) := r.bind fun p => match p.1 with
 | .bl k => some (.bl (!k),p.2)
 | _ => none
@[simp] theorem fAnd_e : fAnd fa fb δ = qA (fa δ) fb := (rfl)
@[simp] theorem fNot_e : fNot fa δ = qN (fa δ) := (rfl)
@[simp] theorem qA_t : qA (some (.bl true,δ)) fb = fb δ := (rfl)
@[simp] theorem qN_s : qN (some (.bl b,δ)) = some (.bl (!b),δ) := (rfl)
def qI (r : Option (Bool × Ev)) (x y : VF) : Option (Dat × Ev) := r.bind fun p => if p.1 = true then x p.2 else y p.2
@[simp] theorem fIf_e : fIf tb fa fb δ = qI (tb δ) fa fb := (rfl)
@[simp] theorem qI_t : qI (some (true,δ)) fa fb = fa δ := (rfl)
@[simp] theorem qI_f : qI (some (false,δ)) fa fb = fb δ := (rfl)
def qS (r : Option Ou) (g : VS) : Option Ou := r.bind fun o => match o with
 | .nx δ' => g δ'
 | o => some o
@[simp] theorem sNil_e : sNil δ = some (.nx δ) := (rfl)
@[simp] theorem sSeq_e : sSeq g g' δ = qS (g δ) g' := (rfl)
@[simp] theorem qS_n : qS (some (.nx δ)) g = g δ := (rfl)
@[simp] theorem qS_r : qS (some (.rt d δ)) g = some (.rt d δ) := (rfl)
def qJ (r : Option (Bool × Ev)) (x y : VS) : Option Ou := r.bind fun p => if p.1 = true then x p.2 else y p.2
@[simp] theorem sIf_e : sIf tb g g' δ = qJ (tb δ) g g' := (rfl)
@[simp] theorem qJ_t : qJ (some (true,δ)) g g' = g δ := (rfl)
@[simp] theorem qJ_f : qJ (some (false,δ)) g g' = g' δ := (rfl)
def qRet (r : Option (Dat × Ev)) : Option Ou := r.map fun p => .rt p.1 p.2
def qDrop (r : Option (Dat × Ev)) : Option Ou := r.map fun p => .nx p.2
@[simp] theorem sRet_e : sRet fa δ = qRet (fa δ) := (rfl)
@[simp] theorem qRet_s : qRet (some (d,δ)) = some (.rt d δ) := (rfl)
@[simp] theorem sDrop_e : sDrop fa δ = qDrop (fa δ) := (rfl)
@[simp] theorem qDrop_s : qDrop (some (d,δ)) = some (.nx δ) := (rfl)
def qx (f : Dat -> Sl) (r : Option (Dat × Ev)) : Option (Sl × Ev) := r.map fun p => (f p.1,p.2)
@[simp] theorem xV_e : xV fa δ = qx .va (fa δ) := (rfl)
@[simp] theorem xO_e : xO fa δ = qx .ow (fa δ) := (rfl)
@[simp] theorem qx_s {f : Dat -> Sl} : qx f (some (d,δ)) = some (f d,δ) := (rfl)
def qSet (i : Nat) (r : Option (Sl × Ev)) : Option Ou := r.bind fun p => if i < p.2.length then some (.nx (p.2.set i p.1)) else none
@[simp] theorem sSet_e {x : VX} : sSet i x δ = qSet i (x δ) := (rfl)
@[simp] theorem qSet_s : qSet i (some (s,δ)) = if i < δ.length then some (.nx (δ.set i s)) else none := (rfl)
def qP4 (i j k n : Nat) (r : Option (Sl × Ev)) (y z u : VX) : Option Ou := r.bind fun p => (y p.2).bind fun q => (z q.2).bind fun r => (u r.2).bind fun s => if i < s.2.length /\ j < s.2.length /\ k < s.2.length /\ n < s.2.length then some (.nx ((((s.2.set n s.1).set k r.1).set j q.1).set i p.1)) else none
def qP4b (i j k n : Nat) (s1 : Sl) (r : Option (Sl × Ev)) (z u : VX) : Option Ou := r.bind fun q => (z q.2).bind fun r => (u r.2).bind fun s => if i < s.2.length /\ j < s.2.length /\ k < s.2.length /\ n < s.2.length then some (.nx ((((s.2.set n s.1).set k r.1).set j q.1).set i s1)) else none
def qP4c (i j k n : Nat) (s1 s2 : Sl) (r : Option (Sl × Ev)) (u : VX) : Option Ou := r.bind fun r => (u r.2).bind fun s => if i < s.2.length /\ j < s.2.length /\ k < s.2.length /\ n < s.2.length then some (.nx ((((s.2.set n s.1).set k r.1).set j s2).set i s1)) else none
def qP4d (i j k n : Nat) (s1 s2 s3 : Sl) (r : Option (Sl × Ev)) : Option Ou := r.bind fun s => if i < s.2.length /\ j < s.2.length /\ k < s.2.length /\ n < s.2.length then some (.nx ((((s.2.set n s.1).set k s3).set j s2).set i s1)) else none
@[simp] theorem sPar4_e {x y z u : VX} : sPar4 i j k n x y z u δ = qP4 i j k n (x δ) y z u := (rfl)
@[simp] theorem qP4_s {y z u : VX} : qP4 i j k n (some (s,δ)) y z u = qP4b i j k n s (y δ) z u := (rfl)
@[simp] theorem qP4b_s {s' : Sl} {z u : VX} : qP4b i j k n s (some (s',δ)) z u = qP4c i j k n s s' (z δ) u := (rfl)
@[simp] theorem qP4c_s {s' s'' : Sl} {u : VX} : qP4c i j k n s s' (some (s'',δ)) u = qP4d i j k n s s' s'' (u δ) := (rfl)
@[simp] theorem qP4d_s {s' s'' s3 : Sl} : qP4d i j k n s s' s'' (some (s3,δ)) = if i < δ.length /\ j < δ.length /\ k < δ.length /\ n < δ.length then some (.nx ((((δ.set n s3).set k s'').set j s').set i s)) else none := (rfl)
@[simp] theorem gN_e : gN i d δ = some (δ.set i (.va d)) := (rfl)
def qg (r : Option Ev) (gs : VGs) (ds : List Dat) : Option Ev := r.bind fun δ1 => gs ds δ1
@[simp] theorem gsNil_e : gsNil [] δ = some δ := (rfl)
@[simp] theorem gsCons_e {gg : VG} {gs : VGs} : gsCons gg gs (d :: ds) δ = qg (gg d δ) gs ds := (rfl)
@[simp] theorem qg_s {gs : VGs} : qg (some δ) gs ds = gs ds δ := (rfl)
@[simp] theorem gTp_t {gs : VGs} : gTp n gs (.tup ds) δ = if ds.length = n then gs ds δ else none := (rfl)
@[simp] theorem gTp_l {gs : VGs} : gTp n gs (.lst ds) δ = if ds.length = n then gs ds δ else none := (rfl)
def qAsg (r : Option (Dat × Ev)) (gg : VG) : Option Ou := r.bind fun p => (gg p.1 p.2).map Ou.nx
@[simp] theorem sAsg_e {gg : VG} : sAsg fa gg δ = qAsg (fa δ) gg := (rfl)
@[simp] theorem qAsg_s {gg : VG} : qAsg (some (d,δ)) gg = (gg d δ).map Ou.nx := (rfl)
def qM (i : Nat) (m : List Dat -> List Dat -> Option (List Dat)) (r : Option (List Dat)) (δ : Ev) (fs : VFs) : Option Ou := r.bind fun _ => (fs δ).bind fun p => (ownL p.2 i).bind fun ds => (m ds p.1).map fun ds' => .nx (p.2.set i (.ow (.lst ds')))
def qMb (i : Nat) (m : List Dat -> List Dat -> Option (List Dat)) (r : Option (List Dat × Ev)) : Option Ou := r.bind fun p => (ownL p.2 i).bind fun ds => (m ds p.1).map fun ds' => .nx (p.2.set i (.ow (.lst ds')))
def qMc (i : Nat) (m : List Dat -> List Dat -> Option (List Dat)) (es : List Dat) (δ : Ev) (r : Option (List Dat)) : Option Ou := r.bind fun ds => (m ds es).map fun ds' => .nx (δ.set i (.ow (.lst ds')))
def qMd (i : Nat) (δ : Ev) (r : Option (List Dat)) : Option Ou := r.map fun ds' => .nx (δ.set i (.ow (.lst ds')))
@[simp] theorem sMut_e {m : List Dat -> List Dat -> Option (List Dat)} {fs : VFs} : sMut i m fs δ = qM i m (ownL δ i) δ fs := (rfl)
@[simp] theorem qM_s {m : List Dat -> List Dat -> Option (List Dat)} {fs : VFs} : qM i m (some ds) δ fs = qMb i m (fs δ) := (rfl)
@[simp] theorem qMb_s {m : List Dat -> List Dat -> Option (List Dat)} {es : List Dat} : qMb i m (some (es,δ)) = qMc i m es δ (ownL δ i) := (rfl)
@[simp] theorem qMc_s {m : List Dat -> List Dat -> Option (List Dat)} {es : List Dat} : qMc i m es δ (some ds) = qMd i δ (m ds es) := (rfl)
@[simp] theorem qMd_s : qMd i δ (some ds) = some (.nx (δ.set i (.ow (.lst ds)))) := (rfl)
def qOl : Option Sl -> Option (List Dat)
 | some (.ow (.lst ds)) => some ds
 | _ => none
@[simp] theorem ownL_e : ownL δ i = qOl δ[i]? := by unfold ownL qOl;split <;> simp_all
@[simp] theorem qOl_s : qOl (some (.ow (.lst ds))) = some ds := (rfl)
@[simp] theorem mApp_e : mApp ds [d] = if ds.length < 16777216 then some (ds ++ [d]) else none := (rfl)
def qOd : Option Sl -> Option (List Key × List Dat)
 | some (.ow (.dct ks ds)) => some (ks,ds)
 | _ => none
@[simp] theorem ownD_e : ownD δ i = qOd δ[i]? := by unfold ownD qOd;split <;> simp_all
@[simp] theorem qOd_s {ks : List Key} : qOd (some (.ow (.dct ks ds))) = some (ks,ds) := (rfl)
def qL (i : Nat) (r : Option (Dat × Ev)) (fi : VF) : Option Ou := r.bind fun p => (ownL p.2 i).bind fun _ => (fi p.2).bind fun q => (ownL q.2 i).bind fun ds => match q.1 with
 | .int k => (ixN ds.length k).map fun j => .nx (q.2.set i (.ow (.lst (ds.set j p.1))))
 | _ => none
def qLb (i : Nat) (x : Dat) (r : Option (List Dat)) (δ : Ev) (fi : VF) : Option Ou := r.bind fun _ => (fi δ).bind fun q => (ownL q.2 i).bind fun ds => match q.1 with
 | .int k => (ixN ds.length k).map fun j => .nx (q.2.set i (.ow (.lst (ds.set j x))))
 | _ => none
def qLc (i : Nat) (x : Dat) (r : Option (Dat × Ev)) : Option Ou := r.bind fun q => (ownL q.2 i).bind fun ds => match q.1 with
 | .int k => (ixN ds.length k).map fun j => .nx (q.2.set i (.ow (.lst (ds.set j x))))
 | _ => none
def qLd (i : Nat) (x : Dat) (k : Int) (δ : Ev) (r : Option (List Dat)) : Option Ou := r.bind fun ds => (ixN ds.length k).map fun j => .nx (δ.set i (.ow (.lst (ds.set j x))))
@[simp] theorem sPutL_e {fi fv : VF} : sPutL i fi fv δ = qL i (fv δ) fi := (rfl)
@[simp] theorem qL_s {fi : VF} : qL i (some (x,δ)) fi = qLb i x (ownL δ i) δ fi := (rfl)
@[simp] theorem qLb_s {fi : VF} : qLb i x (some ds) δ fi = qLc i x (fi δ) := (rfl)
@[simp] theorem qLc_s {k : Int} : qLc i x (some (.int k,δ)) = qLd i x k δ (ownL δ i) := (rfl)
@[simp] theorem qLd_s {k : Int} : qLd i x k δ (some ds) = (ixN ds.length k).map fun j => .nx (δ.set i (.ow (.lst (ds.set j x)))) := (rfl)
def qi (r : Option (Dat × Ev)) : Option (List Dat × Ev) := r.bind fun p => (seqD p.1).map fun ds => (ds,p.2)
@[simp] theorem iSeq_e : iSeq fa δ = qi (fa δ) := (rfl)
@[simp] theorem qi_t : qi (some (.tup ds,δ)) = some (ds,δ) := (rfl)
@[simp] theorem qi_l : qi (some (.lst ds,δ)) = some (ds,δ) := (rfl)
def qr1 : Option (Dat × Ev) -> Option (List Dat × Ev)
 | some (.int j,δ) => if -4611686018427387904 <= j /\ j < 4611686018427387904 then some (rngD 0 j.toNat,δ) else none
 | _ => none
@[simp] theorem iR1_e : iR1 fa δ = qr1 (fa δ) := by
 unfold iR1 qr1
 cases fa δ with
 | none => rfl
 | some p =>
  obtain ⟨d,e⟩ := p
  cases d <;> rfl
@[simp] theorem qr1_s {j : Int} : qr1 (some (.int j,δ)) = if -4611686018427387904 <= j /\ j < 4611686018427387904 then some (rngD 0 j.toNat,δ) else none := (rfl)
def qe (r : Option (Dat × Ev)) : Option (List Dat × Ev) := r.bind fun p => (seqD p.1).map fun ds => (enuD 0 ds,p.2)
@[simp] theorem iEnum_e : iEnum fa δ = qe (fa δ) := (rfl)
@[simp] theorem qe_l : qe (some (.lst ds,δ)) = some (enuD 0 ds,δ) := (rfl)
def qz (r : Option (Dat × Ev)) (g : VF) : Option (List Dat × Ev) := r.bind fun p => (g p.2).bind fun q => (seqD p.1).bind fun ds => (seqD q.1).map fun es => (zipD ds es,q.2)
def qzb (x : Dat) (r : Option (Dat × Ev)) : Option (List Dat × Ev) := r.bind fun q => (seqD x).bind fun ds => (seqD q.1).map fun es => (zipD ds es,q.2)
@[simp] theorem iZip_e : iZip fa fb δ = qz (fa δ) fb := (rfl)
@[simp] theorem qz_s : qz (some (x,δ)) fb = qzb x (fb δ) := (rfl)
@[simp] theorem qzb_s : qzb x (some (y,δ)) = (seqD x).bind fun ds => (seqD y).map fun es => (zipD ds es,δ) := (rfl)
@[simp] theorem seqD_t : seqD (.tup ds) = some ds := (rfl)
@[simp] theorem seqD_l : seqD (.lst ds) = some ds := (rfl)
def qF (r : Option (List Dat × Ev)) (gg : VG) (g : VS) : Option Ou := r.bind fun p => forV gg g p.1 p.2
@[simp] theorem sFor_e {fi : VI} {gg : VG} : sFor fi gg g δ = qF (fi δ) gg g := (rfl)
@[simp] theorem qF_s {gg : VG} : qF (some (ds,δ)) gg g = forV gg g ds δ := (rfl)
def qK (ix : List Nat) (nl : Nat) (r : Option (List Dat × Ev)) (gg : VG) (tb : VB) (fe : VF) : Option (Dat × Ev) := r.bind fun p => (compV ix.length nl gg tb fe p.1 [] (capsD ix p.2)).map fun q => (.lst q.1,backD ix q.2 p.2)
def qKb (ix : List Nat) (δ : Ev) (r : Option (List Dat × Ev)) : Option (Dat × Ev) := r.map fun q => (.lst q.1,backD ix q.2 δ)
@[simp] theorem fComp_e {ix : List Nat} {nl : Nat} {fi : VI} {gg : VG} : fComp ix nl fi gg tb fa δ = qK ix nl (fi δ) gg tb fa := (rfl)
@[simp] theorem qK_s {ix : List Nat} {nl : Nat} {gg : VG} : qK ix nl (some (ds,δ)) gg tb fa = qKb ix δ (compV ix.length nl gg tb fa ds [] (capsD ix δ)) := (rfl)
@[simp] theorem qKb_s {ix : List Nat} : qKb ix δ (some (ds,δ1)) = some (.lst ds,backD ix δ1 δ) := (rfl)
variable {as : List AV} {fs : VFg} {mF : List Nat} {F : VFun}
def qa (r : Option (Dat × Ev)) (fs : VFg) : Option (List AV × Ev) := r.bind fun p => (fs p.2).map fun q => (.d p.1 :: q.1,q.2)
def qab (x : AV) (r : Option (List AV × Ev)) : Option (List AV × Ev) := r.map fun q => (x :: q.1,q.2)
@[simp] theorem aNil_e : aNil δ = some ([],δ) := (rfl)
@[simp] theorem aE_e : aE fa fs δ = qa (fa δ) fs := (rfl)
@[simp] theorem qa_s : qa (some (x,δ)) fs = qab (.d x) (fs δ) := (rfl)
@[simp] theorem qab_s {a : AV} : qab a (some (as,δ)) = some (a :: as,δ) := (rfl)
def qao (j : Nat) (r : Option Dat) (δ : Ev) (fs : VFg) : Option (List AV × Ev) := r.bind fun _ => qab (.o j) (fs δ)
@[simp] theorem aO_e : aO j fs δ = qao j (slot δ j) δ fs := (rfl)
@[simp] theorem qao_s : qao j (some d) δ fs = qab (.o j) (fs δ) := (rfl)
def qsl : Option Sl -> Option Dat
 | some (.va d) => some d
 | some (.ow d) => some d
 | _ => none
@[simp] theorem slot_e : slot δ j = qsl δ[j]? := by unfold slot qsl;split <;> simp_all
@[simp] theorem qsl_o : qsl (some (.ow d)) = some d := (rfl)
@[simp] theorem argDs_n : argDs δ [] = some [] := (rfl)
@[simp] theorem argDs_d : argDs δ (.d d :: as) = (argDs δ as).map fun ds => d :: ds := (rfl)
@[simp] theorem argDs_o : argDs δ (.o j :: as) = (slot δ j).bind fun d => (argDs δ as).map fun ds => d :: ds := (rfl)
def qCall (n : Nat) (mF : List Nat) (F : VFun) (r : Option (List AV × Ev)) : Option (Dat × Ev) := r.bind fun p => (argDs p.2 p.1).bind fun ds => if ds.length = n /\ callOk mF p.1 p.2 = true then (F ds).bind fun q => if backOk mF p.1 q.1 q.2 = true then some (q.1,putO p.1 mF q.2 p.2) else none else none
def qCb (n : Nat) (mF : List Nat) (F : VFun) (as : List AV) (δ : Ev) (r : Option (List Dat)) : Option (Dat × Ev) := r.bind fun ds => if ds.length = n /\ callOk mF as δ = true then (F ds).bind fun q => if backOk mF as q.1 q.2 = true then some (q.1,putO as mF q.2 δ) else none else none
def qCc (mF : List Nat) (as : List AV) (δ : Ev) (r : Option (Dat × List Dat)) : Option (Dat × Ev) := r.bind fun q => if backOk mF as q.1 q.2 = true then some (q.1,putO as mF q.2 δ) else none
@[simp] theorem fCall_e : fCall n mF F fs δ = qCall n mF F (fs δ) := (rfl)
@[simp] theorem qCall_s : qCall n mF F (some (as,δ)) = qCb n mF F as δ (argDs δ as) := (rfl)
@[simp] theorem qCb_s : qCb n mF F as δ (some ds) = if ds.length = n /\ callOk mF as δ = true then qCc mF as δ (F ds) else none := (rfl)
@[simp] theorem qCc_s {os : List Dat} : qCc mF as δ (some (d,os)) = if backOk mF as d os = true then some (d,putO as mF os δ) else none := (rfl)
@[simp] theorem mutOk_e : mutOk δ as i = (match as[i]? with
 | some (.o j) => match δ[j]? with
  | some (.ow _) => true
  | _ => false
 | _ => false) := rfl
@[simp] theorem jsOf_n : jsOf [] = [] := (rfl)
@[simp] theorem jsOf_d : jsOf (.d d :: as) = jsOf as := (rfl)
@[simp] theorem jsOf_o : jsOf (.o j :: as) = j :: jsOf as := (rfl)
@[simp] theorem callOk_e : callOk mF as δ = (mF.all (mutOk δ as) && decide (jsOf as).Nodup) := (rfl)
@[simp] theorem allMu_n : allMu mF [] i = true := (rfl)
@[simp] theorem allMu_d : allMu mF (.d d :: as) i = allMu mF as (i + 1) := (rfl)
@[simp] theorem allMu_o : allMu mF (.o j :: as) i = (decide (i ∈ mF) && allMu mF as (i + 1)) := (rfl)
@[simp] theorem backOk_e {os : List Dat} : backOk mF as d os = ((allMu mF as 0 || d.hard) && (allMu mF as 0 || os.all kidsHard) && decide (mF.length = os.length)) := (rfl)
@[simp] theorem putO_n {os : List Dat} : putO as [] os δ = δ := by cases os <;> rfl
@[simp] theorem putO_c {os : List Dat} {is : List Nat} : putO as (i :: is) (d :: os) δ = (match as[i]? with
  | some (.o j) => putO as is os (δ.set j (.ow d))
  | _ => putO as is os δ) := rfl
@[simp] theorem pNo_e : pNo δ = some (none,δ) := (rfl)
def qpS : Option (Dat × Ev) -> Option (Option Int × Ev)
 | some (.int i,δ) => some (some i,δ)
 | _ => none
@[simp] theorem pSo_e : pSo fa δ = qpS (fa δ) := by
 unfold pSo qpS
 cases fa δ with
 | none => rfl
 | some p =>
  obtain ⟨d,e⟩ := p
  cases d <;> rfl
@[simp] theorem qpS_s {i : Int} : qpS (some (.int i,δ)) = some (some i,δ) := (rfl)
def qSl (r : Option (Dat × Ev)) (fl fh : VP) : Option (Dat × Ev) := r.bind fun p => (fl p.2).bind fun l => (fh l.2).bind fun u => (oSl p.1 l.1 u.1).map fun c => (c,u.2)
def qSlb (x : Dat) (r : Option (Option Int × Ev)) (fh : VP) : Option (Dat × Ev) := r.bind fun l => (fh l.2).bind fun u => (oSl x l.1 u.1).map fun c => (c,u.2)
def qSlc (x : Dat) (l : Option Int) (r : Option (Option Int × Ev)) : Option (Dat × Ev) := r.bind fun u => q0 (oSl x l u.1) u.2
@[simp] theorem fSl_e {fl fh : VP} : fSl fa fl fh δ = qSl (fa δ) fl fh := (rfl)
@[simp] theorem qSl_s {fl fh : VP} : qSl (some (x,δ)) fl fh = qSlb x (fl δ) fh := (rfl)
@[simp] theorem qSlb_s {l : Option Int} {fh : VP} : qSlb x (some (l,δ)) fh = qSlc x l (fh δ) := (rfl)
@[simp] theorem qSlc_s {l u : Option Int} : qSlc x l (some (u,δ)) = q0 (oSl x l u) δ := (rfl)
@[simp] theorem oSl_t {l u : Option Int} : oSl (.tup ds) l u = some (.tup (cutD ds l u)) := (rfl)
def qSt (i j : Nat) : Option (Dat × Ev) -> Option Ou
 | some (.tup (d :: ds),δ) => some (.nx ((δ.set i (.va d)).set j (.va (.lst ds))))
 | _ => none
@[simp] theorem sStar_e : sStar i j fa δ = qSt i j (fa δ) := by
 unfold sStar qSt
 cases fa δ with
 | none => rfl
 | some p =>
  obtain ⟨d,e⟩ := p
  cases d with
  | tup ds => cases ds <;> rfl
  | _ => rfl
@[simp] theorem qSt_s : qSt i j (some (.tup (d :: ds),δ)) = some (.nx ((δ.set i (.va d)).set j (.va (.lst ds)))) := (rfl)
def qDg (i : Nat) (r : Option (List Key × List Dat)) (δ : Ev) (fk fx : VF) : Option (Dat × Ev) := r.bind fun _ => (fk δ).bind fun p => (fx p.2).bind fun q => (keyD p.1).bind fun k => (ownD q.2 i).map fun z => ((lookK z.1 z.2 k).getD q.1,q.2)
def qDgb (i : Nat) (r : Option (Dat × Ev)) (fx : VF) : Option (Dat × Ev) := r.bind fun p => (fx p.2).bind fun q => (keyD p.1).bind fun k => (ownD q.2 i).map fun z => ((lookK z.1 z.2 k).getD q.1,q.2)
def qDgc (i : Nat) (x : Dat) (r : Option (Dat × Ev)) : Option (Dat × Ev) := r.bind fun q => (keyD x).bind fun k => (ownD q.2 i).map fun z => ((lookK z.1 z.2 k).getD q.1,q.2)
@[simp] theorem fDget2_e : fDget2 i fa fb δ = qDg i (ownD δ i) δ fa fb := (rfl)
@[simp] theorem qDg_s {z : List Key × List Dat} : qDg i (some z) δ fa fb = qDgb i (fa δ) fb := (rfl)
@[simp] theorem qDgb_s : qDgb i (some (x,δ)) fb = qDgc i x (fb δ) := (rfl)
@[simp] theorem qDgc_s : qDgc i x (some (y,δ)) = (keyD x).bind fun k => (ownD δ i).map fun z => ((lookK z.1 z.2 k).getD y,δ) := (rfl)
def qDp (i : Nat) (r : Option (Dat × Ev)) (fk : VF) : Option Ou := r.bind fun p => (ownD p.2 i).bind fun _ => (fk p.2).bind fun q => (keyD q.1).bind fun k => (ownD q.2 i).bind fun z => if z.1.length < 16777216 /\ z.1.Nodup then some (.nx (q.2.set i (.ow (let r := putKD z.1 z.2 k p.1;.dct r.1 r.2)))) else none
def qDpb (i : Nat) (x : Dat) (r : Option (List Key × List Dat)) (δ : Ev) (fk : VF) : Option Ou := r.bind fun _ => (fk δ).bind fun q => (keyD q.1).bind fun k => (ownD q.2 i).bind fun z => if z.1.length < 16777216 /\ z.1.Nodup then some (.nx (q.2.set i (.ow (let r := putKD z.1 z.2 k x;.dct r.1 r.2)))) else none
def qDpc (i : Nat) (x : Dat) (r : Option (Dat × Ev)) : Option Ou := r.bind fun q => (keyD q.1).bind fun k => (ownD q.2 i).bind fun z => if z.1.length < 16777216 /\ z.1.Nodup then some (.nx (q.2.set i (.ow (.dct (putKD z.1 z.2 k x).1 (putKD z.1 z.2 k x).2)))) else none
@[simp] theorem sDput_e {fk fv : VF} : sDput i fk fv δ = qDp i (fv δ) fk := (rfl)
@[simp] theorem qDp_s {fk : VF} : qDp i (some (x,δ)) fk = qDpb i x (ownD δ i) δ fk := (rfl)
@[simp] theorem qDpb_s {z : List Key × List Dat} {fk : VF} : qDpb i x (some z) δ fk = qDpc i x (fk δ) := (rfl)
@[simp] theorem qDpc_s : qDpc i x (some (y,δ)) = (keyD y).bind fun k => (ownD δ i).bind fun z => if z.1.length < 16777216 /\ z.1.Nodup then some (.nx (δ.set i (.ow (.dct (putKD z.1 z.2 k x).1 (putKD z.1 z.2 k x).2)))) else none := (rfl)
@[simp] theorem keyD_s {s : Str} : keyD (.str s) = some (.inr s) := (rfl)
def qRun (ml : List Nat) : Option Ou -> Option (Dat × List Dat)
 | some (.rt d δ) => (outs ml δ).map fun os => (d,os)
 | some (.nx δ) => (outs ml δ).map fun os => (.non,os)
 | _ => none
theorem runV_e {ml : List Nat} : runV n ml g ds = qRun ml (g (envD ml n ds)) := by
 unfold runV qRun
 cases g (envD ml n ds) with
 | none => rfl
 | some o => cases o <;> rfl
@[simp] theorem qRun_r {ml : List Nat} : qRun ml (some (.rt d δ)) = (outs ml δ).map fun os => (d,os) := (rfl)
@[simp] theorem qRun_n {ml : List Nat} : qRun ml (some (.nx δ)) = (outs ml δ).map fun os => (.non,os) := (rfl)
def qow : Option Sl -> Option Dat
 | some (.ow d) => some d
 | _ => none
@[simp] theorem outs_n : outs [] δ = some [] := (rfl)
@[simp] theorem outs_c {ml : List Nat} : outs (i :: ml) δ = (qow δ[i]?).bind fun d => (outs ml δ).map fun os => d :: os := by
 unfold outs
 rw [List.mapM_cons]
 cases h : (δ[i]? : Option Sl) with
 | none => rfl
 | some s => cases s with
  | no => rfl
  | va d => rfl
  | ow d =>
   show (Option.bind _ fun os => some (d :: os)) = Option.map (fun os => d :: os) _
   cases (List.mapM _ ml : Option (List Dat)) <;> rfl
@[simp] theorem qow_s : qow (some (.ow d)) = some d := (rfl)
end
section
variable {i j : Int} {x y : Str} {ds es : List Dat}
@[simp] theorem oI_e {C : Int -> Int -> Bool} {g : Int -> Int -> Dat} : oI C g (.int i) (.int j) = if C i j = true then some (g i j) else none := (rfl)
@[simp] theorem oPlus_i : oPlus (.int i) (.int j) = some (.int (i + j)) := (rfl)
@[simp] theorem oPlus_t : oPlus (.tup ds) (.tup es) = if ds.length + es.length <= 16777216 then some (.tup (ds ++ es)) else none := (rfl)
@[simp] theorem o2I_e {g : Int -> Int -> Int} : o2I g (.int i) (.int j) = some (.int (g i j)) := (rfl)
@[simp] theorem oLen_t : oLen (.tup ds) = some (.int ds.length) := (rfl)
@[simp] theorem oLen_l : oLen (.lst ds) = some (.int ds.length) := (rfl)
@[simp] theorem oList_l : oList (.lst ds) = some (.lst ds) := (rfl)
@[simp] theorem oTuple_l : oTuple (.lst ds) = some (.tup ds) := (rfl)
@[simp] theorem oIxA_t : oIxA (.tup ds) (.int i) = atI ds i := (rfl)
@[simp] theorem oIxA_l : oIxA (.lst ds) (.int i) = atI ds i := (rfl)
@[simp] theorem oIxA_ds {ks : List Key} : oIxA (.dct ks ds) (.str x) = lookK ks ds (.inr x) := (rfl)
@[simp] theorem okD_i : okD (.int i) = true := (rfl)
@[simp] theorem isiT_1 : isiT "int" "bool" = some false := by decide +kernel
@[simp] theorem isiT_2 : isiT "int" "int" = some true := by decide +kernel
@[simp] theorem isiT_3 : isiT "tuple" "tuple" = some true := by decide +kernel
@[simp] theorem isiT_4 : isiT "str" "str" = some true := by decide +kernel
@[simp] theorem oIsi_i {n : String} : oIsi (.int i) (.ty n) = (isiT "int" n).map Dat.bl := (rfl)
@[simp] theorem oIsi_t {n : String} : oIsi (.tup ds) (.ty n) = (isiT "tuple" n).map Dat.bl := (rfl)
@[simp] theorem oIsi_s {n : String} : oIsi (.str x) (.ty n) = (isiT "str" n).map Dat.bl := (rfl)
@[simp] theorem oIsN_n : oIsN .non .non = some (.bl true) := (rfl)
@[simp] theorem oIsN_t : oIsN (.tup ds) .non = some (.bl false) := (rfl)
@[simp] theorem oNotN_n : oNotN .non .non = some (.bl false) := (rfl)
@[simp] theorem oNotN_t : oNotN (.tup ds) .non = some (.bl true) := (rfl)
end
end L2
namespace L2
open PySem
section
variable {d x : Dat} {δ δ1 : Ev} {r acc : List Dat} {gg : VG} {tb : VB} {fe : VF} {n nl : Nat} {g : VS}
def qk1 (n nl : Nat) (gg : VG) (tb : VB) (fe : VF) (r acc : List Dat) (o : Option Ev) : Option (List Dat × Ev) := o.bind fun δ1 => (tb δ1).bind fun p => if p.1 = true then (fe p.2).bind fun q => if acc.length < 16777216 then compV n nl gg tb fe r (acc ++ [q.1]) (q.2.take n) else none else compV n nl gg tb fe r acc (p.2.take n)
def qk2 (n nl : Nat) (gg : VG) (tb : VB) (fe : VF) (r acc : List Dat) (o : Option (Bool × Ev)) : Option (List Dat × Ev) := o.bind fun p => if p.1 = true then (fe p.2).bind fun q => if acc.length < 16777216 then compV n nl gg tb fe r (acc ++ [q.1]) (q.2.take n) else none else compV n nl gg tb fe r acc (p.2.take n)
def qk3 (n nl : Nat) (gg : VG) (tb : VB) (fe : VF) (r acc : List Dat) (o : Option (Dat × Ev)) : Option (List Dat × Ev) := o.bind fun q => if acc.length < 16777216 then compV n nl gg tb fe r (acc ++ [q.1]) (q.2.take n) else none
@[simp] theorem compV_n : compV n nl gg tb fe [] acc δ = some (acc,δ) := (rfl)
@[simp] theorem compV_c : compV n nl gg tb fe (d :: r) acc δ = qk1 n nl gg tb fe r acc (gg d (δ ++ nos nl)) := (rfl)
@[simp] theorem qk1_s : qk1 n nl gg tb fe r acc (some δ) = qk2 n nl gg tb fe r acc (tb δ) := (rfl)
@[simp] theorem qk2_t : qk2 n nl gg tb fe r acc (some (true,δ)) = qk3 n nl gg tb fe r acc (fe δ) := (rfl)
@[simp] theorem qk2_f : qk2 n nl gg tb fe r acc (some (false,δ)) = compV n nl gg tb fe r acc (δ.take n) := (rfl)
@[simp] theorem qk3_s : qk3 n nl gg tb fe r acc (some (x,δ)) = if acc.length < 16777216 then compV n nl gg tb fe r (acc ++ [x]) (δ.take n) else none := (rfl)
def qf1 (gg : VG) (g : VS) (r : List Dat) (o : Option Ev) : Option Ou := o.bind fun δ1 => (g δ1).bind (again (forV gg g r))
def qf2 (gg : VG) (g : VS) (r : List Dat) (o : Option Ou) : Option Ou := o.bind (again (forV gg g r))
@[simp] theorem forV_n : forV gg g [] δ = some (.nx δ) := (rfl)
@[simp] theorem forV_c : forV gg g (d :: r) δ = qf1 gg g r (gg d δ) := (rfl)
@[simp] theorem qf1_s : qf1 gg g r (some δ) = qf2 gg g r (g δ) := (rfl)
@[simp] theorem qf2_n : qf2 gg g r (some (.nx δ)) = forV gg g r δ := (rfl)
@[simp] theorem backD_n {ss : Ev} : backD [] ss δ = δ := by cases ss <;> rfl
@[simp] theorem backD_o {i : Nat} {is : List Nat} {ss : Ev} : backD (i :: is) (.ow d :: ss) δ = backD is ss (δ.set i (.ow d)) := (rfl)
@[simp] theorem backD_v {i : Nat} {is : List Nat} {ss : Ev} : backD (i :: is) (.va d :: ss) δ = backD is ss δ := (rfl)
end
@[simp] theorem nos_1 : nos 1 = [.no] := (rfl)
@[simp] theorem nos_2 : nos 2 = [.no,.no] := (rfl)
@[simp] theorem rngD_3 : rngD 0 3 = [.int 0,.int 1,.int 2] := (rfl)
theorem atI_in {α : Type} {xs : List α} {i : Int} (h0 : 0 <= i) (h1 : i < xs.length) : atI xs i = xs[i.toNat]? := by
 unfold atI ixN
 rw [if_pos h0,if_pos h1]
 rfl
theorem atI_ex {α : Type} {xs : List α} {i : Int} (h0 : 0 <= i) (h1 : i < xs.length) : ∃ x ∈ xs,atI xs i = some x := by
 rw [atI_in h0 h1]
 have h : i.toNat < xs.length := by omega
 exact ⟨xs[i.toNat],List.getElem_mem _,List.getElem?_eq_getElem h⟩
end L2
namespace L2
open PySem
def c_MOST_WORD : Dat := .int 999
def c_DEEDS : Dat := .tup [.str "plus",.str "minus",.str "times",.str "least",.str "most",.str "less",.str "over"]
def c_MOST_SURE : Dat := .int 64
def c_MOST_PLACE : Dat := .int 63
def c_DEED_PARTS : Dat := .tup [.str "row",.str "row"]
def c_OTHER_PARTS : Dat := .dct [.inr "number",.inr "pick",.inr "load",.inr "take",.inr "store",.inr "put"] [.tup [.str "word"],.tup [.str "row",.str "row",.str "row"],.tup [.str "place"],.tup [.str "place",.str "row",.str "row"],.tup [.str "place",.str "row"],.tup [.str "place",.str "row",.str "row"]]
def c_READERS : Dat := .tup [.str "load",.str "take"]
def c_WRITERS : Dat := .tup [.str "store",.str "put"]
def c_MOST_TURNS : Dat := .int 8
def c_MOST_LOOP_ROWS : Dat := .int 8
def c_MOST_STEP : Dat := .int 9
noncomputable def g_is_whole : VS :=
   (sSeq (sIf (bOr (fB (f2 oIsi (fV 0) (fC (.ty "bool")))) (bNot (fB (f2 oIsi (fV 0) (fC (.ty "int"))))))
   (sRet (fC (.bl false)))
   sNil)
   (sRet (f3 oLe oLe (fV 1) (fV 0) (fV 2))))
noncomputable def F_is_whole : VFun := runV 3 [] g_is_whole
noncomputable def g_parts_of : VS :=
   (sSeq (sIf (fB (f2 (oInD false) (fV 0) (fC c_DEEDS)))
   (sRet (fC c_DEED_PARTS))
   sNil)
   (sRet (f2 oGet1 (fC c_OTHER_PARTS) (fV 0))))
noncomputable def F_parts_of : VFun := runV 1 [] g_parts_of
noncomputable def g_makes_word : VS :=
   (sRet (f2 (oInD true) (f2 oIxA (fV 0) (fC (.int 0))) (fC c_WRITERS)))
noncomputable def F_makes_word : VFun := runV 1 [] g_makes_word
noncomputable def g_place_of : VS :=
   (sRet (fIf (bOr (fB (f2 (oInD false) (f2 oIxA (fV 0) (fC (.int 0))) (fC c_READERS))) (fB (f2 (oInD false) (f2 oIxA (fV 0) (fC (.int 0))) (fC c_WRITERS)))) (f2 oIxA (fV 0) (fC (.int 1))) (fC .non)))
noncomputable def F_place_of : VFun := runV 1 [] g_place_of
noncomputable def g_may_name : VS :=
   (sRet (fAnd (fCall 3 [] F_is_whole (aE (fV 0) (aE (fC (.int 0)) (aE (f2 oSub (f1 oLen (fV 1)) (fC (.int 1))) aNil)))) (f2 oIxA (fV 1) (fV 0))))
noncomputable def F_may_name : VFun := runV 2 [] g_may_name
noncomputable def g_fits : VS :=
   (sSeq (sIf (fB (f2 oEq (fV 0) (fC (.str "word"))))
   (sRet (fCall 3 [] F_is_whole (aE (fV 1) (aE (fC (.int 0)) (aE (fC c_MOST_WORD) aNil)))))
   sNil)
   (sSeq (sIf (fB (f2 oEq (fV 0) (fC (.str "place"))))
   (sRet (fCall 3 [] F_is_whole (aE (fV 1) (aE (fC (.int 0)) (aE (fC c_MOST_PLACE) aNil)))))
   sNil)
   (sRet (fCall 2 [] F_may_name (aE (fV 1) (aE (fV 2) aNil))))))
noncomputable def F_fits : VFun := runV 3 [] g_fits
noncomputable def g_is_row : VS :=
   (sSeq (sIf (bOr (bNot (fB (f2 oIsi (fV 0) (fC (.ty "tuple"))))) (fB (f2 oEq (f1 oLen (fV 0)) (fC (.int 0)))))
   (sRet (fC (.bl false)))
   sNil)
   (sSeq (sStar 2 3 (fV 0))
   (sSeq (sSet 4 (xV (fIf (fB (f2 oIsi (fV 2) (fC (.ty "str")))) (fCall 1 [] F_parts_of (aE (fV 2) aNil)) (fC .non))))
   (sSeq (sIf (bOr (fB (f2 oIsN (fV 4) (fC .non))) (fB (f2 oNe (f1 oLen (fV 4)) (f1 oLen (fV 3)))))
   (sRet (fC (.bl false)))
   sNil)
   (sRet (f1 oAll (fComp [1] 2 (iZip (fV 4) (fV 3)) (gTp 2 (gsCons (gN 1) (gsCons (gN 2) gsNil))) bYes (fCall 3 [] F_fits (aE (fV 1) (aE (fV 2) (aE (fV 0) aNil)))))))))))
noncomputable def F_is_row : VFun := runV 5 [] g_is_row
noncomputable def g_writes : VS :=
   (sRet (f2 (oInD false) (f2 oIxA (fV 0) (fC (.int 0))) (fC c_WRITERS)))
noncomputable def F_writes : VFun := runV 1 [] g_writes
noncomputable def g_place_in : VS :=
   (sSeq (sAsg (fV 0) (gTp 2 (gsCons (gN 2) (gsCons (gN 3) gsNil))))
   (sRet (f2 oPlus (fV 2) (f2 oTimes (fV 3) (fV 1)))))
noncomputable def F_place_in : VFun := runV 4 [] g_place_in
noncomputable def g_in_turn : VS :=
   (sSeq (sSet 2 (xV (fCall 1 [] F_place_of (aE (fV 0) aNil))))
   (sRet (fIf (fB (f2 oIsN (fV 2) (fC .non))) (fV 0) (f2 oPlus (fTup (fCons (f2 oIxA (fV 0) (fC (.int 0))) (fCons (fCall 2 [] F_place_in (aE (fV 2) (aE (fV 1) aNil))) fNil))) (fSl (fV 0) (pSo (fC (.int 2))) pNo)))))
noncomputable def F_in_turn : VFun := runV 3 [] g_in_turn
noncomputable def g_is_stride : VS :=
   (sSeq (sIf (bOr (bNot (fB (f2 oIsi (fV 0) (fC (.ty "tuple"))))) (fB (f2 oNe (f1 oLen (fV 0)) (fC (.int 2)))))
   (sRet (fC (.bl false)))
   sNil)
   (sSeq (sIf (bOr (bNot (fB (fCall 3 [] F_is_whole (aE (f2 oIxA (fV 0) (fC (.int 0))) (aE (fC (.int 0)) (aE (fC c_MOST_PLACE) aNil)))))) (bNot (fB (fCall 3 [] F_is_whole (aE (f2 oIxA (fV 0) (fC (.int 1))) (aE (f1 oNeg (fC c_MOST_STEP)) (aE (fC c_MOST_STEP) aNil)))))))
   (sRet (fC (.bl false)))
   sNil)
   (sRet (fCall 3 [] F_is_whole (aE (fCall 2 [] F_place_in (aE (fV 0) (aE (f2 oSub (fV 1) (fC (.int 1))) aNil))) (aE (fC (.int 0)) (aE (fC c_MOST_PLACE) aNil)))))))
noncomputable def F_is_stride : VFun := runV 2 [] g_is_stride
noncomputable def g_is_last : VS :=
   (sRet (fAnd (f2 oEq (f1 oLen (fV 0)) (fC (.int 3))) (fAnd (fCall 3 [] F_is_whole (aE (f2 oIxA (fV 0) (fC (.int 1))) (aE (fC (.int 0)) (aE (f2 oSub (fV 1) (fC (.int 1))) aNil)))) (fCall 3 [] F_is_whole (aE (f2 oIxA (fV 0) (fC (.int 2))) (aE (fC (.int 0)) (aE (fC c_MOST_WORD) aNil)))))))
noncomputable def F_is_last : VFun := runV 2 [] g_is_last
noncomputable def g_is_loop_row : VS :=
   (sSeq (sIf (bOr (bNot (fB (f2 oIsi (fV 0) (fC (.ty "tuple"))))) (bOr (fB (f2 oEq (f1 oLen (fV 0)) (fC (.int 0)))) (bNot (fB (f2 oIsi (f2 oIxA (fV 0) (fC (.int 0))) (fC (.ty "str")))))))
   (sRet (fC (.bl false)))
   sNil)
   (sSeq (sIf (fB (f2 oEq (f2 oIxA (fV 0) (fC (.int 0))) (fC (.str "last"))))
   (sRet (fCall 2 [] F_is_last (aE (fV 0) (aE (fV 3) aNil))))
   sNil)
   (sSeq (sIf (bOr (fB (f2 (oInD false) (f2 oIxA (fV 0) (fC (.int 0))) (fC c_READERS))) (fB (f2 (oInD false) (f2 oIxA (fV 0) (fC (.int 0))) (fC c_WRITERS))))
   (sRet (fAnd (f2 oGt (f1 oLen (fV 0)) (fC (.int 1))) (fAnd (fCall 2 [] F_is_stride (aE (f2 oIxA (fV 0) (fC (.int 1))) (aE (fV 2) aNil))) (fCall 2 [] F_is_row (aE (fCall 2 [] F_in_turn (aE (fV 0) (aE (fC (.int 0)) aNil))) (aE (fV 1) aNil))))))
   sNil)
   (sRet (fCall 2 [] F_is_row (aE (fV 0) (aE (fV 1) aNil)))))))
noncomputable def F_is_loop_row : VFun := runV 4 [] g_is_loop_row
noncomputable def g_are_loop_rows : VS :=
   (sSeq (sSet 2 (xO (fLst fNil)))
   (sSeq (sFor (iSeq (fV 0)) (gN 3)
   (sSeq (sIf (bNot (fB (fCall 4 [] F_is_loop_row (aE (fV 3) (aO 2 (aE (fV 1) (aE (f1 oLen (fV 0)) aNil)))))))
   (sRet (fC (.bl false)))
   sNil)
   (sMut 2 mApp (fCons (fCall 1 [] F_makes_word (aE (fV 3) aNil)) fNil))))
   (sRet (f1 oAll (fComp [2] 1 (iSeq (fV 0)) (gN 1) (fB (f2 oEq (f2 oIxA (fV 1) (fC (.int 0))) (fC (.str "last")))) (f2 oIxA (fO 0) (f2 oIxA (fV 1) (fC (.int 1)))))))))
noncomputable def F_are_loop_rows : VFun := runV 4 [] g_are_loop_rows
noncomputable def g_is_loop : VS :=
   (sSeq (sIf (bOr (bNot (fB (f2 oIsi (fV 0) (fC (.ty "tuple"))))) (fB (f2 oNe (f1 oLen (fV 0)) (fC (.int 3)))))
   (sRet (fC (.bl false)))
   sNil)
   (sSeq (sAsg (fV 0) (gTp 3 (gsCons (gN 1) (gsCons (gN 2) (gsCons (gN 3) gsNil)))))
   (sSeq (sIf (bOr (bNot (fB (fCall 3 [] F_is_whole (aE (fV 1) (aE (fC (.int 0)) (aE (fC c_MOST_SURE) aNil)))))) (bNot (fB (fCall 3 [] F_is_whole (aE (fV 2) (aE (fC (.int 1)) (aE (fC c_MOST_TURNS) aNil)))))))
   (sRet (fC (.bl false)))
   sNil)
   (sSeq (sIf (bOr (bNot (fB (f2 oIsi (fV 3) (fC (.ty "tuple"))))) (bNot (fB (f3 oLe oLe (fC (.int 1)) (f1 oLen (fV 3)) (fC c_MOST_LOOP_ROWS)))))
   (sRet (fC (.bl false)))
   sNil)
   (sRet (fCall 2 [] F_are_loop_rows (aE (fV 3) (aE (fV 2) aNil))))))))
noncomputable def F_is_loop : VFun := runV 4 [] g_is_loop
noncomputable def g_check_loop : VS :=
   (sIf (bNot (fB (fCall 1 [] F_is_loop (aE (fV 0) aNil))))
   (fun _ => none)
   sNil)
noncomputable def F_check_loop : VFun := runV 1 [] g_check_loop
noncomputable def g_reach : VS :=
   (sSeq (sDrop (fCall 1 [] F_check_loop (aE (fV 0) aNil)))
   (sSeq (sAsg (fV 0) (gTp 3 (gsCons (gN 1) (gsCons (gN 2) (gsCons (gN 3) gsNil)))))
   (sSeq (sSet 4 (xV (fComp [] 1 (iSeq (fV 3)) (gN 0) (fB (f2 oNotN (fCall 1 [] F_place_of (aE (fV 0) aNil)) (fC .non))) (fV 0))))
   (sSeq (sSet 5 (xV (fComp2 [4] 2 (iR1 (fV 2)) (gN 1) bYes (iSeq (fV 0)) (gN 2) bYes (fTup (fCons (fV 1) (fCons (fCall 2 [] F_place_in (aE (f2 oIxA (fV 2) (fC (.int 1))) (aE (fV 1) aNil))) (fCons (fCall 1 [] F_writes (aE (fV 2) aNil)) fNil)))))))
   (sSeq (sSet 6 (xV (fComp2 [5] 6 (iSeq (fV 5)) (gTp 3 (gsCons (gN 1) (gsCons (gN 2) (gsCons (gN 3) gsNil)))) bYes (iSeq (fV 0)) (gTp 3 (gsCons (gN 4) (gsCons (gN 5) (gsCons (gN 6) gsNil)))) (bAnd (fB (f2 oGt (fV 4) (fV 1))) (bAnd (fB (f2 oEq (fV 5) (fV 2))) (bOr (fB (fV 3)) (fB (fV 6))))) (f2 oSub (fV 4) (fV 1)))))
   (sRet (f1 oMinN (fV 6))))))))
noncomputable def F_reach : VFun := runV 7 [] g_reach
noncomputable def g_law_cell_at : VS :=
   (sSeq (sIf (fB (f2 oLt (fV 1) (f1 oLen (fV 0))))
   (sRet (f2 oIxA (fV 0) (fV 1)))
   sNil)
   (sSeq (sIf (fB (f2 oEq (fV 0) (fLst fNil)))
   (sRet (fC (.int 0)))
   sNil)
   (sSeq (sSet 2 (xV (f2 oIxA (fV 0) (f2 oMod (fV 1) (f1 oLen (fV 0))))))
   (sSeq (sFor (iR1 (f2 oMin (f2 oFdiv (fV 1) (f1 oLen (fV 0))) (fC (.int 60)))) (gN 3)
   (sSet 2 (xV (f2 oFdiv (fV 2) (fC (.int 1000003))))))
   (sRet (f2 oPlus (f2 oPlus (f2 oTimes (f2 oIxA (fV 0) (f2 oMod (fV 1) (f1 oLen (fV 0)))) (fC (.int 31))) (fV 1)) (f2 oTimes (fV 2) (fC (.int 101)))))))))
noncomputable def F_law_cell_at : VFun := runV 4 [] g_law_cell_at
noncomputable def g_law_mixed : VS :=
   (sSeq (sSet 3 (xV (f2 oMod (f2 oPlus (f2 oPlus (f2 oTimes (fCall 2 [] F_law_cell_at (aE (fV 0) (aE (fV 1) aNil))) (fC (.int 1103515245))) (f2 oTimes (fC (.int 7919)) (fV 1))) (fC (.int 12345))) (fC (.int 2147483647)))))
   (sRet (f2 oMod (f2 oMod (f2 oMod (f2 oPow (fV 3) (fC (.int 5))) (fC (.int 2147483647))) (fC (.int 999983))) (fV 2))))
noncomputable def F_law_mixed : VFun := runV 4 [] g_law_mixed
noncomputable def g_law_draw : VS :=
   (sSeq (sMut 1 mApp (fCons (fC (.int 0)) fNil))
   (sRet (fCall 3 [] F_law_mixed (aE (fV 0) (aE (f1 oLen (fO 1)) (aE (fV 2) aNil))))))
noncomputable def F_law_draw : VFun := runV 3 [1] g_law_draw
noncomputable def g_law_pick : VS :=
   (sRet (f2 oIxA (fV 2) (fCall 3 [1] F_law_draw (aE (fV 0) (aO 1 (aE (f1 oLen (fV 2)) aNil))))))
noncomputable def F_law_pick : VFun := runV 3 [1] g_law_pick
noncomputable def g_law_same_number : VS :=
   (sRet (fAnd (f2 oIsi (fV 0) (fC (.ty "int"))) (fAnd (fNot (f2 oIsi (fV 0) (fC (.ty "bool")))) (f2 oEq (fV 0) (fV 1)))))
noncomputable def F_law_same_number : VFun := runV 2 [] g_law_same_number
noncomputable def g_law_place : VS :=
   (sSeq (sDput 2 (fV 3) (f2 oMod (f2 oPlus (fDget2 2 (fV 3) (fCall 3 [1] F_law_draw (aE (fV 0) (aO 1 (aE (fV 4) aNil))))) (fCall 3 [1] F_law_pick (aE (fV 0) (aO 1 (aE (fLst (fCons (fC (.int 1)) (fCons (fC (.int 1)) (fCons (fC (.int 1)) (fCons (fC (.int 0)) (fCons (fC (.int 3)) fNil)))))) aNil))))) (fV 4)))
   (sRet (f2 oIxA (fO 2) (fV 3))))
noncomputable def F_law_place : VFun := runV 5 [1,2] g_law_place
noncomputable def g_law_row : VS :=
   (sSeq (sSet 5 (xV (fCall 3 [1] F_law_draw (aE (fV 0) (aO 1 (aE (fC (.int 13)) aNil))))))
   (sSeq (sIf (bOr (fB (f2 oEq (fV 2) (fLst fNil))) (fB (f2 oEq (fV 5) (fC (.int 0)))))
   (sSeq (sIf (fB (f2 oEq (fCall 3 [1] F_law_draw (aE (fV 0) (aO 1 (aE (fC (.int 2)) aNil)))) (fC (.int 0))))
   (sRet (fTup (fCons (fC (.str "number")) (fCons (fCall 3 [1] F_law_pick (aE (fV 0) (aO 1 (aE (fLst (fCons (fC (.int 0)) (fCons (fC (.int 1)) (fCons (fC (.int 2)) (fCons (fC (.int 5)) (fCons (fC (.int 999)) (fCons (fCall 3 [1] F_law_draw (aE (fV 0) (aO 1 (aE (fC (.int 1000)) aNil)))) fNil))))))) aNil)))) fNil))))
   sNil)
   (sRet (fTup (fCons (fC (.str "load")) (fCons (fCall 5 [1,2] F_law_place (aE (fV 0) (aO 1 (aO 3 (aE (fC (.str "load")) (aE (fV 4) aNil)))))) fNil)))))
   sNil)
   (sSeq (sAsg (fComp [0,1,2] 1 (iR1 (fC (.int 3))) (gN 3) bYes (f2 oIxA (fV 2) (f2 oMax (fC (.int 0)) (f2 oSub (f2 oSub (f1 oLen (fV 2)) (fC (.int 1))) (fCall 3 [1] F_law_draw (aE (fV 0) (aO 1 (aE (fC (.int 6)) aNil)))))))) (gTp 3 (gsCons (gN 6) (gsCons (gN 7) (gsCons (gN 8) gsNil)))))
   (sSeq (sIf (fB (f2 (oInD false) (fV 5) (fTup (fCons (fC (.int 1)) (fCons (fC (.int 2)) fNil)))))
   (sRet (fTup (fCons (fC (.str "load")) (fCons (fCall 5 [1,2] F_law_place (aE (fV 0) (aO 1 (aO 3 (aE (fC (.str "load")) (aE (fV 4) aNil)))))) fNil))))
   sNil)
   (sSeq (sIf (fB (f2 oEq (fV 5) (fC (.int 3))))
   (sRet (fTup (fCons (fC (.str "take")) (fCons (fCall 5 [1,2] F_law_place (aE (fV 0) (aO 1 (aO 3 (aE (fC (.str "take")) (aE (fV 4) aNil)))))) (fCons (fV 8) (fCons (fV 6) fNil))))))
   sNil)
   (sSeq (sIf (fB (f2 (oInD false) (fV 5) (fTup (fCons (fC (.int 4)) (fCons (fC (.int 5)) fNil)))))
   (sRet (fTup (fCons (fC (.str "store")) (fCons (fCall 5 [1,2] F_law_place (aE (fV 0) (aO 1 (aO 3 (aE (fC (.str "store")) (aE (fV 4) aNil)))))) (fCons (fV 6) fNil)))))
   sNil)
   (sSeq (sIf (fB (f2 oEq (fV 5) (fC (.int 6))))
   (sRet (fTup (fCons (fC (.str "put")) (fCons (fCall 5 [1,2] F_law_place (aE (fV 0) (aO 1 (aO 3 (aE (fC (.str "put")) (aE (fV 4) aNil)))))) (fCons (fV 6) (fCons (fV 8) fNil))))))
   sNil)
   (sSeq (sIf (fB (f2 oEq (fV 5) (fC (.int 7))))
   (sRet (fTup (fCons (fC (.str "pick")) (fCons (fV 8) (fCons (fV 6) (fCons (fV 7) fNil))))))
   sNil)
   (sRet (fTup (fCons (f2 oIxA (fLst (fCons (fC (.str "over")) (fCons (fC (.str "plus")) (fCons (fC (.str "minus")) (fCons (fC (.str "times")) (fCons (fC (.str "least")) (fCons (fC (.str "most")) (fCons (fC (.str "less")) fNil)))))))) (fCall 3 [1] F_law_draw (aE (fV 0) (aO 1 (aE (fC (.int 7)) aNil))))) (fCons (fV 6) (fCons (fV 7) fNil)))))))))))))
noncomputable def F_law_row : VFun := runV 9 [1,3] g_law_row
noncomputable def g_law_loop : VS :=
   (sSeq (sPar4 2 3 4 5 (xV (f2 oPlus (fC (.int 1)) (fCall 3 [1] F_law_draw (aE (fV 0) (aO 1 (aE (fC (.int 8)) aNil)))))) (xO (fLst fNil)) (xO (fLst fNil)) (xO (fC (.dct [] []))))
   (sSeq (sFor (iR1 (f2 oPlus (fC (.int 1)) (fCall 3 [1] F_law_draw (aE (fV 0) (aO 1 (aE (fC (.int 5)) aNil)))))) (gN 6)
   (sSeq (sIf (fB (f2 oEq (fCall 3 [1] F_law_draw (aE (fV 0) (aO 1 (aE (fC (.int 6)) aNil)))) (fC (.int 0))))
   (sMut 3 mApp (fCons (fTup (fCons (fC (.str "last")) (fCons (fC (.int 0)) (fCons (fCall 3 [1] F_law_draw (aE (fV 0) (aO 1 (aE (fCall 3 [1] F_law_pick (aE (fV 0) (aO 1 (aE (fLst (fCons (fC (.int 3)) (fCons (fC (.int 1000)) fNil))) aNil)))) aNil)))) fNil)))) fNil))
   (sSeq (sSet 7 (xV (fCall 5 [1,3] F_law_row (aE (fV 0) (aO 1 (aO 4 (aO 5 (aE (fC (.int 9)) aNil))))))))
   (sSeq (sIf (fB (f2 (oInD false) (f2 oIxA (fV 7) (fC (.int 0))) (fTup (fCons (fC (.str "load")) (fCons (fC (.str "take")) (fCons (fC (.str "store")) (fCons (fC (.str "put")) fNil)))))))
   (sSeq (sSet 8 (xV (fCall 3 [1] F_law_pick (aE (fV 0) (aO 1 (aE (fLst (fCons (fC (.int 1)) (fCons (fC (.int 1)) (fCons (fC (.int 1)) (fCons (fC (.int 0)) (fCons (fC (.int 2)) (fCons (f1 oNeg (fC (.int 1))) (fCons (fC (.int 7)) fNil)))))))) aNil))))))
   (sSeq (sSet 9 (xV (f2 oPlus (f2 oIxA (fV 7) (fC (.int 1))) (fCall 3 [1] F_law_pick (aE (fV 0) (aO 1 (aE (fLst (fCons (fC (.int 0)) (fCons (fC (.int 0)) (fCons (fC (.int 8)) (fCons (fC (.int 20)) fNil))))) aNil)))))))
   (sSeq (sIf (bNot (fB (f3 oLe oLe (fC (.int 0)) (f2 oPlus (fV 9) (f2 oTimes (fV 8) (f2 oSub (fV 2) (fC (.int 1))))) (fC (.int 63)))))
   (sSet 8 (xV (fC (.int 1))))
   sNil)
   (sSet 7 (xV (f2 oPlus (fTup (fCons (f2 oIxA (fV 7) (fC (.int 0))) (fCons (fTup (fCons (fV 9) (fCons (fV 8) fNil))) fNil))) (fSl (fV 7) (pSo (fC (.int 2))) pNo)))))))
   sNil)
   (sMut 3 mApp (fCons (fV 7) fNil)))))
   (sIf (fB (f2 (oInD true) (f2 oIxA (f2 oIxA (fO 3) (f1 oNeg (fC (.int 1)))) (fC (.int 0))) (fTup (fCons (fC (.str "store")) (fCons (fC (.str "put")) fNil)))))
   (sMut 4 mApp (fCons (f2 oSub (f1 oLen (fO 3)) (fC (.int 1))) fNil))
   sNil)))
   (sSeq (sFor (iEnum (f1 oList (fO 3))) (gTp 2 (gsCons (gN 10) (gsCons (gN 7) gsNil)))
   (sIf (fB (f2 oEq (f2 oIxA (fV 7) (fC (.int 0))) (fC (.str "last"))))
   (sPutL 3 (fV 10) (fTup (fCons (fC (.str "last")) (fCons (fCall 3 [1] F_law_pick (aE (fV 0) (aO 1 (aO 4 aNil)))) (fCons (f2 oIxA (fV 7) (fC (.int 2))) fNil)))))
   sNil))
   (sRet (fTup (fCons (fCall 3 [1] F_law_pick (aE (fV 0) (aO 1 (aE (fLst (fCons (fC (.int 0)) (fCons (fC (.int 9)) (fCons (fC (.int 64)) (fCons (fC (.int 40)) fNil))))) aNil)))) (fCons (fV 2) (fCons (f1 oTuple (fO 3)) fNil))))))))
noncomputable def F_law_loop : VFun := runV 11 [1] g_law_loop
noncomputable def g_law_at_turn : VS :=
   (sSeq (sIf (fB (f2 (oInD true) (f2 oIxA (fV 0) (fC (.int 0))) (fTup (fCons (fC (.str "load")) (fCons (fC (.str "take")) (fCons (fC (.str "store")) (fCons (fC (.str "put")) fNil)))))))
   (sRet (fV 0))
   sNil)
   (sRet (f2 oPlus (fTup (fCons (f2 oIxA (fV 0) (fC (.int 0))) (fCons (f2 oPlus (f2 oIxA (f2 oIxA (fV 0) (fC (.int 1))) (fC (.int 0))) (f2 oTimes (f2 oIxA (f2 oIxA (fV 0) (fC (.int 1))) (fC (.int 1))) (fV 1))) fNil))) (fSl (fV 0) (pSo (fC (.int 2))) pNo))))
noncomputable def F_law_at_turn : VFun := runV 2 [] g_law_at_turn
noncomputable def g_law : VS :=
   (sSeq (sSet 1 (xO (fLst fNil)))
   (sSeq (sSet 2 (xV (fCall 2 [1] F_law_loop (aE (fV 0) (aO 1 aNil)))))
   (sSeq (sSet 3 (xO (fLst fNil)))
   (sSeq (sFor (iR1 (f2 oIxA (fV 2) (fC (.int 1)))) (gN 4)
   (sFor (iR2 (f2 oPlus (fV 4) (fC (.int 1))) (f2 oIxA (fV 2) (fC (.int 1)))) (gN 5)
   (sFor (iSeq (f2 oIxA (fV 2) (fC (.int 2)))) (gN 6)
   (sFor (iSeq (f2 oIxA (fV 2) (fC (.int 2)))) (gN 7)
   (sIf (bAnd (fB (f2 (oInD false) (f2 oIxA (fV 6) (fC (.int 0))) (fTup (fCons (fC (.str "load")) (fCons (fC (.str "take")) (fCons (fC (.str "store")) (fCons (fC (.str "put")) fNil))))))) (fB (f2 (oInD false) (f2 oIxA (fV 7) (fC (.int 0))) (fTup (fCons (fC (.str "load")) (fCons (fC (.str "take")) (fCons (fC (.str "store")) (fCons (fC (.str "put")) fNil))))))))
   (sSeq (sSet 8 (xV (f2 oEq (f2 oIxA (fCall 2 [] F_law_at_turn (aE (fV 6) (aE (fV 4) aNil))) (fC (.int 1))) (f2 oIxA (fCall 2 [] F_law_at_turn (aE (fV 7) (aE (fV 5) aNil))) (fC (.int 1))))))
   (sIf (bAnd (fB (fV 8)) (bOr (fB (f2 (oInD false) (f2 oIxA (fV 6) (fC (.int 0))) (fTup (fCons (fC (.str "store")) (fCons (fC (.str "put")) fNil))))) (fB (f2 (oInD false) (f2 oIxA (fV 7) (fC (.int 0))) (fTup (fCons (fC (.str "store")) (fCons (fC (.str "put")) fNil)))))))
   (sMut 3 mApp (fCons (f2 oSub (fV 5) (fV 4)) fNil))
   sNil))
   sNil)))))
   (sSeq (sSet 9 (xV (fCall 1 [] F_reach (aE (fV 2) aNil))))
   (sRet (fIf (fB (f2 oEq (fO 3) (fLst fNil))) (f2 oIsN (fV 9) (fC .non)) (fCall 2 [] F_law_same_number (aE (fV 9) (aE (f1 (oBest minI) (fO 3)) aNil))))))))))
noncomputable def F_law : VFun := runV 10 [] g_law
end L2
namespace L2
open PySem
noncomputable def b_are_loop_rows_1 : VS :=
   (sSeq (sIf (bNot (fB (fCall 4 [] F_is_loop_row (aE (fV 3) (aO 2 (aE (fV 1) (aE (f1 oLen (fV 0)) aNil)))))))
   (sRet (fC (.bl false)))
   sNil)
   (sMut 2 mApp (fCons (fCall 1 [] F_makes_word (aE (fV 3) aNil)) fNil)))
theorem ge_are_loop_rows : g_are_loop_rows =
   (sSeq (sSet 2 (xO (fLst fNil)))
   (sSeq (sFor (iSeq (fV 0)) (gN 3)
   b_are_loop_rows_1)
   (sRet (f1 oAll (fComp [2] 1 (iSeq (fV 0)) (gN 1) (fB (f2 oEq (f2 oIxA (fV 1) (fC (.int 0))) (fC (.str "last")))) (f2 oIxA (fO 0) (f2 oIxA (fV 1) (fC (.int 1))))))))) := rfl
noncomputable def b_law_loop_1 : VS :=
   (sIf (fB (f2 oEq (f2 oIxA (fV 7) (fC (.int 0))) (fC (.str "last"))))
   (sPutL 3 (fV 10) (fTup (fCons (fC (.str "last")) (fCons (fCall 3 [1] F_law_pick (aE (fV 0) (aO 1 (aO 4 aNil)))) (fCons (f2 oIxA (fV 7) (fC (.int 2))) fNil)))))
   sNil)
noncomputable def b_law_loop_2 : VS :=
   (sSeq (sIf (fB (f2 oEq (fCall 3 [1] F_law_draw (aE (fV 0) (aO 1 (aE (fC (.int 6)) aNil)))) (fC (.int 0))))
   (sMut 3 mApp (fCons (fTup (fCons (fC (.str "last")) (fCons (fC (.int 0)) (fCons (fCall 3 [1] F_law_draw (aE (fV 0) (aO 1 (aE (fCall 3 [1] F_law_pick (aE (fV 0) (aO 1 (aE (fLst (fCons (fC (.int 3)) (fCons (fC (.int 1000)) fNil))) aNil)))) aNil)))) fNil)))) fNil))
   (sSeq (sSet 7 (xV (fCall 5 [1,3] F_law_row (aE (fV 0) (aO 1 (aO 4 (aO 5 (aE (fC (.int 9)) aNil))))))))
   (sSeq (sIf (fB (f2 (oInD false) (f2 oIxA (fV 7) (fC (.int 0))) (fTup (fCons (fC (.str "load")) (fCons (fC (.str "take")) (fCons (fC (.str "store")) (fCons (fC (.str "put")) fNil)))))))
   (sSeq (sSet 8 (xV (fCall 3 [1] F_law_pick (aE (fV 0) (aO 1 (aE (fLst (fCons (fC (.int 1)) (fCons (fC (.int 1)) (fCons (fC (.int 1)) (fCons (fC (.int 0)) (fCons (fC (.int 2)) (fCons (f1 oNeg (fC (.int 1))) (fCons (fC (.int 7)) fNil)))))))) aNil))))))
   (sSeq (sSet 9 (xV (f2 oPlus (f2 oIxA (fV 7) (fC (.int 1))) (fCall 3 [1] F_law_pick (aE (fV 0) (aO 1 (aE (fLst (fCons (fC (.int 0)) (fCons (fC (.int 0)) (fCons (fC (.int 8)) (fCons (fC (.int 20)) fNil))))) aNil)))))))
   (sSeq (sIf (bNot (fB (f3 oLe oLe (fC (.int 0)) (f2 oPlus (fV 9) (f2 oTimes (fV 8) (f2 oSub (fV 2) (fC (.int 1))))) (fC (.int 63)))))
   (sSet 8 (xV (fC (.int 1))))
   sNil)
   (sSet 7 (xV (f2 oPlus (fTup (fCons (f2 oIxA (fV 7) (fC (.int 0))) (fCons (fTup (fCons (fV 9) (fCons (fV 8) fNil))) fNil))) (fSl (fV 7) (pSo (fC (.int 2))) pNo)))))))
   sNil)
   (sMut 3 mApp (fCons (fV 7) fNil)))))
   (sIf (fB (f2 (oInD true) (f2 oIxA (f2 oIxA (fO 3) (f1 oNeg (fC (.int 1)))) (fC (.int 0))) (fTup (fCons (fC (.str "store")) (fCons (fC (.str "put")) fNil)))))
   (sMut 4 mApp (fCons (f2 oSub (f1 oLen (fO 3)) (fC (.int 1))) fNil))
   sNil))
theorem ge_law_loop : g_law_loop =
   (sSeq (sPar4 2 3 4 5 (xV (f2 oPlus (fC (.int 1)) (fCall 3 [1] F_law_draw (aE (fV 0) (aO 1 (aE (fC (.int 8)) aNil)))))) (xO (fLst fNil)) (xO (fLst fNil)) (xO (fC (.dct [] []))))
   (sSeq (sFor (iR1 (f2 oPlus (fC (.int 1)) (fCall 3 [1] F_law_draw (aE (fV 0) (aO 1 (aE (fC (.int 5)) aNil)))))) (gN 6)
   b_law_loop_2)
   (sSeq (sFor (iEnum (f1 oList (fO 3))) (gTp 2 (gsCons (gN 10) (gsCons (gN 7) gsNil)))
   b_law_loop_1)
   (sRet (fTup (fCons (fCall 3 [1] F_law_pick (aE (fV 0) (aO 1 (aE (fLst (fCons (fC (.int 0)) (fCons (fC (.int 9)) (fCons (fC (.int 64)) (fCons (fC (.int 40)) fNil))))) aNil)))) (fCons (fV 2) (fCons (f1 oTuple (fO 3)) fNil)))))))) := rfl
noncomputable def b_law_1 : VS :=
   (sIf (bAnd (fB (f2 (oInD false) (f2 oIxA (fV 6) (fC (.int 0))) (fTup (fCons (fC (.str "load")) (fCons (fC (.str "take")) (fCons (fC (.str "store")) (fCons (fC (.str "put")) fNil))))))) (fB (f2 (oInD false) (f2 oIxA (fV 7) (fC (.int 0))) (fTup (fCons (fC (.str "load")) (fCons (fC (.str "take")) (fCons (fC (.str "store")) (fCons (fC (.str "put")) fNil))))))))
   (sSeq (sSet 8 (xV (f2 oEq (f2 oIxA (fCall 2 [] F_law_at_turn (aE (fV 6) (aE (fV 4) aNil))) (fC (.int 1))) (f2 oIxA (fCall 2 [] F_law_at_turn (aE (fV 7) (aE (fV 5) aNil))) (fC (.int 1))))))
   (sIf (bAnd (fB (fV 8)) (bOr (fB (f2 (oInD false) (f2 oIxA (fV 6) (fC (.int 0))) (fTup (fCons (fC (.str "store")) (fCons (fC (.str "put")) fNil))))) (fB (f2 (oInD false) (f2 oIxA (fV 7) (fC (.int 0))) (fTup (fCons (fC (.str "store")) (fCons (fC (.str "put")) fNil)))))))
   (sMut 3 mApp (fCons (f2 oSub (fV 5) (fV 4)) fNil))
   sNil))
   sNil)
noncomputable def b_law_2 : VS :=
   (sFor (iSeq (f2 oIxA (fV 2) (fC (.int 2)))) (gN 7)
   b_law_1)
noncomputable def b_law_3 : VS :=
   (sFor (iSeq (f2 oIxA (fV 2) (fC (.int 2)))) (gN 6)
   b_law_2)
noncomputable def b_law_4 : VS :=
   (sFor (iR2 (f2 oPlus (fV 4) (fC (.int 1))) (f2 oIxA (fV 2) (fC (.int 1)))) (gN 5)
   b_law_3)
theorem ge_law : g_law =
   (sSeq (sSet 1 (xO (fLst fNil)))
   (sSeq (sSet 2 (xV (fCall 2 [1] F_law_loop (aE (fV 0) (aO 1 aNil)))))
   (sSeq (sSet 3 (xO (fLst fNil)))
   (sSeq (sFor (iR1 (f2 oIxA (fV 2) (fC (.int 1)))) (gN 4)
   b_law_4)
   (sSeq (sSet 9 (xV (fCall 1 [] F_reach (aE (fV 2) aNil))))
   (sRet (fIf (fB (f2 oEq (fO 3) (fLst fNil))) (f2 oIsN (fV 9) (fC .non)) (fCall 2 [] F_law_same_number (aE (fV 9) (aE (f1 (oBest minI) (fO 3)) aNil)))))))))) := rfl
end L2
namespace RR
open PySem L2
structure Txt (K : PySem.W.Frag) (mg : Str -> Option Value) : Prop where
 fnm : ∀ x a,PySem.W.nsIn K mainGlobals x = some (some (.ref a)) -> mg x = some (.ref a)
 n_len : mg "len" = none
 n_range : mg "range" = none
 n_min : mg "min" = none
 n_max : mg "max" = none
 n_list : mg "list" = none
 n_tuple : mg "tuple" = none
 n_sorted : mg "sorted" = none
 n_isinstance : mg "isinstance" = none
 n_bool : mg "bool" = none
 n_int : mg "int" = none
 n_str : mg "str" = none
 n_enumerate : mg "enumerate" = none
 n_zip : mg "zip" = none
 n_all : mg "all" = none
 n_any : mg "any" = none
 n_dict : mg "dict" = none
 n_abs : mg "abs" = none
 n_sum : mg "sum" = none
 v_DEEDS : ∃ u v,mg "DEEDS" = some u /\ RelV v u /\ ∀ N H M,Rep K N H M v c_DEEDS
 v_DEED_PARTS : ∃ u v,mg "DEED_PARTS" = some u /\ RelV v u /\ ∀ N H M,Rep K N H M v c_DEED_PARTS
 v_MOST_LOOP_ROWS : ∃ u v,mg "MOST_LOOP_ROWS" = some u /\ RelV v u /\ ∀ N H M,Rep K N H M v c_MOST_LOOP_ROWS
 v_MOST_PLACE : ∃ u v,mg "MOST_PLACE" = some u /\ RelV v u /\ ∀ N H M,Rep K N H M v c_MOST_PLACE
 v_MOST_STEP : ∃ u v,mg "MOST_STEP" = some u /\ RelV v u /\ ∀ N H M,Rep K N H M v c_MOST_STEP
 v_MOST_SURE : ∃ u v,mg "MOST_SURE" = some u /\ RelV v u /\ ∀ N H M,Rep K N H M v c_MOST_SURE
 v_MOST_TURNS : ∃ u v,mg "MOST_TURNS" = some u /\ RelV v u /\ ∀ N H M,Rep K N H M v c_MOST_TURNS
 v_MOST_WORD : ∃ u v,mg "MOST_WORD" = some u /\ RelV v u /\ ∀ N H M,Rep K N H M v c_MOST_WORD
 v_OTHER_PARTS : ∃ u v,mg "OTHER_PARTS" = some u /\ RelV v u /\ ∀ N H M,Rep K N H M v c_OTHER_PARTS
 v_READERS : ∃ u v,mg "READERS" = some u /\ RelV v u /\ ∀ N H M,Rep K N H M v c_READERS
 v_WRITERS : ∃ u v,mg "WRITERS" = some u /\ RelV v u /\ ∀ N H M,Rep K N H M v c_WRITERS
section
variable {P : Program} {w : World} {K : PySem.W.Frag} {mg : Str -> Option Value} {base : Heap} {f : Addr} {fd : FuncData}
abbrev Nx0 : List Str := ["thing","low","high"]
abbrev Qx0 : List Str := ["thing","low","high"]
theorem sc_x0 : FnScope Nx0 Qx0 (defScope (top 6)) := mkSc
theorem ok_x0 (F : Fun K "is_whole" "is_whole" (top 6) f fd) (T : Txt K mg)  :
  FnOk P w K mg base CX0 1 f fd Qx0 (spV K [] 3 F_is_whole) :=
 okW P w K mg base Nx0 Qx0 0 g_is_whole [] F sc_x0 fun _ _ _ _ _ _ hr hu hu1 => by
  refine (vss_cons ?_ (vss_one ?_))
  ·exact (vs_if (vt_w (vw_or (vt_val (visi T.n_isinstance (vv 0) (vty T.n_bool bt_bool))) (vw_or1 (vt_not (vt_val (visi T.n_isinstance (vv 0) (vty T.n_int bt_int)))))))
   (vss_one (vs_ret ve_bl))
   vss_nil)
  ·exact (vs_ret (ve_chain op_le op_le s_le s_le (vv 1) (vv 0) (vv 2)))
abbrev Nx1 : List Str := ["deed"]
abbrev Qx1 : List Str := ["deed"]
theorem sc_x1 : FnScope Nx1 Qx1 (defScope (top 14)) := mkSc
theorem ok_x1 (F : Fun K "parts_of" "parts_of" (top 14) f fd) (T : Txt K mg)  :
  FnOk P w K mg base CX0 1 f fd Qx1 (spV K [] 1 F_parts_of) :=
 okW P w K mg base Nx1 Qx1 0 g_parts_of [] F sc_x1 fun _ _ _ _ _ _ hr hu hu1 => by
  refine (vss_cons ?_ (vss_one ?_))
  ·exact (vs_if (vt_cmp (kInD (K := K) rfl hu) (s_inD (neg := false)) (vv 0) (ve_const (by rfl) T.v_DEEDS) (by with_unfolding_all rfl))
   (vss_one (vs_ret (ve_const (by rfl) T.v_DEED_PARTS)))
   vss_nil)
  ·exact (vs_ret (ve_get1 rfl hu1 (ve_const (by rfl) T.v_OTHER_PARTS) (vv 0) ⟨rfl,rfl,rfl,rfl⟩))
abbrev Nx2 : List Str := ["row"]
abbrev Qx2 : List Str := ["row"]
theorem sc_x2 : FnScope Nx2 Qx2 (defScope (top 15)) := mkSc
theorem ok_x2 (F : Fun K "makes_word" "makes_word" (top 15) f fd) (T : Txt K mg)  :
  FnOk P w K mg base CX0 1 f fd Qx2 (spV K [] 1 F_makes_word) :=
 okW P w K mg base Nx2 Qx2 0 g_makes_word [] F sc_x2 fun _ _ _ _ _ _ hr hu hu1 => by
  exact (vss_one (vs_ret (ve_cmp (kNotInD (K := K) rfl hu) (s_inD (neg := true)) (vix hu1 (vv 0) ve_int) (ve_const (by rfl) T.v_WRITERS) (by with_unfolding_all rfl))))
abbrev Nx3 : List Str := ["row"]
abbrev Qx3 : List Str := ["row"]
theorem sc_x3 : FnScope Nx3 Qx3 (defScope (top 16)) := mkSc
theorem ok_x3 (F : Fun K "place_of" "place_of" (top 16) f fd) (T : Txt K mg)  :
  FnOk P w K mg base CX0 1 f fd Qx3 (spV K [] 1 F_place_of) :=
 okW P w K mg base Nx3 Qx3 0 g_place_of [] F sc_x3 fun _ _ _ _ _ _ hr hu hu1 => by
  exact (vss_one (vs_ret (ve_if (vt_w (vw_or (vt_cmp (kInD (K := K) rfl hu) (s_inD (neg := false)) (vix hu1 (vv 0) ve_int) (ve_const (by rfl) T.v_READERS) (by with_unfolding_all rfl)) (vw_or1 (vt_cmp (kInD (K := K) rfl hu) (s_inD (neg := false)) (vix hu1 (vv 0) ve_int) (ve_const (by rfl) T.v_WRITERS) (by with_unfolding_all rfl))))) (vix hu1 (vv 0) ve_int) ve_non)))
abbrev Nx4 : List Str := ["thing","able"]
abbrev Qx4 : List Str := ["thing","able"]
theorem sc_x4 : FnScope Nx4 Qx4 (defScope (top 17)) := mkSc
theorem ok_x4 (F : Fun K "may_name" "may_name" (top 17) f fd) (T : Txt K mg) {f_x0 : Addr} (D_x0 : DefV P w K mg base "is_whole" 1 Qx0 [] F_is_whole f_x0) :
  FnOk P w K mg base CX0 2 f fd Qx4 (spV K [] 2 F_may_name) :=
 okW P w K mg base Nx4 Qx4 1 g_may_name [] F sc_x4 fun _ _ _ _ _ _ hr hu hu1 => by
  exact (vss_one (vs_ret (ve_and (vcal D_x0 hr (vga_e (vv 0) (vga_e ve_int (vga_e (ve_free (ve_op op_sub s_sub (vlen T.n_len (vv 1)) ve_int)) vga_nil)))) (ve_one (vix hu1 (vv 1) (vv 0))))))
abbrev Nx5 : List Str := ["part","thing","able"]
abbrev Qx5 : List Str := ["part","thing","able"]
theorem sc_x5 : FnScope Nx5 Qx5 (defScope (top 18)) := mkSc
theorem ok_x5 (F : Fun K "fits" "fits" (top 18) f fd) (T : Txt K mg) {f_x0 : Addr} (D_x0 : DefV P w K mg base "is_whole" 1 Qx0 [] F_is_whole f_x0) {f_x4 : Addr} (D_x4 : DefV P w K mg base "may_name" 2 Qx4 [] F_may_name f_x4) :
  FnOk P w K mg base CX0 3 f fd Qx5 (spV K [] 3 F_fits) :=
 okW P w K mg base Nx5 Qx5 2 g_fits [] F sc_x5 fun _ _ _ _ _ _ hr hu hu1 => by
  refine (vss_cons ?_ (vss_cons ?_ (vss_one ?_)))
  ·exact (vs_if (vteq hu (vv 0) ve_str)
   (vss_one (vs_ret (vcal D_x0 hr (vga_e (vv 1) (vga_e ve_int (vga_e (ve_free (ve_const (by rfl) T.v_MOST_WORD)) vga_nil))))))
   vss_nil)
  ·exact (vs_if (vteq hu (vv 0) ve_str)
   (vss_one (vs_ret (vcal D_x0 hr (vga_e (vv 1) (vga_e ve_int (vga_e (ve_free (ve_const (by rfl) T.v_MOST_PLACE)) vga_nil))))))
   vss_nil)
  ·exact (vs_ret (vcal D_x4 hr (vga_e (vv 1) (vga_e (vv 2) vga_nil))))
abbrev Nx6 : List Str := ["thing","able","deed","rest","parts"]
abbrev Qx6 : List Str := ["thing","able"]
theorem sc_x6 : FnScope Nx6 Qx6 (defScope (top 19)) := mkSc
theorem ok_x6 (F : Fun K "is_row" "is_row" (top 19) f fd) (T : Txt K mg) {f_x1 : Addr} (D_x1 : DefV P w K mg base "parts_of" 1 Qx1 [] F_parts_of f_x1) {f_x5 : Addr} (D_x5 : DefV P w K mg base "fits" 3 Qx5 [] F_fits f_x5) :
  FnOk P w K mg base CX0 4 f fd Qx6 (spV K [] 2 F_is_row) :=
 okW P w K mg base Nx6 Qx6 3 g_is_row [] F sc_x6 fun _ _ _ _ _ _ hr hu hu1 => by
  refine (vss_cons ?_ (vss_cons ?_ (vss_cons ?_ (vss_cons ?_ (vss_one ?_)))))
  ·exact (vs_if (vt_w (vw_or (vt_not (vt_val (visi T.n_isinstance (vv 0) (vty T.n_tuple bt_tuple)))) (vw_or1 (vteq hu (vlen T.n_len (vv 0)) ve_int))))
   (vss_one (vs_ret ve_bl))
   vss_nil)
  ·exact (vs_star (i := 2) (j := 3) rfl rfl sc_x6.nd rfl rfl (by decide) (Or.inl rfl) (Or.inl rfl) (vv 0))
  ·exact (vs_set (i := 4) sc_x6.nd rfl (Or.inl rfl) (vx_va (ve_free (ve_if (vt_val (visi T.n_isinstance (vv 2) (vty T.n_str bt_str))) (vcal D_x1 hr (vga_e (vv 2) vga_nil)) ve_non))))
  ·exact (vs_if (vt_w (vw_or (vt_cmp op_isN s_isN (vv 4) ve_non (nomark _)) (vw_or1 (vt_cmp (kNeD (K := K) rfl hu) s_ne (vlen T.n_len (vv 4)) (vlen T.n_len (vv 3)) (nomark _)))))
   (vss_one (vs_ret ve_bl))
   vss_nil)
  ·exact (vs_ret (ve_B1 (kAll (K := K) rfl rfl) s_all (by rfl) T.n_all bt_all (ve_new (vn_comp (N := Nx6) (sc := (defScope (top 19))) (N' := ["able","part","given"]) (ix := [1]) (nl := 2) rfl ⟨rfl,by decide +kernel,by decide +kernel,by decide +kernel,by decide +kernel,by decide +kernel,by decide +kernel⟩ rfl rfl rfl (by decide) (vi_zip rfl (by rfl) T.n_zip (vv 4) (vv 3)) (fun cl s1 H1 fp => ⟨(vg_tup (K := K) rfl rfl (vgs_cons (vg_name (i := 1) (show (["able","part","given"] : List Str).Nodup by decide +kernel) rfl (Or.inl rfl)) (vgs_cons (vg_name (i := 2) (show (["able","part","given"] : List Str).Nodup by decide +kernel) rfl (Or.inl rfl)) vgs_nil))),vb_nil,(ve_free (vcal D_x5 hr (vga_e (vv 1) (vga_e (vv 2) (vga_e (vv 0) vga_nil)))))⟩)))))
abbrev Nx7 : List Str := ["row"]
abbrev Qx7 : List Str := ["row"]
theorem sc_x7 : FnScope Nx7 Qx7 (defScope (top 21)) := mkSc
theorem ok_x7 (F : Fun K "writes" "writes" (top 21) f fd) (T : Txt K mg)  :
  FnOk P w K mg base CX0 1 f fd Qx7 (spV K [] 1 F_writes) :=
 okW P w K mg base Nx7 Qx7 0 g_writes [] F sc_x7 fun _ _ _ _ _ _ hr hu hu1 => by
  exact (vss_one (vs_ret (ve_cmp (kInD (K := K) rfl hu) (s_inD (neg := false)) (vix hu1 (vv 0) ve_int) (ve_const (by rfl) T.v_WRITERS) (by with_unfolding_all rfl))))
abbrev Nx8 : List Str := ["stride","turn","base","step"]
abbrev Qx8 : List Str := ["stride","turn"]
theorem sc_x8 : FnScope Nx8 Qx8 (defScope (top 26)) := mkSc
theorem ok_x8 (F : Fun K "place_in" "place_in" (top 26) f fd) (T : Txt K mg)  :
  FnOk P w K mg base CX0 1 f fd Qx8 (spV K [] 2 F_place_in) :=
 okW P w K mg base Nx8 Qx8 0 g_place_in [] F sc_x8 fun _ _ _ _ _ _ hr hu hu1 => by
  refine (vss_cons ?_ (vss_one ?_))
  ·exact (vs_asg (vv 0) (vg_tup (K := K) rfl rfl (vgs_cons (vg_name (i := 2) sc_x8.nd rfl (Or.inl rfl)) (vgs_cons (vg_name (i := 3) sc_x8.nd rfl (Or.inl rfl)) vgs_nil))))
  ·exact (vs_ret (ve_opC (kPlus (K := K) rfl) c_plus (vv 2) (ve_opC (kTimes (K := K) rfl) c_times (vv 3) (vv 1))))
abbrev Nx9 : List Str := ["row","turn","stride"]
abbrev Qx9 : List Str := ["row","turn"]
theorem sc_x9 : FnScope Nx9 Qx9 (defScope (top 27)) := mkSc
theorem ok_x9 (F : Fun K "in_turn" "in_turn" (top 27) f fd) (T : Txt K mg) {f_x3 : Addr} (D_x3 : DefV P w K mg base "place_of" 1 Qx3 [] F_place_of f_x3) {f_x8 : Addr} (D_x8 : DefV P w K mg base "place_in" 1 Qx8 [] F_place_in f_x8) :
  FnOk P w K mg base CX0 2 f fd Qx9 (spV K [] 2 F_in_turn) :=
 okW P w K mg base Nx9 Qx9 1 g_in_turn [] F sc_x9 fun _ _ _ _ _ _ hr hu hu1 => by
  refine (vss_cons ?_ (vss_one ?_))
  ·exact (vs_set (i := 2) sc_x9.nd rfl (Or.inl rfl) (vx_va (ve_free (vcal D_x3 hr (vga_e (vv 0) vga_nil)))))
  ·exact (vs_ret (ve_if (vt_cmp op_isN s_isN (vv 2) ve_non (nomark _)) (vv 0) (ve_opC (kPlus (K := K) rfl) c_plus (ve_tup (va_cons (vix hu1 (vv 0) ve_int) (va_cons (vcal D_x8 hr (vga_e (vv 2) (vga_e (vv 1) vga_nil))) va_nil))) (ve_sl rfl (vv 0) (vp_so ve_int) vp_no))))
abbrev Nx10 : List Str := ["thing","turns"]
abbrev Qx10 : List Str := ["thing","turns"]
theorem sc_x10 : FnScope Nx10 Qx10 (defScope (top 28)) := mkSc
theorem ok_x10 (F : Fun K "is_stride" "is_stride" (top 28) f fd) (T : Txt K mg) {f_x0 : Addr} (D_x0 : DefV P w K mg base "is_whole" 1 Qx0 [] F_is_whole f_x0) {f_x8 : Addr} (D_x8 : DefV P w K mg base "place_in" 1 Qx8 [] F_place_in f_x8) :
  FnOk P w K mg base CX0 2 f fd Qx10 (spV K [] 2 F_is_stride) :=
 okW P w K mg base Nx10 Qx10 1 g_is_stride [] F sc_x10 fun _ _ _ _ _ _ hr hu hu1 => by
  refine (vss_cons ?_ (vss_cons ?_ (vss_one ?_)))
  ·exact (vs_if (vt_w (vw_or (vt_not (vt_val (visi T.n_isinstance (vv 0) (vty T.n_tuple bt_tuple)))) (vw_or1 (vt_cmp (kNeD (K := K) rfl hu) s_ne (vlen T.n_len (vv 0)) ve_int (nomark _)))))
   (vss_one (vs_ret ve_bl))
   vss_nil)
  ·exact (vs_if (vt_w (vw_or (vt_not (vt_val (vcal D_x0 hr (vga_e (ve_free (vix hu1 (vv 0) ve_int)) (vga_e ve_int (vga_e (ve_free (ve_const (by rfl) T.v_MOST_PLACE)) vga_nil)))))) (vw_or1 (vt_not (vt_val (vcal D_x0 hr (vga_e (ve_free (vix hu1 (vv 0) ve_int)) (vga_e (ve_free (ve_neg (ve_const (by rfl) T.v_MOST_STEP))) (vga_e (ve_free (ve_const (by rfl) T.v_MOST_STEP)) vga_nil)))))))))
   (vss_one (vs_ret ve_bl))
   vss_nil)
  ·exact (vs_ret (vcal D_x0 hr (vga_e (ve_free (vcal D_x8 hr (vga_e (vv 0) (vga_e (ve_free (ve_op op_sub s_sub (vv 1) ve_int)) vga_nil)))) (vga_e ve_int (vga_e (ve_free (ve_const (by rfl) T.v_MOST_PLACE)) vga_nil)))))
abbrev Nx11 : List Str := ["thing","many"]
abbrev Qx11 : List Str := ["thing","many"]
theorem sc_x11 : FnScope Nx11 Qx11 (defScope (top 29)) := mkSc
theorem ok_x11 (F : Fun K "is_last" "is_last" (top 29) f fd) (T : Txt K mg) {f_x0 : Addr} (D_x0 : DefV P w K mg base "is_whole" 1 Qx0 [] F_is_whole f_x0) :
  FnOk P w K mg base CX0 2 f fd Qx11 (spV K [] 2 F_is_last) :=
 okW P w K mg base Nx11 Qx11 1 g_is_last [] F sc_x11 fun _ _ _ _ _ _ hr hu hu1 => by
  exact (vss_one (vs_ret (ve_and (veq hu (vlen T.n_len (vv 0)) ve_int) (ve_and (vcal D_x0 hr (vga_e (ve_free (vix hu1 (vv 0) ve_int)) (vga_e ve_int (vga_e (ve_free (ve_op op_sub s_sub (vv 1) ve_int)) vga_nil)))) (ve_one (vcal D_x0 hr (vga_e (ve_free (vix hu1 (vv 0) ve_int)) (vga_e ve_int (vga_e (ve_free (ve_const (by rfl) T.v_MOST_WORD)) vga_nil)))))))))
abbrev Nx12 : List Str := ["thing","able","turns","many"]
abbrev Qx12 : List Str := ["thing","able","turns","many"]
theorem sc_x12 : FnScope Nx12 Qx12 (defScope (top 30)) := mkSc
theorem ok_x12 (F : Fun K "is_loop_row" "is_loop_row" (top 30) f fd) (T : Txt K mg) {f_x6 : Addr} (D_x6 : DefV P w K mg base "is_row" 4 Qx6 [] F_is_row f_x6) {f_x9 : Addr} (D_x9 : DefV P w K mg base "in_turn" 2 Qx9 [] F_in_turn f_x9) {f_x10 : Addr} (D_x10 : DefV P w K mg base "is_stride" 2 Qx10 [] F_is_stride f_x10) {f_x11 : Addr} (D_x11 : DefV P w K mg base "is_last" 2 Qx11 [] F_is_last f_x11) :
  FnOk P w K mg base CX0 5 f fd Qx12 (spV K [] 4 F_is_loop_row) :=
 okW P w K mg base Nx12 Qx12 4 g_is_loop_row [] F sc_x12 fun _ _ _ _ _ _ hr hu hu1 => by
  refine (vss_cons ?_ (vss_cons ?_ (vss_cons ?_ (vss_one ?_))))
  ·exact (vs_if (vt_w (vw_or (vt_not (vt_val (visi T.n_isinstance (vv 0) (vty T.n_tuple bt_tuple)))) (vw_or (vteq hu (vlen T.n_len (vv 0)) ve_int) (vw_or1 (vt_not (vt_val (visi T.n_isinstance (vix hu1 (vv 0) ve_int) (vty T.n_str bt_str))))))))
   (vss_one (vs_ret ve_bl))
   vss_nil)
  ·exact (vs_if (vteq hu (vix hu1 (vv 0) ve_int) ve_str)
   (vss_one (vs_ret (vcal D_x11 hr (vga_e (vv 0) (vga_e (vv 3) vga_nil)))))
   vss_nil)
  ·exact (vs_if (vt_w (vw_or (vt_cmp (kInD (K := K) rfl hu) (s_inD (neg := false)) (vix hu1 (vv 0) ve_int) (ve_const (by rfl) T.v_READERS) (by with_unfolding_all rfl)) (vw_or1 (vt_cmp (kInD (K := K) rfl hu) (s_inD (neg := false)) (vix hu1 (vv 0) ve_int) (ve_const (by rfl) T.v_WRITERS) (by with_unfolding_all rfl)))))
   (vss_one (vs_ret (ve_and (ve_cmp op_gt s_gt (vlen T.n_len (vv 0)) ve_int (nomark _)) (ve_and (vcal D_x10 hr (vga_e (ve_free (vix hu1 (vv 0) ve_int)) (vga_e (vv 2) vga_nil))) (ve_one (vcal D_x6 hr (vga_e (ve_free (vcal D_x9 hr (vga_e (vv 0) (vga_e ve_int vga_nil)))) (vga_e (vv 1) vga_nil))))))))
   vss_nil)
  ·exact (vs_ret (vcal D_x6 hr (vga_e (vv 0) (vga_e (vv 1) vga_nil))))
abbrev Nx13 : List Str := ["things","turns","able","thing"]
abbrev Qx13 : List Str := ["things","turns"]
theorem sc_x13 : FnScope Nx13 Qx13 (defScope (top 31)) := mkSc
theorem ok_x13 (F : Fun K "are_loop_rows" "are_loop_rows" (top 31) f fd) (T : Txt K mg) {f_x2 : Addr} (D_x2 : DefV P w K mg base "makes_word" 1 Qx2 [] F_makes_word f_x2) {f_x12 : Addr} (D_x12 : DefV P w K mg base "is_loop_row" 5 Qx12 [] F_is_loop_row f_x12) :
  FnOk P w K mg base CX0 6 f fd Qx13 (spV K [] 2 F_are_loop_rows) :=
 okW P w K mg base Nx13 Qx13 5 g_are_loop_rows [] F sc_x13 fun _ _ _ _ _ _ hr hu hu1 => by
  refine (vss_cons ?_ (vss_cons ?_ (vss_one ?_)))
  ·exact (vs_set (i := 2) sc_x13.nd rfl (Or.inr rfl) (vx_ow (vn_lst (va_free va_nil))))
  ·exact (vs_for PassesOwn.never rfl (vi_seq rfl (vv 0)) (vg_name (i := 3) sc_x13.nd rfl (Or.inl rfl))
   (vss_cons (vs_if (vt_not (vt_val (vcal D_x12 hr (vga_e (vv 3) (vga_o (pv 2) (vga_e (vv 1) (vga_e (ve_free (vlen T.n_len (vv 0))) vga_nil)))))))
   (vss_one (vs_ret ve_bl))
   vss_nil)
   (vss_one (vs_mut (K := K) rfl PySem.F.slot_list_append PySem.F.type_list_append mt_append mu_app (pv 2) (va_free (va_cons (vcal D_x2 hr (vga_e (vv 3) vga_nil)) va_nil))))))
  ·exact (vs_ret (ve_B1 (kAll (K := K) rfl rfl) s_all (by rfl) T.n_all bt_all (ve_new (vn_comp (N := Nx13) (sc := (defScope (top 31))) (N' := ["able","row"]) (ix := [2]) (nl := 1) rfl ⟨rfl,by decide +kernel,by decide +kernel,by decide +kernel,by decide +kernel,by decide +kernel,by decide +kernel⟩ rfl rfl rfl (by decide) (vi_seq rfl (vv 0)) (fun cl s1 H1 fp => ⟨(vg_name (i := 1) (show (["able","row"] : List Str).Nodup by decide +kernel) rfl (Or.inl rfl)),(vb_one (vteq hu (vix hu1 (vv 1) ve_int) ve_str)),(ve_free (vix hu1 (vo 0) (vix hu1 (vv 1) ve_int)))⟩)))))
abbrev Nx14 : List Str := ["thing","sure","turns","rows"]
abbrev Qx14 : List Str := ["thing"]
theorem sc_x14 : FnScope Nx14 Qx14 (defScope (top 32)) := mkSc
theorem ok_x14 (F : Fun K "is_loop" "is_loop" (top 32) f fd) (T : Txt K mg) {f_x0 : Addr} (D_x0 : DefV P w K mg base "is_whole" 1 Qx0 [] F_is_whole f_x0) {f_x13 : Addr} (D_x13 : DefV P w K mg base "are_loop_rows" 6 Qx13 [] F_are_loop_rows f_x13) :
  FnOk P w K mg base CX0 7 f fd Qx14 (spV K [] 1 F_is_loop) :=
 okW P w K mg base Nx14 Qx14 6 g_is_loop [] F sc_x14 fun _ _ _ _ _ _ hr hu hu1 => by
  refine (vss_cons ?_ (vss_cons ?_ (vss_cons ?_ (vss_cons ?_ (vss_one ?_)))))
  ·exact (vs_if (vt_w (vw_or (vt_not (vt_val (visi T.n_isinstance (vv 0) (vty T.n_tuple bt_tuple)))) (vw_or1 (vt_cmp (kNeD (K := K) rfl hu) s_ne (vlen T.n_len (vv 0)) ve_int (nomark _)))))
   (vss_one (vs_ret ve_bl))
   vss_nil)
  ·exact (vs_asg (vv 0) (vg_tup (K := K) rfl rfl (vgs_cons (vg_name (i := 1) sc_x14.nd rfl (Or.inl rfl)) (vgs_cons (vg_name (i := 2) sc_x14.nd rfl (Or.inl rfl)) (vgs_cons (vg_name (i := 3) sc_x14.nd rfl (Or.inl rfl)) vgs_nil)))))
  ·exact (vs_if (vt_w (vw_or (vt_not (vt_val (vcal D_x0 hr (vga_e (vv 1) (vga_e ve_int (vga_e (ve_free (ve_const (by rfl) T.v_MOST_SURE)) vga_nil)))))) (vw_or1 (vt_not (vt_val (vcal D_x0 hr (vga_e (vv 2) (vga_e ve_int (vga_e (ve_free (ve_const (by rfl) T.v_MOST_TURNS)) vga_nil)))))))))
   (vss_one (vs_ret ve_bl))
   vss_nil)
  ·exact (vs_if (vt_w (vw_or (vt_not (vt_val (visi T.n_isinstance (vv 3) (vty T.n_tuple bt_tuple)))) (vw_or1 (vt_not (vt_chain op_le op_le s_le s_le ve_int (vlen T.n_len (vv 3)) (ve_const (by rfl) T.v_MOST_LOOP_ROWS))))))
   (vss_one (vs_ret ve_bl))
   vss_nil)
  ·exact (vs_ret (vcal D_x13 hr (vga_e (vv 3) (vga_e (vv 2) vga_nil))))
abbrev Nx15 : List Str := ["loop"]
abbrev Qx15 : List Str := ["loop"]
theorem sc_x15 : FnScope Nx15 Qx15 (defScope (top 33)) := mkSc
theorem ok_x15 (F : Fun K "check_loop" "check_loop" (top 33) f fd) (T : Txt K mg) {f_x14 : Addr} (D_x14 : DefV P w K mg base "is_loop" 7 Qx14 [] F_is_loop f_x14) :
  FnOk P w K mg base CX0 8 f fd Qx15 (spV K [] 1 F_check_loop) :=
 okW P w K mg base Nx15 Qx15 7 g_check_loop [] F sc_x15 fun _ _ _ _ _ _ hr hu hu1 => by
  exact (vss_one (vs_if (vt_not (vt_val (vcal D_x14 hr (vga_e (vv 0) vga_nil))))
   (vss_one vs_never)
   vss_nil))
abbrev Nx16 : List Str := ["loop","sure","turns","rows","on_cells","touched","spans"]
abbrev Qx16 : List Str := ["loop"]
theorem sc_x16 : FnScope Nx16 Qx16 (defScope (top 34)) := mkSc
theorem ok_x16 (F : Fun K "reach" "reach" (top 34) f fd) (T : Txt K mg) {f_x3 : Addr} (D_x3 : DefV P w K mg base "place_of" 1 Qx3 [] F_place_of f_x3) {f_x7 : Addr} (D_x7 : DefV P w K mg base "writes" 1 Qx7 [] F_writes f_x7) {f_x8 : Addr} (D_x8 : DefV P w K mg base "place_in" 1 Qx8 [] F_place_in f_x8) {f_x15 : Addr} (D_x15 : DefV P w K mg base "check_loop" 8 Qx15 [] F_check_loop f_x15) :
  FnOk P w K mg base CX0 9 f fd Qx16 (spV K [] 1 F_reach) :=
 okW P w K mg base Nx16 Qx16 8 g_reach [] F sc_x16 fun _ _ _ _ _ _ hr hu hu1 => by
  refine (vss_cons ?_ (vss_cons ?_ (vss_cons ?_ (vss_cons ?_ (vss_cons ?_ (vss_one ?_))))))
  ·exact (vs_expr (vcal D_x15 hr (vga_e (vv 0) vga_nil)))
  ·exact (vs_asg (vv 0) (vg_tup (K := K) rfl rfl (vgs_cons (vg_name (i := 1) sc_x16.nd rfl (Or.inl rfl)) (vgs_cons (vg_name (i := 2) sc_x16.nd rfl (Or.inl rfl)) (vgs_cons (vg_name (i := 3) sc_x16.nd rfl (Or.inl rfl)) vgs_nil)))))
  ·exact (vs_set (i := 4) sc_x16.nd rfl (Or.inr rfl) (vx_va (ve_new (vn_comp (N := Nx16) (sc := (defScope (top 34))) (N' := ["row"]) (ix := []) (nl := 1) rfl ⟨rfl,by decide +kernel,by decide +kernel,by decide +kernel,by decide +kernel,by decide +kernel,by decide +kernel⟩ rfl rfl rfl (by decide) (vi_seq rfl (vv 3)) (fun cl s1 H1 fp => ⟨(vg_name (i := 0) (show (["row"] : List Str).Nodup by decide +kernel) rfl (Or.inl rfl)),(vb_one (vt_cmp op_notN s_notN (vcal D_x3 hr (vga_e (vv 0) vga_nil)) ve_non (nomark _))),(vv 0)⟩)))))
  ·exact (vs_set (i := 5) sc_x16.nd rfl (Or.inr rfl) (vx_va (ve_new (vn_comp3 (N' := ["on_cells","turn","row"]) (ix := [4]) (nl := 2) rfl rfl (by rfl) rfl (by decide) (vi_range1 (by rfl) T.n_range (vv 2)) (fun cl s1 H1 fp => ⟨(vg_name (i := 1) (show (["on_cells","turn","row"] : List Str).Nodup by decide +kernel) rfl (Or.inl rfl)),vb_nil,(vi_seq rfl (vv 0)),(vg_name (i := 2) (show (["on_cells","turn","row"] : List Str).Nodup by decide +kernel) rfl (Or.inl rfl)),vb_nil,(ve_free (ve_tup (va_cons (vv 1) (va_cons (vcal D_x8 hr (vga_e (ve_free (vix hu1 (vv 2) ve_int)) (vga_e (vv 1) vga_nil))) (va_cons (vcal D_x7 hr (vga_e (vv 2) vga_nil)) va_nil)))))⟩)))))
  ·exact (vs_setC3 (i := 6) false sc_x16.nd rfl rfl (N' := ["touched","turn","place","written","later","other","rewritten"]) (ix := [5]) (nl := 6) rfl rfl (by rfl) rfl (by decide) (vi_seq rfl (vv 5)) (fun cl s1 H1 fp => ⟨(vg_tup (K := K) rfl rfl (vgs_cons (vg_name (i := 1) (show (["touched","turn","place","written","later","other","rewritten"] : List Str).Nodup by decide +kernel) rfl (Or.inl rfl)) (vgs_cons (vg_name (i := 2) (show (["touched","turn","place","written","later","other","rewritten"] : List Str).Nodup by decide +kernel) rfl (Or.inl rfl)) (vgs_cons (vg_name (i := 3) (show (["touched","turn","place","written","later","other","rewritten"] : List Str).Nodup by decide +kernel) rfl (Or.inl rfl)) vgs_nil)))),vb_nil,(vi_seq rfl (vv 0)),(vg_tup (K := K) rfl rfl (vgs_cons (vg_name (i := 4) (show (["touched","turn","place","written","later","other","rewritten"] : List Str).Nodup by decide +kernel) rfl (Or.inl rfl)) (vgs_cons (vg_name (i := 5) (show (["touched","turn","place","written","later","other","rewritten"] : List Str).Nodup by decide +kernel) rfl (Or.inl rfl)) (vgs_cons (vg_name (i := 6) (show (["touched","turn","place","written","later","other","rewritten"] : List Str).Nodup by decide +kernel) rfl (Or.inl rfl)) vgs_nil)))),(vb_one (vt_w (vw_and (vt_cmp op_gt s_gt (vv 4) (vv 1) (nomark _)) (vw_and (vteq hu (vv 5) (vv 2)) (vw_and1 (vt_w (vw_or (vt_val (vv 3)) (vw_or1 (vt_val (vv 6)))))))))),(ve_free (ve_op op_sub s_sub (vv 4) (vv 1)))⟩))
  ·exact (vs_ret (ve_minN rfl rfl (by rfl) T.n_min bt_min (vv 6)))
abbrev Nx17 : List Str := ["_law_script","_law_k","_law_rest","_law_again"]
abbrev Qx17 : List Str := ["_law_script","_law_k"]
theorem sc_x17 : FnScope Nx17 Qx17 (defScope (top 36)) := mkSc
theorem ok_x17 (F : Fun K "_law_cell_at" "_law_cell_at" (top 36) f fd) (T : Txt K mg)  :
  FnOk P w K mg base CX0 1 f fd Qx17 (spV K [] 2 F_law_cell_at) :=
 okW P w K mg base Nx17 Qx17 0 g_law_cell_at [] F sc_x17 fun _ _ _ _ _ _ hr hu hu1 => by
  refine (vss_cons ?_ (vss_cons ?_ (vss_cons ?_ (vss_cons ?_ (vss_one ?_)))))
  ·exact (vs_if (vt_cmp op_lt s_lt (vv 1) (vlen T.n_len (vv 0)) (nomark _))
   (vss_one (vs_ret (vix hu1 (vv 0) (vv 1))))
   vss_nil)
  ·exact (vs_if (vteq hu (vv 0) (ve_new (vn_lst (va_free va_nil))))
   (vss_one (vs_ret ve_int))
   vss_nil)
  ·exact (vs_set (i := 2) sc_x17.nd rfl (Or.inl rfl) (vx_va (ve_free (vix hu1 (vv 0) (ve_op op_mod s_mod (vv 1) (vlen T.n_len (vv 0)))))))
  ·exact (vs_for PassesOwn.never rfl (vi_range1 (by rfl) T.n_range (ve_B2 (call_min2 rfl) s_min (by rfl) T.n_min bt_min (ve_op op_fdiv s_fdiv (vv 1) (vlen T.n_len (vv 0))) ve_int)) (vg_name (i := 3) sc_x17.nd rfl (Or.inl rfl))
   (vss_one (vs_set (i := 2) sc_x17.nd rfl (Or.inl rfl) (vx_va (ve_free (ve_op op_fdiv s_fdiv (vv 2) ve_int))))))
  ·exact (vs_ret (ve_opC (kPlus (K := K) rfl) c_plus (ve_opC (kPlus (K := K) rfl) c_plus (ve_opC (kTimes (K := K) rfl) c_times (vix hu1 (vv 0) (ve_op op_mod s_mod (vv 1) (vlen T.n_len (vv 0)))) ve_int) (vv 1)) (ve_opC (kTimes (K := K) rfl) c_times (vv 2) ve_int)))
abbrev Nx18 : List Str := ["_law_script","_law_k","_law_bound","_law_drawn"]
abbrev Qx18 : List Str := ["_law_script","_law_k","_law_bound"]
theorem sc_x18 : FnScope Nx18 Qx18 (defScope (top 37)) := mkSc
theorem ok_x18 (F : Fun K "_law_mixed" "_law_mixed" (top 37) f fd) (T : Txt K mg) {f_x17 : Addr} (D_x17 : DefV P w K mg base "_law_cell_at" 1 Qx17 [] F_law_cell_at f_x17) :
  FnOk P w K mg base CX0 2 f fd Qx18 (spV K [] 3 F_law_mixed) :=
 okW P w K mg base Nx18 Qx18 1 g_law_mixed [] F sc_x18 fun _ _ _ _ _ _ hr hu hu1 => by
  refine (vss_cons ?_ (vss_one ?_))
  ·exact (vs_set (i := 3) sc_x18.nd rfl (Or.inl rfl) (vx_va (ve_free (ve_op op_mod s_mod (ve_opC (kPlus (K := K) rfl) c_plus (ve_opC (kPlus (K := K) rfl) c_plus (ve_opC (kTimes (K := K) rfl) c_times (vcal D_x17 hr (vga_e (vv 0) (vga_e (vv 1) vga_nil))) ve_int) (ve_opC (kTimes (K := K) rfl) c_times ve_int (vv 1))) ve_int) ve_int))))
  ·exact (vs_ret (ve_op op_mod s_mod (ve_op op_mod s_mod (ve_op op_mod s_mod (ve_op op_pow s_pow (vv 3) ve_int) ve_int) ve_int) (vv 2)))
abbrev Nx19 : List Str := ["_law_script","_law_town","_law_bound"]
abbrev Qx19 : List Str := ["_law_script","_law_town","_law_bound"]
theorem sc_x19 : FnScope Nx19 Qx19 (defScope (top 38)) := mkSc
theorem ok_x19 (F : Fun K "_law_draw" "_law_draw" (top 38) f fd) (T : Txt K mg) {f_x18 : Addr} (D_x18 : DefV P w K mg base "_law_mixed" 2 Qx18 [] F_law_mixed f_x18) :
  FnOk P w K mg base CX0 3 f fd Qx19 (spV K [1] 3 F_law_draw) :=
 okW P w K mg base Nx19 Qx19 2 g_law_draw [1] F sc_x19 fun _ _ _ _ _ _ hr hu hu1 => by
  refine (vss_cons ?_ (vss_one ?_))
  ·exact (vs_mut (K := K) rfl PySem.F.slot_list_append PySem.F.type_list_append mt_append mu_app (pv 1) (va_free (va_cons ve_int va_nil)))
  ·exact (vs_ret (vcal D_x18 hr (vga_e (vv 0) (vga_e (ve_free (vlen T.n_len (vo 1))) (vga_e (vv 2) vga_nil)))))
abbrev Nx20 : List Str := ["_law_script","_law_town","_law_some"]
abbrev Qx20 : List Str := ["_law_script","_law_town","_law_some"]
theorem sc_x20 : FnScope Nx20 Qx20 (defScope (top 39)) := mkSc
theorem ok_x20 (F : Fun K "_law_pick" "_law_pick" (top 39) f fd) (T : Txt K mg) {f_x19 : Addr} (D_x19 : DefV P w K mg base "_law_draw" 3 Qx19 [1] F_law_draw f_x19) :
  FnOk P w K mg base CX0 4 f fd Qx20 (spV K [1] 3 F_law_pick) :=
 okW P w K mg base Nx20 Qx20 3 g_law_pick [1] F sc_x20 fun _ _ _ _ _ _ hr hu hu1 => by
  exact (vss_one (vs_ret (vix hu1 (vv 2) (vcal D_x19 hr (vga_e (vv 0) (vga_o (pv 1) (vga_e (ve_free (vlen T.n_len (vv 2))) vga_nil)))))))
abbrev Nx21 : List Str := ["_law_got","_law_due"]
abbrev Qx21 : List Str := ["_law_got","_law_due"]
theorem sc_x21 : FnScope Nx21 Qx21 (defScope (top 40)) := mkSc
theorem ok_x21 (F : Fun K "_law_same_number" "_law_same_number" (top 40) f fd) (T : Txt K mg)  :
  FnOk P w K mg base CX0 1 f fd Qx21 (spV K [] 2 F_law_same_number) :=
 okW P w K mg base Nx21 Qx21 0 g_law_same_number [] F sc_x21 fun _ _ _ _ _ _ hr hu hu1 => by
  exact (vss_one (vs_ret (ve_and (visi T.n_isinstance (vv 0) (vty T.n_int bt_int)) (ve_and (ve_not (visi T.n_isinstance (vv 0) (vty T.n_bool bt_bool))) (ve_one (veq hu (vv 0) (vv 1)))))))
abbrev Nx22 : List Str := ["_law_script","_law_town","_law_seen","_law_deed","_law_room"]
abbrev Qx22 : List Str := ["_law_script","_law_town","_law_seen","_law_deed","_law_room"]
theorem sc_x22 : FnScope Nx22 Qx22 (defScope (top 41)) := mkSc
theorem ok_x22 (F : Fun K "_law_place" "_law_place" (top 41) f fd) (T : Txt K mg) {f_x19 : Addr} (D_x19 : DefV P w K mg base "_law_draw" 3 Qx19 [1] F_law_draw f_x19) {f_x20 : Addr} (D_x20 : DefV P w K mg base "_law_pick" 4 Qx20 [1] F_law_pick f_x20) :
  FnOk P w K mg base CX0 5 f fd Qx22 (spV K [1,2] 5 F_law_place) :=
 okW P w K mg base Nx22 Qx22 4 g_law_place [1,2] F sc_x22 fun _ _ _ _ _ _ hr hu hu1 => by
  refine (vss_cons ?_ (vss_one ?_))
  ·exact (vs_dput hu1 (pv 2) (vv 3) (ve_free (ve_op op_mod s_mod (ve_opC (kPlus (K := K) rfl) c_plus (ve_dget2 hu1 (pv 2) (vv 3) (ve_free (vcal D_x19 hr (vga_e (vv 0) (vga_o (pv 1) (vga_e (vv 4) vga_nil))))) ⟨rfl,rfl,rfl,rfl⟩) (vcal D_x20 hr (vga_e (vv 0) (vga_o (pv 1) (vga_e (ve_new (vn_lst (va_free (va_cons ve_int (va_cons ve_int (va_cons ve_int (va_cons ve_int (va_cons ve_int va_nil)))))))) vga_nil))))) (vv 4))) rfl)
  ·exact (vs_ret (vix hu1 (vo 2) (vv 3)))
abbrev Nx23 : List Str := ["_law_script","_law_town","_law_made","_law_seen","_law_room","_law_kind","_law_a","_law_b","_law_c"]
abbrev Qx23 : List Str := ["_law_script","_law_town","_law_made","_law_seen","_law_room"]
theorem sc_x23 : FnScope Nx23 Qx23 (defScope (top 42)) := mkSc
theorem ok_x23 (F : Fun K "_law_row" "_law_row" (top 42) f fd) (T : Txt K mg) {f_x19 : Addr} (D_x19 : DefV P w K mg base "_law_draw" 3 Qx19 [1] F_law_draw f_x19) {f_x20 : Addr} (D_x20 : DefV P w K mg base "_law_pick" 4 Qx20 [1] F_law_pick f_x20) {f_x22 : Addr} (D_x22 : DefV P w K mg base "_law_place" 5 Qx22 [1,2] F_law_place f_x22) :
  FnOk P w K mg base CX0 6 f fd Qx23 (spV K [1,3] 5 F_law_row) :=
 okW P w K mg base Nx23 Qx23 5 g_law_row [1,3] F sc_x23 fun _ _ _ _ _ _ hr hu hu1 => by
  refine (vss_cons ?_ (vss_cons ?_ (vss_cons ?_ (vss_cons ?_ (vss_cons ?_ (vss_cons ?_ (vss_cons ?_ (vss_cons ?_ (vss_one ?_)))))))))
  ·exact (vs_set (i := 5) sc_x23.nd rfl (Or.inl rfl) (vx_va (ve_free (vcal D_x19 hr (vga_e (vv 0) (vga_o (pv 1) (vga_e ve_int vga_nil)))))))
  ·exact (vs_if (vt_w (vw_or (vteq hu (vv 2) (ve_new (vn_lst (va_free va_nil)))) (vw_or1 (vteq hu (vv 5) ve_int))))
   (vss_cons (vs_if (vteq hu (vcal D_x19 hr (vga_e (vv 0) (vga_o (pv 1) (vga_e ve_int vga_nil)))) ve_int)
   (vss_one (vs_ret (ve_tup (va_cons ve_str (va_cons (vcal D_x20 hr (vga_e (vv 0) (vga_o (pv 1) (vga_e (ve_new (vn_lst (va_free (va_cons ve_int (va_cons ve_int (va_cons ve_int (va_cons ve_int (va_cons ve_int (va_cons (vcal D_x19 hr (vga_e (vv 0) (vga_o (pv 1) (vga_e ve_int vga_nil)))) va_nil))))))))) vga_nil)))) va_nil)))))
   vss_nil)
   (vss_one (vs_ret (ve_tup (va_cons ve_str (va_cons (vcal D_x22 hr (vga_e (vv 0) (vga_o (pv 1) (vga_o (pv 3) (vga_e ve_str (vga_e (vv 4) vga_nil)))))) va_nil))))))
   vss_nil)
  ·exact (vs_asg (ve_new (vn_comp (N := Nx23) (sc := (defScope (top 42))) (N' := ["_law_script","_law_town","_law_made","_law_k"]) (ix := [0,1,2]) (nl := 1) rfl ⟨rfl,by decide +kernel,by decide +kernel,by decide +kernel,by decide +kernel,by decide +kernel,by decide +kernel⟩ rfl rfl rfl (by decide) (vi_range1 (by rfl) T.n_range ve_int) (fun cl s1 H1 fp => ⟨(vg_name (i := 3) (show (["_law_script","_law_town","_law_made","_law_k"] : List Str).Nodup by decide +kernel) rfl (Or.inl rfl)),vb_nil,(ve_free (vix hu1 (vv 2) (ve_B2 (call_max2 rfl) s_max (by rfl) T.n_max bt_max ve_int (ve_op op_sub s_sub (ve_op op_sub s_sub (vlen T.n_len (vv 2)) ve_int) (vcal D_x19 hr (vga_e (vv 0) (vga_o (pv 1) (vga_e ve_int vga_nil))))))))⟩))) (vg_tup (K := K) rfl rfl (vgs_cons (vg_name (i := 6) sc_x23.nd rfl (Or.inl rfl)) (vgs_cons (vg_name (i := 7) sc_x23.nd rfl (Or.inl rfl)) (vgs_cons (vg_name (i := 8) sc_x23.nd rfl (Or.inl rfl)) vgs_nil)))))
  ·exact (vs_if (vt_cmp (kInD (K := K) rfl hu) (s_inD (neg := false)) (vv 5) (ve_tup (va_cons ve_int (va_cons ve_int va_nil))) (by with_unfolding_all rfl))
   (vss_one (vs_ret (ve_tup (va_cons ve_str (va_cons (vcal D_x22 hr (vga_e (vv 0) (vga_o (pv 1) (vga_o (pv 3) (vga_e ve_str (vga_e (vv 4) vga_nil)))))) va_nil)))))
   vss_nil)
  ·exact (vs_if (vteq hu (vv 5) ve_int)
   (vss_one (vs_ret (ve_tup (va_cons ve_str (va_cons (vcal D_x22 hr (vga_e (vv 0) (vga_o (pv 1) (vga_o (pv 3) (vga_e ve_str (vga_e (vv 4) vga_nil)))))) (va_cons (vv 8) (va_cons (vv 6) va_nil)))))))
   vss_nil)
  ·exact (vs_if (vt_cmp (kInD (K := K) rfl hu) (s_inD (neg := false)) (vv 5) (ve_tup (va_cons ve_int (va_cons ve_int va_nil))) (by with_unfolding_all rfl))
   (vss_one (vs_ret (ve_tup (va_cons ve_str (va_cons (vcal D_x22 hr (vga_e (vv 0) (vga_o (pv 1) (vga_o (pv 3) (vga_e ve_str (vga_e (vv 4) vga_nil)))))) (va_cons (vv 6) va_nil))))))
   vss_nil)
  ·exact (vs_if (vteq hu (vv 5) ve_int)
   (vss_one (vs_ret (ve_tup (va_cons ve_str (va_cons (vcal D_x22 hr (vga_e (vv 0) (vga_o (pv 1) (vga_o (pv 3) (vga_e ve_str (vga_e (vv 4) vga_nil)))))) (va_cons (vv 6) (va_cons (vv 8) va_nil)))))))
   vss_nil)
  ·exact (vs_if (vteq hu (vv 5) ve_int)
   (vss_one (vs_ret (ve_tup (va_cons ve_str (va_cons (vv 8) (va_cons (vv 6) (va_cons (vv 7) va_nil)))))))
   vss_nil)
  ·exact (vs_ret (ve_tup (va_cons (vix hu1 (ve_new (vn_lst (va_free (va_cons ve_str (va_cons ve_str (va_cons ve_str (va_cons ve_str (va_cons ve_str (va_cons ve_str (va_cons ve_str va_nil)))))))))) (vcal D_x19 hr (vga_e (vv 0) (vga_o (pv 1) (vga_e ve_int vga_nil))))) (va_cons (vv 6) (va_cons (vv 7) va_nil)))))
abbrev Nx24 : List Str := ["_law_script","_law_town","_law_turns","_law_rows","_law_made","_law_seen","_law_again","_law_row_here","_law_more","_law_base","_law_at"]
abbrev Qx24 : List Str := ["_law_script","_law_town"]
theorem sc_x24 : FnScope Nx24 Qx24 (defScope (top 43)) := mkSc
theorem ok_x24 (F : Fun K "_law_loop" "_law_loop" (top 43) f fd) (T : Txt K mg) {f_x19 : Addr} (D_x19 : DefV P w K mg base "_law_draw" 3 Qx19 [1] F_law_draw f_x19) {f_x20 : Addr} (D_x20 : DefV P w K mg base "_law_pick" 4 Qx20 [1] F_law_pick f_x20) {f_x23 : Addr} (D_x23 : DefV P w K mg base "_law_row" 6 Qx23 [1,3] F_law_row f_x23) :
  FnOk P w K mg base CX0 7 f fd Qx24 (spV K [1] 2 F_law_loop) :=
 okW P w K mg base Nx24 Qx24 6 g_law_loop [1] F sc_x24 fun _ _ _ _ _ _ hr hu hu1 => by
  refine (vss_cons ?_ (vss_cons ?_ (vss_cons ?_ (vss_one ?_))))
  ·exact (vs_tup4 (i := 2) (j := 3) (k := 4) (l := 5) rfl rfl sc_x24.nd rfl rfl rfl rfl (by decide) (Or.inl rfl) (Or.inl rfl) (Or.inl rfl) (Or.inl rfl) (vx_va (ve_free (ve_opC (kPlus (K := K) rfl) c_plus ve_int (vcal D_x19 hr (vga_e (vv 0) (vga_o (pv 1) (vga_e ve_int vga_nil))))))) (vx_ow (vn_lst (va_free va_nil))) (vx_ow (vn_lst (va_free va_nil))) (vx_ow vn_dict0))
  ·exact (vs_for PassesOwn.never rfl (vi_range1 (by rfl) T.n_range (ve_opC (kPlus (K := K) rfl) c_plus ve_int (vcal D_x19 hr (vga_e (vv 0) (vga_o (pv 1) (vga_e ve_int vga_nil)))))) (vg_name (i := 6) sc_x24.nd rfl (Or.inl rfl))
   (vss_cons (vs_if (vteq hu (vcal D_x19 hr (vga_e (vv 0) (vga_o (pv 1) (vga_e ve_int vga_nil)))) ve_int)
   (vss_one (vs_mut (K := K) rfl PySem.F.slot_list_append PySem.F.type_list_append mt_append mu_app (pv 3) (va_free (va_cons (ve_tup (va_cons ve_str (va_cons ve_int (va_cons (vcal D_x19 hr (vga_e (vv 0) (vga_o (pv 1) (vga_e (ve_free (vcal D_x20 hr (vga_e (vv 0) (vga_o (pv 1) (vga_e (ve_new (vn_lst (va_free (va_cons ve_int (va_cons ve_int va_nil))))) vga_nil))))) vga_nil)))) va_nil)))) va_nil))))
   (vss_cons (vs_set (i := 7) sc_x24.nd rfl (Or.inl rfl) (vx_va (ve_free (vcal D_x23 hr (vga_e (vv 0) (vga_o (pv 1) (vga_o (pv 4) (vga_o (pv 5) (vga_e ve_int vga_nil)))))))))
   (vss_cons (vs_if (vt_cmp (kInD (K := K) rfl hu) (s_inD (neg := false)) (vix hu1 (vv 7) ve_int) (ve_tup (va_cons ve_str (va_cons ve_str (va_cons ve_str (va_cons ve_str va_nil))))) (by with_unfolding_all rfl))
   (vss_cons (vs_set (i := 8) sc_x24.nd rfl (Or.inl rfl) (vx_va (ve_free (vcal D_x20 hr (vga_e (vv 0) (vga_o (pv 1) (vga_e (ve_new (vn_lst (va_free (va_cons ve_int (va_cons ve_int (va_cons ve_int (va_cons ve_int (va_cons ve_int (va_cons (ve_neg ve_int) (va_cons ve_int va_nil)))))))))) vga_nil)))))))
   (vss_cons (vs_set (i := 9) sc_x24.nd rfl (Or.inl rfl) (vx_va (ve_free (ve_opC (kPlus (K := K) rfl) c_plus (vix hu1 (vv 7) ve_int) (vcal D_x20 hr (vga_e (vv 0) (vga_o (pv 1) (vga_e (ve_new (vn_lst (va_free (va_cons ve_int (va_cons ve_int (va_cons ve_int (va_cons ve_int va_nil))))))) vga_nil))))))))
   (vss_cons (vs_if (vt_not (vt_chain op_le op_le s_le s_le ve_int (ve_opC (kPlus (K := K) rfl) c_plus (vv 9) (ve_opC (kTimes (K := K) rfl) c_times (vv 8) (ve_op op_sub s_sub (vv 2) ve_int))) ve_int))
   (vss_one (vs_set (i := 8) sc_x24.nd rfl (Or.inl rfl) (vx_va ve_int)))
   vss_nil)
   (vss_one (vs_set (i := 7) sc_x24.nd rfl (Or.inl rfl) (vx_va (ve_free (ve_opC (kPlus (K := K) rfl) c_plus (ve_tup (va_cons (vix hu1 (vv 7) ve_int) (va_cons (ve_tup (va_cons (vv 9) (va_cons (vv 8) va_nil))) va_nil))) (ve_sl rfl (vv 7) (vp_so ve_int) vp_no)))))))))
   vss_nil)
   (vss_one (vs_mut (K := K) rfl PySem.F.slot_list_append PySem.F.type_list_append mt_append mu_app (pv 3) (va_free (va_cons (vv 7) va_nil)))))))
   (vss_one (vs_if (vt_cmp (kNotInD (K := K) rfl hu) (s_inD (neg := true)) (vix hu1 (vix hu1 (vo 3) (ve_neg ve_int)) ve_int) (ve_tup (va_cons ve_str (va_cons ve_str va_nil))) (by with_unfolding_all rfl))
   (vss_one (vs_mut (K := K) rfl PySem.F.slot_list_append PySem.F.type_list_append mt_append mu_app (pv 4) (va_free (va_cons (ve_op op_sub s_sub (vlen T.n_len (vo 3)) ve_int) va_nil))))
   vss_nil))))
  ·exact (vs_for PassesOwn.never rfl (vi_enum rfl (by rfl) T.n_enumerate (ve_new (vn_T1 (kListC (K := K) rfl) n_list (by rfl) T.n_list bt_list (ve_in (vo 3))))) (vg_tup (K := K) rfl rfl (vgs_cons (vg_name (i := 10) sc_x24.nd rfl (Or.inl rfl)) (vgs_cons (vg_name (i := 7) sc_x24.nd rfl (Or.inl rfl)) vgs_nil)))
   (vss_one (vs_if (vteq hu (vix hu1 (vv 7) ve_int) ve_str)
   (vss_one (vs_put rfl (pv 3) (vv 10) (ve_free (ve_tup (va_cons ve_str (va_cons (vcal D_x20 hr (vga_e (vv 0) (vga_o (pv 1) (vga_o (pv 4) vga_nil)))) (va_cons (vix hu1 (vv 7) ve_int) va_nil)))))))
   vss_nil)))
  ·exact (vs_ret (ve_tup (va_cons (vcal D_x20 hr (vga_e (vv 0) (vga_o (pv 1) (vga_e (ve_new (vn_lst (va_free (va_cons ve_int (va_cons ve_int (va_cons ve_int (va_cons ve_int va_nil))))))) vga_nil)))) (va_cons (vv 2) (va_cons (ve_T1 (kTupleC (K := K) rfl) c_tuple (by rfl) T.n_tuple bt_tuple (vo 3)) va_nil)))))
abbrev Nx25 : List Str := ["_law_row_here","_law_turn"]
abbrev Qx25 : List Str := ["_law_row_here","_law_turn"]
theorem sc_x25 : FnScope Nx25 Qx25 (defScope (top 44)) := mkSc
theorem ok_x25 (F : Fun K "_law_at_turn" "_law_at_turn" (top 44) f fd) (T : Txt K mg)  :
  FnOk P w K mg base CX0 1 f fd Qx25 (spV K [] 2 F_law_at_turn) :=
 okW P w K mg base Nx25 Qx25 0 g_law_at_turn [] F sc_x25 fun _ _ _ _ _ _ hr hu hu1 => by
  refine (vss_cons ?_ (vss_one ?_))
  ·exact (vs_if (vt_cmp (kNotInD (K := K) rfl hu) (s_inD (neg := true)) (vix hu1 (vv 0) ve_int) (ve_tup (va_cons ve_str (va_cons ve_str (va_cons ve_str (va_cons ve_str va_nil))))) (by with_unfolding_all rfl))
   (vss_one (vs_ret (vv 0)))
   vss_nil)
  ·exact (vs_ret (ve_opC (kPlus (K := K) rfl) c_plus (ve_tup (va_cons (vix hu1 (vv 0) ve_int) (va_cons (ve_opC (kPlus (K := K) rfl) c_plus (vix hu1 (vix hu1 (vv 0) ve_int) ve_int) (ve_opC (kTimes (K := K) rfl) c_times (vix hu1 (vix hu1 (vv 0) ve_int) ve_int) (vv 1))) va_nil))) (ve_sl rfl (vv 0) (vp_so ve_int) vp_no)))
abbrev Nx26 : List Str := ["_law_script","_law_town","_law_loop_here","_law_found","_law_one","_law_two","_law_here","_law_there","_law_same","_law_told"]
abbrev Qx26 : List Str := ["_law_script"]
theorem sc_x26 : FnScope Nx26 Qx26 (defScope (top 45)) := mkSc
theorem ok_x26 (F : Fun K "law" "law" (top 45) f fd) (T : Txt K mg) {f_x16 : Addr} (D_x16 : DefV P w K mg base "reach" 9 Qx16 [] F_reach f_x16) {f_x21 : Addr} (D_x21 : DefV P w K mg base "_law_same_number" 1 Qx21 [] F_law_same_number f_x21) {f_x24 : Addr} (D_x24 : DefV P w K mg base "_law_loop" 7 Qx24 [1] F_law_loop f_x24) {f_x25 : Addr} (D_x25 : DefV P w K mg base "_law_at_turn" 1 Qx25 [] F_law_at_turn f_x25) :
  FnOk P w K mg base CX0 10 f fd Qx26 (spV K [] 1 F_law) :=
 okW P w K mg base Nx26 Qx26 9 g_law [] F sc_x26 fun _ _ _ _ _ _ hr hu hu1 => by
  refine (vss_cons ?_ (vss_cons ?_ (vss_cons ?_ (vss_cons ?_ (vss_cons ?_ (vss_one ?_))))))
  ·exact (vs_set (i := 1) sc_x26.nd rfl (Or.inl rfl) (vx_ow (vn_lst (va_free va_nil))))
  ·exact (vs_set (i := 2) sc_x26.nd rfl (Or.inl rfl) (vx_va (ve_free (vcal D_x24 hr (vga_e (vv 0) (vga_o (pv 1) vga_nil))))))
  ·exact (vs_set (i := 3) sc_x26.nd rfl (Or.inl rfl) (vx_ow (vn_lst (va_free va_nil))))
  ·exact (vs_for PassesOwn.never rfl (vi_range1 (by rfl) T.n_range (vix hu1 (vv 2) ve_int)) (vg_name (i := 4) sc_x26.nd rfl (Or.inl rfl))
   (vss_one (vs_for PassesOwn.never rfl (vi_range2 (by rfl) T.n_range (ve_opC (kPlus (K := K) rfl) c_plus (vv 4) ve_int) (vix hu1 (vv 2) ve_int)) (vg_name (i := 5) sc_x26.nd rfl (Or.inl rfl))
   (vss_one (vs_for PassesOwn.never rfl (vi_seq rfl (ve_free (vix hu1 (vv 2) ve_int))) (vg_name (i := 6) sc_x26.nd rfl (Or.inl rfl))
   (vss_one (vs_for PassesOwn.never rfl (vi_seq rfl (ve_free (vix hu1 (vv 2) ve_int))) (vg_name (i := 7) sc_x26.nd rfl (Or.inl rfl))
   (vss_one (vs_if (vt_w (vw_and (vt_cmp (kInD (K := K) rfl hu) (s_inD (neg := false)) (vix hu1 (vv 6) ve_int) (ve_tup (va_cons ve_str (va_cons ve_str (va_cons ve_str (va_cons ve_str va_nil))))) (by with_unfolding_all rfl)) (vw_and1 (vt_cmp (kInD (K := K) rfl hu) (s_inD (neg := false)) (vix hu1 (vv 7) ve_int) (ve_tup (va_cons ve_str (va_cons ve_str (va_cons ve_str (va_cons ve_str va_nil))))) (by with_unfolding_all rfl)))))
   (vss_cons (vs_set (i := 8) sc_x26.nd rfl (Or.inl rfl) (vx_va (ve_free (veq hu (vix hu1 (vcal D_x25 hr (vga_e (vv 6) (vga_e (vv 4) vga_nil))) ve_int) (vix hu1 (vcal D_x25 hr (vga_e (vv 7) (vga_e (vv 5) vga_nil))) ve_int)))))
   (vss_one (vs_if (vt_w (vw_and (vt_val (vv 8)) (vw_and1 (vt_w (vw_or (vt_cmp (kInD (K := K) rfl hu) (s_inD (neg := false)) (vix hu1 (vv 6) ve_int) (ve_tup (va_cons ve_str (va_cons ve_str va_nil))) (by with_unfolding_all rfl)) (vw_or1 (vt_cmp (kInD (K := K) rfl hu) (s_inD (neg := false)) (vix hu1 (vv 7) ve_int) (ve_tup (va_cons ve_str (va_cons ve_str va_nil))) (by with_unfolding_all rfl))))))))
   (vss_one (vs_mut (K := K) rfl PySem.F.slot_list_append PySem.F.type_list_append mt_append mu_app (pv 3) (va_free (va_cons (ve_op op_sub s_sub (vv 5) (vv 4)) va_nil))))
   vss_nil)))
   vss_nil)))))))))
  ·exact (vs_set (i := 9) sc_x26.nd rfl (Or.inl rfl) (vx_va (ve_free (vcal D_x16 hr (vga_e (vv 2) vga_nil)))))
  ·exact (vs_ret (ve_if (vteq hu (vo 3) (ve_new (vn_lst (va_free va_nil)))) (ve_cmp op_isN s_isN (vv 9) ve_non (nomark _)) (vcal D_x21 hr (vga_e (vv 9) (vga_e (ve_free (ve_B1 (kMinL (K := K) rfl rfl) s_best (by rfl) T.n_min bt_min (vo 3))) vga_nil)))))
end
end RR
namespace L2
open PySem
theorem lit_inj (a b : String) : Str.ofString a = Str.ofString b ↔ a = b := by
 refine ⟨fun h => ?_,fun h => by rw [h]⟩
 rw [Str.ofString_eq_toList,Str.ofString_eq_toList] at h
 injection h with h
 have h2 : a.toList.map Char.toNat = b.toList.map Char.toNat := by simpa using h
 have h3 : a.toList = b.toList := by
  have inj : ∀ (l m : List Char),l.map Char.toNat = m.map Char.toNat -> l = m := by
   intro l
   induction l with
   | nil => intro m h;cases m with
    | nil => rfl
    | cons => cases h
   | cons c l ih => intro m h;cases m with
    | nil => cases h
    | cons e m =>
     simp only [List.map_cons,List.cons.injEq] at h
     rw [ih m h.2,Char.toNat_inj.mp h.1]
  exact inj _ _ h2
 exact String.toList_inj.mp h3
theorem strOk_lit (a : String) : PyData.strOk (Str.ofString a) = true := by
 unfold PyData.strOk
 rw [Str.ofString_eq_toList]
 simp only [List.all_toArray,List.all_map,List.all_eq_true,Function.comp,decide_eq_true_eq]
 intro c _
 have := c.valid
 rcases this with h | ⟨_,h⟩
 ·show c.val.toNat < 1114112
  have : c.val.toNat < 55296 := h
  omega
 ·exact h
def okk (k : Nat) (d : Dat) : Prop := d.isD = true /\ d.pd.canLay0 = true /\ d.pd.depth <= k
theorem okk_int {k : Nat} {i : Int} : okk k (.int i) := ⟨rfl,rfl,Nat.zero_le _⟩
theorem okk_lit {k : Nat} {a : String} : okk k (.str (Str.ofString a)) := ⟨rfl,by simp [Dat.pd,PyData.canLay0,strOk_lit],Nat.zero_le _⟩
theorem okk_all {k : Nat} : ∀ {ds : List Dat},(∀ d ∈ ds,okk k d) -> isDs ds = true /\ PyData.canLayAll0 (pds ds) = true /\ PyData.depthAll (pds ds) <= k
 | [],_ => ⟨rfl,rfl,Nat.zero_le _⟩
 | d :: ds,h => by
  obtain ⟨a1,a2,a3⟩ := h d List.mem_cons_self
  obtain ⟨b1,b2,b3⟩ := okk_all fun e he => h e (List.mem_cons_of_mem _ he)
  refine ⟨by simp [isDs,a1,b1],by simp [pds,PyData.canLayAll0,a2,b2],?_⟩
  simp only [pds,PyData.depthAll]
  omega
theorem okk_tup {k : Nat} {ds : List Dat} (h : ∀ d ∈ ds,okk k d) : okk (k + 1) (.tup ds) := by
 obtain ⟨a,b,c⟩ := okk_all h
 exact ⟨by simpa [Dat.isD] using a,by simpa [Dat.pd,PyData.canLay0] using b,by simp only [Dat.pd,PyData.depth];omega⟩
theorem okk.ok {k : Nat} {d : Dat} (h : okk k d) (hk : k <= 64 := by decide) : okD d = true := by
 unfold okD SeqAt.shaped
 simp only [h.1,h.2.1,Bool.true_and,Bool.and_eq_true,decide_eq_true_eq]
 have := h.2.2
 omega
@[simp] theorem okD_lit {a : String} : okD (.str (Str.ofString a)) = true := (okk_lit (k := 0)).ok
theorem okk_nil {k : Nat} : ∀ d ∈ ([] : List Dat),okk k d := fun _ h => nomatch h
theorem okk_cons {k : Nat} {d : Dat} {ds : List Dat} (h : okk k d) (t : ∀ d ∈ ds,okk k d) : ∀ e ∈ d :: ds,okk k e := fun e he => by
 rcases List.mem_cons.mp he with z | z
 ·rw [z];exact h
 ·exact t e z
@[simp] theorem eqD_ii {i j : Int} : eqD (.int i) (.int j) = decide (i = j) := by show (i == j) = _;rw [Bool.beq_eq_decide_eq]
@[simp] theorem eqD_ss {a b : String} : eqD (.str (Str.ofString a)) (.str (Str.ofString b)) = decide (a = b) := by
 show (Str.ofString a == Str.ofString b) = _
 rw [Bool.beq_eq_decide_eq]
 simp only [lit_inj]
@[simp] theorem oEq_ii {i j : Int} : oEq (.int i) (.int j) = some (.bl (decide (i = j))) := by unfold oEq;simp
@[simp] theorem oNe_ii {i j : Int} : oNe (.int i) (.int j) = some (.bl (!decide (i = j))) := by unfold oNe;simp
@[simp] theorem oEq_ss {a b : String} : oEq (.str (Str.ofString a)) (.str (Str.ofString b)) = some (.bl (decide (a = b))) := by unfold oEq;simp
theorem oIn_k {j k : Nat} {neg : Bool} {d : Dat} {ds : List Dat} (h : okk j d) (h' : ∀ e ∈ ds,okk k e) (hj : j <= 64 := by decide) (hk : k + 1 <= 64 := by decide) : oInD neg d (.tup ds) = some (.bl (if neg then !inE d ds else inE d ds)) := by
 unfold oInD
 simp [h.ok hj,(okk_tup h').ok hk]
@[simp] theorem inE_n {d : Dat} : inE d [] = false := (rfl)
@[simp] theorem inE_c {d e : Dat} {ds : List Dat} : inE d (e :: ds) = (eqD e d || inE d ds) := (rfl)
@[simp] theorem in_s2 {neg : Bool} {a b c : String} : oInD neg (.str (Str.ofString a)) (.tup [.str (Str.ofString b),.str (Str.ofString c)]) = some (.bl (if neg then !(decide (b = a) || decide (c = a)) else decide (b = a) || decide (c = a))) := by
 rw [oIn_k (j := 0) okk_lit (okk_cons (okk_lit (k := 0)) (okk_cons okk_lit okk_nil))]
 simp
@[simp] theorem in_s4 {neg : Bool} {a b c d e : String} : oInD neg (.str (Str.ofString a)) (.tup [.str (Str.ofString b),.str (Str.ofString c),.str (Str.ofString d),.str (Str.ofString e)]) = some (.bl (if neg then !(decide (b = a) || (decide (c = a) || (decide (d = a) || decide (e = a)))) else decide (b = a) || (decide (c = a) || (decide (d = a) || decide (e = a))))) := by
 rw [oIn_k (j := 0) okk_lit (okk_cons (okk_lit (k := 0)) (okk_cons okk_lit (okk_cons okk_lit (okk_cons okk_lit okk_nil))))]
 simp
@[simp] theorem in_i2 {neg : Bool} {a b c : Int} : oInD neg (.int a) (.tup [.int b,.int c]) = some (.bl (if neg then !(decide (b = a) || decide (c = a)) else decide (b = a) || decide (c = a))) := by
 rw [oIn_k (j := 0) okk_int (okk_cons (okk_int (k := 0)) (okk_cons okk_int okk_nil))]
 simp
end L2
namespace L2
open PySem
def Scp (ns : List Int) : Dat := .lst (ns.map .int)
def Twn (n : Nat) : Dat := .lst (List.replicate n (.int 0))
theorem isDs_ints : ∀ ns : List Int,isDs (ns.map Dat.int) = true
 | [] => rfl
 | n :: ns => by simp [isDs,Dat.isD,isDs_ints ns]
theorem pds_ints : ∀ ns : List Int,pds (ns.map Dat.int) = ns.map PyData.int
 | [] => rfl
 | n :: ns => by simp [pds,Dat.pd,pds_ints ns]
theorem okD_ints (ns : List Int) : okD (.lst (ns.map .int)) = true := by
 unfold okD
 simp only [Dat.isD,isDs_ints,Dat.pd,pds_ints,Bool.true_and]
 exact shaped_ints ns
theorem eq_nil (ns : List Int) : oEq (.lst (ns.map .int)) (.lst []) = some (.bl ns.isEmpty) := by
 unfold oEq
 rw [okD_ints,show okD (.lst []) = true from by decide +kernel]
 cases ns <;> rfl
theorem hards_rep : ∀ n : Nat,hards (List.replicate n (.int 0)) = true
 | 0 => rfl
 | n + 1 => by simp [List.replicate_succ,hards,Dat.hard,hards_rep n]
@[simp] theorem kids_twn (n : Nat) : kidsHard (Twn n) = true := hards_rep n
theorem cell_loop : ∀ (ds : List Dat) (a b : Dat) (r : Int) (s : Sl),∃ r' s',forV (gN 3) (sSet 2 (xV (f2 oFdiv (fV 2) (fC (.int 1000003))))) ds [.va a,.va b,.va (.int r),s] = some (.nx [.va a,.va b,.va (.int r'),s'])
 | [],a,b,r,s => ⟨r,s,rfl⟩
 | d :: ds,a,b,r,s => by
  obtain ⟨r',s',h⟩ := cell_loop ds a b (r / 1000003) (.va d)
  exact ⟨r',s',by simp [cDiv,h]⟩
theorem ints_at {ns : List Int} {i : Int} (h0 : 0 <= i) (h1 : i < ns.length) : ∃ r ∈ ns,atI (ns.map Dat.int) i = some (.int r) := by
 obtain ⟨x,hx,e⟩ := atI_ex (xs := ns.map Dat.int) h0 (by simpa using h1)
 obtain ⟨r,hr,rfl⟩ := List.mem_map.mp hx
 exact ⟨r,hr,e⟩
theorem cell_ex (ns : List Int) (k : Nat) (hl : ns.length <= 63) (hk : k < 1000000) : ∃ r,F_law_cell_at [Scp ns,.int k] = some (.int r,[]) := by
 unfold F_law_cell_at
 rw [runV_e]
 unfold g_law_cell_at Scp
 by_cases h : (k : Int) < ns.length
 ·obtain ⟨r,_,e⟩ := ints_at (ns := ns) (i := k) (by omega) h
  exact ⟨r,by simp [envD,h,e]⟩
 ·cases ns with
  | nil =>
   have h0 : ¬ ((k : Int) < 0) := by omega
   have e : oEq (.lst []) (.lst []) = some (.bl true) := eq_nil []
   exact ⟨0,by simp [envD,h0,e]⟩
  | cons m ms =>
   generalize hns : m :: ms = ns at *
   have hpos : (0 : Int) < ns.length := by rw [<- hns];simp
   have hb := Int.emod_nonneg (k : Int) (show (ns.length : Int) ≠ 0 by omega)
   have hb2 := Int.emod_lt_of_pos (k : Int) hpos
   obtain ⟨r,_,e⟩ := ints_at (ns := ns) hb hb2
   have he : ns.isEmpty = false := by rw [<- hns];rfl
   have hq : 0 <= (k : Int) / ns.length := Int.ediv_nonneg (by omega) (by omega)
   have hm : -4611686018427387904 <= (if (60 : Int) < (k : Int) / ns.length then 60 else (k : Int) / ns.length) /\ (if (60 : Int) < (k : Int) / ns.length then 60 else (k : Int) / ns.length) < 4611686018427387904 := by
    split <;> omega
   obtain ⟨r',s',e2⟩ := cell_loop (rngD 0 (if (60 : Int) < (k : Int) / ns.length then 60 else (k : Int) / ns.length).toNat) (.lst (ns.map .int)) (.int k) r .no
   have hp2 : 0 < ns.length := by omega
   have hp3 : (ns.length : Int) < 1073741824 := by omega
   exact ⟨r * 31 + k + r' * 101,by simp [envD,h,eq_nil,he,hpos,hp2,hp3,e,cDiv,hm,e2,cMul]⟩
noncomputable def cel (ns : List Int) (k : Nat) : Int := match F_law_cell_at [Scp ns,.int k] with
 | some (.int r,_) => r
 | _ => 0
theorem cel_eq (ns : List Int) (k : Nat) (hl : ns.length <= 63) (hk : k < 1000000) : F_law_cell_at [Scp ns,.int k] = some (.int (cel ns k),[]) := by
 obtain ⟨r,e⟩ := cell_ex ns k hl hk
 unfold cel
 rw [e]
noncomputable def drw (ns : List Int) (n : Nat) (b : Int) : Int := ((cel ns (n + 1) * 1103515245 + 7919 * (((n + 1 : Nat)) : Int) + 12345) % 2147483647) ^ 5 % 2147483647 % 999983 % b
theorem drw_0 (ns : List Int) (n : Nat) {b : Int} (h : 0 < b) : 0 <= drw ns n b := Int.emod_nonneg _ (by omega)
theorem drw_1 (ns : List Int) (n : Nat) {b : Int} (h : 0 < b) : drw ns n b < b := Int.emod_lt_of_pos _ h
theorem mix_eq (ns : List Int) (n : Nat) (b : Int) (hl : ns.length <= 63) (hn : n < 900000) (hb : 0 < b) : F_law_mixed [Scp ns,.int ((n + 1 : Nat) : Int),.int b] = some (.int (drw ns n b),[]) := by
 have e := cel_eq ns (n + 1) hl (by omega)
 unfold F_law_mixed
 rw [runV_e]
 unfold g_law_mixed drw
 have e1 := Int.emod_nonneg (cel ns (n + 1) * 1103515245 + 7919 * ((n + 1 : Nat) : Int) + 12345) (show (2147483647 : Int) ≠ 0 by decide)
 have e2 := Int.emod_lt_of_pos (cel ns (n + 1) * 1103515245 + 7919 * ((n + 1 : Nat) : Int) + 12345) (show (0 : Int) < 2147483647 by decide)
 generalize hz : (cel ns (n + 1) * 1103515245 + 7919 * ((n + 1 : Nat) : Int) + 12345) % 2147483647 = z at *
 have hz2 : z.natAbs < 18446744073709551616 := by omega
 generalize hk : ((n + 1 : Nat) : Int) = k at *
 simp [envD,e,cMul,cPow,hz,hz2,hb]
theorem draw_eq (ns : List Int) (n : Nat) (b : Int) (hl : ns.length <= 63) (hn : n < 900000) (hb : 0 < b) : F_law_draw [Scp ns,Twn n,.int b] = some (.int (drw ns n b),[Twn (n + 1)]) := by
 have e := mix_eq ns n b hl hn hb
 unfold F_law_draw
 rw [runV_e]
 unfold g_law_draw
 have ht : Twn n = .lst (List.replicate n (.int 0)) := rfl
 have ht2 : Twn (n + 1) = .lst (List.replicate n (.int 0) ++ [.int 0]) := by unfold Twn;rw [List.replicate_succ']
 rw [ht2,ht]
 have hs : n < 16777216 := by omega
 push_cast at e
 simp [envD,hs,e]
theorem pick_eq (ns : List Int) (n : Nat) (xs : List Dat) (hl : ns.length <= 63) (hn : n < 900000) (hx : 0 < xs.length) : ∃ x ∈ xs,F_law_pick [Scp ns,Twn n,.lst xs] = some (x,[Twn (n + 1)]) := by
 have hx' : (0 : Int) < xs.length := by omega
 obtain ⟨x,hm,e⟩ := atI_ex (xs := xs) (drw_0 ns n hx') (drw_1 ns n hx')
 refine ⟨x,hm,?_⟩
 unfold F_law_pick
 rw [runV_e]
 unfold g_law_pick
 simp [envD,draw_eq ns n _ hl hn hx',e]
end L2
namespace L2
open PySem
def Seen (n : Nat) (d : Dat) : Prop := ∃ (ks : List Key) (vs : List Int),d = .dct ks (vs.map .int) /\ ks.length = vs.length /\ ks.Nodup /\ ks.length <= n
theorem Seen.mono {n m : Nat} {d : Dat} (h : Seen n d) (hn : n <= m) : Seen m d := by
 obtain ⟨ks,vs,h1,h2,h3,h4⟩ := h
 exact ⟨ks,vs,h1,h2,h3,by omega⟩
theorem lookI : ∀ (ks : List Key) (vs : List Int) (k : Key) (q : Int),∃ r,(lookK ks (vs.map .int) k).getD (.int q) = .int r
 | [],_,_,q => ⟨q,by simp [lookK]⟩
 | _ :: _,[],_,q => ⟨q,by simp [lookK]⟩
 | k' :: ks,v :: vs,k,q => by
  by_cases h : k' = k
  ·exact ⟨v,by simp [lookK,h]⟩
  ·obtain ⟨r,e⟩ := lookI ks vs k q
   exact ⟨r,by simp only [List.map_cons,lookK,if_neg h];exact e⟩
theorem putI : ∀ (ks : List Key) (vs : List Int) (k : Key) (p : Int),ks.length = vs.length -> ks.Nodup -> ∃ (ks' : List Key) (vs' : List Int),putKD ks (vs.map .int) k (.int p) = (ks',vs'.map .int) /\ ks'.length = vs'.length /\ ks'.Nodup /\ ks'.length <= ks.length + 1 /\ (∀ z ∈ ks',z = k ∨ z ∈ ks) /\ lookK ks' (vs'.map .int) k = some (.int p)
 | [],[],k,p,_,_ => ⟨[k],[p],by simp [putKD],rfl,by simp,by simp,by simp,by simp [lookK]⟩
 | k' :: ks,v :: vs,k,p,hl,hn => by
  by_cases h : k' = k
  ·subst h
   exact ⟨k' :: ks,p :: vs,by simp [putKD],by simpa using hl,hn,by simp,by simp,by simp [lookK]⟩
  ·obtain ⟨ks',vs',e,h1,h2,h3,h4,h5⟩ := putI ks vs k p (by simpa using hl) (List.nodup_cons.mp hn).2
   refine ⟨k' :: ks',v :: vs',by simp only [List.map_cons,putKD,if_neg h,e],by simp [h1],?_,by simp;omega,?_,by simp only [List.map_cons,lookK,if_neg h];exact h5⟩
   ·refine List.nodup_cons.mpr ⟨fun z => ?_,h2⟩
    rcases h4 _ z with y | y
    ·exact h y
    ·exact (List.nodup_cons.mp hn).1 y
   ·intro z hz
    rcases List.mem_cons.mp hz with y | y
    ·exact .inr (by rw [y];exact List.mem_cons_self)
    ·exact (h4 z y).imp id (List.mem_cons_of_mem _)
theorem place_eq (ns : List Int) (n : Nat) (sn : Dat) (x : Str) (room : Int) (hl : ns.length <= 63) (hn : n < 800000) (hs : Seen n sn) (hr : 0 < room) :
  ∃ p sn',0 <= p /\ p < room /\ Seen (n + 2) sn' /\ F_law_place [Scp ns,Twn n,sn,.str x,.int room] = some (.int p,[Twn (n + 2),sn']) := by
 obtain ⟨ks,vs,rfl,h1,h2,h3⟩ := hs
 obtain ⟨a,ha⟩ := lookI ks vs (.inr x) (drw ns n room)
 obtain ⟨y,hy,ey⟩ := pick_eq ns (n + 1) [.int 1,.int 1,.int 1,.int 0,.int 3] hl (by omega) (by simp)
 obtain ⟨b,rfl⟩ : ∃ b,y = .int b := by
  simp only [List.mem_cons,List.not_mem_nil,or_false] at hy
  rcases hy with h | h | h | h | h <;> exact ⟨_,h⟩
 obtain ⟨ks',vs',e,h4,h5,h6,h7,h8⟩ := putI ks vs (.inr x) ((a + b) % room) h1 h2
 refine ⟨(a + b) % room,.dct ks' (vs'.map .int),Int.emod_nonneg _ (by omega),Int.emod_lt_of_pos _ hr,⟨ks',vs',rfl,h4,h5,by omega⟩,?_⟩
 have hk : ks.length < 16777216 := by omega
 unfold F_law_place
 rw [runV_e]
 unfold g_law_place
 simp [envD,draw_eq ns n room hl (by omega) hr,ha,ey,hr,hk,h2,e,h8]
inductive RowOK (M : Int -> Prop) : Dat -> Prop
 | number {n : Int} : 0 <= n -> n <= 999 -> RowOK M (.tup [.str "number",.int n])
 | two {x : String} {a b : Int} : x ∈ ["over","plus","minus","times","least","most","less"] -> M a -> M b -> RowOK M (.tup [.str x,.int a,.int b])
 | pick {c a b : Int} : M c -> M a -> M b -> RowOK M (.tup [.str "pick",.int c,.int a,.int b])
 | load {p : Int} : 0 <= p -> p <= 63 -> RowOK M (.tup [.str "load",.int p])
 | take {p c a : Int} : 0 <= p -> p <= 63 -> M c -> M a -> RowOK M (.tup [.str "take",.int p,.int c,.int a])
 | store {p a : Int} : 0 <= p -> p <= 63 -> M a -> RowOK M (.tup [.str "store",.int p,.int a])
 | put {p a c : Int} : 0 <= p -> p <= 63 -> M a -> M c -> RowOK M (.tup [.str "put",.int p,.int a,.int c])
theorem three_eq (ns : List Int) (n : Nat) (made : List Int) (hl : ns.length <= 63) (hn : n < 800000) (hm : 0 < made.length) (s : Sl) : ∃ a b c,a ∈ made /\ b ∈ made /\ c ∈ made ∧
  compV 3 1 (gN 3) bYes (f2 oIxA (fV 2) (f2 oMax (fC (.int 0)) (f2 oSub (f2 oSub (f1 oLen (fV 2)) (fC (.int 1))) (fCall 3 [1] F_law_draw (aE (fV 0) (aO 1 (aE (fC (.int 6)) aNil))))))) [.int 0,.int 1,.int 2] [] [.va (Scp ns),.ow (Twn n),.va (.lst (made.map .int))] =
   some ([.int a,.int b,.int c],[.va (Scp ns),.ow (Twn (n + 3)),.va (.lst (made.map .int))]) := by
 have one : ∀ m,∃ a ∈ made,atI (made.map Dat.int) (if (made.length : Int) - 1 - drw ns m 6 > 0 then (made.length : Int) - 1 - drw ns m 6 else 0) = some (.int a) := fun m => by
  have := drw_0 ns m (b := 6) (by decide)
  exact ints_at (by split <;> omega) (by split <;> omega)
 obtain ⟨a,ha,ea⟩ := one n
 obtain ⟨b,hb,eb⟩ := one (n + 1)
 obtain ⟨c,hc,ec⟩ := one (n + 2)
 refine ⟨a,b,c,ha,hb,hc,?_⟩
 have d0 := draw_eq ns n 6 hl (by omega) (by decide)
 have d1 := draw_eq ns (n + 1) 6 hl (by omega) (by decide)
 have d2 := draw_eq ns (n + 2) 6 hl (by omega) (by decide)
 simp only [gt_iff_lt,Int.sub_pos] at ea eb ec
 simp [d0,d1,d2,ea,eb,ec]
end L2
namespace L2
open PySem
def onC (x : String) : Prop := x = "load" ∨ x = "take" ∨ x = "store" ∨ x = "put"
def PlOK (room : Int) (row : Dat) : Prop := ∀ (x : String) (p : Int) (t : List Dat),row = .tup (.str x :: .int p :: t) -> onC x -> p < room
theorem pl_cell {room p : Int} {x : String} {t : List Dat} (h : p < room) : PlOK room (.tup (.str x :: .int p :: t)) := fun y q u e _ => by
 simp only [Dat.tup.injEq,List.cons.injEq,Dat.int.injEq] at e
 omega
theorem pl_off {room : Int} {x : String} {t : List Dat} (h : ¬ onC x) : PlOK room (.tup (.str x :: t)) := fun y q u e hy => by
 simp only [Dat.tup.injEq,List.cons.injEq,Dat.str.injEq,lit_inj] at e
 rw [<- e.1] at hy
 exact absurd hy h
theorem two_off {x : String} (hx : x ∈ ["over","plus","minus","times","least","most","less"]) : ¬ onC x := fun h => by
 simp only [List.mem_cons,List.not_mem_nil,or_false] at hx
 rcases hx with rfl | rfl | rfl | rfl | rfl | rfl | rfl <;> rcases h with h | h | h | h <;> exact absurd h (by decide)
theorem row_eq (ns : List Int) (n : Nat) (made : List Int) (sn : Dat) (room : Int) (hl : ns.length <= 63) (hn : n < 700000) (hs : Seen n sn) (hr : 0 < room) (hr2 : room <= 64) :
    ∃ row n' sn',n <= n' /\ n' <= n + 10 /\ Seen n' sn' /\ RowOK (· ∈ made) row /\ PlOK room row /\ F_law_row [Scp ns,Twn n,.lst (made.map .int),sn,.int room] = some (row,[Twn n',sn']) := by
  have d0 := draw_eq ns n 13 hl (by omega) (by decide)
  have k0 := drw_0 ns n (b := 13) (by decide)
  have k1 := drw_1 ns n (b := 13) (by decide)
  generalize drw ns n 13 = kd at *
  unfold F_law_row
  rw [runV_e]
  unfold g_law_row
  by_cases h0 : made.isEmpty = true ∨ kd = 0
  · have d1 := draw_eq ns (n + 1) 2 hl (by omega) (by decide)
    have hor : made.isEmpty = true ∨ (made.isEmpty = false /\ kd = 0) := by
      cases hm : made.isEmpty with
      | true => exact .inl rfl
      | false => rcases h0 with h | h
                 · rw [hm] at h;cases h
                 · exact .inr ⟨rfl,h⟩
    by_cases h2 : drw ns (n + 1) 2 = 0
    · have d2 := draw_eq ns (n + 2) 1000 hl (by omega) (by decide)
      obtain ⟨y,hy,ey⟩ := pick_eq ns (n + 3) [.int 0,.int 1,.int 2,.int 5,.int 999,.int (drw ns (n + 2) 1000)] hl (by omega) (by simp)
      obtain ⟨b,rfl,hb0,hb1⟩ : ∃ b,y = .int b /\ 0 <= b /\ b <= 999 := by
        have := drw_0 ns (n + 2) (b := 1000) (by decide)
        have := drw_1 ns (n + 2) (b := 1000) (by decide)
        simp only [List.mem_cons,List.not_mem_nil,or_false] at hy
        rcases hy with h | h | h | h | h | h <;> exact ⟨_,h,by omega,by omega⟩
      refine ⟨.tup [.str "number",.int b],n + 4,sn,by omega,by omega,hs.mono (by omega),.number hb0 hb1,pl_off (by unfold onC;decide),?_⟩
      rcases hor with h | ⟨h,h'⟩
      · simp [envD,d0,eq_nil,h,d1,h2,d2,ey]
      · simp [envD,d0,eq_nil,h,h',d1,h2,d2,ey]
    · obtain ⟨p,sn',p0,p1,hs',ep⟩ := place_eq ns (n + 2) sn "load" room hl (by omega) (hs.mono (by omega)) hr
      refine ⟨.tup [.str "load",.int p],n + 4,sn',by omega,by omega,hs',.load p0 (by omega),pl_cell p1,?_⟩
      rcases hor with h | ⟨h,h'⟩
      · simp [envD,d0,eq_nil,h,d1,h2,ep]
      · simp [envD,d0,eq_nil,h,h',d1,h2,ep]
  · obtain ⟨hm,hkd⟩ := not_or.mp h0
    have hm' : made.isEmpty = false := by simpa using hm
    have hpos : 0 < made.length := by
      cases made with
      | nil => cases hm'
      | cons => simp
    obtain ⟨a,b,c,ha,hb,hc,e3⟩ := three_eq ns (n + 1) made hl (by omega) hpos .no
    have hcase : (kd = 1 ∨ kd = 2) ∨ kd = 3 ∨ (kd = 4 ∨ kd = 5) ∨ kd = 6 ∨ kd = 7 ∨ (8 <= kd /\ kd <= 12) := by omega
    have pl : ∀ x : Str,∃ p sn',0 <= p /\ p <= 63 /\ p < room /\ Seen (n + 6) sn' /\ F_law_place [Scp ns,Twn (n + 4),sn,.str x,.int room] = some (.int p,[Twn (n + 6),sn']) := fun x => by
      obtain ⟨p,sn',p0,p1,hs',ep⟩ := place_eq ns (n + 4) sn x room hl (by omega) (hs.mono (by omega)) hr
      exact ⟨p,sn',p0,by omega,p1,hs',ep⟩
    rcases hcase with h | h | h | h | h | h
    · have t12 : (decide (1 = kd) || decide (2 = kd)) = true := by rcases h with rfl | rfl <;> decide
      obtain ⟨p,sn',p0,p1,p2,hs',ep⟩ := pl "load"
      exact ⟨.tup [.str "load",.int p],n + 6,sn',by omega,by omega,hs',.load p0 p1,pl_cell p2,by simp [envD,d0,eq_nil,hm',hkd,capsD,e3,ep,t12]⟩
    · subst h
      obtain ⟨p,sn',p0,p1,p2,hs',ep⟩ := pl "take"
      exact ⟨.tup [.str "take",.int p,.int c,.int a],n + 6,sn',by omega,by omega,hs',.take p0 p1 hc ha,pl_cell p2,by simp [envD,d0,eq_nil,hm',capsD,e3,ep]⟩
    · have t45 : (decide (4 = kd) || decide (5 = kd)) = true := by rcases h with rfl | rfl <;> decide
      have n3 : ¬ kd = 3 := by omega
      have m1 : ¬ 1 = kd := by omega
      have m2 : ¬ 2 = kd := by omega
      obtain ⟨p,sn',p0,p1,p2,hs',ep⟩ := pl "store"
      exact ⟨.tup [.str "store",.int p,.int a],n + 6,sn',by omega,by omega,hs',.store p0 p1 ha,pl_cell p2,by simp [envD,d0,eq_nil,hm',hkd,capsD,e3,ep,n3,m1,m2,t45]⟩
    · subst h
      obtain ⟨p,sn',p0,p1,p2,hs',ep⟩ := pl "put"
      exact ⟨.tup [.str "put",.int p,.int a,.int c],n + 6,sn',by omega,by omega,hs',.put p0 p1 ha hc,pl_cell p2,by simp [envD,d0,eq_nil,hm',capsD,e3,ep]⟩
    · subst h
      exact ⟨.tup [.str "pick",.int c,.int a,.int b],n + 4,sn,by omega,by omega,hs.mono (by omega),.pick hc ha hb,pl_off (by unfold onC;decide),by simp [envD,d0,eq_nil,hm',capsD,e3]⟩
    · have d4 := draw_eq ns (n + 4) 7 hl (by omega) (by decide)
      have q0 := drw_0 ns (n + 4) (b := 7) (by decide)
      have q1 := drw_1 ns (n + 4) (b := 7) (by decide)
      obtain ⟨y,hy,ey⟩ := atI_ex (xs := ["over","plus","minus","times","least","most","less"].map fun s : String => Dat.str (Str.ofString s)) q0 (by simpa using q1)
      obtain ⟨x,hx,rfl⟩ := List.mem_map.mp hy
      simp only [List.map_cons,List.map_nil] at ey
      have n1 : ¬ kd = 1 := by omega
      have n2 : ¬ kd = 2 := by omega
      have n3 : ¬ kd = 3 := by omega
      have n4 : ¬ kd = 4 := by omega
      have n5 : ¬ kd = 5 := by omega
      have n6 : ¬ kd = 6 := by omega
      have n7 : ¬ kd = 7 := by omega
      have m1 : ¬ 1 = kd := by omega
      have m2 : ¬ 2 = kd := by omega
      have m4 : ¬ 4 = kd := by omega
      have m5 : ¬ 5 = kd := by omega
      exact ⟨.tup [.str x,.int a,.int b],n + 5,sn,by omega,by omega,hs.mono (by omega),.two hx ha hb,pl_off (two_off hx),by simp [envD,d0,eq_nil,hm',hkd,capsD,e3,n3,n6,n7,m1,m2,m4,m5,d4,ey]⟩
end L2
namespace L2
open PySem
inductive Kd where
 | w | p | n
 deriving DecidableEq
def Nm (kds : List Kd) (k : Kd) (a : Int) : Prop := 0 <= a /\ kds[a.toNat]? = some k
theorem Nm.lt {kds : List Kd} {k : Kd} {a : Int} (h : Nm kds k a) : a < kds.length := by
 have := (List.getElem?_eq_some_iff.mp h.2).1
 have := h.1
 omega
theorem Nm.snoc {kds : List Kd} {k j : Kd} {a : Int} (h : Nm kds k a) : Nm (kds ++ [j]) k a := ⟨h.1,by rw [List.getElem?_append_left (List.getElem?_eq_some_iff.mp h.2).1];exact h.2⟩
theorem Nm.new {kds : List Kd} {k : Kd} : Nm (kds ++ [k]) k kds.length := ⟨by omega,by simp⟩
def mk1 (k : Kd) : Dat -> Kd
 | .tup (.str x :: _) => if x = "store" ∨ x = "put" then .n else k
 | _ => .n
theorem RowOK.imp {M M' : Int -> Prop} {row : Dat} (h : RowOK M row) (f : ∀ a,M a -> M' a) : RowOK M' row := by
 cases h with
 | number a b => exact .number a b
 | two a b c => exact .two a (f _ b) (f _ c)
 | pick a b c => exact .pick (f _ a) (f _ b) (f _ c)
 | load a b => exact .load a b
 | take a b c d => exact .take a b (f _ c) (f _ d)
 | store a b c => exact .store a b (f _ c)
 | put a b c d => exact .put a b (f _ c) (f _ d)
theorem RowOK.hard {M : Int -> Prop} {row : Dat} (h : RowOK M row) : row.hard = true := by
 cases h <;> simp [Dat.hard,hards]
end L2
namespace L2
open PySem
@[simp] theorem oNeg_i {i : Int} : oNeg (.int i) = some (.int (-i)) := (rfl)
theorem cutD_from {ds : List Dat} {k : Nat} (h : k <= ds.length) : cutD ds (some (k : Int)) none = ds.drop k := by
 unfold cutD
 rw [HT.sIx_nat,HT.sIx_none,Nat.min_eq_left h,List.take_of_length_le (by simp)]
@[simp] theorem cutD_2 {d e : Dat} {ds : List Dat} : cutD (d :: e :: ds) (some 2) none = ds := cutD_from (k := 2) (by simp)
@[simp] theorem atI_lst {α : Type} {xs : List α} {x : α} : atI (xs ++ [x]) (-1) = some x := by
 unfold atI ixN
 rw [if_neg (by decide),if_pos (by simp;omega)]
 have e : (-1 + ((xs ++ [x]).length : Int)).toNat = xs.length := by simp;omega
 show (xs ++ [x])[(-1 + ((xs ++ [x]).length : Int)).toNat]? = some x
 rw [e]
 simp
@[simp] theorem atI_0 {α : Type} {x : α} {xs : List α} : atI (x :: xs) 0 = some x := by rw [atI_in (by decide) (by simp)];rfl
@[simp] theorem atI_1 {α : Type} {x y : α} {xs : List α} : atI (x :: y :: xs) 1 = some y := by rw [atI_in (by decide) (by simp;omega)];rfl
@[simp] theorem atI_2 {α : Type} {x y z : α} {xs : List α} : atI (x :: y :: z :: xs) 2 = some z := by rw [atI_in (by decide) (by simp;omega)];rfl
theorem mk1_k {k : Kd} {x : String} {t : List Dat} (hx : x ∉ ["store","put"]) : mk1 k (.tup (.str x :: t)) = k := by
 simp only [List.mem_cons,List.not_mem_nil,or_false,not_or] at hx
 simp [mk1,lit_inj,hx]
end L2
namespace L2
open PySem
@[simp] theorem whole_eq (n lo hi : Int) : F_is_whole [.int n,.int lo,.int hi] = some (.bl (decide (lo <= n) && decide (n <= hi)),[]) := by
 unfold F_is_whole
 rw [runV_e]
 unfold g_is_whole
 simp [envD]
 by_cases h : lo <= n <;> simp [h]
theorem parts_two {x : String} (h : x ∈ ["over","plus","minus","times","least","most","less"]) : F_parts_of [.str x] = some (.tup [.str "row",.str "row"],[]) := by
 simp only [List.mem_cons,List.not_mem_nil,or_false] at h
 rcases h with rfl | rfl | rfl | rfl | rfl | rfl | rfl <;> kernel_rfl
@[simp] theorem parts_1 : F_parts_of [.str "number"] = some (.tup [.str "word"],[]) := by kernel_rfl
@[simp] theorem parts_2 : F_parts_of [.str "pick"] = some (.tup [.str "row",.str "row",.str "row"],[]) := by kernel_rfl
@[simp] theorem parts_3 : F_parts_of [.str "load"] = some (.tup [.str "place"],[]) := by kernel_rfl
@[simp] theorem parts_4 : F_parts_of [.str "take"] = some (.tup [.str "place",.str "row",.str "row"],[]) := by kernel_rfl
@[simp] theorem parts_5 : F_parts_of [.str "store"] = some (.tup [.str "place",.str "row"],[]) := by kernel_rfl
@[simp] theorem parts_6 : F_parts_of [.str "put"] = some (.tup [.str "place",.str "row",.str "row"],[]) := by kernel_rfl
def Ab (able : List Bool) (a : Int) : Prop := 0 <= a /\ able[a.toNat]? = some true
theorem may_eq {able : List Bool} {a : Int} (h : Ab able a) : F_may_name [.int a,.lst (able.map .bl)] = some (.bl true,[]) := by
 have hlt := (List.getElem?_eq_some_iff.mp h.2).1
 have h0 := h.1
 have h1 : a <= (able.length : Int) - 1 := by omega
 have h2 : atI (able.map Dat.bl) a = some (.bl true) := by
  rw [atI_in h0 (by simp;omega)]
  simp [h.2]
 unfold F_may_name
 rw [runV_e]
 unfold g_may_name
 simp [envD,h0,h1,h2]
theorem fits_row {able : List Bool} {a : Int} (h : Ab able a) : F_fits [.str "row",.int a,.lst (able.map .bl)] = some (.bl true,[]) := by
 unfold F_fits
 rw [runV_e]
 unfold g_fits
 simp [envD,may_eq h]
theorem fits_word {d : Dat} {a : Int} (h : 0 <= a) (h' : a <= 999) : F_fits [.str "word",.int a,d] = some (.bl true,[]) := by
 unfold F_fits
 rw [runV_e]
 unfold g_fits
 simp [envD,c_MOST_WORD,h,h']
theorem fits_place {d : Dat} {a : Int} (h : 0 <= a) (h' : a <= 63) : F_fits [.str "place",.int a,d] = some (.bl true,[]) := by
 unfold F_fits
 rw [runV_e]
 unfold g_fits
 simp [envD,c_MOST_PLACE,h,h']
@[simp] theorem blsD_n : blsD [] = some [] := (rfl)
@[simp] theorem blsD_c {b : Bool} {ds : List Dat} : blsD (.bl b :: ds) = (blsD ds).map fun ks => b :: ks := (rfl)
@[simp] theorem oAllB_e {g : List Bool -> Bool} {ds : List Dat} : oAllB g (.lst ds) = (blsD ds).map fun ks => .bl (g ks) := (rfl)
@[simp] theorem zipD_n2 {ds : List Dat} : zipD ds [] = [] := by cases ds <;> rfl
@[simp] theorem zipD_c {d e : Dat} {ds es : List Dat} : zipD (d :: ds) (e :: es) = .tup [d,e] :: zipD ds es := (rfl)
theorem isrow_eq {able : List Bool} {row : Dat} (h : RowOK (Ab able) row) : F_is_row [row,.lst (able.map .bl)] = some (.bl true,[]) := by
 unfold F_is_row
 rw [runV_e]
 unfold g_is_row
 cases h with
 | number a b => simp [envD,capsD,fits_word a b]
 | two hx a b => simp [envD,capsD,parts_two hx,fits_row a,fits_row b]
 | pick a b c => simp [envD,capsD,fits_row a,fits_row b,fits_row c]
 | load a b => simp [envD,capsD,fits_place a b]
 | take a b c d => simp [envD,capsD,fits_place a b,fits_row c,fits_row d]
 | store a b c => simp [envD,capsD,fits_place a b,fits_row c]
 | put a b c d => simp [envD,capsD,fits_place a b,fits_row c,fits_row d]
end L2
namespace L2
open PySem
theorem bls_true {α : Type} : ∀ ds : List α,blsD (ds.map fun _ => .bl true) = some (ds.map fun _ => true)
 | [] => rfl
 | d :: ds => by simp [bls_true ds]
end L2
namespace L2
open PySem
theorem rngD_len (k : Nat) : (rngD 0 k).length = k := by simp [rngD]
def Wd (w : Int) : Prop := 0 <= w /\ w <= 999
theorem dne {x : String} (hx : x ∈ ["over","plus","minus","times","least","most","less"]) {y : String} (hy : (["over","plus","minus","times","least","most","less"].contains y) = false) : (¬ x = y) /\ ¬ y = x := by
 have h : ¬ x = y := fun e => by
  subst e
  rw [List.contains_iff_mem.mpr hx] at hy
  cases hy
 exact ⟨h,fun e => h e.symm⟩
inductive LR (T : Int) (M F : Int -> Prop) : Dat -> Prop
 | plain {x : String} {t : List Dat} : RowOK M (.tup (.str x :: t)) -> ¬ onC x -> ¬ x = "last" -> (x = "number" -> ∃ n,t = [.int n] /\ Wd n) -> LR T M F (.tup (.str x :: t))
 | cell {x : String} {b s : Int} {t : List Dat} : onC x -> 0 <= b -> b <= 63 -> -9 <= s -> s <= 9 -> 0 <= b + s * (T - 1) -> b + s * (T - 1) <= 63 -> t.length <= 3 -> (∀ p,0 <= p -> p <= 63 -> RowOK M (.tup (.str x :: .int p :: t))) -> LR T M F (.tup (.str x :: .tup [.int b,.int s] :: t))
 | last {a w : Int} : F a -> Wd w -> LR T M F (.tup [.str "last",.int a,.int w])
inductive LRs (T : Int) (F : Int -> Prop) : List Kd -> List Dat -> List Kd -> Prop
 | nil {kds : List Kd} : LRs T F kds [] kds
 | cons {kds kds' : List Kd} {row : Dat} {rows : List Dat} : LR T (Nm kds .w) F row -> LRs T F (kds ++ [mk1 .w row]) rows kds' -> LRs T F kds (row :: rows) kds'
theorem LRs.snoc {T : Int} {F : Int -> Prop} {kds kds' : List Kd} {rows : List Dat} {row : Dat} (h : LRs T F kds rows kds') (r : LR T (Nm kds' .w) F row) : LRs T F kds (rows ++ [row]) (kds' ++ [mk1 .w row]) := by
 induction h with
 | nil => exact .cons r .nil
 | cons a _ ih => exact .cons a (ih r)
theorem LRs.len {T : Int} {F : Int -> Prop} {kds kds' : List Kd} {rows : List Dat} (h : LRs T F kds rows kds') : kds'.length = kds.length + rows.length := by
 induction h with
 | nil => simp
 | cons a _ ih => simp at ih ⊢;omega
theorem LRs.all {T : Int} {F : Int -> Prop} : ∀ {kds kds' : List Kd} {rows : List Dat},LRs T F kds rows kds' -> ∀ d ∈ rows,∃ k0,LR T (Nm k0 .w) F d
 | _,_,[],.nil => fun _ h => nomatch h
 | _,_,_ :: _,.cons r t => fun d h => by
  rcases List.mem_cons.mp h with z | z
  ·rw [z];exact ⟨_,r⟩
  ·exact LRs.all t d z
theorem LR.head {T : Int} {M F : Int -> Prop} {row : Dat} (h : LR T M F row) : ∃ (x : String) (t : List Dat),row = .tup (.str x :: t) := by
 cases h with
 | plain => exact ⟨_,_,rfl⟩
 | cell => exact ⟨_,_,rfl⟩
 | last => exact ⟨_,_,rfl⟩
theorem rowok_split {M : Int -> Prop} {row : Dat} (h : RowOK M row) : (∃ (x : String) (t : List Dat),row = .tup (.str x :: t) /\ ¬ onC x /\ ¬ x = "last" /\ (x = "number" -> ∃ n,t = [.int n] /\ Wd n)) ∨
  ∃ (x : String) (p : Int) (t : List Dat),row = .tup (.str x :: .int p :: t) /\ onC x /\ 0 <= p /\ t.length <= 3 /\ ∀ p',0 <= p' -> p' <= 63 -> RowOK M (.tup (.str x :: .int p' :: t)) := by
 cases h with
 | @number n a b => exact .inl ⟨"number",_,rfl,by unfold onC;decide,by decide,fun _ => ⟨n,rfl,a,b⟩⟩
 | @two x a b hx _ _ => exact .inl ⟨x,_,rfl,two_off hx,(dne hx (by decide)).1,fun z => absurd z (dne hx (by decide)).1⟩
 | pick => exact .inl ⟨"pick",_,rfl,by unfold onC;decide,by decide,fun z => absurd z (by decide)⟩
 | load a b => exact .inr ⟨"load",_,_,rfl,.inl rfl,a,by simp,fun p h0 h1 => .load h0 h1⟩
 | take a b c d => exact .inr ⟨"take",_,_,rfl,.inr (.inl rfl),a,by simp,fun p h0 h1 => .take h0 h1 c d⟩
 | store a b c => exact .inr ⟨"store",_,_,rfl,.inr (.inr (.inl rfl)),a,by simp,fun p h0 h1 => .store h0 h1 c⟩
 | put a b c d => exact .inr ⟨"put",_,_,rfl,.inr (.inr (.inr rfl)),a,by simp,fun p h0 h1 => .put h0 h1 c d⟩
theorem off_ne {x : String} (h : ¬ onC x) : ((¬ "load" = x) /\ ¬ "take" = x) /\ (¬ "store" = x) /\ ¬ "put" = x := by
 unfold onC at h
 simp only [not_or] at h
 exact ⟨⟨fun z => h.1 z.symm,fun z => h.2.1 z.symm⟩,fun z => h.2.2.1 z.symm,fun z => h.2.2.2 z.symm⟩
theorem on_ne {x : String} (h : onC x) : (¬ x = "last") /\ ¬ x = "number" := by
 rcases h with rfl | rfl | rfl | rfl <;> exact ⟨by decide,by decide⟩
theorem place_off {x : String} (h : ¬ onC x) {t : List Dat} : F_place_of [.tup (.str x :: t)] = some (.non,[]) := by
 obtain ⟨⟨z1,z2⟩,z3,z4⟩ := off_ne h
 unfold F_place_of;rw [runV_e];unfold g_place_of
 simp [envD,c_READERS,c_WRITERS,z1,z2,z3,z4]
theorem place_on {x : String} (h : onC x) {d : Dat} {t : List Dat} : F_place_of [.tup (.str x :: d :: t)] = some (d,[]) := by
 unfold F_place_of;rw [runV_e];unfold g_place_of
 rcases h with rfl | rfl | rfl | rfl <;> simp [envD,c_READERS,c_WRITERS]
theorem placein_eq {b s j : Int} (hc : cMul s j = true) : F_place_in [.tup [.int b,.int s],.int j] = some (.int (b + s * j),[]) := by
 unfold F_place_in;rw [runV_e];unfold g_place_in
 simp [envD,hc]
theorem inturn_on {x : String} (h : onC x) {b s j : Int} {t : List Dat} (hc : cMul s j = true) (ht : t.length <= 3) : F_in_turn [.tup (.str x :: .tup [.int b,.int s] :: t),.int j] = some (.tup (.str x :: .int (b + s * j) :: t),[]) := by
 have h2 : 2 + t.length <= 16777216 := by omega
 unfold F_in_turn;rw [runV_e];unfold g_in_turn
 simp [envD,place_on h,placein_eq hc,h2]
theorem atturn_on {x : String} (h : onC x) {b s j : Int} {t : List Dat} (hc : cMul s j = true) (ht : t.length <= 3) : F_law_at_turn [.tup (.str x :: .tup [.int b,.int s] :: t),.int j] = some (.tup (.str x :: .int (b + s * j) :: t),[]) := by
 have h2 : 2 + t.length <= 16777216 := by omega
 have h3 : (decide ("load" = x) || (decide ("take" = x) || (decide ("store" = x) || decide ("put" = x)))) = true := by
  rcases h with rfl | rfl | rfl | rfl <;> decide
 unfold F_law_at_turn;rw [runV_e];unfold g_law_at_turn
 simp only [envD]
 simp [h3,hc,h2]
theorem small_mul {s j : Int} (h0 : -9 <= s) (h1 : s <= 9) : cMul s j = true := by
 have : -18446744073709551616 < s /\ s < 18446744073709551616 := by omega
 simp [cMul,this]
theorem enuD_cons (i : Nat) (d : Dat) (ds : List Dat) : enuD i (d :: ds) = .tup [.int i,d] :: enuD (i + 1) ds := rfl
theorem rngD_succ (lo : Int) (n : Nat) : rngD lo (n + 1) = .int lo :: rngD (lo + 1) n := by
 unfold rngD
 rw [List.range_succ_eq_map]
 simp only [List.map_cons,List.map_map]
 refine congr (congrArg List.cons (by simp)) (List.map_congr_left fun k _ => ?_)
 simp only [Function.comp]
 congr 1
 push_cast
 omega
end L2
namespace L2
open PySem
def isW : Kd -> Bool
 | .w => true
 | _ => false
theorem ab_of {kds : List Kd} {a : Int} (h : Nm kds .w a) : Ab (kds.map isW) a := ⟨h.1,by rw [List.getElem?_map,h.2];rfl⟩
theorem mkw {x : String} {t : List Dat} : F_makes_word [.tup (.str x :: t)] = some (.bl (isW (mk1 .w (.tup (.str x :: t)))),[]) := by
 unfold F_makes_word;rw [runV_e];unfold g_makes_word
 by_cases h : x = "store"
 ·subst h
  simp [envD,c_WRITERS,mk1,lit_inj,isW]
 ·by_cases h2 : x = "put"
  ·subst h2
   simp [envD,c_WRITERS,mk1,lit_inj,isW]
  ·have h3 : ¬ "store" = x := fun z => h z.symm
   have h4 : ¬ "put" = x := fun z => h2 z.symm
   simp [envD,c_WRITERS,mk1,lit_inj,isW,h,h2,h3,h4]
theorem stride_ok {T b s : Int} (b0 : 0 <= b) (b1 : b <= 63) (s0 : -9 <= s) (s1 : s <= 9) (e0 : 0 <= b + s * (T - 1)) (e1 : b + s * (T - 1) <= 63) : F_is_stride [.tup [.int b,.int s],.int T] = some (.bl true,[]) := by
 have e := placein_eq (b := b) (s := s) (j := T - 1) (small_mul s0 s1)
 unfold F_is_stride;rw [runV_e];unfold g_is_stride
 simp [envD,c_MOST_PLACE,c_MOST_STEP,b0,b1,s0,s1,e,e0,e1]
theorem looprow_ok {T : Int} {kds : List Kd} {F : Int -> Prop} {row : Dat} {many : Int} (h : LR T (Nm kds .w) F row) (hF : ∀ a,F a -> 0 <= a /\ a <= many - 1) : F_is_loop_row [row,.lst ((kds.map isW).map .bl),.int T,.int many] = some (.bl true,[]) := by
 cases h with
 | @last a w ha hw =>
  have := hF a ha
  have e : F_is_last [.tup [.str "last",.int a,.int w],.int many] = some (.bl true,[]) := by
   unfold F_is_last;rw [runV_e];unfold g_is_last
   simp [envD,c_MOST_WORD,this.1,this.2,hw.1,hw.2]
  unfold F_is_loop_row;rw [runV_e];unfold g_is_loop_row
  simp [envD,e]
 | @plain x t hr hx hl _ =>
  have e := isrow_eq (hr.imp fun a => ab_of)
  simp only [List.map_map] at e
  obtain ⟨⟨z1,z2⟩,z3,z4⟩ := off_ne hx
  have hp : ¬ (t.length : Int) + 1 = 0 := by omega
  unfold F_is_loop_row;rw [runV_e];unfold g_is_loop_row
  simp only [envD]
  simp [c_READERS,c_WRITERS,hl,z1,z2,z3,z4,e,hp]
 | @cell x b s t hx b0 b1 s0 s1 e0 e1 ht hr =>
  have e := isrow_eq ((hr b b0 b1).imp fun a => ab_of)
  simp only [List.map_map] at e
  have es := stride_ok b0 b1 s0 s1 e0 e1
  have ei := inturn_on hx (b := b) (s := s) (j := 0) (t := t) (small_mul s0 s1) ht
  rw [Int.mul_zero,Int.add_zero] at ei
  have hp : ¬ (t.length : Int) + 1 + 1 = 0 := by omega
  have hp2 : (1 : Int) < (t.length : Int) + 1 + 1 := by omega
  have hrw : (decide ("load" = x) || decide ("take" = x)) = true ∨ (decide ("load" = x) || decide ("take" = x)) = false /\ (decide ("store" = x) || decide ("put" = x)) = true := by
   rcases hx with rfl | rfl | rfl | rfl <;> decide
  unfold F_is_loop_row;rw [runV_e];unfold g_is_loop_row
  simp only [envD]
  rcases hrw with h1 | ⟨h1,h2⟩
  ·simp [c_READERS,c_WRITERS,(on_ne hx).1,h1,es,ei,e,hp,hp2]
  ·simp [c_READERS,c_WRITERS,(on_ne hx).1,h1,h2,es,ei,e,hp,hp2]
theorem comp_fm (nn : Nat) (tb : VB) (p : Dat -> Bool) (fe : VF) (f : Dat -> Dat) (δ : Ev) (hδ : δ.length = nn) : ∀ (ds acc : List Dat),(∀ d ∈ ds,tb (δ ++ [Sl.va d]) = some (p d,δ ++ [Sl.va d]) /\ (p d = true -> fe (δ ++ [Sl.va d]) = some (f d,δ ++ [Sl.va d]))) -> acc.length + ds.length < 16777216 -> compV nn 1 (gN nn) tb fe ds acc δ = some (acc ++ (ds.filter p).map f,δ)
 | [],acc,_,_ => by simp
 | d :: ds,acc,h,hl => by
  have hset : (δ ++ [Sl.no]).set nn (.va d) = δ ++ [Sl.va d] := by
   rw [List.set_append_right _ _ (by omega)]
   simp [hδ]
  have htake : (δ ++ [Sl.va d]).take nn = δ := by rw [List.take_append_of_le_length (by omega),List.take_of_length_le (by omega)]
  have hacc : acc.length < 16777216 := by simp at hl;omega
  obtain ⟨h1,h2⟩ := h d List.mem_cons_self
  cases hp : p d with
  | true =>
   have ih := comp_fm nn tb p fe f δ hδ ds (acc ++ [f d]) (fun e he => h e (List.mem_cons_of_mem _ he)) (by simp at hl ⊢;omega)
   have h2 := h2 hp
   rw [hp] at h1
   simp only [compV_c,nos_1,gN_e,hset,qk1_s,h1,qk2_t,h2,qk3_s,if_pos hacc,htake,ih]
   simp [hp]
  | false =>
   have ih := comp_fm nn tb p fe f δ hδ ds acc (fun e he => h e (List.mem_cons_of_mem _ he)) (by simp at hl ⊢;omega)
   rw [hp] at h1
   simp only [compV_c,nos_1,gN_e,hset,qk1_s,h1,qk2_f,htake,ih]
   simp [hp]
theorem able_loop {T : Int} {F : Int -> Prop} {many : List Dat} (hF : ∀ a,F a -> 0 <= a /\ a <= (many.length : Int) - 1) : ∀ {kds kds' : List Kd} {rows : List Dat} (_ : LRs T F kds rows kds') (_ : kds.length + rows.length < 1000) (s : Sl),
  ∃ s',forV (gN 3) b_are_loop_rows_1 rows [.va (.tup many),.va (.int T),.ow (.lst ((kds.map isW).map .bl)),s] = some (.nx [.va (.tup many),.va (.int T),.ow (.lst ((kds'.map isW).map .bl)),s'])
 | kds,_,[],.nil,_,s => ⟨s,by simp⟩
 | kds,_,row :: rows,.cons r h,hk,s => by
  obtain ⟨s',ih⟩ := able_loop hF h (by simp at hk ⊢;omega) (.va row)
  refine ⟨s',?_⟩
  have e := looprow_ok r hF
  obtain ⟨x,t,rfl⟩ := r.head
  have hk' : kds.length < 16777216 := by simp at hk;omega
  rw [List.map_append,List.map_append] at ih
  simp only [List.map_cons,List.map_nil] at ih
  rw [forV_c,gN_e,qf1_s]
  have b1 : b_are_loop_rows_1 [.va (.tup many),.va (.int T),.ow (.lst ((kds.map isW).map .bl)),.va (.tup (.str x :: t))] = some (.nx [.va (.tup many),.va (.int T),.ow (.lst ((kds.map isW).map .bl ++ [.bl (isW (mk1 .w (.tup (.str x :: t))))])),.va (.tup (.str x :: t))]) := by
   unfold b_are_loop_rows_1
   simp only [List.map_map] at e
   simp [e,mkw,hk',Dat.hard]
  have s1 : ([.va (.tup many),.va (.int T),.ow (.lst ((kds.map isW).map .bl)),s] : Ev).set 3 (.va (.tup (.str x :: t))) = [.va (.tup many),.va (.int T),.ow (.lst ((kds.map isW).map .bl)),.va (.tup (.str x :: t))] := rfl
  rw [s1,b1,qf2_n]
  exact ih
def isLast : Dat -> Bool
 | .tup (.str x :: _) => decide (x = "last")
 | _ => false
theorem isloop_eq {T sure : Int} {kds : List Kd} {rows : List Dat} (h : LRs T (Nm kds .w) [] rows kds) (s0 : 0 <= sure) (s1 : sure <= 64) (T1 : 1 <= T) (T8 : T <= 8) (r1 : 1 <= rows.length) (r8 : rows.length <= 8) : F_is_loop [.tup [.int sure,.int T,.tup rows]] = some (.bl true,[]) := by
 have hlen := h.len
 rw [List.length_nil,Nat.zero_add] at hlen
 obtain ⟨s',e1⟩ := able_loop (many := rows) (fun a ha => ⟨ha.1,by have := ha.lt;omega⟩) h (by simp;omega) .no
 simp only [List.map_nil] at e1
 have e2 := comp_fm 1 (fB (f2 oEq (f2 oIxA (fV 1) (fC (.int 0))) (fC (.str "last")))) isLast (f2 oIxA (fO 0) (f2 oIxA (fV 1) (fC (.int 1)))) (fun _ => .bl true) [.ow (.lst ((kds.map isW).map .bl))] rfl rows [] (fun d hd => by
  obtain ⟨k0,r⟩ := h.all d hd
  cases r with
  | @last a w ha hw =>
   have ab := ab_of ha
   have hat : atI ((kds.map isW).map Dat.bl) a = some (.bl true) := by
    have hlt := ha.lt
    rw [atI_in ab.1 (by simpa using hlt),List.getElem?_map,ab.2]
    rfl
   simp only [List.map_map] at hat
   exact ⟨by simp [isLast,lit_inj],fun _ => by simp [hat]⟩
  | plain _ _ hl _ => exact ⟨by simp [isLast,lit_inj,hl],fun z => by simp [isLast,lit_inj,hl] at z⟩
  | cell hx => exact ⟨by simp [isLast,lit_inj,(on_ne hx).1],fun z => by simp [isLast,lit_inj,(on_ne hx).1] at z⟩) (by simp;omega)
 simp only [List.nil_append] at e2
 have e3 : F_are_loop_rows [.tup rows,.int T] = some (.bl true,[]) := by
  unfold F_are_loop_rows
  rw [runV_e,ge_are_loop_rows]
  simp only [List.map_map] at e1 e2
  simp [envD,e1,capsD,e2,bls_true]
 have h1 : (1 : Int) <= rows.length := by omega
 have h8 : (rows.length : Int) <= 8 := by omega
 unfold F_is_loop
 rw [runV_e]
 unfold g_is_loop
 simp [envD,c_MOST_SURE,c_MOST_TURNS,c_MOST_LOOP_ROWS,s0,s1,T1,T8,h1,h8,e3]
end L2
namespace L2
open PySem
def stG (ns : List Int) (n : Nat) (T : Int) (rows : List Dat) (made : List Int) (sn : Dat) (a b c d e : Sl) : Ev :=
 [.va (Scp ns),.ow (Twn n),.va (.int T),.ow (.lst rows),.ow (.lst (made.map .int)),.ow sn,a,b,c,d,e]
noncomputable def tailL : VS := (sIf (fB (f2 (oInD true) (f2 oIxA (f2 oIxA (fO 3) (f1 oNeg (fC (.int 1)))) (fC (.int 0))) (fTup (fCons (fC (.str "store")) (fCons (fC (.str "put")) fNil)))))
   (sMut 4 mApp (fCons (f2 oSub (f1 oLen (fO 3)) (fC (.int 1))) fNil))
   sNil)
def mad (x : String) (made : List Int) (k : Nat) : List Int := if x = "store" ∨ x = "put" then made else made ++ [(k : Int)]
theorem tailL_eq {x : String} {t : List Dat} (ns : List Int) (n : Nat) (T : Int) (rows : List Dat) (made : List Int) (sn : Dat) (a b c d e : Sl) (hm : made.length < 1000) :
  tailL (stG ns n T (rows ++ [.tup (.str x :: t)]) made sn a b c d e) = some (.nx (stG ns n T (rows ++ [.tup (.str x :: t)]) (mad x made rows.length) sn a b c d e)) := by
 have hm' : made.length < 16777216 := by omega
 unfold tailL mad
 by_cases h : x = "store" ∨ x = "put"
 ·rw [if_pos h]
  rcases h with rfl | rfl <;> simp [stG]
 ·rw [if_neg h]
  simp only [not_or] at h
  have h1 : ¬ "store" = x := fun z => h.1 z.symm
  have h2 : ¬ "put" = x := fun z => h.2 z.symm
  simp [stG,h1,h2,hm']
structure GL (T : Int) (rows : List Dat) (made : List Int) (kds : List Kd) : Prop where
 rs : LRs T (fun a => a = 0) [] rows kds
 w : ∀ a ∈ made,Nm kds .w a
 ne : rows = [] ∨ 0 < made.length
theorem GL.more {T : Int} {rows : List Dat} {made : List Int} {kds : List Kd} {x : String} {t : List Dat} (G : GL T rows made kds) (r : LR T (Nm kds .w) (fun a => a = 0) (.tup (.str x :: t))) (hw : (x = "store" ∨ x = "put") -> 0 < made.length) :
  GL T (rows ++ [.tup (.str x :: t)]) (mad x made rows.length) (kds ++ [mk1 .w (.tup (.str x :: t))]) := by
 have hl : rows.length = kds.length := by have := G.rs.len;simp at this;omega
 refine ⟨G.rs.snoc r,fun a ha => ?_,.inr ?_⟩
 ·unfold mad at ha
  split at ha
  ·exact (G.w a ha).snoc
  ·rename_i h
   rcases List.mem_append.mp ha with z | z
   ·exact (G.w a z).snoc
   ·rw [List.mem_singleton.mp z,hl,mk1_k (by simpa using h)]
    exact Nm.new
 ·unfold mad
  split
  ·rename_i h
   exact hw h
  ·simp
theorem hards_ints : ∀ vs : List Int,hards (vs.map Dat.int) = true
 | [] => rfl
 | v :: vs => by simp [hards,Dat.hard,hards_ints vs]
theorem Seen.kids {n : Nat} {sn : Dat} (h : Seen n sn) : kidsHard sn = true := by
 obtain ⟨ks,vs,rfl,_⟩ := h
 exact hards_ints vs
theorem RowOK.made {made : List Int} {x : String} {t : List Dat} {row : Dat} (h : RowOK (· ∈ made) row) (e : row = .tup (.str x :: t)) (hx : x = "store" ∨ x = "put") : 0 < made.length := by
 have pos : ∀ {a : Int},a ∈ made -> 0 < made.length := fun {a} h => List.length_pos_of_mem h
 cases h with
 | store _ _ a => exact pos a
 | put _ _ a _ => exact pos a
 | two hx' _ _ =>
  simp only [Dat.tup.injEq,List.cons.injEq,Dat.str.injEq,lit_inj] at e
  rw [<- e.1] at hx
  rcases hx with h | h
  ·exact absurd h (dne hx' (by decide)).1
  ·exact absurd h (dne hx' (by decide)).1
 | _ =>
  simp only [Dat.tup.injEq,List.cons.injEq,Dat.str.injEq,lit_inj] at e
  rw [<- e.1] at hx
  exact absurd hx (by decide)
theorem draw_step {T : Int} {rows : List Dat} {made : List Int} {kds : List Kd} (G : GL T rows made kds) (ns : List Int) (n : Nat) (sn : Dat) (it : Dat) (b c d e : Sl) (hl : ns.length <= 63) (hn : n < 600000) (hs : Seen n sn) (T1 : 1 <= T) (T8 : T <= 8) (hr : rows.length < 900) (hm : made.length < 900) :
  ∃ n' rows' made' sn' kds' b' c' d',n <= n' /\ n' <= n + 20 /\ Seen n' sn' /\ rows'.length = rows.length + 1 /\ made'.length <= made.length + 1 /\ GL T rows' made' kds' ∧
   b_law_loop_2 (stG ns n T rows made sn (.va it) b c d e) = some (.nx (stG ns n' T rows' made' sn' (.va it) b' c' d' e)) := by
 have d0 := draw_eq ns n 6 hl (by omega) (by decide)
 have hr' : rows.length < 16777216 := by omega
 have fin : ∀ {x : String} {t : List Dat} (m : Nat) (sn' : Dat) (b' c' d' : Sl),LR T (Nm kds .w) (fun a => a = 0) (.tup (.str x :: t)) -> ((x = "store" ∨ x = "put") -> 0 < made.length) -> n <= m -> m <= n + 20 -> Seen m sn' →
   b_law_loop_2 (stG ns n T rows made sn (.va it) b c d e) = tailL (stG ns m T (rows ++ [.tup (.str x :: t)]) made sn' (.va it) b' c' d' e) →
   ∃ n' rows' made' sn' kds' b' c' d',n <= n' /\ n' <= n + 20 /\ Seen n' sn' /\ rows'.length = rows.length + 1 /\ made'.length <= made.length + 1 /\ GL T rows' made' kds' ∧
    b_law_loop_2 (stG ns n T rows made sn (.va it) b c d e) = some (.nx (stG ns n' T rows' made' sn' (.va it) b' c' d' e)) := fun {x t} m sn' b' c' d' r hw h1 h2 h3 h4 =>
  ⟨m,_,_,sn',_,b',c',d',h1,h2,h3,by simp,by unfold mad;split <;> simp,G.more r hw,by rw [h4,tailL_eq _ _ _ _ _ _ _ _ _ _ _ (by omega)]⟩
 by_cases h0 : drw ns n 6 = 0
 ·obtain ⟨y,hy,ey⟩ := pick_eq ns (n + 1) [.int 3,.int 1000] hl (by omega) (by simp)
  obtain ⟨bd,rfl,b0,b1⟩ : ∃ z : Int,y = .int z /\ 0 < z /\ z <= 1000 := by
   simp only [List.mem_cons,List.not_mem_nil,or_false] at hy
   rcases hy with h | h <;> exact ⟨_,h,by omega,by omega⟩
  have d2 := draw_eq ns (n + 2) bd hl (by omega) b0
  have w0 := drw_0 ns (n + 2) b0
  have w1 := drw_1 ns (n + 2) b0
  refine fin (x := "last") (t := [.int 0,.int (drw ns (n + 2) bd)]) (n + 3) sn b c d (.last rfl ⟨w0,by omega⟩) (fun h => absurd h (by decide)) (by omega) (by omega) (hs.mono (by omega)) ?_
  show sSeq _ tailL _ = _
  simp [stG,d0,h0,ey,d2,hr']
 ·obtain ⟨row,n',sn',n0,n1,hs',hrow,hpl,er⟩ := row_eq ns (n + 1) made sn 9 hl (by omega) (hs.mono (by omega)) (by decide) (by decide)
  have hh := hrow.hard
  have hk := hs'.kids
  rcases rowok_split hrow with ⟨x,t,rfl,hx,hlast,hnum⟩ | ⟨x,p,t,rfl,hx,p0,ht,hp⟩
  ·obtain ⟨⟨z1,z2⟩,z3,z4⟩ := off_ne hx
   refine fin (x := x) (t := t) n' sn' (.va (.tup (.str x :: t))) c d (.plain (hrow.imp G.w) hx hlast hnum) (fun h => hrow.made rfl h) (by omega) (by omega) hs' ?_
   show sSeq _ tailL _ = _
   simp [stG,d0,h0,er,hh,hk,z1,z2,z3,z4,hr']
  ·have p1 := hpl x p t rfl hx
   have hin : (decide ("load" = x) || (decide ("take" = x) || (decide ("store" = x) || decide ("put" = x)))) = true := by
    rcases hx with rfl | rfl | rfl | rfl <;> decide
   obtain ⟨y,hy,ey⟩ := pick_eq ns n' [.int 1,.int 1,.int 1,.int 0,.int 2,.int (-1),.int 7] hl (by omega) (by simp)
   obtain ⟨mo,rfl,m0,m1⟩ : ∃ z : Int,y = .int z /\ -1 <= z /\ z <= 7 := by
    simp only [List.mem_cons,List.not_mem_nil,or_false] at hy
    rcases hy with h | h | h | h | h | h | h <;> exact ⟨_,h,by omega,by omega⟩
   obtain ⟨y,hy,ez⟩ := pick_eq ns (n' + 1) [.int 0,.int 0,.int 8,.int 20] hl (by omega) (by simp)
   obtain ⟨ba,rfl,a0,a1⟩ : ∃ z : Int,y = .int z /\ 0 <= z /\ z <= 20 := by
    simp only [List.mem_cons,List.not_mem_nil,or_false] at hy
    rcases hy with h | h | h | h <;> exact ⟨_,h,by omega,by omega⟩
   have hc := small_mul (s := mo) (j := T - 1) (by omega) (by omega)
   have ht2 : 2 + t.length <= 16777216 := by omega
   have hw : (x = "store" ∨ x = "put") -> 0 < made.length := fun h => hrow.made rfl h
   by_cases hin2 : 0 <= p + ba + mo * (T - 1) /\ p + ba + mo * (T - 1) <= 63
   ·obtain ⟨i0,i1⟩ := hin2
    refine fin (x := x) (t := .tup [.int (p + ba),.int mo] :: t) (n' + 2) sn' (.va (.tup (.str x :: .tup [.int (p + ba),.int mo] :: t))) (.va (.int mo)) (.va (.int (p + ba))) (.cell hx (by omega) (by omega) (by omega) (by omega) i0 i1 ht fun q q0 q1 => (hp q q0 q1).imp G.w) hw (by omega) (by omega) (hs'.mono (by omega)) ?_
    show sSeq _ tailL _ = _
    simp [stG,d0,h0,er,hh,hk,hin,hr',ey,ez,hc,i0,i1,ht2]
   ·refine fin (x := x) (t := .tup [.int (p + ba),.int 1] :: t) (n' + 2) sn' (.va (.tup (.str x :: .tup [.int (p + ba),.int 1] :: t))) (.va (.int 1)) (.va (.int (p + ba))) (.cell hx (by omega) (by omega) (by omega) (by omega) (by omega) (by omega) ht fun q q0 q1 => (hp q q0 q1).imp G.w) hw (by omega) (by omega) (hs'.mono (by omega)) ?_
    show sSeq _ tailL _ = _
    by_cases i0 : 0 <= p + ba + mo * (T - 1)
    ·have i1 : ¬ p + ba + mo * (T - 1) <= 63 := fun z => hin2 ⟨i0,z⟩
     simp [stG,d0,h0,er,hh,hk,hin,hr',ey,ez,hc,i0,i1,ht2]
    ·simp [stG,d0,h0,er,hh,hk,hin,hr',ey,ez,hc,i0,ht2]
theorem draw_loop {T : Int} (ns : List Int) (hl : ns.length <= 63) (T1 : 1 <= T) (T8 : T <= 8) : ∀ (ds : List Dat) (n : Nat) (rows : List Dat) (made : List Int) (kds : List Kd) (sn : Dat) (a b c d e : Sl),GL T rows made kds -> Seen n sn -> n + 20 * ds.length < 500000 -> rows.length + ds.length < 900 -> made.length + ds.length < 900 →
  ∃ n' rows' made' sn' kds' a' b' c' d',n' <= n + 20 * ds.length /\ rows'.length = rows.length + ds.length /\ GL T rows' made' kds' /\ forV (gN 6) b_law_loop_2 ds (stG ns n T rows made sn a b c d e) = some (.nx (stG ns n' T rows' made' sn' a' b' c' d' e))
 | [],n,rows,made,kds,sn,a,b,c,d,e,G,_,_,_,_ => ⟨n,rows,made,sn,kds,a,b,c,d,by simp,by simp,G,by simp⟩
 | i :: ds,n,rows,made,kds,sn,a,b,c,d,e,G,hs,hn,hr,hm => by
  simp only [List.length_cons] at hn hr hm
  obtain ⟨n1,rows1,made1,sn1,kds1,b1,c1,d1,g1,g2,g3,g4,g5,g6,g7⟩ := draw_step G ns n sn i b c d e hl (by omega) hs T1 T8 (by omega) (by omega)
  obtain ⟨n',rows',made',sn',kds',a',b',c',d',h1,h2,h3,h4⟩ := draw_loop ns hl T1 T8 ds n1 rows1 made1 kds1 sn1 (.va i) b1 c1 d1 e g6 g3 (by omega) (by omega) (by omega)
  refine ⟨n',rows',made',sn',kds',a',b',c',d',by simp only [List.length_cons];omega,by simp only [List.length_cons];omega,h3,?_⟩
  rw [forV_c,gN_e,qf1_s]
  have s1 : (stG ns n T rows made sn a b c d e).set 6 (.va i) = stG ns n T rows made sn (.va i) b c d e := rfl
  rw [s1,g7,qf2_n]
  exact h4
end L2
namespace L2
open PySem
abbrev G107 : VG := gTp 2 (gsCons (gN 10) (gsCons (gN 7) gsNil))
theorem mend_loop {T : Int} (ns : List Int) (hl : ns.length <= 63) {made : List Int} {kds : List Kd} (hm : 0 < made.length) (hw : ∀ a ∈ made,Nm kds .w a) (sn : Dat) : ∀ (rest done : List Dat) (ki : List Kd) (n : Nat) (a b c d e : Sl),LRs T (Nm kds .w) [] done ki -> LRs T (fun a => a = 0) ki rest kds -> n + rest.length < 500000 →
  ∃ n' rows' b' e',n' <= n + rest.length /\ rows'.length = done.length + rest.length /\ LRs T (Nm kds .w) [] rows' kds /\ forV G107 b_law_loop_1 (enuD done.length rest) (stG ns n T (done ++ rest) made sn a b c d e) = some (.nx (stG ns n' T rows' made sn a b' c d e'))
 | [],done,ki,n,a,b,c,d,e,h1,.nil,_ => ⟨n,done,b,e,by simp,by simp,h1,by simp [enuD]⟩
 | row :: rest,done,ki,n,a,b,c,d,e,h1,.cons r h2,hn => by
  simp only [List.length_cons] at hn
  rw [enuD_cons]
  have l0 : forV G107 b_law_loop_1 (.tup [.int done.length,row] :: enuD (done.length + 1) rest) (stG ns n T (done ++ row :: rest) made sn a b c d e) = qf2 G107 b_law_loop_1 (enuD (done.length + 1) rest) (b_law_loop_1 (stG ns n T (done ++ row :: rest) made sn a (.va row) c d (.va (.int done.length)))) := by
   rw [forV_c]
   simp [stG]
  rw [l0]
  have key : ∃ row' n1,n <= n1 /\ n1 <= n + 1 /\ LR T (Nm ki .w) (Nm kds .w) row' /\ mk1 .w row' = mk1 .w row /\ b_law_loop_1 (stG ns n T (done ++ row :: rest) made sn a (.va row) c d (.va (.int done.length))) = some (.nx (stG ns n1 T (done ++ row' :: rest) made sn a (.va row) c d (.va (.int done.length)))) := by
   cases r with
   | plain hr hx hlast hnum => exact ⟨_,n,by omega,by omega,.plain hr hx hlast hnum,rfl,by unfold b_law_loop_1;simp [stG,hlast]⟩
   | cell hx b0 b1 s0 s1 e0 e1 ht hr => exact ⟨_,n,by omega,by omega,.cell hx b0 b1 s0 s1 e0 e1 ht hr,rfl,by unfold b_law_loop_1;simp [stG,(on_ne hx).1]⟩
   | @last q w hq hw' =>
    obtain ⟨y,hy,ey⟩ := pick_eq ns n (made.map .int) hl (by omega) (by simpa using hm)
    obtain ⟨z,hz,rfl⟩ := List.mem_map.mp hy
    refine ⟨.tup [.str "last",.int z,.int w],n + 1,by omega,by omega,.last (hw z hz) hw',rfl,?_⟩
    have hix : ixN (done ++ Dat.tup [.str "last",.int q,.int w] :: rest).length (done.length : Int) = some done.length := by
     unfold ixN
     rw [if_pos (by omega),if_pos (by simp;omega)]
     simp
    have hset : (done ++ Dat.tup [.str "last",.int q,.int w] :: rest).set done.length (.tup [.str "last",.int z,.int w]) = done ++ .tup [.str "last",.int z,.int w] :: rest := by
     rw [List.set_append_right _ _ (Nat.le_refl _)]
     simp
    rw [List.length_append,List.length_cons] at hix
    unfold b_law_loop_1
    simp [stG,ey,Dat.hard,hix,hset]
  obtain ⟨row',n1,m0,m1,r',hmk,e1⟩ := key
  rw [e1,qf2_n]
  have h1' := h1.snoc r'
  rw [hmk] at h1'
  obtain ⟨n',rows',b',e',g1,g2,g3,g4⟩ := mend_loop ns hl hm hw sn rest (done ++ [row']) (ki ++ [mk1 .w row]) n1 a (.va row) c d (.va (.int done.length)) h1' h2 (by omega)
  refine ⟨n',rows',b',e',by simp only [List.length_cons];omega,by rw [g2];simp;omega,g3,?_⟩
  rw [List.length_append,List.length_singleton,List.append_assoc,List.singleton_append] at g4
  exact g4
theorem lawloop_eq (ns : List Int) (hl : ns.length <= 63) : ∃ (n : Nat) (sure T : Int) (rows : List Dat) (kds : List Kd),n <= 200 /\ 0 <= sure /\ sure <= 64 /\ 1 <= T /\ T <= 8 /\ 1 <= rows.length /\ rows.length <= 5 /\ LRs T (Nm kds .w) [] rows kds /\ F_law_loop [Scp ns,Twn 0] = some (.tup [.int sure,.int T,.tup rows],[Twn n]) := by
 have d0 := draw_eq ns 0 8 hl (by decide) (by decide)
 have t0 := drw_0 ns 0 (b := 8) (by decide)
 have t1 := drw_1 ns 0 (b := 8) (by decide)
 have d1 := draw_eq ns 1 5 hl (by decide) (by decide)
 have k0 := drw_0 ns 1 (b := 5) (by decide)
 have k1 := drw_1 ns 1 (b := 5) (by decide)
 generalize hT : 1 + drw ns 0 8 = T at *
 generalize hK : 1 + drw ns 1 5 = k at *
 have hkl := rngD_len k.toNat
 have hkb : (-4611686018427387904 : Int) <= k /\ k < 4611686018427387904 := by omega
 obtain ⟨n',rows',made',sn',kds',a',b',c',d',g1,g2,g3,g4⟩ := draw_loop (T := T) ns hl (by omega) (by omega) (rngD 0 k.toNat) 2 [] [] [] (.dct [] []) .no .no .no .no .no ⟨.nil,(fun _ h => nomatch h),.inl rfl⟩ ⟨[],[],rfl,rfl,List.nodup_nil,by simp⟩ (by rw [hkl];omega) (by rw [hkl];simp;omega) (by rw [hkl];simp;omega)
 rw [hkl] at g1 g2
 simp only [List.length_nil,Nat.zero_add] at g2
 have hmade : 0 < made'.length := by
  rcases g3.ne with h | h
  ·rw [h] at g2;simp at g2;omega
  ·exact h
 obtain ⟨n2,rows2,b2,e2,h1,h2,h3,h4⟩ := mend_loop (T := T) ns hl hmade g3.w sn' rows' [] [] n' a' b' c' d' .no .nil g3.rs (by omega)
 obtain ⟨y,hy,ey⟩ := pick_eq ns n2 [.int 0,.int 9,.int 64,.int 40] hl (by omega) (by simp)
 obtain ⟨sure,rfl,s0,s1⟩ : ∃ z : Int,y = .int z /\ 0 <= z /\ z <= 64 := by
  simp only [List.mem_cons,List.not_mem_nil,or_false] at hy
  rcases hy with h | h | h | h <;> exact ⟨_,h,by omega,by omega⟩
 simp only [List.length_nil,Nat.zero_add,List.nil_append] at h2 h4
 refine ⟨n2 + 1,sure,T,rows2,kds',by omega,s0,s1,by omega,by omega,by omega,by omega,h3,?_⟩
 simp only [stG,List.map_nil] at g4 h4
 unfold F_law_loop
 rw [runV_e,ge_law_loop]
 simp [envD,d0,hT,d1,hK,hkb,g4,h4,ey]
end L2
namespace L2
open PySem
def qK2 (ix : List Nat) (nl : Nat) (r : Option (List Dat × Ev)) (gg : VG) (tb : VB) (fi2 : VI) (gg2 : VG) (tb2 : VB) (fe : VF) : Option (Dat × Ev) := r.bind fun p => (compV2 ix.length nl gg tb fi2 gg2 tb2 fe p.1 [] (capsD ix p.2)).map fun q => (.lst q.1,backD ix q.2 p.2)
@[simp] theorem fComp2_e {ix : List Nat} {nl : Nat} {fi fi2 : VI} {gg gg2 : VG} {tb tb2 : VB} {fe : VF} {δ : Ev} : fComp2 ix nl fi gg tb fi2 gg2 tb2 fe δ = qK2 ix nl (fi δ) gg tb fi2 gg2 tb2 fe := (rfl)
@[simp] theorem qK2_s {ix : List Nat} {nl : Nat} {fi2 : VI} {gg gg2 : VG} {tb tb2 : VB} {fe : VF} {ds : List Dat} {δ : Ev} : qK2 ix nl (some (ds,δ)) gg tb fi2 gg2 tb2 fe = qKb ix δ (compV2 ix.length nl gg tb fi2 gg2 tb2 fe ds [] (capsD ix δ)) := (rfl)
@[simp] theorem oMinN_e {ds : List Dat} : oMinN (.lst ds) = (intsD ds).map fun ns => if ns = [] then .non else .int (minI ns) := (rfl)
theorem intsD_map : ∀ ns : List Int,intsD (ns.map .int) = some ns
 | [] => rfl
 | n :: ns => by simp [intsD,intsD_map ns]
def celB : Dat -> Bool
 | .tup (.str x :: _) => decide (x = "load") || (decide (x = "take") || (decide (x = "store") || decide (x = "put")))
 | _ => false
def wrB : Dat -> Bool
 | .tup (.str x :: _) => decide (x = "store") || decide (x = "put")
 | _ => false
def plc (d : Dat) (t : Int) : Int := match d with
 | .tup (_ :: .tup [.int b,.int s] :: _) => b + s * t
 | _ => 0
theorem last_off : ¬ onC "last" := by unfold onC;decide
theorem celB_on {x : String} {t : List Dat} (h : onC x) : celB (.tup (.str x :: t)) = true := by
 rcases h with rfl | rfl | rfl | rfl <;> simp [celB,lit_inj]
theorem celB_off {x : String} {t : List Dat} (h : ¬ onC x) : celB (.tup (.str x :: t)) = false := by
 unfold onC at h
 simp only [not_or] at h
 simp [celB,lit_inj,h.1,h.2.1,h.2.2.1,h.2.2.2]
theorem writes_eq {x : String} {t : List Dat} : F_writes [.tup (.str x :: t)] = some (.bl (wrB (.tup (.str x :: t))),[]) := by
 unfold F_writes;rw [runV_e];unfold g_writes
 by_cases h : x = "store"
 ·subst h
  simp [envD,c_WRITERS,wrB,lit_inj]
 ·by_cases h2 : x = "put"
  ·subst h2
   simp [envD,c_WRITERS,wrB,lit_inj]
  ·have h3 : ¬ "store" = x := fun z => h z.symm
   have h4 : ¬ "put" = x := fun z => h2 z.symm
   simp [envD,c_WRITERS,wrB,lit_inj,h,h2,h3,h4]
structure Cel (d : Dat) : Prop where
 hd : ∃ (x : String) (b s : Int) (t : List Dat),d = .tup (.str x :: .tup [.int b,.int s] :: t) /\ onC x /\ -9 <= s /\ s <= 9 /\ t.length <= 3
theorem LR.cel {T : Int} {M F : Int -> Prop} {row : Dat} (h : LR T M F row) : (celB row = true /\ Cel row) ∨ (celB row = false /\ ∃ (x : String) (t : List Dat),row = .tup (.str x :: t) /\ ¬ onC x) := by
 cases h with
 | plain _ hx _ _ => exact .inr ⟨celB_off hx,_,_,rfl,hx⟩
 | cell hx b0 b1 s0 s1 e0 e1 ht hr => exact .inl ⟨celB_on hx,⟨_,_,_,_,rfl,hx,s0,s1,ht⟩⟩
 | last => exact .inr ⟨celB_off last_off,_,_,rfl,last_off⟩
theorem Cel.place {d : Dat} (h : Cel d) (t : Int) : ∃ st,F_place_of [d] = some (.tup st,[]) /\ atI (match d with | .tup ds => ds | _ => []) 1 = some (.tup st) /\ F_place_in [.tup st,.int t] = some (.int (plc d t),[]) := by
 obtain ⟨x,b,s,r,rfl,hx,s0,s1,ht⟩ := h.hd
 exact ⟨_,place_on hx,by simp,placein_eq (small_mul s0 s1)⟩
def td (z : Int × Int × Bool) : Dat := .tup [.int z.1,.int z.2.1,.bl z.2.2]
def tch (t : Int) (d : Dat) : Int × Int × Bool := (t,plc d t,wrB d)
theorem inr_touch (all : Dat) (t : Int) : ∀ (ds acc : List Dat) (s : Sl),(∀ d ∈ ds,Cel d) -> acc.length + ds.length < 100000 -> ∃ s',inrV (gN 2) bYes (fTup (fCons (fV 1) (fCons (fCall 2 [] F_place_in (aE (f2 oIxA (fV 2) (fC (.int 1))) (aE (fV 1) aNil))) (fCons (fCall 1 [] F_writes (aE (fV 2) aNil)) fNil)))) ds acc [.va all,.va (.int t),s] =
  some (acc ++ (ds.map (tch t)).map td,[.va all,.va (.int t),s'])
 | [],acc,s,_,_ => ⟨s,by simp [inrV]⟩
 | d :: ds,acc,s,h,hl => by
  simp only [List.length_cons] at hl
  obtain ⟨s',ih⟩ := inr_touch all t ds (acc ++ [td (tch t d)]) (.va d) (fun e he => h e (List.mem_cons_of_mem _ he)) (by simp;omega)
  refine ⟨s',?_⟩
  have hacc : acc.length < 16777216 := by omega
  obtain ⟨x,b,st,r,rfl,hx,s0,s1,ht⟩ := (h d List.mem_cons_self).hd
  have e1 := placein_eq (b := b) (s := st) (j := t) (small_mul s0 s1)
  have e2 := writes_eq (x := x) (t := .tup [.int b,.int st] :: r)
  simp only [inrV]
  simp [e1,e2,hacc]
  simp [td,tch,plc] at ih ⊢
  exact ih
def touL (onc : List Dat) : Nat -> Nat -> List (Int × Int × Bool)
 | _,0 => []
 | j,k + 1 => onc.map (tch j) ++ touL onc (j + 1) k
theorem comp_touch (onc : List Dat) (h : ∀ d ∈ onc,Cel d) : ∀ (k j : Nat) (acc : List Dat),acc.length + k * onc.length < 100000 -> compV2 1 2 (gN 1) bYes (iSeq (fV 0)) (gN 2) bYes (fTup (fCons (fV 1) (fCons (fCall 2 [] F_place_in (aE (f2 oIxA (fV 2) (fC (.int 1))) (aE (fV 1) aNil))) (fCons (fCall 1 [] F_writes (aE (fV 2) aNil)) fNil)))) (rngD (j : Int) k) acc [.va (.lst onc)] =
  some (acc ++ (touL onc j k).map td,[.va (.lst onc)])
 | 0,j,acc,_ => by simp [rngD,compV2,touL]
 | k + 1,j,acc,hl => by
  have hl2 : acc.length + onc.length + k * onc.length < 100000 := by rw [Nat.add_mul,Nat.one_mul] at hl;omega
  obtain ⟨s',e⟩ := inr_touch (.lst onc) (j : Int) onc acc .no h (by omega)
  have ih := comp_touch onc h k (j + 1) (acc ++ (onc.map (tch j)).map td) (by simp;omega)
  rw [rngD_succ]
  simp only [compV2,nos_2,List.cons_append,List.nil_append,gN_e,List.set_cons_succ,List.set_cons_zero,Option.bind_some,bYes_e,if_true,iSeq_e,fV_e,List.getElem?_cons_zero,qV_s,qi_l,e,List.take_succ_cons,List.take_zero]
  rw [show ((j : Int) + 1) = ((j + 1 : Nat) : Int) by push_cast;rfl,ih]
  simp [touL]
def cnd (a b : Int × Int × Bool) : Bool := decide (a.1 < b.1) && (decide (b.2.1 = a.2.1) && (a.2.2 || b.2.2))
theorem inr_span (all : Dat) (a : Int × Int × Bool) : ∀ (ds : List (Int × Int × Bool)) (acc : List Dat) (s1 s2 s3 : Sl),acc.length + ds.length < 100000 -> ∃ u1 u2 u3,inrV (gTp 3 (gsCons (gN 4) (gsCons (gN 5) (gsCons (gN 6) gsNil)))) (bAnd (fB (f2 oGt (fV 4) (fV 1))) (bAnd (fB (f2 oEq (fV 5) (fV 2))) (bOr (fB (fV 3)) (fB (fV 6))))) (f2 oSub (fV 4) (fV 1)) (ds.map td) acc [.va all,.va (.int a.1),.va (.int a.2.1),.va (.bl a.2.2),s1,s2,s3] =
  some (acc ++ ((ds.filter (cnd a)).map fun b => b.1 - a.1).map .int,[.va all,.va (.int a.1),.va (.int a.2.1),.va (.bl a.2.2),u1,u2,u3])
 | [],acc,s1,s2,s3,_ => ⟨s1,s2,s3,by simp [inrV]⟩
 | b :: ds,acc,s1,s2,s3,hl => by
  simp only [List.length_cons] at hl
  have hacc : acc.length < 16777216 := by omega
  obtain ⟨t1,p1,w1⟩ := a
  obtain ⟨t2,p2,w2⟩ := b
  obtain ⟨u1,u2,u3,ih1⟩ := inr_span all (t1,p1,w1) ds (acc ++ [.int (t2 - t1)]) (.va (.int t2)) (.va (.int p2)) (.va (.bl w2)) (by simp;omega)
  obtain ⟨v1,v2,v3,ih2⟩ := inr_span all (t1,p1,w1) ds acc (.va (.int t2)) (.va (.int p2)) (.va (.bl w2)) (by omega)
  by_cases hc : cnd (t1,p1,w1) (t2,p2,w2) = true
  ·refine ⟨u1,u2,u3,?_⟩
   have hc' := hc
   simp only [cnd,Bool.and_eq_true,decide_eq_true_eq,Bool.or_eq_true] at hc'
   obtain ⟨c1,c2,c3⟩ := hc'
   simp only [List.map_cons,inrV,td]
   rcases c3 with c3 | c3
   ·simp [c1,c2,c3,hacc]
    simp [td,c3] at ih1
    simp [td,c2,c3,cnd,c1] at ih1 ⊢
    exact ih1
   ·cases w1 with
    | true =>
     simp [c1,c2,c3,hacc]
     simp [td,c2,c3,cnd,c1] at ih1 ⊢
     exact ih1
    | false =>
     simp [c1,c2,c3,hacc]
     simp [td,c2,c3,cnd,c1] at ih1 ⊢
     exact ih1
  ·refine ⟨v1,v2,v3,?_⟩
   have hcf : cnd (t1,p1,w1) (t2,p2,w2) = false := by simpa using hc
   have ef : (List.filter (cnd (t1,p1,w1)) ((t2,p2,w2) :: ds)) = ds.filter (cnd (t1,p1,w1)) := by simp [List.filter_cons,hcf]
   rw [ef,<- ih2]
   simp only [cnd] at hcf
   by_cases c1 : t1 < t2
   ·by_cases c2 : p2 = p1
    ·have c3 : w1 = false /\ w2 = false := by simpa [c1,c2] using hcf
     obtain ⟨rfl,rfl⟩ := c3
     simp [inrV,td,c1,c2]
    ·simp [inrV,td,c1,c2]
   ·simp [inrV,td,c1]
def spaL (all : List (Int × Int × Bool)) : List (Int × Int × Bool) -> List Int
 | [] => []
 | a :: r => ((all.filter (cnd a)).map fun b => b.1 - a.1) ++ spaL all r
theorem comp_span (all : List (Int × Int × Bool)) : ∀ (ds : List (Int × Int × Bool)) (acc : List Dat),acc.length + ds.length * all.length < 100000 -> compV2 1 6 (gTp 3 (gsCons (gN 1) (gsCons (gN 2) (gsCons (gN 3) gsNil)))) bYes (iSeq (fV 0)) (gTp 3 (gsCons (gN 4) (gsCons (gN 5) (gsCons (gN 6) gsNil)))) (bAnd (fB (f2 oGt (fV 4) (fV 1))) (bAnd (fB (f2 oEq (fV 5) (fV 2))) (bOr (fB (fV 3)) (fB (fV 6))))) (f2 oSub (fV 4) (fV 1)) (ds.map td) acc [.va (.lst (all.map td))] =
  some (acc ++ (spaL all ds).map .int,[.va (.lst (all.map td))])
 | [],acc,_ => by simp [compV2,spaL]
 | a :: ds,acc,hl => by
  have hl2 : acc.length + all.length + ds.length * all.length < 100000 := by rw [List.length_cons,Nat.add_mul,Nat.one_mul] at hl;omega
  obtain ⟨u1,u2,u3,e⟩ := inr_span (.lst (all.map td)) a all acc .no .no .no (by omega)
  have hf : (all.filter (cnd a)).length <= all.length := List.length_filter_le _ _
  have ih := comp_span all ds (acc ++ ((all.filter (cnd a)).map fun b => b.1 - a.1).map .int) (by simp;omega)
  simp only [List.map_cons,compV2]
  have hn : nos 6 = [.no,.no,.no,.no,.no,.no] := (rfl)
  rw [hn]
  simp only [td,List.cons_append,List.nil_append,gTp_t,List.length_cons,List.length_nil,Nat.zero_add,Nat.reduceAdd,if_true,gsCons_e,gN_e,qg_s,gsNil_e,List.set_cons_succ,List.set_cons_zero,Option.bind_some,bYes_e,iSeq_e,fV_e,List.getElem?_cons_zero,qV_s,qi_l]
  rw [e]
  simp only [Option.bind_some,List.take_succ_cons,List.take_zero,ih]
  simp [spaL]
end L2
namespace L2
open PySem
theorem check_ok {d : Dat} (h : F_is_loop [d] = some (.bl true,[])) : F_check_loop [d] = some (.non,[]) := by
 unfold F_check_loop
 rw [runV_e]
 unfold g_check_loop
 simp [envD,h]
theorem touL_len (onc : List Dat) : ∀ (k j : Nat),(touL onc j k).length = k * onc.length
 | 0,j => by simp [touL]
 | k + 1,j => by
  simp only [touL,List.length_append,List.length_map,touL_len onc k (j + 1)]
  rw [Nat.add_mul,Nat.one_mul]
  omega
def mnN (ns : List Int) : Dat := if ns = [] then .non else .int (minI ns)
theorem reach_eq {T sure : Int} {kds : List Kd} {rows : List Dat} (h : LRs T (Nm kds .w) [] rows kds) (s0 : 0 <= sure) (s1 : sure <= 64) (T1 : 1 <= T) (T8 : T <= 8) (r1 : 1 <= rows.length) (r5 : rows.length <= 5) :
  F_reach [.tup [.int sure,.int T,.tup rows]] = some (mnN (spaL (touL (rows.filter celB) 0 T.toNat) (touL (rows.filter celB) 0 T.toNat)),[]) := by
 have hp := check_ok (isloop_eq h s0 s1 T1 T8 r1 (by omega))
 have hall := h.all
 have hfl : (rows.filter celB).length <= rows.length := List.length_filter_le _ _
 have c1 := comp_fm 0 (fB (f2 oNotN (fCall 1 [] F_place_of (aE (fV 0) aNil)) (fC .non))) celB (fV 0) (fun d => d) [] rfl rows [] (fun d hd => by
  obtain ⟨k0,r⟩ := hall d hd
  rcases r.cel with ⟨e,c⟩ | ⟨e,x,t,rfl,hx⟩
  ·obtain ⟨st,e1,_⟩ := c.place 0
   rw [e]
   exact ⟨by simp [e1],fun _ => by simp⟩
  ·rw [e]
   exact ⟨by simp [place_off hx],fun z => by cases z⟩) (by simp;omega)
 simp only [List.nil_append,List.map_id'] at c1
 have hcel : ∀ d ∈ rows.filter celB,Cel d := fun d hd => by
  obtain ⟨h1,h2⟩ := List.mem_filter.mp hd
  obtain ⟨k0,r⟩ := hall d h1
  rcases r.cel with ⟨_,c⟩ | ⟨e,_⟩
  ·exact c
  ·rw [e] at h2;cases h2
 have hlen := touL_len (rows.filter celB) T.toNat 0
 have hT : T.toNat <= 8 := by omega
 have hb1 : T.toNat * (rows.filter celB).length <= 8 * 5 := Nat.mul_le_mul hT (by omega)
 have c2 := comp_touch (rows.filter celB) hcel T.toNat 0 [] (by simp;omega)
 have hb2 : (touL (rows.filter celB) 0 T.toNat).length * (touL (rows.filter celB) 0 T.toNat).length <= 40 * 40 := Nat.mul_le_mul (by omega) (by omega)
 have c3 := comp_span (touL (rows.filter celB) 0 T.toNat) (touL (rows.filter celB) 0 T.toNat) [] (by simp;omega)
 simp only [List.nil_append,Int.natCast_zero] at c2 c3
 have hTb : (-4611686018427387904 : Int) <= T /\ T < 4611686018427387904 := by omega
 generalize touL (rows.filter celB) 0 T.toNat = tl at *
 generalize rows.filter celB = onc at *
 have e3 := intsD_map (spaL tl tl)
 generalize spaL tl tl = sp at *
 unfold F_reach
 rw [runV_e]
 unfold g_reach
 simp [envD,hp,capsD,c1,hTb,c2,c3,e3,mnN]
def hit (t1 t2 : Int) (h d : Dat) : List Int := if (celB h && celB d && decide (plc h t1 = plc d t2) && (wrB h || wrB d)) = true then [t2 - t1] else []
theorem hit_len (t1 t2 : Int) (h d : Dat) : (hit t1 t2 h d).length <= 1 := by unfold hit;split <;> simp
def stN (ns : List Int) (n : Nat) (lp : Dat) (fs : List Int) (s4 s5 s6 s7 s8 s9 : Sl) : Ev :=
 [.va (Scp ns),.ow (Twn n),.va lp,.ow (.lst (fs.map .int)),s4,s5,s6,s7,s8,s9]
theorem cel4 {x : String} (h : onC x) : (decide ("load" = x) || (decide ("take" = x) || (decide ("store" = x) || decide ("put" = x)))) = true := by
 rcases h with rfl | rfl | rfl | rfl <;> decide
theorem wr2 {x : String} {t : List Dat} : (decide ("store" = x) || decide ("put" = x)) = wrB (.tup (.str x :: t)) := by
 by_cases h : x = "store"
 ·subst h;simp [wrB,lit_inj]
 ·by_cases h2 : x = "put"
  ·subst h2;simp [wrB,lit_inj]
  ·have h3 : ¬ "store" = x := fun z => h z.symm
   have h4 : ¬ "put" = x := fun z => h2 z.symm
   simp [wrB,lit_inj,h,h2,h3,h4]
theorem body1 {T : Int} {M F M' F' : Int -> Prop} {h d : Dat} (hh : LR T M F h) (hd : LR T M' F' d) (ns : List Int) (n : Nat) (lp : Dat) (fs : List Int) (t1 t2 : Int) (s8 s9 : Sl) (hl : fs.length < 100000) :
  ∃ s8',b_law_1 (stN ns n lp fs (.va (.int t1)) (.va (.int t2)) (.va h) (.va d) s8 s9) = some (.nx (stN ns n lp (fs ++ hit t1 t2 h d) (.va (.int t1)) (.va (.int t2)) (.va h) (.va d) s8' s9)) := by
 have hl' : fs.length < 16777216 := by omega
 rcases hh.cel with ⟨e1,c1⟩ | ⟨e1,x,t,rfl,hx⟩
 ·rcases hd.cel with ⟨e2,c2⟩ | ⟨e2,y,u,rfl,hy⟩
  ·obtain ⟨x,b,s,r,rfl,hx,a0,a1,ht⟩ := c1.hd
   obtain ⟨y,b',s',r',rfl,hy,a0',a1',ht'⟩ := c2.hd
   have k1 := atturn_on hx (b := b) (s := s) (j := t1) (t := r) (small_mul a0 a1) ht
   have k2 := atturn_on hy (b := b') (s := s') (j := t2) (t := r') (small_mul a0' a1') ht'
   have m1 := cel4 hx
   have m2 := cel4 hy
   have w1 := wr2 (x := x) (t := .tup [.int b,.int s] :: r)
   have w2 := wr2 (x := y) (t := .tup [.int b',.int s'] :: r')
   unfold hit
   rw [e1,e2]
   simp only [plc]
   generalize wrB (.tup (.str x :: .tup [.int b,.int s] :: r)) = W1 at *
   generalize wrB (.tup (.str y :: .tup [.int b',.int s'] :: r')) = W2 at *
   by_cases hp : b + s * t1 = b' + s' * t2
   ·refine ⟨.va (.bl true),?_⟩
    cases W1 with
    | true =>
     unfold b_law_1
     simp [stN,m1,m2,k1,k2,hp,w1,hl']
    | false => cases W2 with
     | true =>
      have n1 : (decide ("load" = x) || decide ("take" = x)) = true := by rw [w1] at m1;simpa using m1
      unfold b_law_1
      simp [stN,n1,m2,k1,k2,hp,w1,w2,hl']
     | false =>
      have n1 : (decide ("load" = x) || decide ("take" = x)) = true := by rw [w1] at m1;simpa using m1
      have n2 : (decide ("load" = y) || decide ("take" = y)) = true := by rw [w2] at m2;simpa using m2
      unfold b_law_1
      simp [stN,n1,n2,k1,k2,hp,w1,w2]
   ·refine ⟨.va (.bl false),?_⟩
    unfold b_law_1
    simp [stN,m1,m2,k1,k2,hp]
  ·obtain ⟨x,b,s,r,rfl,hx,a0,a1,ht⟩ := c1.hd
   have m1 := cel4 hx
   obtain ⟨⟨z1,z2⟩,z3,z4⟩ := off_ne hy
   refine ⟨s8,?_⟩
   unfold hit b_law_1
   rw [e2]
   simp [stN,m1,z1,z2,z3,z4]
 ·obtain ⟨⟨z1,z2⟩,z3,z4⟩ := off_ne hx
  refine ⟨s8,?_⟩
  unfold hit b_law_1
  rw [e1]
  simp [stN,z1,z2,z3,z4]
def hitD (t1 t2 : Int) (h : Dat) (ds : List Dat) : List Int := (ds.map (hit t1 t2 h)).flatten
theorem hitD_len (t1 t2 : Int) (h : Dat) : ∀ ds : List Dat,(hitD t1 t2 h ds).length <= ds.length
 | [] => by simp [hitD]
 | d :: ds => by
  have := hitD_len t1 t2 h ds
  have := hit_len t1 t2 h d
  simp [hitD] at *
  omega
theorem loop7 {T : Int} {M F : Int -> Prop} {h : Dat} (hh : LR T M F h) (ns : List Int) (n : Nat) (lp : Dat) (t1 t2 : Int) (s9 : Sl) : ∀ (ds : List Dat) (fs : List Int) (s7 s8 : Sl),(∀ d ∈ ds,∃ M' F',LR T M' F' d) -> fs.length + ds.length < 100000 →
  ∃ s7' s8',forV (gN 7) b_law_1 ds (stN ns n lp fs (.va (.int t1)) (.va (.int t2)) (.va h) s7 s8 s9) = some (.nx (stN ns n lp (fs ++ hitD t1 t2 h ds) (.va (.int t1)) (.va (.int t2)) (.va h) s7' s8' s9))
 | [],fs,s7,s8,_,_ => ⟨s7,s8,by simp [hitD]⟩
 | d :: ds,fs,s7,s8,hall,hl => by
  simp only [List.length_cons] at hl
  obtain ⟨M',F',hd⟩ := hall d List.mem_cons_self
  obtain ⟨u8,e⟩ := body1 hh hd ns n lp fs t1 t2 s8 s9 (by omega)
  have := hit_len t1 t2 h d
  obtain ⟨s7',s8',ih⟩ := loop7 hh ns n lp t1 t2 s9 ds (fs ++ hit t1 t2 h d) (.va d) u8 (fun x hx => hall x (List.mem_cons_of_mem _ hx)) (by simp;omega)
  refine ⟨s7',s8',?_⟩
  rw [forV_c,gN_e,qf1_s,show (stN ns n lp fs (.va (.int t1)) (.va (.int t2)) (.va h) s7 s8 s9).set 7 (.va d) = stN ns n lp fs (.va (.int t1)) (.va (.int t2)) (.va h) (.va d) s8 s9 from rfl,e,qf2_n,ih]
  simp [hitD]
def hitH (t1 t2 : Int) (rows hs : List Dat) : List Int := (hs.map fun h => hitD t1 t2 h rows).flatten
theorem hitH_len (t1 t2 : Int) (rows : List Dat) : ∀ hs : List Dat,(hitH t1 t2 rows hs).length <= hs.length * rows.length
 | [] => by simp [hitH]
 | h :: hs => by
  have a := hitH_len t1 t2 rows hs
  have b := hitD_len t1 t2 h rows
  simp only [hitH,List.map_cons,List.flatten_cons,List.length_append,List.length_cons] at *
  rw [Nat.add_mul,Nat.one_mul]
  omega
theorem loop6 {T sure : Int} {rows : List Dat} (hall : ∀ d ∈ rows,∃ M F,LR T M F d) (ns : List Int) (n : Nat) (t1 t2 : Int) (s9 : Sl) : ∀ (hs : List Dat) (fs : List Int) (s6 s7 s8 : Sl),(∀ d ∈ hs,∃ M F,LR T M F d) -> fs.length + hs.length * rows.length < 100000 →
  ∃ s6' s7' s8',forV (gN 6) b_law_2 hs (stN ns n (.tup [.int sure,.int T,.tup rows]) fs (.va (.int t1)) (.va (.int t2)) s6 s7 s8 s9) = some (.nx (stN ns n (.tup [.int sure,.int T,.tup rows]) (fs ++ hitH t1 t2 rows hs) (.va (.int t1)) (.va (.int t2)) s6' s7' s8' s9))
 | [],fs,s6,s7,s8,_,_ => ⟨s6,s7,s8,by simp [hitH]⟩
 | h :: hs,fs,s6,s7,s8,hh,hl => by
  rw [List.length_cons,Nat.add_mul,Nat.one_mul] at hl
  obtain ⟨M,F,r⟩ := hh h List.mem_cons_self
  obtain ⟨u7,u8,e⟩ := loop7 r ns n (.tup [.int sure,.int T,.tup rows]) t1 t2 s9 rows fs s7 s8 hall (by omega)
  have := hitD_len t1 t2 h rows
  obtain ⟨s6',s7',s8',ih⟩ := loop6 (sure := sure) hall ns n t1 t2 s9 hs (fs ++ hitD t1 t2 h rows) (.va h) u7 u8 (fun x hx => hh x (List.mem_cons_of_mem _ hx)) (by simp;omega)
  refine ⟨s6',s7',s8',?_⟩
  have e2 : b_law_2 (stN ns n (.tup [.int sure,.int T,.tup rows]) fs (.va (.int t1)) (.va (.int t2)) (.va h) s7 s8 s9) = forV (gN 7) b_law_1 rows (stN ns n (.tup [.int sure,.int T,.tup rows]) fs (.va (.int t1)) (.va (.int t2)) (.va h) s7 s8 s9) := by
   unfold b_law_2
   simp [stN]
  rw [forV_c,gN_e,qf1_s,show (stN ns n (.tup [.int sure,.int T,.tup rows]) fs (.va (.int t1)) (.va (.int t2)) s6 s7 s8 s9).set 6 (.va h) = stN ns n (.tup [.int sure,.int T,.tup rows]) fs (.va (.int t1)) (.va (.int t2)) (.va h) s7 s8 s9 from rfl,e2,e,qf2_n,ih]
  simp [hitH]
def hit5 (rows : List Dat) (t1 : Int) : Nat -> Nat -> List Int
 | _,0 => []
 | j,k + 1 => hitH t1 j rows rows ++ hit5 rows t1 (j + 1) k
theorem hit5_len {rows : List Dat} (r5 : rows.length <= 5) (t1 : Int) : ∀ (k j : Nat),(hit5 rows t1 j k).length <= 25 * k
 | 0,j => by simp [hit5]
 | k + 1,j => by
  have a := hit5_len r5 t1 k (j + 1)
  have b := hitH_len t1 j rows rows
  have c : rows.length * rows.length <= 5 * 5 := Nat.mul_le_mul r5 r5
  simp only [hit5,List.length_append]
  omega
theorem loop5 {T sure : Int} {rows : List Dat} (hall : ∀ d ∈ rows,∃ M F,LR T M F d) (r5 : rows.length <= 5) (ns : List Int) (n : Nat) (t1 : Int) (s9 : Sl) : ∀ (k j : Nat) (fs : List Int) (s5 s6 s7 s8 : Sl),fs.length + 25 * k < 50000 →
  ∃ s5' s6' s7' s8',forV (gN 5) b_law_3 (rngD (j : Int) k) (stN ns n (.tup [.int sure,.int T,.tup rows]) fs (.va (.int t1)) s5 s6 s7 s8 s9) = some (.nx (stN ns n (.tup [.int sure,.int T,.tup rows]) (fs ++ hit5 rows t1 j k) (.va (.int t1)) s5' s6' s7' s8' s9))
 | 0,j,fs,s5,s6,s7,s8,_ => ⟨s5,s6,s7,s8,by simp [rngD,hit5]⟩
 | k + 1,j,fs,s5,s6,s7,s8,hl => by
  have c : rows.length * rows.length <= 5 * 5 := Nat.mul_le_mul r5 r5
  obtain ⟨u6,u7,u8,e⟩ := loop6 (sure := sure) hall ns n t1 (j : Int) s9 rows fs s6 s7 s8 hall (by omega)
  have := hitH_len t1 j rows rows
  obtain ⟨s5',s6',s7',s8',ih⟩ := loop5 (sure := sure) hall r5 ns n t1 s9 k (j + 1) (fs ++ hitH t1 j rows rows) (.va (.int j)) u6 u7 u8 (by simp;omega)
  refine ⟨s5',s6',s7',s8',?_⟩
  have e2 : b_law_3 (stN ns n (.tup [.int sure,.int T,.tup rows]) fs (.va (.int t1)) (.va (.int (j : Int))) s6 s7 s8 s9) = forV (gN 6) b_law_2 rows (stN ns n (.tup [.int sure,.int T,.tup rows]) fs (.va (.int t1)) (.va (.int (j : Int))) s6 s7 s8 s9) := by
   unfold b_law_3
   simp [stN]
  rw [rngD_succ,forV_c,gN_e,qf1_s,show (stN ns n (.tup [.int sure,.int T,.tup rows]) fs (.va (.int t1)) s5 s6 s7 s8 s9).set 5 (.va (.int (j : Int))) = stN ns n (.tup [.int sure,.int T,.tup rows]) fs (.va (.int t1)) (.va (.int (j : Int))) s6 s7 s8 s9 from rfl,e2,e,qf2_n,show ((j : Int) + 1) = ((j + 1 : Nat) : Int) by push_cast;rfl,ih]
  simp [hit5]
def hit4 (rows : List Dat) (T : Nat) : Nat -> Nat -> List Int
 | _,0 => []
 | j,k + 1 => hit5 rows (j : Int) (j + 1) (T - (j + 1)) ++ hit4 rows T (j + 1) k
theorem iR2_i {f g : VF} {δ δ1 δ2 : Ev} {i j : Int} (h1 : f δ = some (.int i,δ1)) (h2 : g δ1 = some (.int j,δ2)) (hb : (-4611686018427387904 <= i /\ i < 4611686018427387904) /\ -4611686018427387904 <= j /\ j < 4611686018427387904) : iR2 f g δ = some (rngD i (j - i).toNat,δ2) := by
 unfold iR2
 rw [h1,Option.bind_some,h2,Option.bind_some]
 exact if_pos hb
theorem loop4 {T sure : Int} {rows : List Dat} (hall : ∀ d ∈ rows,∃ M F,LR T M F d) (r5 : rows.length <= 5) (T1 : 1 <= T) (T8 : T <= 8) (ns : List Int) (n : Nat) (s9 : Sl) : ∀ (k j : Nat) (fs : List Int) (s4 s5 s6 s7 s8 : Sl),(j : Int) + k <= T -> fs.length + 200 * k < 40000 →
  ∃ s4' s5' s6' s7' s8',forV (gN 4) b_law_4 (rngD (j : Int) k) (stN ns n (.tup [.int sure,.int T,.tup rows]) fs s4 s5 s6 s7 s8 s9) = some (.nx (stN ns n (.tup [.int sure,.int T,.tup rows]) (fs ++ hit4 rows T.toNat j k) s4' s5' s6' s7' s8' s9))
 | 0,j,fs,s4,s5,s6,s7,s8,_,_ => ⟨s4,s5,s6,s7,s8,by simp [rngD,hit4]⟩
 | k + 1,j,fs,s4,s5,s6,s7,s8,hj,hl => by
  have hk8 : T.toNat - (j + 1) <= 8 := by omega
  obtain ⟨u5,u6,u7,u8,e⟩ := loop5 (sure := sure) hall r5 ns n (j : Int) s9 (T.toNat - (j + 1)) (j + 1) fs s5 s6 s7 s8 (by omega)
  have := hit5_len r5 (j : Int) (T.toNat - (j + 1)) (j + 1)
  obtain ⟨s4',s5',s6',s7',s8',ih⟩ := loop4 (sure := sure) hall r5 T1 T8 ns n s9 k (j + 1) (fs ++ hit5 rows (j : Int) (j + 1) (T.toNat - (j + 1))) (.va (.int j)) u5 u6 u7 u8 (by push_cast at hj ⊢;omega) (by simp;omega)
  refine ⟨s4',s5',s6',s7',s8',?_⟩
  have ei := iR2_i (f := f2 oPlus (fV 4) (fC (.int 1))) (g := f2 oIxA (fV 2) (fC (.int 1))) (δ := stN ns n (.tup [.int sure,.int T,.tup rows]) fs (.va (.int (j : Int))) s5 s6 s7 s8 s9) (δ1 := stN ns n (.tup [.int sure,.int T,.tup rows]) fs (.va (.int (j : Int))) s5 s6 s7 s8 s9) (δ2 := stN ns n (.tup [.int sure,.int T,.tup rows]) fs (.va (.int (j : Int))) s5 s6 s7 s8 s9) (i := (j : Int) + 1) (j := T) (by simp [stN]) (by simp [stN]) (by omega)
  rw [show (T - ((j : Int) + 1)).toNat = T.toNat - (j + 1) by omega,show ((j : Int) + 1) = ((j + 1 : Nat) : Int) by push_cast;rfl] at ei
  have e2 : b_law_4 (stN ns n (.tup [.int sure,.int T,.tup rows]) fs (.va (.int (j : Int))) s5 s6 s7 s8 s9) = forV (gN 5) b_law_3 (rngD ((j + 1 : Nat) : Int) (T.toNat - (j + 1))) (stN ns n (.tup [.int sure,.int T,.tup rows]) fs (.va (.int (j : Int))) s5 s6 s7 s8 s9) := by
   unfold b_law_4
   rw [sFor_e,ei,qF_s]
  rw [rngD_succ,forV_c,gN_e,qf1_s,show (stN ns n (.tup [.int sure,.int T,.tup rows]) fs s4 s5 s6 s7 s8 s9).set 4 (.va (.int (j : Int))) = stN ns n (.tup [.int sure,.int T,.tup rows]) fs (.va (.int (j : Int))) s5 s6 s7 s8 s9 from rfl,e2,e,qf2_n,show ((j : Int) + 1) = ((j + 1 : Nat) : Int) by push_cast;rfl,ih]
  simp [hit4]
def Bt (onc : List Dat) (T : Nat) (v : Int) : Prop := ∃ (t1 t2 : Nat) (h d : Dat),t1 < t2 /\ t2 < T /\ h ∈ onc /\ d ∈ onc /\ plc h t1 = plc d t2 /\ (wrB h = true ∨ wrB d = true) /\ v = (t2 : Int) - t1
theorem touL_mem (onc : List Dat) : ∀ (k j : Nat) (z : Int × Int × Bool),z ∈ touL onc j k ↔ ∃ (t : Nat) (d : Dat),j <= t /\ t < j + k /\ d ∈ onc /\ z = tch t d
 | 0,j,z => by simp [touL];omega
 | k + 1,j,z => by
  simp only [touL,List.mem_append,List.mem_map,touL_mem onc k (j + 1) z]
  constructor
  ·rintro (⟨d,hd,rfl⟩ | ⟨t,d,h1,h2,h3,h4⟩)
   ·exact ⟨j,d,Nat.le_refl _,by omega,hd,rfl⟩
   ·exact ⟨t,d,by omega,by omega,h3,h4⟩
  ·rintro ⟨t,d,h1,h2,h3,h4⟩
   by_cases ht : t = j
   ·exact .inl ⟨d,h3,by rw [h4,ht]⟩
   ·exact .inr ⟨t,d,by omega,by omega,h3,h4⟩
theorem spaL_mem (all : List (Int × Int × Bool)) : ∀ (ds : List (Int × Int × Bool)) (v : Int),v ∈ spaL all ds ↔ ∃ a ∈ ds,∃ b ∈ all,cnd a b = true /\ v = b.1 - a.1
 | [],v => by simp [spaL]
 | a :: ds,v => by
  simp only [spaL,List.mem_append,List.mem_map,List.mem_filter,spaL_mem all ds v,List.mem_cons]
  constructor
  ·rintro (⟨b,⟨h1,h2⟩,rfl⟩ | ⟨c,h1,b,h2,h3,h4⟩)
   ·exact ⟨a,.inl rfl,b,h1,h2,rfl⟩
   ·exact ⟨c,.inr h1,b,h2,h3,h4⟩
  ·rintro ⟨c,rfl | h1,b,h2,h3,h4⟩
   ·exact .inl ⟨b,⟨h2,h3⟩,h4.symm⟩
   ·exact .inr ⟨c,h1,b,h2,h3,h4⟩
theorem prog_mem (onc : List Dat) (T : Nat) (v : Int) : v ∈ spaL (touL onc 0 T) (touL onc 0 T) ↔ Bt onc T v := by
 rw [spaL_mem]
 constructor
 ·rintro ⟨a,ha,b,hb,hc,rfl⟩
  obtain ⟨t1,h,_,l1,h1,rfl⟩ := (touL_mem onc T 0 a).mp ha
  obtain ⟨t2,d,_,l2,h2,rfl⟩ := (touL_mem onc T 0 b).mp hb
  simp only [cnd,tch,Bool.and_eq_true,Bool.or_eq_true] at hc
  have q1 := of_decide_eq_true hc.1
  exact ⟨t1,t2,h,d,by omega,by omega,h1,h2,(of_decide_eq_true hc.2.1).symm,hc.2.2,rfl⟩
 ·rintro ⟨t1,t2,h,d,l1,l2,h1,h2,h3,h4,rfl⟩
  refine ⟨tch t1 h,(touL_mem onc T 0 _).mpr ⟨t1,h,by omega,by omega,h1,rfl⟩,tch t2 d,(touL_mem onc T 0 _).mpr ⟨t2,d,by omega,by omega,h2,rfl⟩,?_,rfl⟩
  simp only [cnd,tch,Bool.and_eq_true,Bool.or_eq_true]
  exact ⟨decide_eq_true (by omega),decide_eq_true h3.symm,h4⟩
theorem hitH_mem (t1 t2 : Int) (rows : List Dat) (v : Int) : v ∈ hitH t1 t2 rows rows ↔ ∃ h ∈ rows,∃ d ∈ rows,celB h = true /\ celB d = true /\ plc h t1 = plc d t2 /\ (wrB h = true ∨ wrB d = true) /\ v = t2 - t1 := by
 unfold hitH hitD hit
 simp only [List.mem_flatten,List.mem_map]
 constructor
 ·rintro ⟨l,⟨h,h1,rfl⟩,hv⟩
  simp only [List.mem_flatten,List.mem_map] at hv
  obtain ⟨l2,⟨d,h2,rfl⟩,hv⟩ := hv
  split at hv
  ·rename_i hc
   simp only [Bool.and_eq_true,decide_eq_true_eq,Bool.or_eq_true] at hc
   exact ⟨h,h1,d,h2,hc.1.1.1,hc.1.1.2,hc.1.2,hc.2,List.mem_singleton.mp hv⟩
  ·cases hv
 ·rintro ⟨h,h1,d,h2,c1,c2,c3,c4,rfl⟩
  refine ⟨_,⟨h,h1,rfl⟩,?_⟩
  simp only [List.mem_flatten,List.mem_map]
  refine ⟨_,⟨d,h2,rfl⟩,?_⟩
  rw [if_pos (by simp only [Bool.and_eq_true,decide_eq_true_eq,Bool.or_eq_true];exact ⟨⟨⟨c1,c2⟩,c3⟩,c4⟩)]
  exact List.mem_singleton.mpr rfl
theorem hit5_mem (rows : List Dat) (t1 : Int) (v : Int) : ∀ (k j : Nat),v ∈ hit5 rows t1 j k ↔ ∃ t2 : Nat,j <= t2 /\ t2 < j + k /\ v ∈ hitH t1 t2 rows rows
 | 0,j => by simp [hit5];omega
 | k + 1,j => by
  simp only [hit5,List.mem_append,hit5_mem rows t1 v k (j + 1)]
  constructor
  ·rintro (h | ⟨t,h1,h2,h3⟩)
   ·exact ⟨j,Nat.le_refl _,by omega,h⟩
   ·exact ⟨t,by omega,by omega,h3⟩
  ·rintro ⟨t,h1,h2,h3⟩
   by_cases ht : t = j
   ·exact .inl (by rw [ht] at h3;exact h3)
   ·exact .inr ⟨t,by omega,by omega,h3⟩
theorem hit4_mem (rows : List Dat) (T : Nat) (v : Int) : ∀ (k j : Nat),v ∈ hit4 rows T j k ↔ ∃ t1 : Nat,j <= t1 /\ t1 < j + k /\ v ∈ hit5 rows t1 (t1 + 1) (T - (t1 + 1))
 | 0,j => by simp [hit4];omega
 | k + 1,j => by
  simp only [hit4,List.mem_append,hit4_mem rows T v k (j + 1)]
  constructor
  ·rintro (h | ⟨t,h1,h2,h3⟩)
   ·exact ⟨j,Nat.le_refl _,by omega,h⟩
   ·exact ⟨t,by omega,by omega,h3⟩
  ·rintro ⟨t,h1,h2,h3⟩
   by_cases ht : t = j
   ·exact .inl (by rw [ht] at h3;exact h3)
   ·exact .inr ⟨t,by omega,by omega,h3⟩
theorem law_mem (rows : List Dat) (T : Nat) (v : Int) : v ∈ hit4 rows T 0 T ↔ Bt (rows.filter celB) T v := by
 rw [hit4_mem]
 constructor
 ·rintro ⟨t1,_,l1,hv⟩
  obtain ⟨t2,l2,l3,hv⟩ := (hit5_mem rows t1 v _ _).mp hv
  obtain ⟨h,h1,d,h2,c1,c2,c3,c4,rfl⟩ := (hitH_mem t1 t2 rows v).mp hv
  exact ⟨t1,t2,h,d,by omega,by omega,List.mem_filter.mpr ⟨h1,c1⟩,List.mem_filter.mpr ⟨h2,c2⟩,c3,c4,rfl⟩
 ·rintro ⟨t1,t2,h,d,l1,l2,h1,h2,c3,c4,rfl⟩
  obtain ⟨h1,c1⟩ := List.mem_filter.mp h1
  obtain ⟨h2,c2⟩ := List.mem_filter.mp h2
  exact ⟨t1,by omega,by omega,(hit5_mem rows t1 _ _ _).mpr ⟨t2,by omega,by omega,(hitH_mem t1 t2 rows _).mpr ⟨h,h1,d,h2,c1,c2,c3,c4,rfl⟩⟩⟩
theorem minI_in {ns : List Int} (h : ns ≠ []) : minI ns ∈ ns /\ ∀ a ∈ ns,minI ns <= a := by
 have key : ∀ ns : List Int,ns ≠ [] -> ∃ m ∈ ns,∀ a ∈ ns,m <= a := by
  intro ns
  induction ns with
  | nil => intro h;exact absurd rfl h
  | cons x ns ih =>
   intro _
   by_cases hz : ns = []
   ·subst hz
    exact ⟨x,List.mem_cons_self,fun a ha => by rw [List.mem_singleton.mp ha];exact Int.le_refl _⟩
   ·obtain ⟨m,hm,hl⟩ := ih hz
    by_cases hx : x <= m
    ·exact ⟨x,List.mem_cons_self,fun a ha => by
      rcases List.mem_cons.mp ha with z | z
      ·rw [z];exact Int.le_refl _
      ·have := hl a z;omega⟩
    ·exact ⟨m,List.mem_cons_of_mem _ hm,fun a ha => by
      rcases List.mem_cons.mp ha with z | z
      ·rw [z];omega
      ·exact hl a z⟩
 obtain ⟨m,hm,hl⟩ := key ns h
 rw [<- minI_eq hm hl]
 exact ⟨hm,hl⟩
theorem oBest_e {fs : List Int} (h : fs ≠ []) : oBest minI (.lst (fs.map .int)) = some (.int (minI fs)) := by
 cases fs with
 | nil => exact absurd rfl h
 | cons f fs =>
  show (intsD ((f :: fs).map .int)).map (fun ns => Dat.int (minI ns)) = _
  rw [intsD_map]
  rfl
end L2
namespace RR
open PySem L2
theorem law_true (ns : List Int) (hl : ns.length <= 63) : F_law [.lst (ns.map .int)] = some (.bl true,[]) := by
 obtain ⟨n,sure,T,rows,kds,hn,s0,s1,T1,T8,r1,r5,h,e⟩ := lawloop_eq ns hl
 have er := reach_eq h s0 s1 T1 T8 r1 r5
 have hall : ∀ d ∈ rows,∃ M F,LR T M F d := fun d hd => by
  obtain ⟨k0,r⟩ := h.all d hd
  exact ⟨_,_,r⟩
 obtain ⟨t4,t5,t6,t7,t8,e4⟩ := loop4 (sure := sure) hall r5 T1 T8 ns n .no T.toNat 0 [] .no .no .no .no .no (by omega) (by simp;omega)
 have same : ∀ v,v ∈ spaL (touL (rows.filter celB) 0 T.toNat) (touL (rows.filter celB) 0 T.toNat) ↔ v ∈ hit4 rows T.toNat 0 T.toNat := fun v => (prog_mem _ _ v).trans (law_mem rows _ v).symm
 generalize spaL (touL (rows.filter celB) 0 T.toNat) (touL (rows.filter celB) 0 T.toNat) = sp at *
 simp only [List.nil_append,Int.natCast_zero,stN,List.map_nil] at e4
 generalize hit4 rows T.toNat 0 T.toNat = fs at *
 have hTb : (-4611686018427387904 : Int) <= T /\ T < 4611686018427387904 := by omega
 have ht0 : Dat.lst [] = Twn 0 := rfl
 have hS : Dat.lst (ns.map .int) = Scp ns := rfl
 have hx : envD [] 10 [Scp ns] = [.va (Scp ns),.no,.no,.no,.no,.no,.no,.no,.no,.no] := (rfl)
 have hset : (sSet 1 (xO (fLst fNil))) [.va (Scp ns),.no,.no,.no,.no,.no,.no,.no,.no,.no] = some (.nx [.va (Scp ns),.ow (Twn 0),.no,.no,.no,.no,.no,.no,.no,.no]) := (rfl)
 have eq0 := eq_nil fs
 rw [hS]
 unfold F_law
 rw [runV_e,ge_law,hx,sSeq_e,hset,qS_n]
 by_cases hz : fs = []
 ·subst hz
  have hs : sp = [] := List.eq_nil_iff_forall_not_mem.mpr fun v hv => nomatch (same v).mp hv
  have em : mnN sp = .non := by simp [mnN,hs]
  rw [em] at er
  simp only [List.map_nil,List.isEmpty_nil] at eq0 e4
  simp [e,hTb,e4,er,eq0]
 ·have hs : sp ≠ [] := fun z => by
   obtain ⟨v,hv⟩ := List.exists_mem_of_ne_nil fs hz
   have := (same v).mpr hv
   rw [z] at this
   cases this
  have hmin : minI sp = minI fs := minI_eq ((same _).mp (minI_in hs).1) fun a ha => (minI_in hs).2 a ((same a).mpr ha)
  have em : mnN sp = .int (minI fs) := by simp [mnN,hs,hmin]
  rw [em] at er
  have eb := oBest_e hz
  have hem : fs.isEmpty = false := by cases fs with
   | nil => exact absurd rfl hz
   | cons => rfl
  rw [hem] at eq0
  have es : ∀ i : Int,F_law_same_number [.int i,.int i] = some (.bl true,[]) := fun i => by
   unfold F_law_same_number
   rw [runV_e]
   unfold g_law_same_number
   simp [envD]
  simp [e,hTb,e4,er,eq0,eb,es]
end RR
namespace KK
open PySem PySem.W
abbrev g (a i : Nat) (n : Str) (d m : Value) : Obj := ⟨.type "function",none,.func (fnOf n n (L2.defArgs (RR.top i)) (L2.defBody (RR.top i)) (L2.defScope (RR.top i)) d .none .none m none (.ref (a - 1)) .none),#[]⟩
theorem p (P : Params) (a i : Nat) (n : Str) (m : Value) (h1 : nsIn (K P) mainGlobals n = some (some (.ref a)) := by kernel_rfl) (h2 : (K P).lookup a = some (g a i n .none m) := by kernel_rfl) (h3 : codeIn (K P) (.ref (a - 1)) n = true := by kernel_rfl) : L2.A4 (K P) n (RR.top i) a := L2.a4 h1 h2 h3 (by unfold keepIn;simp only [h2])
end KK
namespace RR
open PySem L2
theorem all_mk {l : PySem.W.OpenLaw} {w : World} {K : PySem.W.Frag} {h : Heap} {mg : Str -> Option Value} {fa : Addr} (X : K.In h) (G : h.Ns mainGlobals mg) (hfa : mg "law" = some (.ref fa))
  {f_x0 : Addr}
  {f_x1 : Addr}
  {f_x2 : Addr}
  {f_x3 : Addr}
  {f_x4 : Addr}
  {f_x5 : Addr}
  {f_x6 : Addr}
  {f_x7 : Addr}
  {f_x8 : Addr}
  {f_x9 : Addr}
  {f_x10 : Addr}
  {f_x11 : Addr}
  {f_x12 : Addr}
  {f_x13 : Addr}
  {f_x14 : Addr}
  {f_x15 : Addr}
  {f_x16 : Addr}
  {f_x17 : Addr}
  {f_x18 : Addr}
  {f_x19 : Addr}
  {f_x20 : Addr}
  {f_x21 : Addr}
  {f_x22 : Addr}
  {f_x23 : Addr}
  {f_x24 : Addr}
  {f_x25 : Addr}
  {f_x26 : Addr}
  {kV_x26 dc_x26 pm_x26 cd_x26 ct_x26 : Value}
  {t1 : Tok}
  {t2 : Tok}
  {t3 : Tok}
  {t4 : Tok}
  {t5 : Tok}
  {t6 : Tok}
  {t7 : Tok}
  {t8 : Tok}
  {a9 : Addr}
  {t10 : Tok}
  {t11 : Tok}
  {t12 : Tok}
  {t13 : Tok}
  {a14 : Addr}
  {t15 : Tok}
  {t16 : Tok}
  {t17 : Tok}
  {t18 : Tok}
  {t19 : Tok}
  {t20 : Tok}
  {t21 : Tok}
  {a22 : Addr}
  {t23 : Tok}
  {t24 : Tok}
  {t25 : Tok}
  {a26 : Addr}
  {t27 : Tok}
  {a28 : Addr}
  {t29 : Tok}
  {t30 : Tok}
  {t31 : Tok}
  {a32 : Addr}
  {t33 : Tok}
  {t34 : Tok}
  {a35 : Addr}
  {t36 : Tok}
  {t37 : Tok}
  {t38 : Tok}
  {a39 : Addr}
  {a40 : Addr}
  {h41 : Int}
  {h42 : Int}
  {h43 : Int}
  {h44 : Int}
  {h45 : Int}
  {h46 : Int}
  {t47 : Tok}
  {t48 : Tok}
  {a49 : Addr}
  {t50 : Tok}
  {t51 : Tok}
  {a52 : Addr}
  {t53 : Tok}
  {t54 : Tok}
  {t55 : Tok}
  (p_x0 : A4 K "is_whole" (top 6) f_x0)
  (p_x1 : A4 K "parts_of" (top 14) f_x1)
  (p_x2 : A4 K "makes_word" (top 15) f_x2)
  (p_x3 : A4 K "place_of" (top 16) f_x3)
  (p_x4 : A4 K "may_name" (top 17) f_x4)
  (p_x5 : A4 K "fits" (top 18) f_x5)
  (p_x6 : A4 K "is_row" (top 19) f_x6)
  (p_x7 : A4 K "writes" (top 21) f_x7)
  (p_x8 : A4 K "place_in" (top 26) f_x8)
  (p_x9 : A4 K "in_turn" (top 27) f_x9)
  (p_x10 : A4 K "is_stride" (top 28) f_x10)
  (p_x11 : A4 K "is_last" (top 29) f_x11)
  (p_x12 : A4 K "is_loop_row" (top 30) f_x12)
  (p_x13 : A4 K "are_loop_rows" (top 31) f_x13)
  (p_x14 : A4 K "is_loop" (top 32) f_x14)
  (p_x15 : A4 K "check_loop" (top 33) f_x15)
  (p_x16 : A4 K "reach" (top 34) f_x16)
  (p_x17 : A4 K "_law_cell_at" (top 36) f_x17)
  (p_x18 : A4 K "_law_mixed" (top 37) f_x18)
  (p_x19 : A4 K "_law_draw" (top 38) f_x19)
  (p_x20 : A4 K "_law_pick" (top 39) f_x20)
  (p_x21 : A4 K "_law_same_number" (top 40) f_x21)
  (p_x22 : A4 K "_law_place" (top 41) f_x22)
  (p_x23 : A4 K "_law_row" (top 42) f_x23)
  (p_x24 : A4 K "_law_loop" (top 43) f_x24)
  (p_x25 : A4 K "_law_at_turn" (top 44) f_x25)
  (a_x26 : PySem.W.nsIn K mainGlobals "law" = some (some (.ref f_x26)))
  (l_x26 : K.lookup f_x26 = some ⟨.type "function",none,.func (PySem.W.fnOf "law" "law" (defArgs (top 45)) (defBody (top 45)) (defScope (top 45)) .none kV_x26 dc_x26 pm_x26 none cd_x26 ct_x26),#[]⟩)
  (c_x26 : PySem.W.codeIn K cd_x26 "law" = true)
  (k_x26 : PySem.W.keepIn K (.ref f_x26) = true)
  (z_len : PySem.W.nsIn K mainGlobals "len" = some none)
  (z_range : PySem.W.nsIn K mainGlobals "range" = some none)
  (z_min : PySem.W.nsIn K mainGlobals "min" = some none)
  (z_max : PySem.W.nsIn K mainGlobals "max" = some none)
  (z_list : PySem.W.nsIn K mainGlobals "list" = some none)
  (z_tuple : PySem.W.nsIn K mainGlobals "tuple" = some none)
  (z_sorted : PySem.W.nsIn K mainGlobals "sorted" = some none)
  (z_isinstance : PySem.W.nsIn K mainGlobals "isinstance" = some none)
  (z_bool : PySem.W.nsIn K mainGlobals "bool" = some none)
  (z_int : PySem.W.nsIn K mainGlobals "int" = some none)
  (z_str : PySem.W.nsIn K mainGlobals "str" = some none)
  (z_enumerate : PySem.W.nsIn K mainGlobals "enumerate" = some none)
  (z_zip : PySem.W.nsIn K mainGlobals "zip" = some none)
  (z_all : PySem.W.nsIn K mainGlobals "all" = some none)
  (z_any : PySem.W.nsIn K mainGlobals "any" = some none)
  (z_dict : PySem.W.nsIn K mainGlobals "dict" = some none)
  (z_abs : PySem.W.nsIn K mainGlobals "abs" = some none)
  (z_sum : PySem.W.nsIn K mainGlobals "sum" = some none)
  (g_MOST_WORD : PySem.W.nsIn K mainGlobals "MOST_WORD" = some (some (.int 999 t1)))
  (o_a9 : K.lookup a9 = some ⟨.type "tuple",none,.seq #[.str "plus" t2,.str "minus" t3,.str "times" t4,.str "least" t5,.str "most" t6,.str "less" t7,.str "over" t8] 0,#[]⟩)
  (g_DEEDS : PySem.W.nsIn K mainGlobals "DEEDS" = some (some (.ref a9)))
  (g_MOST_SURE : PySem.W.nsIn K mainGlobals "MOST_SURE" = some (some (.int 64 t10)))
  (g_MOST_PLACE : PySem.W.nsIn K mainGlobals "MOST_PLACE" = some (some (.int 63 t11)))
  (o_a14 : K.lookup a14 = some ⟨.type "tuple",none,.seq #[.str "row" t12,.str "row" t13] 0,#[]⟩)
  (g_DEED_PARTS : PySem.W.nsIn K mainGlobals "DEED_PARTS" = some (some (.ref a14)))
  (o_a22 : K.lookup a22 = some ⟨.type "tuple",none,.seq #[.str "word" t21] 0,#[]⟩)
  (o_a26 : K.lookup a26 = some ⟨.type "tuple",none,.seq #[.str "row" t23,.str "row" t24,.str "row" t25] 0,#[]⟩)
  (o_a28 : K.lookup a28 = some ⟨.type "tuple",none,.seq #[.str "place" t27] 0,#[]⟩)
  (o_a32 : K.lookup a32 = some ⟨.type "tuple",none,.seq #[.str "place" t29,.str "row" t30,.str "row" t31] 0,#[]⟩)
  (o_a35 : K.lookup a35 = some ⟨.type "tuple",none,.seq #[.str "place" t33,.str "row" t34] 0,#[]⟩)
  (o_a39 : K.lookup a39 = some ⟨.type "tuple",none,.seq #[.str "place" t36,.str "row" t37,.str "row" t38] 0,#[]⟩)
  (o_a40 : K.lookup a40 = some ⟨.type "dict",none,.dict #[⟨h41,.str "number" t15,.ref a22⟩,⟨h42,.str "pick" t16,.ref a26⟩,⟨h43,.str "load" t17,.ref a28⟩,⟨h44,.str "take" t18,.ref a32⟩,⟨h45,.str "store" t19,.ref a35⟩,⟨h46,.str "put" t20,.ref a39⟩] 6,#[]⟩)
  (m_a40 : (a40 == sysModules) = false)
  (g_OTHER_PARTS : PySem.W.nsIn K mainGlobals "OTHER_PARTS" = some (some (.ref a40)))
  (o_a49 : K.lookup a49 = some ⟨.type "tuple",none,.seq #[.str "load" t47,.str "take" t48] 0,#[]⟩)
  (g_READERS : PySem.W.nsIn K mainGlobals "READERS" = some (some (.ref a49)))
  (o_a52 : K.lookup a52 = some ⟨.type "tuple",none,.seq #[.str "store" t50,.str "put" t51] 0,#[]⟩)
  (g_WRITERS : PySem.W.nsIn K mainGlobals "WRITERS" = some (some (.ref a52)))
  (g_MOST_TURNS : PySem.W.nsIn K mainGlobals "MOST_TURNS" = some (some (.int 8 t53)))
  (g_MOST_LOOP_ROWS : PySem.W.nsIn K mainGlobals "MOST_LOOP_ROWS" = some (some (.int 8 t54)))
  (g_MOST_STEP : PySem.W.nsIn K mainGlobals "MOST_STEP" = some (some (.int 9 t55))) :
  ∃ fd : FuncData,(∀ (s : Shared) (v : Value),BindsTo s fd ⟨[v],[]⟩ [("_law_script",v)]) /\ ∀ base : Heap,K.In base -> base.Ns mainGlobals mg -> FnOk l.prog w K mg base CX0 10 fa fd ["_law_script"] (spV K [] 1 F_law) := by
 have e := hfa.symm.trans (PySem.W.mg_of X G a_x26)
 cases e
 have T : Txt K mg := ⟨fun _ _ e => PySem.W.mg_of X G e,
   PySem.W.mg_none_of X G z_len,
   PySem.W.mg_none_of X G z_range,
   PySem.W.mg_none_of X G z_min,
   PySem.W.mg_none_of X G z_max,
   PySem.W.mg_none_of X G z_list,
   PySem.W.mg_none_of X G z_tuple,
   PySem.W.mg_none_of X G z_sorted,
   PySem.W.mg_none_of X G z_isinstance,
   PySem.W.mg_none_of X G z_bool,
   PySem.W.mg_none_of X G z_int,
   PySem.W.mg_none_of X G z_str,
   PySem.W.mg_none_of X G z_enumerate,
   PySem.W.mg_none_of X G z_zip,
   PySem.W.mg_none_of X G z_all,
   PySem.W.mg_none_of X G z_any,
   PySem.W.mg_none_of X G z_dict,
   PySem.W.mg_none_of X G z_abs,
   PySem.W.mg_none_of X G z_sum,
   ⟨_,.ref a9,PySem.W.mg_of X G g_DEEDS,rfl,fun _ _ _ => (.tup (xs := [.str "plus",.str "minus",.str "times",.str "least",.str "most",.str "less",.str "over"]) (.inr ⟨_,_,_,o_a9,rfl,rfl,(by show 7 <= sizeLine;decide),(.cons ⟨_,rfl⟩ (.cons ⟨_,rfl⟩ (.cons ⟨_,rfl⟩ (.cons ⟨_,rfl⟩ (.cons ⟨_,rfl⟩ (.cons ⟨_,rfl⟩ (.cons ⟨_,rfl⟩ .nil)))))))⟩) (.cons (.str _) (.cons (.str _) (.cons (.str _) (.cons (.str _) (.cons (.str _) (.cons (.str _) (.cons (.str _) .nil))))))))⟩,
   ⟨_,.ref a14,PySem.W.mg_of X G g_DEED_PARTS,rfl,fun _ _ _ => (.tup (xs := [.str "row",.str "row"]) (.inr ⟨_,_,_,o_a14,rfl,rfl,(by show 2 <= sizeLine;decide),(.cons ⟨_,rfl⟩ (.cons ⟨_,rfl⟩ .nil))⟩) (.cons (.str _) (.cons (.str _) .nil)))⟩,
   ⟨_,.int 8,PySem.W.mg_of X G g_MOST_LOOP_ROWS,⟨_,rfl⟩,fun _ _ _ => (.int _)⟩,
   ⟨_,.int 63,PySem.W.mg_of X G g_MOST_PLACE,⟨_,rfl⟩,fun _ _ _ => (.int _)⟩,
   ⟨_,.int 9,PySem.W.mg_of X G g_MOST_STEP,⟨_,rfl⟩,fun _ _ _ => (.int _)⟩,
   ⟨_,.int 64,PySem.W.mg_of X G g_MOST_SURE,⟨_,rfl⟩,fun _ _ _ => (.int _)⟩,
   ⟨_,.int 8,PySem.W.mg_of X G g_MOST_TURNS,⟨_,rfl⟩,fun _ _ _ => (.int _)⟩,
   ⟨_,.int 999,PySem.W.mg_of X G g_MOST_WORD,⟨_,rfl⟩,fun _ _ _ => (.int _)⟩,
   ⟨_,.ref a40,PySem.W.mg_of X G g_OTHER_PARTS,rfl,fun _ _ _ => (.ktb (D := [("number",.ref a22),("pick",.ref a26),("load",.ref a28),("take",.ref a32),("store",.ref a35),("put",.ref a39)]) ⟨m_a40,_,_,_,o_a40,⟨rfl,rfl,rfl⟩,rfl,(.cons rfl rfl (.cons rfl rfl (.cons rfl rfl (.cons rfl rfl (.cons rfl rfl (.cons rfl rfl .nil))))))⟩ (.cons (.tup (xs := [.str "word"]) (.inr ⟨_,_,_,o_a22,rfl,rfl,(by show 1 <= sizeLine;decide),(.cons ⟨_,rfl⟩ .nil)⟩) (.cons (.str _) .nil)) (.cons (.tup (xs := [.str "row",.str "row",.str "row"]) (.inr ⟨_,_,_,o_a26,rfl,rfl,(by show 3 <= sizeLine;decide),(.cons ⟨_,rfl⟩ (.cons ⟨_,rfl⟩ (.cons ⟨_,rfl⟩ .nil)))⟩) (.cons (.str _) (.cons (.str _) (.cons (.str _) .nil)))) (.cons (.tup (xs := [.str "place"]) (.inr ⟨_,_,_,o_a28,rfl,rfl,(by show 1 <= sizeLine;decide),(.cons ⟨_,rfl⟩ .nil)⟩) (.cons (.str _) .nil)) (.cons (.tup (xs := [.str "place",.str "row",.str "row"]) (.inr ⟨_,_,_,o_a32,rfl,rfl,(by show 3 <= sizeLine;decide),(.cons ⟨_,rfl⟩ (.cons ⟨_,rfl⟩ (.cons ⟨_,rfl⟩ .nil)))⟩) (.cons (.str _) (.cons (.str _) (.cons (.str _) .nil)))) (.cons (.tup (xs := [.str "place",.str "row"]) (.inr ⟨_,_,_,o_a35,rfl,rfl,(by show 2 <= sizeLine;decide),(.cons ⟨_,rfl⟩ (.cons ⟨_,rfl⟩ .nil))⟩) (.cons (.str _) (.cons (.str _) .nil))) (.cons (.tup (xs := [.str "place",.str "row",.str "row"]) (.inr ⟨_,_,_,o_a39,rfl,rfl,(by show 3 <= sizeLine;decide),(.cons ⟨_,rfl⟩ (.cons ⟨_,rfl⟩ (.cons ⟨_,rfl⟩ .nil)))⟩) (.cons (.str _) (.cons (.str _) (.cons (.str _) .nil)))) .nil)))))))⟩,
   ⟨_,.ref a49,PySem.W.mg_of X G g_READERS,rfl,fun _ _ _ => (.tup (xs := [.str "load",.str "take"]) (.inr ⟨_,_,_,o_a49,rfl,rfl,(by show 2 <= sizeLine;decide),(.cons ⟨_,rfl⟩ (.cons ⟨_,rfl⟩ .nil))⟩) (.cons (.str _) (.cons (.str _) .nil)))⟩,
   ⟨_,.ref a52,PySem.W.mg_of X G g_WRITERS,rfl,fun _ _ _ => (.tup (xs := [.str "store",.str "put"]) (.inr ⟨_,_,_,o_a52,rfl,rfl,(by show 2 <= sizeLine;decide),(.cons ⟨_,rfl⟩ (.cons ⟨_,rfl⟩ .nil))⟩) (.cons (.str _) (.cons (.str _) .nil)))⟩⟩
 have U_x26 := fun_mk (st := top 45) l_x26 c_x26 k_x26
 refine ⟨PySem.W.fnOf "law" "law" (defArgs (top 45)) (defBody (top 45)) (defScope (top 45)) .none kV_x26 dc_x26 pm_x26 none cd_x26 ct_x26,fun s v => .of_eq rfl,fun base _ _ => ?_⟩
 have D_x0 : DefV l.prog w K mg base "is_whole" 1 Qx0 [] F_is_whole f_x0 := mkDf X G p_x0 (fun U => ok_x0 U T) fun _ _ _ _ _ _ us hl => match us,hl with | [_,_,_],_ => rfl
 have D_x1 : DefV l.prog w K mg base "parts_of" 1 Qx1 [] F_parts_of f_x1 := mkDf X G p_x1 (fun U => ok_x1 U T) fun _ _ _ _ _ _ us hl => match us,hl with | [_],_ => rfl
 have D_x2 : DefV l.prog w K mg base "makes_word" 1 Qx2 [] F_makes_word f_x2 := mkDf X G p_x2 (fun U => ok_x2 U T) fun _ _ _ _ _ _ us hl => match us,hl with | [_],_ => rfl
 have D_x3 : DefV l.prog w K mg base "place_of" 1 Qx3 [] F_place_of f_x3 := mkDf X G p_x3 (fun U => ok_x3 U T) fun _ _ _ _ _ _ us hl => match us,hl with | [_],_ => rfl
 have D_x4 : DefV l.prog w K mg base "may_name" 2 Qx4 [] F_may_name f_x4 := mkDf X G p_x4 (fun U => ok_x4 U T D_x0) fun _ _ _ _ _ _ us hl => match us,hl with | [_,_],_ => rfl
 have D_x5 : DefV l.prog w K mg base "fits" 3 Qx5 [] F_fits f_x5 := mkDf X G p_x5 (fun U => ok_x5 U T D_x0 D_x4) fun _ _ _ _ _ _ us hl => match us,hl with | [_,_,_],_ => rfl
 have D_x6 : DefV l.prog w K mg base "is_row" 4 Qx6 [] F_is_row f_x6 := mkDf X G p_x6 (fun U => ok_x6 U T D_x1 D_x5) fun _ _ _ _ _ _ us hl => match us,hl with | [_,_],_ => rfl
 have D_x7 : DefV l.prog w K mg base "writes" 1 Qx7 [] F_writes f_x7 := mkDf X G p_x7 (fun U => ok_x7 U T) fun _ _ _ _ _ _ us hl => match us,hl with | [_],_ => rfl
 have D_x8 : DefV l.prog w K mg base "place_in" 1 Qx8 [] F_place_in f_x8 := mkDf X G p_x8 (fun U => ok_x8 U T) fun _ _ _ _ _ _ us hl => match us,hl with | [_,_],_ => rfl
 have D_x9 : DefV l.prog w K mg base "in_turn" 2 Qx9 [] F_in_turn f_x9 := mkDf X G p_x9 (fun U => ok_x9 U T D_x3 D_x8) fun _ _ _ _ _ _ us hl => match us,hl with | [_,_],_ => rfl
 have D_x10 : DefV l.prog w K mg base "is_stride" 2 Qx10 [] F_is_stride f_x10 := mkDf X G p_x10 (fun U => ok_x10 U T D_x0 D_x8) fun _ _ _ _ _ _ us hl => match us,hl with | [_,_],_ => rfl
 have D_x11 : DefV l.prog w K mg base "is_last" 2 Qx11 [] F_is_last f_x11 := mkDf X G p_x11 (fun U => ok_x11 U T D_x0) fun _ _ _ _ _ _ us hl => match us,hl with | [_,_],_ => rfl
 have D_x12 : DefV l.prog w K mg base "is_loop_row" 5 Qx12 [] F_is_loop_row f_x12 := mkDf X G p_x12 (fun U => ok_x12 U T D_x6 D_x9 D_x10 D_x11) fun _ _ _ _ _ _ us hl => match us,hl with | [_,_,_,_],_ => rfl
 have D_x13 : DefV l.prog w K mg base "are_loop_rows" 6 Qx13 [] F_are_loop_rows f_x13 := mkDf X G p_x13 (fun U => ok_x13 U T D_x2 D_x12) fun _ _ _ _ _ _ us hl => match us,hl with | [_,_],_ => rfl
 have D_x14 : DefV l.prog w K mg base "is_loop" 7 Qx14 [] F_is_loop f_x14 := mkDf X G p_x14 (fun U => ok_x14 U T D_x0 D_x13) fun _ _ _ _ _ _ us hl => match us,hl with | [_],_ => rfl
 have D_x15 : DefV l.prog w K mg base "check_loop" 8 Qx15 [] F_check_loop f_x15 := mkDf X G p_x15 (fun U => ok_x15 U T D_x14) fun _ _ _ _ _ _ us hl => match us,hl with | [_],_ => rfl
 have D_x16 : DefV l.prog w K mg base "reach" 9 Qx16 [] F_reach f_x16 := mkDf X G p_x16 (fun U => ok_x16 U T D_x3 D_x7 D_x8 D_x15) fun _ _ _ _ _ _ us hl => match us,hl with | [_],_ => rfl
 have D_x17 : DefV l.prog w K mg base "_law_cell_at" 1 Qx17 [] F_law_cell_at f_x17 := mkDf X G p_x17 (fun U => ok_x17 U T) fun _ _ _ _ _ _ us hl => match us,hl with | [_,_],_ => rfl
 have D_x18 : DefV l.prog w K mg base "_law_mixed" 2 Qx18 [] F_law_mixed f_x18 := mkDf X G p_x18 (fun U => ok_x18 U T D_x17) fun _ _ _ _ _ _ us hl => match us,hl with | [_,_,_],_ => rfl
 have D_x19 : DefV l.prog w K mg base "_law_draw" 3 Qx19 [1] F_law_draw f_x19 := mkDf X G p_x19 (fun U => ok_x19 U T D_x18) fun _ _ _ _ _ _ us hl => match us,hl with | [_,_,_],_ => rfl
 have D_x20 : DefV l.prog w K mg base "_law_pick" 4 Qx20 [1] F_law_pick f_x20 := mkDf X G p_x20 (fun U => ok_x20 U T D_x19) fun _ _ _ _ _ _ us hl => match us,hl with | [_,_,_],_ => rfl
 have D_x21 : DefV l.prog w K mg base "_law_same_number" 1 Qx21 [] F_law_same_number f_x21 := mkDf X G p_x21 (fun U => ok_x21 U T) fun _ _ _ _ _ _ us hl => match us,hl with | [_,_],_ => rfl
 have D_x22 : DefV l.prog w K mg base "_law_place" 5 Qx22 [1,2] F_law_place f_x22 := mkDf X G p_x22 (fun U => ok_x22 U T D_x19 D_x20) fun _ _ _ _ _ _ us hl => match us,hl with | [_,_,_,_,_],_ => rfl
 have D_x23 : DefV l.prog w K mg base "_law_row" 6 Qx23 [1,3] F_law_row f_x23 := mkDf X G p_x23 (fun U => ok_x23 U T D_x19 D_x20 D_x22) fun _ _ _ _ _ _ us hl => match us,hl with | [_,_,_,_,_],_ => rfl
 have D_x24 : DefV l.prog w K mg base "_law_loop" 7 Qx24 [1] F_law_loop f_x24 := mkDf X G p_x24 (fun U => ok_x24 U T D_x19 D_x20 D_x23) fun _ _ _ _ _ _ us hl => match us,hl with | [_,_],_ => rfl
 have D_x25 : DefV l.prog w K mg base "_law_at_turn" 1 Qx25 [] F_law_at_turn f_x25 := mkDf X G p_x25 (fun U => ok_x25 U T) fun _ _ _ _ _ _ us hl => match us,hl with | [_,_],_ => rfl
 exact ok_x26 U_x26 T D_x16 D_x21 D_x24 D_x25
theorem sp_start (K : PySem.W.Frag) (H : Hp) (a : Addr) (ns : List Int) (hl : ns.length <= 63) (h : SqL K H a (ns.map V.int)) : spV K [] 1 F_law [.ref a] H (fun v _ => v = .bl true) fun _ _ _ => False := by
 have hr : RepA K (Zp (fun _ => False) [] [.ref a]) H (ns.map V.int) (ns.map Dat.int) := by
  clear h hl
  induction ns with
  | nil => exact .nil
  | cons n ns ih => exact .cons (.int n) ih
 have hz : ∀ b,¬ Zp (fun _ => False) [] [V.ref a] b := fun b h => by
  rcases h with h | ⟨i,h,_⟩
  ·exact h
  ·cases h
 refine ⟨fun _ => False,[.lst (ns.map .int)],.bl true,[],rfl,⟨rfl,(fun i h => nomatch h),fun i d hi e => ?_,(fun i d h => nomatch h),(fun i j b h => nomatch h),fun a h => h.elim⟩,law_true ns hl,fun v H' _ _ r => by cases r;rfl⟩
 cases i with
 | zero =>
  cases e
  refine ⟨_,rfl,?_⟩
  rcases h with (h | ⟨o,h⟩) | h
  ·exact .lst h (hz a) hr
  ·exact .fzl (.inl ⟨o,h⟩) hr
  ·exact .fzl (.inr h) hr
 | succ i => cases i <;> cases e
end RR
open PySem PySem.W PyProof.Rows
set_option maxRecDepth 100000 in
set_option maxHeartbeats 0 in
theorem PySem.Challenge.cw_lanepacks_k36_whole_reach_holds : PySem.Challenge.rw_lanepacks_k36_whole_reach.Holds := by
 w_on;refine holds_law KK.said fun said => ?_
 refine holds_open (q := KK.view) (loose := KK.lo) (Xt := KK.X) (XP := XL KK.view []) (Yf := KK.H.obs) (Ya := KK.H.val) (YP := KK.H.says) (N := 3132) KK.hl (Hook.of _) (Hook.keeps _) (fun s e => xl_of s (Bool.and_eq_true_iff.mp e).1) XL.keeps (by rfl) (by rfl) (by rfl) (fun s e => recFacts_of (Bool.and_eq_true_iff.mp e).2) (by rfl) (by first | assumption | decide +kernel) (by decide +kernel) ⟨rfl,rfl,rfl,rfl,rfl,by decide +kernel⟩ ?hw ?hc
 case hw => w_witness2
 refine L2.walk_ofK (l := PySem.Challenge.rw_lanepacks_k36_whole_reach) (n := 63) (k := 10) (x := "_law_script") (CX := L2.CX0) (sp := fun K => L2.spV K [] 1 L2.F_law) rfl (by decide) rfl ⟨rfl,by decide,by decide⟩ (fun w h Y => PySem.W.kIn_of (K := KK.K) (as := KK.A) (e := KK.kA) Y) ?F (fun K H a ns hl _ hS => RR.sp_start K H a ns hl hS) fun _ _ _ _ z => z
 case F =>
  intro w mg fa h KX G hmg
  exact RR.all_mk (K := KK.K w.params) (f_x0 := 47) (f_x1 := 64) (f_x2 := 71) (f_x3 := 78) (f_x4 := 85) (f_x5 := 92) (f_x6 := 97) (f_x7 := 104) (f_x8 := 111) (f_x9 := 118) (f_x10 := 125) (f_x11 := 132) (f_x12 := 139) (f_x13 := 144) (f_x14 := 151) (f_x15 := 158) (f_x16 := 163) (f_x17 := 170) (f_x18 := 177) (f_x19 := 184) (f_x20 := 191) (f_x21 := 198) (f_x22 := 205) (f_x23 := 210) (f_x24 := 217) (f_x25 := 224) (f_x26 := 231) (kV_x26 := .none) (dc_x26 := .none) (pm_x26 := .str "law_lanepacks_k36_whole_reach" 420) (cd_x26 := .ref 230) (ct_x26 := .none) (t1 := 225) (t2 := 227) (t3 := 228) (t4 := 229) (t5 := 230) (t6 := 231) (t7 := 232) (t8 := 233) (a9 := 40) (t10 := 246) (t11 := 248) (t12 := 250) (t13 := 251) (a14 := 48) (t15 := 253) (t16 := 255) (t17 := 259) (t18 := 261) (t19 := 265) (t20 := 268) (t21 := 254) (a22 := 50) (t23 := 256) (t24 := 257) (t25 := 258) (a26 := 51) (t27 := 260) (a28 := 52) (t29 := 262) (t30 := 263) (t31 := 264) (a32 := 53) (t33 := 266) (t34 := 267) (a35 := 54) (t36 := 269) (t37 := 270) (t38 := 271) (a39 := 55) (a40 := 49) (h41 := PySem.PyData.keyHash w.params "number") (h42 := PySem.PyData.keyHash w.params "pick") (h43 := PySem.PyData.keyHash w.params "load") (h44 := PySem.PyData.keyHash w.params "take") (h45 := PySem.PyData.keyHash w.params "store") (h46 := PySem.PyData.keyHash w.params "put") (t47 := 279) (t48 := 280) (a49 := 56) (t50 := 282) (t51 := 283) (a52 := 57) (t53 := 340) (t54 := 342) (t55 := 344) KX G hmg
   (KK.p _ 47 6 "is_whole" (.str "lanepacks.words" 223))
   (KK.p _ 64 14 "parts_of" (.str "lanepacks.blocks" 244))
   (KK.p _ 71 15 "makes_word" (.str "lanepacks.blocks" 244))
   (KK.p _ 78 16 "place_of" (.str "lanepacks.blocks" 244))
   (KK.p _ 85 17 "may_name" (.str "lanepacks.blocks" 244))
   (KK.p _ 92 18 "fits" (.str "lanepacks.blocks" 244))
   (KK.p _ 97 19 "is_row" (.str "lanepacks.blocks" 244))
   (KK.p _ 104 21 "writes" (.str "lanepacks.orders" 329))
   (KK.p _ 111 26 "place_in" (.str "lanepacks.loops" 338))
   (KK.p _ 118 27 "in_turn" (.str "lanepacks.loops" 338))
   (KK.p _ 125 28 "is_stride" (.str "lanepacks.loops" 338))
   (KK.p _ 132 29 "is_last" (.str "lanepacks.loops" 338))
   (KK.p _ 139 30 "is_loop_row" (.str "lanepacks.loops" 338))
   (KK.p _ 144 31 "are_loop_rows" (.str "lanepacks.loops" 338))
   (KK.p _ 151 32 "is_loop" (.str "lanepacks.loops" 338))
   (KK.p _ 158 33 "check_loop" (.str "lanepacks.loops" 338))
   (KK.p _ 163 34 "reach" (.str "lanepacks.loops" 338))
   (KK.p _ 170 36 "_law_cell_at" (.str "law_lanepacks_k36_whole_reach" 420))
   (KK.p _ 177 37 "_law_mixed" (.str "law_lanepacks_k36_whole_reach" 420))
   (KK.p _ 184 38 "_law_draw" (.str "law_lanepacks_k36_whole_reach" 420))
   (KK.p _ 191 39 "_law_pick" (.str "law_lanepacks_k36_whole_reach" 420))
   (KK.p _ 198 40 "_law_same_number" (.str "law_lanepacks_k36_whole_reach" 420))
   (KK.p _ 205 41 "_law_place" (.str "law_lanepacks_k36_whole_reach" 420))
   (KK.p _ 210 42 "_law_row" (.str "law_lanepacks_k36_whole_reach" 420))
   (KK.p _ 217 43 "_law_loop" (.str "law_lanepacks_k36_whole_reach" 420))
   (KK.p _ 224 44 "_law_at_turn" (.str "law_lanepacks_k36_whole_reach" 420))
   (by kernel_rfl)
   (by kernel_rfl)
   (by kernel_rfl)
   (by kernel_rfl)
   (by kernel_rfl)
   (by kernel_rfl)
   (by kernel_rfl)
   (by kernel_rfl)
   (by kernel_rfl)
   (by kernel_rfl)
   (by kernel_rfl)
   (by kernel_rfl)
   (by kernel_rfl)
   (by kernel_rfl)
   (by kernel_rfl)
   (by kernel_rfl)
   (by kernel_rfl)
   (by kernel_rfl)
   (by kernel_rfl)
   (by kernel_rfl)
   (by kernel_rfl)
   (by kernel_rfl)
   (by kernel_rfl)
   (by kernel_rfl)
   (by kernel_rfl)
   (by kernel_rfl)
   (by kernel_rfl)
   (by kernel_rfl)
   (by kernel_rfl)
   (by kernel_rfl)
   (by kernel_rfl)
   (by kernel_rfl)
   (by kernel_rfl)
   (by kernel_rfl)
   (by kernel_rfl)
   (by kernel_rfl)
   (by decide)
   (by kernel_rfl)
   (by kernel_rfl)
   (by kernel_rfl)
   (by kernel_rfl)
   (by kernel_rfl)
   (by kernel_rfl)
   (by kernel_rfl)
   (by kernel_rfl)
