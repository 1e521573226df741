import PyProof.Rows.All
import Wide.All
import OpenK.AllK
import Wide.FinOn
import Lean
import PyProof.EqAt
import PyProof.EqKinds
import PyProof.TupleCall
import PyProof.NeKinds
import KE.IntBitsLaws
import KE.KRevIter
import KE.KSortKey
import KE.KLam
import KE.KNestM
import KE.KDictList
import PyProof.ConsumeWalk
import PyProof.ZipIter
import PyProof.Rows.Range3
import PyProof.CollectWalk
import PyProof.ListNew
import KE.KDictOf
import PyProof.AttrMissHeap
import PyProof.Rows.SetFrom
import PyProof.Rows.TupIter
import PyProof.Draws
import PyProof.EnumFor
import KE.KUnpack
import PyProof.IsRules
import PySem.Challenge.RW_lidprice_k51_best_of_one_box
open List renaming length_map → aLo, mem_cons_of_mem → aLp, mem_cons_self → aLq, mem_map → aLr, getElem?_eq_getElem → aLs, map_cons → aLw, mem_of_getElem? → aLx, mem_singleton → aLy, map_append → aLB, getElem?_eq_some_iff → aLE, mem_cons → aLF, take_length → aLG, getElem?_map → aLH, sum_cons → aLI, mem_append_right → aLL, size_toArray → aLM, mem_append → aLO, length_append → aLP, length_take → aLU, not_mem_nil → aLW, replicate → aLX, length_cons → aL0, map_map → aL1, mem_filter → aL3, map_congr_left → aL6, length_take_le → aL8, mem_append_left → aL9, getElem_mem → aMc, map_eq_nil_iff → aMd, take_append_drop → aMe, nodup_cons → aMf, any_eq_true → aMh, lookup_cons → aMi, mem_range → aMj, getElem?_append_right → aMl, filterMap_cons → aMt, mem_filterMap → aMw, length_replicate → aMx, getElem?_append_left → aMy, take_add_one → aMB, foldl_append → aMC, range → aME, length_pos_iff → aMG, nodup_nil → aMH, all_eq_true → aMI, length → aMJ, pairwise_cons → aML, filter_append → aMM, append_nil → aMN, find?_cons → aMO, foldl_cons → aMQ, length_filter_le → aMU, countP_mono_left → aMV, any_eq_false → aMW, pairwise_map → aMX, lookup → aMY, mem_of_mem_drop → aM0, mem_flatMap → aM3, filter_cons → aM4, pairwise_iff_getElem → aM5, length_eq_zero_iff → aNc, nodup_append → aNg, length_range → aNh, length_singleton → aNi, any_cons → aNk, getElem_toArray → aNl, mem_iff_getElem → aNn, flatMap_append → aNq, drop_eq_getElem_cons → aNy, flatMap_cons → aNB, append_assoc → aNC, getElem?_replicate → aNF, countP_cons → aNH, pairwise_singleton → aNI, getElem?_set_self → aNJ, map_nil → aNL, of_mem_zip → aNO, sum_append → aNP, getElem?_eq_none → aNR, getElem?_toArray → aNT, getElem?_set_ne → aNU, pairwise_append → aNX, drop_sublist → aN9, ext_getElem → aOf, length_nil → aOl, count_cons → aOm
open PySem.Heap renaming get?_push_of_some → aLt, lt_size → aLC, get?_push_size → aLJ, SameBut → aMa, size_push → aNV
open Nat renaming le_refl → aLu, le_trans → aLv, zero_le → aLQ, ne_of_lt → aLR, lt_of_lt_of_le → aLS, le_of_lt → aLZ, mul_le_mul_left → aL7, lt_irrefl → aMp, ne_of_gt → aMA, mul_le_mul_right → aMD, not_lt_zero → aMR, le_succ → aNa, lt_succ_self → aNj, lt_of_le_of_lt → aNs, eq_zero_or_pos → aNt, lt_succ_of_lt → aNz, le_of_eq → aNK, succ_mul → aNM, mul_add → aNW, pow_le_pow_right → aNY, add_le_add_left → aN0, zero_add → aN7, add_comm → aOb, sub_self → aOd, succ_le_succ → aOe, le_add_right → aOg, add_mul → aOj
open Int renaming mul_le_mul_of_nonneg_left → aLz, le_of_lt → aLA, mul_le_mul_of_nonneg_right → aLD, le_trans → aLN, ne_of_gt → aLT, mul_pos → aLY, le_refl → aL2, gcd → aL4, mul_nonpos_of_nonneg_of_nonpos → aMb, gcd_pos_of_ne_zero_right → aMg, fdiv_eq_ediv_of_nonneg → aMk, mul_nonneg → aMm, dvd_refl → aMu, pow_add → aMv, mul_fdiv_cancel_left → aMF, one_mul → aMK, dvd_trans → aMS, eq_of_mul_eq_mul_right → aMZ, zero_add → aM1, pow_succ → aM2, le_of_dvd → aM6, mul_nonpos_of_nonpos_of_nonneg → aM7, lt_of_lt_of_le → aM8, lt_of_le_of_lt → aM9, gcd_le_natAbs_right → aNb, toNat_natCast → aNd, fmod_nonneg_of_pos → aNe, mul_comm → aNf, gcd_eq_natAbs_gcd_natAbs → aNp, le_of_mul_le_mul_right → aNu, emod_lt_of_pos → aNv, eq_of_mul_eq_mul_left → aNw, le_of_mul_le_mul_left → aNx, gcd_dvd_right → aNA, gcd_dvd_left → aNG, emod_nonneg → aNQ, natAbs_dvd_natAbs → aNS, fdiv_mul_cancel → aN1, natCast_nonneg → aN4, lt_or_gt_of_ne → aN5, fmod_lt_of_pos → aN6, fmod_def → aN8, add_zero → aOa, lt_trans → aOc, add_mul → aOk, natCast_pow → aOn
open Bool renaming false_ne_true → aLK, and_eq_true → aLV, false_eq_true → aMn, eq_iff_iff → aMs, or_eq_true → aMP, and_eq_true_iff → aNZ, true_and → aN2, not_eq_true → aOh
open Array renaming length_toList → aL5, getElem?_eq_getElem → aMz, getElem?_toList → aMT, toArray_toList → aNm, mk → aNE, append_assoc → aN3, Perm → aOo
open Rat renaming mul_le_mul_of_nonneg_right → aMo, mul_le_mul_of_nonneg_left → aMr, mul_lt_mul_of_pos_right → aNr, not_lt → aNN
open Option renaming some → aMq, map_some → aNo, isSome_iff_exists → aND, none → aOi
set_option Elab.async false
set_option linter.all false
set_option maxRecDepth 100000
namespace K51
open PySem PySem.W
abbrev sdr:=PySem.Challenge.rw_lidprice_k51_best_of_one_box
abbrev Jy:Program:=sdr.row.toRowW.prog
theorem sdA:sreFenced Jy.main=true:=by kernel_rfl
theorem sdB:((moduleNames Jy.main.body).isEmpty||lookedIntoSs (moduleNames Jy.main.body) Jy.main.body)=true:=by kernel_rfl
theorem sdC:namesResolve Jy=true:=by kernel_rfl
theorem sdD:(Jy.boundNames.all fun n=>!worldNames.contains n)=true:=by kernel_rfl
theorem sdE:noRoadLSs { strict:=!(importedModules Jy.main.body).all cThrough.contains,foot:=none,bare:=(["vars","dir","locals"]:List Str).filter (readsOut Jy Jy.main.body) } Jy.main.body=true:=by kernel_rfl
theorem sdF:(namesMeet Jy Jy.main.body fun _ n=>attrL n)=true:=by kernel_rfl
theorem sdG:looksOpen Jy=true:=by
 unfold looksOpen;exact look_both (look_both (look_both (look_both (look_both sdA sdB) sdC) sdD) sdE) sdF
theorem sdH:sdr.row.wellSaid=true:=by
 unfold OpenRow.wellSaid OpenRow.partSaid;rw [sdG]
 kernel_rfl
theorem VV:sdr.wellSaid=true:=by
 unfold OpenLaw.wellSaid;rw [sdH]
 kernel_rfl
end K51
namespace L2
open PySem
def inClass (s:Stmt)(j:Nat):Stmt:=match s with
 | .ClassDef _ _ _ body _ _ _ _ _ _ _=>body.getD j (.Pass ⟨0,0,0,0⟩)
 | _=>.Pass ⟨0,0,0,0⟩
def jW (s:Stmt):Arguments:=match s with
 | .FunctionDef _ a _ _ _ _ _ _ _ _=>a
 | _=>{ posonlyargs:=[],args:=[],vararg:=none,kwonlyargs:=[],kw_defaults:=[],kwarg:=none,defaults:=[] }
def gY (s:Stmt):List Stmt:=match s with
 | .FunctionDef _ _ b _ _ _ _ _ _ _=>b
 | _=>[]
def aN (s:Stmt):Scope:=match s with
 | .FunctionDef _ _ _ _ _ _ sc _ _ _=>sc
 | _=>{ kind:=.function,names:=[],isGenerator:=false,isCoroutine:=false }
end L2
namespace L2
open PySem PySem.W
def ev {α:Type}:List α->List α
 | []=>[]
 | [a]=>[a]
 | a::_::r=>a::ev r
def od {α:Type}:List α->List α
 | []=>[]
 | [_]=>[]
 | _::b::r=>b::od r
def bt:Nat->List Obj->BT
 | 0,_=>.nil
 | _+1,[]=>.nil
 | n+1,o::r=>.node o (bt n (ev r)) (bt n (od r))
def sets (l:List Obj):List (Nat×Obj)->List Obj
 | []=>l
 | p::r=>sets (l.set p.1 p.2) r
noncomputable def qW (T:BT)(n k:Nat)(os:OsState):SharedT:=⟨T,n,{},aNE [],boot_drawn,k,os⟩
theorem jF {tb:String->Option Builtin}{p:Program}{w:World}{m0:Nat}{ann:Option Value}{env:Env}{q:Pos}{n N:Nat}{s s':SharedT}{r:Shared}{l rest:List Stmt}{c:Code}{pos p':Pos}
  (h:segRunT tb p w m0 ann 1 n s (piecesOf l env c pos [topFrame q])=some (.next,s',c,p')) (k:topRun tb p w m0 ann N s'.abs (restOf rest env c p' [topFrame q])=some r):topRun tb p w m0 ann (n+N) s.abs (restOf (l++rest) env c pos [topFrame q])=some r :=
 piece_app (segRun_of h) k
theorem Kq {p q:Program}{loose:List Str}{Xt:Shared->Bool}{α:Type}{Yf:Shared->α}{Ya:World->α}{N:Nat}{Tb Tf:Params->BT}{nb nf ka kf:Nat}{env:Env}{C:Code}{gs:List Stmt}{posA posB qp:Pos}{m0:Nat}{ann:Option Value}{a b c:Nat}
  (e1:opening p=plainProg p.main.scope.names) (h6:Nat.ble 600 N=true) (e2:∀ s,fenceModules? p s=some s)
  (size:∀ w:World,((boot_heap w.params).isNs mainGlobals&&(aNE []:Array GenState).size==0,(boot_heap w.params).objs.size,(boot_heap w.params).nsMap mainGlobals "__annotations__")=(true,m0,ann))
  (pre:∀ (w:World) (os:OsState),topGo treeTable p w m0 ann a ⟨boot_heap w.params,aNE [],boot_drawn,boot_toks,os⟩ (topStub p)=some ((qW (Tb w.params) nb ka os).abs,⟨denote treeTable (.body gs env),C,posA,[topFrame qp]⟩))
  (blk:∀ (w:World) (os:OsState),segRun treeTable p w m0 ann 1 b (qW (Tb w.params) nb ka os).abs (blockOf gs env C posA [topFrame qp])=some (.next,(qW (Tb w.params) nb ka os).abs,C,posB))
  (run:∀ (w:World) (os:OsState),topRun treeTable p w m0 ann c (qW (Tb w.params) nb ka os).abs (restOf gs env C posB [topFrame qp])=some (qW (Tf w.params) nf kf os).abs)
  (le:Nat.ble (a+(b+c)) N=true)
  (looks:∀ w:World,(fun os=>((staticsOk (importedModules p.main.body) (boot_heap w.params) (absHeap (Tf w.params) nf {})&&namesBound p (absHeap (Tf w.params) nf {})&&gensDone ⟨absHeap (Tf w.params) nf {},aNE [],boot_drawn,kf,os⟩&&laidKept (boot_heap w.params) (absHeap (Tf w.params) nf {})),
    openSeen q loose (importedModules p.main.body) Xt true ⟨absHeap (Tf w.params) nf {},aNE [],boot_drawn,kf,os⟩,Yf ⟨absHeap (Tf w.params) nf {},aNE [],boot_drawn,kf,os⟩))=fun _=>(true,openGood q loose,Ya w)):LeftO p q loose Xt Yf Ya N :=
 LeftO.of_pieces (H₁:=fun P=>absHeap (Tf P) nf {}) (boot_open e1 h6 e2) size (fun w os=>go_top (pre w os) (piece_block (blk w os) (run w os))) le looks
end L2
namespace K51
open PySem
def top (i:Nat):Stmt:=PySem.Challenge.pw_lidprice_k51_best_of_one_box.main.body.getD i (.Pass ⟨0,0,0,0⟩)
end K51
namespace K51K
open PySem L2 K51
noncomputable section
abbrev OO:=Params->Obj
def E (P:Params)(x:Str)(t:Tok)(v:Value):DictEntry:=⟨PyData.keyHash P x,.str x t,v⟩
abbrev fnO (n q:Str)(st:Stmt)(dV kV doc pm:Value)(an:Option Addr)(cdv ct:Value):FuncData:=W.fnOf n q (jW st) (gY st) (aN st) dV kV doc pm an cdv ct
def fnT (n q:Str)(st:Stmt):FuncData:={ name:=n,qualname:=q,params:=jW st,body:=.stmts (gY st),scope:=aN st,globals:=0,closure:=[],defaults:=.none,kwdefaults:=.none }
def s0  : Obj:=⟨(.type "tuple"),none,(.seq #[] 0),#[]⟩
def s1  : Obj:=⟨.none,none,(.fields #[]),#[]⟩
def s2 (x0:Str)(x1:Nat)(x3:Nat)(x5:Nat)(x6:Int)(x16:Nat)(x19:Nat)(x20:Int)(x25:Nat):Obj:=⟨(.type "code"),none,(.fields #[(.str x0 x1),(.str x0 x3),(.str "/claim/cut.py" x5),(.int x6 0),(.int 0 0),(.int 0 0),(.int 0 0),(.int 0 0),(.ref x16),(.bool false),(.int 181 0),(.ref x19),.none,.none,.none,.none,(.int x20 0),(.int x6 0),(.str "/claim/cut.py" x25)]),#[]⟩
def s3 (x0:Nat)(x2:Nat)(x3:Str)(x4:Nat):Obj:=⟨(.type "frame"),none,.plain,#[(some (.ref x0)),(some (.ref 3)),(some (.ref x2)),none,(some (.str x3 x4)),none,(some (.ref 0))]⟩
def s4 (x0:Str)(x1:Nat):Obj:=⟨(.type "tuple"),none,(.seq #[(.str x0 x1)] 0),#[]⟩
def s5 (x0:Str)(x1:Str)(x2:Stmt):Obj:=⟨.none,none,(.func (fnT x0 x1 x2)),#[]⟩
def s6 (x0:Str)(x1:Nat)(x2:Str)(x3:Nat)(x5:Nat)(x6:Int)(x8:Int)(x16:Nat)(x19:Nat)(x20:Nat)(x21:Nat)(x22:Nat)(x23:Int)(x28:Nat):Obj:=⟨(.type "code"),none,(.fields #[(.str x0 x1),(.str x2 x3),(.str "/claim/cut.py" x5),(.int x6 0),(.int x8 0),(.int 0 0),(.int 0 0),(.int 3 0),(.ref x16),(.bool true),(.int 181 0),(.ref x19),.none,(.ref x20),(.ref x21),(.ref x22),(.int x23 0),(.int x6 0),(.str "/claim/cut.py" x28)]),#[]⟩
def s7 (x0:Str)(x1:Str)(x2:Stmt)(x3:Str)(x4:Nat)(x5:Nat):Obj:=⟨(.type "function"),none,(.func (fnO x0 x1 x2 .none .none .none (.str x3 x4) none (.ref x5) .none)),#[]⟩
def s8  : Obj:=⟨(.type "builtin_function_or_method"),none,(.fields #[(.builtin "type.__prepare__"),(.type "type")]),#[]⟩
def s9 (P:Params)(x1:Nat)(x2:Str)(x3:Nat)(x5:Nat)(x6:Str)(x7:Nat)(x9:Nat)(x10:Int)(x11:Nat)(x13:Nat)(x14:Nat):Obj:=⟨(.type "dict"),none,(.dict #[E P "__module__" x1 (.str x2 x3),E P "__qualname__" x5 (.str x6 x7),E P "__firstlineno__" x9 (.int x10 x11),E P "__static_attributes__" x13 (.ref x14)] 4),#[]⟩
def s10 (x1:Nat)(x2:Nat):Obj:=⟨(.type "getset_descriptor"),none,(.fields #[(.str "__weakref__" x1),(.ref x2),(.builtin "ExceptionGroup.__weakref__"),.none]),#[]⟩
def JS (x0:Nat):Obj:=⟨(.type "super"),none,(.fields #[(.ref x0),(.ref x0),(.ref x0)]),#[]⟩
def oU (x0:Nat):Obj:=⟨(.type "builtin_function_or_method"),none,(.fields #[(.builtin "object.__init_subclass__"),(.ref x0)]),#[]⟩
def Aj (x0:Nat):Obj:=⟨(.type "tuple"),none,(.seq #[(.ref x0)] 0),#[]⟩
def WL (x0:Str)(x2:Nat)(x4:Nat)(x6:Nat)(x8:Nat)(x10:Nat):Obj:=⟨(.type "type"),none,(.cls ⟨x0,[(.ref 31)],[(.ref x2),(.ref 31),(.type "ValueError"),(.type "Exception"),(.type "BaseException"),(.type "object")],x4,x0,true,[],[],false,none,false⟩),#[(some (.ref x6)),none,(some (.str x0 x8)),(some (.str x0 x10)),(some (.builtin "ValueError.__new__")),(some (.bool true))]⟩
def Il (x0:Str)(x1:Nat)(x2:Str)(x3:Nat)(x4:Str)(x5:Nat):Obj:=⟨(.type "tuple"),none,(.seq #[(.str x0 x1),(.str x2 x3),(.str x4 x5)] 0),#[]⟩
def o8 (x0:Str)(x1:Nat)(x2:Str)(x3:Nat):Obj:=⟨(.type "tuple"),none,(.seq #[(.str x0 x1),(.str x2 x3)] 0),#[]⟩
def pD (x0:Str)(x1:Nat)(x2:Str)(x3:Nat)(x5:Nat)(x6:Int)(x8:Int)(x16:Nat)(x19:Nat)(x20:Nat)(x21:Int)(x26:Nat):Obj:=⟨(.type "code"),none,(.fields #[(.str x0 x1),(.str x2 x3),(.str "/claim/cut.py" x5),(.int x6 0),(.int x8 0),(.int 0 0),(.int 0 0),(.int 3 0),(.ref x16),(.bool true),(.int 181 0),(.ref x19),.none,.none,.none,(.ref x20),(.int x21 0),(.int x6 0),(.str "/claim/cut.py" x26)]),#[]⟩
def Zy (x0:Str)(x1:Nat)(x2:Str)(x3:Nat)(x4:Str)(x5:Nat)(x6:Str)(x7:Nat)(x8:Str)(x9:Nat):Obj:=⟨(.type "tuple"),none,(.seq #[(.str x0 x1),(.str x2 x3),(.str x4 x5),(.str x6 x7),(.str x8 x9)] 0),#[]⟩
def Tz (x0:Str)(x1:Nat)(x2:Str)(x3:Nat)(x4:Str)(x5:Nat)(x6:Str)(x7:Nat):Obj:=⟨(.type "tuple"),none,(.seq #[(.str x0 x1),(.str x2 x3),(.str x4 x5),(.str x6 x7)] 0),#[]⟩
def Wm (x0:Str)(x1:Nat)(x2:Nat)(x4:Nat)(x6:Nat)(x8:Nat)(x10:Nat):Obj:=⟨(.type "type"),none,(.cls ⟨x0,[(.ref x1)],[(.ref x2),(.ref x1),(.type "object")],x4,x0,true,[],[],false,none,false⟩),#[(some (.ref x6)),none,(some (.str x0 x8)),(some (.str x0 x10)),(some (.builtin "object.__new__")),(some (.bool true))]⟩
def o13:OO:=fun _=>s2 "<module>" 182 183 184 1 11 12 185 186
def o14:OO:=fun _=>s3 13 3 "__main__" 164
def o3:OO:=fun P=>⟨(.type "dict"),none,(.dict #[E P "__name__" 165 (.str "lidprice.errors" 194),E P "__doc__" 166 .none,E P "__package__" 167 .none,E P "__loader__" 168 (.builtin "__main__.__loader__#opaque"),E P "__spec__" 169 .none,E P "__annotations__" 170 (.ref 6),E P "__builtins__" 171 (.ref 4),E P "__file__" 173 (.str "/claim/cut.py" 172),E P "__cached__" 174 .none,E P "_wall" 193 (.ref 21),E P "LidError" 213 (.ref 31),E P "NoBox" 229 (.ref 44),E P "NoDeed" 245 (.ref 56)] 13),#[]⟩
def Y9:OO:=fun _=>⟨.none,none,(.fields #[(.int 1 0),(.int 0 0),(.ref 20),(.int 5 0),(.int 0 0),(.ref 27),(.int 7 0),(.int 0 0),(.ref 40),(.int 9 0),(.int 0 0),(.ref 52)]),#[]⟩
def o17:OO:=fun _=>s4 "k" 190
def o19:OO:=fun _=>s5 "_wall" "_wall" (top 0)
def o20:OO:=fun _=>s6 "_wall" 187 "_wall" 188 189 1 1 15 16 17 18 19 191 192
def o21:OO:=fun _=>s7 "_wall" "_wall" (top 0) "__main__" 164 20
def o22:OO:=fun _=>⟨(.type "tuple"),none,(.seq #[(.type "ValueError")] 0),#[]⟩
def o24:OO:=fun P=>s9 P 203 "lidprice.errors" 194 205 "LidError" 204 207 5 206 208 29
def o27:OO:=fun _=>s2 "LidError" 198 199 200 5 25 26 201 202
def o28:OO:=fun _=>s3 27 24 "lidprice.errors" 194
def o30:OO:=fun P=>⟨(.type "dict"),none,(.dict #[E P "__module__" 203 (.str "lidprice.errors" 194),E P "__firstlineno__" 207 (.int 5 206),E P "__static_attributes__" 208 (.ref 29),E P "__weakref__" 210 (.ref 32),E P "__doc__" 211 .none] 3),#[]⟩
def o31:OO:=fun _=>⟨(.type "type"),none,(.cls ⟨"LidError",[(.type "ValueError")],[(.ref 31),(.type "ValueError"),(.type "Exception"),(.type "BaseException"),(.type "object")],30,"LidError",true,[],[(.ref 44),(.ref 56)],false,none,false⟩),#[(some (.ref 22)),none,(some (.str "LidError" 196)),(some (.str "LidError" 204)),(some (.builtin "ValueError.__new__")),(some (.bool true))]⟩
def o32:OO:=fun _=>s10 209 31
def o33:OO:=fun _=>JS 31
def o34:OO:=fun _=>oU 31
def o35:OO:=fun _=>Aj 31
def o37:OO:=fun P=>s9 P 221 "lidprice.errors" 194 223 "NoBox" 222 225 7 224 226 42
def o40:OO:=fun _=>s2 "NoBox" 216 217 218 7 38 39 219 220
def o41:OO:=fun _=>s3 40 37 "lidprice.errors" 194
def o43:OO:=fun P=>⟨(.type "dict"),none,(.dict #[E P "__module__" 221 (.str "lidprice.errors" 194),E P "__firstlineno__" 225 (.int 7 224),E P "__static_attributes__" 226 (.ref 42),E P "__doc__" 227 .none] 2),#[]⟩
def o44:OO:=fun _=>WL "NoBox" 44 43 35 214 222
def o45:OO:=fun _=>JS 44
def o46:OO:=fun _=>oU 44
def o47:OO:=fun _=>Aj 31
def o49:OO:=fun P=>s9 P 237 "lidprice.errors" 194 239 "NoDeed" 238 241 9 240 242 54
def o52:OO:=fun _=>s2 "NoDeed" 232 233 234 9 50 51 235 236
def o53:OO:=fun _=>s3 52 49 "lidprice.errors" 194
def o55:OO:=fun P=>⟨(.type "dict"),none,(.dict #[E P "__module__" 237 (.str "lidprice.errors" 194),E P "__firstlineno__" 241 (.int 9 240),E P "__static_attributes__" 242 (.ref 54),E P "__doc__" 243 .none] 2),#[]⟩
def o56:OO:=fun _=>WL "NoDeed" 56 55 47 230 238
def o57:OO:=fun _=>JS 56
def o58:OO:=fun _=>oU 56
def aEy:OO:=fun P=>⟨(.type "dict"),none,(.dict #[E P "__name__" 165 (.str "lidprice.errors" 194),E P "__doc__" 166 .none,E P "__package__" 167 .none,E P "__loader__" 168 (.builtin "__main__.__loader__#opaque"),E P "__spec__" 169 .none,E P "__annotations__" 170 (.ref 6),E P "__builtins__" 171 (.ref 4),E P "__file__" 173 (.str "/claim/cut.py" 172),E P "__cached__" 174 .none,E P "_wall" 193 (.ref 21),E P "LidError" 213 (.ref 31),E P "NoBox" 229 (.ref 44),E P "NoDeed" 245 (.ref 56),E P "NoSets" 261 (.ref 68),E P "NoPattern" 288 (.ref 87),E P "TooMany" 313 (.ref 106)] 16),#[]⟩
def WR:OO:=fun _=>⟨.none,none,(.fields #[(.int 1 0),(.int 0 0),(.ref 20),(.int 5 0),(.int 0 0),(.ref 27),(.int 7 0),(.int 0 0),(.ref 40),(.int 9 0),(.int 0 0),(.ref 52),(.int 11 0),(.int 0 0),(.ref 64),(.int 13 0),(.int 0 0),(.ref 76),(.int 18 0),(.int 0 0),(.ref 95)]),#[]⟩
def RP:OO:=fun _=>⟨(.type "type"),none,(.cls ⟨"LidError",[(.type "ValueError")],[(.ref 31),(.type "ValueError"),(.type "Exception"),(.type "BaseException"),(.type "object")],30,"LidError",true,[],[(.ref 44),(.ref 56),(.ref 68),(.ref 87),(.ref 106)],false,none,false⟩),#[(some (.ref 22)),none,(some (.str "LidError" 196)),(some (.str "LidError" 204)),(some (.builtin "ValueError.__new__")),(some (.bool true))]⟩
def o59:OO:=fun _=>Aj 31
def o61:OO:=fun P=>s9 P 253 "lidprice.errors" 194 255 "NoSets" 254 257 11 256 258 66
def o64:OO:=fun _=>s2 "NoSets" 248 249 250 11 62 63 251 252
def o65:OO:=fun _=>s3 64 61 "lidprice.errors" 194
def o67:OO:=fun P=>⟨(.type "dict"),none,(.dict #[E P "__module__" 253 (.str "lidprice.errors" 194),E P "__firstlineno__" 257 (.int 11 256),E P "__static_attributes__" 258 (.ref 66),E P "__doc__" 259 .none] 2),#[]⟩
def o68:OO:=fun _=>WL "NoSets" 68 67 59 246 254
def o69:OO:=fun _=>JS 68
def o70:OO:=fun _=>oU 68
def o71:OO:=fun _=>Aj 31
def o73:OO:=fun P=>⟨(.type "dict"),none,(.dict #[E P "__module__" 269 (.str "lidprice.errors" 194),E P "__qualname__" 271 (.str "NoPattern" 270),E P "__firstlineno__" 273 (.int 13 272),E P "__init__" 282 (.ref 84),E P "__static_attributes__" 285 (.ref 85)] 5),#[]⟩
def o75:OO:=fun _=>⟨.none,none,(.fields #[(.int 15 0),(.int 4 0),(.ref 83)]),#[]⟩
def o76:OO:=fun _=>s2 "NoPattern" 264 265 266 13 74 75 267 268
def o77:OO:=fun _=>s3 76 73 "lidprice.errors" 194
def o80:OO:=fun _=>Il "self" 277 "one" 278 "other" 279
def o82:OO:=fun _=>s5 "__init__" "NoPattern.__init__" (inClass (top 6) 0)
def o83:OO:=fun _=>s6 "__init__" 274 "NoPattern.__init__" 275 276 15 3 78 79 80 81 82 280 281
def o84:OO:=fun _=>s7 "__init__" "NoPattern.__init__" (inClass (top 6) 0) "lidprice.errors" 194 83
def o85:OO:=fun _=>o8 "one" 283 "other" 284
def o86:OO:=fun P=>⟨(.type "dict"),none,(.dict #[E P "__module__" 269 (.str "lidprice.errors" 194),E P "__firstlineno__" 273 (.int 13 272),E P "__init__" 282 (.ref 84),E P "__static_attributes__" 285 (.ref 85),E P "__doc__" 286 .none] 2),#[]⟩
def o87:OO:=fun _=>WL "NoPattern" 87 86 71 262 270
def o88:OO:=fun _=>JS 87
def o89:OO:=fun _=>oU 87
def o90:OO:=fun _=>Aj 31
def o92:OO:=fun P=>⟨(.type "dict"),none,(.dict #[E P "__module__" 296 (.str "lidprice.errors" 194),E P "__qualname__" 298 (.str "TooMany" 297),E P "__firstlineno__" 300 (.int 18 299),E P "__init__" 308 (.ref 103),E P "__static_attributes__" 310 (.ref 104)] 5),#[]⟩
def o94:OO:=fun _=>⟨.none,none,(.fields #[(.int 20 0),(.int 4 0),(.ref 102)]),#[]⟩
def o95:OO:=fun _=>s2 "TooMany" 291 292 293 18 93 94 294 295
def o96:OO:=fun _=>s3 95 92 "lidprice.errors" 194
def o99:OO:=fun _=>o8 "self" 304 "many" 305
def aDr:OO:=fun _=>s5 "__init__" "TooMany.__init__" (inClass (top 7) 0)
def aA9:OO:=fun _=>s6 "__init__" 301 "TooMany.__init__" 302 303 20 2 97 98 99 100 101 306 307
def Vp:OO:=fun _=>s7 "__init__" "TooMany.__init__" (inClass (top 7) 0) "lidprice.errors" 194 102
def aD4:OO:=fun _=>s4 "many" 309
def aA8:OO:=fun P=>⟨(.type "dict"),none,(.dict #[E P "__module__" 296 (.str "lidprice.errors" 194),E P "__firstlineno__" 300 (.int 18 299),E P "__init__" 308 (.ref 103),E P "__static_attributes__" 310 (.ref 104),E P "__doc__" 311 .none] 2),#[]⟩
def aBo:OO:=fun _=>WL "TooMany" 106 105 90 289 297
def aCC:OO:=fun _=>JS 106
def aCn:OO:=fun _=>oU 106
def aC2:OO:=fun P=>⟨(.type "dict"),none,(.dict #[E P "__name__" 165 (.str "lidprice.stands" 462),E P "__doc__" 166 .none,E P "__package__" 167 .none,E P "__loader__" 168 (.builtin "__main__.__loader__#opaque"),E P "__spec__" 169 .none,E P "__annotations__" 170 (.ref 6),E P "__builtins__" 171 (.ref 4),E P "__file__" 173 (.str "/claim/cut.py" 172),E P "__cached__" 174 .none,E P "_wall" 193 (.ref 21),E P "LidError" 213 (.ref 31),E P "NoBox" 229 (.ref 44),E P "NoDeed" 245 (.ref 56),E P "NoSets" 261 (.ref 68),E P "NoPattern" 288 (.ref 87),E P "TooMany" 313 (.ref 106),E P "is_whole" 324 (.ref 115),E P "common_divisor" 333 (.ref 122),E P "common_multiple" 342 (.ref 129),E P "share" 351 (.ref 136),E P "whole" 358 (.ref 143),E P "total" 364 (.ref 148),E P "below" 372 (.ref 155),E P "lesser" 380 (.ref 162),E P "MOST_WORTH" 384 (.int 1000000000 383),E P "MOST_WEIGHT" 386 (.int 1000 385),E P "rising" 392 (.ref 167),E P "in_form" 398 (.ref 172),E P "all_weights" 404 (.ref 177),E P "by_weights" 410 (.ref 182),E P "mean" 417 (.ref 189),E P "capped" 423 (.ref 194),E P "mixed" 429 (.ref 199),E P "worths_of" 440 (.ref 206),E P "product" 449 (.ref 213),E P "greatest" 455 (.ref 218),E P "level_for" 461 (.ref 223),E P "MOST_PRICE" 465 (.int 1000000000 464),E P "MOST_STAGE_ROWS" 467 (.int 4 466)] 39),#[]⟩
def Vm:OO:=fun _=>⟨.none,none,(.fields #[(.int 1 0),(.int 0 0),(.ref 20),(.int 5 0),(.int 0 0),(.ref 27),(.int 7 0),(.int 0 0),(.ref 40),(.int 9 0),(.int 0 0),(.ref 52),(.int 11 0),(.int 0 0),(.ref 64),(.int 13 0),(.int 0 0),(.ref 76),(.int 18 0),(.int 0 0),(.ref 95),(.int 23 0),(.int 0 0),(.ref 114),(.int 25 0),(.int 0 0),(.ref 121),(.int 31 0),(.int 0 0),(.ref 128),(.int 36 0),(.int 0 0),(.ref 135),(.int 41 0),(.int 0 0),(.ref 142),(.int 43 0),(.int 0 0),(.ref 147),(.int 46 0),(.int 0 0),(.ref 154),(.int 48 0),(.int 0 0),(.ref 161),(.int 53 0),(.int 0 0),(.ref 166),(.int 57 0),(.int 0 0),(.ref 171),(.int 65 0),(.int 0 0),(.ref 176),(.int 67 0),(.int 0 0),(.ref 181),(.int 71 0),(.int 0 0),(.ref 188),(.int 73 0),(.int 0 0),(.ref 193),(.int 75 0),(.int 0 0),(.ref 198),(.int 82 0),(.int 0 0),(.ref 205),(.int 88 0),(.int 0 0),(.ref 212),(.int 93 0),(.int 0 0),(.ref 217),(.int 105 0),(.int 0 0),(.ref 222)]),#[]⟩
def aB5:OO:=fun _=>Il "thing" 319 "least" 320 "most" 321
def aB3:OO:=fun _=>s5 "is_whole" "is_whole" (top 9)
def aAA:OO:=fun _=>s6 "is_whole" 316 "is_whole" 317 318 23 3 109 110 111 112 113 322 323
def Yj:OO:=fun _=>s7 "is_whole" "is_whole" (top 9) "lidprice.shares" 314 114
def aE7:OO:=fun _=>Il "one" 328 "other" 329 "rest" 330
def aEm:OO:=fun _=>s5 "common_divisor" "common_divisor" (top 10)
def Yx:OO:=fun _=>s6 "common_divisor" 325 "common_divisor" 326 327 25 2 116 117 118 119 120 331 332
def Wz:OO:=fun _=>s7 "common_divisor" "common_divisor" (top 10) "lidprice.shares" 314 121
def aFI:OO:=fun _=>Il "numbers" 337 "multiple" 338 "number" 339
def aEY:OO:=fun _=>s5 "common_multiple" "common_multiple" (top 11)
def Vk:OO:=fun _=>s6 "common_multiple" 334 "common_multiple" 335 336 31 1 123 124 125 126 127 340 341
def Wf:OO:=fun _=>s7 "common_multiple" "common_multiple" (top 11) "lidprice.shares" 314 128
def aEu:OO:=fun _=>Il "top" 346 "bottom" 347 "divisor" 348
def aF8:OO:=fun _=>s5 "share" "share" (top 12)
def aBL:OO:=fun _=>s6 "share" 343 "share" 344 345 36 2 130 131 132 133 134 349 350
def YX:OO:=fun _=>s7 "share" "share" (top 12) "lidprice.shares" 314 135
def aEP:OO:=fun _=>s4 "number" 355
def aEO:OO:=fun _=>s5 "whole" "whole" (top 13)
def aAK:OO:=fun _=>s6 "whole" 352 "whole" 353 354 41 1 137 138 139 140 141 356 357
def Wi:OO:=fun _=>s7 "whole" "whole" (top 13) "lidprice.shares" 314 142
def aFC:OO:=fun _=>s5 "total" "total" (top 14)
def W4:OO:=fun _=>pD "total" 359 "total" 360 361 43 1 144 145 146 362 363
def aBc:OO:=fun _=>s7 "total" "total" (top 14) "lidprice.shares" 314 147
def aDG:OO:=fun _=>o8 "one" 368 "other" 369
def aF6:OO:=fun _=>s5 "below" "below" (top 15)
def Xk:OO:=fun _=>s6 "below" 365 "below" 366 367 46 2 149 150 151 152 153 370 371
def WQ:OO:=fun _=>s7 "below" "below" (top 15) "lidprice.shares" 314 154
def aGt:OO:=fun _=>o8 "one" 376 "other" 377
def aGO:OO:=fun _=>s5 "lesser" "lesser" (top 16)
def aA6:OO:=fun _=>s6 "lesser" 373 "lesser" 374 375 48 2 156 157 158 159 160 378 379
def aBA:OO:=fun _=>s7 "lesser" "lesser" (top 16) "lidprice.shares" 314 161
def aGQ:OO:=fun _=>s5 "rising" "rising" (top 20)
def Y0:OO:=fun _=>pD "rising" 387 "rising" 388 389 53 1 163 164 165 390 391
def aBh:OO:=fun _=>s7 "rising" "rising" (top 20) "lidprice.tables" 381 166
def aDR:OO:=fun _=>s5 "in_form" "in_form" (top 21)
def V6:OO:=fun _=>pD "in_form" 393 "in_form" 394 395 57 1 168 169 170 396 397
def V8:OO:=fun _=>s7 "in_form" "in_form" (top 21) "lidprice.tables" 381 171
def aEZ:OO:=fun _=>s5 "all_weights" "all_weights" (top 22)
def Xo:OO:=fun _=>pD "all_weights" 399 "all_weights" 400 401 65 1 173 174 175 402 403
def aBa:OO:=fun _=>s7 "all_weights" "all_weights" (top 22) "lidprice.tables" 381 176
def aEw:OO:=fun _=>s5 "by_weights" "by_weights" (top 23)
def YK:OO:=fun _=>pD "by_weights" 405 "by_weights" 406 407 67 2 178 179 180 408 409
def Ze:OO:=fun _=>s7 "by_weights" "by_weights" (top 23) "lidprice.tables" 381 181
def aGG:OO:=fun _=>s4 "table" 414
def aC5:OO:=fun _=>s5 "mean" "mean" (top 24)
def W8:OO:=fun _=>s6 "mean" 411 "mean" 412 413 71 1 183 184 185 186 187 415 416
def XM:OO:=fun _=>s7 "mean" "mean" (top 24) "lidprice.tables" 381 188
def aCM:OO:=fun _=>s5 "capped" "capped" (top 25)
def aBD:OO:=fun _=>pD "capped" 418 "capped" 419 420 73 2 190 191 192 421 422
def Vr:OO:=fun _=>s7 "capped" "capped" (top 25) "lidprice.tables" 381 193
def aGf:OO:=fun _=>s5 "mixed" "mixed" (top 26)
def aAY:OO:=fun _=>pD "mixed" 424 "mixed" 425 426 75 1 195 196 197 427 428
def Vd:OO:=fun _=>s7 "mixed" "mixed" (top 26) "lidprice.tables" 381 198
def aCP:OO:=fun _=>Zy "tables" 433 "worths" 434 "table" 435 "worth" 436 "weight" 437
def aFL:OO:=fun _=>s5 "worths_of" "worths_of" (top 27)
def aAT:OO:=fun _=>s6 "worths_of" 430 "worths_of" 431 432 82 1 200 201 202 203 204 438 439
def Yn:OO:=fun _=>s7 "worths_of" "worths_of" (top 27) "lidprice.tables" 381 205
def aEN:OO:=fun _=>Il "numbers" 444 "result" 445 "number" 446
def aGJ:OO:=fun _=>s5 "product" "product" (top 28)
def Xu:OO:=fun _=>s6 "product" 441 "product" 442 443 88 1 207 208 209 210 211 447 448
def aBj:OO:=fun _=>s7 "product" "product" (top 28) "lidprice.tables" 381 212
def aFa:OO:=fun _=>s5 "greatest" "greatest" (top 29)
def aAj:OO:=fun _=>pD "greatest" 450 "greatest" 451 452 93 1 214 215 216 453 454
def aBv:OO:=fun _=>s7 "greatest" "greatest" (top 29) "lidprice.tables" 381 217
def aGN:OO:=fun _=>s5 "level_for" "level_for" (top 30)
def aBE:OO:=fun _=>pD "level_for" 456 "level_for" 457 458 105 2 219 220 221 459 460
def XF:OO:=fun _=>s7 "level_for" "level_for" (top 30) "lidprice.tables" 381 222
def aDZ:OO:=fun P=>⟨(.type "dict"),none,(.dict #[E P "__name__" 165 (.str "lidprice.stands" 462),E P "__doc__" 166 .none,E P "__package__" 167 .none,E P "__loader__" 168 (.builtin "__main__.__loader__#opaque"),E P "__spec__" 169 .none,E P "__annotations__" 170 (.ref 6),E P "__builtins__" 171 (.ref 4),E P "__file__" 173 (.str "/claim/cut.py" 172),E P "__cached__" 174 .none,E P "_wall" 193 (.ref 21),E P "LidError" 213 (.ref 31),E P "NoBox" 229 (.ref 44),E P "NoDeed" 245 (.ref 56),E P "NoSets" 261 (.ref 68),E P "NoPattern" 288 (.ref 87),E P "TooMany" 313 (.ref 106),E P "is_whole" 324 (.ref 115),E P "common_divisor" 333 (.ref 122),E P "common_multiple" 342 (.ref 129),E P "share" 351 (.ref 136),E P "whole" 358 (.ref 143),E P "total" 364 (.ref 148),E P "below" 372 (.ref 155),E P "lesser" 380 (.ref 162),E P "MOST_WORTH" 384 (.int 1000000000 383),E P "MOST_WEIGHT" 386 (.int 1000 385),E P "rising" 392 (.ref 167),E P "in_form" 398 (.ref 172),E P "all_weights" 404 (.ref 177),E P "by_weights" 410 (.ref 182),E P "mean" 417 (.ref 189),E P "capped" 423 (.ref 194),E P "mixed" 429 (.ref 199),E P "worths_of" 440 (.ref 206),E P "product" 449 (.ref 213),E P "greatest" 455 (.ref 218),E P "level_for" 461 (.ref 223),E P "MOST_PRICE" 465 (.int 1000000000 464),E P "MOST_STAGE_ROWS" 467 (.int 4 466),E P "MOST_STAGES" 469 (.int 4 468),E P "MOST_ENDS" 471 (.int 12 470),E P "MOST_BOXES" 473 (.int 6 472),E P "Stand" 536 (.ref 268),E P "End" 590 (.ref 317)] 44),#[]⟩
def aBP:OO:=fun _=>⟨.none,none,(.fields #[(.int 1 0),(.int 0 0),(.ref 20),(.int 5 0),(.int 0 0),(.ref 27),(.int 7 0),(.int 0 0),(.ref 40),(.int 9 0),(.int 0 0),(.ref 52),(.int 11 0),(.int 0 0),(.ref 64),(.int 13 0),(.int 0 0),(.ref 76),(.int 18 0),(.int 0 0),(.ref 95),(.int 23 0),(.int 0 0),(.ref 114),(.int 25 0),(.int 0 0),(.ref 121),(.int 31 0),(.int 0 0),(.ref 128),(.int 36 0),(.int 0 0),(.ref 135),(.int 41 0),(.int 0 0),(.ref 142),(.int 43 0),(.int 0 0),(.ref 147),(.int 46 0),(.int 0 0),(.ref 154),(.int 48 0),(.int 0 0),(.ref 161),(.int 53 0),(.int 0 0),(.ref 166),(.int 57 0),(.int 0 0),(.ref 171),(.int 65 0),(.int 0 0),(.ref 176),(.int 67 0),(.int 0 0),(.ref 181),(.int 71 0),(.int 0 0),(.ref 188),(.int 73 0),(.int 0 0),(.ref 193),(.int 75 0),(.int 0 0),(.ref 198),(.int 82 0),(.int 0 0),(.ref 205),(.int 88 0),(.int 0 0),(.ref 212),(.int 93 0),(.int 0 0),(.ref 217),(.int 105 0),(.int 0 0),(.ref 222),(.int 122 0),(.int 0 0),(.ref 229),(.int 141 0),(.int 0 0),(.ref 278)]),#[]⟩
def aGM:OO:=fun P=>⟨(.type "dict"),none,(.dict #[E P "__module__" 481 (.str "lidprice.stands" 462),E P "__qualname__" 483 (.str "Stand" 482),E P "__firstlineno__" 485 (.int 122 484),E P "__init__" 496 (.ref 237),E P "ends" 503 (.ref 244),E P "stages" 510 (.ref 251),E P "reserve" 517 (.ref 258),E P "caps" 524 (.ref 265),E P "__static_attributes__" 529 (.ref 266)] 9),#[]⟩
def aC9:OO:=fun _=>⟨.none,none,(.fields #[(.int 124 0),(.int 4 0),(.ref 236),(.int 130 0),(.int 4 0),(.ref 243),(.int 133 0),(.int 4 0),(.ref 250),(.int 136 0),(.int 4 0),(.ref 257),(.int 139 0),(.int 4 0),(.ref 264)]),#[]⟩
def aGR:OO:=fun _=>s2 "Stand" 476 477 478 122 227 228 479 480
def aEV:OO:=fun _=>s3 229 226 "lidprice.stands" 462
def aEj:OO:=fun _=>Zy "self" 489 "end_count" 490 "stage_count" 491 "level" 492 "cap_rows" 493
def aB6:OO:=fun _=>s5 "__init__" "Stand.__init__" (inClass (top 37) 0)
def Wq:OO:=fun _=>s6 "__init__" 486 "Stand.__init__" 487 488 124 5 231 232 233 234 235 494 495
def XH:OO:=fun _=>s7 "__init__" "Stand.__init__" (inClass (top 37) 0) "lidprice.stands" 462 236
def aEd:OO:=fun _=>s4 "self" 500
def aCS:OO:=fun _=>s5 "ends" "Stand.ends" (inClass (top 37) 1)
def Wd:OO:=fun _=>s6 "ends" 497 "Stand.ends" 498 499 130 1 238 239 240 241 242 501 502
def Vq:OO:=fun _=>s7 "ends" "Stand.ends" (inClass (top 37) 1) "lidprice.stands" 462 243
def aEa:OO:=fun _=>s4 "self" 507
def aEx:OO:=fun _=>s5 "stages" "Stand.stages" (inClass (top 37) 2)
def Xx:OO:=fun _=>s6 "stages" 504 "Stand.stages" 505 506 133 1 245 246 247 248 249 508 509
def Zd:OO:=fun _=>s7 "stages" "Stand.stages" (inClass (top 37) 2) "lidprice.stands" 462 250
def aGo:OO:=fun _=>s4 "self" 514
def aC0:OO:=fun _=>s5 "reserve" "Stand.reserve" (inClass (top 37) 3)
def Z6:OO:=fun _=>s6 "reserve" 511 "Stand.reserve" 512 513 136 1 252 253 254 255 256 515 516
def Vb:OO:=fun _=>s7 "reserve" "Stand.reserve" (inClass (top 37) 3) "lidprice.stands" 462 257
def aER:OO:=fun _=>s4 "self" 521
def aCA:OO:=fun _=>s5 "caps" "Stand.caps" (inClass (top 37) 4)
def aAc:OO:=fun _=>s6 "caps" 518 "Stand.caps" 519 520 139 1 259 260 261 262 263 522 523
def aAi:OO:=fun _=>s7 "caps" "Stand.caps" (inClass (top 37) 4) "lidprice.stands" 462 264
def aCR:OO:=fun _=>Tz "cap_rows" 525 "end_count" 526 "level" 527 "stage_count" 528
def YC:OO:=fun P=>⟨(.type "dict"),none,(.dict #[E P "__module__" 481 (.str "lidprice.stands" 462),E P "__firstlineno__" 485 (.int 122 484),E P "__init__" 496 (.ref 237),E P "ends" 503 (.ref 244),E P "stages" 510 (.ref 251),E P "reserve" 517 (.ref 258),E P "caps" 524 (.ref 265),E P "__static_attributes__" 529 (.ref 266),E P "__dict__" 531 (.ref 269),E P "__weakref__" 533 (.ref 270),E P "__doc__" 534 .none] 4),#[]⟩
def aEQ:OO:=fun _=>⟨(.type "type"),none,(.cls ⟨"Stand",[(.type "object")],[(.ref 268),(.type "object")],267,"Stand",true,[],[(.ref 317)],false,none,false⟩),#[none,none,(some (.str "Stand" 474)),(some (.str "Stand" 482)),(some (.builtin "object.__new__")),(some (.bool true))]⟩
def Xq:OO:=fun _=>⟨(.type "getset_descriptor"),none,(.fields #[(.str "__dict__" 530),(.ref 268),(.builtin "function.__dict__"),(.builtin "function.__dict__#set")]),#[]⟩
def aAQ:OO:=fun _=>s10 532 268
def aEo:OO:=fun _=>JS 268
def aCk:OO:=fun _=>oU 268
def aDB:OO:=fun _=>Aj 268
def aDI:OO:=fun P=>⟨(.type "dict"),none,(.dict #[E P "__module__" 544 (.str "lidprice.stands" 462),E P "__qualname__" 546 (.str "End" 545),E P "__firstlineno__" 548 (.int 141 547),E P "__init__" 556 (.ref 286),E P "is_end" 563 (.ref 293),E P "ways" 570 (.ref 300),E P "beside" 578 (.ref 307),E P "told" 585 (.ref 314),E P "__static_attributes__" 587 (.ref 315)] 9),#[]⟩
def aFA:OO:=fun _=>⟨.none,none,(.fields #[(.int 143 0),(.int 4 0),(.ref 285),(.int 149 0),(.int 4 0),(.ref 292),(.int 152 0),(.int 4 0),(.ref 299),(.int 155 0),(.int 4 0),(.ref 306),(.int 158 0),(.int 4 0),(.ref 313)]),#[]⟩
def aGE:OO:=fun _=>s2 "End" 539 540 541 141 276 277 542 543
def aDo:OO:=fun _=>s3 278 275 "lidprice.stands" 462
def aDj:OO:=fun _=>o8 "self" 552 "worth" 553
def aFQ:OO:=fun _=>s5 "__init__" "End.__init__" (inClass (top 38) 0)
def aAl:OO:=fun _=>s6 "__init__" 549 "End.__init__" 550 551 143 2 280 281 282 283 284 554 555
def Zu:OO:=fun _=>s7 "__init__" "End.__init__" (inClass (top 38) 0) "lidprice.stands" 462 285
def aCL:OO:=fun _=>s4 "self" 560
def aFO:OO:=fun _=>s5 "is_end" "End.is_end" (inClass (top 38) 1)
def Z7:OO:=fun _=>s6 "is_end" 557 "End.is_end" 558 559 149 1 287 288 289 290 291 561 562
def aBk:OO:=fun _=>s7 "is_end" "End.is_end" (inClass (top 38) 1) "lidprice.stands" 462 292
def aCY:OO:=fun _=>s4 "self" 567
def aDm:OO:=fun _=>s5 "ways" "End.ways" (inClass (top 38) 2)
def aAJ:OO:=fun _=>s6 "ways" 564 "End.ways" 565 566 152 1 294 295 296 297 298 568 569
def Yr:OO:=fun _=>s7 "ways" "End.ways" (inClass (top 38) 2) "lidprice.stands" 462 299
def aGK:OO:=fun _=>o8 "self" 574 "level" 575
def aCB:OO:=fun _=>s5 "beside" "End.beside" (inClass (top 38) 3)
def aBF:OO:=fun _=>s6 "beside" 571 "End.beside" 572 573 155 2 301 302 303 304 305 576 577
def Y4:OO:=fun _=>s7 "beside" "End.beside" (inClass (top 38) 3) "lidprice.stands" 462 306
def aGj:OO:=fun _=>s4 "self" 582
def aFf:OO:=fun _=>s5 "told" "End.told" (inClass (top 38) 4)
def Zj:OO:=fun _=>s6 "told" 579 "End.told" 580 581 158 1 308 309 310 311 312 583 584
def V1:OO:=fun _=>s7 "told" "End.told" (inClass (top 38) 4) "lidprice.stands" 462 313
def aEL:OO:=fun _=>s4 "worth" 586
def VH:OO:=fun P=>⟨(.type "dict"),none,(.dict #[E P "__module__" 544 (.str "lidprice.stands" 462),E P "__firstlineno__" 548 (.int 141 547),E P "__init__" 556 (.ref 286),E P "is_end" 563 (.ref 293),E P "ways" 570 (.ref 300),E P "beside" 578 (.ref 307),E P "told" 585 (.ref 314),E P "__static_attributes__" 587 (.ref 315),E P "__doc__" 588 .none] 2),#[]⟩
def Z3:OO:=fun _=>Wm "End" 268 317 316 273 537 545
def aFS:OO:=fun _=>JS 317
def aDQ:OO:=fun _=>oU 317
def aCy:OO:=fun P=>⟨(.type "dict"),none,(.dict #[E P "__name__" 165 (.str "lidprice.cases" 686),E P "__doc__" 166 .none,E P "__package__" 167 .none,E P "__loader__" 168 (.builtin "__main__.__loader__#opaque"),E P "__spec__" 169 .none,E P "__annotations__" 170 (.ref 6),E P "__builtins__" 171 (.ref 4),E P "__file__" 173 (.str "/claim/cut.py" 172),E P "__cached__" 174 .none,E P "_wall" 193 (.ref 21),E P "LidError" 213 (.ref 31),E P "NoBox" 229 (.ref 44),E P "NoDeed" 245 (.ref 56),E P "NoSets" 261 (.ref 68),E P "NoPattern" 288 (.ref 87),E P "TooMany" 313 (.ref 106),E P "is_whole" 324 (.ref 115),E P "common_divisor" 333 (.ref 122),E P "common_multiple" 342 (.ref 129),E P "share" 351 (.ref 136),E P "whole" 358 (.ref 143),E P "total" 364 (.ref 148),E P "below" 372 (.ref 155),E P "lesser" 380 (.ref 162),E P "MOST_WORTH" 384 (.int 1000000000 383),E P "MOST_WEIGHT" 386 (.int 1000 385),E P "rising" 392 (.ref 167),E P "in_form" 398 (.ref 172),E P "all_weights" 404 (.ref 177),E P "by_weights" 410 (.ref 182),E P "mean" 417 (.ref 189),E P "capped" 423 (.ref 194),E P "mixed" 429 (.ref 199),E P "worths_of" 440 (.ref 206),E P "product" 449 (.ref 213),E P "greatest" 455 (.ref 218),E P "level_for" 461 (.ref 223),E P "MOST_PRICE" 465 (.int 1000000000 464),E P "MOST_STAGE_ROWS" 467 (.int 4 466),E P "MOST_STAGES" 469 (.int 4 468),E P "MOST_ENDS" 471 (.int 12 470),E P "MOST_BOXES" 473 (.int 6 472),E P "Stand" 536 (.ref 268),E P "End" 590 (.ref 317),E P "Stage" 659 (.ref 376),E P "is_stand" 666 (.ref 385),E P "is_stage_row" 673 (.ref 392),E P "is_stage_rows" 679 (.ref 397),E P "need_boxes" 685 (.ref 402),E P "Case" 827 (.ref 513)] 50),#[]⟩
def Ve:OO:=fun _=>⟨.none,none,(.fields #[(.int 1 0),(.int 0 0),(.ref 20),(.int 5 0),(.int 0 0),(.ref 27),(.int 7 0),(.int 0 0),(.ref 40),(.int 9 0),(.int 0 0),(.ref 52),(.int 11 0),(.int 0 0),(.ref 64),(.int 13 0),(.int 0 0),(.ref 76),(.int 18 0),(.int 0 0),(.ref 95),(.int 23 0),(.int 0 0),(.ref 114),(.int 25 0),(.int 0 0),(.ref 121),(.int 31 0),(.int 0 0),(.ref 128),(.int 36 0),(.int 0 0),(.ref 135),(.int 41 0),(.int 0 0),(.ref 142),(.int 43 0),(.int 0 0),(.ref 147),(.int 46 0),(.int 0 0),(.ref 154),(.int 48 0),(.int 0 0),(.ref 161),(.int 53 0),(.int 0 0),(.ref 166),(.int 57 0),(.int 0 0),(.ref 171),(.int 65 0),(.int 0 0),(.ref 176),(.int 67 0),(.int 0 0),(.ref 181),(.int 71 0),(.int 0 0),(.ref 188),(.int 73 0),(.int 0 0),(.ref 193),(.int 75 0),(.int 0 0),(.ref 198),(.int 82 0),(.int 0 0),(.ref 205),(.int 88 0),(.int 0 0),(.ref 212),(.int 93 0),(.int 0 0),(.ref 217),(.int 105 0),(.int 0 0),(.ref 222),(.int 122 0),(.int 0 0),(.ref 229),(.int 141 0),(.int 0 0),(.ref 278),(.int 160 0),(.int 0 0),(.ref 325),(.int 192 0),(.int 0 0),(.ref 384),(.int 194 0),(.int 0 0),(.ref 391),(.int 198 0),(.int 0 0),(.ref 396),(.int 202 0),(.int 0 0),(.ref 401),(.int 208 0),(.int 0 0),(.ref 408)]),#[]⟩
def Mv:OO:=fun _=>⟨(.type "type"),none,(.cls ⟨"Stand",[(.type "object")],[(.ref 268),(.type "object")],267,"Stand",true,[],[(.ref 317),(.ref 376)],false,none,false⟩),#[none,none,(some (.str "Stand" 474)),(some (.str "Stand" 482)),(some (.builtin "object.__new__")),(some (.bool true))]⟩
def aCV:OO:=fun _=>Aj 268
def aDC:OO:=fun P=>⟨(.type "dict"),none,(.dict #[E P "__module__" 598 (.str "lidprice.stands" 462),E P "__qualname__" 600 (.str "Stage" 599),E P "__firstlineno__" 602 (.int 160 601),E P "__init__" 608 (.ref 331),E P "is_end" 615 (.ref 338),E P "row_share" 623 (.ref 345),E P "after" 631 (.ref 352),E P "ways" 638 (.ref 359),E P "beside" 646 (.ref 366),E P "told" 653 (.ref 373),E P "__static_attributes__" 656 (.ref 374)] 11),#[]⟩
def aEM:OO:=fun _=>⟨.none,none,(.fields #[(.int 162 0),(.int 4 0),(.ref 330),(.int 175 0),(.int 4 0),(.ref 337),(.int 178 0),(.int 4 0),(.ref 344),(.int 181 0),(.int 4 0),(.ref 351),(.int 184 0),(.int 4 0),(.ref 358),(.int 187 0),(.int 4 0),(.ref 365),(.int 190 0),(.int 4 0),(.ref 372)]),#[]⟩
def aDF:OO:=fun _=>s2 "Stage" 593 594 595 160 323 324 596 597
def aEg:OO:=fun _=>s3 325 322 "lidprice.stands" 462
def aGz:OO:=fun _=>s5 "__init__" "Stage.__init__" (inClass (top 39) 0)
def aAI:OO:=fun _=>pD "__init__" 603 "Stage.__init__" 604 605 162 3 327 328 329 606 607
def aBq:OO:=fun _=>s7 "__init__" "Stage.__init__" (inClass (top 39) 0) "lidprice.stands" 462 330
def aEe:OO:=fun _=>s4 "self" 612
def aD0:OO:=fun _=>s5 "is_end" "Stage.is_end" (inClass (top 39) 1)
def Xf:OO:=fun _=>s6 "is_end" 609 "Stage.is_end" 610 611 175 1 332 333 334 335 336 613 614
def WN:OO:=fun _=>s7 "is_end" "Stage.is_end" (inClass (top 39) 1) "lidprice.stands" 462 337
def aFy:OO:=fun _=>o8 "self" 619 "row" 620
def aB2:OO:=fun _=>s5 "row_share" "Stage.row_share" (inClass (top 39) 2)
def aAF:OO:=fun _=>s6 "row_share" 616 "Stage.row_share" 617 618 178 2 339 340 341 342 343 621 622
def Yk:OO:=fun _=>s7 "row_share" "Stage.row_share" (inClass (top 39) 2) "lidprice.stands" 462 344
def aDY:OO:=fun _=>o8 "self" 627 "row" 628
def aEC:OO:=fun _=>s5 "after" "Stage.after" (inClass (top 39) 3)
def Zh:OO:=fun _=>s6 "after" 624 "Stage.after" 625 626 181 2 346 347 348 349 350 629 630
def aBi:OO:=fun _=>s7 "after" "Stage.after" (inClass (top 39) 3) "lidprice.stands" 462 351
def aF4:OO:=fun _=>s4 "self" 635
def aFo:OO:=fun _=>s5 "ways" "Stage.ways" (inClass (top 39) 4)
def ZC:OO:=fun _=>s6 "ways" 632 "Stage.ways" 633 634 184 1 353 354 355 356 357 636 637
def YQ:OO:=fun _=>s7 "ways" "Stage.ways" (inClass (top 39) 4) "lidprice.stands" 462 358
def aCO:OO:=fun _=>o8 "self" 642 "level" 643
def aGs:OO:=fun _=>s5 "beside" "Stage.beside" (inClass (top 39) 5)
def WP:OO:=fun _=>s6 "beside" 639 "Stage.beside" 640 641 187 2 360 361 362 363 364 644 645
def ZK:OO:=fun _=>s7 "beside" "Stage.beside" (inClass (top 39) 5) "lidprice.stands" 462 365
def aE1:OO:=fun _=>s4 "self" 650
def aEh:OO:=fun _=>s5 "told" "Stage.told" (inClass (top 39) 6)
def Z5:OO:=fun _=>s6 "told" 647 "Stage.told" 648 649 190 1 367 368 369 370 371 651 652
def Y5:OO:=fun _=>s7 "told" "Stage.told" (inClass (top 39) 6) "lidprice.stands" 462 372
def aEA:OO:=fun _=>o8 "price" 654 "rows" 655
def XJ:OO:=fun P=>⟨(.type "dict"),none,(.dict #[E P "__module__" 598 (.str "lidprice.stands" 462),E P "__firstlineno__" 602 (.int 160 601),E P "__init__" 608 (.ref 331),E P "is_end" 615 (.ref 338),E P "row_share" 623 (.ref 345),E P "after" 631 (.ref 352),E P "ways" 638 (.ref 359),E P "beside" 646 (.ref 366),E P "told" 653 (.ref 373),E P "__static_attributes__" 656 (.ref 374),E P "__doc__" 657 .none] 2),#[]⟩
def aA4:OO:=fun _=>Wm "Stage" 268 376 375 320 591 599
def aGp:OO:=fun _=>JS 376
def aDE:OO:=fun _=>oU 376
def aC6:OO:=fun _=>s4 "thing" 663
def aCe:OO:=fun _=>s5 "is_stand" "is_stand" (top 40)
def Xl:OO:=fun _=>s6 "is_stand" 660 "is_stand" 661 662 192 1 379 380 381 382 383 664 665
def Za:OO:=fun _=>s7 "is_stand" "is_stand" (top 40) "lidprice.stands" 462 384
def aFl:OO:=fun _=>s4 "row" 670
def aFX:OO:=fun _=>s5 "is_stage_row" "is_stage_row" (top 41)
def aA3:OO:=fun _=>s6 "is_stage_row" 667 "is_stage_row" 668 669 194 1 386 387 388 389 390 671 672
def XN:OO:=fun _=>s7 "is_stage_row" "is_stage_row" (top 41) "lidprice.stands" 462 391
def aGe:OO:=fun _=>s5 "is_stage_rows" "is_stage_rows" (top 42)
def WY:OO:=fun _=>pD "is_stage_rows" 674 "is_stage_rows" 675 676 198 1 393 394 395 677 678
def Xm:OO:=fun _=>s7 "is_stage_rows" "is_stage_rows" (top 42) "lidprice.stands" 462 396
def aGg:OO:=fun _=>s5 "need_boxes" "need_boxes" (top 43)
def Zf:OO:=fun _=>pD "need_boxes" 680 "need_boxes" 681 682 202 1 398 399 400 683 684
def XQ:OO:=fun _=>s7 "need_boxes" "need_boxes" (top 43) "lidprice.stands" 462 401
def aF3:OO:=fun P=>⟨(.type "dict"),none,(.dict #[E P "__module__" 695 (.str "lidprice.cases" 686),E P "__qualname__" 697 (.str "Case" 696),E P "__firstlineno__" 699 (.int 208 698),E P "__init__" 705 (.ref 414),E P "how_many" 712 (.ref 421),E P "need_box" 720 (.ref 428),E P "stand" 728 (.ref 435),E P "cap" 736 (.ref 442),E P "kept" 742 (.ref 447),E P "paid" 749 (.ref 454),E P "had" 756 (.ref 461),E P "deeds" 763 (.ref 468),E P "caps" 773 (.ref 475),E P "debt" 781 (.ref 482),E P "left" 788 (.ref 489),E P "behind" 797 (.ref 496),E P "opened" 806 (.ref 503),E P "taken" 814 (.ref 510),E P "__static_attributes__" 820 (.ref 511)] 19),#[]⟩
def aGn:OO:=fun _=>⟨.none,none,(.fields #[(.int 210 0),(.int 4 0),(.ref 413),(.int 218 0),(.int 4 0),(.ref 420),(.int 221 0),(.int 4 0),(.ref 427),(.int 225 0),(.int 4 0),(.ref 434),(.int 229 0),(.int 4 0),(.ref 441),(.int 233 0),(.int 4 0),(.ref 446),(.int 236 0),(.int 4 0),(.ref 453),(.int 239 0),(.int 4 0),(.ref 460),(.int 242 0),(.int 4 0),(.ref 467),(.int 245 0),(.int 4 0),(.ref 474),(.int 250 0),(.int 4 0),(.ref 481),(.int 253 0),(.int 4 0),(.ref 488),(.int 256 0),(.int 4 0),(.ref 495),(.int 264 0),(.int 4 0),(.ref 502),(.int 267 0),(.int 4 0),(.ref 509)]),#[]⟩
def aCc:OO:=fun _=>s2 "Case" 690 691 692 208 406 407 693 694
def aGI:OO:=fun _=>s3 408 405 "lidprice.cases" 686
def aGv:OO:=fun _=>s5 "__init__" "Case.__init__" (inClass (top 45) 0)
def Yl:OO:=fun _=>pD "__init__" 700 "Case.__init__" 701 702 210 2 410 411 412 703 704
def aBw:OO:=fun _=>s7 "__init__" "Case.__init__" (inClass (top 45) 0) "lidprice.cases" 686 413
def aEW:OO:=fun _=>s4 "self" 709
def aEU:OO:=fun _=>s5 "how_many" "Case.how_many" (inClass (top 45) 1)
def Xg:OO:=fun _=>s6 "how_many" 706 "Case.how_many" 707 708 218 1 415 416 417 418 419 710 711
def Xw:OO:=fun _=>s7 "how_many" "Case.how_many" (inClass (top 45) 1) "lidprice.cases" 686 420
def aF2:OO:=fun _=>o8 "self" 716 "box" 717
def aB1:OO:=fun _=>s5 "need_box" "Case.need_box" (inClass (top 45) 2)
def aAZ:OO:=fun _=>s6 "need_box" 713 "Case.need_box" 714 715 221 2 422 423 424 425 426 718 719
def YT:OO:=fun _=>s7 "need_box" "Case.need_box" (inClass (top 45) 2) "lidprice.cases" 686 427
def aDn:OO:=fun _=>o8 "self" 724 "box" 725
def aC8:OO:=fun _=>s5 "stand" "Case.stand" (inClass (top 45) 3)
def aAs:OO:=fun _=>s6 "stand" 721 "Case.stand" 722 723 225 2 429 430 431 432 433 726 727
def Zw:OO:=fun _=>s7 "stand" "Case.stand" (inClass (top 45) 3) "lidprice.cases" 686 434
def aDT:OO:=fun _=>o8 "self" 732 "box" 733
def aFm:OO:=fun _=>s5 "cap" "Case.cap" (inClass (top 45) 4)
def Yc:OO:=fun _=>s6 "cap" 729 "Case.cap" 730 731 229 2 436 437 438 439 440 734 735
def aBb:OO:=fun _=>s7 "cap" "Case.cap" (inClass (top 45) 4) "lidprice.cases" 686 441
def aES:OO:=fun _=>s5 "kept" "Case.kept" (inClass (top 45) 5)
def YM:OO:=fun _=>pD "kept" 737 "Case.kept" 738 739 233 1 443 444 445 740 741
def aBs:OO:=fun _=>s7 "kept" "Case.kept" (inClass (top 45) 5) "lidprice.cases" 686 446
def aGm:OO:=fun _=>s4 "self" 746
def aD3:OO:=fun _=>s5 "paid" "Case.paid" (inClass (top 45) 6)
def aBC:OO:=fun _=>s6 "paid" 743 "Case.paid" 744 745 236 1 448 449 450 451 452 747 748
def V0:OO:=fun _=>s7 "paid" "Case.paid" (inClass (top 45) 6) "lidprice.cases" 686 453
def aFG:OO:=fun _=>s4 "self" 753
def aDx:OO:=fun _=>s5 "had" "Case.had" (inClass (top 45) 7)
def Wn:OO:=fun _=>s6 "had" 750 "Case.had" 751 752 239 1 455 456 457 458 459 754 755
def Yq:OO:=fun _=>s7 "had" "Case.had" (inClass (top 45) 7) "lidprice.cases" 686 460
def aCx:OO:=fun _=>s4 "self" 760
def aDe:OO:=fun _=>s5 "deeds" "Case.deeds" (inClass (top 45) 8)
def Wo:OO:=fun _=>s6 "deeds" 757 "Case.deeds" 758 759 242 1 462 463 464 465 466 761 762
def aBe:OO:=fun _=>s7 "deeds" "Case.deeds" (inClass (top 45) 8) "lidprice.cases" 686 467
def aCX:OO:=fun _=>Tz "self" 767 "box" 768 "table" 769 "cap" 770
def aFT:OO:=fun _=>s5 "caps" "Case.caps" (inClass (top 45) 9)
def aAz:OO:=fun _=>s6 "caps" 764 "Case.caps" 765 766 245 2 469 470 471 472 473 771 772
def YW:OO:=fun _=>s7 "caps" "Case.caps" (inClass (top 45) 9) "lidprice.cases" 686 474
def aFi:OO:=fun _=>o8 "self" 777 "box" 778
def aCE:OO:=fun _=>s5 "debt" "Case.debt" (inClass (top 45) 10)
def Yo:OO:=fun _=>s6 "debt" 774 "Case.debt" 775 776 250 2 476 477 478 479 480 779 780
def V5:OO:=fun _=>s7 "debt" "Case.debt" (inClass (top 45) 10) "lidprice.cases" 686 481
def aFq:OO:=fun _=>s4 "self" 785
def aCa:OO:=fun _=>s5 "left" "Case.left" (inClass (top 45) 11)
def YH:OO:=fun _=>s6 "left" 782 "Case.left" 783 784 253 1 483 484 485 486 487 786 787
def aAG:OO:=fun _=>s7 "left" "Case.left" (inClass (top 45) 11) "lidprice.cases" 686 488
def aB7:OO:=fun _=>Il "self" 792 "deed" 793 "case" 794
def aDd:OO:=fun _=>s5 "behind" "Case.behind" (inClass (top 45) 12)
def Zz:OO:=fun _=>s6 "behind" 789 "Case.behind" 790 791 256 2 490 491 492 493 494 795 796
def Xv:OO:=fun _=>s7 "behind" "Case.behind" (inClass (top 45) 12) "lidprice.cases" 686 495
def aED:OO:=fun _=>Il "self" 801 "box" 802 "row" 803
def aEk:OO:=fun _=>s5 "opened" "Case.opened" (inClass (top 45) 13)
def Ws:OO:=fun _=>s6 "opened" 798 "Case.opened" 799 800 264 3 497 498 499 500 501 804 805
def aAn:OO:=fun _=>s7 "opened" "Case.opened" (inClass (top 45) 13) "lidprice.cases" 686 502
def aEG:OO:=fun _=>o8 "self" 810 "box" 811
def aCZ:OO:=fun _=>s5 "taken" "Case.taken" (inClass (top 45) 14)
def Va:OO:=fun _=>s6 "taken" 807 "Case.taken" 808 809 267 2 504 505 506 507 508 812 813
def YL:OO:=fun _=>s7 "taken" "Case.taken" (inClass (top 45) 14) "lidprice.cases" 686 509
def aFw:OO:=fun _=>Zy "done" 815 "held" 816 "lowest" 817 "present" 818 "spent" 819
def aAr:OO:=fun P=>⟨(.type "dict"),none,(.dict #[E P "__module__" 695 (.str "lidprice.cases" 686),E P "__firstlineno__" 699 (.int 208 698),E P "__init__" 705 (.ref 414),E P "how_many" 712 (.ref 421),E P "need_box" 720 (.ref 428),E P "stand" 728 (.ref 435),E P "cap" 736 (.ref 442),E P "kept" 742 (.ref 447),E P "paid" 749 (.ref 454),E P "had" 756 (.ref 461),E P "deeds" 763 (.ref 468),E P "caps" 773 (.ref 475),E P "debt" 781 (.ref 482),E P "left" 788 (.ref 489),E P "behind" 797 (.ref 496),E P "opened" 806 (.ref 503),E P "taken" 814 (.ref 510),E P "__static_attributes__" 820 (.ref 511),E P "__dict__" 822 (.ref 514),E P "__weakref__" 824 (.ref 515),E P "__doc__" 825 .none] 4),#[]⟩
def V4:OO:=fun _=>⟨(.type "type"),none,(.cls ⟨"Case",[(.type "object")],[(.ref 513),(.type "object")],512,"Case",true,[],[],false,none,false⟩),#[none,none,(some (.str "Case" 688)),(some (.str "Case" 696)),(some (.builtin "object.__new__")),(some (.bool true))]⟩
def aAm:OO:=fun _=>⟨(.type "getset_descriptor"),none,(.fields #[(.str "__dict__" 821),(.ref 513),(.builtin "function.__dict__"),(.builtin "function.__dict__#set")]),#[]⟩
def ZZ:OO:=fun _=>s10 823 513
def aDM:OO:=fun _=>JS 513
def aGP:OO:=fun _=>oU 513
def aEz:OO:=fun P=>⟨(.type "dict"),none,(.dict #[E P "__name__" 165 (.str "lidprice.patterns" 828),E P "__doc__" 166 .none,E P "__package__" 167 .none,E P "__loader__" 168 (.builtin "__main__.__loader__#opaque"),E P "__spec__" 169 .none,E P "__annotations__" 170 (.ref 6),E P "__builtins__" 171 (.ref 4),E P "__file__" 173 (.str "/claim/cut.py" 172),E P "__cached__" 174 .none,E P "_wall" 193 (.ref 21),E P "LidError" 213 (.ref 31),E P "NoBox" 229 (.ref 44),E P "NoDeed" 245 (.ref 56),E P "NoSets" 261 (.ref 68),E P "NoPattern" 288 (.ref 87),E P "TooMany" 313 (.ref 106),E P "is_whole" 324 (.ref 115),E P "common_divisor" 333 (.ref 122),E P "common_multiple" 342 (.ref 129),E P "share" 351 (.ref 136),E P "whole" 358 (.ref 143),E P "total" 364 (.ref 148),E P "below" 372 (.ref 155),E P "lesser" 380 (.ref 162),E P "MOST_WORTH" 384 (.int 1000000000 383),E P "MOST_WEIGHT" 386 (.int 1000 385),E P "rising" 392 (.ref 167),E P "in_form" 398 (.ref 172),E P "all_weights" 404 (.ref 177),E P "by_weights" 410 (.ref 182),E P "mean" 417 (.ref 189),E P "capped" 423 (.ref 194),E P "mixed" 429 (.ref 199),E P "worths_of" 440 (.ref 206),E P "product" 449 (.ref 213),E P "greatest" 455 (.ref 218),E P "level_for" 461 (.ref 223),E P "MOST_PRICE" 465 (.int 1000000000 464),E P "MOST_STAGE_ROWS" 467 (.int 4 466),E P "MOST_STAGES" 469 (.int 4 468),E P "MOST_ENDS" 471 (.int 12 470),E P "MOST_BOXES" 473 (.int 6 472),E P "Stand" 536 (.ref 268),E P "End" 590 (.ref 317),E P "Stage" 659 (.ref 376),E P "is_stand" 666 (.ref 385),E P "is_stage_row" 673 (.ref 392),E P "is_stage_rows" 679 (.ref 397),E P "need_boxes" 685 (.ref 402),E P "Case" 827 (.ref 513),E P "MOST_SETS" 831 (.int 64 830),E P "has_box" 839 (.ref 524),E P "boxes_of" 845 (.ref 529),E P "size_of" 852 (.ref 536),E P "with_box" 860 (.ref 543),E P "set_of" 866 (.ref 548),E P "is_numbers" 872 (.ref 553),E P "Pattern" 892 (.ref 563),E P "Few" 932 (.ref 598)] 59),#[]⟩
def WM:OO:=fun _=>⟨.none,none,(.fields #[(.int 1 0),(.int 0 0),(.ref 20),(.int 5 0),(.int 0 0),(.ref 27),(.int 7 0),(.int 0 0),(.ref 40),(.int 9 0),(.int 0 0),(.ref 52),(.int 11 0),(.int 0 0),(.ref 64),(.int 13 0),(.int 0 0),(.ref 76),(.int 18 0),(.int 0 0),(.ref 95),(.int 23 0),(.int 0 0),(.ref 114),(.int 25 0),(.int 0 0),(.ref 121),(.int 31 0),(.int 0 0),(.ref 128),(.int 36 0),(.int 0 0),(.ref 135),(.int 41 0),(.int 0 0),(.ref 142),(.int 43 0),(.int 0 0),(.ref 147),(.int 46 0),(.int 0 0),(.ref 154),(.int 48 0),(.int 0 0),(.ref 161),(.int 53 0),(.int 0 0),(.ref 166),(.int 57 0),(.int 0 0),(.ref 171),(.int 65 0),(.int 0 0),(.ref 176),(.int 67 0),(.int 0 0),(.ref 181),(.int 71 0),(.int 0 0),(.ref 188),(.int 73 0),(.int 0 0),(.ref 193),(.int 75 0),(.int 0 0),(.ref 198),(.int 82 0),(.int 0 0),(.ref 205),(.int 88 0),(.int 0 0),(.ref 212),(.int 93 0),(.int 0 0),(.ref 217),(.int 105 0),(.int 0 0),(.ref 222),(.int 122 0),(.int 0 0),(.ref 229),(.int 141 0),(.int 0 0),(.ref 278),(.int 160 0),(.int 0 0),(.ref 325),(.int 192 0),(.int 0 0),(.ref 384),(.int 194 0),(.int 0 0),(.ref 391),(.int 198 0),(.int 0 0),(.ref 396),(.int 202 0),(.int 0 0),(.ref 401),(.int 208 0),(.int 0 0),(.ref 408),(.int 271 0),(.int 0 0),(.ref 523),(.int 273 0),(.int 0 0),(.ref 528),(.int 275 0),(.int 0 0),(.ref 535),(.int 277 0),(.int 0 0),(.ref 542),(.int 279 0),(.int 0 0),(.ref 547),(.int 281 0),(.int 0 0),(.ref 552),(.int 285 0),(.int 0 0),(.ref 559),(.int 287 0),(.int 0 0),(.ref 573)]),#[]⟩
def aFz:OO:=fun _=>o8 "kept" 835 "box" 836
def aCD:OO:=fun _=>s5 "has_box" "has_box" (top 48)
def Wg:OO:=fun _=>s6 "has_box" 832 "has_box" 833 834 271 2 518 519 520 521 522 837 838
def Wh:OO:=fun _=>s7 "has_box" "has_box" (top 48) "lidprice.patterns" 828 523
def aCf:OO:=fun _=>s5 "boxes_of" "boxes_of" (top 49)
def Vt:OO:=fun _=>pD "boxes_of" 840 "boxes_of" 841 842 273 1 525 526 527 843 844
def Yu:OO:=fun _=>s7 "boxes_of" "boxes_of" (top 49) "lidprice.patterns" 828 528
def aDU:OO:=fun _=>s4 "kept" 849
def aGx:OO:=fun _=>s5 "size_of" "size_of" (top 50)
def W7:OO:=fun _=>s6 "size_of" 846 "size_of" 847 848 275 1 530 531 532 533 534 850 851
def aBI:OO:=fun _=>s7 "size_of" "size_of" (top 50) "lidprice.patterns" 828 535
def aC7:OO:=fun _=>o8 "kept" 856 "box" 857
def aCu:OO:=fun _=>s5 "with_box" "with_box" (top 51)
def aAH:OO:=fun _=>s6 "with_box" 853 "with_box" 854 855 277 2 537 538 539 540 541 858 859
def aA7:OO:=fun _=>s7 "with_box" "with_box" (top 51) "lidprice.patterns" 828 542
def aDi:OO:=fun _=>s5 "set_of" "set_of" (top 52)
def ZR:OO:=fun _=>pD "set_of" 861 "set_of" 862 863 279 1 544 545 546 864 865
def Vc:OO:=fun _=>s7 "set_of" "set_of" (top 52) "lidprice.patterns" 828 547
def aFY:OO:=fun _=>s5 "is_numbers" "is_numbers" (top 53)
def aAO:OO:=fun _=>pD "is_numbers" 867 "is_numbers" 868 869 281 4 549 550 551 870 871
def Vy:OO:=fun _=>s7 "is_numbers" "is_numbers" (top 53) "lidprice.patterns" 828 552
def aEn:OO:=fun P=>s9 P 880 "lidprice.patterns" 828 882 "Pattern" 881 884 285 883 885 561
def aE3:OO:=fun _=>s2 "Pattern" 875 876 877 285 557 558 878 879
def aB4:OO:=fun _=>s3 559 556 "lidprice.patterns" 828
def ZD:OO:=fun P=>⟨(.type "dict"),none,(.dict #[E P "__module__" 880 (.str "lidprice.patterns" 828),E P "__firstlineno__" 884 (.int 285 883),E P "__static_attributes__" 885 (.ref 561),E P "__dict__" 887 (.ref 564),E P "__weakref__" 889 (.ref 565),E P "__doc__" 890 .none] 4),#[]⟩
def aFJ:OO:=fun _=>⟨(.type "type"),none,(.cls ⟨"Pattern",[(.type "object")],[(.ref 563),(.type "object")],562,"Pattern",true,[],[(.ref 598)],false,none,false⟩),#[none,none,(some (.str "Pattern" 873)),(some (.str "Pattern" 881)),(some (.builtin "object.__new__")),(some (.bool true))]⟩
def WF:OO:=fun _=>⟨(.type "getset_descriptor"),none,(.fields #[(.str "__dict__" 886),(.ref 563),(.builtin "function.__dict__"),(.builtin "function.__dict__#set")]),#[]⟩
def aAS:OO:=fun _=>s10 888 563
def aCs:OO:=fun _=>JS 563
def aC1:OO:=fun _=>oU 563
def aCl:OO:=fun _=>Aj 563
def aDl:OO:=fun P=>⟨(.type "dict"),none,(.dict #[E P "__module__" 900 (.str "lidprice.patterns" 828),E P "__qualname__" 902 (.str "Few" 901),E P "__firstlineno__" 904 (.int 287 903),E P "__init__" 912 (.ref 581),E P "may" 920 (.ref 588),E P "told" 927 (.ref 595),E P "__static_attributes__" 929 (.ref 596)] 7),#[]⟩
def aCK:OO:=fun _=>⟨.none,none,(.fields #[(.int 289 0),(.int 4 0),(.ref 580),(.int 294 0),(.int 4 0),(.ref 587),(.int 297 0),(.int 4 0),(.ref 594)]),#[]⟩
def aDW:OO:=fun _=>s2 "Few" 895 896 897 287 571 572 898 899
def aFn:OO:=fun _=>s3 573 570 "lidprice.patterns" 828
def aFr:OO:=fun _=>o8 "self" 908 "count" 909
def aGh:OO:=fun _=>s5 "__init__" "Few.__init__" (inClass (top 55) 0)
def VJ:OO:=fun _=>s6 "__init__" 905 "Few.__init__" 906 907 289 2 575 576 577 578 579 910 911
def Yg:OO:=fun _=>s7 "__init__" "Few.__init__" (inClass (top 55) 0) "lidprice.patterns" 828 580
def aCp:OO:=fun _=>o8 "self" 916 "kept" 917
def aGq:OO:=fun _=>s5 "may" "Few.may" (inClass (top 55) 1)
def Wk:OO:=fun _=>s6 "may" 913 "Few.may" 914 915 294 2 582 583 584 585 586 918 919
def aBB:OO:=fun _=>s7 "may" "Few.may" (inClass (top 55) 1) "lidprice.patterns" 828 587
def aDA:OO:=fun _=>s4 "self" 924
def aCJ:OO:=fun _=>s5 "told" "Few.told" (inClass (top 55) 2)
def Vf:OO:=fun _=>s6 "told" 921 "Few.told" 922 923 297 1 589 590 591 592 593 925 926
def Vg:OO:=fun _=>s7 "told" "Few.told" (inClass (top 55) 2) "lidprice.patterns" 828 594
def aCj:OO:=fun _=>s4 "limit" 928
def W9:OO:=fun P=>⟨(.type "dict"),none,(.dict #[E P "__module__" 900 (.str "lidprice.patterns" 828),E P "__firstlineno__" 904 (.int 287 903),E P "__init__" 912 (.ref 581),E P "may" 920 (.ref 588),E P "told" 927 (.ref 595),E P "__static_attributes__" 929 (.ref 596),E P "__doc__" 930 .none] 2),#[]⟩
def Zb:OO:=fun _=>Wm "Few" 563 598 597 568 893 901
def aGB:OO:=fun _=>JS 598
def aDg:OO:=fun _=>oU 598
def aCh:OO:=fun P=>⟨(.type "dict"),none,(.dict #[E P "__name__" 165 (.str "lidprice.patterns" 828),E P "__doc__" 166 .none,E P "__package__" 167 .none,E P "__loader__" 168 (.builtin "__main__.__loader__#opaque"),E P "__spec__" 169 .none,E P "__annotations__" 170 (.ref 6),E P "__builtins__" 171 (.ref 4),E P "__file__" 173 (.str "/claim/cut.py" 172),E P "__cached__" 174 .none,E P "_wall" 193 (.ref 21),E P "LidError" 213 (.ref 31),E P "NoBox" 229 (.ref 44),E P "NoDeed" 245 (.ref 56),E P "NoSets" 261 (.ref 68),E P "NoPattern" 288 (.ref 87),E P "TooMany" 313 (.ref 106),E P "is_whole" 324 (.ref 115),E P "common_divisor" 333 (.ref 122),E P "common_multiple" 342 (.ref 129),E P "share" 351 (.ref 136),E P "whole" 358 (.ref 143),E P "total" 364 (.ref 148),E P "below" 372 (.ref 155),E P "lesser" 380 (.ref 162),E P "MOST_WORTH" 384 (.int 1000000000 383),E P "MOST_WEIGHT" 386 (.int 1000 385),E P "rising" 392 (.ref 167),E P "in_form" 398 (.ref 172),E P "all_weights" 404 (.ref 177),E P "by_weights" 410 (.ref 182),E P "mean" 417 (.ref 189),E P "capped" 423 (.ref 194),E P "mixed" 429 (.ref 199),E P "worths_of" 440 (.ref 206),E P "product" 449 (.ref 213),E P "greatest" 455 (.ref 218),E P "level_for" 461 (.ref 223),E P "MOST_PRICE" 465 (.int 1000000000 464),E P "MOST_STAGE_ROWS" 467 (.int 4 466),E P "MOST_STAGES" 469 (.int 4 468),E P "MOST_ENDS" 471 (.int 12 470),E P "MOST_BOXES" 473 (.int 6 472),E P "Stand" 536 (.ref 268),E P "End" 590 (.ref 317),E P "Stage" 659 (.ref 376),E P "is_stand" 666 (.ref 385),E P "is_stage_row" 673 (.ref 392),E P "is_stage_rows" 679 (.ref 397),E P "need_boxes" 685 (.ref 402),E P "Case" 827 (.ref 513),E P "MOST_SETS" 831 (.int 64 830),E P "has_box" 839 (.ref 524),E P "boxes_of" 845 (.ref 529),E P "size_of" 852 (.ref 536),E P "with_box" 860 (.ref 543),E P "set_of" 866 (.ref 548),E P "is_numbers" 872 (.ref 553),E P "Pattern" 892 (.ref 563),E P "Few" 932 (.ref 598),E P "Groups" 972 (.ref 629),E P "Listed" 1012 (.ref 662)] 61),#[]⟩
def aBH:OO:=fun _=>⟨.none,none,(.fields #[(.int 1 0),(.int 0 0),(.ref 20),(.int 5 0),(.int 0 0),(.ref 27),(.int 7 0),(.int 0 0),(.ref 40),(.int 9 0),(.int 0 0),(.ref 52),(.int 11 0),(.int 0 0),(.ref 64),(.int 13 0),(.int 0 0),(.ref 76),(.int 18 0),(.int 0 0),(.ref 95),(.int 23 0),(.int 0 0),(.ref 114),(.int 25 0),(.int 0 0),(.ref 121),(.int 31 0),(.int 0 0),(.ref 128),(.int 36 0),(.int 0 0),(.ref 135),(.int 41 0),(.int 0 0),(.ref 142),(.int 43 0),(.int 0 0),(.ref 147),(.int 46 0),(.int 0 0),(.ref 154),(.int 48 0),(.int 0 0),(.ref 161),(.int 53 0),(.int 0 0),(.ref 166),(.int 57 0),(.int 0 0),(.ref 171),(.int 65 0),(.int 0 0),(.ref 176),(.int 67 0),(.int 0 0),(.ref 181),(.int 71 0),(.int 0 0),(.ref 188),(.int 73 0),(.int 0 0),(.ref 193),(.int 75 0),(.int 0 0),(.ref 198),(.int 82 0),(.int 0 0),(.ref 205),(.int 88 0),(.int 0 0),(.ref 212),(.int 93 0),(.int 0 0),(.ref 217),(.int 105 0),(.int 0 0),(.ref 222),(.int 122 0),(.int 0 0),(.ref 229),(.int 141 0),(.int 0 0),(.ref 278),(.int 160 0),(.int 0 0),(.ref 325),(.int 192 0),(.int 0 0),(.ref 384),(.int 194 0),(.int 0 0),(.ref 391),(.int 198 0),(.int 0 0),(.ref 396),(.int 202 0),(.int 0 0),(.ref 401),(.int 208 0),(.int 0 0),(.ref 408),(.int 271 0),(.int 0 0),(.ref 523),(.int 273 0),(.int 0 0),(.ref 528),(.int 275 0),(.int 0 0),(.ref 535),(.int 277 0),(.int 0 0),(.ref 542),(.int 279 0),(.int 0 0),(.ref 547),(.int 281 0),(.int 0 0),(.ref 552),(.int 285 0),(.int 0 0),(.ref 559),(.int 287 0),(.int 0 0),(.ref 573),(.int 299 0),(.int 0 0),(.ref 606),(.int 318 0),(.int 0 0),(.ref 637)]),#[]⟩
def Nv:OO:=fun _=>⟨(.type "type"),none,(.cls ⟨"Pattern",[(.type "object")],[(.ref 563),(.type "object")],562,"Pattern",true,[],[(.ref 598),(.ref 629),(.ref 662)],false,none,false⟩),#[none,none,(some (.str "Pattern" 873)),(some (.str "Pattern" 881)),(some (.builtin "object.__new__")),(some (.bool true))]⟩
def aF9:OO:=fun _=>Aj 563
def aF5:OO:=fun P=>⟨(.type "dict"),none,(.dict #[E P "__module__" 940 (.str "lidprice.patterns" 828),E P "__qualname__" 942 (.str "Groups" 941),E P "__firstlineno__" 944 (.int 299 943),E P "__init__" 953 (.ref 614),E P "may" 959 (.ref 619),E P "told" 966 (.ref 626),E P "__static_attributes__" 969 (.ref 627)] 7),#[]⟩
def aDD:OO:=fun _=>⟨.none,none,(.fields #[(.int 301 0),(.int 4 0),(.ref 613),(.int 309 0),(.int 4 0),(.ref 618),(.int 316 0),(.int 4 0),(.ref 625)]),#[]⟩
def aFv:OO:=fun _=>s2 "Groups" 935 936 937 299 604 605 938 939
def aFV:OO:=fun _=>s3 606 603 "lidprice.patterns" 828
def aFE:OO:=fun _=>Il "self" 948 "groups" 949 "most" 950
def aCw:OO:=fun _=>s5 "__init__" "Groups.__init__" (inClass (top 56) 0)
def Y8:OO:=fun _=>s6 "__init__" 945 "Groups.__init__" 946 947 301 3 608 609 610 611 612 951 952
def Xn:OO:=fun _=>s7 "__init__" "Groups.__init__" (inClass (top 56) 0) "lidprice.patterns" 828 613
def aDV:OO:=fun _=>s5 "may" "Groups.may" (inClass (top 56) 1)
def W2:OO:=fun _=>pD "may" 954 "Groups.may" 955 956 309 2 615 616 617 957 958
def aAB:OO:=fun _=>s7 "may" "Groups.may" (inClass (top 56) 1) "lidprice.patterns" 828 618
def aFh:OO:=fun _=>s4 "self" 963
def aGa:OO:=fun _=>s5 "told" "Groups.told" (inClass (top 56) 2)
def aA1:OO:=fun _=>s6 "told" 960 "Groups.told" 961 962 316 1 620 621 622 623 624 964 965
def ZX:OO:=fun _=>s7 "told" "Groups.told" (inClass (top 56) 2) "lidprice.patterns" 828 625
def aEX:OO:=fun _=>o8 "groups" 967 "most" 968
def ZL:OO:=fun P=>⟨(.type "dict"),none,(.dict #[E P "__module__" 940 (.str "lidprice.patterns" 828),E P "__firstlineno__" 944 (.int 299 943),E P "__init__" 953 (.ref 614),E P "may" 959 (.ref 619),E P "told" 966 (.ref 626),E P "__static_attributes__" 969 (.ref 627),E P "__doc__" 970 .none] 2),#[]⟩
def Yw:OO:=fun _=>Wm "Groups" 563 629 628 601 933 941
def aGc:OO:=fun _=>JS 629
def aFe:OO:=fun _=>oU 629
def aFk:OO:=fun _=>Aj 563
def aFb:OO:=fun P=>⟨(.type "dict"),none,(.dict #[E P "__module__" 980 (.str "lidprice.patterns" 828),E P "__qualname__" 982 (.str "Listed" 981),E P "__firstlineno__" 984 (.int 318 983),E P "__init__" 992 (.ref 645),E P "may" 1000 (.ref 652),E P "told" 1007 (.ref 659),E P "__static_attributes__" 1009 (.ref 660)] 7),#[]⟩
def aCv:OO:=fun _=>⟨.none,none,(.fields #[(.int 320 0),(.int 4 0),(.ref 644),(.int 325 0),(.int 4 0),(.ref 651),(.int 328 0),(.int 4 0),(.ref 658)]),#[]⟩
def aDf:OO:=fun _=>s2 "Listed" 975 976 977 318 635 636 978 979
def aCI:OO:=fun _=>s3 637 634 "lidprice.patterns" 828
def aB0:OO:=fun _=>o8 "self" 988 "sets" 989
def aDw:OO:=fun _=>s5 "__init__" "Listed.__init__" (inClass (top 57) 0)
def aBx:OO:=fun _=>s6 "__init__" 985 "Listed.__init__" 986 987 320 2 639 640 641 642 643 990 991
def YZ:OO:=fun _=>s7 "__init__" "Listed.__init__" (inClass (top 57) 0) "lidprice.patterns" 828 644
def aDa:OO:=fun _=>o8 "self" 996 "kept" 997
def aGu:OO:=fun _=>s5 "may" "Listed.may" (inClass (top 57) 1)
def Y6:OO:=fun _=>s6 "may" 993 "Listed.may" 994 995 325 2 646 647 648 649 650 998 999
def Zi:OO:=fun _=>s7 "may" "Listed.may" (inClass (top 57) 1) "lidprice.patterns" 828 651
def aGC:OO:=fun _=>s4 "self" 1004
def aDs:OO:=fun _=>s5 "told" "Listed.told" (inClass (top 57) 2)
def Z2:OO:=fun _=>s6 "told" 1001 "Listed.told" 1002 1003 328 1 653 654 655 656 657 1005 1006
def XX:OO:=fun _=>s7 "told" "Listed.told" (inClass (top 57) 2) "lidprice.patterns" 828 658
def aFW:OO:=fun _=>s4 "sets" 1008
def Vx:OO:=fun P=>⟨(.type "dict"),none,(.dict #[E P "__module__" 980 (.str "lidprice.patterns" 828),E P "__firstlineno__" 984 (.int 318 983),E P "__init__" 992 (.ref 645),E P "may" 1000 (.ref 652),E P "told" 1007 (.ref 659),E P "__static_attributes__" 1009 (.ref 660),E P "__doc__" 1010 .none] 2),#[]⟩
def YF:OO:=fun _=>Wm "Listed" 563 662 661 632 973 981
def aD2:OO:=fun _=>JS 662
def aEF:OO:=fun _=>oU 662
def aDh:OO:=fun P=>⟨(.type "dict"),none,(.dict #[E P "__name__" 165 (.str "law_lidprice_k51_best_of_one_box" 1168),E P "__doc__" 166 .none,E P "__package__" 167 .none,E P "__loader__" 168 (.builtin "__main__.__loader__#opaque"),E P "__spec__" 169 .none,E P "__annotations__" 170 (.ref 6),E P "__builtins__" 171 (.ref 4),E P "__file__" 173 (.str "/claim/cut.py" 172),E P "__cached__" 174 .none,E P "_wall" 193 (.ref 21),E P "LidError" 213 (.ref 31),E P "NoBox" 229 (.ref 44),E P "NoDeed" 245 (.ref 56),E P "NoSets" 261 (.ref 68),E P "NoPattern" 288 (.ref 87),E P "TooMany" 313 (.ref 106),E P "is_whole" 324 (.ref 115),E P "common_divisor" 333 (.ref 122),E P "common_multiple" 342 (.ref 129),E P "share" 351 (.ref 136),E P "whole" 358 (.ref 143),E P "total" 364 (.ref 148),E P "below" 372 (.ref 155),E P "lesser" 380 (.ref 162),E P "MOST_WORTH" 384 (.int 1000000000 383),E P "MOST_WEIGHT" 386 (.int 1000 385),E P "rising" 392 (.ref 167),E P "in_form" 398 (.ref 172),E P "all_weights" 404 (.ref 177),E P "by_weights" 410 (.ref 182),E P "mean" 417 (.ref 189),E P "capped" 423 (.ref 194),E P "mixed" 429 (.ref 199),E P "worths_of" 440 (.ref 206),E P "product" 449 (.ref 213),E P "greatest" 455 (.ref 218),E P "level_for" 461 (.ref 223),E P "MOST_PRICE" 465 (.int 1000000000 464),E P "MOST_STAGE_ROWS" 467 (.int 4 466),E P "MOST_STAGES" 469 (.int 4 468),E P "MOST_ENDS" 471 (.int 12 470),E P "MOST_BOXES" 473 (.int 6 472),E P "Stand" 536 (.ref 268),E P "End" 590 (.ref 317),E P "Stage" 659 (.ref 376),E P "is_stand" 666 (.ref 385),E P "is_stage_row" 673 (.ref 392),E P "is_stage_rows" 679 (.ref 397),E P "need_boxes" 685 (.ref 402),E P "Case" 827 (.ref 513),E P "MOST_SETS" 831 (.int 64 830),E P "has_box" 839 (.ref 524),E P "boxes_of" 845 (.ref 529),E P "size_of" 852 (.ref 536),E P "with_box" 860 (.ref 543),E P "set_of" 866 (.ref 548),E P "is_numbers" 872 (.ref 553),E P "Pattern" 892 (.ref 563),E P "Few" 932 (.ref 598),E P "Groups" 972 (.ref 629),E P "Listed" 1012 (.ref 662),E P "is_pattern" 1019 (.ref 671),E P "less_flaw" 1029 (.ref 678),E P "can_grow" 1035 (.ref 683),E P "sets_by_size" 1041 (.ref 688),E P "more_flaw" 1052 (.ref 695),E P "flaw" 1058 (.ref 700),E P "falling" 1068 (.ref 707),E P "chosen" 1078 (.ref 714),E P "need_pattern" 1087 (.ref 721),E P "MOST_UNFOLDINGS" 1091 (.int 300 1090),E P "unfoldings" 1097 (.ref 726),E P "need_few_unfoldings" 1105 (.ref 733),E P "lets_two" 1115 (.ref 740),E P "need_best" 1121 (.ref 745),E P "best_with_one" 1127 (.ref 750),E P "unfolded" 1133 (.ref 755),E P "greatest_sum" 1139 (.ref 760),E P "best_with_several" 1145 (.ref 765),E P "best_in" 1151 (.ref 770),E P "best_from" 1159 (.ref 777),E P "best" 1167 (.ref 784),E P "_law_cell_at" 1177 (.ref 791)] 83),#[]⟩
def aBr:OO:=fun _=>⟨.none,none,(.fields #[(.int 1 0),(.int 0 0),(.ref 20),(.int 5 0),(.int 0 0),(.ref 27),(.int 7 0),(.int 0 0),(.ref 40),(.int 9 0),(.int 0 0),(.ref 52),(.int 11 0),(.int 0 0),(.ref 64),(.int 13 0),(.int 0 0),(.ref 76),(.int 18 0),(.int 0 0),(.ref 95),(.int 23 0),(.int 0 0),(.ref 114),(.int 25 0),(.int 0 0),(.ref 121),(.int 31 0),(.int 0 0),(.ref 128),(.int 36 0),(.int 0 0),(.ref 135),(.int 41 0),(.int 0 0),(.ref 142),(.int 43 0),(.int 0 0),(.ref 147),(.int 46 0),(.int 0 0),(.ref 154),(.int 48 0),(.int 0 0),(.ref 161),(.int 53 0),(.int 0 0),(.ref 166),(.int 57 0),(.int 0 0),(.ref 171),(.int 65 0),(.int 0 0),(.ref 176),(.int 67 0),(.int 0 0),(.ref 181),(.int 71 0),(.int 0 0),(.ref 188),(.int 73 0),(.int 0 0),(.ref 193),(.int 75 0),(.int 0 0),(.ref 198),(.int 82 0),(.int 0 0),(.ref 205),(.int 88 0),(.int 0 0),(.ref 212),(.int 93 0),(.int 0 0),(.ref 217),(.int 105 0),(.int 0 0),(.ref 222),(.int 122 0),(.int 0 0),(.ref 229),(.int 141 0),(.int 0 0),(.ref 278),(.int 160 0),(.int 0 0),(.ref 325),(.int 192 0),(.int 0 0),(.ref 384),(.int 194 0),(.int 0 0),(.ref 391),(.int 198 0),(.int 0 0),(.ref 396),(.int 202 0),(.int 0 0),(.ref 401),(.int 208 0),(.int 0 0),(.ref 408),(.int 271 0),(.int 0 0),(.ref 523),(.int 273 0),(.int 0 0),(.ref 528),(.int 275 0),(.int 0 0),(.ref 535),(.int 277 0),(.int 0 0),(.ref 542),(.int 279 0),(.int 0 0),(.ref 547),(.int 281 0),(.int 0 0),(.ref 552),(.int 285 0),(.int 0 0),(.ref 559),(.int 287 0),(.int 0 0),(.ref 573),(.int 299 0),(.int 0 0),(.ref 606),(.int 318 0),(.int 0 0),(.ref 637),(.int 330 0),(.int 0 0),(.ref 670),(.int 332 0),(.int 0 0),(.ref 677),(.int 339 0),(.int 0 0),(.ref 682),(.int 341 0),(.int 0 0),(.ref 687),(.int 347 0),(.int 0 0),(.ref 694),(.int 355 0),(.int 0 0),(.ref 699),(.int 361 0),(.int 0 0),(.ref 706),(.int 369 0),(.int 0 0),(.ref 713),(.int 375 0),(.int 0 0),(.ref 720),(.int 383 0),(.int 0 0),(.ref 725),(.int 386 0),(.int 0 0),(.ref 732),(.int 390 0),(.int 0 0),(.ref 739),(.int 396 0),(.int 0 0),(.ref 744),(.int 400 0),(.int 0 0),(.ref 749),(.int 403 0),(.int 0 0),(.ref 754),(.int 411 0),(.int 0 0),(.ref 759),(.int 413 0),(.int 0 0),(.ref 764),(.int 416 0),(.int 0 0),(.ref 769),(.int 422 0),(.int 0 0),(.ref 776),(.int 426 0),(.int 0 0),(.ref 783),(.int 429 0),(.int 0 0),(.ref 790)]),#[]⟩
def aE6:OO:=fun _=>s4 "thing" 1016
def aEp:OO:=fun _=>s5 "is_pattern" "is_pattern" (top 58)
def Yh:OO:=fun _=>s6 "is_pattern" 1013 "is_pattern" 1014 1015 330 1 665 666 667 668 669 1017 1018
def aAq:OO:=fun _=>s7 "is_pattern" "is_pattern" (top 58) "lidprice.patterns" 828 670
def aDu:OO:=fun _=>Tz "lets" 1023 "one" 1024 "box" 1025 "other" 1026
def aCG:OO:=fun _=>s5 "less_flaw" "less_flaw" (top 59)
def We:OO:=fun _=>s6 "less_flaw" 1020 "less_flaw" 1021 1022 332 1 672 673 674 675 676 1027 1028
def aAP:OO:=fun _=>s7 "less_flaw" "less_flaw" (top 59) "lidprice.patterns" 828 677
def aGD:OO:=fun _=>s5 "can_grow" "can_grow" (top 60)
def Xb:OO:=fun _=>pD "can_grow" 1030 "can_grow" 1031 1032 339 3 679 680 681 1033 1034
def Vu:OO:=fun _=>s7 "can_grow" "can_grow" (top 60) "lidprice.patterns" 828 682
def aGA:OO:=fun _=>s5 "sets_by_size" "sets_by_size" (top 61)
def WK:OO:=fun _=>pD "sets_by_size" 1036 "sets_by_size" 1037 1038 341 1 684 685 686 1039 1040
def Zm:OO:=fun _=>s7 "sets_by_size" "sets_by_size" (top 61) "lidprice.patterns" 828 687
def aCT:OO:=fun _=>Zy "lets" 1045 "by_size" 1046 "size" 1047 "other" 1048 "one" 1049
def aGH:OO:=fun _=>s5 "more_flaw" "more_flaw" (top 62)
def ZQ:OO:=fun _=>s6 "more_flaw" 1042 "more_flaw" 1043 1044 347 1 689 690 691 692 693 1050 1051
def ZJ:OO:=fun _=>s7 "more_flaw" "more_flaw" (top 62) "lidprice.patterns" 828 694
def aFD:OO:=fun _=>s5 "flaw" "flaw" (top 63)
def ZG:OO:=fun _=>pD "flaw" 1053 "flaw" 1054 1055 355 2 696 697 698 1056 1057
def VR:OO:=fun _=>s7 "flaw" "flaw" (top 63) "lidprice.patterns" 828 699
def aDc:OO:=fun _=>Tz "worths" 1062 "order" 1063 "box" 1064 "place" 1065
def aGy:OO:=fun _=>s5 "falling" "falling" (top 64)
def aAp:OO:=fun _=>s6 "falling" 1059 "falling" 1060 1061 361 1 701 702 703 704 705 1066 1067
def aAa:OO:=fun _=>s7 "falling" "falling" (top 64) "lidprice.patterns" 828 706
def aFF:OO:=fun _=>Tz "pattern" 1072 "worths" 1073 "kept" 1074 "box" 1075
def aDH:OO:=fun _=>s5 "chosen" "chosen" (top 65)
def Xz:OO:=fun _=>s6 "chosen" 1069 "chosen" 1070 1071 369 2 708 709 710 711 712 1076 1077
def aAk:OO:=fun _=>s7 "chosen" "chosen" (top 65) "lidprice.patterns" 828 713
def aF7:OO:=fun _=>Il "pattern" 1082 "many" 1083 "found" 1084
def aEB:OO:=fun _=>s5 "need_pattern" "need_pattern" (top 66)
def ZF:OO:=fun _=>s6 "need_pattern" 1079 "need_pattern" 1080 1081 375 2 715 716 717 718 719 1085 1086
def VF:OO:=fun _=>s7 "need_pattern" "need_pattern" (top 66) "lidprice.patterns" 828 720
def aGb:OO:=fun _=>s5 "unfoldings" "unfoldings" (top 69)
def aAt:OO:=fun _=>pD "unfoldings" 1092 "unfoldings" 1093 1094 383 1 722 723 724 1095 1096
def Z8:OO:=fun _=>s7 "unfoldings" "unfoldings" (top 69) "lidprice.best" 1088 725
def aF0:OO:=fun _=>o8 "boxes" 1101 "many" 1102
def aGk:OO:=fun _=>s5 "need_few_unfoldings" "need_few_unfoldings" (top 70)
def Vl:OO:=fun _=>s6 "need_few_unfoldings" 1098 "need_few_unfoldings" 1099 1100 386 1 727 728 729 730 731 1103 1104
def aAM:OO:=fun _=>s7 "need_few_unfoldings" "need_few_unfoldings" (top 70) "lidprice.best" 1088 732
def aE4:OO:=fun _=>Tz "pattern" 1109 "many" 1110 "one" 1111 "other" 1112
def aDS:OO:=fun _=>s5 "lets_two" "lets_two" (top 71)
def W3:OO:=fun _=>s6 "lets_two" 1106 "lets_two" 1107 1108 390 2 734 735 736 737 738 1113 1114
def Yp:OO:=fun _=>s7 "lets_two" "lets_two" (top 71) "lidprice.best" 1088 739
def aCm:OO:=fun _=>s5 "need_best" "need_best" (top 72)
def aA5:OO:=fun _=>pD "need_best" 1116 "need_best" 1117 1118 396 2 741 742 743 1119 1120
def aBd:OO:=fun _=>s7 "need_best" "need_best" (top 72) "lidprice.best" 1088 744
def aGF:OO:=fun _=>s5 "best_with_one" "best_with_one" (top 73)
def Ys:OO:=fun _=>pD "best_with_one" 1122 "best_with_one" 1123 1124 400 2 746 747 748 1125 1126
def aAU:OO:=fun _=>s7 "best_with_one" "best_with_one" (top 73) "lidprice.best" 1088 749
def aDt:OO:=fun _=>s5 "unfolded" "unfolded" (top 74)
def XC:OO:=fun _=>pD "unfolded" 1128 "unfolded" 1129 1130 403 1 751 752 753 1131 1132
def Ym:OO:=fun _=>s7 "unfolded" "unfolded" (top 74) "lidprice.best" 1088 754
def aFc:OO:=fun _=>s5 "greatest_sum" "greatest_sum" (top 75)
def Zk:OO:=fun _=>pD "greatest_sum" 1134 "greatest_sum" 1135 1136 411 2 756 757 758 1137 1138
def Yy:OO:=fun _=>s7 "greatest_sum" "greatest_sum" (top 75) "lidprice.best" 1088 759
def aEc:OO:=fun _=>s5 "best_with_several" "best_with_several" (top 76)
def Yd:OO:=fun _=>pD "best_with_several" 1140 "best_with_several" 1141 1142 413 2 761 762 763 1143 1144
def Xc:OO:=fun _=>s7 "best_with_several" "best_with_several" (top 76) "lidprice.best" 1088 764
def aF1:OO:=fun _=>s5 "best_in" "best_in" (top 77)
def aAW:OO:=fun _=>pD "best_in" 1146 "best_in" 1147 1148 416 2 766 767 768 1149 1150
def aBK:OO:=fun _=>s7 "best_in" "best_in" (top 77) "lidprice.best" 1088 769
def aEb:OO:=fun _=>o8 "pattern" 1155 "case" 1156
def aD1:OO:=fun _=>s5 "best_from" "best_from" (top 78)
def V9:OO:=fun _=>s6 "best_from" 1152 "best_from" 1153 1154 422 2 771 772 773 774 775 1157 1158
def ZP:OO:=fun _=>s7 "best_from" "best_from" (top 78) "lidprice.best" 1088 776
def aEr:OO:=fun _=>o8 "boxes" 1163 "pattern" 1164
def aD9:OO:=fun _=>s5 "best" "best" (top 79)
def aAL:OO:=fun _=>s6 "best" 1160 "best" 1161 1162 426 2 778 779 780 781 782 1165 1166
def Vs:OO:=fun _=>s7 "best" "best" (top 79) "lidprice.best" 1088 783
def aEf:OO:=fun _=>o8 "_law_script" 1173 "_law_k" 1174
def aFP:OO:=fun _=>s5 "_law_cell_at" "_law_cell_at" (top 81)
def aBm:OO:=fun _=>s6 "_law_cell_at" 1170 "_law_cell_at" 1171 1172 429 2 785 786 787 788 789 1175 1176
def Z1:OO:=fun _=>s7 "_law_cell_at" "_law_cell_at" (top 81) "law_lidprice_k51_best_of_one_box" 1168 790
def Wu:OO:=fun P=>⟨(.type "dict"),none,(.dict #[E P "__name__" 165 (.str "law_lidprice_k51_best_of_one_box" 1168),E P "__doc__" 166 .none,E P "__package__" 167 .none,E P "__loader__" 168 (.builtin "__main__.__loader__#opaque"),E P "__spec__" 169 .none,E P "__annotations__" 170 (.ref 6),E P "__builtins__" 171 (.ref 4),E P "__file__" 173 (.str "/claim/cut.py" 172),E P "__cached__" 174 .none,E P "_wall" 193 (.ref 21),E P "LidError" 213 (.ref 31),E P "NoBox" 229 (.ref 44),E P "NoDeed" 245 (.ref 56),E P "NoSets" 261 (.ref 68),E P "NoPattern" 288 (.ref 87),E P "TooMany" 313 (.ref 106),E P "is_whole" 324 (.ref 115),E P "common_divisor" 333 (.ref 122),E P "common_multiple" 342 (.ref 129),E P "share" 351 (.ref 136),E P "whole" 358 (.ref 143),E P "total" 364 (.ref 148),E P "below" 372 (.ref 155),E P "lesser" 380 (.ref 162),E P "MOST_WORTH" 384 (.int 1000000000 383),E P "MOST_WEIGHT" 386 (.int 1000 385),E P "rising" 392 (.ref 167),E P "in_form" 398 (.ref 172),E P "all_weights" 404 (.ref 177),E P "by_weights" 410 (.ref 182),E P "mean" 417 (.ref 189),E P "capped" 423 (.ref 194),E P "mixed" 429 (.ref 199),E P "worths_of" 440 (.ref 206),E P "product" 449 (.ref 213),E P "greatest" 455 (.ref 218),E P "level_for" 461 (.ref 223),E P "MOST_PRICE" 465 (.int 1000000000 464),E P "MOST_STAGE_ROWS" 467 (.int 4 466),E P "MOST_STAGES" 469 (.int 4 468),E P "MOST_ENDS" 471 (.int 12 470),E P "MOST_BOXES" 473 (.int 6 472),E P "Stand" 536 (.ref 268),E P "End" 590 (.ref 317),E P "Stage" 659 (.ref 376),E P "is_stand" 666 (.ref 385),E P "is_stage_row" 673 (.ref 392),E P "is_stage_rows" 679 (.ref 397),E P "need_boxes" 685 (.ref 402),E P "Case" 827 (.ref 513),E P "MOST_SETS" 831 (.int 64 830),E P "has_box" 839 (.ref 524),E P "boxes_of" 845 (.ref 529),E P "size_of" 852 (.ref 536),E P "with_box" 860 (.ref 543),E P "set_of" 866 (.ref 548),E P "is_numbers" 872 (.ref 553),E P "Pattern" 892 (.ref 563),E P "Few" 932 (.ref 598),E P "Groups" 972 (.ref 629),E P "Listed" 1012 (.ref 662),E P "is_pattern" 1019 (.ref 671),E P "less_flaw" 1029 (.ref 678),E P "can_grow" 1035 (.ref 683),E P "sets_by_size" 1041 (.ref 688),E P "more_flaw" 1052 (.ref 695),E P "flaw" 1058 (.ref 700),E P "falling" 1068 (.ref 707),E P "chosen" 1078 (.ref 714),E P "need_pattern" 1087 (.ref 721),E P "MOST_UNFOLDINGS" 1091 (.int 300 1090),E P "unfoldings" 1097 (.ref 726),E P "need_few_unfoldings" 1105 (.ref 733),E P "lets_two" 1115 (.ref 740),E P "need_best" 1121 (.ref 745),E P "best_with_one" 1127 (.ref 750),E P "unfolded" 1133 (.ref 755),E P "greatest_sum" 1139 (.ref 760),E P "best_with_several" 1145 (.ref 765),E P "best_in" 1151 (.ref 770),E P "best_from" 1159 (.ref 777),E P "best" 1167 (.ref 784),E P "_law_cell_at" 1177 (.ref 791),E P "_law_mixed" 1186 (.ref 798),E P "_law_plain" 1194 (.ref 805),E P "_law_same" 1202 (.ref 812),E P "_law_low" 1212 (.ref 819),E P "_law_plus" 1220 (.ref 826),E P "_law_times" 1228 (.ref 833),E P "_law_less" 1236 (.ref 840),E P "_law_row" 1247 (.ref 847),E P "_law_box" 1263 (.ref 854),E P "_law_stand" 1269 (.ref 859),E P "_law_beside" 1275 (.ref 864),E P "law" 1292 (.ref 871)] 95),#[]⟩
def aAv:OO:=fun _=>⟨.none,none,(.fields #[(.int 1 0),(.int 0 0),(.ref 20),(.int 5 0),(.int 0 0),(.ref 27),(.int 7 0),(.int 0 0),(.ref 40),(.int 9 0),(.int 0 0),(.ref 52),(.int 11 0),(.int 0 0),(.ref 64),(.int 13 0),(.int 0 0),(.ref 76),(.int 18 0),(.int 0 0),(.ref 95),(.int 23 0),(.int 0 0),(.ref 114),(.int 25 0),(.int 0 0),(.ref 121),(.int 31 0),(.int 0 0),(.ref 128),(.int 36 0),(.int 0 0),(.ref 135),(.int 41 0),(.int 0 0),(.ref 142),(.int 43 0),(.int 0 0),(.ref 147),(.int 46 0),(.int 0 0),(.ref 154),(.int 48 0),(.int 0 0),(.ref 161),(.int 53 0),(.int 0 0),(.ref 166),(.int 57 0),(.int 0 0),(.ref 171),(.int 65 0),(.int 0 0),(.ref 176),(.int 67 0),(.int 0 0),(.ref 181),(.int 71 0),(.int 0 0),(.ref 188),(.int 73 0),(.int 0 0),(.ref 193),(.int 75 0),(.int 0 0),(.ref 198),(.int 82 0),(.int 0 0),(.ref 205),(.int 88 0),(.int 0 0),(.ref 212),(.int 93 0),(.int 0 0),(.ref 217),(.int 105 0),(.int 0 0),(.ref 222),(.int 122 0),(.int 0 0),(.ref 229),(.int 141 0),(.int 0 0),(.ref 278),(.int 160 0),(.int 0 0),(.ref 325),(.int 192 0),(.int 0 0),(.ref 384),(.int 194 0),(.int 0 0),(.ref 391),(.int 198 0),(.int 0 0),(.ref 396),(.int 202 0),(.int 0 0),(.ref 401),(.int 208 0),(.int 0 0),(.ref 408),(.int 271 0),(.int 0 0),(.ref 523),(.int 273 0),(.int 0 0),(.ref 528),(.int 275 0),(.int 0 0),(.ref 535),(.int 277 0),(.int 0 0),(.ref 542),(.int 279 0),(.int 0 0),(.ref 547),(.int 281 0),(.int 0 0),(.ref 552),(.int 285 0),(.int 0 0),(.ref 559),(.int 287 0),(.int 0 0),(.ref 573),(.int 299 0),(.int 0 0),(.ref 606),(.int 318 0),(.int 0 0),(.ref 637),(.int 330 0),(.int 0 0),(.ref 670),(.int 332 0),(.int 0 0),(.ref 677),(.int 339 0),(.int 0 0),(.ref 682),(.int 341 0),(.int 0 0),(.ref 687),(.int 347 0),(.int 0 0),(.ref 694),(.int 355 0),(.int 0 0),(.ref 699),(.int 361 0),(.int 0 0),(.ref 706),(.int 369 0),(.int 0 0),(.ref 713),(.int 375 0),(.int 0 0),(.ref 720),(.int 383 0),(.int 0 0),(.ref 725),(.int 386 0),(.int 0 0),(.ref 732),(.int 390 0),(.int 0 0),(.ref 739),(.int 396 0),(.int 0 0),(.ref 744),(.int 400 0),(.int 0 0),(.ref 749),(.int 403 0),(.int 0 0),(.ref 754),(.int 411 0),(.int 0 0),(.ref 759),(.int 413 0),(.int 0 0),(.ref 764),(.int 416 0),(.int 0 0),(.ref 769),(.int 422 0),(.int 0 0),(.ref 776),(.int 426 0),(.int 0 0),(.ref 783),(.int 429 0),(.int 0 0),(.ref 790),(.int 433 0),(.int 0 0),(.ref 797),(.int 437 0),(.int 0 0),(.ref 804),(.int 446 0),(.int 0 0),(.ref 811),(.int 448 0),(.int 0 0),(.ref 818),(.int 454 0),(.int 0 0),(.ref 825),(.int 456 0),(.int 0 0),(.ref 832),(.int 458 0),(.int 0 0),(.ref 839),(.int 460 0),(.int 0 0),(.ref 846),(.int 469 0),(.int 0 0),(.ref 853),(.int 480 0),(.int 0 0),(.ref 858),(.int 484 0),(.int 0 0),(.ref 863),(.int 495 0),(.int 0 0),(.ref 870)]),#[]⟩
def aCN:OO:=fun _=>Il "_law_cell" 1181 "_law_k" 1182 "_law_number" 1183
def aD8:OO:=fun _=>s5 "_law_mixed" "_law_mixed" (top 82)
def Wj:OO:=fun _=>s6 "_law_mixed" 1178 "_law_mixed" 1179 1180 433 2 792 793 794 795 796 1184 1185
def Vv:OO:=fun _=>s7 "_law_mixed" "_law_mixed" (top 82) "law_lidprice_k51_best_of_one_box" 1168 797
def aCd:OO:=fun _=>o8 "_law_thing" 1190 "_law_part" 1191
def aFZ:OO:=fun _=>s5 "_law_plain" "_law_plain" (top 83)
def Ww:OO:=fun _=>s6 "_law_plain" 1187 "_law_plain" 1188 1189 437 1 799 800 801 802 803 1192 1193
def aA0:OO:=fun _=>s7 "_law_plain" "_law_plain" (top 83) "law_lidprice_k51_best_of_one_box" 1168 804
def aDK:OO:=fun _=>o8 "_law_found" 1198 "_law_due" 1199
def aE0:OO:=fun _=>s5 "_law_same" "_law_same" (top 84)
def Zv:OO:=fun _=>s6 "_law_same" 1195 "_law_same" 1196 1197 446 2 806 807 808 809 810 1200 1201
def XS:OO:=fun _=>s7 "_law_same" "_law_same" (top 84) "law_lidprice_k51_best_of_one_box" 1168 811
def aEJ:OO:=fun _=>Tz "_law_top" 1206 "_law_bottom" 1207 "_law_one" 1208 "_law_other" 1209
def aCo:OO:=fun _=>s5 "_law_low" "_law_low" (top 85)
def V2:OO:=fun _=>s6 "_law_low" 1203 "_law_low" 1204 1205 448 2 813 814 815 816 817 1210 1211
def aBO:OO:=fun _=>s7 "_law_low" "_law_low" (top 85) "law_lidprice_k51_best_of_one_box" 1168 818
def aEE:OO:=fun _=>o8 "_law_one" 1216 "_law_other" 1217
def aDP:OO:=fun _=>s5 "_law_plus" "_law_plus" (top 86)
def WX:OO:=fun _=>s6 "_law_plus" 1213 "_law_plus" 1214 1215 454 2 820 821 822 823 824 1218 1219
def Xa:OO:=fun _=>s7 "_law_plus" "_law_plus" (top 86) "law_lidprice_k51_best_of_one_box" 1168 825
def aFR:OO:=fun _=>o8 "_law_one" 1224 "_law_other" 1225
def aD6:OO:=fun _=>s5 "_law_times" "_law_times" (top 87)
def Xj:OO:=fun _=>s6 "_law_times" 1221 "_law_times" 1222 1223 456 2 827 828 829 830 831 1226 1227
def aAC:OO:=fun _=>s7 "_law_times" "_law_times" (top 87) "law_lidprice_k51_best_of_one_box" 1168 832
def aDp:OO:=fun _=>o8 "_law_one" 1232 "_law_other" 1233
def aEt:OO:=fun _=>s5 "_law_less" "_law_less" (top 88)
def XD:OO:=fun _=>s6 "_law_less" 1229 "_law_less" 1230 1231 458 2 834 835 836 837 838 1234 1235
def Vi:OO:=fun _=>s7 "_law_less" "_law_less" (top 88) "law_lidprice_k51_best_of_one_box" 1168 839
def aEi:OO:=fun _=>Zy "_law_cell" 1240 "_law_bit" 1241 "_law_many" 1242 "_law_row_here" 1243 "_law_k" 1244
def aCH:OO:=fun _=>s5 "_law_row" "_law_row" (top 89)
def YB:OO:=fun _=>s6 "_law_row" 1237 "_law_row" 1238 1239 460 3 841 842 843 844 845 1245 1246
def Xd:OO:=fun _=>s7 "_law_row" "_law_row" (top 89) "law_lidprice_k51_best_of_one_box" 1168 846
def aB8:OO:=fun _=>⟨(.type "tuple"),none,(.seq #[(.str "_law_row_here" 1251),(.str "_law_deep" 1252),(.str "_law_most" 1253),(.str "_law_scale" 1254),(.str "_law_number" 1255),(.str "_law_many" 1256),(.str "_law_cost" 1257),(.str "_law_rows" 1258),(.str "_law_j" 1259),(.str "_law_weight" 1260)] 0),#[]⟩
def aFj:OO:=fun _=>s5 "_law_box" "_law_box" (top 90)
def aBJ:OO:=fun _=>s6 "_law_box" 1248 "_law_box" 1249 1250 469 4 848 849 850 851 852 1261 1262
def Yt:OO:=fun _=>s7 "_law_box" "_law_box" (top 90) "law_lidprice_k51_best_of_one_box" 1168 853
def aFp:OO:=fun _=>s5 "_law_stand" "_law_stand" (top 91)
def YS:OO:=fun _=>pD "_law_stand" 1264 "_law_stand" 1265 1266 480 1 855 856 857 1267 1268
def Yb:OO:=fun _=>s7 "_law_stand" "_law_stand" (top 91) "law_lidprice_k51_best_of_one_box" 1168 858
def aD5:OO:=fun _=>s5 "_law_beside" "_law_beside" (top 92)
def aAN:OO:=fun _=>pD "_law_beside" 1270 "_law_beside" 1271 1272 484 2 860 861 862 1273 1274
def aBl:OO:=fun _=>s7 "_law_beside" "_law_beside" (top 92) "law_lidprice_k51_best_of_one_box" 1168 863
def aGi:OO:=fun _=>⟨(.type "tuple"),none,(.seq #[(.str "_law_script" 1279),(.str "_law_k" 1280),(.str "_law_cell" 1281),(.str "_law_row_here" 1282),(.str "_law_scale" 1283),(.str "_law_told" 1284),(.str "_law_boxes" 1285),(.str "_law_due" 1286),(.str "_law_count" 1287),(.str "_law_some" 1288),(.str "_law_pattern" 1289)] 0),#[]⟩
def aC3:OO:=fun _=>s5 "law" "law" (top 93)
def Xy:OO:=fun _=>s6 "law" 1276 "law" 1277 1278 495 1 865 866 867 868 869 1290 1291
def V3:OO:=fun _=>s7 "law" "law" (top 93) "law_lidprice_k51_best_of_one_box" 1168 870
def l0 (P:Params):List Obj:=W.boot_o_0 P::W.boot_o_1 P::W.boot_o_2 P::W.boot_o_3 P::W.boot_o_4 P::W.boot_o_5 P::W.boot_o_6 P::W.boot_o_7 P::W.boot_o_8 P::W.boot_o_9 P::W.boot_o_10 P::s0::s1::o13 P::o14 P::[]
def t0 (P:Params):W.BT:=L2.bt 14 (l0 P)
def l1 (P:Params):List Obj:=L2.sets (l0 P) [(3,o3 P),(12,Y9 P)]++(s0::s1::o17 P::s0::o19 P::o20 P::o21 P::o22 P::s8::o24 P::s0::s1::o27 P::o28 P::s0::o30 P::o31 P::o32 P::o33 P::o34 P::o35 P::s8::o37 P::s0::s1::o40 P::o41 P::s0::o43 P::o44 P::o45 P::o46 P::o47 P::s8::o49 P::s0::s1::o52 P::o53 P::s0::o55 P::o56 P::o57 P::o58 P::[])
def t1 (P:Params):W.BT:=L2.bt 14 (l1 P)
def l2 (P:Params):List Obj:=L2.sets (l1 P) [(3,aEy P),(12,WR P),(31,RP P)]++(o59 P::s8::o61 P::s0::s1::o64 P::o65 P::s0::o67 P::o68 P::o69 P::o70 P::o71 P::s8::o73 P::s0::o75 P::o76 P::o77 P::s0::s1::o80 P::s0::o82 P::o83 P::o84 P::o85 P::o86 P::o87 P::o88 P::o89 P::o90 P::s8::o92 P::s0::o94 P::o95 P::o96 P::s0::s1::o99 P::s0::aDr P::aA9 P::Vp P::aD4 P::aA8 P::aBo P::aCC P::aCn P::[])
def t2 (P:Params):W.BT:=L2.bt 14 (l2 P)
def l3 (P:Params):List Obj:=L2.sets (l2 P) [(3,aC2 P),(12,Vm P)]++(s0::s1::aB5 P::s0::aB3 P::aAA P::Yj P::s0::s1::aE7 P::s0::aEm P::Yx P::Wz P::s0::s1::aFI P::s0::aEY P::Vk P::Wf P::s0::s1::aEu P::s0::aF8 P::aBL P::YX P::s0::s1::aEP P::s0::aEO P::aAK P::Wi P::s0::s1::aFC P::W4 P::aBc P::s0::s1::aDG P::s0::aF6 P::Xk P::WQ P::s0::s1::aGt P::s0::aGO P::aA6 P::aBA P::s0::s1::aGQ P::Y0 P::aBh P::s0::s1::aDR P::V6 P::V8 P::s0::s1::aEZ P::Xo P::aBa P::s0::s1::aEw P::YK P::Ze P::s0::s1::aGG P::s0::aC5 P::W8 P::XM P::s0::s1::aCM P::aBD P::Vr P::s0::s1::aGf P::aAY P::Vd P::s0::s1::aCP P::s0::aFL P::aAT P::Yn P::s0::s1::aEN P::s0::aGJ P::Xu P::aBj P::s0::s1::aFa P::aAj P::aBv P::s0::s1::aGN P::aBE P::XF P::[])
def t3 (P:Params):W.BT:=L2.bt 14 (l3 P)
def l4 (P:Params):List Obj:=L2.sets (l3 P) [(3,aDZ P),(12,aBP P)]++(s0::s8::aGM P::s0::aC9 P::aGR P::aEV P::s0::s1::aEj P::s0::aB6 P::Wq P::XH P::s0::s1::aEd P::s0::aCS P::Wd P::Vq P::s0::s1::aEa P::s0::aEx P::Xx P::Zd P::s0::s1::aGo P::s0::aC0 P::Z6 P::Vb P::s0::s1::aER P::s0::aCA P::aAc P::aAi P::aCR P::YC P::aEQ P::Xq P::aAQ P::aEo P::aCk P::aDB P::s8::aDI P::s0::aFA P::aGE P::aDo P::s0::s1::aDj P::s0::aFQ P::aAl P::Zu P::s0::s1::aCL P::s0::aFO P::Z7 P::aBk P::s0::s1::aCY P::s0::aDm P::aAJ P::Yr P::s0::s1::aGK P::s0::aCB P::aBF P::Y4 P::s0::s1::aGj P::s0::aFf P::Zj P::V1 P::aEL P::VH P::Z3 P::aFS P::aDQ P::[])
def t4 (P:Params):W.BT:=L2.bt 14 (l4 P)
def l5 (P:Params):List Obj:=L2.sets (l4 P) [(3,aCy P),(12,Ve P),(268,Mv P)]++(aCV P::s8::aDC P::s0::aEM P::aDF P::aEg P::s0::s1::aGz P::aAI P::aBq P::s0::s1::aEe P::s0::aD0 P::Xf P::WN P::s0::s1::aFy P::s0::aB2 P::aAF P::Yk P::s0::s1::aDY P::s0::aEC P::Zh P::aBi P::s0::s1::aF4 P::s0::aFo P::ZC P::YQ P::s0::s1::aCO P::s0::aGs P::WP P::ZK P::s0::s1::aE1 P::s0::aEh P::Z5 P::Y5 P::aEA P::XJ P::aA4 P::aGp P::aDE P::s0::s1::aC6 P::s0::aCe P::Xl P::Za P::s0::s1::aFl P::s0::aFX P::aA3 P::XN P::s0::s1::aGe P::WY P::Xm P::s0::s1::aGg P::Zf P::XQ P::s0::s8::aF3 P::s0::aGn P::aCc P::aGI P::s0::s1::aGv P::Yl P::aBw P::s0::s1::aEW P::s0::aEU P::Xg P::Xw P::s0::s1::aF2 P::s0::aB1 P::aAZ P::YT P::s0::s1::aDn P::s0::aC8 P::aAs P::Zw P::s0::s1::aDT P::s0::aFm P::Yc P::aBb P::s0::s1::aES P::YM P::aBs P::s0::s1::aGm P::s0::aD3 P::aBC P::V0 P::s0::s1::aFG P::s0::aDx P::Wn P::Yq P::s0::s1::aCx P::s0::aDe P::Wo P::aBe P::s0::s1::aCX P::s0::aFT P::aAz P::YW P::s0::s1::aFi P::s0::aCE P::Yo P::V5 P::s0::s1::aFq P::s0::aCa P::YH P::aAG P::s0::s1::aB7 P::s0::aDd P::Zz P::Xv P::s0::s1::aED P::s0::aEk P::Ws P::aAn P::s0::s1::aEG P::s0::aCZ P::Va P::YL P::aFw P::aAr P::V4 P::aAm P::ZZ P::aDM P::aGP P::[])
def t5 (P:Params):W.BT:=L2.bt 14 (l5 P)
def l6 (P:Params):List Obj:=L2.sets (l5 P) [(3,aEz P),(12,WM P)]++(s0::s1::aFz P::s0::aCD P::Wg P::Wh P::s0::s1::aCf P::Vt P::Yu P::s0::s1::aDU P::s0::aGx P::W7 P::aBI P::s0::s1::aC7 P::s0::aCu P::aAH P::aA7 P::s0::s1::aDi P::ZR P::Vc P::s0::s1::aFY P::aAO P::Vy P::s0::s8::aEn P::s0::s1::aE3 P::aB4 P::s0::ZD P::aFJ P::WF P::aAS P::aCs P::aC1 P::aCl P::s8::aDl P::s0::aCK P::aDW P::aFn P::s0::s1::aFr P::s0::aGh P::VJ P::Yg P::s0::s1::aCp P::s0::aGq P::Wk P::aBB P::s0::s1::aDA P::s0::aCJ P::Vf P::Vg P::aCj P::W9 P::Zb P::aGB P::aDg P::[])
def t6 (P:Params):W.BT:=L2.bt 14 (l6 P)
def l7 (P:Params):List Obj:=L2.sets (l6 P) [(3,aCh P),(12,aBH P),(563,Nv P)]++(aF9 P::s8::aF5 P::s0::aDD P::aFv P::aFV P::s0::s1::aFE P::s0::aCw P::Y8 P::Xn P::s0::s1::aDV P::W2 P::aAB P::s0::s1::aFh P::s0::aGa P::aA1 P::ZX P::aEX P::ZL P::Yw P::aGc P::aFe P::aFk P::s8::aFb P::s0::aCv P::aDf P::aCI P::s0::s1::aB0 P::s0::aDw P::aBx P::YZ P::s0::s1::aDa P::s0::aGu P::Y6 P::Zi P::s0::s1::aGC P::s0::aDs P::Z2 P::XX P::aFW P::Vx P::YF P::aD2 P::aEF P::[])
def t7 (P:Params):W.BT:=L2.bt 14 (l7 P)
def l8 (P:Params):List Obj:=L2.sets (l7 P) [(3,aDh P),(12,aBr P)]++(s0::s1::aE6 P::s0::aEp P::Yh P::aAq P::s0::s1::aDu P::s0::aCG P::We P::aAP P::s0::s1::aGD P::Xb P::Vu P::s0::s1::aGA P::WK P::Zm P::s0::s1::aCT P::s0::aGH P::ZQ P::ZJ P::s0::s1::aFD P::ZG P::VR P::s0::s1::aDc P::s0::aGy P::aAp P::aAa P::s0::s1::aFF P::s0::aDH P::Xz P::aAk P::s0::s1::aF7 P::s0::aEB P::ZF P::VF P::s0::s1::aGb P::aAt P::Z8 P::s0::s1::aF0 P::s0::aGk P::Vl P::aAM P::s0::s1::aE4 P::s0::aDS P::W3 P::Yp P::s0::s1::aCm P::aA5 P::aBd P::s0::s1::aGF P::Ys P::aAU P::s0::s1::aDt P::XC P::Ym P::s0::s1::aFc P::Zk P::Yy P::s0::s1::aEc P::Yd P::Xc P::s0::s1::aF1 P::aAW P::aBK P::s0::s1::aEb P::s0::aD1 P::V9 P::ZP P::s0::s1::aEr P::s0::aD9 P::aAL P::Vs P::s0::s1::aEf P::s0::aFP P::aBm P::Z1 P::[])
def t8 (P:Params):W.BT:=L2.bt 14 (l8 P)
def l9 (P:Params):List Obj:=L2.sets (l8 P) [(3,Wu P),(12,aAv P)]++(s0::s1::aCN P::s0::aD8 P::Wj P::Vv P::s0::s1::aCd P::s0::aFZ P::Ww P::aA0 P::s0::s1::aDK P::s0::aE0 P::Zv P::XS P::s0::s1::aEJ P::s0::aCo P::V2 P::aBO P::s0::s1::aEE P::s0::aDP P::WX P::Xa P::s0::s1::aFR P::s0::aD6 P::Xj P::aAC P::s0::s1::aDp P::s0::aEt P::XD P::Vi P::s0::s1::aEi P::s0::aCH P::YB P::Xd P::s0::s1::aB8 P::s0::aFj P::aBJ P::Yt P::s0::s1::aFp P::YS P::Yb P::s0::s1::aD5 P::aAN P::aBl P::s0::s1::aGi P::s0::aC3 P::Xy P::V3 P::[])
def t9 (P:Params):W.BT:=L2.bt 14 (l9 P)
def pP:Env:={ scope:=PySem.Challenge.pw_lidprice_k51_best_of_one_box.main.scope,locals:=mainNs,globals:=mainNs,cells:=[],code:=(.ref 13),frame:=some 14 }
def g1:List Stmt:=[top 0,top 1,top 2,top 3,top 4]
def g2:List Stmt:=[top 5,top 6,top 7]
def g3:List Stmt:=[top 8,top 9,top 10,top 11,top 12,top 13,top 14,top 15,top 16,top 17,top 18,top 19,top 20,top 21,top 22,top 23,top 24,top 25,top 26,top 27,top 28,top 29,top 30,top 31,top 32,top 33]
def g4:List Stmt:=[top 34,top 35,top 36,top 37,top 38]
def g5:List Stmt:=[top 39,top 40,top 41,top 42,top 43,top 44,top 45]
def g6:List Stmt:=[top 46,top 47,top 48,top 49,top 50,top 51,top 52,top 53,top 54,top 55]
def g7:List Stmt:=[top 56,top 57]
def g8:List Stmt:=[top 58,top 59,top 60,top 61,top 62,top 63,top 64,top 65,top 66,top 67,top 68,top 69,top 70,top 71,top 72,top 73,top 74,top 75,top 76,top 77,top 78,top 79,top 80,top 81]
def g9:List Stmt:=[top 82,top 83,top 84,top 85,top 86,top 87,top 88,top 89,top 90,top 91,top 92,top 93]
def gs:List Stmt:=g1++(g2++(g3++(g4++(g5++(g6++(g7++(g8++(g9++[]))))))))
def fP:Code:=.body gs pP
theorem aEH (w:World)(os:OsState):W.segRunT PySem.treeTable PySem.Challenge.pw_lidprice_k51_best_of_one_box w 11 (some (.ref 6)) 1 651 (qW (t0 w.params) 15 187 os) (W.piecesOf g1 pP fP ⟨0,0,0,0⟩ [W.topFrame ⟨0,0,0,0⟩])=some (.next,qW (t1 w.params) 59 246 os,fP,⟨9,0,10,8⟩):=by kernel_rfl
theorem aCg (w:World)(os:OsState):W.segRunT PySem.treeTable PySem.Challenge.pw_lidprice_k51_best_of_one_box w 11 (some (.ref 6)) 1 706 (qW (t1 w.params) 59 246 os) (W.piecesOf g2 pP fP ⟨9,0,10,8⟩ [W.topFrame ⟨0,0,0,0⟩])=some (.next,qW (t2 w.params) 109 314 os,fP,⟨18,0,21,24⟩):=by kernel_rfl
theorem aCb (w:World)(os:OsState):W.segRunT PySem.treeTable PySem.Challenge.pw_lidprice_k51_best_of_one_box w 11 (some (.ref 6)) 1 604 (qW (t2 w.params) 109 314 os) (W.piecesOf g3 pP fP ⟨18,0,21,24⟩ [W.topFrame ⟨0,0,0,0⟩])=some (.next,qW (t3 w.params) 224 468 os,fP,⟨118,0,118,15⟩):=by kernel_rfl
theorem aCt (w:World)(os:OsState):W.segRunT PySem.treeTable PySem.Challenge.pw_lidprice_k51_best_of_one_box w 11 (some (.ref 6)) 1 750 (qW (t3 w.params) 224 468 os) (W.piecesOf g4 pP fP ⟨118,0,118,15⟩ [W.topFrame ⟨0,0,0,0⟩])=some (.next,qW (t4 w.params) 320 591 os,fP,⟨141,0,159,16⟩):=by kernel_rfl
theorem aEs (w:World)(os:OsState):W.segRunT PySem.treeTable PySem.Challenge.pw_lidprice_k51_best_of_one_box w 11 (some (.ref 6)) 1 1216 (qW (t4 w.params) 320 591 os) (W.piecesOf g5 pP fP ⟨141,0,159,16⟩ [W.topFrame ⟨0,0,0,0⟩])=some (.next,qW (t5 w.params) 518 828 os,fP,⟨208,0,268,17⟩):=by kernel_rfl
theorem aDb (w:World)(os:OsState):W.segRunT PySem.treeTable PySem.Challenge.pw_lidprice_k51_best_of_one_box w 11 (some (.ref 6)) 1 684 (qW (t5 w.params) 518 828 os) (W.piecesOf g6 pP fP ⟨208,0,268,17⟩ [W.topFrame ⟨0,0,0,0⟩])=some (.next,qW (t6 w.params) 601 933 os,fP,⟨287,0,298,17⟩):=by kernel_rfl
theorem aCz (w:World)(os:OsState):W.segRunT PySem.treeTable PySem.Challenge.pw_lidprice_k51_best_of_one_box w 11 (some (.ref 6)) 1 615 (qW (t6 w.params) 601 933 os) (W.piecesOf g7 pP fP ⟨287,0,298,17⟩ [W.topFrame ⟨0,0,0,0⟩])=some (.next,qW (t7 w.params) 665 1013 os,fP,⟨318,0,329,17⟩):=by kernel_rfl
theorem aFg (w:World)(os:OsState):W.segRunT PySem.treeTable PySem.Challenge.pw_lidprice_k51_best_of_one_box w 11 (some (.ref 6)) 1 629 (qW (t7 w.params) 665 1013 os) (W.piecesOf g8 pP fP ⟨318,0,329,17⟩ [W.topFrame ⟨0,0,0,0⟩])=some (.next,qW (t8 w.params) 792 1178 os,fP,⟨429,0,432,12⟩):=by kernel_rfl
theorem aFH (w:World)(os:OsState):W.segRunT PySem.treeTable PySem.Challenge.pw_lidprice_k51_best_of_one_box w 11 (some (.ref 6)) 1 376 (qW (t8 w.params) 792 1178 os) (W.piecesOf g9 pP fP ⟨429,0,432,12⟩ [W.topFrame ⟨0,0,0,0⟩])=some (.next,qW (t9 w.params) 872 1293 os,fP,⟨495,0,513,15⟩):=by kernel_rfl
theorem aDO (w:World)(os:OsState):W.topRun PySem.treeTable PySem.Challenge.pw_lidprice_k51_best_of_one_box w 11 (some (.ref 6)) 2 (qW (t9 w.params) 872 1293 os).abs (W.restOf [] pP fP ⟨495,0,513,15⟩ [W.topFrame ⟨0,0,0,0⟩])=some (qW (t9 w.params) 872 1293 os).abs:=by kernel_rfl
theorem aFU (w:World)(os:OsState):W.topGo PySem.treeTable PySem.Challenge.pw_lidprice_k51_best_of_one_box w 11 (some (.ref 6)) 12 ⟨W.boot_heap w.params,aNE [],W.boot_drawn,W.boot_toks,os⟩ (W.topStub PySem.Challenge.pw_lidprice_k51_best_of_one_box)=some ((qW (t0 w.params) 15 187 os).abs,⟨denote PySem.treeTable (.body gs pP),fP,⟨0,0,0,0⟩,[W.topFrame ⟨0,0,0,0⟩]⟩):=by kernel_rfl
theorem aDz (w:World)(os:OsState):W.segRun PySem.treeTable PySem.Challenge.pw_lidprice_k51_best_of_one_box w 11 (some (.ref 6)) 1 1 (qW (t0 w.params) 15 187 os).abs (W.blockOf gs pP fP ⟨0,0,0,0⟩ [W.topFrame ⟨0,0,0,0⟩])=some (.next,(qW (t0 w.params) 15 187 os).abs,fP,⟨0,0,0,0⟩):=by kernel_rfl
def yI (P:Params):W.Frag :=
(nat_lit 2,W.boot_o_2 P) ::
(nat_lit 3,Wu P) ::
(nat_lit 20,o20 P) ::
(nat_lit 21,o21 P) ::
(nat_lit 30,o30 P) ::
(nat_lit 31,RP P) ::
(nat_lit 32,o32 P) ::
(nat_lit 43,o43 P) ::
(nat_lit 44,o44 P) ::
(nat_lit 55,o55 P) ::
(nat_lit 56,o56 P) ::
(nat_lit 67,o67 P) ::
(nat_lit 68,o68 P) ::
(nat_lit 83,o83 P) ::
(nat_lit 84,o84 P) ::
(nat_lit 86,o86 P) ::
(nat_lit 87,o87 P) ::
(nat_lit 102,aA9 P) ::
(nat_lit 103,Vp P) ::
(nat_lit 105,aA8 P) ::
(nat_lit 106,aBo P) ::
(nat_lit 114,aAA P) ::
(nat_lit 115,Yj P) ::
(nat_lit 121,Yx P) ::
(nat_lit 122,Wz P) ::
(nat_lit 128,Vk P) ::
(nat_lit 129,Wf P) ::
(nat_lit 135,aBL P) ::
(nat_lit 136,YX P) ::
(nat_lit 142,aAK P) ::
(nat_lit 143,Wi P) ::
(nat_lit 147,W4 P) ::
(nat_lit 148,aBc P) ::
(nat_lit 154,Xk P) ::
(nat_lit 155,WQ P) ::
(nat_lit 161,aA6 P) ::
(nat_lit 162,aBA P) ::
(nat_lit 166,Y0 P) ::
(nat_lit 167,aBh P) ::
(nat_lit 171,V6 P) ::
(nat_lit 172,V8 P) ::
(nat_lit 176,Xo P) ::
(nat_lit 177,aBa P) ::
(nat_lit 181,YK P) ::
(nat_lit 182,Ze P) ::
(nat_lit 188,W8 P) ::
(nat_lit 189,XM P) ::
(nat_lit 193,aBD P) ::
(nat_lit 194,Vr P) ::
(nat_lit 198,aAY P) ::
(nat_lit 199,Vd P) ::
(nat_lit 205,aAT P) ::
(nat_lit 206,Yn P) ::
(nat_lit 212,Xu P) ::
(nat_lit 213,aBj P) ::
(nat_lit 217,aAj P) ::
(nat_lit 218,aBv P) ::
(nat_lit 222,aBE P) ::
(nat_lit 223,XF P) ::
(nat_lit 236,Wq P) ::
(nat_lit 237,XH P) ::
(nat_lit 243,Wd P) ::
(nat_lit 244,Vq P) ::
(nat_lit 250,Xx P) ::
(nat_lit 251,Zd P) ::
(nat_lit 257,Z6 P) ::
(nat_lit 258,Vb P) ::
(nat_lit 264,aAc P) ::
(nat_lit 265,aAi P) ::
(nat_lit 267,YC P) ::
(nat_lit 268,Mv P) ::
(nat_lit 269,Xq P) ::
(nat_lit 270,aAQ P) ::
(nat_lit 285,aAl P) ::
(nat_lit 286,Zu P) ::
(nat_lit 292,Z7 P) ::
(nat_lit 293,aBk P) ::
(nat_lit 299,aAJ P) ::
(nat_lit 300,Yr P) ::
(nat_lit 306,aBF P) ::
(nat_lit 307,Y4 P) ::
(nat_lit 313,Zj P) ::
(nat_lit 314,V1 P) ::
(nat_lit 316,VH P) ::
(nat_lit 317,Z3 P) ::
(nat_lit 330,aAI P) ::
(nat_lit 331,aBq P) ::
(nat_lit 337,Xf P) ::
(nat_lit 338,WN P) ::
(nat_lit 344,aAF P) ::
(nat_lit 345,Yk P) ::
(nat_lit 351,Zh P) ::
(nat_lit 352,aBi P) ::
(nat_lit 358,ZC P) ::
(nat_lit 359,YQ P) ::
(nat_lit 365,WP P) ::
(nat_lit 366,ZK P) ::
(nat_lit 372,Z5 P) ::
(nat_lit 373,Y5 P) ::
(nat_lit 375,XJ P) ::
(nat_lit 376,aA4 P) ::
(nat_lit 384,Xl P) ::
(nat_lit 385,Za P) ::
(nat_lit 391,aA3 P) ::
(nat_lit 392,XN P) ::
(nat_lit 396,WY P) ::
(nat_lit 397,Xm P) ::
(nat_lit 401,Zf P) ::
(nat_lit 402,XQ P) ::
(nat_lit 413,Yl P) ::
(nat_lit 414,aBw P) ::
(nat_lit 420,Xg P) ::
(nat_lit 421,Xw P) ::
(nat_lit 427,aAZ P) ::
(nat_lit 428,YT P) ::
(nat_lit 434,aAs P) ::
(nat_lit 435,Zw P) ::
(nat_lit 441,Yc P) ::
(nat_lit 442,aBb P) ::
(nat_lit 446,YM P) ::
(nat_lit 447,aBs P) ::
(nat_lit 453,aBC P) ::
(nat_lit 454,V0 P) ::
(nat_lit 460,Wn P) ::
(nat_lit 461,Yq P) ::
(nat_lit 467,Wo P) ::
(nat_lit 468,aBe P) ::
(nat_lit 474,aAz P) ::
(nat_lit 475,YW P) ::
(nat_lit 481,Yo P) ::
(nat_lit 482,V5 P) ::
(nat_lit 488,YH P) ::
(nat_lit 489,aAG P) ::
(nat_lit 495,Zz P) ::
(nat_lit 496,Xv P) ::
(nat_lit 502,Ws P) ::
(nat_lit 503,aAn P) ::
(nat_lit 509,Va P) ::
(nat_lit 510,YL P) ::
(nat_lit 512,aAr P) ::
(nat_lit 513,V4 P) ::
(nat_lit 514,aAm P) ::
(nat_lit 515,ZZ P) ::
(nat_lit 523,Wg P) ::
(nat_lit 524,Wh P) ::
(nat_lit 528,Vt P) ::
(nat_lit 529,Yu P) ::
(nat_lit 535,W7 P) ::
(nat_lit 536,aBI P) ::
(nat_lit 542,aAH P) ::
(nat_lit 543,aA7 P) ::
(nat_lit 547,ZR P) ::
(nat_lit 548,Vc P) ::
(nat_lit 552,aAO P) ::
(nat_lit 553,Vy P) ::
(nat_lit 562,ZD P) ::
(nat_lit 563,Nv P) ::
(nat_lit 564,WF P) ::
(nat_lit 565,aAS P) ::
(nat_lit 580,VJ P) ::
(nat_lit 581,Yg P) ::
(nat_lit 587,Wk P) ::
(nat_lit 588,aBB P) ::
(nat_lit 594,Vf P) ::
(nat_lit 595,Vg P) ::
(nat_lit 597,W9 P) ::
(nat_lit 598,Zb P) ::
(nat_lit 613,Y8 P) ::
(nat_lit 614,Xn P) ::
(nat_lit 618,W2 P) ::
(nat_lit 619,aAB P) ::
(nat_lit 625,aA1 P) ::
(nat_lit 626,ZX P) ::
(nat_lit 628,ZL P) ::
(nat_lit 629,Yw P) ::
(nat_lit 644,aBx P) ::
(nat_lit 645,YZ P) ::
(nat_lit 651,Y6 P) ::
(nat_lit 652,Zi P) ::
(nat_lit 658,Z2 P) ::
(nat_lit 659,XX P) ::
(nat_lit 661,Vx P) ::
(nat_lit 662,YF P) ::
(nat_lit 670,Yh P) ::
(nat_lit 671,aAq P) ::
(nat_lit 677,We P) ::
(nat_lit 678,aAP P) ::
(nat_lit 682,Xb P) ::
(nat_lit 683,Vu P) ::
(nat_lit 687,WK P) ::
(nat_lit 688,Zm P) ::
(nat_lit 694,ZQ P) ::
(nat_lit 695,ZJ P) ::
(nat_lit 699,ZG P) ::
(nat_lit 700,VR P) ::
(nat_lit 706,aAp P) ::
(nat_lit 707,aAa P) ::
(nat_lit 713,Xz P) ::
(nat_lit 714,aAk P) ::
(nat_lit 720,ZF P) ::
(nat_lit 721,VF P) ::
(nat_lit 725,aAt P) ::
(nat_lit 726,Z8 P) ::
(nat_lit 732,Vl P) ::
(nat_lit 733,aAM P) ::
(nat_lit 739,W3 P) ::
(nat_lit 740,Yp P) ::
(nat_lit 744,aA5 P) ::
(nat_lit 745,aBd P) ::
(nat_lit 749,Ys P) ::
(nat_lit 750,aAU P) ::
(nat_lit 754,XC P) ::
(nat_lit 755,Ym P) ::
(nat_lit 759,Zk P) ::
(nat_lit 760,Yy P) ::
(nat_lit 764,Yd P) ::
(nat_lit 765,Xc P) ::
(nat_lit 769,aAW P) ::
(nat_lit 770,aBK P) ::
(nat_lit 776,V9 P) ::
(nat_lit 777,ZP P) ::
(nat_lit 783,aAL P) ::
(nat_lit 784,Vs P) ::
(nat_lit 790,aBm P) ::
(nat_lit 791,Z1 P) ::
(nat_lit 797,Wj P) ::
(nat_lit 798,Vv P) ::
(nat_lit 804,Ww P) ::
(nat_lit 805,aA0 P) ::
(nat_lit 811,Zv P) ::
(nat_lit 812,XS P) ::
(nat_lit 818,V2 P) ::
(nat_lit 819,aBO P) ::
(nat_lit 825,WX P) ::
(nat_lit 826,Xa P) ::
(nat_lit 832,Xj P) ::
(nat_lit 833,aAC P) ::
(nat_lit 839,XD P) ::
(nat_lit 840,Vi P) ::
(nat_lit 846,YB P) ::
(nat_lit 847,Xd P) ::
(nat_lit 853,aBJ P) ::
(nat_lit 854,Yt P) ::
(nat_lit 858,YS P) ::
(nat_lit 859,Yb P) ::
(nat_lit 863,aAN P) ::
(nat_lit 864,aBl P) ::
(nat_lit 870,Xy P) ::
(nat_lit 871,V3 P)::[]
def VB:List Addr:=2::3::20::21::30::31::32::43::44::55::56::67::68::83::84::86::87::102::103::105::106::114::115::121::122::128::129::135::136::142::143::147::148::154::155::161::162::166::167::171::172::176::177::181::182::188::189::193::194::198::199::205::206::212::213::217::218::222::223::236::237::243::244::250::251::257::258::264::265::267::268::269::270::285::286::292::293::299::300::306::307::313::314::316::317::330::331::337::338::344::345::351::352::358::359::365::366::372::373::375::376::384::385::391::392::396::397::401::402::413::414::420::421::427::428::434::435::441::442::446::447::453::454::460::461::467::468::474::475::481::482::488::489::495::496::502::503::509::510::512::513::514::515::523::524::528::529::535::536::542::543::547::548::552::553::562::563::564::565::580::581::587::588::594::595::597::598::613::614::618::619::625::626::628::629::644::645::651::652::658::659::661::662::670::671::677::678::682::683::687::688::694::695::699::700::706::707::713::714::720::721::725::726::732::733::739::740::744::745::749::750::754::755::759::760::764::765::769::770::776::777::783::784::790::791::797::798::804::805::811::812::818::819::825::826::832::833::839::840::846::847::853::854::858::859::863::864::870::871::[]
theorem Dy:∀ P,VB=(yI P).map (·.1):=fun _=>by kernel_rfl
def vw:Program:={ PySem.Challenge.pw_lidprice_k51_best_of_one_box with main:={ (PySem.Challenge.pw_lidprice_k51_best_of_one_box).main with body:=[top 0,top 2,top 3,top 4,top 5,top 6,top 7,top 9,top 10,top 11,top 12,top 13,top 14,top 15,top 16,top 18,top 19,top 20,top 21,top 22,top 23,top 24,top 25,top 26,top 27,top 28,top 29,top 30,top 32,top 33,top 34,top 35,top 36,top 37,top 38,top 39,top 40,top 41,top 42,top 43,top 45,top 47,top 48,top 49,top 50,top 51,top 52,top 53,top 54,top 55,top 56,top 57,top 58,top 59,top 60,top 61,top 62,top 63,top 64,top 65,top 66,top 68,top 69,top 70,top 71,top 72,top 73,top 74,top 75,top 76,top 77,top 78,top 79,top 81,top 82,top 83,top 84,top 85,top 86,top 87,top 88,top 89,top 90,top 91,top 92,top 93] } }
def xtK (s:Shared):Bool:=W.xlAt vw [] s&&W.recOk (W.RowW.records (W.OpenRow.toRowW (W.OpenLaw.row PySem.Challenge.rw_lidprice_k51_best_of_one_box))) s
theorem aAo:W.LeftO PySem.Challenge.pw_lidprice_k51_best_of_one_box vw [] xtK (W.Hook.obs (W.kHook yI VB Dy)) (W.Hook.val (W.kHook yI VB Dy)) 13170 :=
 L2.Kq (Tb:=t0) (Tf:=t9) (nf:=872) (kf:=1293) (env:=pP) (C:=fP) (gs:=gs) (m0:=11) (ann:=(some (.ref 6))) (by kernel_rfl) (by decide) (fun _=>by kernel_rfl) (fun _=>by kernel_rfl) aFU aDz (c:=651+(706+(604+(750+(1216+(684+(615+(629+(376+(2)))))))))) (fun w os=>L2.jF (aEH w os) (L2.jF (aCg w os) (L2.jF (aCb w os) (L2.jF (aCt w os) (L2.jF (aEs w os) (L2.jF (aDb w os) (L2.jF (aCz w os) (L2.jF (aFg w os) (L2.jF (aFH w os) (aDO w os)))))))))) (by decide) (fun _=>by kernel_rfl)
end
end K51K
namespace L2
open PySem PySem.Spec PyProof.Rows
abbrev Key:=Sum Int Str
def z6:Key->Value->Bool
 | .inl k,v=>Value.isInt k v
 | .inr x,v=>Value.isStrOf x v
def aCW (w:World):Key->Int
 | .inl k=>hashInt k
 | .inr x=>hashStr w x
theorem dY:∀ {k:Key}{v:Value},z6 k v=true->(∃ i t,k=Sum.inl i/\v=Value.int i t)∨(∃ x t,k=Sum.inr x/\v=Value.str x t)
 | .inl i,v,h=>by
  obtain ⟨t,e⟩:=Value.isInt_shape (k:=i) (v:=v) h;exact .inl ⟨i,t,rfl,e⟩
 | .inr x,v,h=>by
  obtain ⟨t,e⟩:=Value.isStrOf_shape (x:=x) (v:=v) h;exact .inr ⟨x,t,rfl,e⟩
theorem Jd (i:Int)(t:Tok):z6 (.inl i) (.int i t)=true:=by simp [z6,Value.isInt]
theorem KH (x:Str)(t:Tok):z6 (.inr x) (.str x t)=true:=by simp [z6,Value.isStrOf]
theorem TX (a b:Int):decide ((Sum.inl a:Key)=Sum.inl b)=(a==b):=by
 by_cases e:a=b
 ·subst e; simp
 ·have h:¬ (Sum.inl a:Key)=Sum.inl b:=fun q=>e (Sum.inl.inj q);rw [decide_eq_false h];exact (beq_eq_false_iff_ne.mpr e).symm
theorem Tv (a b:Str):decide ((Sum.inr a:Key)=Sum.inr b)=decide (a=b):=by
 by_cases e:a=b
 ·subst e; simp
 ·have h:¬ (Sum.inr a:Key)=Sum.inr b:=fun q=>e (Sum.inr.inj q);rw [decide_eq_false h,decide_eq_false e]
theorem Ug (a:Int)(b:Str):decide ((Sum.inl a:Key)=Sum.inr b)=false:=decide_eq_false (fun q=>nomatch q)
theorem Te (a:Str)(b:Int):decide ((Sum.inr a:Key)=Sum.inl b)=false:=decide_eq_false (fun q=>nomatch q)
def dZ (prog:Program)(w:World):PySem.KeyKind prog w Key where
 is:=z6
 hash:=aCW w
 inj:=fun v a b ha hb=>by
  rcases dY ha with ⟨i,t,rfl,rfl⟩ | ⟨x,t,rfl,rfl⟩
  ·rcases dY hb with ⟨j,u,rfl,e⟩ | ⟨y,u,rfl,e⟩
   ·injection e with e1 _; rw [e1]
   ·exact nomatch e
  ·rcases dY hb with ⟨j,u,rfl,e⟩ | ⟨y,u,rfl,e⟩
   ·exact nomatch e
   ·injection e with e1 _; rw [e1]
 byValue:=fun k v h=>by
  rcases dY h with ⟨i,t,rfl,rfl⟩ | ⟨x,t,rfl,rfl⟩ <;> rfl
 pyHash:=fun hv h=>by
  rcases dY hv with ⟨i,t,rfl,rfl⟩ | ⟨x,t,rfl,rfl⟩
  ·exact wpAny_pyHash_int h
  ·exact wpAny_pyHash_str h
 eqBool:=fun hu hv h=>by
  rcases dY hu with ⟨i,t,rfl,rfl⟩ | ⟨x,t,rfl,rfl⟩
  ·rcases dY hv with ⟨j,u,rfl,rfl⟩ | ⟨y,u,rfl,rfl⟩
   ·rw [TX] at h; exact wpAny_eqBool_int h
   ·rw [Ug] at h; exact SeqAt.EqAt.int_str i t y u _ _ _ _ h
  ·rcases dY hv with ⟨j,u,rfl,rfl⟩ | ⟨y,u,rfl,rfl⟩
   ·rw [Te] at h; exact SeqAt.EqAt.str_int x t j u _ _ _ _ h
   ·rw [Tv] at h; exact wpAny_eqBool_str h
 «strs»:=fun k x t v h=>by
  rcases dY h with ⟨i,u,rfl,e⟩ | ⟨y,u,rfl,e⟩
  ·exact nomatch e
  ·injection e with e1 _
   subst e1;cases v <;> rfl
theorem CZ (prog:Program)(w:World)(i:Int)(t:Tok):(dZ prog w).is (.inl i) (.int i t)=true:=Jd i t
theorem Cr (prog:Program)(w:World)(x:Str)(t:Tok):(dZ prog w).is (.inr x) (.str x t)=true:=KH x t
inductive V where
 | non | bl (b:Bool) | int (i:Int) | str (x:Str) | byt (b:Array UInt8) | flt (b:UInt64) | ref (a:Addr) | ty (n:String)
 deriving DecidableEq
def RelV:V->Value->Prop
 | .non,u=>u=Value.none
 | .bl b,u=>u=Value.bool b
 | .int i,u=>∃ t,u=Value.int i t
 | .str x,u=>∃ t,u=Value.str x t
 | .byt b,u=>∃ t,u=Value.bytes b t
 | .flt b,u=>∃ t,u=Value.float b t
 | .ref a,u=>u=Value.ref a
 | .ty n,u=>u=Value.type n
abbrev b8:List V->List Value->Prop:=Paired RelV
theorem b8.length {xs:List V}{us:List Value}(r:b8 xs us):xs.length=us.length:=Paired.length r
theorem b8.get:∀ {xs:List V}{us:List Value}{i:Nat}{x:V},b8 xs us->xs[i]? = some x->∃ u,us[i]? = some u/\RelV x u
 | _,_,_,_,.nil,e=>by simp at e
 | _,_,0,_,.cons r _,e=>by simp at e; subst e; exact ⟨_,rfl,r⟩
 | _,_,i+1,x,.cons _ t,e=>by
  obtain ⟨u,h1,h2⟩:=b8.get (i:=i) (x:=x) t (by simpa using e);exact ⟨u,by simpa using h1,h2⟩
theorem b8.set {x:V}{u:Value}(r:RelV x u):∀ {xs:List V}{us:List Value} (i:Nat),b8 xs us->b8 (xs.set i x) (us.set i u)
 | _,_,_,.nil=>.nil
 | _,_,0,.cons _ t=>.cons r t
 | _,_,i+1,.cons q t=>.cons q (b8.set r i t)
theorem b8.append:∀ {xs ys:List V}{us ws:List Value},b8 xs us->b8 ys ws->b8 (xs++ys) (us++ws)
 | _,_,_,_,.nil,s=>s
 | _,_,_,_,.cons r t,s=>.cons r (b8.append t s)
def mH:Option V->Option Value->Prop
 | some v,some u=>RelV v u
 | none,none=>True
 | _,_=>False
def KV {κ:Type}:List (κ×V)->List (κ×Value)->Prop:=Paired fun (p:κ×V) (q:κ×Value)=>p.1=q.1/\RelV p.2 q.2
def kV:Key->V
 | .inl i=>.int i
 | .inr x=>.str x
inductive HO where
 | lst (xs:List V)
 | tup (xs:List V)
 | dK (kvs:List (Key×V)) | dT (kvs:List (List Key×V))
 | set (S:Int->Bool) (n:Nat)
 | ins (C dx:Addr) (fs:List (Str×V))
 | own (x:Addr)
 | xd (fs:List (Str×V))
 | met (f x:Addr)
 | rng (lo hi:Int)
 | frz (o:Obj) (u:HO)
 | tbl (ps:Array Value)
 | ext (φ:Heap->Prop)
abbrev Hp:=Addr->Option HO
def aX (H:Hp)(a:Addr)(o:HO):Hp:=fun b=>if b=a then some o else H b
theorem aC {H:Hp}{a:Addr}{o:HO}:aX H a o a=some o:=by unfold aX; rw [if_pos rfl]
theorem aO {H:Hp}{a b:Addr}{o:HO}(h:b≠a):aX H a o b=H b:=by unfold aX; rw [if_neg h]
theorem Px {H:Hp}{a:Addr}{o u:HO}:aX (aX H a o) a u=aX H a u:=by
 funext b; unfold aX; split <;> rfl
theorem cI {H:Hp}{a b:Addr}{o u:HO}(h:H a=some o)(h':H b=some u)(d:o≠u):a≠b:=by
 intro e; subst e; rw [h] at h'; exact d (aMq.inj h')
theorem bB {H:Hp}{a b:Addr}{o:HO}(h:H a=some o)(h':H b=none):a≠b:=by
 intro e; subst e; rw [h] at h'; cases h'
section
variable (P:Program)(w:World)
def cJ (H:Hp)(h:Heap)(a:Addr):HO->Prop
 | .lst xs=>xs.length<=sizeLine/\∃ (its:List Value) (n:Nat),b8 xs its/\h.get? a=some { cls:=.type "list",data:=.seq its.toArray n }
 | .tup xs=>xs.length<=sizeLine/\∃ its:List Value,b8 xs its/\IsTup h a its.toArray
 | .dK kvs=>kvs.length<=sizeLine/\(a==sysModules)=false/\∃ vs,KV kvs vs/\h.DictOf (dZ P w) a vs
 | .dT kvs=>kvs.length<=sizeLine/\(a==sysModules)=false/\∃ xs:List (List Key×Addr×Value),
   Paired (fun (p:List Key×V) (q:List Key×Addr×Value)=>p.1=q.1/\H q.2.1=some (.tup (p.1.map kV))/\RelV p.2 q.2.2) kvs xs ∧
   ∃ o es ep,h.get? a=some o/\o.ExactDict/\o.data=.dict es ep/\es.toList=xs.map (entryOfKey (tupleKind (dZ P w)))/\(xs.map (·.1)).Nodup
 | .set S n=>h.SetOf (intKind P w) a S n
 | .ins C dx fs=>H dx=some (.own a)/\fs.length<=1000/\dx≠a/\h.get? a=some (PySem.W.instObj C dx) ∧
   ∃ mA,h.Ns1 dx mA/\(∀ f,mH (fs.lookup f) (mA f))/\PySem.Within mA (fs.map (·.1))
 | .own _=>∃ o,h.get? a=some o
 | .xd fs=>∃ mA,h.Ns1 a mA/\∀ f,mH (fs.lookup f) (mA f)
 | .rng lo hi=>∃ t u v,h.get? a=some { cls:=.type "range",data:=.fields #[.int lo t,.int hi u,.int 1 v] }
 | .frz o u=>h.get? a=some o/\cJ H h a u
 | .tbl ps=>h.get? a=some { cls:=.none,data:=.fields ps }
 | .met f x=>h.get? a=some (PySem.W.methodObj (.ref f) (.ref x))
 | .ext φ=>φ h/\(∃ o,h.get? a=some o)/\∀ h1 h2:Heap,φ h1->(∀ o,h1.get? a=some o->h2.get? a=some o)->φ h2
def nW (H:Hp)(h:Heap):Prop:=∀ a o,H a=some o->cJ P w H h a o
end
section
variable {P:Program}{w:World}{H H':Hp}{h h':Heap}{a:Addr}{o:HO}
theorem cJ.lt (x:cJ P w H h a o):a<h.objs.size:=by
 cases o with
 | lst xs=>obtain ⟨_,_,_,_,e⟩:=x; exact aLC e
 | tup xs=>obtain ⟨_,_,_,p⟩:=x; exact p.lt
 | dK kvs=>obtain ⟨_,_,_,_,o,_,_,e,_⟩:=x; exact aLC e
 | dT kvs=>obtain ⟨_,_,_,_,o,_,_,e,_⟩:=x; exact aLC e
 | set S n=>obtain ⟨o,_,_,_,e,_⟩:=x; exact aLC e
 | ins C dx fs=>obtain ⟨_,_,_,e,_⟩:=x; exact aLC e
 | own y=>obtain ⟨_,e⟩:=x; exact aLC e
 | xd fs=>obtain ⟨_,⟨_,_,_,e,_⟩,_⟩:=x; exact aLC e
 | rng lo hi=>obtain ⟨_,_,_,e⟩:=x; exact aLC e
 | frz ob u=>obtain ⟨e,_⟩:=x; exact aLC e
 | tbl ps=>exact aLC (show h.get? a=some _ from x)
 | met f y=>exact aLC (show h.get? a=some _ from x)
 | ext φ=>obtain ⟨_,⟨_,e⟩,_⟩:=x; exact aLC e
theorem Paired.mapP {α β:Type}{F G:α->β->Prop}:∀ {l₁:List α}{l₂:List β},Paired F l₁ l₂->(∀ a b,F a b->G a b)->Paired G l₁ l₂
 | _,_,.nil,_=>.nil
 | _,_,.cons r t,f=>.cons (f _ _ r) (Paired.mapP t f)
theorem cJ.stay (x:cJ P w H h a o)(k:∀ b u,(b=a∨H b=some (.own a))->h.get? b=some u->h'.get? b=some u)
  (ho:∀ b,H b=some (.own a)->H' b=some (.own a)) (ht:∀ b xs,H b=some (.tup xs)->H' b=some (.tup xs)):cJ P w H' h' a o:=by
 induction o with
 | lst xs=>obtain ⟨z,its,n,r,e⟩:=x; exact ⟨z,its,n,r,k _ _ (.inl rfl) e⟩
 | tup xs=>obtain ⟨z,its,r,ob,e,c⟩:=x; exact ⟨z,its,r,ob,k _ _ (.inl rfl) e,c⟩
 | dK kvs=>obtain ⟨z,y,vs,r,ob,es,ep,e,c⟩:=x; exact ⟨z,y,vs,r,ob,es,ep,k _ _ (.inl rfl) e,c⟩
 | dT kvs =>
  obtain ⟨z,y,xs,r,ob,es,ep,e,c⟩:=x;exact ⟨z,y,xs,Paired.mapP r fun p q z=>⟨z.1,ht _ _ z.2.1,z.2.2⟩,ob,es,ep,k _ _ (.inl rfl) e,c⟩
 | set S n=>obtain ⟨ob,es,ep,t,e,c⟩:=x; exact ⟨ob,es,ep,t,k _ _ (.inl rfl) e,c⟩
 | ins C dx fs =>
  obtain ⟨d,z,ne,e,mA,⟨od,es,ep,e2,c⟩,r⟩:=x;exact ⟨ho _ d,z,ne,k _ _ (.inl rfl) e,mA,⟨od,es,ep,k _ _ (.inr d) e2,c⟩,r⟩
 | own y=>obtain ⟨ob,e⟩:=x; exact ⟨ob,k _ _ (.inl rfl) e⟩
 | xd fs=>obtain ⟨mA,⟨od,es,ep,e,c⟩,r⟩:=x; exact ⟨mA,⟨od,es,ep,k _ _ (.inl rfl) e,c⟩,r⟩
 | rng lo hi=>obtain ⟨t,u,v,e⟩:=x; exact ⟨t,u,v,k _ _ (.inl rfl) e⟩
 | frz ob u ih=>obtain ⟨e,q⟩:=x; exact ⟨k _ _ (.inl rfl) e,ih q⟩
 | tbl ps =>
  have e:h.get? a=some { cls:=.none,data:=.fields ps }:=x;show h'.get? a=some { cls:=.none,data:=.fields ps };exact k a _ (.inl rfl) e
 | met f y =>
  have e:h.get? a=some (PySem.W.methodObj (.ref f) (.ref y)):=x;show h'.get? a=some (PySem.W.methodObj (.ref f) (.ref y));exact k a _ (.inl rfl) e
 | ext φ=>obtain ⟨p,⟨o,e⟩,st⟩:=x; exact ⟨st _ _ p fun o q=>k _ _ (.inl rfl) q,⟨o,k _ _ (.inl rfl) e⟩,st⟩
theorem nW.lt (x:nW P w H h)(e:H a=some o):a<h.objs.size:=(x a o e).lt
theorem nW.fresh (x:nW P w H h)(e:h.objs.size<=a):H a=none:=by
 cases q:H a with
 | none=>rfl
 | some u=>exact absurd (aLS (x.lt q) e) (aMp _)
theorem nW.kept (x:nW P w H h)(k:∀ b u,h.get? b=some u->h'.get? b=some u):nW P w H h':=fun a o e =>
 (x a o e).stay (fun b u _ q=>k b u q) (fun _ q=>q) fun _ _ q=>q
theorem nW.laid (x:nW P w H h)(k:∀ b u,h.get? b=some u->h'.get? b=some u)(hp:h.objs.size<=a)(new:cJ P w (aX H a o) h' a o):nW P w (aX H a o) h':=fun b u e=>by
 have hn:=x.fresh hp
 by_cases hb:b=a
 ·subst hb; rw [aC] at e; cases e; exact new
 ·rw [aO hb] at e;exact (x b u e).stay (fun c v _ q=>k c v q) (fun c q=>by rw [aO (bB q hn)]; exact q) fun c xs q=>by rw [aO (bB q hn)]; exact q
end
def Rd (H:Hp)(a:Addr)(u:HO):Prop:=H a=some u∨∃ o,H a=some (.frz o u)
theorem Rd.ok {P:Program}{w:World}{H:Hp}{h:Heap}{a:Addr}{u:HO}(r:Rd H a u)(x:nW P w H h):cJ P w H h a u:=by
 rcases r with r | ⟨o,r⟩
 ·exact x a u r
 ·obtain ⟨_,q⟩:=x a _ r;exact q
def Mut:Option HO->Prop
 | some (.lst _)=>True
 | some (.dK _)=>True
 | some (.dT _)=>True
 | some (.set _ _)=>True
 | some (.ins _ _ _)=>True
 | some (.ext _)=>True
 | _=>False
section
variable {P:Program}{w:World}{H:Hp}{h h':Heap}{x e:Addr}{o':HO}
theorem nW.write (ok:nW P w H h)(mu:Mut (H x))(he:e=x∨H e=some (.own x))(k:∀ b u,b≠e->h.get? b=some u->h'.get? b=some u)(heo:∃ u,h'.get? e=some u)
  (new:cJ P w (aX H x o') h' x o'):nW P w (aX H x o') h':=fun b u q=>by
 have nown:∀ c y,H c=some (.own y)->c≠x:=fun c y r z=>by subst z; rw [r] at mu; exact mu
 have ntup:∀ c xs,H c=some (.tup xs)->c≠x:=fun c xs r z=>by subst z; rw [r] at mu; exact mu
 by_cases hb:b=x
 ·subst hb; rw [aC] at q; cases q; exact new
 ·rw [aO hb] at q
  by_cases hbe:b=e
  ·have q':H b=some (.own x):=by
    rcases he with z | z
    ·exact absurd (hbe.trans z) hb
    ·rw [hbe]; exact z
   rw [q] at q'; cases q';obtain ⟨v,hv⟩:=heo;exact ⟨v,by rw [hbe]; exact hv⟩
  ·refine (ok b u q).stay (fun c v hc r=>k c v ?_ r) (fun c r=>by rw [aO (nown c b r)]; exact r) fun c xs r=>by rw [aO (ntup c xs r)]; exact r
   rcases hc with rfl | hc
   ·exact hbe
   ·rintro rfl;rcases he with z | z
    ·exact nown c b hc z
    ·rw [hc] at z; cases z; exact hb rfl
end
structure Un (fs ex:List Addr)(H H':Hp)(h h':Heap):Prop where
 keep:∀ b o,h.get? b=some o->H b=none->b∉fs->b∉ex->h'.get? b=some o
 slot:∀ b o,h.get? b=some o->H b=none->b∈fs->b∉ex->∃ sl,h'.get? b=some { o with slots:=sl }
 free:∀ b o,h.get? b=some o->H b=none->b∉ex->H' b=none
 there:∀ b o,h.get? b=some o->b∉ex->∃ o',h'.get? b=some o'
 tups:∀ b xs,H b=some (.tup xs)->H' b=some (.tup xs)
 frzs:∀ b o u,H b=some (.frz o u)->H' b=some (.frz o u)
 tbls:∀ b ps,H b=some (.tbl ps)->∃ more,H' b=some (.tbl (ps++more))
section
variable {fs fs' ex ex':List Addr}{H H1 H2:Hp}{h h1 h2 h':Heap}{a x e:Addr}{o:HO}
theorem Un.any (u:Un fs ex H H1 h h1){b:Addr}{ob:Obj}(q:h.get? b=some ob)(n:H b=none)(hx:b∉ex):∃ sl,h1.get? b=some { ob with slots:=sl }:=by
 by_cases hb:b∈fs
 ·exact u.slot b ob q n hb hx
 ·exact ⟨ob.slots,u.keep b ob q n hb hx⟩
theorem Un.trans (a:Un fs ex H H1 h h1)(b:Un fs ex H1 H2 h1 h2):Un fs ex H H2 h h2 where
 keep:=fun c ob q n hc hx=>b.keep c ob (a.keep c ob q n hc hx) (a.free c ob q n hx) hc hx
 slot:=fun c ob q n hc hx=>by
  obtain ⟨sl,e1⟩:=a.slot c ob q n hc hx;obtain ⟨sl',e2⟩:=b.slot c _ e1 (a.free c ob q n hx) hc hx;exact ⟨sl',e2⟩
 free:=fun c ob q n hx=>by
  obtain ⟨o',e1⟩:=a.there c ob q hx;exact b.free c o' e1 (a.free c ob q n hx) hx
 there:=fun c ob q hx=>by
  obtain ⟨o',e1⟩:=a.there c ob q hx;exact b.there c o' e1 hx
 tups:=fun c xs q=>b.tups c xs (a.tups c xs q)
 frzs:=fun c ob xs q=>b.frzs c ob xs (a.frzs c ob xs q)
 tbls:=fun c ps q=>by
  obtain ⟨m1,e1⟩:=a.tbls c ps q;obtain ⟨m2,e2⟩:=b.tbls c _ e1;exact ⟨m1++m2,by rw [e2,aN3]⟩
theorem Un.kept (k:∀ b u,h.get? b=some u->h'.get? b=some u):Un fs ex H H h h' :=
 ⟨fun b ob q _ _ _=>k b ob q,fun b ob q _ _ _=>⟨ob.slots,k b ob q⟩,fun _ _ _ n _=>n,fun b ob q _=>⟨ob,k b ob q⟩,fun _ _ q=>q,fun _ _ _ q=>q,fun _ ps q=>⟨#[],by rw [q]; simp⟩⟩
theorem Un.refl:Un fs ex H H h h:=Un.kept fun _ _ q=>q
theorem Un.laid (k:∀ b u,h.get? b=some u->h'.get? b=some u)(hp:h.objs.size<=a)(hn:H a=none):Un fs ex H (aX H a o) h h' where
 keep:=fun b u q _ _ _=>k b u q
 slot:=fun b u q _ _ _=>⟨u.slots,k b u q⟩
 free:=fun b u q n _=>by rw [aO (aLR (aLS (aLC q) hp))]; exact n
 there:=fun b u q _=>⟨u,k b u q⟩
 tups:=fun b xs q=>by rw [aO (bB q hn)]; exact q
 frzs:=fun b u xs q=>by rw [aO (bB q hn)]; exact q
 tbls:=fun b ps q=>⟨#[],by rw [aO (bB q hn),q]; simp⟩
theorem Un.write (mu:Mut (H x))(he:e=x∨H e=some (.own x))(k:∀ b u,b≠e->h.get? b=some u->h'.get? b=some u)(heo:∃ u,h'.get? e=some u):Un fs ex H (aX H x o) h h':=by
 have hx:∀ b,H b=none->b≠x:=fun b n z=>by subst z; rw [n] at mu; exact mu
 have hb:∀ b,H b=none->b≠e:=fun b n z=>by
  subst z;rcases he with r | r
  ·exact hx b n r
  ·rw [n] at r; cases r
 have hm:∀ b u,H b=some u->¬ Mut (some u)->b≠x:=fun b u q nm z=>by subst z; rw [q] at mu; exact nm mu
 refine ⟨fun b u q n _ _=>k b u (hb b n) q,fun b u q n _ _=>⟨u.slots,k b u (hb b n) q⟩,fun b u q n _=>by rw [aO (hx b n)]; exact n,fun b u q _=>?_,
  fun b xs q=>by rw [aO (hm b _ q fun z=>z)]; exact q,fun b u xs q=>by rw [aO (hm b _ q fun z=>z)]; exact q,fun b ps q=>⟨#[],by rw [aO (hm b _ q fun z=>z),q]; simp⟩⟩
 by_cases hbe:b=e
 ·subst hbe; exact heo
 ·exact ⟨u,k b u hbe q⟩
end
def trk (h:Heap)(H:Hp):List Addr:=(aME h.objs.size).filter fun a=>(H a).isSome
def xE (h:Heap)(H:Hp):Heap:=PySem.W.hideAll h (trk h H)
theorem J8 (h:Heap)(H:Hp):(xE h H).objs.size=h.objs.size:=PySem.W.hideAll_size _ _
theorem NP {h:Heap}{H:Hp}{b:Addr}{o:Obj}(e:h.get? b=some o)(n:H b=none):(xE h H).get? b=some o :=
 PySem.W.hideAll_get _ e fun hm=>by
  have q:(H b).isSome=true:=(aL3.mp hm).2;rw [n] at q; simp at q
theorem Ol {h:Heap}{H:Hp}{b:Addr}{o:Obj}(e:(xE h H).get? b=some o):h.get? b=some o/\H b=none:=by
 have e':h.get? b=some o:=PySem.W.of_hideAll (trk h H) e;refine ⟨e',?_⟩;cases q:H b with
 | none=>rfl
 | some x =>
  have hm:b∈trk h H:=aL3.mpr ⟨aMj.mpr (aLC e'),by simp [q]⟩;have z:(xE h H).get? b=none:=PySem.W.hideAll_none (trk h H) hm;rw [z] at e; cases e
def QZ (g h:Heap)(L:Addr):List (Addr×Obj):=(aME h.objs.size).filterMap fun a=>if a=L∨(g.get? a).isSome=true then none else (h.get? a).map fun o=>(a,o)
def rest (g h:Heap)(L d:Addr):List (Addr×Obj):=(QZ g h L).filter fun p=>decide (p.1≠d)
structure Mod (K:PySem.W.Frag)(mg:Str->Option Value)(base:Heap):Prop where
 kin:K.In base
 glob:base.Ns mainGlobals mg
 blt:∃ mb,base.Ns builtinsNs mb/\∀ x:Str,x≠"__name__" -> mb x=bootBuiltins x
 nolimit:base.NoLimit
structure Cx where
 prog:Program
 w:World
 K:PySem.W.Frag
 mg:Str->Option Value
 base:Heap
 A:Around
 N:List Str
 s₀:Shared
 H₀:Hp
 env:Env
 outer:List Env
 stack:List Env
 ex:List Addr
 fn:Str->Bool
 calm:Bool
 pn:List (Addr×Obj)
 xe:Value->Shared->Prop
def rG (l:List Env):List Addr:=l.filterMap (·.frame)
abbrev Cx.fs (X:Cx):List Addr:=rG X.outer
def Vis (sc:Scope)(x:Str):Prop:=sc.names.lookup x=some .local∨sc.names.lookup x=some .cell∨sc.names.lookup x=some .free
def Loc (sc:Scope)(x:Str):Prop:=sc.names.lookup x=some .local∨sc.names.lookup x=some .cell
def Look (env:Env)(h:Heap)(m:Str->Option Value)(x:Str)(u:Value):Prop :=
 (env.kindOf x=some .local/\m x=some u)∨((env.kindOf x=some .cell∨env.kindOf x=some .free)/\∃ c,env.cells.lookup x=some c/\h.IsCell c (some u))
structure Cx.Ok (X:Cx):Prop where
 mod:Mod X.K X.mg X.base
 kind:X.env.scope.kind=.function
 glob:X.env.globals=mainGlobals
 blt:X.env.builtins=builtinsNs
 above:X.s₀.heap.objs.size<=X.env.locals
 inj:∀ x y c,X.env.cells.lookup x=some c->X.env.cells.lookup y=some c->x=y
 has:∀ x,(X.env.kindOf x=some .cell∨X.env.kindOf x=some .free)->∃ c,X.env.cells.lookup x=some c
 cab:∀ x c,X.fn x=true->X.env.cells.lookup x=some c->X.s₀.heap.objs.size<=c
 hd:X.calm=true->X.A.handled=none
 frames:X.A.frames=some X.stack
 stk:X.stack=X.outer∨(X.stack=X.env::X.outer/\X.env.frame=some X.env.locals)
 exf:∀ b∈X.ex,b≠X.env.locals/\∀ x c,X.env.cells.lookup x=some c->c≠b
 bs:∀ b o,X.base.get? b=some o->X.s₀.heap.get? b=some o/\X.H₀ b=none
 bsz:X.base.objs.size<=X.s₀.heap.objs.size
 noex:∀ b o,X.base.get? b=some o->b∉X.ex
 exfs:∀ b∈X.ex,b∉X.fs
 funs:X.s₀.heap.FunFrames X.base X.outer
 frf:∀ b∈X.fs,X.H₀ b=none
structure bD (X:Cx)(pins:List (Addr×Obj))(σ:List (Option V))(H:Hp)(s:Shared):Prop where
 ok:X.Ok
 os:s.os=X.s₀.os
 bare:AllBare s.gens
 base:Un X.fs X.ex X.H₀ H X.s₀.heap s.heap
 loc:∃ m,s.heap.Ns X.env.locals m/\∀ (i:Nat) (x:Str) (v:V),X.N[i]? = some x->σ[i]? = some (some v)->Vis X.env.scope x->∃ u,RelV v u/\Look X.env s.heap m x u
 cell:∀ x c,X.env.cells.lookup x=some c->∃ v,s.heap.IsCell c v
 free:H X.env.locals=none
 freeC:∀ x c,X.env.cells.lookup x=some c->H c=none
 pin:∀ p∈X.pn++pins,s.heap.get? p.1=some p.2/\H p.1=none/\p.1≠X.env.locals/\p.1∉X.fs/\∀ v,p.2.data≠.cell v
 hok:nW X.prog X.w H s.heap
 len:σ.length=X.N.length
section
variable {X:Cx}{pins:List (Addr×Obj)}{σ:List (Option V)}{H H':Hp}{s:Shared}{h':Heap}
theorem Cx.Ok.nofr (ok:X.Ok){b:Addr}{o:Obj}(e:X.base.get? b=some o):b∉X.fs:=fun hb=>by
 have:=(ok.funs.mem hb).1;rw [e] at this; cases this
theorem bD.bs (I:bD X pins σ H s):∀ b o,X.base.get? b=some o->s.heap.get? b=some o/\H b=none:=fun b o e =>
 ⟨I.base.keep b o (I.ok.bs b o e).1 (I.ok.bs b o e).2 (I.ok.nofr e) (I.ok.noex b o e),I.base.free b o (I.ok.bs b o e).1 (I.ok.bs b o e).2 (I.ok.noex b o e)⟩
theorem bD.bk (I:bD X pins σ H s):∀ b o,X.base.get? b=some o->s.heap.get? b=some o:=fun b o e=>(I.bs b o e).1
theorem bD.mod (I:bD X pins σ H s):Mod X.K X.mg X.base:=I.ok.mod
theorem bD.kIn (I:bD X pins σ H s):X.K.In s.heap:=I.ok.mod.kin.keeps I.bk
theorem bD.nolimit (I:bD X pins σ H s):s.heap.NoLimit:=I.ok.mod.nolimit.keeps I.bk
theorem bD.lt (I:bD X pins σ H s):X.env.locals<s.heap.objs.size:=let ⟨_,hn,_⟩:=I.loc; hn.lt
theorem bD.sz (I:bD X pins σ H s):X.s₀.heap.objs.size<=s.heap.objs.size:=aLv I.ok.above (aLZ I.lt)
theorem bD.nofs (I:bD X pins σ H s){a:Addr}(h:s.heap.objs.size<=a):a∉X.fs:=fun hb=>by
 obtain ⟨_,o,ho,_⟩:=I.ok.funs.mem hb;exact absurd (aLS (aLC ho) (aLv I.sz h)) (aMp _)
theorem bD.cne (I:bD X pins σ H s):∀ x c,X.env.cells.lookup x=some c->c≠X.env.locals:=fun x c e z=>by
 obtain ⟨v,o,ho,hd⟩:=I.cell x c e;obtain ⟨m,⟨o',es,ep,ho',hd',_⟩,_⟩:=I.loc;rw [z,ho'] at ho; cases ho; rw [hd'] at hd; cases hd
theorem bD.funs (I:bD X pins σ H s):s.heap.FunFrames X.base X.outer:=by
 have all:∀ (l:List Env),(∀ b∈rG l,b∈X.fs)->X.s₀.heap.FunFrames X.base l->s.heap.FunFrames X.base l:=by
  intro l
  induction l with
  | nil=>intro _ _; trivial
  | cons env r ih =>
   intro hs hl;obtain ⟨hk,⟨L,o,hf,hn,ho,hd⟩,hr⟩:=hl;have hL:L∈X.fs:=hs L (by unfold rG; rw [aMt,hf]; exact aLq);obtain ⟨sl,e⟩:=I.base.slot L o ho (I.ok.frf L hL) hL fun z=>I.ok.exfs L z hL;exact ⟨hk,⟨L,_,hf,hn,e,hd⟩,ih (fun b hb=>hs b (by unfold rG; rw [aMt,hf]; exact aLp _ hb)) hr⟩
 exact all X.outer (fun _ hb=>hb) I.ok.funs
theorem bD.stack (I:bD X pins σ H s):s.heap.FunFrames X.base X.stack:=by
 rcases I.ok.stk with e | ⟨e,hf⟩
 ·rw [e]; exact I.funs
 ·rw [e];obtain ⟨m,hn,_⟩:=I.loc;refine .cons (by rw [I.ok.kind]; decide) hf hn ?_ I.funs;exact Heap.get?_none_of_le (aLv I.ok.bsz I.ok.above)
theorem bD.stkSub (I:bD X pins σ H s):∀ b∈rG X.stack,b∈X.env.locals::X.fs:=fun b hb=>by
 rcases I.ok.stk with e | ⟨e,hf⟩
 ·rw [e] at hb; exact aLp _ hb
 ·rw [e] at hb;unfold rG at hb;rw [aMt,hf] at hb;exact hb
theorem bD.stkFree (I:bD X pins σ H s):∀ b∈rG X.stack,H b=none:=fun b hb=>by
 rcases aLF.mp (I.stkSub b hb) with e | hb
 ·rw [e]; exact I.free
 ·obtain ⟨_,o,ho,_⟩:=I.ok.funs.mem hb;exact I.base.free b o ho (I.ok.frf b hb) fun z=>I.ok.exfs b z hb
theorem bD.step {g':Array GenState}{t':Nat}{d':Drawn}{ch:List Addr}(I:bD X pins σ H s)
  (hch:∀ b∈ch,(b∈X.ex∨X.s₀.heap.objs.size<=b)/\b≠X.env.locals/\(∀ x c,X.env.cells.lookup x=some c->c≠b)/\∀ p∈X.pn++pins,p.1≠b)
  (keep:∀ b o,b≠X.env.locals->b∉X.fs->b∉ch->s.heap.get? b=some o->H b=none->h'.get? b=some o)
  (slot:∀ b o,b≠X.env.locals->b∈X.fs->b∉ch->s.heap.get? b=some o->H b=none->∃ sl,h'.get? b=some { o with slots:=sl }) (free:∀ b o,b∉ch->s.heap.get? b=some o->H b=none->H' b=none)
  (there:∀ b o,b∉ch->s.heap.get? b=some o->∃ o',h'.get? b=some o')
  (tups:∀ b xs,H b=some (.tup xs)->H' b=some (.tup xs)) (frzs:∀ b o u,H b=some (.frz o u)->H' b=some (.frz o u)) (tbls:∀ b ps,H b=some (.tbl ps)->∃ more,H' b=some (.tbl (ps++more)))
  (ns:∀ m,s.heap.Ns X.env.locals m->h'.Ns X.env.locals m) (hok:nW X.prog X.w H' h') (hg:AllBare g') :
  bD X pins σ H' { s with heap:=h',gens:=g',drawn:=d',toks:=t' }:=by
 have neL:∀ b o,X.s₀.heap.get? b=some o->b≠X.env.locals:=fun b o e=>aLR (aLS (aLC e) I.ok.above);have neC:∀ b o,X.s₀.heap.get? b=some o->b∉X.ex->b∉ch:=fun b o e hx hb=>by
  rcases (hch b hb).1 with z | z
  ·exact hx z
  ·exact absurd (aLS (aLC e) z) (aMp _)
 have cellK:∀ x c,X.env.cells.lookup x=some c->∀ v,s.heap.IsCell c v->h'.IsCell c v:=fun x c e v ⟨o,ho,hd⟩=>by
  have nch:c∉ch:=fun z=>(hch c z).2.2.1 x c e rfl
  by_cases hc:c∈X.fs
  ·obtain ⟨sl,q⟩:=slot c o (I.cne x c e) hc nch ho (I.freeC x c e);exact ⟨_,q,hd⟩
  ·exact ⟨o,keep c o (I.cne x c e) hc nch ho (I.freeC x c e),hd⟩
 refine ⟨I.ok,I.os,hg,⟨fun b o e n hb hx=>?_,fun b o e n hb hx=>?_,fun b o e n hx=>?_,fun b o e hx=>?_,fun b xs e=>tups b xs (I.base.tups b xs e),fun b o xs e=>frzs b o xs (I.base.frzs b o xs e),fun b ps e=>?_⟩,?_,fun x c e=>?_,?_,fun x c e=>?_,fun p hp=>?_,hok,I.len⟩
 ·exact keep b o (neL b o e) hb (neC b o e hx) (I.base.keep b o e n hb hx) (I.base.free b o e n hx)
 ·obtain ⟨sl,e1⟩:=I.base.slot b o e n hb hx;obtain ⟨sl',e2⟩:=slot b _ (neL b o e) hb (neC b o e hx) e1 (I.base.free b o e n hx);exact ⟨sl',e2⟩
 ·obtain ⟨o',e1⟩:=I.base.there b o e hx;exact free b o' (neC b o e hx) e1 (I.base.free b o e n hx)
 ·obtain ⟨o',e1⟩:=I.base.there b o e hx;exact there b o' (neC b o e hx) e1
 ·obtain ⟨m1,e1⟩:=I.base.tbls b ps e;obtain ⟨m2,e2⟩:=tbls b _ e1;exact ⟨m1++m2,by rw [e2,aN3]⟩
 ·obtain ⟨m,hn,hl⟩:=I.loc;refine ⟨m,ns m hn,fun i x v e1 e2 e3=>?_⟩;obtain ⟨u,r,l⟩:=hl i x v e1 e2 e3;refine ⟨u,r,?_⟩;rcases l with l | ⟨k,c,e,z⟩
  ·exact .inl l
  ·exact .inr ⟨k,c,e,cellK x c e _ z⟩
 ·obtain ⟨v,z⟩:=I.cell x c e;exact ⟨v,cellK x c e v z⟩
 ·obtain ⟨m,⟨o,_,_,ho,_⟩,_⟩:=I.loc;exact free _ o (fun z=>(hch _ z).2.1 rfl) ho I.free
 ·obtain ⟨v,o,ho,hd⟩:=I.cell x c e;exact free c o (fun z=>(hch c z).2.2.1 x c e rfl) ho (I.freeC x c e)
 ·obtain ⟨e,n,ne,nf,d⟩:=I.pin p hp;have nch:p.1∉ch:=fun z=>(hch p.1 z).2.2.2 p hp rfl;exact ⟨keep p.1 p.2 ne nf nch e n,free p.1 p.2 nch e n,ne,nf,d⟩
theorem bD.un {t':Nat}(I:bD X pins σ H s)(u:Un X.fs [] H H' s.heap h')(hok:nW X.prog X.w H' h'):bD X pins σ H' { s with heap:=h',toks:=t' }:=by
 obtain ⟨m,⟨o,es,ep,ho,r⟩,_⟩:=id I.loc;obtain ⟨sl,hL⟩:=u.any ho I.free (by simp);exact I.step (g':=s.gens) (d':=s.drawn) (ch:=[]) (fun _ z=>nomatch z) (fun b o _ hb _ e n=>u.keep b o e n hb (by simp)) (fun b o _ hb _ e n=>u.slot b o e n hb (by simp)) (fun b o _ e n=>u.free b o e n (by simp)) (fun b o _ e=>u.there b o e (by simp)) u.tups u.frzs u.tbls (fun m' hm=>by
  obtain ⟨o',es',ep',ho',r'⟩:=hm;rw [ho] at ho'; cases ho';exact ⟨_,es',ep',hL,r'⟩) hok I.bare
theorem bD.call {g':Array GenState}{t':Nat}{d':Drawn}{ch:List Addr}(I:bD X pins σ H s)(u:Un (rG X.stack) ch H H' s.heap h')(hok:nW X.prog X.w H' h')(hg:AllBare g')
  (hch:∀ b∈ch,(b∈X.ex∨X.s₀.heap.objs.size<=b)/\b≠X.env.locals/\(∀ x c,X.env.cells.lookup x=some c->c≠b)/\∀ p∈X.pn++pins,p.1≠b) :
  bD X pins σ H' { s with heap:=h',gens:=g',drawn:=d',toks:=t' }:=by
 obtain ⟨m,⟨o,es,ep,ho,r⟩,_⟩:=id I.loc;obtain ⟨sl,hL⟩:=u.any ho I.free fun z=>(hch _ z).2.1 rfl;exact I.step (ch:=ch) hch (fun b o hL hb hc e n=>u.keep b o e n (fun z=>(aLF.mp (I.stkSub b z)).elim hL hb) hc) (fun b o _ _ hc e n=>u.any e n hc) (fun b o hc e n=>u.free b o e n hc) (fun b o hc e=>u.there b o e hc) u.tups u.frzs u.tbls (fun m' hm=>by
  obtain ⟨o',es',ep',ho',r'⟩:=hm;rw [ho] at ho'; cases ho';exact ⟨_,es',ep',hL,r'⟩) hok hg
theorem bD.turned {t':Nat}{it:Addr}(I:bD X pins σ H s)(k:∀ b o,b≠it->s.heap.get? b=some o->h'.get? b=some o)(hn:H it=none)(hL:it≠X.env.locals)
  (h1:it∈X.ex∨X.s₀.heap.objs.size<=it) (h2:∀ x c,X.env.cells.lookup x=some c->c≠it) (h3:∀ p∈X.pn++pins,p.1≠it):bD X pins σ H { s with heap:=h',toks:=t' }:=by
 have nit:∀ b u,H b=some u->b≠it:=fun b u e z=>by rw [z,hn] at e; cases e
 refine I.step (g':=s.gens) (d':=s.drawn) (ch:=[it]) (fun b hb=>?_) (fun b o _ _ hc e _=>k b o (fun z=>hc (by simp [z])) e) (fun b o _ _ hc e _=>⟨o.slots,k b o (fun z=>hc (by simp [z])) e⟩) (fun _ _ _ _ n=>n)
  (fun b o hc e=>⟨o,k b o (fun z=>hc (by simp [z])) e⟩) (fun _ _ e=>e) (fun _ _ _ e=>e) (fun b ps e=>⟨#[],by rw [e]; simp⟩) (fun m hm=>?_) (fun b u e=>?_) I.bare
 ·have e:b=it:=by simpa using hb
  subst e;exact ⟨h1,hL,h2,h3⟩
 ·obtain ⟨o,es,ep,ho,r⟩:=hm;exact ⟨o,es,ep,k _ o (Ne.symm hL) ho,r⟩
 ·refine (I.hok b u e).stay (fun c v hc q=>k c v ?_ q) (fun _ q=>q) fun _ _ q=>q;rcases hc with z | z
  ·rw [z]; exact nit b u e
  ·exact nit c _ z
theorem bD.tok (I:bD X pins σ H s)(t:Nat):bD X pins σ H { s with toks:=t }:=I.un (h':=s.heap) (t':=t) Un.refl I.hok
theorem bD.kept {t':Nat}(I:bD X pins σ H s)(k:∀ b u,s.heap.get? b=some u->h'.get? b=some u):bD X pins σ H { s with heap:=h',toks:=t' }:=I.un (Un.kept k) (I.hok.kept k)
theorem bD.laid {a:Addr}{o:HO}{t':Nat}(I:bD X pins σ H s)(k:∀ b u,s.heap.get? b=some u->h'.get? b=some u)(hp:s.heap.objs.size<=a)(new:cJ X.prog X.w (aX H a o) h' a o) :
  bD X pins σ (aX H a o) { s with heap:=h',toks:=t' }:=I.un (Un.laid k hp (I.hok.fresh hp)) (I.hok.laid k hp new)
theorem bD.write {x e:Addr}{o:HO}{t':Nat}(I:bD X pins σ H s)(mu:Mut (H x))(he:e=x∨H e=some (.own x))(k:∀ b u,b≠e->s.heap.get? b=some u->h'.get? b=some u)(heo:∃ u,h'.get? e=some u)
  (new:cJ X.prog X.w (aX H x o) h' x o):bD X pins σ (aX H x o) { s with heap:=h',toks:=t' }:=I.un (Un.write mu he k heo) (I.hok.write mu he k heo new)
theorem bD.pins_of {pins':List (Addr×Obj)}(I:bD X pins σ H s)(h:∀ p∈pins',s.heap.get? p.1=some p.2/\H p.1=none/\p.1≠X.env.locals/\p.1∉X.fs/\∀ v,p.2.data≠.cell v):bD X pins' σ H s :=
 ⟨I.ok,I.os,I.bare,I.base,I.loc,I.cell,I.free,I.freeC,fun p hp=>(aLO.mp hp).elim (fun z=>I.pin p (aL9 _ z)) (h p),I.hok,I.len⟩
theorem El {N:List Str}(hN:N.Nodup){i j:Nat}{x:Str}(a:N[i]? = some x)(b:N[j]? = some x):i=j:=by
 obtain ⟨h1,e1⟩:=aLE.mp a;obtain ⟨h2,e2⟩:=aLE.mp b;exact (List.getElem_inj hN).mp (e1.trans e2.symm)
theorem yL {M:Model}{A:Around}{E:Value->Shared->Prop}{i:Nat}{x:Str}{v:V}{u:Value}{Q:Unit->Shared->Prop}(I:bD X pins σ H s)(hN:X.N.Nodup)(hi:X.N[i]? = some x)(hx:Loc X.env.scope x)(r:RelV v u)
  (h:∀ s',bD X pins (σ.set i (some v)) H s'->(∃ a,aMa a s.heap s'.heap/\(a=X.env.locals∨X.env.cells.lookup x=some a))->Q () s') (hf:X.fn x=true∨X.env.scope.names.lookup x=some .local:=by first | exact .inl rfl | exact .inr rfl | assumption):wpAny M A (storeName X.env x u) Q E s:=by
 obtain ⟨m,hn,hl⟩:=id I.loc;have hcls:(X.env.scope.kind==.class||(X.env.scope.kind==.module&&X.env.locals != X.env.globals))=false:=by rw [I.ok.kind]; rfl
 have hiσ:i < σ.length:=by rw [I.len]; exact (aLE.mp hi).1
 have cne:=I.cne;have tracked:∀ {a:Addr}{h':Heap},(∃ o,s.heap.get? a=some o/\H a=none)->aMa a s.heap h'->nW X.prog X.w H h':=fun {a h'} ha hs b ob e=>by
  obtain ⟨_,_,hfree⟩:=ha;refine (I.hok b ob e).stay (fun c w' hc q=>(hs.2 c ?_).trans q) (fun _ q=>q) fun _ _ q=>q;rintro rfl;rcases hc with rfl | hc
  ·rw [hfree] at e; cases e
  ·rw [hfree] at hc; cases hc
 rcases hx with hk | hk
 ·refine wpAny_storeName_local hk hn (fun h' hn' hs=>?_) hcls;obtain ⟨oL,_,_,hoL,_⟩:=id hn;refine h _ ⟨I.ok,I.os,I.bare,⟨fun b o e n hb hx=>?_,fun b o e n hb hx=>?_,I.base.free,fun b o e hx=>?_,I.base.tups,I.base.frzs,I.base.tbls⟩,⟨_,hn',fun j y v' e1 e2 e3=>?_⟩,fun y c e=>?_,I.free,I.freeC,fun p hp=>?_,tracked ⟨oL,hoL,I.free⟩ hs,by simpa using I.len⟩ ⟨_,hs,.inl rfl⟩
  ·exact (hs.2 b (aLR (aLS (aLC e) I.ok.above))).trans (I.base.keep b o e n hb hx)
  ·obtain ⟨sl,e1⟩:=I.base.slot b o e n hb hx;exact ⟨sl,(hs.2 b (aLR (aLS (aLC e) I.ok.above))).trans e1⟩
  ·obtain ⟨o',e1⟩:=I.base.there b o e hx;exact ⟨o',(hs.2 b (aLR (aLS (aLC e) I.ok.above))).trans e1⟩
  ·by_cases hj:j=i
   ·subst hj;rw [hi] at e1; cases e1;rw [aNJ hiσ] at e2;cases e2;exact ⟨u,r,.inl ⟨hk,by simp⟩⟩
   ·rw [aNU (Ne.symm hj)] at e2;obtain ⟨u',r',q⟩:=hl j y v' e1 e2 e3;refine ⟨u',r',?_⟩;rcases q with ⟨k,e⟩ | ⟨k,c,e,z⟩
    ·refine .inl ⟨k,?_⟩;have:y≠x:=fun e=>hj (El hN e1 (e ▸ hi));simp [this,e]
    ·exact .inr ⟨k,c,e,z.sameBut hs (cne y c e)⟩
  ·obtain ⟨w',z⟩:=I.cell y c e;exact ⟨w',z.sameBut hs (cne y c e)⟩
  ·obtain ⟨e,n,ne,nf,d⟩:=I.pin p hp;exact ⟨(hs.2 p.1 ne).trans e,n,ne,nf,d⟩
 ·have hfn:X.fn x=true:=by
   rcases hf with z | z
   ·exact z
   ·rw [z] at hk; cases hk
  obtain ⟨c,hc⟩:=I.ok.has x (.inl hk);obtain ⟨w',z⟩:=I.cell x c hc;refine wpAny_storeName_cell I.ok.kind hk hc z (fun h' hc' hs=>?_);obtain ⟨oc,hoc,hocd⟩:=id z;refine h { s with heap:=h' } ⟨I.ok,I.os,I.bare,⟨fun b o e n hb hx=>?_,fun b o e n hb hx=>?_,I.base.free,fun b o e hx=>?_,I.base.tups,I.base.frzs,I.base.tbls⟩,⟨m,hn.sameBut hs (Ne.symm (cne x c hc)),fun j y v' e1 e2 e3=>?_⟩,fun y c' e=>?_,I.free,I.freeC,fun p hp=>?_,tracked ⟨oc,hoc,I.freeC x c hc⟩ hs,by simpa using I.len⟩ ⟨c,hs,.inr hc⟩
  ·exact (hs.2 b (aLR (aLS (aLC e) (I.ok.cab x c hfn hc)))).trans (I.base.keep b o e n hb hx)
  ·obtain ⟨sl,e1⟩:=I.base.slot b o e n hb hx;exact ⟨sl,(hs.2 b (aLR (aLS (aLC e) (I.ok.cab x c hfn hc)))).trans e1⟩
  ·obtain ⟨o',e1⟩:=I.base.there b o e hx;exact ⟨o',(hs.2 b (aLR (aLS (aLC e) (I.ok.cab x c hfn hc)))).trans e1⟩
  ·by_cases hj:j=i
   ·subst hj;rw [hi] at e1; cases e1;rw [aNJ hiσ] at e2;cases e2;exact ⟨u,r,.inr ⟨.inl hk,c,hc,hc'⟩⟩
   ·rw [aNU (Ne.symm hj)] at e2;obtain ⟨u',r',q⟩:=hl j y v' e1 e2 e3;refine ⟨u',r',?_⟩;rcases q with q | ⟨k,c',e,z'⟩
    ·exact .inl q
    ·refine .inr ⟨k,c',e,z'.sameBut hs ?_⟩;rintro rfl;exact hj (El hN e1 (I.ok.inj _ _ _ e hc ▸ hi))
  ·by_cases hcc:c'=c
   ·subst hcc; exact ⟨_,hc'⟩
   ·obtain ⟨w2,z2⟩:=I.cell y c' e;exact ⟨w2,z2.sameBut hs hcc⟩
  ·obtain ⟨e,n,ne,nf,d⟩:=I.pin p hp;refine ⟨(hs.2 p.1 ?_).trans e,n,ne,nf,d⟩;intro q;rw [q,hoc] at e;have q':oc=p.2:=aMq.inj e;exact d w' (by rw [<- q']; exact hocd)
theorem pX {M:Model}{A:Around}{E:Value->Shared->Prop}{i:Nat}{x:Str}{v:V}{u:Value}{Q:Unit->Shared->Prop}(I:bD X pins σ H s)(hN:X.N.Nodup)(hi:X.N[i]? = some x)(hx:Loc X.env.scope x)(r:RelV v u)
  (h:∀ s',bD X pins (σ.set i (some v)) H s'->Q () s') (hf:X.fn x=true∨X.env.scope.names.lookup x=some .local:=by first | exact .inl rfl | exact .inr rfl | assumption):wpAny M A (storeName X.env x u) Q E s :=
 yL I hN hi hx r (fun s' I' _=>h s' I') hf
theorem bD.call' {s':Shared}{ch:List Addr}(I:bD X pins σ H s)(ho:s'.os=s.os)(u:Un (rG X.stack) ch H H' s.heap s'.heap)(hok:nW X.prog X.w H' s'.heap)(hg:AllBare s'.gens)
  (hch:∀ b∈ch,(b∈X.ex∨X.s₀.heap.objs.size<=b)/\b≠X.env.locals/\(∀ x c,X.env.cells.lookup x=some c->c≠b)/\∀ p∈X.pn++pins,p.1≠b):bD X pins σ H' s':=by
 obtain ⟨h',g',d',t',o'⟩:=s';have e:o'=s.os:=ho;subst e;exact I.call (g':=g') (t':=t') (d':=d') u hok hg hch
end
abbrev XK:=Value->Option Addr->Hp->Prop
abbrev St:=List (Option V)
abbrev VK:=V->Hp->Prop
abbrev TE:=St->Hp->VK->Prop
abbrev TT:=St->Hp->(Bool->Hp->Prop)->Prop
abbrev TA:=St->Hp->(List V->Hp->Prop)->Prop
structure Ends where
 nx:St->Hp->Prop
 rt:VK
 bk:St->Hp->Prop:=fun _ _=>False
 ct:St->Hp->Prop:=fun _ _=>False
abbrev TS:=Ends->St->Hp->Prop
def EP (X:Cx)(pins:List (Addr×Obj))(σ:St)(Q:VK)(u:Value)(s':Shared):Prop:=∃ v H',bD X pins σ H' s'/\RelV v u/\Q v H'
def TP (X:Cx)(pins:List (Addr×Obj))(σ:St)(Q:Bool->Hp->Prop)(b:Bool)(s':Shared):Prop:=∃ H',bD X pins σ H' s'/\Q b H'
def AP (X:Cx)(pins:List (Addr×Obj))(σ:St)(Q:List V->Hp->Prop)(us:List Value)(s':Shared):Prop:=∃ vs H',bD X pins σ H' s'/\b8 vs us/\Q vs H'
def SP (X:Cx)(pins:List (Addr×Obj))(D:Ends)(f:Flow)(s':Shared):Prop :=
 match f with
 | .next=>∃ σ' H',bD X pins σ' H' s'/\D.nx σ' H'
 | .brk=>∃ σ' H',bD X pins σ' H' s'/\D.bk σ' H'
 | .cont=>∃ σ' H',bD X pins σ' H' s'/\D.ct σ' H'
 | .ret u=>∃ v σ' H',bD X pins σ' H' s'/\RelV v u/\D.rt v H'
def PE (X:Cx)(e:Expr)(t:TE):Prop :=
 ∀ (pins:List (Addr×Obj)) (s:Shared) (σ:St) (H:Hp) (Q:VK),bD X pins σ H s->t σ H Q->wpAny (model X.prog X.w) X.A (eval e X.env) (EP X pins σ Q) X.xe s
def PT (X:Cx)(e:Expr)(t:TT):Prop :=
 ∀ (pins:List (Addr×Obj)) (s:Shared) (σ:St) (H:Hp) (Q:Bool->Hp->Prop),bD X pins σ H s->t σ H Q->wpAny (model X.prog X.w) X.A (isTrue e X.env (eval e X.env)) (TP X pins σ Q) X.xe s
def PW (X:Cx)(e:Expr)(t:TT):Prop :=
 ∀ (whole:Sem Value) (pins:List (Addr×Obj)) (s:Shared) (σ:St) (H:Hp) (Q:Bool->Hp->Prop),bD X pins σ H s->t σ H Q->wpAny (model X.prog X.w) X.A (isTrue e X.env whole) (TP X pins σ Q) X.xe s
theorem PW.pt {X:Cx}{e:Expr}{t:TT}(h:PW X e t):PT X e t:=h _
def PA (X:Cx)(es:List Expr)(t:TA):Prop :=
 ∀ (pos:Pos) (pins:List (Addr×Obj)) (s:Shared) (σ:St) (H:Hp) (Q:List V->Hp->Prop),bD X pins σ H s->t σ H Q->wpAny (model X.prog X.w) X.A (spliced (backTo pos (starEach es X.env))) (AP X pins σ Q) X.xe s
def PS (X:Cx)(st:Stmt)(t:TS):Prop :=
 ∀ (pins:List (Addr×Obj)) (s:Shared) (σ:St) (H:Hp) (D:Ends),bD X pins σ H s->t D σ H->wpAny (model X.prog X.w) X.A (exec st X.env) (SP X pins D) X.xe s
def CG (X:Cx)(st:List Stmt)(t:TS):Prop :=
 ∀ (pins:List (Addr×Obj)) (s:Shared) (σ:St) (H:Hp) (D:Ends),bD X pins σ H s->t D σ H->wpAny (model X.prog X.w) X.A (execs st X.env) (SP X pins D) X.xe s
theorem d7 {α:Type}{t:Sem α}{Q Q':α->Shared->Prop}{M:Model}{A:Around}{E:Value->Shared->Prop}{s:Shared}(h:wpAny M A t Q E s)(hQ:∀ a s,Q a s->Q' a s):wpAny M A t Q' E s:=wpAny_mono h hQ fun _ _ x=>x
section
variable {X:Cx}
theorem bin {a b:Expr}{ta tb:TE}(ha:PE X a ta)(hb:PE X b tb){pins:List (Addr×Obj)}{s:Shared}{σ:St}{H:Hp}{R:V->V->Hp->Prop}(I:bD X pins σ H s)(h:ta σ H fun x H1=>tb σ H1 fun y H2=>R x y H2)
  {α:Type}{Q:α->Shared->Prop}{f:Value->Value->Sem α}
  (hf:∀ v u s2 x y H2,bD X pins σ H2 s2->RelV x v->RelV y u->R x y H2->wpAny (model X.prog X.w) X.A (f v u) Q X.xe s2) :
  wpAny (model X.prog X.w) X.A (eval a X.env) (fun v s₁=>wpAny (model X.prog X.w) X.A (eval b X.env) (fun u s₂=>wpAny (model X.prog X.w) X.A (f v u) Q X.xe s₂) X.xe s₁) X.xe s:=by
 refine d7 (ha pins s σ H _ I h) fun v s1 ⟨x,H1,I1,r1,q1⟩=>?_;refine d7 (hb pins s1 σ H1 _ I1 q1) fun u s2 ⟨y,H2,I2,r2,q2⟩=>?_;exact hf v u s2 x y H2 I2 r1 r2 q2
def J5 (i:Nat):TE:=fun σ H Q=>∃ v,σ[i]? = some (some v)/\Q v H
def tC (v:V):TE:=fun _ H Q=>Q v H
theorem Mh {i:Nat}{x:Str}{pos:Pos}(hN:X.N[i]? = some x)(hv:Vis X.env.scope x)(hd:(x==("__debug__" : Str))=false:=by decide)(hcd:(x==("__classdict__" : Str))=false:=by decide):PE X (.Name x pos) (J5 i):=by
 intro pins s σ H Q I h;obtain ⟨v,e,h⟩:=h;obtain ⟨m,hn,hl⟩:=I.loc;obtain ⟨u,r,l⟩:=hl i x v hN e hv;have fin:EP X pins σ Q u s:=⟨v,H,I,r,h⟩
 rcases l with ⟨hk,hm⟩ | ⟨hk,c,hc,hcell⟩
 ·exact wpAny_Name (wpAny_loadName_local I.ok.kind hk hn hm fin) hd
 ·rcases hk with hk | hk
  ·exact wpAny_Name (wpAny_loadName_cell I.ok.kind hk hc hcell fin) hd
  ·exact wpAny_Name (wpAny_loadName_free I.ok.kind hk hc hcell fin hcd) hd
theorem aJ {i j pos}:PE X (.Constant (.int i) j pos) (tC (.int i)):=fun _ _ _ H _ I h=>wpAny_Constant_int ⟨.int i,H,I.tok _,⟨_,rfl⟩,h⟩
theorem iH {b j pos}:PE X (.Constant (.bool b) j pos) (tC (.bl b)):=fun _ _ _ H _ I h=>Constant_bool ⟨.bl b,H,I,rfl,h⟩
theorem mV {j pos}:PE X (.Constant .none j pos) (tC .non):=fun _ _ _ H _ I h=>Constant_none ⟨.non,H,I,rfl,h⟩
theorem oY {x j pos}:PE X (.Constant (.str x) j pos) (tC (.str x)):=fun _ _ _ H _ I h=>Calls.Constant_str ⟨.str x,H,I.tok _,⟨_,rfl⟩,h⟩
def Gl (X:Cx)(x:Str):Prop:=X.env.kindOf x=some .globalImplicit
theorem qO {E:Value->Shared->Prop}{pins:List (Addr×Obj)}{s:Shared}{σ:St}{H:Hp}{x:Str}{u:Value}{pos:Pos}{Q:Value->Shared->Prop}(I:bD X pins σ H s)(hg:Gl X x)(hm:X.mg x=some u)(h:Q u s)
  (hd:(x==("__debug__" : Str))=false:=by decide):wpAny (model X.prog X.w) X.A (eval (.Name x pos) X.env) Q E s :=
 Calls.Name_function_global I.ok.kind hg (Calls.loadGlobal_global (by rw [I.ok.glob]; exact I.mod.glob.keeps I.bk) hm h) hd
theorem mY {E:Value->Shared->Prop}{pins:List (Addr×Obj)}{s:Shared}{σ:St}{H:Hp}{x:Str}{u:Value}{pos:Pos}{Q:Value->Shared->Prop}(I:bD X pins σ H s)(hg:Gl X x)(hm:X.mg x=none)(hv:bootBuiltins x=some u)(h:Q u s)
  (hn:x≠"__name__":=by decide) (hd:(x==("__debug__" : Str))=false:=by decide):wpAny (model X.prog X.w) X.A (eval (.Name x pos) X.env) Q E s:=by
 obtain ⟨mb,h1,h2⟩:=I.mod.blt;exact Calls.Name_function_global I.ok.kind hg (Calls.loadGlobal_builtin (by rw [I.ok.glob]; exact I.mod.glob.keeps I.bk) hm (by rw [I.ok.blt]; exact h1.keeps I.bk) ((h2 x hn).trans hv) h) hd
theorem cN {x:Str}{v:V}{u:Value}{pos:Pos}(hg:Gl X x)(hm:X.mg x=some u)(r:RelV v u)(hd:(x==("__debug__" : Str))=false:=by decide):PE X (.Name x pos) (tC v) :=
 fun _ _ _ H _ I h=>qO I hg hm ⟨v,H,I,r,h⟩ hd
theorem eF {x:Str}{v:V}{u:Value}{pos:Pos}(hg:Gl X x)(hm:X.mg x=none)(hv:bootBuiltins x=some u)(r:RelV v u)(hn:x≠"__name__":=by decide)(hd:(x==("__debug__" : Str))=false:=by decide):PE X (.Name x pos) (tC v) :=
 fun _ _ _ H _ I h=>mY I hg hm hv ⟨v,H,I,r,h⟩ hn hd
variable {a b:Expr}{ta tb:TE}{pos:Pos}
def PC (X:Cx)(op:CmpOp)(a b:Expr)(t:TE):Prop :=
 ∀ (pins:List (Addr×Obj)) (s:Shared) (σ:St) (H:Hp) (Q:VK),bD X pins σ H s->t σ H Q ->
  wpAny (model X.prog X.w) X.A (eval a X.env) (fun v s₁=>wpAny (model X.prog X.w) X.A (eval b X.env) (fun u s₂=>wpAny (model X.prog X.w) X.A (compareOp op v u) (EP X pins σ Q) X.xe s₂) X.xe s₁) X.xe s
theorem Nb (b:Expr){op:CmpOp}(h:op≠.In)(h2:op≠.NotIn):behindInMarks op b=false:=by
 have e1:(op==CmpOp.In)=false:=by cases op <;> first | rfl | exact absurd rfl h
 have e2:(op==CmpOp.NotIn)=false:=by cases op <;> first | rfl | exact absurd rfl h2
 cases b <;> simp [behindInMarks,e1,e2]
def tB (t:TE):TT:=fun σ H Q=>t σ H fun x H1=>∃ c,x=.bl c/\Q c H1
theorem aCU {op:CmpOp}{t:TE}(h:PC X op a b t)(h1:behindInMarks op b=false:=by first | exact Nb _ (by decide) (by decide) | rfl):PT X (.Compare a [op] [b] pos) (tB t):=by
 intro pins s σ H Q I hw;refine wpAny_isTrue_Compare1 (d7 (h pins s σ H _ I hw) fun v s1 h1=>d7 h1 fun u s2 h2=>d7 h2 fun c s3 ⟨x,H1,I1,r1,q1⟩=>?_) h1;obtain ⟨d,rfl,q⟩:=q1;cases r1;exact wpAny_truthy_bool ⟨H1,I1,q⟩
theorem bW {e:Expr}{t:TE}(h:PE X e t)(he:∀ whole,isTrue e X.env whole=(do let v <- whole; standAt e.pos; holding [v] (truthy v)):=by intro _; rfl):PT X e (tB t):=by
 intro pins s σ H Q I hw;refine isTrue_plain (d7 (h pins s σ H _ I hw) fun v s1 ⟨x,H1,I1,r1,q1⟩=>?_) (he _);obtain ⟨d,rfl,q⟩:=q1;cases r1;exact wpAny_truthy_bool ⟨H1,I1,q⟩
variable {tA tB':TT}{rest:List Expr}
def aCi (t u:TT):TT:=fun σ H Q=>t σ H fun c H1=>if c=true then u σ H1 Q else Q false H1
def tOr (t u:TT):TT:=fun σ H Q=>t σ H fun c H1=>if c=true then Q true H1 else u σ H1 Q
def aE9 (t:TT):TT:=fun σ H Q=>t σ H fun c H1=>Q (!c) H1
theorem Av (ha:PT X a tA):PW X (.BoolOp .And [a] pos) tA:=by
 intro wh pins s σ H Q I h;refine isTrue_and (d7 (ha pins s σ H Q I h) fun c s1 e=>?_);cases c with
 | true=>exact isTrue_and_nil e
 | false=>exact e
theorem j8 (ha:PT X a tA):PW X (.BoolOp .Or [a] pos) tA:=by
 intro wh pins s σ H Q I h;refine isTrue_or (d7 (ha pins s σ H Q I h) fun c s1 e=>?_);cases c with
 | false=>exact isTrue_or_nil e
 | true=>exact e
theorem GQ (ha:PT X a tA)(hb:PW X (.BoolOp .And (b::rest) pos) tB'):PW X (.BoolOp .And (a::b::rest) pos) (aCi tA tB'):=by
 intro wh pins s σ H Q I h;refine isTrue_and (d7 (ha pins s σ H _ I h) fun c s1 ⟨H1,I1,q1⟩=>?_);cases c with
 | true=>exact hb wh pins s1 σ H1 Q I1 q1
 | false=>exact ⟨H1,I1,q1⟩
theorem mU (ha:PT X a tA)(hb:PW X (.BoolOp .Or (b::rest) pos) tB'):PW X (.BoolOp .Or (a::b::rest) pos) (tOr tA tB'):=by
 intro wh pins s σ H Q I h;refine isTrue_or (d7 (ha pins s σ H _ I h) fun c s1 ⟨H1,I1,q1⟩=>?_);cases c with
 | true=>exact ⟨H1,I1,q1⟩
 | false=>exact hb wh pins s1 σ H1 Q I1 q1
theorem cW (ha:PT X a tA):PT X (.UnaryOp .Not a pos) (aE9 tA):=by
 intro pins s σ H Q I h;exact isTrue_not (ha pins s σ H (fun c H1=>Q (!c) H1) I h)
def aAd (ta tb:TE):TE:=fun σ H Q=>ta σ H fun x H1=>∃ c,x=.bl c/\if c=true then tb σ H1 Q else Q (.bl false) H1
def aFt (ta tb:TE):TE:=fun σ H Q=>ta σ H fun x H1=>∃ c,x=.bl c/\if c=true then Q (.bl true) H1 else tb σ H1 Q
def W5 (ta:TE):TE:=fun σ H Q=>ta σ H fun x H1=>∃ c,x=.bl c/\Q (.bl (!c)) H1
theorem oZ {op}{t:TE}(h:PE X a t):PE X (.BoolOp op [a] pos) t:=fun pins s σ H Q I hw=>BoolOp_one (h pins s σ H Q I hw)
theorem qZ (ha:PE X a ta)(hb:PE X (.BoolOp .And (b::rest) pos) tb):PE X (.BoolOp .And (a::b::rest) pos) (aAd ta tb):=by
 intro pins s σ H Q I h;refine BoolOp_and (d7 (ha pins s σ H _ I h) fun v s1 ⟨x,H1,I1,r1,q1⟩=>?_);obtain ⟨c,rfl,q1⟩:=q1;cases r1;refine wpAny_truthy_bool ?_;cases c with
 | true=>exact hb pins s1 σ H1 Q I1 q1
 | false=>exact ⟨.bl false,H1,I1,rfl,q1⟩
theorem Lh (ha:PE X a ta)(hb:PE X (.BoolOp .Or (b::rest) pos) tb):PE X (.BoolOp .Or (a::b::rest) pos) (aFt ta tb):=by
 intro pins s σ H Q I h;refine BoolOp_or (d7 (ha pins s σ H _ I h) fun v s1 ⟨x,H1,I1,r1,q1⟩=>?_);obtain ⟨c,rfl,q1⟩:=q1;cases r1;refine wpAny_truthy_bool ?_;cases c with
 | false=>exact hb pins s1 σ H1 Q I1 q1
 | true=>exact ⟨.bl true,H1,I1,rfl,q1⟩
theorem Gg (ha:PE X a ta):PE X (.UnaryOp .Not a pos) (W5 ta):=by
 intro pins s σ H Q I h;refine UnaryOp_ (d7 (ha pins s σ H _ I h) fun v s1 ⟨x,H1,I1,r1,q1⟩=>?_);obtain ⟨c,rfl,q1⟩:=q1;cases r1;exact not_of (wpAny_truthy_bool ⟨.bl (!c),H1,I1,rfl,q1⟩)
def tIf (t:TT)(ta tb:TE):TE:=fun σ H Q=>t σ H fun c H1=>if c=true then ta σ H1 Q else tb σ H1 Q
theorem wQ {c:Expr}(hc:PT X c tA)(ha:PE X a ta)(hb:PE X b tb):PE X (.IfExp c a b pos) (tIf tA ta tb):=by
 intro pins s σ H Q I h;refine wpAny_IfExp (d7 (hc pins s σ H _ I h) fun d s1 ⟨H1,I1,q1⟩=>?_);cases d with
 | true=>exact ha pins s1 σ H1 Q I1 q1
 | false=>exact hb pins s1 σ H1 Q I1 q1
end
def bK (K:PySem.W.Frag)(H:Hp)(a:Addr)(xs:List V):Prop :=
 Rd H a (.lst xs) ∨
  ∃ (o:Obj) (its:Array Value) (n:Nat),K.lookup a=some o/\o.cls=.type "list"/\o.dict=none/\o.data=.seq its n/\its.size<=sizeLine/\b8 xs its.toList
def cY (K:PySem.W.Frag)(H:Hp)(a:Addr)(xs:List V):Prop :=
 Rd H a (.tup xs) ∨
  ∃ (o:Obj) (its:Array Value) (n:Nat),K.lookup a=some o/\o.cls=.type "tuple"/\o.data=.seq its n/\its.size<=sizeLine/\b8 xs its.toList
def aCF:Value->Option V
 | .none=>some .non
 | .bool b=>some (.bl b)
 | .int i _=>some (.int i)
 | .str x _=>some (.str x)
 | .bytes b _=>some (.byt b)
 | .float b _=>some (.flt b)
 | .ref a=>some (.ref a)
 | .type n=>some (.ty n)
 | _=>none
theorem RelV.abs {x:V}{u:Value}(r:RelV x u):aCF u=some x:=by
 cases x with
 | non=>cases r; rfl
 | bl _=>cases r; rfl
 | int _=>obtain ⟨t,rfl⟩:=r; rfl
 | str _=>obtain ⟨t,rfl⟩:=r; rfl
 | byt _=>obtain ⟨t,rfl⟩:=r; rfl
 | flt _=>obtain ⟨t,rfl⟩:=r; rfl
 | ref _=>cases r; rfl
 | ty _=>cases r; rfl
theorem RelV.inj {x y:V}{u:Value}(r:RelV x u)(q:RelV y u):x=y:=aMq.inj (r.abs.symm.trans q.abs)
theorem b8.inj:∀ {xs ys:List V}{us:List Value},b8 xs us->b8 ys us->xs=ys
 | _,_,_,.nil,.nil=>rfl
 | _,_,_,.cons r t,.cons r' t'=>by rw [r.inj r',b8.inj t t']
section
variable {X:Cx}{pins:List (Addr×Obj)}{σ:St}{H:Hp}{s:Shared}{a:Addr}{xs ys:List V}
theorem bK.of {K:PySem.W.Frag}(h:H a=some (.lst xs)):bK K H a xs:=.inl (.inl h)
theorem cY.of {K:PySem.W.Frag}(h:H a=some (.tup xs)):cY K H a xs:=.inl (.inl h)
theorem bD.list (I:bD X pins σ H s)(h:bK X.K H a xs):∃ its:List Value,b8 xs its/\PlainL s.heap a its.toArray/\xs.length<=sizeLine:=by
 rcases h with h | ⟨o,its,n,hk,hc,hd,hs,hz,r⟩
 ·obtain ⟨z,its,n,r,e⟩:=h.ok I.hok;exact ⟨its,r,⟨_,n,e,rfl,rfl,rfl⟩,z⟩
 ·refine ⟨its.toList,r,⟨o,n,I.kIn a o hk,hc,hd,by simpa using hs⟩,?_⟩;have e:=r.length;simp only [aL5] at e;omega
theorem bD.tuple (I:bD X pins σ H s)(h:cY X.K H a xs):∃ its:List Value,b8 xs its/\IsTup s.heap a its.toArray/\xs.length<=sizeLine:=by
 rcases h with h | ⟨o,its,n,hk,hc,hs,hz,r⟩
 ·obtain ⟨z,its,r,p⟩:=h.ok I.hok;exact ⟨its,r,p,z⟩
 ·refine ⟨its.toList,r,⟨o,I.kIn a o hk,hc,n,by simpa using hs⟩,?_⟩;have e:=r.length;simp only [aL5] at e;omega
theorem bD.list_inj (I:bD X pins σ H s)(h:bK X.K H a xs)(h':bK X.K H a ys):xs=ys:=by
 obtain ⟨its,r,⟨o,n,e,_,_,d⟩,_⟩:=I.list h;obtain ⟨its',r',⟨o',n',e',_,_,d'⟩,_⟩:=I.list h';rw [e] at e'; cases e';rw [d] at d';injection d' with d1 _
 have:its=its':=by simpa using congrArg Array.toList d1
 subst this;exact r.inj r'
theorem bD.tuple_inj (I:bD X pins σ H s)(h:cY X.K H a xs)(h':cY X.K H a ys):xs=ys:=by
 obtain ⟨its,r,⟨o,e,_,n,d⟩,_⟩:=I.tuple h;obtain ⟨its',r',⟨o',e',_,n',d'⟩,_⟩:=I.tuple h';rw [e] at e'; cases e';rw [d] at d';injection d' with d1 _
 have:its=its':=by simpa using congrArg Array.toList d1
 subst this;exact r.inj r'
end
abbrev Cx.wish (X:Cx)(E:Value->Shared->Prop):Cx:={ X with xe:=E }
abbrev Cx.nox (X:Cx):Cx:=X.wish fun _ _=>False
theorem Cx.Ok.wish {X:Cx}(ok:X.Ok)(E:Value->Shared->Prop):(X.wish E).Ok :=
 ⟨ok.mod,ok.kind,ok.glob,ok.blt,ok.above,ok.inj,ok.has,ok.cab,ok.hd,ok.frames,ok.stk,ok.exf,ok.bs,ok.bsz,ok.noex,ok.exfs,ok.funs,ok.frf⟩
theorem Cx.Ok.unwish {X:Cx}{E:Value->Shared->Prop}(ok:(X.wish E).Ok):X.Ok :=
 ⟨ok.mod,ok.kind,ok.glob,ok.blt,ok.above,ok.inj,ok.has,ok.cab,ok.hd,ok.frames,ok.stk,ok.exf,ok.bs,ok.bsz,ok.noex,ok.exfs,ok.funs,ok.frf⟩
section
variable {X:Cx}{pins:List (Addr×Obj)}{σ:St}{H:Hp}{s:Shared}{E:Value->Shared->Prop}
theorem bD.wish (I:bD X pins σ H s)(E:Value->Shared->Prop):bD (X.wish E) pins σ H s:=⟨I.ok.wish E,I.os,I.bare,I.base,I.loc,I.cell,I.free,I.freeC,I.pin,I.hok,I.len⟩
theorem bD.unwish (I:bD (X.wish E) pins σ H s):bD X pins σ H s:=⟨I.ok.unwish,I.os,I.bare,I.base,I.loc,I.cell,I.free,I.freeC,I.pin,I.hok,I.len⟩
theorem SP.unwish {D:Ends}{f:Flow}{s':Shared}(h:SP (X.wish E) pins D f s'):SP X pins D f s':=by
 cases f with
 | next=>obtain ⟨σ',H',I,q⟩:=h; exact ⟨σ',H',I.unwish,q⟩
 | brk=>obtain ⟨σ',H',I,q⟩:=h; exact ⟨σ',H',I.unwish,q⟩
 | cont=>obtain ⟨σ',H',I,q⟩:=h; exact ⟨σ',H',I.unwish,q⟩
 | ret u=>obtain ⟨v,σ',H',I,r,q⟩:=h; exact ⟨v,σ',H',I.unwish,r,q⟩
theorem PT.nox {e:Expr}{t:TT}(h:PT X.nox e t):PT X e t:=fun pins s σ H Q I hw =>
 wpAny_mono (h pins s σ H Q (I.wish _) hw) (fun _ _ ⟨H',I',q⟩=>⟨H',I'.unwish,q⟩) fun _ _ z=>False.elim z
theorem CG.nox {st:List Stmt}{t:TS}(h:CG X.nox st t):CG X st t:=fun pins s σ H D I hw =>
 wpAny_mono (h pins s σ H D (I.wish _) hw) (fun _ _ q=>q.unwish) fun _ _ z=>False.elim z
end
section
variable {X:Cx}{st:Stmt}{rest:List Stmt}{t u:TS}{e:Expr}{te:TE}{pos:Pos}
def VL:TS:=fun D σ H=>D.nx σ H
def aDJ (t u:TS):TS:=fun D σ H=>t { D with nx:=u D } σ H
theorem bJ:CG X [] VL:=fun _ _ σ H _ I h=>wpAny_execs_nil ⟨σ,H,I,h⟩
theorem aF (h1:PS X st t)(h2:CG X rest u):CG X (st::rest) (aDJ t u):=by
 intro pins s σ H D I h;refine wpAny_execs_cons (d7 (h1 pins s σ H { D with nx:=u D } I h) fun f s1 q=>?_);cases f with
 | next =>
  obtain ⟨σ',H',I',q⟩:=q;exact h2 pins s1 σ' H' D I' q
 | ret v=>exact q
 | brk=>exact q
 | cont=>exact q
theorem aG (h1:PS X st t):CG X [st] t:=by
 intro pins s σ H D I h;refine wpAny_execs_cons (d7 (h1 pins s σ H D I h) fun f s1 q=>?_);cases f with
 | next=>exact wpAny_execs_nil q
 | ret v=>exact q
 | brk=>exact q
 | cont=>exact q
def Ui:TS:=fun D σ H=>D.bk σ H
theorem K7:PS X (.Break pos) Ui:=fun _ _ σ H _ I h=>wpAny_Break ⟨σ,H,I,h⟩
theorem bD.quiet {pins:List (Addr×Obj)}{σ:St}{H:Hp}{s:Shared}(I:bD X pins σ H s):interactive X.env=false:=by simp [interactive,I.ok.kind]
def Ye (te:TE):TS:=fun D σ H=>te σ H fun _ H1=>D.nx σ H1
theorem fL (he:PE X e te)(hs:swapsWith e none pos.line X.env=pure false:=by rfl):PS X (.Expr e pos) (Ye te):=by
 intro pins s σ H D I h;exact wpAny_Expr_any (d7 (he pins s σ H _ I h) fun v s1 ⟨x,H1,I1,r1,q1⟩=>⟨σ,H1,I1,q1⟩) I.quiet hs
def Z9 (te:TE):TS:=fun D σ H=>te σ H D.rt
theorem aV (he:PE X e te):PS X (.Return (some e) pos) (Z9 te):=by
 intro pins s σ H D I h;exact wpAny_Return_some (d7 (he pins s σ H _ I h) fun v s1 ⟨x,H1,I1,r1,q1⟩=>⟨x,σ,H1,I1,r1,q1⟩)
def aFd (c:TT)(t u:TS):TS:=fun D σ H=>c σ H fun b H1=>if b=true then t D σ H1 else u D σ H1
theorem cL {c:Expr}{a b:List Stmt}{tc:TT}(hc:PT X c tc)(ha:CG X a t)(hb:CG X b u):PS X (.If c a b pos) (aFd tc t u):=by
 intro pins s σ H D I h;refine wpAny_If (d7 (hc pins s σ H _ I h) fun d s1 ⟨H1,I1,q1⟩=>?_);cases d with
 | true=>exact ha pins s1 σ H1 D I1 q1
 | false=>exact hb pins s1 σ H1 D I1 q1
def Tr:TS:=fun _ _ _=>False
theorem kY:PS X st Tr:=fun _ _ _ _ _ _ h=>h.elim
end
abbrev TG:=V->St->Hp->(St->Hp->Prop)->Prop
abbrev RW:=List V->St->Hp->(St->Hp->Prop)->Prop
def PG (X:Cx)(target:Expr)(t:TG):Prop :=
 ∀ (pins:List (Addr×Obj)) (s:Shared) (σ:St) (H:Hp) (v:V) (u:Value) (Q:St->Hp->Prop),bD X pins σ H s->RelV v u->t v σ H Q ->
  wpAny (model X.prog X.w) X.A (assign target X.env u) (fun _ s'=>∃ σ' H',bD X pins σ' H' s'/\Q σ' H') X.xe s
def Yv (X:Cx)(ts:List Expr)(t:RW):Prop :=
 ∀ (pins:List (Addr×Obj)) (s:Shared) (σ:St) (H:Hp) (vs:List V) (us:List Value) (Q:St->Hp->Prop),bD X pins σ H s->b8 vs us->t vs σ H Q ->
  wpAny (model X.prog X.w) X.A (assignInOrder ((assignEach ts X.env).map (·.2)) us) (fun _ s'=>∃ σ' H',bD X pins σ' H' s'/\Q σ' H') X.xe s
section
variable {X:Cx}{pos:Pos}
def oO (i:Nat):TG:=fun v σ H Q=>Q (σ.set i (some v)) H
theorem aP {i:Nat}{x:Str}(hN:X.N.Nodup)(hi:X.N[i]? = some x)(hx:Loc X.env.scope x)(hf:X.fn x=true∨X.env.scope.names.lookup x=some .local:=by first | exact .inl rfl | exact .inr rfl | assumption):PG X (.Name x pos) (oO i):=by
 intro pins s σ H v u Q I r h;exact wpAny_assign_Name (pX I hN hi hx r (fun s' I'=>⟨_,H,I',h⟩) hf)
def aEq:RW:=fun vs σ H Q=>vs=[]/\Q σ H
def aBM (t:TG)(u:RW):RW:=fun vs σ H Q=>∃ v r,vs=v::r/\t v σ H fun σ' H'=>u r σ' H' Q
theorem dJ:Yv X [] aEq:=by
 intro pins s σ H vs us Q I r h;obtain ⟨e,h⟩:=h;subst e;cases r;exact assignInOrder_nil ⟨σ,H,I,h⟩
theorem bG {e:Expr}{es:List Expr}{t:TG}{u:RW}(h1:PG X e t)(h2:Yv X es u)
  (hs:(assignEach (e::es) X.env).map (·.2)=assign e X.env::(assignEach es X.env).map (·.2):=by rfl):Yv X (e::es) (aBM t u):=by
 intro pins s σ H vs us Q I r h;obtain ⟨v,vr,e1,h⟩:=h;subst e1;cases r with
 | cons r rr =>
  rw [hs];refine assignInOrder_cons (d7 (h1 pins s σ H _ _ _ I r h) fun _ s1 ⟨σ1,H1,I1,q1⟩=>?_);exact h2 pins s1 σ1 H1 _ _ Q I1 rr q1
def Y7 (K:PySem.W.Frag)(n:Nat)(t:RW):TG:=fun v σ H Q=>∃ a xs,v=.ref a/\cY K H a xs/\xs.length=n/\t xs σ H Q
theorem rK {es:List Expr}{k:Nat}{t:RW}{n:Nat}(hc:X.calm=true)(h:Yv X es t)
  (hn:(assignEach es X.env).length=n:=by rfl) (hst:(assignEach es X.env).findIdx? (·.1)=none:=by rfl):PG X (.Tuple es k pos) (Y7 X.K n t):=by
 intro pins s σ H v u Q I r hw;obtain ⟨a,xs,e1,hq,hl,hw⟩:=hw;subst e1;cases r;obtain ⟨its,rv,ht,hz⟩:=I.tuple hq;refine assign_Tuple_tuple (I.ok.hd hc) ht (by simp [hn,<- hl,rv.length]) hst fun h' hx=>?_;have I1:bD X pins σ H { s with heap:=h' }:=I.kept (t':=s.toks) fun b o e=>hx b o (aLR (aLC e)) e;exact h pins _ σ H xs _ Q I1 (by simpa using rv) hw
def Xp (te:TE)(g:TG):TS:=fun D σ H=>te σ H fun x H1=>g x σ H1 D.nx
theorem bC {i:Nat}{x:Str}{e:Expr}{te:TE}{pos':Pos}(hN:X.N.Nodup)(hi:X.N[i]? = some x)(hx:Loc X.env.scope x)(he:PE X e te)(hs:swapsWith e (some (.Name x pos')) pos.line X.env=pure false:=by rfl)(hf:X.fn x=true∨X.env.scope.names.lookup x=some .local:=by first | exact .inl rfl | exact .inr rfl | assumption) :
  PS X (.Assign [.Name x pos'] e pos) (Xp te (oO i)):=by
 intro pins s σ H D I h;refine wpAny_Assign_Name (d7 (he pins s σ H _ I h) fun v s1 ⟨y,H1,I1,r1,q1⟩=>?_) hs;exact pX I1 hN hi hx r1 (fun s2 I2=>⟨_,H1,I2,q1⟩) hf
def aFx (i j:Nat)(ta:TA):TS:=fun D σ H=>ta σ H fun vs H1=>∃ v w,vs=[v,w]/\D.nx ((σ.set i (some v)).set j (some w)) H1
theorem U9 {i j:Nat}{x y:Str}{a b:Expr}{ta:TA}{px py pt:Pos}{kt k2 pt2}(hc:X.calm=true)(hN:X.N.Nodup)(hi:X.N[i]? = some x)(hj:X.N[j]? = some y)(hij:i≠j)
  (hx:X.env.scope.names.lookup x=some .local) (hy:X.env.scope.names.lookup y=some .local) (ha:PA X [a,b] ta)
  (hw:swappedStores [.Tuple [.Name x px,.Name y py] kt pt] (.Tuple [a,b] k2 pt2) X.env=pure (some [x,y]))
  (hs:swapsWithSole [.Tuple [.Name x px,.Name y py] kt pt] (.Tuple [a,b] k2 pt2) pos.line X.env=pure false:=by rfl) :
  PS X (.Assign [.Tuple [.Name x px,.Name y py] kt pt] (.Tuple [a,b] k2 pt2) pos) (aFx i j ta):=by
 intro pins s σ H D I h;rw [exec_Assign_arm];refine wpAny_bind (wpAny_standAt ?_);rw [hs];refine wpAny_bind (wpAny_pure ?_);rw [if_neg (by decide)];refine wpAny_bind (Tuple_ (d7 (ha _ pins s σ H _ I h) fun us s1 ⟨vs,H1,I1,r1,q1⟩=>?_));obtain ⟨v,w,e1,q1⟩:=q1;subst e1;obtain ⟨u1,u2,rfl,rv,rw'⟩:∃ u1 u2,us=[u1,u2]/\RelV v u1/\RelV w u2:=by
  cases r1 with
  | cons p q =>
   cases q with
   | cons p' q' =>
    cases q';exact ⟨_,_,rfl,p,p'⟩
 refine wpAny_newObj_type ?_ (by show 2<=sizeLine; decide);have I2:bD X pins σ H1 { s1 with heap:=s1.heap.push { cls:=.type "tuple",data:=.seq [u1,u2].toArray } }:=I1.kept (t':=s1.toks) fun b o e=>aLt _ e;rw [hw];refine wpAny_bind (wpAny_pure ?_);show wpAny (model X.prog X.w) X.A (do rule "assign.swapped-stores"; let items <- unpackItems (.ref s1.heap.objs.size) 2 none; assignInOrder [fun v=>bindName X.env y v,fun v=>bindName X.env x v] items.reverse; pure Flow.next) _ _ _;refine wpAny_bind (wpAny_rule (wpAny_bind (unpackItems_tuple (items:=#[u1,u2]) (I.ok.hd hc) (IsTup.new s1.heap _) fun h' hx'=>?_)));have I3:=I2.kept (h':=h') (t':=s1.toks) fun b o e=>hx' b o (aLR (aLC e)) e;show wpAny _ _ (assignInOrder [fun v=>bindName X.env y v,fun v=>bindName X.env x v] [u2,u1] >>= fun _=>pure Flow.next) _ _ _;refine wpAny_bind (assignInOrder_cons (wpAny_bindName (pX I3 hN hj (.inl hy) rw' (fun s2 I4=>?_) (.inr hy))));refine assignInOrder_cons (wpAny_bindName (pX I4 hN hi (.inl hx) rv (fun s3 I5=>assignInOrder_nil (wpAny_pure ?_)) (.inr hx)));rw [List.set_comm _ _ (Ne.symm hij)] at I5;exact ⟨_,H1,I5,q1⟩
def Ld (c:TT)(tb:TS):TS:=fun D σ H=>∃ W:Nat->St->Hp->Prop,(∃ m,W m σ H)/\∀ m σ H,W m σ H ->
 c σ H fun b H1=>if b=true then ∃ N:St->Hp->Prop,(∀ σ' H',N σ' H'->∃ m',m'<m/\W m' σ' H')/\tb { D with nx:=N,ct:=N,bk:=D.nx } σ H1 else D.nx σ H1
theorem Dz {c:Expr}{body:List Stmt}{tc:TT}{tb:TS}(hp:PassesOwn (model X.prog X.w) X.A X.env X.xe)(hc:PT X c tc)(hb:CG X body tb):PS X (.While c body [] pos) (Ld tc tb):=by
 intro pins s σ H D I h;obtain ⟨W,⟨m0,w0⟩,turn⟩:=h;refine wpAny_While (codeAny_whileLoop (fun n s'=>∃ σ' H',bD X pins σ' H' s'/\W n σ' H') ?_ m0 ⟨σ,H,I,w0⟩);rintro n s1 ⟨σ1,H1,I1,w1⟩;refine wpAny_passesOwn hp (d7 (hc pins s1 σ1 H1 _ I1 (turn n σ1 H1 w1)) fun b s2 ⟨H2,I2,q2⟩=>?_);cases b with
 | true =>
  obtain ⟨N,hN,q2⟩:=q2;rw [if_pos rfl];refine wpAny_passesOwn hp (d7 (hb pins s2 σ1 H2 _ I2 q2) fun f s3 q3=>?_);cases f with
  | next =>
   obtain ⟨σ3,H3,I3,n3⟩:=q3;obtain ⟨m',hm,w3⟩:=hN σ3 H3 n3;exact ⟨m',hm,σ3,H3,I3,w3⟩
  | cont =>
   obtain ⟨σ3,H3,I3,n3⟩:=q3;obtain ⟨m',hm,w3⟩:=hN σ3 H3 n3;exact ⟨m',hm,σ3,H3,I3,w3⟩
  | brk=>exact q3
  | ret v=>exact q3
 | false =>
  rw [if_neg aLK];exact wpAny_execs_nil ⟨σ1,H2,I2,q2⟩
end
structure It where
 go:Nat->Hp->Prop
 yld:Nat->Hp->V->Hp->Prop
 stop:Nat->Hp->Prop
def jQ (X:Cx)(pins:List (Addr×Obj))(H:Hp)(b:Addr):Prop :=
 H b=none/\b≠X.env.locals/\b∉X.fs/\(b∈X.ex∨X.s₀.heap.objs.size<=b)/\(∀ x c,X.env.cells.lookup x=some c->c≠b)/\∀ p∈X.pn++pins,p.1≠b
theorem bD.fpOk {X:Cx}{pins:List (Addr×Obj)}{σ:St}{H H':Hp}{s:Shared}{b:Addr}(I:bD X pins σ H s)(hb:s.heap.objs.size<=b)(hn:H' b=none):jQ X pins H' b:=by
 refine ⟨hn,aMA (aLS I.lt hb),I.nofs hb,.inr (aLv I.sz hb),fun x c e z=>?_,fun p hp z=>?_⟩
 ·obtain ⟨v,q⟩:=I.cell x c e;exact absurd (aLS q.lt (by rw [z]; exact hb)) (aMp _)
 ·exact absurd (aLS (aLC (I.pin p hp).1) (by rw [z]; exact hb)) (aMp _)
structure Turn (P:Program)(w:World)(K:PySem.W.Frag)(tg:Expr)(J:It)(fp:List Addr)(it:Addr)(tn:Nat->Heap->Prop):Prop where
 mem:it∈fp
 obj:∀ i h,tn i h->∀ b∈fp,∃ o,h.get? b=some o/\∀ v,o.data≠.cell v
 keep:∀ i h h',tn i h->(∀ b∈fp,∀ o,h.get? b=some o->h'.get? b=some o)->tn i h'
 item:∀ (X:Cx),X.prog=P->X.w=w->X.K=K->X.calm=true->∀ (i:Nat) (pins:List (Addr×Obj)) (s:Shared) (σ:St) (H:Hp) (E:Value->Shared->Prop),bD X pins σ H s->(∀ b∈fp,jQ X pins H b)->tn i s.heap->J.go i H ->
  wpAny (model P w) X.A (pyNext (.ref it)) (fun r s1=>∃ u,r=some u ∧
   wpAny (model P w) X.A (letOwnedTupleGo tg (.ref it) u) (fun _ s2=>∃ x H',bD X pins σ H' s2/\RelV x u/\J.yld i H x H'/\tn (i+1) s2.heap/\∀ b∈fp,H' b=none) E s1) E s
 done:∀ (X:Cx),X.prog=P->X.w=w->X.K=K->X.calm=true->∀ (i:Nat) (pins:List (Addr×Obj)) (s:Shared) (σ:St) (H:Hp) (E:Value->Shared->Prop),bD X pins σ H s->(∀ b∈fp,jQ X pins H b)->tn i s.heap->J.stop i H ->
  wpAny (model P w) X.A (pyNext (.ref it)) (fun r s1=>r=none/\bD X pins σ H s1) E s
 self:∀ (A:Around) (i:Nat) (s:Shared) (Q:Value->Shared->Prop) (E:Value->Shared->Prop),tn i s.heap->Q (.ref it) s->wpAny (model P w) A (pyIter (.ref it)) Q E s
abbrev TI:=St->Hp->(It->Hp->Prop)->Prop
def PIE (X:Cx)(pins:List (Addr×Obj))(σ:St)(tg:Expr)(R:It->Hp->Prop)(itv:Value)(s2:Shared):Prop :=
 ∃ (it:Addr) (fp:List Addr) (tn:Nat->Heap->Prop) (J:It) (H':Hp),itv=.ref it/\bD X pins σ H' s2/\Turn X.prog X.w X.K tg J fp it tn/\tn 0 s2.heap/\(∀ b∈fp,jQ X pins H' b)/\R J H'
def PI (X:Cx)(tg iter:Expr)(wi:TI):Prop :=
 ∀ (pins:List (Addr×Obj)) (s:Shared) (σ:St) (H:Hp) (R:It->Hp->Prop),bD X pins σ H s->wi σ H R ->
  wpAny (model X.prog X.w) X.A (eval iter X.env) (fun v s1=>wpAny (model X.prog X.w) X.A (pyIter v) (PIE X pins σ tg R) X.xe s1) X.xe s
theorem Ej {M:Model}{A:Around}{E:Value->Shared->Prop}{s:Shared}{tg:Expr}{it:Addr}{u:Value}{o:Obj}{n:String}{vs:Array Value}{Q:Unit->Shared->Prop}(ho:s.heap.get? it=some o)(hc:o.cls=.type n)(hd:o.data=.fields vs)
  (hn:["enumerate","zip","dict_itemiterator","dict_reverseitemiterator","odict_iterator","itertools.zip_longest","itertools.pairwise"].contains n=false) (hQ:Q () s):wpAny M A (letOwnedTupleGo tg (.ref it) u) Q E s:=by
 unfold letOwnedTupleGo;cases tg <;> first
  | exact wpAny_pure hQ
  | (cases u <;> first
    | exact wpAny_pure hQ
    | (refine wpAny_bind (wpAny_load ho ?_); rw [hc,hd]; show wpAny M A (if (["enumerate","zip","dict_itemiterator","dict_reverseitemiterator","odict_iterator","itertools.zip_longest","itertools.pairwise"].contains n&&vs[0]?==some (rawInt _))=true then _ else _) Q E s; rw [if_neg (by intro h; rw [hn,Bool.false_and] at h; cases h)]; exact wpAny_pure hQ))
def Ux (K:PySem.W.Frag)(a:Addr):It :=
 ⟨fun i H=>∃ xs x,bK K H a xs/\xs[i]? = some x,fun i H x H'=>H'=H/\∀ xs,bK K H a xs->xs[i]? = some x,fun i H=>∃ xs,bK K H a xs/\xs.length<=i⟩
def Uv (K:PySem.W.Frag)(a:Addr):It :=
 ⟨fun i H=>∃ xs x,cY K H a xs/\xs[i]? = some x,fun i H x H'=>H'=H/\∀ xs,cY K H a xs->xs[i]? = some x,fun i H=>∃ xs,cY K H a xs/\xs.length<=i⟩
def Sw (lo:Int)(n:Nat):It:=⟨fun i _=>i<n,fun i H x H'=>H'=H/\x=.int (lo+i),fun i _=>n<=i⟩
theorem JZ {P:Program}{w:World}{K:PySem.W.Frag}{tg:Expr}(a it:Addr):Turn P w K tg (Ux K a) [it] it (fun i h=>h.IsListIter it a i) where
 mem:=by simp
 obj:=fun i h st b hb=>by
  have e:b=it:=by simpa using hb
  subst e;obtain ⟨o,e,c,d⟩:=st;exact ⟨o,e,fun v z=>by rw [d] at z; cases z⟩
 keep:=fun i h h' st k=>st.at fun o e=>k it (by simp) o e
 item:=by
  intro X hP hw hK hc i pins s σ H E I hf st hg;subst hP hw hK;obtain ⟨xs,x,hq,hx⟩:=hg;obtain ⟨its,rv,p,hz⟩:=I.list hq;obtain ⟨u,hu,ru⟩:=rv.get hx;obtain ⟨f0,f1,f2,f3,f4,f5⟩:=hf it (by simp);refine wpAny_pyNext_list_item st p.isList (x:=u) (by simpa using hu) fun h' st' sb=>?_;have I1:bD X pins σ H { s with heap:=h' }:=I.turned (t':=s.toks) (fun b o hb e=>(sb.2 b hb).trans e) f0 f1 f3 f4 f5;obtain ⟨o,e,c,d⟩:=id st';exact ⟨u,rfl,Ej (s:={ s with heap:=h' }) e c d (by decide) ⟨x,H,I1,ru,⟨rfl,fun ys hy=>by rw [I.list_inj hy hq]; exact hx⟩,st',fun b hb=>(hf b hb).1⟩⟩
 done:=by
  intro X hP hw hK hc i pins s σ H E I hf st hg;subst hP hw hK;obtain ⟨xs,hq,hx⟩:=hg;obtain ⟨its,rv,p,hz⟩:=I.list hq;obtain ⟨f0,f1,f2,f3,f4,f5⟩:=hf it (by simp);have hl:=rv.length;exact wpAny_pyNext_list_end (I.ok.hd hc) st p.isList (by simp; omega) fun h' eb=>⟨rfl,I.turned (t':=s.toks) (fun b o hb e=>eb b o hb e) f0 f1 f3 f4 f5⟩
 self:=fun _ _ _ _ _ st h=>wpAny_pyIter_listiter st h
theorem GD {P:Program}{w:World}{K:PySem.W.Frag}{tg:Expr}(a it:Addr):Turn P w K tg (Uv K a) [it] it (fun i h=>h.IsTupleIter it a i) where
 mem:=by simp
 obj:=fun i h st b hb=>by
  have e:b=it:=by simpa using hb
  subst e;obtain ⟨o,e,c,d⟩:=st;exact ⟨o,e,fun v z=>by rw [d] at z; cases z⟩
 keep:=fun i h h' st k=>st.at fun o e=>k it (by simp) o e
 item:=by
  intro X hP hw hK hc i pins s σ H E I hf st hg;subst hP hw hK;obtain ⟨xs,x,hq,hx⟩:=hg;obtain ⟨its,rv,p,hz⟩:=I.tuple hq;obtain ⟨u,hu,ru⟩:=rv.get hx;obtain ⟨f0,f1,f2,f3,f4,f5⟩:=hf it (by simp);refine wpAny_pyNext_tuple_item st (show s.heap.IsTuple a its.toArray from p) (x:=u) (by simpa using hu) fun h' st' sb=>?_;have I1:bD X pins σ H { s with heap:=h' }:=I.turned (t':=s.toks) (fun b o hb e=>(sb.2 b hb).trans e) f0 f1 f3 f4 f5;obtain ⟨o,e,c,d⟩:=id st';exact ⟨u,rfl,Ej (s:={ s with heap:=h' }) e c d (by decide) ⟨x,H,I1,ru,⟨rfl,fun ys hy=>by rw [I.tuple_inj hy hq]; exact hx⟩,st',fun b hb=>(hf b hb).1⟩⟩
 done:=by
  intro X hP hw hK hc i pins s σ H E I hf st hg;subst hP hw hK;obtain ⟨xs,hq,hx⟩:=hg;obtain ⟨its,rv,p,hz⟩:=I.tuple hq;obtain ⟨f0,f1,f2,f3,f4,f5⟩:=hf it (by simp);have hl:=rv.length;exact wpAny_pyNext_tuple_end (I.ok.hd hc) st (show s.heap.IsTuple a its.toArray from p) (by simp; omega) fun h' eb=>⟨rfl,I.turned (t':=s.toks) (fun b o hb e=>eb b o hb e) f0 f1 f3 f4 f5⟩
 self:=fun _ _ _ _ _ st h=>wpAny_pyIter_tupleiter st h
theorem Gi {P:Program}{w:World}{K:PySem.W.Frag}{tg:Expr}(it:Addr)(lo:Int)(n:Nat):Turn P w K tg (Sw lo n) [it] it (fun i h=>IsRangeIter h it (lo+(i:Nat)*1) ((n:Int)-(i:Nat)) 1) where
 mem:=by simp
 obj:=fun i h st b hb=>by
  have e:b=it:=by simpa using hb
  subst e;exact ⟨_,st,fun v z=>by
   have z':Data.fields _=Data.cell v:=z;cases z'⟩
 keep:=fun i h h' st k=>k it (by simp) _ st
 item:=by
  intro X hP hw hK hc i pins s σ H E I hf st hg;subst hP hw hK;obtain ⟨f0,f1,f2,f3,f4,f5⟩:=hf it (by simp);have W:=Walks.range (prog:=X.prog) (w:=X.w) (I.ok.hd hc) it lo 1 n;refine W.item i s _ _ hg st fun v h' tk hv st' kk=>?_;obtain ⟨t,rfl⟩:=hv;have I1:bD X pins σ H { s with heap:=h',toks:=tk }:=I.turned (fun b o hb e=>kk b o (by simpa using hb) e) f0 f1 f3 f4 f5;refine ⟨_,rfl,Ej (s:={ s with heap:=h',toks:=tk }) (n:="range_iterator") st' rfl rfl (by decide) ⟨.int (lo+i),H,I1,⟨t,?_⟩,⟨rfl,rfl⟩,st',fun b hb=>(hf b hb).1⟩⟩;rw [Int.mul_one]
 done:=by
  intro X hP hw hK hc i pins s σ H E I hf st hg;subst hP hw hK;obtain ⟨f0,f1,f2,f3,f4,f5⟩:=hf it (by simp);exact wpAny_pyNext_range_end (I.ok.hd hc) st (by have:n<=i:=hg; omega) fun h' eb=>⟨rfl,I.turned (t':=s.toks) (fun b o hb e=>eb b o hb e) f0 f1 f3 f4 f5⟩
 self:=fun _ _ _ _ _ st h=>wpAny_pyIter_rangeiter st h
section
variable {X:Cx}{tg:Expr}
def Zc (K:PySem.W.Frag)(tl:TE):TI:=fun σ H R=>tl σ H fun x H1=>∃ a,x=.ref a/\(∃ xs,bK K H1 a xs)/\R (Ux K a) H1
def aET (K:PySem.W.Frag)(tl:TE):TI:=fun σ H R=>tl σ H fun x H1=>∃ a,x=.ref a/\(∃ xs,cY K H1 a xs)/\R (Uv K a) H1
theorem bL {l:Expr}{tl:TE}(hl:PE X l tl):PI X tg l (Zc X.K tl):=by
 intro pins s σ H R I h;refine d7 (hl pins s σ H _ I h) fun v s1 ⟨x,H1,I1,r1,q1⟩=>?_;obtain ⟨a,e,⟨xs,hq⟩,q⟩:=q1;subst e;cases r1;obtain ⟨its,rv,p,hz⟩:=I1.list hq;refine wpAny_pyIter_list p.isList ?_;refine ⟨s1.heap.objs.size,[s1.heap.objs.size],_,_,H1,rfl,I1.kept (t':=s1.toks) fun b o e=>aLt _ e,JZ a _,⟨_,aLJ _ rfl,rfl,rfl⟩,fun b hb=>?_,q⟩;have e:b=s1.heap.objs.size:=by simpa using hb
 subst e;exact I1.fpOk (aLu _) (I1.hok.fresh (aLu _))
theorem wZ {l:Expr}{tl:TE}(hl:PE X l tl):PI X tg l (aET X.K tl):=by
 intro pins s σ H R I h;refine d7 (hl pins s σ H _ I h) fun v s1 ⟨x,H1,I1,r1,q1⟩=>?_;obtain ⟨a,e,⟨xs,hq⟩,q⟩:=q1;subst e;cases r1;obtain ⟨its,rv,p,hz⟩:=I1.tuple hq;refine wpAny_pyIter_tuple (show s1.heap.IsTuple a its.toArray from p) ?_;refine ⟨s1.heap.objs.size,[s1.heap.objs.size],_,_,H1,rfl,I1.kept (t':=s1.toks) fun b o e=>aLt _ e,GD a _,⟨_,aLJ _ rfl,rfl,rfl⟩,fun b hb=>?_,q⟩;have e:b=s1.heap.objs.size:=by simpa using hb
 subst e;exact I1.fpOk (aLu _) (I1.hok.fresh (aLu _))
theorem NZ {pins:List (Addr×Obj)}{σ:St}{H:Hp}{s:Shared}{R:It->Hp->Prop}{E:Value->Shared->Prop}{lo hi:Int}{t u v:Tok}{tk:Nat}(I:bD X pins σ H s)(h1:-(2^62)<=lo)(h2:lo<2^62)(h3:-(2^62)<=hi)(h4:hi<2^62)
  (q:R (Sw lo (hi-lo).toNat) H):wpAny (model X.prog X.w) X.A (pyIter (.ref s.heap.objs.size)) (PIE X pins σ tg R) E { s with heap:=s.heap.push { cls:=.type "range",data:=.fields #[.int lo t,.int hi u,.int 1 v] },toks:=tk }:=by
 refine wpAny_pyIter_range (IsRange.new ..) (small_one h1 h2 h3 h4) ?_;have I1:bD X pins σ H { s with heap:=s.heap.push { cls:=.type "range",data:=.fields #[.int lo t,.int hi u,.int 1 v] },toks:=tk }:=I.kept fun b o e=>aLt _ e;refine ⟨(s.heap.push { cls:=.type "range",data:=.fields #[.int lo t,.int hi u,.int 1 v] }).objs.size,[(s.heap.push { cls:=.type "range",data:=.fields #[.int lo t,.int hi u,.int 1 v] }).objs.size],_,_,H,rfl,
  I1.kept (t':=tk) fun b o e=>aLt _ e,Gi _ lo (hi-lo).toNat,?_,fun b hb=>?_,q⟩
 ·have e1:lo+((0:Nat):Int)*1=lo:=by simp
  have e2:(((hi-lo).toNat:Nat):Int)-((0:Nat):Int)=Builtin.Range.rangeSize lo hi 1:=by rw [rangeSize_one]; split <;> omega
  show IsRangeIter _ _ (lo+((0:Nat):Int)*1) ((((hi-lo).toNat:Nat):Int)-((0:Nat):Int)) 1;rw [e1,e2];exact aLJ _ rfl
 ·have e:b=(s.heap.push { cls:=.type "range",data:=.fields #[.int lo t,.int hi u,.int 1 v] }).objs.size:=by simpa using hb
  subst e;exact I1.fpOk (aLu _) (I1.hok.fresh (aLu _))
def Zt (ta:TA):TI:=fun σ H R=>ta σ H fun vs H1=>∃ j:Int,vs=[.int j]/\-(2^62)<=j/\j<2^62/\R (Sw 0 j.toNat) H1
theorem dX {a:Expr}{ta:TA}{p pos:Pos}(hg:Gl X "range")(hm:X.mg "range" = none)(ha:PA X [a] ta)(hs:starEach [a] X.env=[(false,eval a X.env)]:=by rfl):PI X tg (.Call (.Name "range" p) [a] [] pos) (Zt ta):=by
 intro pins s σ H R I h;refine Call_ (mY I hg hm boot_range (PyProof.Rows.callWith_type1 (d7 (ha pos pins s σ H _ I h) fun us s1 ⟨vs,H1,I1,r1,q1⟩=>?_) hs rfl));obtain ⟨j,e,q1,q2,q⟩:=q1;subst e;cases r1 with
 | cons r rr =>
  cases rr;obtain ⟨t,rfl⟩:=r;exact call_range_1 (NZ I1 (by omega) (by omega) q1 q2 (by simpa using q))
def aDq (wi:TI)(g:TG)(tb:TS):TS:=fun D σ H=>wi σ H fun J H1=>∃ W:Nat->Nat->St->Hp->Prop,(∃ m,W 0 m σ H1)/\∀ i m σ H,W i m σ H ->
 (J.stop i H/\D.nx σ H)∨(J.go i H/\∃ N:St->Hp->Prop,(∀ σ' H',N σ' H'->∃ m',m'<m/\W (i+1) m' σ' H')/\∀ x H',J.yld i H x H'->g x σ H' fun σ2 H2=>tb { D with nx:=N,ct:=N,bk:=D.nx } σ2 H2)
def vX (fp:List Addr)(h:Heap):List (Addr×Obj):=fp.filterMap fun b=>(h.get? b).map fun o=>(b,o)
theorem lM {fp:List Addr}{h:Heap}{b:Addr}{o:Obj}(hb:b∈fp)(e:h.get? b=some o):(b,o)∈vX fp h:=aMw.mpr ⟨b,hb,by rw [e]; rfl⟩
theorem Jm {fp:List Addr}{h:Heap}{p:Addr×Obj}(hp:p∈vX fp h):p.1∈fp/\h.get? p.1=some p.2:=by
 obtain ⟨b,hb,e⟩:=aMw.mp hp;cases q:h.get? b with
 | none=>rw [q] at e; cases e
 | some o =>
  rw [q] at e;have e':(b,o)=p:=aMq.inj e;subst e';exact ⟨hb,q⟩
theorem bD.pinned {pins:List (Addr×Obj)}{σ:St}{H:Hp}{s:Shared}{fp:List Addr}(I:bD X pins σ H s)(hf:∀ b∈fp,jQ X pins H b)(ho:∀ b∈fp,∃ o,s.heap.get? b=some o/\∀ v,o.data≠.cell v):bD X (pins++vX fp s.heap) σ H s :=
 I.pins_of fun p hp=>(aLO.mp hp).elim (fun z=>I.pin p (aLL _ z)) fun z=>by
  obtain ⟨hb,e⟩:=Jm z;obtain ⟨f0,f1,f2,_⟩:=hf p.1 hb;obtain ⟨o,e',d⟩:=ho p.1 hb;rw [e] at e'; cases e';exact ⟨e,f0,f1,f2,d⟩
theorem bD.unpinned {pins pl:List (Addr×Obj)}{σ:St}{H:Hp}{s:Shared}(I:bD X (pins++pl) σ H s):bD X pins σ H s:=I.pins_of fun p hp=>I.pin p (aLL _ (aL9 _ hp))
theorem dB {iter:Expr}{body:List Stmt}{wi:TI}{g:TG}{tb:TS}{pos:Pos}(hp:PassesOwn (model X.prog X.w) X.A X.env X.xe)(hc:X.calm=true)(hi:PI X tg iter wi)(hg:PG X tg g)(hb:CG X body tb)
  (hs:∀ x,foldedSetIterable iter X.env x=pure x:=by intro _; rfl):PS X (.For tg iter body [] pos) (aDq wi g tb):=by
 intro pins s σ H D I h;refine wpAny_For (d7 (hi pins s σ H _ I h) fun v s1 h1=>d7 h1 fun itv s2 h2=>?_) hs;obtain ⟨it,fp,tn,J,H2,e,I2,T,st2,f2,W,⟨m0,w0⟩,turn⟩:=h2;subst e;have stat:∀ {H':Hp},(∀ b∈fp,H' b=none)->∀ b∈fp,jQ X pins H' b:=fun hn b hb=>⟨hn b hb,(f2 b hb).2⟩
 refine codeAny_forLoop_any (fun n s'=>∃ i σ' H',bD X pins σ' H' s'/\tn i s'.heap/\(∀ b∈fp,H' b=none)/\W i n σ' H') ?_ m0 ⟨0,σ,H2,I2,st2,fun b hb=>(f2 b hb).1,w0⟩;rintro n s3 ⟨i,σ3,H3,I3,st3,fr3,w3⟩;rcases turn i n σ3 H3 w3 with ⟨stop,qn⟩ | ⟨go,N,hN,step⟩
 ·refine wpAny_passesOwn hp (d7 (T.done X rfl rfl rfl hc i pins s3 σ3 H3 X.xe I3 (stat fr3) st3 stop) fun r s4 ⟨hr,I4⟩=>?_);subst hr;exact wpAny_execs_nil ⟨σ3,H3,I4,qn⟩
 ·refine wpAny_passesOwn hp (d7 (T.item X rfl rfl rfl hc i pins s3 σ3 H3 X.xe I3 (stat fr3) st3 go) fun r s4 ⟨u,hr,h4⟩=>?_);subst hr;refine wpAny_passesOwn hp (d7 h4 fun _ s5 ⟨x,H5,I5,r5,y5,st5,fr5⟩=>?_);have I5':=I5.pinned (stat fr5) (T.obj _ _ st5);refine wpAny_passesOwn hp (d7 (hg _ s5 σ3 H5 x u _ I5' r5 (step x H5 y5)) fun _ s6 ⟨σ6,H6,I6,q6⟩=>?_);refine wpAny_passesOwn hp (d7 (hb _ s6 σ6 H6 _ I6 q6) fun f s7 q7=>?_);have again:∀ {σ7:St}{H7:Hp},bD X (pins++vX fp s5.heap) σ7 H7 s7->N σ7 H7->∃ m,m<n/\∃ i σ' H',bD X pins σ' H' s7/\tn i s7.heap/\(∀ b∈fp,H' b=none)/\W i m σ' H':=fun {σ7 H7} I7 n7=>by
   obtain ⟨m',hm,w7⟩:=hN σ7 H7 n7;refine ⟨m',hm,i+1,σ7,H7,I7.unpinned,T.keep _ _ _ st5 fun b hb o e=>(I7.pin (b,o) (aLL _ (aLL _ (lM hb e)))).1,fun b hb=>?_,w7⟩;obtain ⟨o,e,d⟩:=T.obj _ _ st5 b hb;exact (I7.pin (b,o) (aLL _ (aLL _ (lM hb e)))).2.1
  cases f with
  | next=>obtain ⟨σ7,H7,I7,n7⟩:=q7; exact again I7 n7
  | cont=>obtain ⟨σ7,H7,I7,n7⟩:=q7; exact again I7 n7
  | brk=>obtain ⟨σ7,H7,I7,q7⟩:=q7; exact ⟨σ7,H7,I7.unpinned,q7⟩
  | ret v=>obtain ⟨x7,σ7,H7,I7,r7,q7⟩:=q7; exact ⟨x7,σ7,H7,I7.unpinned,r7,q7⟩
end
theorem fH {K:PySem.W.Frag}{a:Addr}{xs:List V}{g:TG}{tb:TS}{D:Ends}{σ:St}{H:Hp}(Pv:Nat->St->Hp->Prop)(h0:Pv 0 σ H)(hl:∀ i σ H,i<=xs.length->Pv i σ H->bK K H a xs)
  (hs:∀ i x σ H,xs[i]? = some x->Pv i σ H->g x σ H fun σ2 H2=>tb { D with nx:=Pv (i+1),ct:=Pv (i+1),bk:=D.nx } σ2 H2) (hd:∀ σ H,Pv xs.length σ H->D.nx σ H) :
  ∃ W:Nat->Nat->St->Hp->Prop,(∃ m,W 0 m σ H)/\∀ i m σ H,W i m σ H ->
   ((Ux K a).stop i H/\D.nx σ H)∨((Ux K a).go i H/\∃ N:St->Hp->Prop,(∀ σ' H',N σ' H'->∃ m',m'<m/\W (i+1) m' σ' H')/\∀ x H',(Ux K a).yld i H x H'->g x σ H' fun σ2 H2=>tb { D with nx:=N,ct:=N,bk:=D.nx } σ2 H2):=by
 refine ⟨fun i m σ H=>m=xs.length-i/\i<=xs.length/\Pv i σ H,⟨xs.length,by simp,aLQ _,h0⟩,?_⟩;rintro i m σ H ⟨rfl,hi,p⟩;have q:=hl i σ H hi p
 by_cases hlt:i<xs.length
 ·refine .inr ⟨⟨xs,xs[i],q,by simp [hlt]⟩,Pv (i+1),fun σ' H' p'=>⟨xs.length-(i+1),by omega,rfl,hlt,p'⟩,fun x H' y=>?_⟩;obtain ⟨e,y⟩:=y;subst e;exact hs i x σ _ (y xs q) p
 ·have e:i=xs.length:=by omega
  subst e;exact .inl ⟨⟨xs,q,aLu _⟩,hd σ H p⟩
theorem Ia {K:PySem.W.Frag}{a:Addr}{xs:List V}{g:TG}{tb:TS}{D:Ends}{σ:St}{H:Hp}(Pv:Nat->St->Hp->Prop)(h0:Pv 0 σ H)(hl:∀ i σ H,i<=xs.length->Pv i σ H->cY K H a xs)
  (hs:∀ i x σ H,xs[i]? = some x->Pv i σ H->g x σ H fun σ2 H2=>tb { D with nx:=Pv (i+1),ct:=Pv (i+1),bk:=D.nx } σ2 H2) (hd:∀ σ H,Pv xs.length σ H->D.nx σ H) :
  ∃ W:Nat->Nat->St->Hp->Prop,(∃ m,W 0 m σ H)/\∀ i m σ H,W i m σ H ->
   ((Uv K a).stop i H/\D.nx σ H)∨((Uv K a).go i H/\∃ N:St->Hp->Prop,(∀ σ' H',N σ' H'->∃ m',m'<m/\W (i+1) m' σ' H')/\∀ x H',(Uv K a).yld i H x H'->g x σ H' fun σ2 H2=>tb { D with nx:=N,ct:=N,bk:=D.nx } σ2 H2):=by
 refine ⟨fun i m σ H=>m=xs.length-i/\i<=xs.length/\Pv i σ H,⟨xs.length,by simp,aLQ _,h0⟩,?_⟩;rintro i m σ H ⟨rfl,hi,p⟩;have q:=hl i σ H hi p
 by_cases hlt:i<xs.length
 ·refine .inr ⟨⟨xs,xs[i],q,by simp [hlt]⟩,Pv (i+1),fun σ' H' p'=>⟨xs.length-(i+1),by omega,rfl,hlt,p'⟩,fun x H' y=>?_⟩;obtain ⟨e,y⟩:=y;subst e;exact hs i x σ _ (y xs q) p
 ·have e:i=xs.length:=by omega
  subst e;exact .inl ⟨⟨xs,q,aLu _⟩,hd σ H p⟩
theorem gM {lo:Int}{n:Nat}{g:TG}{tb:TS}{D:Ends}{σ:St}{H:Hp}(Pv:Nat->St->Hp->Prop)(h0:Pv 0 σ H)
  (hs:∀ i σ H,i<n->Pv i σ H->g (.int (lo+i)) σ H fun σ2 H2=>tb { D with nx:=Pv (i+1),ct:=Pv (i+1),bk:=D.nx } σ2 H2) (hd:∀ σ H,Pv n σ H->D.nx σ H) :
  ∃ W:Nat->Nat->St->Hp->Prop,(∃ m,W 0 m σ H)/\∀ i m σ H,W i m σ H ->
   ((Sw lo n).stop i H/\D.nx σ H)∨((Sw lo n).go i H/\∃ N:St->Hp->Prop,(∀ σ' H',N σ' H'->∃ m',m'<m/\W (i+1) m' σ' H')/\∀ x H',(Sw lo n).yld i H x H'->g x σ H' fun σ2 H2=>tb { D with nx:=N,ct:=N,bk:=D.nx } σ2 H2):=by
 refine ⟨fun i m σ H=>m=n-i/\i<=n/\Pv i σ H,⟨n,by simp,aLQ _,h0⟩,?_⟩;rintro i m σ H ⟨rfl,hi,p⟩
 by_cases hlt:i<n
 ·refine .inr ⟨hlt,Pv (i+1),fun σ' H' p'=>⟨n-(i+1),by omega,rfl,hlt,p'⟩,fun x H' y=>?_⟩;obtain ⟨e,y⟩:=y;subst e y;exact hs i σ _ hlt p
 ·have e:i=n:=by omega
  subst e;exact .inl ⟨aLu _,hd σ H p⟩
theorem Em {c:TT}{tb:TS}{D:Ends}{σ:St}{H:Hp}(Pv:St->Hp->Prop)(μ:St->Hp->Nat)(h0:Pv σ H)
  (hs:∀ σ H,Pv σ H->c σ H fun b H1=>if b=true then tb { D with nx:=fun σ' H'=>Pv σ' H'/\μ σ' H' < μ σ H,ct:=fun σ' H'=>Pv σ' H'/\μ σ' H' < μ σ H,bk:=D.nx } σ H1 else D.nx σ H1)
  (mono:∀ σ H Q Q',(∀ b H1,Q b H1->Q' b H1)->c σ H Q->c σ H Q'):Ld c tb D σ H:=by
 refine ⟨fun m σ H=>m = μ σ H/\Pv σ H,⟨_,rfl,h0⟩,?_⟩;rintro m σ H ⟨rfl,p⟩;refine mono σ H _ _ (fun b H1 q=>?_) (hs σ H p);cases b with
 | true=>exact ⟨_,fun σ' H' ⟨p',l⟩=>⟨_,l,rfl,p'⟩,q⟩
 | false=>exact q
abbrev R2:=V->V->Hp->VK->Prop
def oE (X:Cx)(f:Value->Value->Sem Value)(r:R2):Prop :=
 ∀ (pins:List (Addr×Obj)) (s:Shared) (σ:St) (H:Hp) (x y:V) (v u:Value) (Q:VK),bD X pins σ H s->RelV x v->RelV y u->r x y H Q ->
  wpAny (model X.prog X.w) X.A (f v u) (EP X pins σ Q) X.xe s
def UnR (X:Cx)(f:Value->Sem Value)(r:V->Hp->VK->Prop):Prop :=
 ∀ (pins:List (Addr×Obj)) (s:Shared) (σ:St) (H:Hp) (x:V) (v:Value) (Q:VK),bD X pins σ H s->RelV x v->r x H Q ->
  wpAny (model X.prog X.w) X.A (f v) (EP X pins σ Q) X.xe s
def eY (X:Cx)(f:Value)(r:List V->Hp->VK->Prop):Prop :=
 ∀ (pins:List (Addr×Obj)) (s:Shared) (σ:St) (H:Hp) (xs:List V) (us:List Value) (Q:VK),bD X pins σ H s->b8 xs us->r xs H Q ->
  wpAny (model X.prog X.w) X.A (call f us) (EP X pins σ Q) X.xe s
def Zo (r:R2)(ta tb:TE):TE:=fun σ H Q=>ta σ H fun x H1=>tb σ H1 fun y H2=>r x y H2 Q
def tUn (r:V->Hp->VK->Prop)(ta:TE):TE:=fun σ H Q=>ta σ H fun x H1=>r x H1 Q
def rI (C:Int->Int->Prop)(g:Int->Int->V):R2:=fun x y H Q=>∃ i j,x=.int i/\y=.int j/\C i j/\Q (g i j) H
def Q9 (g:Int->Int->V):R2:=fun x y H Q=>∃ i j,x=.int i/\y=.int j/\Q (g i j) H
def rU (g:Int->V):V->Hp->VK->Prop:=fun x H Q=>∃ i,x=.int i/\Q (g i) H
section
variable {X:Cx}{a b c:Expr}{ta tb tc:TE}{pos:Pos}
theorem Uc (ha:PE X a ta)(hb:PE X b tb){pins:List (Addr×Obj)}{s:Shared}{σ:St}{H:Hp}{R:V->V->Hp->Prop}(I:bD X pins σ H s)
  (h:ta σ H fun x H1=>tb σ H1 fun y H2=>R x y H2) {Q:Value->Shared->Prop}{f:Value->Value->Sem Value}
  (hf:∀ v u s2 x y H2,bD X pins σ H2 s2->RelV x v->RelV y u->R x y H2->wpAny (model X.prog X.w) X.A (f v u) Q X.xe s2) :
  wpAny (model X.prog X.w) X.A (eval a X.env) (fun v s₁=>wpAny (model X.prog X.w) X.A (eval b X.env) (fun u s₂=>wpAny (model X.prog X.w) X.A (f v u) Q X.xe s₂) X.xe s₁) X.xe s:=by
 refine d7 (ha pins s σ H _ I h) fun v s1 ⟨x,H1,I1,r1,q1⟩=>?_;refine d7 (hb pins s1 σ H1 _ I1 q1) fun u s2 ⟨y,H2,I2,r2,q2⟩=>?_;exact hf v u s2 x y H2 I2 r1 r2 q2
theorem bA {op:Operator}{r:R2}(ho:oE X (binaryOp op) r)(ha:PE X a ta)(hb:PE X b tb):PE X (.BinOp a op b pos) (Zo r ta tb):=by
 intro pins s σ H Q I h;exact wpAny_BinOp (Uc ha hb I h fun v u s2 x y H2 I2 rx ry q=>ho pins s2 σ H2 x y v u Q I2 rx ry q)
theorem Qq {op:UnaryOp}{r:V->Hp->VK->Prop}(ho:UnR X (unaryOp op) r)(ha:PE X a ta):PE X (.UnaryOp op a pos) (tUn r ta):=by
 intro pins s σ H Q I h;exact UnaryOp_ (d7 (ha pins s σ H _ I h) fun v s1 ⟨x,H1,I1,r1,q1⟩=>ho pins s1 σ H1 x v Q I1 r1 q1)
theorem R8 {f:Value->Value->Sem Value}{C:Int->Int->Prop}{g:Int->Int->Int}
  (rule:∀ (i j:Int) (t u:Tok) (s:Shared) (Q:Value->Shared->Prop) (E:Value->Shared->Prop),C i j->Q (.int (g i j) s.toks) { s with toks:=s.toks+1 }->wpAny (model X.prog X.w) X.A (f (.int i t) (.int j u)) Q E s) :
  oE X f (rI C fun i j=>.int (g i j)):=by
 intro pins s σ H x y v u Q I rx ry h;obtain ⟨i,j,rfl,rfl,hc,q⟩:=h;obtain ⟨t,rfl⟩:=rx;obtain ⟨t',rfl⟩:=ry;exact rule i j t t' s _ _ hc ⟨.int (g i j),H,I.tok _,⟨_,rfl⟩,q⟩
theorem PJ {f:Value->Value->Sem Value}{g:Int->Int->Int}
  (rule:∀ (i j:Int) (t u:Tok) (s:Shared) (Q:Value->Shared->Prop) (E:Value->Shared->Prop),Q (.int (g i j) s.toks) { s with toks:=s.toks+1 }->wpAny (model X.prog X.w) X.A (f (.int i t) (.int j u)) Q E s) :
  oE X f (Q9 fun i j=>.int (g i j)):=by
 intro pins s σ H x y v u Q I rx ry h;obtain ⟨i,j,rfl,rfl,q⟩:=h;obtain ⟨t,rfl⟩:=rx;obtain ⟨t',rfl⟩:=ry;exact rule i j t t' s _ _ ⟨.int (g i j),H,I.tok _,⟨_,rfl⟩,q⟩
theorem Tg {f:Value->Value->Sem Value}{g:Int->Int->Bool}
  (rule:∀ (i j:Int) (t u:Tok) (s:Shared) (Q:Value->Shared->Prop) (E:Value->Shared->Prop),Q (.bool (g i j)) s->wpAny (model X.prog X.w) X.A (f (.int i t) (.int j u)) Q E s) :
  oE X f (Q9 fun i j=>.bl (g i j)):=by
 intro pins s σ H x y v u Q I rx ry h;obtain ⟨i,j,rfl,rfl,q⟩:=h;obtain ⟨t,rfl⟩:=rx;obtain ⟨t',rfl⟩:=ry;exact rule i j t t' s _ _ ⟨.bl (g i j),H,I,rfl,q⟩
def aGL (i j:Int):Prop:=0<j/\j<1073741824
def aAg (i j:Int):Prop:=0<=j/\j<=1000000/\i.natAbs<2^64
def Th (i j:Int):Prop:=(-(2^64)<i/\i<2^64)∨(-(2^64)<j/\j<2^64)
theorem Th.ok {i j:Int}(h:Th i j):IntMulOk i j:=by
 rcases h with ⟨h1,h2⟩ | ⟨h1,h2⟩
 ·exact .of_left (intBits_le_64 h1 h2)
 ·exact .of_right (intBits_le_64 h1 h2)
theorem HJ (k:Nat):(0:Int)<=2^k:=by
 rw [two_pow_cast];exact aN4 _
theorem gC:oE X (binaryOp .Add) (Q9 fun i j=>.int (i+j)):=PJ fun _ _ _ _ _ _ _ q=>add_int q
theorem mK:oE X (binaryOp .Sub) (Q9 fun i j=>.int (i-j)):=PJ fun _ _ _ _ _ _ _ q=>sub_int q
theorem K9:oE X (binaryOp .Mult) (rI Th fun i j=>.int (i*j)):=R8 fun _ _ _ _ _ _ _ hc q=>mul_int q hc.ok
theorem pH:oE X (binaryOp .FloorDiv) (rI aGL fun i j=>.int (i/j)):=R8 fun i j _ _ _ _ _ hc q=>by
 have h1:(0:Int)<j:=hc.1;have h2:j<1073741824:=hc.2;exact floordiv_int (by omega) (by rw [aMk i (by omega)]; exact q) (.inl (PyProof.noPylong_small (by omega)))
theorem fY:oE X (binaryOp .Mod) (rI (fun _ j=>0<j) fun i j=>.int (i%j)):=R8 fun i j _ _ _ _ _ hc q=>by
 have h1:(0:Int)<j:=hc;exact mod_int' (by omega) (by rw [Int.fmod_eq_emod_of_nonneg i (by omega)]; exact q)
theorem Hw:oE X (binaryOp .Mod) (rI (fun _ j=>j≠0) fun i j=>.int (i.fmod j)):=R8 fun _ _ _ _ _ _ _ hc q=>mod_int' hc q
theorem BL:oE X (binaryOp .LShift) (rI aAg fun i j=>.int (i*2^j.toNat)):=R8 fun _ _ _ _ _ _ _ hc q=>lshift_int_small hc.1 hc.2.1 hc.2.2 q
theorem Uh:oE X (binaryOp .RShift) (rI (fun _ j=>0<=j) fun i j=>.int (i/2^j.toNat)):=R8 fun i j _ _ _ _ _ hc q =>
 rshift_int hc (by rw [aMk i (HJ _)]; exact q)
theorem TQ:oE X (binaryOp .BitAnd) (Q9 fun i j=>.int (Builtin.bitAnd i j)):=PJ fun _ _ _ _ _ _ _ q=>and_int q
theorem YD:oE X (binaryOp .BitOr) (Q9 fun i j=>.int (Builtin.bitOr i j)):=PJ fun _ _ _ _ _ _ _ q=>or_int q
theorem unI {f:Value->Sem Value}{g:Int->Int}
  (rule:∀ (i:Int) (t:Tok) (s:Shared) (Q:Value->Shared->Prop) (E:Value->Shared->Prop),Q (.int (g i) s.toks) { s with toks:=s.toks+1 }->wpAny (model X.prog X.w) X.A (f (.int i t)) Q E s) :
  UnR X f (rU fun i=>.int (g i)):=by
 intro pins s σ H x v Q I rx h;obtain ⟨i,rfl,q⟩:=h;obtain ⟨t,rfl⟩:=rx;exact rule i t s _ _ ⟨.int (g i),H,I.tok _,⟨_,rfl⟩,q⟩
theorem Mj:UnR X (unaryOp .USub) (rU fun i=>.int (-i)):=unI fun _ _ _ _ _ q=>neg_int q
end
def Vh:V->V->Bool
 | .non,.non=>true | .non,.int _=>true | .int _,.non=>true | .non,.bl _=>true | .bl _,.non=>true | .non,.str _=>true | .str _,.non=>true
 | .int _,.int _=>true | .bl _,.bl _=>true | .str _,.str _=>true | .byt _,.byt _=>true
 | .int _,.str _=>true | .str _,.int _=>true | .bl _,.str _=>true | .str _,.bl _=>true
 | _,_=>false
def rEq:R2:=fun x y H Q=>Vh x y=true/\Q (.bl (decide (x=y))) H
def rNe:R2:=fun x y H Q=>Vh x y=true/\Q (.bl (!decide (x=y))) H
theorem JL {i j:Int}:decide (V.int i=V.int j)=(i==j):=by
 rw [aMs];simp
theorem Mf {i j:Bool}:decide (V.bl i=V.bl j)=(i==j):=by
 rw [aMs];simp
theorem Ho {i j:Str}:decide (V.str i=V.str j)=(i==j):=by
 rw [aMs];simp
theorem Hy {i j:Array UInt8}:decide (V.byt i=V.byt j)=(i.toList==j.toList):=by
 rw [aMs];cases i;cases j;simp
section
variable {X:Cx}{a b c:Expr}{ta tb tc:TE}{pos:Pos}
theorem cG {pins:List (Addr×Obj)}{σ:St}{H:Hp}{s:Shared}{Q:VK}{k k':Bool}(I:bD X pins σ H s)(q:Q (.bl k) H)(e:k=k'):EP X pins σ Q (.bool k') s:=by
 subst e;exact ⟨.bl k,H,I,rfl,q⟩
theorem uY:oE X (compareOp .Eq) rEq:=by
 intro pins s σ H x y v u Q I rx ry h;obtain ⟨hs,q⟩:=h;cases x with
 | non =>
  cases rx;cases y with
  | non=>cases ry; exact PySem.EqNone.eq_none_none (cG I q (by simp))
  | bl j=>cases ry; exact PySem.EqNone.eq_none_bool (cG I q (by simp))
  | int j=>obtain ⟨t',rfl⟩:=ry; exact PySem.EqNone.eq_none_int (cG I q (by simp))
  | str j=>obtain ⟨t',rfl⟩:=ry; exact PySem.EqNone.eq_none_str (cG I q (by simp))
  | _=>exact absurd (show false=true from hs) aLK
 | bl i =>
  cases rx;cases y with
  | non=>cases ry; exact PySem.EqNone.eq_bool_none (cG I q (by simp))
  | bl j=>cases ry; exact eq_bool (cG I q Mf)
  | str j=>obtain ⟨t',rfl⟩:=ry; exact PySem.EqMixed.eq_bool_str (cG I q (by simp))
  | _=>exact absurd (show false=true from hs) aLK
 | int i =>
  obtain ⟨t,rfl⟩:=rx;cases y with
  | non=>cases ry; exact PySem.EqNone.eq_int_none (cG I q (by simp))
  | int j=>obtain ⟨t',rfl⟩:=ry; exact eq_int (cG I q JL)
  | str j=>obtain ⟨t',rfl⟩:=ry; exact PySem.EqMixed.eq_int_str (cG I q (by simp))
  | _=>exact absurd (show false=true from hs) aLK
 | str i =>
  obtain ⟨t,rfl⟩:=rx;cases y with
  | non=>cases ry; exact PySem.EqNone.eq_str_none (cG I q (by simp))
  | bl j=>cases ry; exact PySem.EqMixed.eq_str_bool (cG I q (by simp))
  | int j=>obtain ⟨t',rfl⟩:=ry; exact PySem.EqMixed.eq_str_int (cG I q (by simp))
  | str j=>obtain ⟨t',rfl⟩:=ry; exact eq_str (cG I q Ho)
  | _=>exact absurd (show false=true from hs) aLK
 | byt i =>
  obtain ⟨t,rfl⟩:=rx;cases y with
  | byt j=>obtain ⟨t',rfl⟩:=ry; exact PySem.W.eq_bytes (cG I q Hy)
  | _=>exact absurd (show false=true from hs) aLK
 | _=>cases y <;> exact absurd (show false=true from hs) aLK
theorem Ng:oE X (compareOp .NotEq) rNe:=by
 intro pins s σ H x y v u Q I rx ry h;obtain ⟨hs,q⟩:=h;cases x with
 | non =>
  cases rx;cases y with
  | non=>cases ry; exact PySem.EqNone.ne_none_none (cG I q (by simp))
  | bl j=>cases ry; exact PySem.EqNone.ne_none_bool (cG I q (by simp))
  | int j=>obtain ⟨t',rfl⟩:=ry; exact PySem.EqNone.ne_none_int (cG I q (by simp))
  | str j=>obtain ⟨t',rfl⟩:=ry; exact PySem.EqNone.ne_none_str (cG I q (by simp))
  | _=>exact absurd (show false=true from hs) aLK
 | bl i =>
  cases rx;cases y with
  | non=>cases ry; exact PySem.EqNone.ne_bool_none (cG I q (by simp))
  | bl j=>cases ry; exact ne_bool (cG I q (congrArg not Mf))
  | str j=>obtain ⟨t',rfl⟩:=ry; exact PySem.EqMixed.ne_bool_str (cG I q (by simp))
  | _=>exact absurd (show false=true from hs) aLK
 | int i =>
  obtain ⟨t,rfl⟩:=rx;cases y with
  | non=>cases ry; exact PySem.EqNone.ne_int_none (cG I q (by simp))
  | int j=>obtain ⟨t',rfl⟩:=ry; exact ne_int (cG I q (congrArg not JL))
  | str j=>obtain ⟨t',rfl⟩:=ry; exact PySem.EqMixed.ne_int_str (cG I q (by simp))
  | _=>exact absurd (show false=true from hs) aLK
 | str i =>
  obtain ⟨t,rfl⟩:=rx;cases y with
  | non=>cases ry; exact PySem.EqNone.ne_str_none (cG I q (by simp))
  | bl j=>cases ry; exact PySem.EqMixed.ne_str_bool (cG I q (by simp))
  | int j=>obtain ⟨t',rfl⟩:=ry; exact PySem.EqMixed.ne_str_int (cG I q (by simp))
  | str j=>obtain ⟨t',rfl⟩:=ry; exact ne_str (cG I q (congrArg not Ho))
  | _=>exact absurd (show false=true from hs) aLK
 | byt i =>
  obtain ⟨t,rfl⟩:=rx;cases y with
  | byt j=>obtain ⟨t',rfl⟩:=ry; exact PySem.W.ne_bytes (cG I q (congrArg not Hy))
  | _=>exact absurd (show false=true from hs) aLK
 | _=>cases y <;> exact absurd (show false=true from hs) aLK
theorem Dp:oE X (compareOp .Lt) (Q9 fun i j=>.bl (decide (i<j))):=Tg fun _ _ _ _ _ _ _ q=>lt_int q
theorem mW:oE X (compareOp .LtE) (Q9 fun i j=>.bl (decide (i<=j))):=Tg fun _ _ _ _ _ _ _ q=>le_int q
theorem zH:oE X (compareOp .Gt) (Q9 fun i j=>.bl (decide (j<i))):=Tg fun _ _ _ _ _ _ _ q=>gt_int q
theorem BJ:oE X (compareOp .Is) (fun x y H Q=>y=.non/\Q (.bl (decide (x=.non))) H):=by
 intro pins s σ H x y v u Q I rx ry h;obtain ⟨rfl,q⟩:=h;cases ry;refine is_none_gen (cG I q ?_);cases x <;> first
  | (cases rx; rfl)
  | (obtain ⟨t,rfl⟩:=rx; rfl)
theorem QS:oE X (compareOp .IsNot) (fun x y H Q=>y=.non/\Q (.bl (!decide (x=.non))) H):=by
 intro pins s σ H x y v u Q I rx ry h;obtain ⟨rfl,q⟩:=h;cases ry;refine isnot_none_gen (cG I q ?_);cases x <;> first
  | (cases rx; rfl)
  | (obtain ⟨t,rfl⟩:=rx; rfl)
theorem cM (b:Expr){op:CmpOp}(h:op≠.In:=by decide)(h2:op≠.NotIn:=by decide):behindInMarks op b=false:=by
 have e1:(op==CmpOp.In)=false:=by cases op <;> first | rfl | exact absurd rfl h
 have e2:(op==CmpOp.NotIn)=false:=by cases op <;> first | rfl | exact absurd rfl h2
 cases b <;> simp [behindInMarks,e1,e2]
theorem j4 {op:CmpOp}{r:R2}(ho:oE X (compareOp op) r)(ha:PE X a ta)(hb:PE X b tb)(hm:behindInMarks op b=false):PE X (.Compare a [op] [b] pos) (Zo r ta tb):=by
 intro pins s σ H Q I h;exact wpAny_Compare1 (Uc ha hb I h fun v u s2 x y H2 I2 rx ry q=>ho pins s2 σ H2 x y v u Q I2 rx ry q) hm
def R7 (t:TE):TT:=fun σ H Q=>t σ H fun x H'=>∃ k,x=.bl k/\Q k H'
theorem cQ {op:CmpOp}{r:R2}(ho:oE X (compareOp op) r)(ha:PE X a ta)(hb:PE X b tb)(hm:behindInMarks op b=false):PT X (.Compare a [op] [b] pos) (R7 (Zo r ta tb)):=by
 intro pins s σ H Q I h;refine wpAny_isTrue_Compare1 (d7 (ha pins s σ H _ I h) fun v s1 ⟨x,H1,I1,r1,q1⟩=>d7 (hb pins s1 σ H1 _ I1 q1) fun u s2 ⟨y,H2,I2,r2,q2⟩ =>
  d7 (ho pins s2 σ H2 x y v u _ I2 r1 r2 q2) fun c s3 ⟨z,H3,I3,r3,k,e,q3⟩=>?_) hm
 subst e;cases r3;exact wpAny_truthy_bool ⟨H3,I3,q3⟩
def Nu (r r':R2)(ta tb tc:TE):TE:=fun σ H Q=>ta σ H fun x H1=>tb σ H1 fun y H2=>r x y H2 fun z H3=>∃ k,z=.bl k ∧
 (if k=true then tc σ H3 fun w' H4=>r' y w' H4 Q else Q (.bl false) H3)
theorem Nt {op op':CmpOp}{r r':R2}(ho:oE X (compareOp op) r)(ho':oE X (compareOp op') r')(ha:PE X a ta)(hb:PE X b tb)(hc:PE X c tc)
  (hm:lastMarks [op,op'] [b,c]=false:=by with_unfolding_all rfl):PE X (.Compare a [op,op'] [b,c] pos) (Nu r r' ta tb tc):=by
 intro pins s σ H Q I h;refine Compare_chain (d7 (ha pins s σ H _ I h) fun v s1 ⟨x,H1,I1,r1,q1⟩=>chain_link (d7 (hb pins s1 σ H1 _ I1 q1) fun u s2 ⟨y,H2,I2,r2,q2⟩ =>
  d7 (ho pins s2 σ H2 x y v u _ I2 r1 r2 q2) fun d s3 ⟨z,H3,I3,r3,k,e,q3⟩=>?_)) hm
 subst e;cases r3;refine wpAny_truthy_bool ?_;cases k with
 | false=>exact ite_ff ⟨.bl false,H3,I3,rfl,q3⟩
 | true=>exact ite_tt (chain_last (d7 (hc pins s3 σ H3 _ I3 q3) fun w' s4 ⟨z',H4,I4,r4,q4⟩=>ho' pins s4 σ H4 y z' u w' Q I4 r2 r4 q4))
theorem vY {op op':CmpOp}{r r':R2}(ho:oE X (compareOp op) r)(ho':oE X (compareOp op') r')(ha:PE X a ta)(hb:PE X b tb)(hc:PE X c tc)
  (hm:lastMarks [op,op'] [b,c]=false:=by with_unfolding_all rfl):PT X (.Compare a [op,op'] [b,c] pos) (R7 (Nu r r' ta tb tc)):=by
 intro pins s σ H Q I h;refine isTrue_chain (d7 (ha pins s σ H _ I h) fun v s1 ⟨x,H1,I1,r1,q1⟩=>test_link (d7 (hb pins s1 σ H1 _ I1 q1) fun u s2 ⟨y,H2,I2,r2,q2⟩ =>
  d7 (ho pins s2 σ H2 x y v u _ I2 r1 r2 q2) fun d s3 ⟨z,H3,I3,r3,k,e,q3⟩=>?_)) hm
 subst e;cases r3;refine wpAny_truthy_bool ?_;cases k with
 | false =>
  obtain ⟨k',e',q'⟩:=q3;cases e';exact ite_ff ⟨H3,I3,q'⟩
 | true =>
  refine ite_tt (test_last (d7 (hc pins s3 σ H3 _ I3 q3) fun w' s4 ⟨z',H4,I4,r4,q4⟩=>d7 (ho' pins s4 σ H4 y z' u w' _ I4 r2 r4 q4) fun d' s5 ⟨z2,H5,I5,r5,k2,e2,q5⟩=>?_));subst e2;cases r5;exact wpAny_truthy_bool ⟨H5,I5,q5⟩
theorem Fe:(sizeLine:Nat)<2^63:=by rw [sizeLine_eq]; decide
theorem vals1 {x:V}{us:List Value}(r:b8 [x] us):∃ u,us=[u]/\RelV x u:=by
 cases r with
 | cons r1 r2=>cases r2; exact ⟨_,rfl,r1⟩
theorem vals2 {x y:V}{us:List Value}(r:b8 [x,y] us):∃ u w',us=[u,w']/\RelV x u/\RelV y w':=by
 cases r with
 | cons r1 r2 =>
  cases r2 with
  | cons r3 r4=>cases r4; exact ⟨_,_,rfl,r1,r3⟩
theorem DN:eY X (.builtin "abs") (fun xs H Q=>∃ i,xs=[.int i]/\Q (.int (if i<0 then -i else i)) H):=by
 intro pins s σ H xs us Q I r h;obtain ⟨i,rfl,q⟩:=h;obtain ⟨u,rfl,t,rfl⟩:=vals1 r;exact call_abs_int fun u tk=>⟨.int (if i<0 then -i else i),H,I.tok _,⟨_,rfl⟩,q⟩
theorem J6 (hc:X.calm=true):eY X (.builtin "max") (fun xs H Q=>∃ i j,xs=[.int i,.int j]/\Q (.int (if j > i then j else i)) H):=by
 intro pins s σ H xs us Q I r h;obtain ⟨i,j,rfl,q⟩:=h;obtain ⟨u,w',rfl,⟨t,rfl⟩,⟨t',rfl⟩⟩:=vals2 r;refine max_two_ints (I.ok.hd hc) fun h' tk k=>⟨_,H,I.kept k,?_,q⟩
 by_cases hj:j > i
 ·rw [if_pos hj,if_pos hj]; exact ⟨_,rfl⟩
 ·rw [if_neg hj,if_neg hj]; exact ⟨_,rfl⟩
theorem zX (hc:X.calm=true):eY X (.builtin "min") (fun xs H Q=>∃ i j,xs=[.int i,.int j]/\Q (.int (if j<i then j else i)) H):=by
 intro pins s σ H xs us Q I r h;obtain ⟨i,j,rfl,q⟩:=h;obtain ⟨u,w',rfl,⟨t,rfl⟩,⟨t',rfl⟩⟩:=vals2 r;refine min_two_ints (I.ok.hd hc) fun h' tk k=>⟨_,H,I.kept k,?_,q⟩
 by_cases hj:j<i
 ·rw [if_pos hj,if_pos hj]; exact ⟨_,rfl⟩
 ·rw [if_neg hj,if_neg hj]; exact ⟨_,rfl⟩
end
structure HN (h:Heap)(x dx C:Addr)(mA:Str->Option Value):Prop where
 obj:h.get? x=some (PySem.W.instObj C dx)
 ns:h.Ns1 dx mA
 ne:dx≠x
theorem J9 {h:Heap}{dx:Addr}{mA:Str->Option Value}(n:h.Ns1 dx mA):∃ od,h.get? dx=some od/\∀ name,PySem.W.lookIn name od=some (mA name):=by
 obtain ⟨o,es,ep,ho,hd,hk,_,hm⟩:=n;refine ⟨o,ho,fun name=>?_⟩;have e:=hm name;unfold nsFind findBy at e;rw [<- Array.find?_toList] at e;unfold PySem.W.lookIn;rw [hd];dsimp only
 split
 ·rename_i y q;rw [q] at e;exact congrArg some e
 ·rename_i q;rw [q] at e;have a:es.toList.any (·.refKey)=false:=by
   rw [aMW];intro y hy;obtain ⟨z,t,hkey⟩:=hk y (Array.mem_toList_iff.mp hy);simp [DictEntry.refKey,hkey]
  have a':¬ es.toList.any (·.refKey)=true:=by rw [a]; exact aLK
  rw [if_neg a'];exact congrArg some e
theorem HN.look {h:Heap}{x dx C:Addr}{mA:Str->Option Value}(I:HN h x dx C mA):∃ od,PySem.W.InstAt h x (PySem.W.instObj C dx) C (some od)/\∀ name,PySem.W.lookIn name od=some (mA name) :=
 let ⟨od,ho,hl⟩:=J9 I.ns
 ⟨od,⟨I.obj,rfl,rfl,ho⟩,hl⟩
section
variable {prog:Program}{w:World}{A:Around}{E:Value->Shared->Prop}{s:Shared}{K:PySem.W.Frag}{x dx C f:Addr}{mA:Str->Option Value}{name:Str}{v:Value}
theorem Om {expr:Bool}{Q:Value->Shared->Prop}(X:K.In s.heap)(I:HN s.heap x dx C mA)(hg:PySem.W.plainGet K C name=true)(hh:PySem.W.hasDictIn K C=true)
  (ha:PySem.W.findIn K (.ref C) name=some none) (hv:mA name=some v) (hv':PySem.W.handedIn v=true) (h:Q v { s with toks:=s.toks+1 }) :
  wpAny (model prog w) A (getAttr (.ref x) name expr) Q E s:=by
 obtain ⟨od,J,hl⟩:=I.look;exact PySem.W.get_value X J (PySem.W.plainGet_of hg).1 (PySem.W.findObj_own hh ha rfl (by rw [hl,hv])) hv' h
theorem NB {pl:Sem Bool}{Q:Value×List Value->Shared->Prop}(X:K.In s.heap)(I:HN s.heap x dx C mA)(hg:PySem.W.plainGet K C name=true)
  (hf:PySem.W.findIn K (.ref C) name=some (some (.ref f))) (ht:PySem.W.isFn K (.ref f)=true) (hv:mA name=none) (h:Q (.ref f,[.ref x]) s) :
  wpAny (model prog w) A (getMethod (.ref x) name pl) Q E s:=by
 obtain ⟨od,J,hl⟩:=I.look;exact PySem.W.method_fn X J (PySem.W.plainGet_of hg).1 (PySem.W.plainGet_of hg).2 hf (beq_iff_eq.mp ht) (by show (PySem.W.lookIn name od).map (·.isSome)=some false; rw [hl,hv]; rfl) h
theorem Ow {ns:List Str}{Q:Unit->Shared->Prop}(X:K.In s.heap)(I:HN s.heap x dx C mA)
  (hs:PySem.W.findIn K (.ref C) "__setattr__" = some (some (.builtin "object.__setattr__"))) (hp:PySem.W.plainOver K C=true) (ht:PySem.W.takerIn K C name=some none) (hh:PySem.W.hasDictIn K C=true)
  (hw:PySem.Within mA ns) (hsz:ns.length<=sizeLine)
  (h:∀ h',HN h' x dx C (fun y=>if y=name then some v else mA y)->aMa dx s.heap h'->Q () { s with heap:=h',toks:=s.toks+2 }) :
  wpAny (model prog w) A (setAttr (.ref x) name v) Q E s:=by
 obtain ⟨od,J,hl⟩:=I.look;refine PySem.W.set_plain X J hs (PySem.W.osa_open (s:={ s with toks:=s.toks+1 }) (r:=none) X J hp ht fun b=>?_);obtain ⟨cd,hc,hd'⟩:=PySem.W.any_some hh;have hx:s.heap.get? x=some ⟨.ref C,some dx,.plain,#[]⟩:=I.obj;refine wpAny_bind (wpAny_pure (wpAny_bind (wpAny_bind (wpAny_loadPart hx (wpAny_bind (PySem.W.Looks.here (s:={ s with toks:=s.toks+1 }) (PySem.W.looks_clsIn X hc) ?_))))));rw [hd'];refine wpAny_pure (a:=some dx) (wpAny_bind (wpAny_pure (wpAny_bind ?_)));refine wpAny_nsSet1 (s:={ s with toks:=s.toks+1 }) I.ns fun h' hn2 hs2=>?_;obtain ⟨oD,esD,epD,hoD,hdD,hcD⟩:=hn2.count (PySem.Within.cons name v hw);refine wpAny_bind (wpAny_lookBehind hoD (by rw [hdD]; exact pastItsLine_dict (aLv hcD (by rw [aL0]; omega))) ?_);exact wpAny_pure (h _ ⟨(hs2.2 _ (Ne.symm I.ne)).trans I.obj,hn2,I.ne⟩ hs2)
theorem Nk {R:Result->Shared->Prop}{vs:List Value}{kw:List (Str×Value)}(X:K.In s.heap)(hm:PySem.W.makesIn K C=true)
  (hi:PySem.W.findIn K (.ref C) "__init__" = some (some (.ref f))) (hf:PySem.W.typeIn K (.ref f)=some (.type "function"))
  (h:codeAny (model prog w) (A.under (.builtin "type.__call__" ⟨.ref C::vs,kw⟩)) (.call (.ref f) ⟨.ref (s.heap.objs.size+1)::vs,kw⟩) (PySem.W.InitBack (s.heap.objs.size+1) R)
   { s with heap:=(s.heap.push PySem.W.emptyDict).push (PySem.W.instObj C s.heap.objs.size) }) :
  codeAny (model prog w) A (.call (.ref C) ⟨vs,kw⟩) R s:=by
 obtain ⟨hh,g,d,t,os⟩:=s;exact PySem.W.make_core (PySem.W.makes_of X hm) (PySem.W.looks_findIn X hi) (fun self=>PySem.W.bind_fn X self hf) (.inl rfl) h
end
def fJ (f:Str)(v:V):List (Str×V)->List (Str×V)
 | []=>[(f,v)]
 | (g,x)::r=>if g=f then (g,v)::r else (g,x)::fJ f v r
theorem tY (f g:Str)(v:V):∀ fs:List (Str×V),(fJ f v fs).lookup g=if g=f then some v else fs.lookup g
 | []=>by
  show aMY g [(f,v)]=_
  by_cases h:g=f
  ·have hb:(g==f)=true:=beq_iff_eq.mpr h;simp only [aMY,hb,if_pos h]
  ·have hb:(g==f)=false:=beq_eq_false_iff_ne.mpr h;simp only [aMY,hb,if_neg h]
 | (k,x)::r=>by
  have ih:=tY f g v r;rw [show fJ f v ((k,x)::r)=(if k=f then (k,v)::r else (k,x)::fJ f v r) from rfl]
  by_cases hk:k=f
  ·rw [if_pos hk]
   by_cases h:g=k
   ·have hb:(g==k)=true:=beq_iff_eq.mpr h;simp only [aMY,hb,if_pos (h.trans hk)]
   ·have hb:(g==k)=false:=beq_eq_false_iff_ne.mpr h;simp only [aMY,hb,if_neg (fun e:g=f=>h (e.trans hk.symm))]
  ·rw [if_neg hk]
   by_cases h:g=k
   ·have hb:(g==k)=true:=beq_iff_eq.mpr h;simp only [aMY,hb,if_neg (fun e:g=f=>hk (h.symm.trans e))]
   ·have hb:(g==k)=false:=beq_eq_false_iff_ne.mpr h;simp only [aMY,hb];exact ih
theorem q9 (f:Str)(v:V):∀ fs:List (Str×V),f∈(fJ f v fs).map (·.1)/\∀ g,g∈fs.map (·.1)->g∈(fJ f v fs).map (·.1)
 | []=>⟨by simp [fJ],fun g h=>by simp at h⟩
 | (k,x)::r=>by
  obtain ⟨i1,i2⟩:=q9 f v r;rw [show fJ f v ((k,x)::r)=(if k=f then (k,v)::r else (k,x)::fJ f v r) from rfl]
  by_cases hk:k=f
  ·rw [if_pos hk];subst hk;exact ⟨by simp,fun g h=>by simpa using h⟩
  ·rw [if_neg hk];refine ⟨?_,fun g h=>?_⟩
   ·rw [aLw];exact aLp _ i1
   ·rw [aLw] at h ⊢;rcases aLF.mp h with e | e
    ·exact aLF.mpr (.inl e)
    ·exact aLp _ (i2 g e)
theorem sW (f:Str)(v:V):∀ fs:List (Str×V),(fJ f v fs).length<=fs.length+1
 | []=>by simp [fJ]
 | (k,x)::r=>by
  have ih:=sW f v r;rw [show fJ f v ((k,x)::r)=(if k=f then (k,v)::r else (k,x)::fJ f v r) from rfl]
  by_cases hk:k=f
  ·rw [if_pos hk,aL0,aL0]; omega
  ·rw [if_neg hk,aL0,aL0]; omega
theorem mH.some_of {v:V}{o:Option Value}(r:mH (some v) o):∃ u,o=some u/\RelV v u:=by
 cases o with
 | none=>exact (show False from r).elim
 | some u=>exact ⟨u,rfl,r⟩
theorem mH.none_of {o:Option Value}(r:mH none o):o=none:=by
 cases o with
 | none=>rfl
 | some u=>exact (show False from r).elim
theorem K3 {v:V}{u:Value}(r:RelV v u):PySem.W.handedIn u=true:=by
 cases v with
 | non=>cases (show u=Value.none from r); rfl
 | bl b=>cases (show u=Value.bool b from r); rfl
 | int i=>obtain ⟨t,e⟩:=(show ∃ t,u=Value.int i t from r); cases e; rfl
 | str x=>obtain ⟨t,e⟩:=(show ∃ t,u=Value.str x t from r); cases e; rfl
 | byt b=>obtain ⟨t,e⟩:=(show ∃ t,u=Value.bytes b t from r); cases e; rfl
 | flt b=>obtain ⟨t,e⟩:=(show ∃ t,u=Value.float b t from r); cases e; rfl
 | ref a=>cases (show u=Value.ref a from r); rfl
 | ty n=>cases (show u=Value.type n from r); rfl
section
variable {P:Program}{w:World}{H H':Hp}{h h':Heap}{a C dx:Addr}{fs fs':List (Str×V)}
theorem qC (hok:nW P w H h)(e:H a=some (.ins C dx fs)):∃ mA,HN h a dx C mA/\(∀ f,mH (fs.lookup f) (mA f))/\PySem.Within mA (fs.map (·.1))/\fs.length<=1000/\H dx=some (.own a):=by
 obtain ⟨d,z,ne,ob,mA,n,r,q⟩:=(show cJ P w H h a (.ins C dx fs) from hok a _ e)
 exact ⟨mA,⟨ob,n,ne⟩,r,q,z,d⟩
end
structure tM (K:PySem.W.Frag)(C:Addr):Prop where
 pg:PySem.W.plainGet K C Str.empty=true
 hd:PySem.W.hasDictIn K C=true
 po:PySem.W.plainOver K C=true
 sa:PySem.W.findIn K (.ref C) "__setattr__" = some (some (.builtin "object.__setattr__"))
theorem tM.get {K:PySem.W.Frag}{C:Addr}(c:tM K C)(f:Str):PySem.W.plainGet K C f=true:=c.pg
def cB (K:PySem.W.Frag)(C:Addr)(f:Str):Prop:=PySem.W.findIn K (.ref C) f=some none
theorem cB.taker {K:PySem.W.Frag}{C:Addr}{f:Str}(n:cB K C f):PySem.W.takerIn K C f=some none:=by
 unfold PySem.W.takerIn;rw [show PySem.W.findIn K (.ref C) f=some none from n]
 rfl
structure fD (K:PySem.W.Frag)(C:Addr)(m:Str)(f:Addr):Prop where
 at_:PySem.W.findIn K (.ref C) m=some (some (.ref f))
 fn:PySem.W.isFn K (.ref f)=true
 kp:PySem.W.keepIn K (.ref f)=true
section
variable {X:Cx}{pins:List (Addr×Obj)}{σ:St}{H:Hp}{s:Shared}{a C dx:Addr}{fs:List (Str×V)}{f:Str}{v:V}{A:Around}{E:Value->Shared->Prop}
theorem Ff {b:Bool}{Q:Value->Shared->Prop}(I:bD X pins σ H s)(e:H a=some (.ins C dx fs))(c:tM X.K C)(n:cB X.K C f)(l:fs.lookup f=some v)
  (h:∀ u s',bD X pins σ H s'->RelV v u->Q u s'):wpAny (model X.prog X.w) A (getAttr (.ref a) f b) Q E s:=by
 obtain ⟨mA,O,r,_,_,_⟩:=qC I.hok e;obtain ⟨u,hu,ru⟩:=mH.some_of (v:=v) (o:=mA f) (by rw [<- l]; exact r f);exact Om I.kIn O (c.get f) c.hd n hu (K3 ru) (h u _ (I.tok _) ru)
theorem o9 {m:Str}{g:Addr}{pl:Sem Bool}{Q:Value×List Value->Shared->Prop}(I:bD X pins σ H s)(e:H a=some (.ins C dx fs))(c:tM X.K C)(k:fD X.K C m g)(l:fs.lookup m=none)
  (h:Q (.ref g,[.ref a]) s):wpAny (model X.prog X.w) A (getMethod (.ref a) m pl) Q E s:=by
 obtain ⟨mA,O,r,_,_,_⟩:=qC I.hok e;have hn:mA m=none:=mH.none_of (by rw [<- l]; exact r m);exact NB I.kIn O (c.get m) k.at_ k.fn hn h
theorem Fy {y:V}{u:Value}{Q:Unit->Shared->Prop}(I:bD X pins σ H s)(e:H a=some (.ins C dx fs))(c:tM X.K C)(n:cB X.K C f)(hl:fs.length<1000)(ry:RelV y u)
  (h:∀ s',bD X pins σ (aX H a (.ins C dx (fJ f y fs))) s'->Q () s'):wpAny (model X.prog X.w) A (setAttr (.ref a) f u) Q E s:=by
 obtain ⟨mA,O,r,wi,_,ho⟩:=qC I.hok e;have hz:(fs.map (·.1)).length<=sizeLine:=by rw [aLo,sizeLine_eq]; omega
 refine Ow I.kIn O c.sa c.po n.taker c.hd wi hz fun h' O' sb=>h _ ?_;have hd:∃ o,h'.get? dx=some o:=let ⟨o,_,_,e',_⟩:=O'.ns; ⟨o,e'⟩;refine I.write (x:=a) (e:=dx) (by rw [e]; exact True.intro) (.inr ho) (fun b q hb z=>(sb.2 b hb).trans z) hd ?_;refine ⟨by rw [aO O.ne]; exact ho,?_,O.ne,O'.obj,_,O'.ns,fun g=>?_,fun g hg=>?_⟩
 ·have:=sW f y fs; omega
 ·show mH ((fJ f y fs).lookup g) (if g=f then some u else mA g);rw [tY]
  by_cases q:g=f
  ·rw [if_pos q,if_pos q]; exact ry
  ·rw [if_neg q,if_neg q]; exact r g
 ·by_cases q:g=f
  ·rw [q]; exact (q9 f y fs).1
  ·refine (q9 f y fs).2 g (wi g fun z=>hg ?_);show (if g=f then some u else mA g)=none;rw [if_neg q]; exact z
theorem bD.made (I:bD X pins σ H s):bD X pins σ (aX (aX H s.heap.objs.size (.own (s.heap.objs.size+1))) (s.heap.objs.size+1) (.ins C s.heap.objs.size []))
  { s with heap:=(s.heap.push PySem.W.emptyDict).push (PySem.W.instObj C s.heap.objs.size) }:=by
 have e1:(s.heap.push PySem.W.emptyDict).get? s.heap.objs.size=some PySem.W.emptyDict:=aLJ s.heap rfl;have e2:((s.heap.push PySem.W.emptyDict).push (PySem.W.instObj C s.heap.objs.size)).get? (s.heap.objs.size+1)=some (PySem.W.instObj C s.heap.objs.size):=by
  have:=aLJ (s.heap.push PySem.W.emptyDict) (o:=PySem.W.instObj C s.heap.objs.size) rfl
  rwa [aNV] at this
 have e3:(s.heap.push PySem.W.emptyDict).Ns s.heap.objs.size (fun _=>none):=⟨PySem.W.emptyDict,#[],_,e1,rfl,(fun e he=>absurd he (by simp)),fun _=>rfl⟩
 have I1:=I.laid (a:=s.heap.objs.size) (o:=.own (s.heap.objs.size+1)) (h':=s.heap.push PySem.W.emptyDict) (t':=s.toks) (fun b u q=>aLt _ q) (aLu _) ⟨_,e1⟩;refine I1.laid (a:=s.heap.objs.size+1) (o:=.ins C s.heap.objs.size []) (t':=s.toks) (fun b u q=>aLt _ q) (aNK (aNV _ _)) ?_;have ne:s.heap.objs.size≠s.heap.objs.size+1:=aLR (aNj _);refine ⟨by rw [aO ne,aC],aLQ _,ne,e2,fun _=>none,(Heap.Ns1.of_empty e3).at fun o q=>aLt _ q,fun _=>True.intro,fun y hy=>absurd rfl hy⟩
theorem QK {prog:Program}{w:World}{env:Env}{e:Expr}{f:Str}{pos:Pos}{s:Shared}{Q:Value->Shared->Prop}(hb:attributeBase e f env (eval e env)=eval e env)
  (h:wpAny (model prog w) A (eval e env) (fun o s₁=>wpAny (model prog w) A (getAttr o f true) Q E s₁) E s):wpAny (model prog w) A (eval (.Attribute e f pos) env) Q E s :=
 Attribute_any_ h (by rw [arm_eval_Attribute,hb])
end
def Xh (K:PySem.W.Frag)(ta:TE)(f:Str):TE:=fun σ H Q=>ta σ H fun x H1=>∃ a C dx fs v,x=.ref a/\H1 a=some (.ins C dx fs)/\tM K C/\cB K C f/\fs.lookup f=some v/\Q v H1
def aD7 (K:PySem.W.Frag)(ta tv:TE)(f:Str):TS:=fun D σ H=>tv σ H fun y H1=>ta σ H1 fun x H2=>∃ a C dx fs,x=.ref a/\H2 a=some (.ins C dx fs)/\tM K C/\cB K C f/\fs.length<1000 ∧
 D.nx σ (aX H2 a (.ins C dx (fJ f y fs)))
section
variable {X:Cx}{o e value:Expr}{f:Str}{pos pos' tpos:Pos}{ta tv:TE}
theorem j7 (he:PE X e ta)(hb:attributeBase e f X.env (eval e X.env)=eval e X.env):PE X (.Attribute e f pos) (Xh X.K ta f):=by
 intro pins s σ H Q I h;refine QK hb (d7 (he pins s σ H _ I h) fun u s1 ⟨x,H1,I1,rx,a,C,dx,fs,v,ex,ea,c,n,l,q⟩=>?_);subst ex;obtain rfl:u=Value.ref a:=rx;exact Ff I1 ea c n l fun u' s2 I2 ru=>⟨v,H1,I2,ru,q⟩
theorem gB (ha:PE X o ta)(hv:PE X value tv)(hs:swapsWith value (some (.Attribute o f pos')) pos.line X.env=pure false):PS X (.Assign [.Attribute o f pos'] value pos) (aD7 X.K ta tv f):=by
 intro pins s σ H D I h;refine plainObj_wpAny_Assign_Attribute (d7 (hv pins s σ H _ I h) fun u s1 ⟨y,H1,I1,ry,q⟩=>d7 (ha pins s1 σ H1 _ I1 q) fun ov s2 ⟨x,H2,I2,rx,a,C,dx,fs,ex,ea,c,n,l,q2⟩=>?_) hs;subst ex;obtain rfl:ov=Value.ref a:=rx;exact Fy I2 ea c n l ry fun s3 I3=>⟨σ,_,I3,q2⟩
theorem Qp {pl:Sem Bool}{m:Str}{apos:Pos}{args:List Expr}{pins:List (Addr×Obj)}{s:Shared}{σ:St}{H:Hp}{Q:Value->Shared->Prop}{te:TE}(he:PE X e te)(I:bD X pins σ H s)
  (h:te σ H fun x H1=>∃ a C dx fs g,x=.ref a/\H1 a=some (.ins C dx fs)/\tM X.K C/\fD X.K C m g/\fs.lookup m=none ∧
   ∀ s1,bD X pins σ H1 s1->wpAny (model X.prog X.w) X.A (callWith pos (.ref g) [.ref a] (backTo pos (starEach args X.env)) (backToKw pos (keywordEach [] X.env))) Q X.xe s1)
  (ht:eval (.Call (.Attribute e m apos) args [] pos) X.env=(do
   let ov <- eval e X.env
   standAt apos.atName
   let (f,first) <- holding [ov] (getMethod ov m pl)
   callWith pos f first (backTo pos (starEach args X.env)) (backToKw pos (keywordEach [] X.env)))) :
  wpAny (model X.prog X.w) X.A (eval (.Call (.Attribute e m apos) args [] pos) X.env) Q X.xe s:=by
 refine PySem.W.methodCall_KW (pl:=pl) (d7 (he pins s σ H _ I h) fun u s1 ⟨x,H1,I1,rx,a,C,dx,fs,g,ex,ea,c,k,l,q⟩=>?_) ht;subst ex;obtain rfl:u=Value.ref a:=rx;exact o9 I1 ea c k l (q s1 I1)
end
section
variable {X:Cx}{pins:List (Addr×Obj)}{σ:St}{H:Hp}{s:Shared}{A:Around}{E:Value->Shared->Prop}{Q:Value->Shared->Prop}{c:Value}{b:Bool}
inductive iB (K:PySem.W.Frag)(H:Hp):V->Value->Prop where
 | non:iB K H .non (.type "NoneType")
 | bl (x:Bool):iB K H (.bl x) (.type "bool")
 | int (i:Int):iB K H (.int i) (.type "int")
 | str (x:Str):iB K H (.str x) (.type "str")
 | flt (x:UInt64):iB K H (.flt x) (.type "float")
 | lst {a:Addr}{xs:List V} (e:H a=some (.lst xs)):iB K H (.ref a) (.type "list")
 | frz {a:Addr}{o:Obj}{xs:List V} (e:H a=some (.frz o (.lst xs))):iB K H (.ref a) (.type "list")
 | tup {a:Addr}{xs:List V} (e:H a=some (.tup xs)):iB K H (.ref a) (.type "tuple")
 | dK {a:Addr}{kvs:List (Key×V)} (e:H a=some (.dK kvs)):iB K H (.ref a) (.type "dict")
 | dT {a:Addr}{kvs:List (List Key×V)} (e:H a=some (.dT kvs)):iB K H (.ref a) (.type "dict")
 | ins {a C dx:Addr}{fs:List (Str×V)} (e:H a=some (.ins C dx fs)) (cl:tM K C) (ha:PySem.W.findIn K (.ref C) "__class__" = some (some (.builtin "object.__class__")))
   (hn:PySem.W.specialIn K (.builtin "object.__class__") "__get__" = some (some (.builtin "getset_descriptor.__get__"))) (htk:PySem.W.takesIn K (.builtin "object.__class__")=some true)
   (hm:PySem.W.mroIn K C (.type "object")=some true):iB K H (.ref a) (.ref C)
theorem yX {x:V}{u t:Value}(I:bD X pins σ H s)(rx:RelV x u)(ty:iB X.K H x t)(e:PySem.W.kitOne X.K t c=some b)(h:∀ tk,Q (.bool b) { s with toks:=tk }) :
  wpAny (model X.prog X.w) A (call (.builtin "isinstance") [u,c]) Q E s:=by
 cases ty with
 | non=>cases (show u=Value.none from rx); exact PySem.W.kia_one PySem.W.kitx_none I.kIn True.intro e (fun z=>nomatch z) h
 | bl y=>cases (show u=Value.bool y from rx); exact PySem.W.kia_one PySem.W.kitx_bool I.kIn True.intro e (fun z=>nomatch z) h
 | int i=>obtain ⟨t,q⟩:=(show ∃ t,u=Value.int i t from rx); cases q; exact PySem.W.kia_one PySem.W.kitx_int I.kIn True.intro e (fun z=>nomatch z) h
 | str y=>obtain ⟨t,q⟩:=(show ∃ t,u=Value.str y t from rx); cases q; exact PySem.W.kia_one PySem.W.kitx_str I.kIn True.intro e (fun z=>nomatch z) h
 | flt y=>obtain ⟨t,q⟩:=(show ∃ t,u=Value.float y t from rx); cases q; exact PySem.W.kia_one PySem.W.kitx_float I.kIn True.intro e (fun z=>nomatch z) h
 | @lst a xs ea =>
  cases (show u=Value.ref a from rx);obtain ⟨_,_,n,_,h1⟩:=(show cJ X.prog X.w H s.heap a (.lst xs) from I.hok a _ ea)
  exact PySem.W.kia_one PySem.W.kitx_list I.kIn ⟨_,h1,rfl⟩ e (fun z=>nomatch z) h
 | @frz a ob xs ea =>
  cases (show u=Value.ref a from rx);obtain ⟨_,_,_,n,_,h1⟩:=(show cJ X.prog X.w H s.heap a (.frz ob (.lst xs)) from I.hok a _ ea)
  exact PySem.W.kia_one PySem.W.kitx_list I.kIn ⟨_,h1,rfl⟩ e (fun z=>nomatch z) h
 | @tup a xs ea =>
  cases (show u=Value.ref a from rx);obtain ⟨_,_,_,p⟩:=(show cJ X.prog X.w H s.heap a (.tup xs) from I.hok a _ ea)
  obtain ⟨o,h1,h2,_⟩:=p;exact PySem.W.kia_one PySem.W.kitx_tuple I.kIn ⟨o,h1,h2⟩ e (fun z=>nomatch z) h
 | @dK a kvs ea =>
  cases (show u=Value.ref a from rx);obtain ⟨_,_,vs,_,p⟩:=(show cJ X.prog X.w H s.heap a (.dK kvs) from I.hok a _ ea)
  obtain ⟨o,es,ep,h1,h2,_⟩:=p;exact PySem.W.kia_one PySem.W.kitx_dict I.kIn ⟨o,h1,h2.1⟩ e (fun z=>nomatch z) h
 | @dT a kvs ea =>
  cases (show u=Value.ref a from rx);obtain ⟨_,_,xs,_,o,es,ep,h1,h2,_⟩:=(show cJ X.prog X.w H s.heap a (.dT kvs) from I.hok a _ ea)
  exact PySem.W.kia_one PySem.W.kitx_dict I.kIn ⟨o,h1,h2.1⟩ e (fun z=>nomatch z) h
 | @ins a C dx fs ea cl ha hn htk hm =>
  cases (show u=Value.ref a from rx);obtain ⟨mA,O,_⟩:=qC I.hok ea;obtain ⟨od,J,_⟩:=O.look;exact PySem.W.kia_one (PySem.W.kitx_own (cl.get _) cl.hd ha hn htk hm) I.kIn J e (fun z=>nomatch z) h
end
structure fV (k:Nat)(A:Around):Prop where
 hd:A.handled=none
 dp:A.depth+3*k+5<recursionLimit
 un:A.units+16*k+200<cLine
theorem fV.mono {j k:Nat}{A:Around}(r:fV k A)(h:j<=k):fV j A:=⟨r.hd,by have:=r.dp; omega,by have:=r.un; omega⟩
theorem fV.deeper {k:Nat}{A:Around}(r:fV (k+1) A)(env:Env):fV k (A.deeper env) :=
 ⟨r.hd,by have:=r.dp; show A.depth+1+3*k+5<_; omega,by have:=r.un; show A.units+3+16*k+200<_; omega⟩
theorem HW {A:Around}{C:Addr}{us:List Value}{kw:List (Str×Value)}:(A.under (.builtin "type.__call__" ⟨.ref C::us,kw⟩)).depth=A.depth+1:=by
 first | rfl | simp [Around.under,Code.weight,Code.isCreation,Code.isGuard,Code.isCaller,Code.frames,Code.isFrame,guardIds]
theorem Gm {A:Around}{C:Addr}{us:List Value}{kw:List (Str×Value)}:(A.under (.builtin "type.__call__" ⟨.ref C::us,kw⟩)).units=A.units+1:=by
 first | rfl | simp [Around.under,Code.cUnits,Code.frames,Code.isFrame]
theorem fV.make {k:Nat}{A:Around}(r:fV (k+1) A)(C:Addr)(us:List Value)(kw:List (Str×Value)):fV k (A.under (.builtin "type.__call__" ⟨.ref C::us,kw⟩)) :=
 ⟨r.hd,by have:=r.dp; rw [HW]; omega,by have:=r.un; rw [Gm]; omega⟩
theorem fV.depth {k:Nat}{A:Around}(r:fV k A):A.depth<recursionLimit:=by have:=r.dp; omega
theorem fV.units {k:Nat}{A:Around}(r:fV k A):A.units+64<cLine:=by have:=r.un; omega
theorem fV.units0 {k:Nat}{A:Around}(r:fV k A):A.units<cLine:=by have:=r.un; omega
def xJ:TA:=fun _ H Q=>Q [] H
def zB (ta:TE)(tr:TA):TA:=fun σ H Q=>ta σ H fun x H1=>tr σ H1 fun xs H2=>Q (x::xs) H2
section
variable {X:Cx}{e:Expr}{es:List Expr}{te:TE}{t:TA}{pos:Pos}
theorem aD:PA X [] xJ:=fun _ _ _ _ H Q I h=>Calls.spliced_nil ⟨[],H,I,.nil,h⟩
theorem aA (ha:PE X e te)(hr:PA X es t)(hs:starEach (e::es) X.env=(false,eval e X.env)::starEach es X.env:=by rfl):PA X (e::es) (zB te t):=by
 intro pos pins s σ H Q I h;rw [hs];show wpAny _ _ (spliced ((false,eval e X.env)::backTo pos (starEach es X.env))) _ _ s;refine Calls.spliced_cons (d7 (ha pins s σ H _ I h) fun u s1 ⟨x,H1,I1,r1,q1⟩=>?_);exact d7 (hr pos pins s1 σ H1 _ I1 q1) fun us s2 ⟨xs,H2,I2,r2,q2⟩=>⟨x::xs,H2,I2,.cons r1 r2,q2⟩
def aEv (t:TA):TE:=fun σ H Q=>t σ H fun xs H1=>xs.length<=sizeLine/\∀ p,H1 p=none->Q (.ref p) (aX H1 p (.tup xs))
def aE5 (t:TA):TE:=fun σ H Q=>t σ H fun xs H1=>xs.length<=sizeLine/\∀ p,H1 p=none->Q (.ref p) (aX H1 p (.lst xs))
theorem dN {x1}(h:PA X es t):PE X (.Tuple es x1 pos) (aEv t):=by
 intro pins s σ H Q I hq;refine wpAny_Tuple_spliced (d7 (h pos pins s σ H _ I hq) fun us s1 ⟨xs,H1,I1,r,z,q⟩=>⟨by rw [<- r.length]; exact z,?_⟩);have hf:H1 s1.heap.objs.size=none:=I1.hok.fresh (aLu _);refine ⟨.ref s1.heap.objs.size,aX H1 s1.heap.objs.size (.tup xs),I1.laid (t':=s1.toks) (fun b u e=>aLt _ e) (aLu _) ?_,rfl,q _ hf⟩;exact ⟨z,us,r,⟨_,aLJ _ rfl,rfl,_,rfl⟩⟩
theorem dM (h:PA X es t):PE X (.List es pos) (aE5 t):=by
 intro pins s σ H Q I hq;refine wpAny_List_spliced (d7 (h pos pins s σ H _ I hq) fun us s1 ⟨xs,H1,I1,r,z,q⟩=>⟨by rw [<- r.length]; exact z,?_⟩);have hf:H1 s1.heap.objs.size=none:=I1.hok.fresh (aLu _);refine ⟨.ref s1.heap.objs.size,aX H1 s1.heap.objs.size (.lst xs),I1.laid (t':=s1.toks) (fun b u e=>aLt _ e) (aLu _) ?_,rfl,q _ hf⟩;exact ⟨z,us,0,r,aLJ _ rfl⟩
end
abbrev Sp:=List V->Hp->VK->XK->Prop
abbrev Bg:=List Env->Hp->Shared->XK->Value->Shared->Prop
structure Gq (P:Program)(w:World)(K:PySem.W.Frag)(mg:Str->Option Value)(base:Heap)(A:Around)(outer:List Env)(s:Shared)(H:Hp):Prop where
 frames:A.frames=some outer
 mod:Mod K mg base
 bs:∀ b o,base.get? b=some o->s.heap.get? b=some o/\H b=none
 bsz:base.objs.size<=s.heap.objs.size
 funs:s.heap.FunFrames base outer
 frf:∀ b∈rG outer,H b=none
 hok:nW P w H s.heap
 bare:AllBare s.gens
def CE (outer:List Env)(P:Program)(w:World)(H:Hp)(s:Shared)(Q:VK)(u:Value)(s':Shared):Prop :=
 ∃ v H',s'.os=s.os/\AllBare s'.gens/\Un (rG outer) [] H H' s.heap s'.heap/\nW P w H' s'.heap/\RelV v u/\Q v H'
def CR (CX:Bg)(outer:List Env)(P:Program)(w:World)(H:Hp)(s:Shared)(Q:VK)(E:XK)(r:Result)(s':Shared):Prop :=
 match r with
 | .ok (.ret u)=>CE outer P w H s Q u s'
 | .ok _=>False
 | .error e=>CX outer H s E e s'
structure aY (P:Program)(w:World)(K:PySem.W.Frag)(mg:Str->Option Value)(base:Heap)(CX:Bg)(k:Nat)(f:Addr)(fd:FuncData)(ps:List Str)(sp:Sp):Prop where
 len:∀ vs H Q E,sp vs H Q E->vs.length=ps.length
 run:∀ (A:Around) (outer:List Env) (s:Shared) (H:Hp) (args:Args) (us:List Value) (vs:List V) (Q:VK) (E:XK),fV k A->Gq P w K mg base A outer s H->BindsTo s fd args (ps.zip us)->b8 vs us->sp vs H Q E ->
  codeAny (model P w) A (.call (.ref f) args) (CR CX outer P w H s Q E) s
theorem aY.mono {P:Program}{w:World}{K:PySem.W.Frag}{mg:Str->Option Value}{base:Heap}{CX:Bg}{j k:Nat}{f:Addr}{fd:FuncData}{ps:List Str}{sp:Sp}(F:aY P w K mg base CX j f fd ps sp)(h:j<=k) :
  aY P w K mg base CX k f fd ps sp:=⟨F.len,fun A outer s H args us vs Q E hr=>F.run A outer s H args us vs Q E (hr.mono h)⟩
theorem aY.imp {P:Program}{w:World}{K:PySem.W.Frag}{mg:Str->Option Value}{base:Heap}{CX:Bg}{k:Nat}{f:Addr}{fd:FuncData}{ps:List Str}{sp sp':Sp}(F:aY P w K mg base CX k f fd ps sp)
  (h:∀ vs H Q E,sp' vs H Q E->sp vs H Q E):aY P w K mg base CX k f fd ps sp' :=
 ⟨fun vs H Q E q=>F.len vs H Q E (h _ _ _ _ q),fun A outer s H args us vs Q E hr he hb hv hs=>F.run A outer s H args us vs Q E hr he hb hv (h _ _ _ _ hs)⟩
theorem Gq.make {P:Program}{w:World}{K:PySem.W.Frag}{mg:Str->Option Value}{base:Heap}{A:Around}{outer:List Env}{s:Shared}{H:Hp}(e:Gq P w K mg base A outer s H)(C:Addr)(us:List Value)(kw:List (Str×Value)) :
  Gq P w K mg base (A.under (.builtin "type.__call__" ⟨.ref C::us,kw⟩)) outer s H:=⟨by first | exact e.frames | (simpa [Around.under,Code.envs,Code.isFrame,pushEnvs] using e.frames),e.mod,e.bs,e.bsz,e.funs,e.frf,e.hok,e.bare⟩
section
variable {X:Cx}{pins:List (Addr×Obj)}{σ:St}{H:Hp}{s s':Shared}
theorem bD.env0 (I:bD X pins σ H s):Gq X.prog X.w X.K X.mg X.base X.A X.stack s H :=
 ⟨I.ok.frames,I.ok.mod,I.bs,aLv I.ok.bsz I.sz,I.stack,I.stkFree,I.hok,I.bare⟩
theorem bD.after {Q:VK}{u:Value}(I:bD X pins σ H s)(h:CE X.stack X.prog X.w H s Q u s'):EP X pins σ Q u s':=by
 obtain ⟨v,H',os,bare,un,hok,r,q⟩:=h;obtain ⟨hh,g,d,t,os'⟩:=s';obtain rfl:os'=s.os:=os;exact ⟨v,H',I.call (h':=hh) (g':=g) (d':=d) (t':=t) (ch:=[]) un hok bare (fun b z=>absurd z (by simp)),r,q⟩
end
def Ex (sp:Sp)(dvs:List V)(E:XK)(t:TA):TE:=fun σ H Q=>t σ H fun vs H1=>sp (vs++dvs) H1 Q E
def pG (C:Addr)(m:Str)(sp:Sp)(dvs:List V)(E:XK)(ta:TE)(t:TA):TE:=fun σ H Q=>ta σ H fun x H1=>∃ a dx fs,x=.ref a/\H1 a=some (.ins C dx fs)/\fs.lookup m=none ∧
 t σ H1 fun vs H2=>sp (x::(vs++dvs)) H2 Q E
def Wa (C:Addr)(sp:Sp)(dvs:List V)(E:XK)(t:TA):TE:=fun σ H Q=>t σ H fun vs H1=>∀ x dx,H1 x=none->H1 dx=none->dx≠x ->
 sp (.ref x::(vs++dvs)) (aX (aX H1 dx (.own x)) x (.ins C dx [])) (fun v H2=>v=.non/\Q (.ref x) H2) E
def Binds (K:PySem.W.Frag)(fd:FuncData)(ps:List Str)(ds:List Value):Prop :=
 ∀ (s:Shared) (us:List Value),K.In s.heap->(us++ds).length=ps.length->BindsTo s fd ⟨us,[]⟩ (ps.zip (us++ds))
theorem Binds.all {K:PySem.W.Frag}{fd:FuncData}{ps:List Str}(h:∀ us:List Value,us.length=ps.length->bindArgs fd ⟨us,[]⟩=pure (ps.zip us)):Binds K fd ps []:=fun s us _ hl=>by
 rw [aMN] at hl ⊢;exact .of_eq (h us hl)
def jL (CX:Bg)(X:Cx)(E:XK):Prop:=∀ (pins:List (Addr×Obj)) (σ:St) (H:Hp) (s:Shared) (e:Value) (s':Shared),bD X pins σ H s->CX X.stack H s E e s'->X.xe e s'
section
variable {X:Cx}{CX:Bg}{k:Nat}{f C:Addr}{fd:FuncData}{ps:List Str}{sp:Sp}{dvs:List V}{ds:List Value}{E:XK}{x m:Str}{p pos apos:Pos}{e o:Expr}{es:List Expr}{ta:TE}{t:TA}
theorem Bu {pins:List (Addr×Obj)}{σ:St}{H:Hp}{s:Shared}{Q:VK}{us:List Value}{vs:List V}(F:aY X.prog X.w X.K X.mg X.base CX k f fd ps sp)(hr:fV k X.A)(hb:Binds X.K fd ps ds)(hd:b8 dvs ds)(hx:jL CX X E)
  (I:bD X pins σ H s) (r:b8 vs us) (h:sp (vs++dvs) H Q E):wpAny (model X.prog X.w) X.A (call (.ref f) us) (EP X pins σ Q) X.xe s:=by
 have r2:b8 (vs++dvs) (us++ds):=r.append hd;have hl:(us++ds).length=ps.length:=by rw [<- r2.length]; exact F.len _ _ _ _ h
 refine wpAny_call (codeAny_mono (F.run X.A X.stack s H ⟨us,[]⟩ (us++ds) (vs++dvs) Q E hr I.env0 (hb s us I.kIn hl) r2 h) fun r s' hq=>?_);cases r with
 | error e=>exact hx pins σ H s e s' I hq
 | ok fl =>
  cases fl with
  | ret u=>exact I.after hq
  | next=>exact False.elim hq
  | brk=>exact False.elim hq
  | cont=>exact False.elim hq
theorem IK (F:aY X.prog X.w X.K X.mg X.base CX k f fd ps sp)(hr:fV k X.A)(hg:Gl X x)(hm:X.mg x=some (.ref f))(hk:PySem.W.keepIn X.K (.ref f)=true)(hb:Binds X.K fd ps ds)(hd:b8 dvs ds)(hx:jL CX X E)
  (ha:PA X (e::es) t) (hdb:(x==("__debug__" : Str))=false:=by decide) (he:starEach (e::es) X.env=(false,eval e X.env)::starEach es X.env:=by rfl) (hpl:(backTo pos (starEach es X.env)).any (·.1)=false:=by rfl) :
  PE X (.Call (.Name x p) (e::es) [] pos) (Ex sp dvs E t):=by
 intro pins s σ H Q I h;refine wpAny_Call_Name_kw (qO I hg hm ?_ hdb);refine PySem.W.callWith_K (h₀:=X.base) I.ok.mod.kin hk (d7 (ha pos pins s σ H _ I h) fun us s1 ⟨vs,H1,I1,r,q⟩=>⟨I1.kIn,?_⟩) he hpl;exact Bu F hr hb hd hx I1 r q
theorem eG {pl:Sem Bool}(he:PE X o ta)(c:tM X.K C)(hm:fD X.K C m f)(F:aY X.prog X.w X.K X.mg X.base CX k f fd ps sp)(hr:fV k X.A)(hb:Binds X.K fd ps ds)(hd:b8 dvs ds)(hx:jL CX X E)(ha:PA X (e::es) t)
  (hst:starEach (e::es) X.env=(false,eval e X.env)::starEach es X.env:=by rfl) (hpl:(backTo pos (starEach es X.env)).any (·.1)=false:=by rfl)
  (ht:eval (.Call (.Attribute o m apos) (e::es) [] pos) X.env=(do
   let ov <- eval o X.env
   standAt apos.atName
   let (f,first) <- holding [ov] (getMethod ov m pl)
   callWith pos f first (backTo pos (starEach (e::es) X.env)) (backToKw pos (keywordEach [] X.env))):=by rfl) :
  PE X (.Call (.Attribute o m apos) (e::es) [] pos) (pG C m sp dvs E ta t):=by
 intro pins s σ H Q I h;refine PySem.W.methodCall_KW (pl:=pl) (d7 (he pins s σ H _ I h) fun u s1 ⟨x,H1,I1,rx,a,dx,fs,ex,ea,l,q⟩=>?_) ht;subst ex;obtain rfl:u=Value.ref a:=rx;refine o9 I1 ea c hm l ?_;refine PySem.W.callWith_K (first:=[.ref a]) (h₀:=X.base) I.ok.mod.kin hm.kp (d7 (ha pos pins s1 σ H1 _ I1 q) fun us s2 ⟨vs,H2,I2,r,q2⟩=>⟨I2.kIn,?_⟩) hst hpl;exact Bu (us:=.ref a::us) (vs:=.ref a::vs) F hr hb hd hx I2 (.cons rfl r) q2
theorem eZ {pl:Sem Bool}(he:PE X o ta)(c:tM X.K C)(hm:fD X.K C m f)(F:aY X.prog X.w X.K X.mg X.base CX k f fd ps sp)(hr:fV k X.A)(hb:Binds X.K fd ps ds)(hd:b8 dvs ds)(hx:jL CX X E)
  (ht:eval (.Call (.Attribute o m apos) [] [] pos) X.env=(do
   let ov <- eval o X.env
   standAt apos.atName
   let (f,first) <- holding [ov] (getMethod ov m pl)
   callWith pos f first (backTo pos (starEach [] X.env)) (backToKw pos (keywordEach [] X.env))):=by rfl) :
  PE X (.Call (.Attribute o m apos) [] [] pos) (pG C m sp dvs E ta xJ):=by
 intro pins s σ H Q I h;refine PySem.W.methodCall_KW (pl:=pl) (d7 (he pins s σ H _ I h) fun u s1 ⟨x,H1,I1,rx,a,dx,fs,ex,ea,l,q⟩=>?_) ht;subst ex;obtain rfl:u=Value.ref a:=rx;refine o9 I1 ea c hm l ?_;exact PySem.W.callWith_K0 (first:=[.ref a]) I1.kIn hm.kp (Bu (us:=[.ref a]) (vs:=[.ref a]) F hr hb hd hx I1 (.cons rfl .nil) q)
structure Mk (K:PySem.W.Frag)(C f:Addr):Prop where
 makes:PySem.W.makesIn K C=true
 init:PySem.W.findIn K (.ref C) "__init__" = some (some (.ref f))
 fn:PySem.W.isFn K (.ref f)=true
 kp:PySem.W.keepIn K (.ref C)=true
theorem Kl {pins:List (Addr×Obj)}{σ:St}{H:Hp}{s:Shared}{Q:VK}{us:List Value}{vs:List V}(M:Mk X.K C f)(F:aY X.prog X.w X.K X.mg X.base CX k f fd ps sp)(hr:fV (k+1) X.A)(hb:Binds X.K fd ps ds)(hd:b8 dvs ds)
  (hx:jL CX X E) (I:bD X pins σ H s) (r:b8 vs us)
  (h:∀ x dx,H x=none->H dx=none->dx≠x->sp (.ref x::(vs++dvs)) (aX (aX H dx (.own x)) x (.ins C dx [])) (fun v H2=>v=.non/\Q (.ref x) H2) E) :
  wpAny (model X.prog X.w) X.A (call (.ref C) us) (EP X pins σ Q) X.xe s:=by
 have hq:=h (s.heap.objs.size+1) s.heap.objs.size (I.hok.fresh (aNa _)) (I.hok.fresh (aLu _)) (aLR (aNj _));have I2:=bD.made (C:=C) I;have r2:b8 (V.ref (s.heap.objs.size+1)::(vs++dvs)) (Value.ref (s.heap.objs.size+1)::(us++ds)):=.cons rfl (r.append hd);have hl:(Value.ref (s.heap.objs.size+1)::us++ds).length=ps.length:=by
  have e:=r2.length;rw [F.len _ _ _ _ hq] at e;exact e.symm
 refine wpAny_call (Nk (f:=f) I.kIn M.makes M.init (beq_iff_eq.mp M.fn) (codeAny_mono (F.run _ X.stack _ _ ⟨Value.ref (s.heap.objs.size+1)::us,[]⟩ (Value.ref (s.heap.objs.size+1)::(us++ds)) _ _ E (hr.make C us [])
  (I2.env0.make C us []) (hb _ (Value.ref (s.heap.objs.size+1)::us) I2.kIn hl) r2 hq) fun r s' hq'=>?_))
 cases r with
 | error e=>exact hx pins σ _ _ e s' I2 hq'
 | ok fl =>
  cases fl with
  | ret u =>
   obtain ⟨v,H',I3,rv,ev,q3⟩:=I2.after hq';subst ev;exact ⟨rv,⟨V.ref (s.heap.objs.size+1),H',I3,rfl,q3⟩⟩
  | next=>exact False.elim hq'
  | brk=>exact False.elim hq'
  | cont=>exact False.elim hq'
theorem gG (M:Mk X.K C f)(F:aY X.prog X.w X.K X.mg X.base CX k f fd ps sp)(hr:fV (k+1) X.A)(hg:Gl X x)(hm:X.mg x=some (.ref C))(hb:Binds X.K fd ps ds)(hd:b8 dvs ds)(hx:jL CX X E)
  (ha:PA X (e::es) t) (hdb:(x==("__debug__" : Str))=false:=by decide) (he:starEach (e::es) X.env=(false,eval e X.env)::starEach es X.env:=by rfl) (hpl:(backTo pos (starEach es X.env)).any (·.1)=false:=by rfl) :
  PE X (.Call (.Name x p) (e::es) [] pos) (Wa C sp dvs E t):=by
 intro pins s σ H Q I h;refine wpAny_Call_Name_kw (qO I hg hm ?_ hdb);refine PySem.W.callWith_K (h₀:=X.base) I.ok.mod.kin M.kp (d7 (ha pos pins s σ H _ I h) fun us s1 ⟨vs,H1,I1,r,q⟩=>⟨I1.kIn,?_⟩) he hpl;exact Kl M F hr hb hd hx I1 r q
end
structure aQ (N P:List Str)(sc:Scope):Prop where
 kind:sc.kind=.function
 co:sc.isCoroutine=false
 gen:sc.isGenerator=false
 nd:N.Nodup
 pre:N.take P.length=P
 par:∀ x∈P,sc.names.lookup x=some .local∨sc.names.lookup x=some .cell
 nofree:∀ y∈sc.names,y.2≠.free
theorem zE {kindOf:Str->Option NameKind}{x:Str}:∀ {binds:List (Str×Value)}{m:Str->Option Value},(∀ v,(x,v)∉binds)->bindL kindOf binds m x=m x
 | [],_,_=>rfl
 | (n,v)::r,m,h=>by
  unfold bindL;rw [zE fun w hw=>h w (aLp _ hw)]
  split
  ·have:x≠n:=by rintro rfl; exact h v aLq
   simp [this]
  ·rfl
theorem zW {kindOf:Str->Option NameKind}{x:Str}:∀ {binds:List (Str×Value)}{m:Str->Option Value},(∀ v,(x,v)∉binds)->bindC kindOf binds m x=m x
 | [],_,_=>rfl
 | (n,v)::r,m,h=>by
  unfold bindC;rw [zW fun w hw=>h w (aLp _ hw)]
  split
  ·rfl
  ·have:x≠n:=by rintro rfl; exact h v aLq
   simp [this]
theorem zQ {kindOf:Str->Option NameKind}{x:Str}{v:Value}:∀ {P:List Str}{vs:List Value}{i:Nat}{m:Str->Option Value},P.Nodup->P[i]? = some x->vs[i]? = some v->kindOf x=some .local ->
  bindL kindOf (P.zip vs) m x=some v
 | [],_,_,_,_,h,_,_=>by simp at h
 | _::_,[],_,_,_,_,h,_=>by simp at h
 | p::P,w::vs,0,m,nd,h1,h2,hk=>by
  simp at h1 h2; subst h1; subst h2;show bindL kindOf ((p,w)::P.zip vs) m p=_;unfold bindL;rw [zE fun v hv=>(aMf.mp nd).1 (aNO hv).1,if_pos hk];simp
 | p::P,w::vs,i+1,m,nd,h1,h2,hk=>by
  show bindL kindOf ((p,w)::P.zip vs) m x=_;unfold bindL;exact zQ (i:=i) (aMf.mp nd).2 (by simpa using h1) (by simpa using h2) hk
theorem yN {kindOf:Str->Option NameKind}{x:Str}{v:Value}:∀ {P:List Str}{vs:List Value}{i:Nat}{m:Str->Option Value},P.Nodup->P[i]? = some x->vs[i]? = some v->kindOf x≠some .local ->
  bindC kindOf (P.zip vs) m x=some v
 | [],_,_,_,_,h,_,_=>by simp at h
 | _::_,[],_,_,_,_,h,_=>by simp at h
 | p::P,w::vs,0,m,nd,h1,h2,hk=>by
  simp at h1 h2; subst h1; subst h2;show bindC kindOf ((p,w)::P.zip vs) m p=_;unfold bindC;rw [zW fun v hv=>(aMf.mp nd).1 (aNO hv).1,if_neg hk];simp
 | p::P,w::vs,i+1,m,nd,h1,h2,hk=>by
  show bindC kindOf ((p,w)::P.zip vs) m x=_;unfold bindC;exact yN (i:=i) (aMf.mp nd).2 (by simpa using h1) (by simpa using h2) hk
def start (N:List Str)(vs:List V):St:=vs.map some++aLX (N.length-vs.length) none
def xT (CX:Bg)(P:Program)(w:World)(K:PySem.W.Frag)(mg:Str->Option Value)(base:Heap)(N:List Str)(qual:Str)(scope:Scope)(f:Addr)(cd:Value)(A:Around)(outer:List Env)(s:Shared)(H:Hp)(E:XK):Cx where
 prog:=P
 w:=w
 K:=K
 mg:=mg
 base:=base
 A:=A.deeper (envOfC qual scope s.heap.objs.size f cd)
 N:=N
 s₀:=s
 H₀:=H
 env:=envOfC qual scope s.heap.objs.size f cd
 outer:=outer
 stack:=envOfC qual scope s.heap.objs.size f cd::outer
 ex:=[]
 calm:=true
 fn:=fun _=>true
 pn:=[]
 xe:=fun e s'=>wpAny (model P w) (A.deeper (envOfC qual scope s.heap.objs.size f cd)) (leaving (envOfC qual scope s.heap.objs.size f cd) e) (fun _ s''=>CX outer H s E e s'') (fun e' s''=>CX outer H s E e' s'') s'
theorem Dm {sc:Scope}{n:Nat}{x:Str}(h:sc.names.lookup x=some .cell):∃ c,(cellsFrom n sc.names []).lookup x=some c:=by
 have q:=PySem.W.cellsFrom_some sc.names n [] (.inl h);exact aND.mp q
theorem Jz {CX:Bg}{P:Program}{w:World}{K:PySem.W.Frag}{mg:Str->Option Value}{base:Heap}{N ps:List Str}{qual:Str}{scope:Scope}{f:Addr}{cd:Value}{A:Around}{outer:List Env}{s s1:Shared}{H:Hp}{E:XK}{us:List Value}{vs:List V}
  (S:aQ N ps scope) (hd:A.handled=none) (e0:Gq P w K mg base A outer s H) (hl:vs.length=ps.length) (r:b8 vs us)
  (x:InCallC s s.heap.objs.size (bindL (envOfC qual scope s.heap.objs.size f cd).kindOf (ps.zip us) fun _=>none) (cellsFrom (s.heap.objs.size+1) scope.names []) (bindC (envOfC qual scope s.heap.objs.size f cd).kindOf (ps.zip us) fun _=>none) s1) :
  bD (xT CX P w K mg base N qual scope f cd A outer s H E) [] (start N vs) H s1:=by
 have hpl:ps.length<=N.length:=by have:=congrArg aMJ S.pre; rw [aLU] at this; omega
 obtain ⟨h1,tk,rfl,hk⟩:=x.done;have noA:∀ b:Addr,b∉(xT CX P w K mg base N qual scope f cd A outer s H E).ex:=fun b z=>absurd (show b∈([]:List Addr) from z) (by simp);refine ⟨⟨e0.mod,S.kind,rfl,rfl,aLu _,fun y z c h1 h2=>?_,fun y hy=>?_,fun y c _ h=>?_,fun _=>hd,Around.frames_deeper e0.frames,.inr ⟨rfl,rfl⟩,fun b z=>absurd z (noA b),e0.bs,e0.bsz,fun b _ _=>noA b,fun b z=>absurd z (noA b),e0.funs,e0.frf⟩,
  rfl,e0.bare,Un.kept hk,⟨_,x.toInCall.ns,fun i y v h1 h2 h3=>?_⟩,fun y c h=>⟨_,x.cell y c h⟩,e0.hok.fresh (aLu _),fun y c h=>?_,fun p hp=>absurd (show p∈([]:List (Addr×Obj)) from hp) (by simp),e0.hok.kept hk,?_⟩
 ·exact name_of_addr x.apart (PySem.mem_of_lookup h1) (PySem.mem_of_lookup h2)
 ·have hy:scope.names.lookup y=some .cell∨scope.names.lookup y=some .free:=hy;rcases hy with hy | hy
  ·exact Dm hy
  ·exact absurd rfl (S.nofree _ (PySem.mem_of_lookup hy))
 ·exact aLZ (x.above y c (PySem.mem_of_lookup h))
 ·have hi:i<vs.length:=by
   unfold start at h2
   by_cases hi:i<vs.length
   ·exact hi
   ·rw [aMl (by simpa using hi)] at h2;rw [aNF] at h2
    split at h2 <;> cases h2
  have ha:vs[i]? = some v:=by
   unfold start at h2;rw [aMy (by simpa using hi),aLH] at h2;cases e:vs[i]? with
   | none=>rw [e] at h2; cases h2
   | some a=>rw [e] at h2; cases h2; rfl
  obtain ⟨u,hu,rv⟩:=r.get ha;have hp:ps[i]? = some y:=by
   rw [<- S.pre,List.getElem?_take_of_lt (by omega)]; exact h1
  have ndP:ps.Nodup:=by rw [<- S.pre]; exact S.nd.sublist (List.take_sublist _ _)
  refine ⟨u,rv,?_⟩;rcases S.par y (aLx hp) with k | k
  ·exact .inl ⟨k,zQ ndP hp hu k⟩
  ·obtain ⟨c,e⟩:=Dm (n:=s.heap.objs.size+1) k;refine .inr ⟨.inl k,c,e,?_⟩;have q:=x.cell y c e;rw [yN ndP hp hu (by show scope.names.lookup y≠_; rw [k]; decide)] at q;exact q
 ·exact e0.hok.fresh (aLZ (x.above y c (PySem.mem_of_lookup h)))
 ·unfold start;show _=N.length;rw [aLP,aLo,aMx];omega
theorem O4 {CX:Bg}{P:Program}{w:World}{K:PySem.W.Frag}{mg:Str->Option Value}{base:Heap}{k:Nat}{f:Addr}{name qual:Str}{params:Arguments}{body:List Stmt}{scope:Scope}{dV kV doc pm cdv ct oc:Value}{an od:Option Addr}
  {osl:Array (Option Value)}{N ps:List Str}{sp:Sp} (lk:K.lookup f=some ⟨oc,od,.func (PySem.W.fnOf name qual params body scope dV kV doc pm an cdv ct),osl⟩) (hcd:PySem.W.codeIn K cdv qual=true) (S:aQ N ps scope)
  (len:∀ vs H Q E,sp vs H Q E->vs.length=ps.length)
  (hbody:∀ (A:Around) (outer:List Env) (s:Shared) (H:Hp) (vs:List V) (Q:VK) (E:XK),fV k (A.deeper (envOfC qual scope s.heap.objs.size f cdv))->sp vs H Q E ->
   ∃ t,CG (xT CX P w K mg base N qual scope f cdv A outer s H E) body t/\t { nx:=fun _ H'=>Q .non H',rt:=Q } (start N vs) H) :
  aY P w K mg base CX (k+1) f (PySem.W.fnOf name qual params body scope dV kV doc pm an cdv ct) ps sp:=by
 refine ⟨len,fun A outer s H args us vs Q E hr e0 hb r hsp=>?_⟩;have hl:=len _ _ _ _ hsp;have KX:K.In s.heap:=e0.mod.kin.keeps fun b o e=>(e0.bs b o e).1;have lim:s.heap.NoLimit:=e0.mod.nolimit.keeps fun b o e=>(e0.bs b o e).1;have hkind:∀ y∈ps.zip us,scope.names.lookup y.1=some .local∨(scope.names.lookup y.1=some .cell/\((cellsFrom (s.heap.objs.size+1) scope.names []).lookup y.1).isSome=true):=fun ⟨n,v⟩ hy=>by
  rcases S.par n (aNO hy).1 with q | q
  ·exact .inl q
  ·exact .inr ⟨q,PySem.W.cellsFrom_some _ _ _ (.inl q)⟩
 refine codeAny_call_function hr.depth (KX _ _ lk) rfl S.co S.gen rfl (PySem.W.codeRec_of KX hcd) (hb _ _ _ _ ?_);refine wpAny_newFunctionEnv_cells S.kind hkind fun env he s1 x=>?_;subst he;refine ⟨lim.keeps x.toInCall.keep,codeAny_func ?_⟩;obtain ⟨t,ht,hq⟩:=hbody A outer s H vs Q E (hr.deeper _) hsp;have I:bD (xT CX P w K mg base N qual scope f cdv A outer s H E) [] (start N vs) H s1:=Jz S hr.hd e0 hl r x;refine wpAny_mono (ht [] s1 (start N vs) H _ I hq) (fun fl s' hs=>?_) fun e s' hs=>hs;have fin:∀ {σ':St}{H':Hp}{v:V}{u:Value},bD (xT CX P w K mg base N qual scope f cdv A outer s H E) [] σ' H' s'->RelV v u->Q v H'->CE outer P w H s Q u s' :=
  fun {σ' H' v u} J rv q=>⟨v,H',J.os,J.bare,J.base,J.hok,rv,q⟩
 cases fl with
 | ret u =>
  obtain ⟨v,σ',H',J,rv,q⟩:=hs;exact fin J rv q
 | next =>
  obtain ⟨σ',H',J,q⟩:=hs;exact fin (v:=V.non) (u:=Value.none) J rfl q
 | brk =>
  obtain ⟨_,_,_,q⟩:=hs;exact False.elim q
 | cont =>
  obtain ⟨_,_,_,q⟩:=hs;exact False.elim q
section
variable {X:Cx}{x:Str}{p pos:Pos}{e:Expr}{es:List Expr}{t:TA}{id T:String}{r:List V->Hp->VK->Prop}
def tCB (r:List V->Hp->VK->Prop)(t:TA):TE:=fun σ H Q=>t σ H fun vs H1=>r vs H1 Q
theorem aW (hc:eY X (.builtin id) r)(hg:Gl X x)(hm:X.mg x=none)(hv:bootBuiltins x=some (.builtin id))(ha:PA X (e::es) t)(hn:x≠"__name__":=by decide)(hdb:(x==("__debug__" : Str))=false:=by decide)
  (he:starEach (e::es) X.env=(false,eval e X.env)::starEach es X.env:=by rfl) (hpl:(backTo pos (starEach es X.env)).any (·.1)=false:=by rfl):PE X (.Call (.Name x p) (e::es) [] pos) (tCB r t):=by
 intro pins s σ H Q I h;refine wpAny_Call_Name_kw (mY I hg hm hv ?_ hn hdb);exact PyProof.Rows.callWith_builtin1 (d7 (ha pos pins s σ H _ I h) fun us s1 ⟨vs,H1,I1,r1,q1⟩=>hc pins s1 σ H1 vs us Q I1 r1 q1) he hpl
theorem cX (hc:eY X (.type T) r)(hg:Gl X x)(hm:X.mg x=none)(hv:bootBuiltins x=some (.type T))(ha:PA X (e::es) t)(hn:x≠"__name__":=by decide)(hdb:(x==("__debug__" : Str))=false:=by decide)
  (he:starEach (e::es) X.env=(false,eval e X.env)::starEach es X.env:=by rfl) (hpl:(backTo pos (starEach es X.env)).any (·.1)=false:=by rfl):PE X (.Call (.Name x p) (e::es) [] pos) (tCB r t):=by
 intro pins s σ H Q I h;refine wpAny_Call_Name_kw (mY I hg hm hv ?_ hn hdb);exact PyProof.Rows.callWith_type1 (d7 (ha pos pins s σ H _ I h) fun us s1 ⟨vs,H1,I1,r1,q1⟩=>hc pins s1 σ H1 vs us Q I1 r1 q1) he hpl
end
abbrev TO:=St->Hp->(Option Int->Hp->Prop)->Prop
theorem intsAre_of {ns:List Int}:∀ {us:List Value},b8 (ns.map V.int) us->IntsAre us ns:=by
 induction ns with
 | nil=>intro us r; rw [aNL] at r; cases r; exact .nil
 | cons n ns ih =>
  intro us r;rw [aLw] at r;cases r with
  | cons r1 r2 =>
   obtain ⟨t,e⟩:=r1;subst e;exact .cons n t (ih r2)
def Rb (n:Nat)(i:Int):Option Nat:=if 0<=i then (if i<n then some i.toNat else none) else if -(n:Int)<=i then some (i+n).toNat else none
def Hq {α:Type}(xs:List α)(i:Int):Option α:=(Rb xs.length i).bind fun j=>xs[j]?
theorem JQ {n:Nat}{i:Int}{j:Nat}(h:Rb n i=some j):seqIndex? i n=some j/\j<n/\-(n:Int)<=i/\i<n:=by
 unfold Rb at h
 by_cases h0:0<=i
 ·rw [if_pos h0] at h
  by_cases h1:i<n
  ·rw [if_pos h1] at h;have e:i.toNat=j:=aMq.inj h;exact ⟨by rw [seqIndex_of h0 h1,e],by omega,by omega,h1⟩
  ·rw [if_neg h1] at h; cases h
 ·rw [if_neg h0] at h
  by_cases h1:-(n:Int)<=i
  ·rw [if_pos h1] at h;have e:(i+n).toNat=j:=aMq.inj h;exact ⟨by rw [seqIndex_neg (by omega) h1,e],by omega,h1,by omega⟩
  ·rw [if_neg h1] at h; cases h
theorem Ib {α:Type}{xs:List α}{i:Int}{v:α}(h:Hq xs i=some v):∃ j,seqIndex? i xs.length=some j/\xs[j]? = some v/\j<xs.length/\-(xs.length:Int)<=i/\i<xs.length:=by
 unfold Hq at h;cases e:Rb xs.length i with
 | none=>rw [e] at h; cases h
 | some j =>
  rw [e] at h;obtain ⟨h1,h2,h3,h4⟩:=JQ e;exact ⟨j,h1,h,h2,h3,h4⟩
theorem j6 {α:Type}{xs:List α}{j:Nat}{v:α}(h:xs[j]? = some v):Hq xs (j:Int)=some v:=by
 have hj:j<xs.length:=(aLE.mp h).1;have e:Rb xs.length (j:Int)=some j:=by
  unfold Rb;rw [if_pos (by omega),if_pos (by omega)]; simp
 unfold Hq; rw [e]; exact h
def PX (b:Expr):Prop:=∀ o i,subscripted b false o i=operate [o,i] (getItem o i)
def Yz (X:Cx)(r:R2):Prop :=
 ∀ (value slice:Expr) (pins:List (Addr×Obj)) (s:Shared) (σ:St) (H:Hp) (x y:V) (v u:Value) (Q:VK),bD X pins σ H s->RelV x v->RelV y u->r x y H Q ->
  subscripted slice false v u=operate [v,u] (getItem v u)->wpAny (model X.prog X.w) X.A (subscriptTail value slice v u) (EP X pins σ Q) X.xe s
def MtR (X:Cx)(id:String)(r:V->List V->Hp->VK->Prop):Prop :=
 ∀ (pins:List (Addr×Obj)) (s:Shared) (σ:St) (H:Hp) (x:V) (xs:List V) (v:Value) (us:List Value) (Q:VK),bD X pins σ H s->RelV x v->b8 xs us->r x xs H Q ->
  wpAny (model X.prog X.w) X.A (call (.builtin id) (v::us)) (EP X pins σ Q) X.xe s
section
variable {X:Cx}{a b:Expr}{ta tb:TE}{pos:Pos}
theorem bT {r:R2}(hr:Yz X r)(ha:PE X a ta)(hb:PE X b tb)(hs:PX b):PE X (.Subscript a b pos) (Zo r ta tb):=by
 intro pins s σ H Q I h;exact Subscript_ (Uc ha hb I h fun v u s2 x y H2 I2 rx ry q=>hr a b pins s2 σ H2 x y v u Q I2 rx ry q (hs _ _))
def Wc (K:PySem.W.Frag):R2:=fun x y H Q=>∃ p xs i v,x=.ref p/\y=.int i/\bK K H p xs/\Hq xs i=some v/\Q v H
def Zg (K:PySem.W.Frag):R2:=fun x y H Q=>∃ p xs i v,x=.ref p/\y=.int i/\cY K H p xs/\Hq xs i=some v/\Q v H
theorem gQ:Yz X (Wc X.K):=by
 intro value slice pins s σ H x y v u Q I rx ry h hs;obtain ⟨p,xs,i,z,rfl,rfl,hq,he,q⟩:=h;cases rx;obtain ⟨t,rfl⟩:=ry;obtain ⟨its,r,pl,hz⟩:=I.list hq;obtain ⟨j,h1,h2,h3,h4,h5⟩:=Ib he;obtain ⟨w,ew,rw'⟩:=r.get h2;have hl:=r.length;have hn:=Fe;have fin:EP X pins σ Q w s:=⟨z,H,I,rw',q⟩
 by_cases h0:0<=i
 ·have hj:i.toNat=j:=by
   rw [seqIndex_of h0 h5] at h1;exact aMq.inj h1
  exact item_listR pl.isList h0 (by omega) (by rw [hj]; simpa using ew) fin hs
 ·have hj:(i+(its.toArray.size:Int)).toNat=j:=by
   rw [seqIndex_neg (by omega) h4] at h1;rw [aLM,<- hl];exact aMq.inj h1
  exact subscriptTail_builtinR (x:=w) pl.isList.typeIs slot_list_getitem.lookup
   (wpAny_getItem_list_neg (Q:=fun r s'=>r=w/\EP X pins σ Q r s') pl.isList (by omega) (by rw [aLM] <;> omega) (by omega) (by rw [hj]; simpa using ew) ⟨rfl,fin⟩) hs
theorem b7:Yz X (Zg X.K):=by
 intro value slice pins s σ H x y v u Q I rx ry h hs;obtain ⟨p,xs,i,z,rfl,rfl,hq,he,q⟩:=h;cases rx;obtain ⟨t,rfl⟩:=ry;obtain ⟨its,r,pl,hz⟩:=I.tuple hq;obtain ⟨j,h1,h2,h3,h4,h5⟩:=Ib he;obtain ⟨w,ew,rw'⟩:=r.get h2;have hl:=r.length;have hn:=Fe;have fin:EP X pins σ Q w s:=⟨z,H,I,rw',q⟩
 exact subscriptTail_builtinR (x:=w) pl.typeIs slot_tuple_getitem.lookup
  (getItem_tuple (j:=j) (Q:=fun r s'=>r=w/\EP X pins σ Q r s') pl (by omega) (by omega) (by rw [aLM,<- hl]; exact h1) (by simpa using ew) ⟨rfl,fin⟩) hs
def qQ:V->Bool
 | .non=>true
 | .bl _=>true
 | .int _=>true
 | .str _=>true
 | _=>false
def Oi:V->V->Bool
 | .non,.non=>true
 | .bl a,.bl b=>a==b
 | .bl a,.int b=>(if a then 1 else 0)==b
 | .int a,.bl b=>a==(if b then 1 else 0)
 | .int a,.int b=>a==b
 | .str a,.str b=>a==b
 | _,_=>false
theorem Ue {A:Around}{s:Shared}{y x:V}{u v:Value}(ry:RelV y u)(rx:RelV x v)(fy:qQ y=true)(fx:qQ x=true):SeqAt.EqAt A s u v (Oi y x):=by
 cases y with
 | non =>
  cases ry;cases x with
  | non=>cases rx; exact SeqAt.EqAt.same _
  | bl b=>cases rx; exact SeqAt.EqAt.none_bool b
  | int b=>obtain ⟨t,rfl⟩:=rx; exact SeqAt.EqAt.none_int b t
  | str b=>obtain ⟨t,rfl⟩:=rx; exact SeqAt.EqAt.none_str b t
  | _=>exact absurd (show false=true from fx) aLK
 | bl a =>
  cases ry;cases x with
  | non=>cases rx; exact SeqAt.EqAt.bool_none a
  | bl b=>cases rx; exact SeqAt.EqAt.bool_bool a b
  | int b=>obtain ⟨t,rfl⟩:=rx; exact SeqAt.EqAt.bool_int a b t
  | str b=>obtain ⟨t,rfl⟩:=rx; exact SeqAt.EqAt.bool_str a b t
  | _=>exact absurd (show false=true from fx) aLK
 | int a =>
  obtain ⟨t',rfl⟩:=ry;cases x with
  | non=>cases rx; exact SeqAt.EqAt.int_none a t'
  | bl b=>cases rx; exact SeqAt.EqAt.int_bool a t' b
  | int b=>obtain ⟨t,rfl⟩:=rx; exact SeqAt.EqAt.int_int a t' b t
  | str b=>obtain ⟨t,rfl⟩:=rx; exact SeqAt.EqAt.int_str a t' b t
  | _=>exact absurd (show false=true from fx) aLK
 | str a =>
  obtain ⟨t',rfl⟩:=ry;cases x with
  | non=>cases rx; exact SeqAt.EqAt.str_none a t'
  | bl b=>cases rx; exact SeqAt.EqAt.str_bool a t' b
  | int b=>obtain ⟨t,rfl⟩:=rx; exact SeqAt.EqAt.str_int a t' b t
  | str b=>obtain ⟨t,rfl⟩:=rx; exact SeqAt.EqAt.str_str a t' b t
  | _=>exact absurd (show false=true from fx) aLK
 | _=>exact absurd (show false=true from fy) aLK
def QB (x:V)(u:Value):Bool:=match u with
 | .none=>Oi .non x
 | .bool b=>Oi (.bl b) x
 | .int i _=>Oi (.int i) x
 | .str z _=>Oi (.str z) x
 | _=>false
theorem M8 {x y:V}{u:Value}(r:RelV y u)(f:qQ y=true):QB x u=Oi y x:=by
 cases y with
 | non=>cases r; rfl
 | bl b=>cases r; rfl
 | int i=>obtain ⟨t,rfl⟩:=r; rfl
 | str z=>obtain ⟨t,rfl⟩:=r; rfl
 | _=>exact absurd (show false=true from f) aLK
theorem BW {x:V}:∀ {xs:List V}{us:List Value},b8 xs us->xs.all qQ=true->us.any (QB x)=xs.any fun y=>Oi y x
 | _,_,.nil,_=>rfl
 | y::xs,u::us,.cons r t,f=>by
  rw [List.all_cons,aLV] at f;rw [aNk,aNk,M8 r f.1,BW t f.2]
theorem vZ {A:Around}{s:Shared}{x:V}{v:Value}(rx:RelV x v)(fx:qQ x=true):∀ {xs:List V}{us:List Value},b8 xs us->xs.all qQ=true->∀ u∈us,SeqAt.EqAt A s u v (QB x u)
 | _,_,.nil,_=>fun u hu=>by cases hu
 | y::xs,u::us,.cons r t,f=>fun u' hu=>by
  rw [List.all_cons,aLV] at f;rcases aLF.mp hu with rfl | hu
  ·rw [M8 r f.1]; exact Ue r rx f.1 fx
  ·exact vZ rx fx t f.2 u' hu
def Qf (x:V)(xs:List V):Bool:=xs.any fun y=>Oi y x
def rIn (K:PySem.W.Frag)(neg:Bool):R2:=fun x y H Q=>∃ p xs,y=.ref p/\(bK K H p xs∨cY K H p xs)/\qQ x=true/\xs.all qQ=true/\Q (.bl (if neg then !Qf x xs else Qf x xs)) H
theorem Jf:oE X (compareOp .In) (rIn X.K false):=by
 intro pins s σ H x y v u Q I rx ry h;obtain ⟨p,xs,rfl,hq,fx,fs,q⟩:=h;cases ry;rcases hq with hq | hq
 ·obtain ⟨its,r,pl,hz⟩:=I.list hq;refine SeqAt.in_listAt (QB x) pl.isList (fun w hw=>vZ rx fx r fs w (by simpa using hw)) ⟨.bl _,H,I,rfl,?_⟩;rw [show its.toArray.any (QB x)=its.any (QB x) by simp,BW r fs];exact q
 ·obtain ⟨its,r,pl,hz⟩:=I.tuple hq;refine SeqAt.in_tupleAt (QB x) pl (fun w hw=>vZ rx fx r fs w (by simpa using hw)) ⟨.bl _,H,I,rfl,?_⟩;rw [show its.toArray.any (QB x)=its.any (QB x) by simp,BW r fs];exact q
theorem cH:eY X (.builtin "len") (fun xs H Q=>∃ p ys,xs=[.ref p]/\(bK X.K H p ys∨cY X.K H p ys)/\Q (.int ys.length) H):=by
 intro pins s σ H xs us Q I r h;obtain ⟨p,ys,rfl,hq,q⟩:=h;obtain ⟨u,rfl,rx⟩:=vals1 r;cases rx;have hn:=Fe;rcases hq with hq | hq
 ·obtain ⟨its,r',pl,hz⟩:=I.list hq;have hlen:=r'.length;exact Calls.call_len_list pl.isList (by simp only [aLM] <;> omega) ⟨.int ys.length,H,I.tok _,⟨s.toks+1,by rw [aLM,hlen]⟩,q⟩
 ·obtain ⟨its,r',pl,hz⟩:=I.tuple hq;have hlen:=r'.length;exact len_tuple pl (by simp only [aLM] <;> omega) ⟨.int ys.length,H,I.tok _,⟨s.toks+1,by rw [aLM,hlen]⟩,q⟩
theorem pI:eY X (.type "list") (fun xs H Q=>∃ p ys,xs=[.ref p]/\(bK X.K H p ys∨cY X.K H p ys)/\∀ l,H l=none->Q (.ref l) (aX H l (.lst ys))):=by
 intro pins s σ H xs us Q I r h;obtain ⟨p,ys,rfl,hq,q⟩:=h;obtain ⟨u,rfl,rx⟩:=vals1 r;cases rx;have fin:∀ (its:List Value),b8 ys its->ys.length<=sizeLine->∀ (h':Heap) (c':Nat),(∀ b o',s.heap.get? b=some o'->h'.get? b=some o') ->
   h'.get? s.heap.objs.size=some { cls:=.type "list",dict:=none,data:=.seq its.toArray c',slots:=#[] }->EP X pins σ Q (.ref s.heap.objs.size) { s with heap:=h' }:=fun its r' hz h' c' kp e =>
  ⟨.ref s.heap.objs.size,_,I.laid (t':=s.toks) kp (aLu _) (show cJ X.prog X.w _ h' _ (.lst ys) from ⟨hz,its,c',r',e⟩),rfl,q _ (I.hok.fresh (aLu _))⟩
 rcases hq with hq | hq
 ·obtain ⟨its,r',pl,hz⟩:=I.list hq;have hlen:=r'.length;obtain ⟨o,ho,hc,n,hd⟩:=pl.isList;exact call_list_seq p (.inl rfl) ho hc hd (fun h' c' kp e=>fin its r' hz h' c' kp e) (by simp only [aLM] <;> omega)
 ·obtain ⟨its,r',pl,hz⟩:=I.tuple hq;have hlen:=r'.length;obtain ⟨o,ho,hc,n,hd⟩:=pl;exact call_list_seq p (.inr rfl) ho hc hd (fun h' c' kp e=>fin its r' hz h' c' kp e) (by simp only [aLM] <;> omega)
theorem xZ:eY X (.type "tuple") (fun xs H Q=>∃ p ys,xs=[.ref p]/\((bK X.K H p ys/\∀ l,H l=none->Q (.ref l) (aX H l (.tup ys)))∨(cY X.K H p ys/\Q (.ref p) H))):=by
 intro pins s σ H xs us Q I r h;obtain ⟨p,ys,rfl,h⟩:=h;obtain ⟨u,rfl,rx⟩:=vals1 r;cases rx;rcases h with ⟨hq,q⟩ | ⟨hq,q⟩
 ·obtain ⟨its,r',pl,hz⟩:=I.list hq;have hlen:=r'.length;refine call_tuple_list pl.isList (fun h' kp=>?_) (by simp only [aLM] <;> omega);have I1:bD X pins σ H { s with heap:=h' }:=I.kept (t':=s.toks) kp;have I2:bD X pins σ (aX H h'.objs.size (.tup ys)) { s with heap:=h'.push { cls:=.type "tuple",data:=.seq its.toArray } } :=
   I1.laid (t':=s.toks) (fun b o e=>aLt _ e) (aLu _) (show cJ X.prog X.w _ _ _ (.tup ys) from ⟨hz,its,r',IsTup.new _ _⟩)
  exact ⟨.ref h'.objs.size,_,I2,rfl,q _ (I1.hok.fresh (aLu _))⟩
 ·obtain ⟨its,r',pl,hz⟩:=I.tuple hq;exact call_tuple_same pl ⟨.ref p,H,I,rfl,q⟩
def tyV (K:PySem.W.Frag)(T:String)(x:V)(H:Hp):Prop:=match x with
 | .str _=>T = "str"
 | .int _=>T = "int"
 | .ref p=>(T = "list"/\∃ xs,bK K H p xs)∨(T = "tuple"/\∃ o,K.lookup p=some o/\o.cls=.type "tuple"/\o.dict=none) ∨
   (T = "dict"/\((∃ kvs,H p=some (.dK kvs))∨∃ kvs,H p=some (.dT kvs)))∨(T = "set"/\∃ S n,H p=some (.set S n))
 | _=>False
theorem Ry {pins:List (Addr×Obj)}{σ:St}{H:Hp}{s:Shared}{T:String}{x:V}{v:Value}(I:bD X pins σ H s)(r:RelV x v)(ty:tyV X.K T x H) :
  s.TypeIs v T/\∀ a,v=.ref a->∃ ob,s.heap.get? a=some ob/\ob.dict=none:=by
 cases x with
 | str z =>
  obtain ⟨t,rfl⟩:=r;cases (show T = "str" from ty);exact ⟨typeIs_str s z t,fun _ e=>nomatch e⟩
 | int i =>
  obtain ⟨t,rfl⟩:=r;cases (show T = "int" from ty);exact ⟨typeIs_int s i t,fun _ e=>nomatch e⟩
 | ref p =>
  cases r;rcases ty with ⟨rfl,xs,hq⟩ | ⟨rfl,o,hk,hc,hd⟩ | ⟨rfl,hk⟩ | ⟨rfl,S,n,hk⟩
  ·obtain ⟨its,_,pl,_⟩:=I.list hq;refine ⟨pl.isList.typeIs,fun a e=>?_⟩;cases e;obtain ⟨o,n,e,c,hd,_⟩:=pl;exact ⟨o,e,hd⟩
  ·refine ⟨⟨o,I.kIn p o hk,hc⟩,fun a e=>?_⟩;cases e;exact ⟨o,I.kIn _ o hk,hd⟩
  ·have z:∃ o,s.heap.get? p=some o/\o.ExactDict:=by
    rcases hk with ⟨kvs,hk⟩ | ⟨kvs,hk⟩
    ·obtain ⟨_,_,_,_,o,_,_,e,ex,_⟩:=I.hok p _ hk;exact ⟨o,e,ex⟩
    ·obtain ⟨_,_,_,_,o,_,_,e,ex,_⟩:=I.hok p _ hk;exact ⟨o,e,ex⟩
   obtain ⟨o,e,ex⟩:=z;refine ⟨⟨o,e,ex.1⟩,fun a e2=>?_⟩;cases e2;exact ⟨o,e,ex.2.1⟩
  ·obtain ⟨o,_,_,_,e,ex,_⟩:=I.hok p _ hk;refine ⟨⟨o,e,ex.1⟩,fun a e2=>?_⟩;cases e2;exact ⟨o,e,ex.2.1⟩
 | _=>exact False.elim ty
def tBM (K:PySem.W.Frag)(T:String)(r:V->List V->Hp->VK->Prop)(to:TE)(t:TA):TE:=fun σ H Q=>to σ H fun x H1=>tyV K T x H1/\t σ H1 fun xs H2=>r x xs H2 Q
variable {o e:Expr}{es:List Expr}{to:TE}{t:TA}{name:Str}{apos cpos:Pos}{T id:String}{r:V->List V->Hp->VK->Prop}
theorem lX (pa:PlainAttrs T)(slot:Slot T name id)(hty:typeOf (.builtin id)=pure (.type "method_descriptor"))(hm:MtR X id r)(ho:PE X o to)(ha:PA X (e::es) t)
  (hbase:attributeBase o name X.env (eval o X.env)=eval o X.env:=by rfl)
  (hfew:((backTo cpos (starEach (e::es) X.env)).all (fun x=>!x.1)&&(backToKw cpos (keywordEach [] X.env)).all (fun x=>x.1.isSome)
  &&decide ((e::es).length+([]:List Keyword).length+(if ([]:List Keyword).isEmpty then 0 else 1)<30))=true:=by rfl)
  (hline:(apos.endLine==cpos.line)=true:=by rfl) (hs:starEach (e::es) X.env=(false,eval e X.env)::starEach es X.env:=by rfl) (hplain:(backTo cpos (starEach es X.env)).any (·.1)=false:=by rfl) :
  PE X (.Call (.Attribute o name apos) (e::es) [] cpos) (tBM X.K T r to t):=by
 intro pins s σ H Q I h;refine wpAny_Call_method_late hbase hfew hline rfl (d7 (ho pins s σ H _ I h) fun v s1 ⟨x,H1,I1,r1,ty,q1⟩=>?_);obtain ⟨h1,h2⟩:=Ry I1 r1 ty;refine ⟨T,id,pa,slot,hty,h1,h2,?_⟩;have hA:=ha cpos pins s1 σ H1 _ I1 q1;rw [hs] at hA ⊢;refine Calls.callWith_builtin (by show (false||(backTo cpos (starEach es X.env)).any (·.1))=false; rw [hplain] <;> rfl) (Calls.evalArgs_plain ?_);exact d7 hA fun us s2 ⟨vs,H2,I2,r2,q2⟩=>hm pins s2 σ H2 x vs v us Q I2 r1 r2 q2
end
def MtM (X:Cx)(id:String)(r:V->List V->Hp->VK->Prop):Prop :=
 ∀ (pins:List (Addr×Obj)) (s:Shared) (σ:St) (H:Hp) (x:V) (xs:List V) (v:Value) (us:List Value) (Q:VK),bD X pins σ H s->RelV x v->b8 xs us->r x xs H Q ->
  wpAny (model X.prog X.w) X.A (call (.builtin id) (v::us)) (EP X pins σ Q) X.xe s
theorem b8.one:∀ {x:V}{us:List Value},b8 [x] us->∃ u,us=[u]/\RelV x u
 | _,_,.cons r .nil=>⟨_,rfl,r⟩
theorem b8.eraseIdx:∀ {xs:List V}{us:List Value} (i:Nat),b8 xs us->b8 (xs.eraseIdx i) (us.eraseIdx i)
 | _,_,_,.nil=>.nil
 | _,_,0,.cons _ t=>t
 | _,_,i+1,.cons r t=>.cons r (b8.eraseIdx i t)
theorem zA {α:Type}:∀ (l:List α) (i:Nat),(l.eraseIdx i).length<=l.length
 | [],_=>aLu _
 | _::_,0=>aNa _
 | _::r,i+1=>aOe (zA r i)
section
variable {X:Cx}{pins:List (Addr×Obj)}{σ:St}{H:Hp}{s:Shared}{l b:Addr}{xs ys zs:List V}
theorem bD.lset {its its':List Value}{n:Nat}{f:Array Value->Array Value}{t':Nat}(I:bD X pins σ H s)(hH:H l=some (.lst xs))
  (e:s.heap.get? l=some { cls:=.type "list",data:=.seq its.toArray n }) (hf:f its.toArray=its'.toArray) (hv:b8 ys its') (hz:ys.length<=sizeLine) :
  bD X pins σ (aX H l (.lst ys)) { s with heap:=s.heap.update l (Obj.mapSeq f),toks:=t' }:=by
 have q:=PySem.IsL.update e f;rw [hf] at q;refine I.write (x:=l) (e:=l) (by rw [hH]; exact trivial) (.inl rfl) (fun b' u hb hu=>(Heap.get?_update_other s.heap (Obj.mapSeq f) (Ne.symm hb)).trans hu) ⟨_,q⟩ ?_;exact ⟨hz,its',_,hv,q⟩
theorem bD.lnew {its:List Value}{t':Nat}(I:bD X pins σ H s)(hv:b8 ys its)(hz:ys.length<=sizeLine) :
  bD X pins σ (aX H s.heap.objs.size (.lst ys)) { s with heap:=s.heap.push { cls:=.type "list",data:=.seq its.toArray },toks:=t' } :=
 I.laid (fun _ _ q=>aLt _ q) (aLu _) ⟨hz,its,0,hv,aLJ _ rfl⟩
theorem bD.fresh (I:bD X pins σ H s):H s.heap.objs.size=none:=I.hok.fresh (aLu _)
theorem bD.lstM (I:bD X pins σ H s)(hH:H l=some (.lst xs)):xs.length<=sizeLine/\∃ (its:List Value) (n:Nat),b8 xs its/\xs.length=its.length/\s.heap.get? l=some { cls:=.type "list",data:=.seq its.toArray n }:=by
 obtain ⟨z,its,n,r,e⟩:=I.hok l _ hH;exact ⟨z,its,n,r,r.length,e⟩
theorem Ms {n:Nat}(h:n<=sizeLine):Builtin.List.listTooLong n=false:=by
 unfold Builtin.List.listTooLong;exact decide_eq_false (by omega)
end
section
variable {X:Cx}
def Q4:V->List V->Hp->VK->Prop:=fun x vs H Q=>∃ l xs y,x=.ref l/\vs=[y]/\H l=some (.lst xs)/\xs.length<sizeLine/\Q .non (aX H l (.lst (xs++[y])))
theorem jH:MtM X "list.append" Q4:=by
 intro pins s σ H x vs v us Q I rx rv h;obtain ⟨l,xs,y,rfl,rfl,hH,hz,q⟩:=h;cases rx;obtain ⟨u,rfl,ru⟩:=rv.one;obtain ⟨z,its,n,r,hl,e⟩:=I.lstM hH;refine call_meets F.slot_list_append ⟨_,e,rfl⟩ F.entry_list_append (F.args_list_append_2 _ _) (PySem.list_append l its.toArray n u (by rw [aLM]; omega)) ⟨e,?_⟩;refine ⟨.non,_,I.lset (its':=its++[u]) hH e (by simp) (r.append (.cons ru .nil)) ?_,rfl,q⟩;rw [aLP,aNi];omega
def Qd:V->List V->Hp->VK->Prop:=fun x vs H Q=>∃ l b xs zs,x=.ref l/\vs=[.ref b]/\H l=some (.lst xs)/\H b=some (.lst zs)/\xs.length+zs.length<=sizeLine/\Q .non (aX H l (.lst (xs++zs)))
theorem KN:MtM X "list.extend" Qd:=by
 intro pins s σ H x vs v us Q I rx rv h;obtain ⟨l,b,xs,zs,rfl,rfl,hH,hB,hz,q⟩:=h;cases rx;obtain ⟨u,rfl,ru⟩:=rv.one;cases ru;obtain ⟨z,its,n,r,hl,e⟩:=I.lstM hH;obtain ⟨z2,its2,n2,r2,hl2,e2⟩:=I.lstM hB;have hsz:its.toArray.size+its2.toArray.size<=sizeLine:=by rw [aLM,aLM]; omega
 have hlong:¬ (!its.toArray.isEmpty&&Builtin.List.listTooLong (its.toArray.size+its2.toArray.size))=true:=by
  rw [Ms hsz,Bool.and_false];exact aLK
 refine call_meets F.slot_list_extend ⟨_,e,rfl⟩ F.entry_list_extend (F.args_list_extend_2 _ _)
  (AutoSeq1.list_extend_list_list_0 l its.toArray n b its2.toArray n2 hlong (by rw [aLM]; omega) (by omega)) ⟨e,e2,?_⟩
 refine ⟨.non,_,I.lset (its':=its++its2) hH e (by simp) (r.append r2) ?_,rfl,q⟩;rw [aLP];omega
def Ul:V->List V->Hp->VK->Prop:=fun x vs H Q=>∃ l xs i k y,x=.ref l/\vs=[.int i]/\H l=some (.lst xs)/\-(2^63)<=i/\i<2^63/\seqIndex? i xs.length=some k/\xs[k]? = some y/\Q y (aX H l (.lst (xs.eraseIdx k)))
theorem m5:MtM X "list.pop" Ul:=by
 intro pins s σ H x vs v us Q I rx rv h;obtain ⟨l,xs,i,k,y,rfl,rfl,hH,h1,h2,hk,hy,q⟩:=h;cases rx;obtain ⟨u,rfl,ru⟩:=rv.one;obtain ⟨t,rfl⟩:=ru;obtain ⟨z,its,n,r,hl,e⟩:=I.lstM hH;obtain ⟨w,hw,rw'⟩:=r.get hy;refine call_meets F.slot_list_pop ⟨_,e,rfl⟩ F.entry_list_pop (F.args_list_pop_2 _ _)
  (MeetsSeq.list_pop_at l its.toArray n i t k w (fitsIndex_both h1 h2) (by rw [aLM,<- hl]; exact hk) (by rw [<- aMT]; exact hw) (by rw [aLM]; omega)) ⟨e,?_⟩
 refine ⟨y,_,I.lset (its':=its.eraseIdx k) hH e ?_ (r.eraseIdx k) ?_,rw',q⟩
 ·show its.toArray.eraseIdxIfInBounds k=(its.eraseIdx k).toArray;rw [List.eraseIdxIfInBounds_toArray]
 ·have:=zA xs k;omega
def aFN:R2:=fun x y H Q=>∃ l b xs zs,x=.ref l/\y=.ref b/\H l=some (.lst xs)/\H b=some (.lst zs)/\xs.length+zs.length<=sizeLine/\∀ p,H p=none->Q (.ref p) (aX H p (.lst (xs++zs)))
theorem U6:oE X (binaryOp .Add) aFN:=by
 intro pins s σ H x y v u Q I rx ry h;obtain ⟨l,b,xs,zs,rfl,rfl,hH,hB,hz,q⟩:=h;cases rx;cases ry;obtain ⟨z,its,n,r,hl,e⟩:=I.lstM hH;obtain ⟨z2,its2,n2,r2,hl2,e2⟩:=I.lstM hB;refine PySem.P.add_list e e2 ?_ (by rw [aLM,aLM]; omega);have ea:its.toArray++its2.toArray=(its++its2).toArray:=by simp
 rw [ea];exact ⟨.ref _,_,I.lnew (t':=s.toks) (r.append r2) (by rw [aLP]; omega),rfl,q _ I.fresh⟩
end
end L2
namespace Att
open PySem PySem.W PySem.Calls PyProof.Rows
theorem uH {P:Params}{h:Heap}:∀ (ns:List Int) (vs:List Value),WellAll P h vs (ns.map WData.int)->IntsAre vs ns:=by
 intro ns
 induction ns with
 | nil =>
  intro vs w;rw [aNL] at w;cases w;exact .nil
 | cons n ns ih =>
  intro vs w;rw [aLw] at w;cases w with
  | cons a b =>
   cases a;exact .cons _ _ (ih _ b)
theorem Jw {l:OpenLaw}{n:Nat}(hn:l.most=some n){P:Params}{h:Heap}{args:List WData}{vals:List Value}
  (hpre:l.row.toRowW.claim.pre args=true) (hwl:WellAll P h vals args) :
  ∃ a vs ns,vals=[Value.ref a]/\args=[WData.list (ns.map WData.int)]/\h.get? a=some { cls:=.type "list",data:=.seq vs.toArray }/\IntsAre vs ns/\ns.length<=n:=by
 have hsh:WShape.hasAll [] args [.list .int]=true:=(pre_splitW hpre).1;have hc:l.pre.holds [] { args:=args }=true:=(pre_splitW hpre).2;obtain ⟨d,r,rfl,h1,h2⟩:=hasAllW_cons hsh;obtain rfl:=hasAllW_nil h2;obtain ⟨xs,rfl,h3⟩:=hasW_list h1;obtain ⟨ns,rfl⟩:=items_int h3;have hlen:ns.length<=n:=by
  unfold OpenLaw.pre at hc;have h4:(WTm.not (.lt (.lit (.int (n:Int))) (.len (.arg 0)))).holds [] { args:=[.list (ns.map .int)] }=true:=by
   have h4:=(holds_andW hc).1;rw [hn] at h4;exact h4
  have h5:=condW_of h4 (w_not (w_lt w_lit (w_len_list (w_arg rfl))));rw [aLo] at h5;refine Nat.le_of_not_lt fun q=>?_;have q':(n:Int)<((ns.length:Nat):Int):=by omega
  first
   | (rw [decide_eq_true q'] at h5; exact absurd h5 (by decide))
   | (simp at h5; omega)
 cases hwl with
 | cons w1 w2 =>
  cases w2;cases w1 with
  | list ho hall=>exact ⟨_,_,ns,rfl,rfl,ho,uH ns _ hall,hlen⟩
theorem KR (l:OpenLaw)(args:List WData):l.row.toRowW.claim.post args (.bool true) args=true :=
 postW_of (r:=l.row.toRowW) (X:=(true==true))
  (show WShape.has [] (.bool true) .bool=true by first | rfl | decide | simp [WShape.has,WShape.arms,WShape.armsAll])
  (show (WTm.eq .res (.lit (.bool true))).value [] { args:=args,res:=some (.bool true),after:=args }=some (.bool (true==true)) from w_eq_bool (w_res rfl) w_lit) rfl
theorem Er {l:OpenLaw}{n:Nat}{q:Program}{loose:List Str}{XP:(Str->Option Value)->Heap->Prop}{YP:World->Heap->Prop}{d:DefRec}
  (hn:l.most=some n) (hdf:d.params.defaults=[])
  (call:∀ (w:World) (s₀ s₁:Shared) (mg mb:Str->Option Value) (fa:Addr) (o:Obj) (pm cd doc:Value) (a:Addr) (vs:List Value) (ns:List Int),
   Ground q loose [] XP w s₀ mg mb s₁.heap->YP w s₁.heap ->
   s₁.heap.get? fa=some o->o.data=.func (docDef d.name d.params d.body d.scope pm cd doc)->s₁.heap.CodeRec cd d.name->mg d.name=some (.ref fa) ->
   s₁.heap.get? a=some { cls:=.type "list",data:=.seq vs.toArray }->IntsAre vs ns->ns.length<=n->s₁.gens = #[] ->
   codeAny (model l.prog w) callerA (.call (.ref fa) ⟨[.ref a],[]⟩) (fun r s'=>r=.ok (.ret (.bool true))/\OldK s₁.heap s'.heap/\s'.os=s₁.os/\AllBare s'.gens) s₁) :
  WalkO q loose XP YP l.row.toRowW d [] (fun f vs=>PySem.call f vs):=by
 intro w s₀ s₁ mg mb G Y fa o pm cd doc dV kV ho hd hcd hD hmg hg args vals as hpre hlay hrd hwl hlo;obtain rfl:dV=.none:=Dflts.none hD hdf;obtain rfl:kV=.none:=Dflts.noKw hD;obtain ⟨a,vs,ns,rfl,rfl,hobj,hints,hlen⟩:=Jw hn hpre hwl;refine enter_call (codeAny_mono (call w s₀ s₁ mg mb fa o pm cd doc a vs ns G Y ho (fd_plain hd) hcd hmg hobj hints hlen hg) fun r s' hq=>?_);obtain ⟨rfl,h2,h3,h4⟩:=hq;exact ⟨.inl ⟨.bool true,.bool true,[],rfl,fun _=>rfl,.bool true,KR l _,fun _=>⟨List.Pairwise.nil,fun _ hm=>(nomatch hm)⟩⟩,h2,h3,h4⟩
end Att
namespace L2
open PySem PySem.Spec PyProof.Rows
theorem rN:∀ {vs:List Value}{ns:List Int},IntsAre vs ns->b8 (ns.map V.int) vs
 | _,_,.nil=>.nil
 | _,_,.cons n t h=>.cons ⟨t,rfl⟩ (rN h)
abbrev cZ:Bg:=fun _ _ _ _ _ _=>False
abbrev E0:XK:=fun _ _ _=>False
theorem c7 {X:Cx}:jL cZ X E0:=fun _ _ _ _ _ _ _ h=>h.elim
structure dW (K:PySem.W.Frag)(x qual:Str)(st:Stmt)(f:Addr)(fd:FuncData):Prop where
 ex:∃ (oc:Value) (od:Option Addr) (kV doc pm:Value) (an:Option Addr) (cdv ct:Value) (osl:Array (Option Value)),
  fd=PySem.W.fnOf x qual (jW st) (gY st) (aN st) .none kV doc pm an cdv ct/\K.lookup f=some ⟨oc,od,.func fd,osl⟩/\PySem.W.codeIn K cdv qual=true
 kp:PySem.W.keepIn K (.ref f)=true
section
variable {P:Program}{w:World}{K:PySem.W.Frag}{mg:Str->Option Value}{base:Heap}
theorem dW.ok {x qual:Str}{st:Stmt}{f:Addr}{fd:FuncData}{N ps:List Str}{k:Nat}{sp:Sp}(F:dW K x qual st f fd)(S:aQ N ps (aN st))(len:∀ vs H Q E,sp vs H Q E->vs.length=ps.length)
  (hbody:∀ (cdv:Value) (A:Around) (outer:List Env) (s:Shared) (H:Hp) (vs:List V) (Q:VK) (E:XK),fV k (A.deeper (envOfC qual (aN st) s.heap.objs.size f cdv))->sp vs H Q E ->
   ∃ t,CG (xT cZ P w K mg base N qual (aN st) f cdv A outer s H E).nox (gY st) t/\t { nx:=fun _ H'=>Q .non H',rt:=Q } (start N vs) H):aY P w K mg base cZ (k+1) f fd ps sp:=by
 obtain ⟨oc,od,kV,doc,pm,an,cdv,ct,osl,rfl,lk,hcd⟩:=F.ex;refine O4 lk hcd S len fun A outer s H vs Q E hr hsp=>?_;obtain ⟨t,h,q⟩:=hbody cdv A outer s H vs Q E hr hsp;exact ⟨t,h.nox,q⟩
theorem dW.binds {x qual:Str}{st:Stmt}{f:Addr}{fd:FuncData}{ps:List Str}(F:dW K x qual st f fd)
  (h:∀ (kV doc pm:Value) (an:Option Addr) (cdv ct:Value) (us:List Value),us.length=ps.length->bindArgs (PySem.W.fnOf x qual (jW st) (gY st) (aN st) .none kV doc pm an cdv ct) ⟨us,[]⟩=pure (ps.zip us)):Binds K fd ps []:=by
 obtain ⟨oc,od,kV,doc,pm,an,cdv,ct,osl,rfl,lk,hcd⟩:=F.ex;exact .all (h kV doc pm an cdv ct)
theorem La {x qual:Str}{st:Stmt}{f:Addr}{oc:Value}{od an:Option Addr}{osl:Array (Option Value)}{kV doc pm cdv ct:Value}(l:K.lookup f=some ⟨oc,od,.func (PySem.W.fnOf x qual (jW st) (gY st) (aN st) .none kV doc pm an cdv ct),osl⟩)
  (c:PySem.W.codeIn K cdv qual=true) (k:PySem.W.keepIn K (.ref f)=true):dW K x qual st f (PySem.W.fnOf x qual (jW st) (gY st) (aN st) .none kV doc pm an cdv ct):=⟨⟨oc,od,kV,doc,pm,an,cdv,ct,osl,rfl,l,c⟩,k⟩
end
theorem Lf {A:Around}{k:Nat}(hr:fV k A):A.units+1<cLine:=aNs (aN0 (by decide:1<=64) _) hr.units
theorem aU {n:Nat}(h:n<=1000):n<sizeLine:=aNs h (by decide)
section
variable {X:Cx}
theorem pv (i:Nat){x:Str}{pos:Pos}(hN:X.N[i]? = some x:=by rfl)(hv:Vis X.env.scope x:=by first | exact Or.inl rfl | exact Or.inr (Or.inl rfl) | exact Or.inr (Or.inr rfl))(hd:(x==("__debug__" : Str))=false:=by decide)
  (hcd:(x==("__classdict__" : Str))=false:=by decide):PE X (.Name x pos) (J5 i):=Mh hN hv hd hcd
end
theorem dU {A B:Prop}(h:B):if false=true then A else B:=by
 rw [if_neg aLK];exact h
theorem gA {A B:Prop}(h:A):if true=true then A else B:=by
 rw [if_pos rfl];exact h
theorem GK {c A B:Prop}[Decidable c](h1:c->A)(h2:¬ c->B):if c then A else B:=by
 by_cases h:c
 ·rw [if_pos h];exact h1 h
 ·rw [if_neg h];exact h2 h
def aR (H H':Hp):Prop:=∀ b o,H b=some o->H' b=some o
theorem aR.refl (H:Hp):aR H H:=fun _ _ h=>h
theorem aR.trans {H H1 H2:Hp}(a:aR H H1)(b:aR H1 H2):aR H H2:=fun c o h=>b c o (a c o h)
theorem aR.free {H H':Hp}(e:aR H H'){l:Addr}(h:H' l=aOi):H l=aOi:=by
 cases q:H l with
 | none=>rfl
 | some o =>
  rw [e l o q] at h;cases h
theorem aR.seq {K:PySem.W.Frag}{H H':Hp}{a:Addr}{xs:List V}(e:aR H H')(h:bK K H a xs):bK K H' a xs:=by
 rcases h with (h | ⟨o,h⟩) | h
 ·exact .inl (.inl (e _ _ h))
 ·exact .inl (.inr ⟨o,e _ _ h⟩)
 ·exact .inr h
section
variable {κ:Type}[DecidableEq κ]
def gF (kvs:List (κ×V))(k:κ):Option V:=(kvs.find? fun kv=>decide (kv.1=k)).map (·.2)
def putK (kvs:List (κ×V))(k:κ)(v:V):List (κ×V) :=
 if (kvs.any fun kv=>decide (kv.1=k))=true then kvs.map (fun kv=>if kv.1=k then (kv.1,v) else kv) else kvs++[(k,v)]
theorem fO {p:κ×V}{r:List (κ×V)}{k:κ}(e:p.1=k):gF (p::r) k=some p.2:=by simp [gF,aMO,e]
theorem fM {p:κ×V}{r:List (κ×V)}{k:κ}(e:¬ p.1=k):gF (p::r) k=gF r k:=by simp [gF,aMO,e]
theorem mQ (k:κ):∀ kvs:List (κ×V),(kvs.any fun kv=>decide (kv.1=k))=(gF kvs k).isSome
 | []=>rfl
 | p::r=>by
  rw [aNk]
  by_cases e:p.1=k
  ·simp only [fO e,decide_eq_true e,Bool.true_or,Option.isSome_some]
  ·rw [fM e,decide_eq_false e,Bool.false_or]; exact mQ k r
theorem Eo (k j:κ)(y:V):∀ kvs:List (κ×V),gF (kvs.map fun kv=>if kv.1=k then (kv.1,y) else kv) j=(gF kvs j).map fun x=>if j=k then y else x
 | []=>rfl
 | p::r=>by
  have ih:=Eo k j y r;rw [aLw]
  by_cases h:p.1=k
  ·rw [if_pos h]
   by_cases e:p.1=j
   ·rw [fO (p:=(p.1,y)) e,fO e,aNo,if_pos (e.symm.trans h)]
   ·rw [fM (p:=(p.1,y)) e,fM e,ih]
  ·rw [if_neg h]
   by_cases e:p.1=j
   ·rw [fO (p:=p) e,fO e,aNo,if_neg (fun z=>h (e.trans z))]
   ·rw [fM (p:=p) e,fM e,ih]
theorem yO (k j:κ)(y:V):∀ kvs:List (κ×V),gF kvs k=none->gF (kvs++[(k,y)]) j=if j=k then some y else gF kvs j
 | [],_=>by
  by_cases e:k=j
  ·rw [if_pos e.symm]; exact fO (p:=(k,y)) e
  ·rw [if_neg (fun z=>e z.symm)]; exact fM (p:=(k,y)) e
 | p::r,hn=>by
  rw [List.cons_append];have hk:¬ p.1=k:=fun z=>by rw [fO z] at hn; cases hn
  rw [fM hk] at hn;have ih:=yO k j y r hn
  by_cases e:p.1=j
  ·rw [fO e,fO e,if_neg (fun z=>hk (e.trans z))]
  ·rw [fM e,fM e,ih]
theorem DG (kvs:List (κ×V))(k j:κ)(y:V):gF (putK kvs k y) j=if j=k then some y else gF kvs j:=by
 unfold putK
 by_cases a:(kvs.any fun kv=>decide (kv.1=k))=true
 ·rw [if_pos a,Eo];rw [mQ] at a
  by_cases e:j=k
  ·obtain ⟨x,hx⟩:=aND.mp a;rw [if_pos e,e,hx,aNo,if_pos rfl]
  ·rw [if_neg e];cases gF kvs j with
   | none=>rfl
   | some x=>rw [aNo,if_neg e]
 ·rw [if_neg a];refine yO k j y kvs ?_;rw [mQ] at a;cases q:gF kvs k with
  | none=>rfl
  | some x=>rw [q] at a; exact (a rfl).elim
theorem gK (kvs:List (κ×V))(k:κ)(v:V):(putK kvs k v).length<=kvs.length+1:=by
 unfold putK
 split
 ·rw [aLo]; omega
 ·rw [aLP,aL0,aOl]; omega
theorem mH.isSome_eq {o:Option V}{u:Option Value}(r:mH o u):o.isSome=u.isSome:=by
 cases o with
 | none=>cases u with
  | none=>rfl
  | some _=>exact (show False from r).elim
 | some _=>cases u with
  | none=>exact (show False from r).elim
  | some _=>rfl
theorem mH.getD {o:Option V}{u:Option Value}{d:V}{d':Value}(r:mH o u)(rd:RelV d d'):RelV (o.getD d) (u.getD d'):=by
 cases o with
 | none=>cases u with
  | none=>exact rd
  | some _=>exact (show False from r).elim
 | some _=>cases u with
  | none=>exact (show False from r).elim
  | some _=>exact r
theorem KV.val {kvs:List (κ×V)}{vs:List (κ×Value)}(r:KV kvs vs)(k:κ):mH (gF kvs k) (valueAt vs k):=by
 unfold KV at r
 induction r with
 | nil=>exact True.intro
 | @cons p q ps qs h t ih =>
  obtain ⟨h1,h2⟩:=h
  by_cases e:p.1=k
  ·have e':q.1=k:=h1.symm.trans e;have b:valueAt (q::qs) k=some q.2:=by simp [valueAt,aMO,e']
   rw [fO e,b]; exact h2
  ·have e':¬ q.1=k:=fun z=>e (h1.trans z);have b:valueAt (q::qs) k=valueAt qs k:=by simp [valueAt,aMO,e']
   rw [fM e,b]; exact ih
theorem KV.any {kvs:List (κ×V)}{vs:List (κ×Value)}(r:KV kvs vs)(k:κ):(kvs.any fun kv=>decide (kv.1=k))=vs.any fun kv=>decide (kv.1=k):=by
 unfold KV at r
 induction r with
 | nil=>rfl
 | cons h t ih=>rw [aNk,aNk,ih,h.1]
theorem KV.repl {kvs:List (κ×V)}{vs:List (κ×Value)}(r:KV kvs vs)(k:κ){y:V}{u:Value}(ry:RelV y u) :
  KV (kvs.map fun kv=>if kv.1=k then (kv.1,y) else kv) (vs.map fun kv=>if kv.1=k then (kv.1,u) else kv):=by
 unfold KV at r ⊢
 induction r with
 | nil=>exact .nil
 | @cons p q ps qs h t ih =>
  rw [aLw,aLw];refine .cons ?_ ih;obtain ⟨h1,h2⟩:=h
  by_cases e:p.1=k
  ·rw [if_pos e,if_pos (h1.symm.trans e)]; exact ⟨h1,ry⟩
  ·rw [if_neg e,if_neg (fun z=>e (h1.trans z))]; exact ⟨h1,h2⟩
theorem KV.put {kvs:List (κ×V)}{vs:List (κ×Value)}(r:KV kvs vs)(k:κ){y:V}{u:Value}(ry:RelV y u):KV (putK kvs k y) (stored vs k u):=by
 unfold putK stored;rw [r.any k]
 by_cases e:(vs.any fun kv=>decide (kv.1=k))=true
 ·rw [if_pos e,if_pos e]; exact r.repl k ry
 ·rw [if_neg e,if_neg e]; exact Paired.snoc r ⟨rfl,ry⟩
theorem KV.length {kvs:List (κ×V)}{vs:List (κ×Value)}(r:KV kvs vs):kvs.length=vs.length:=Paired.length r
end
theorem JK {P:Program}{w:World}{k:Key}{u:Value}(r:RelV (kV k) u):(dZ P w).is k u=true:=by
 cases k with
 | inl i=>obtain ⟨t,e⟩:=(show ∃ t,u=Value.int i t from r); subst e; exact CZ P w i t
 | inr x=>obtain ⟨t,e⟩:=(show ∃ t,u=Value.str x t from r); subst e; exact Cr P w x t
theorem zV {P:Program}{w:World}:∀ {ks:List Key}{us:List Value},b8 (ks.map kV) us->ItemsAre (dZ P w) ks us
 | [],_,r=>by rw [aNL] at r; cases r; exact .nil
 | k::ks,_,r=>by
  rw [aLw] at r;cases r with
  | cons h t=>exact .cons (JK h) (zV t)
abbrev KT (H:Hp):List (List Key×V)->List (List Key×Addr×Value)->Prop:=Paired fun p q=>p.1=q.1/\H q.2.1=some (.tup (p.1.map kV))/\RelV p.2 q.2.2
theorem KT.val {H:Hp}{kvs:List (List Key×V)}{xs:List (List Key×Addr×Value)}(r:KT H kvs xs)(k:List Key):mH (gF kvs k) ((atKey xs k).map (·.2)):=by
 induction r with
 | nil=>exact True.intro
 | @cons p q ps qs h t ih =>
  obtain ⟨h1,_,h2⟩:=h
  by_cases e:p.1=k
  ·have e':q.1=k:=h1.symm.trans e;have b:atKey (q::qs) k=some q.2:=by simp [atKey,aMO,e']
   rw [fO e,b]; exact h2
  ·have e':¬ q.1=k:=fun z=>e (h1.trans z);have b:atKey (q::qs) k=atKey qs k:=by simp [atKey,aMO,e']
   rw [fM e,b]; exact ih
theorem KT.repl {H:Hp}{kvs:List (List Key×V)}{xs:List (List Key×Addr×Value)}(r:KT H kvs xs)(k:List Key){y:V}{u:Value}(ry:RelV y u) :
  KT H (kvs.map fun kv=>if kv.1=k then (kv.1,y) else kv) (xs.map (putAt k u)):=by
 induction r with
 | nil=>exact .nil
 | @cons p q ps qs h t ih =>
  rw [aLw,aLw];refine .cons ?_ ih;obtain ⟨h1,h2,h3⟩:=h;unfold putAt
  by_cases e:p.1=k
  ·rw [if_pos e,if_pos (h1.symm.trans e)]; exact ⟨h1,h2,ry⟩
  ·rw [if_neg e,if_neg (fun z=>e (h1.trans z))]; exact ⟨h1,h2,h3⟩
theorem KT.put {H:Hp}{kvs:List (List Key×V)}{xs:List (List Key×Addr×Value)}(r:KT H kvs xs)(k:List Key){b:Addr}{y:V}{u:Value}(hb:H b=some (.tup (k.map kV)))(ry:RelV y u) :
  KT H (putK kvs k y) (storedH xs k b u):=by
 have e:(kvs.any fun kv=>decide (kv.1=k))=(atKey xs k).isSome:=by
  rw [mQ,(r.val k).isSome_eq,Option.isSome_map]
 unfold putK storedH;rw [e]
 by_cases q:(atKey xs k).isSome=true
 ·rw [if_pos q,if_pos q]; exact r.repl k ry
 ·rw [if_neg q,if_neg q]; exact Paired.snoc r ⟨rfl,hb,ry⟩
theorem KT.keeps {H H':Hp}{kvs:List (List Key×V)}{xs:List (List Key×Addr×Value)}(r:KT H kvs xs)(ht:∀ b ys,H b=some (.tup ys)->H' b=some (.tup ys)):KT H' kvs xs :=
 Paired.mapP r fun _ _ z=>⟨z.1,ht _ _ z.2.1,z.2.2⟩
section
variable {P:Program}{w:World}{H:Hp}{h:Heap}{a:Addr}
theorem RC {u:HO}(ok:nW P w H h)(e:Rd H a u):cJ P w H h a u:=e.ok ok
theorem Eb {kvs:List (Key×V)}(ok:nW P w H h)(e:Rd H a (.dK kvs)):kvs.length<=sizeLine/\(a==sysModules)=false/\∃ vs,KV kvs vs/\h.DictOf (dZ P w) a vs :=
 show cJ P w H h a (.dK kvs) from RC ok e
theorem aBG {kvs:List (Key×V)}(ok:nW P w H h)(e:H a=some (.dK kvs)):kvs.length<=sizeLine/\(a==sysModules)=false/\∃ vs,KV kvs vs/\h.DictOf (dZ P w) a vs:=Eb ok (.inl e)
theorem vM {ks:List Key}(ok:nW P w H h)(e:H a=some (.tup (ks.map kV))):(tupleKind (dZ P w)).is h ks a:=by
 obtain ⟨_,its,r,o,h1,h2,n,h3⟩:=(show cJ P w H h a (.tup (ks.map kV)) from ok a _ e)
 exact ⟨o,its.toArray,n,h1,h2,h3,by simpa using zV r⟩
theorem CP {kvs:List (List Key×V)}(ok:nW P w H h)(e:Rd H a (.dT kvs)):kvs.length<=sizeLine/\(a==sysModules)=false ∧
  ∃ xs,KT H kvs xs/\h.DictOfH (tupleKind (dZ P w)) a xs:=by
 obtain ⟨z,y,xs,r,o,es,ep,h1,h2,h3,h4,h5⟩:=(show cJ P w H h a (.dT kvs) from RC ok e)
 refine ⟨z,y,xs,r,o,es,ep,h1,h2,h3,h4,fun x hx=>?_,h5⟩;have all:∀ {l:List (List Key×V)}{m:List (List Key×Addr×Value)},KT H l m->∀ x∈m,(tupleKind (dZ P w)).is h x.1 x.2.1:=by
  intro l m q
  induction q with
  | nil=>intro x hx; exact nomatch hx
  | @cons p q ps qs hq t ih =>
   intro x hx;rcases aLF.mp hx with e | hx
   ·subst e;exact vM ok (by rw [<- hq.1]; exact hq.2.1)
   ·exact ih x hx
 exact all r x hx
theorem RD {kvs:List (List Key×V)}(ok:nW P w H h)(e:H a=some (.dT kvs)):kvs.length<=sizeLine/\(a==sysModules)=false ∧
  ∃ xs,KT H kvs xs/\h.DictOfH (tupleKind (dZ P w)) a xs:=CP ok (.inl e)
end
def Bm (H:Hp)(a:Addr)(y:V)(r:Option V):Prop :=
 (∃ kvs k,Rd H a (.dK kvs)/\y=kV k/\r=gF kvs k)∨∃ kvs k b,Rd H a (.dT kvs)/\y=.ref b/\H b=some (.tup (k.map kV))/\r=gF kvs k
def Jp (H:Hp)(a:Addr)(y v:V)(H':Hp):Prop :=
 (∃ kvs k,H a=some (.dK kvs)/\y=kV k/\kvs.length<sizeLine/\H'=aX H a (.dK (putK kvs k v))) ∨
 ∃ kvs k b,H a=some (.dT kvs)/\y=.ref b/\H b=some (.tup (k.map kV))/\kvs.length<sizeLine/\H'=aX H a (.dT (putK kvs k v))
theorem Bm.t {H:Hp}{a b:Addr}{kvs:List (List Key×V)}{k:List Key}(e:H a=some (.dT kvs))(eb:H b=some (.tup (k.map kV))):Bm H a (.ref b) (gF kvs k):=.inr ⟨kvs,k,b,.inl e,rfl,eb,rfl⟩
theorem Jp.t {H:Hp}{a b:Addr}{kvs:List (List Key×V)}{k:List Key}{v:V}(e:H a=some (.dT kvs))(eb:H b=some (.tup (k.map kV)))(hl:kvs.length<sizeLine) :
  Jp H a (.ref b) v (aX H a (.dT (putK kvs k v))):=.inr ⟨kvs,k,b,e,rfl,eb,hl,rfl⟩
section
variable {X:Cx}{pins:List (Addr×Obj)}{σ:St}{H:Hp}{s:Shared}{a:Addr}{y v:V}{u r:Value}{o:Option V}{A:Around}{E:Value->Shared->Prop}
theorem bD.big (I:bD X pins σ H s):sysModules<s.heap.objs.size:=by
 have h:mainGlobals<s.heap.objs.size:=(I.mod.glob.keeps I.bk).lt;exact Nat.lt_trans (by decide) h
theorem Je {Q:Value->Shared->Prop}(hu:A.units+1<cLine)(I:bD X pins σ H s)(g:Bm H a y (some v))(ry:RelV y u)(h:∀ w' s',bD X pins σ H s'->RelV v w'->Q w' s') :
  wpAny (model X.prog X.w) A (getItem (.ref a) u) Q E s:=by
 rcases g with ⟨kvs,k,e,ey,l⟩ | ⟨kvs,k,b,e,ey,eb,l⟩
 ·subst ey;obtain ⟨z,hd,vs,rel,dd⟩:=Eb I.hok e;obtain ⟨w',hw,rw'⟩:=mH.some_of (v:=v) (o:=valueAt vs k) (by rw [l]; exact rel.val k);exact wpAny_getItem_of (JK ry) dd.mapOf hw (h w' _ (I.tok _) rw')
 ·subst ey;cases (show u=Value.ref b from ry);obtain ⟨z,hd,xs,rel,dd⟩:=CP I.hok e;obtain ⟨w',hw,rw'⟩:=mH.some_of (v:=v) (o:=(atKey xs k).map (·.2)) (by rw [l]; exact rel.val k);obtain ⟨p,hp,hp2⟩:=Option.map_eq_some_iff.mp hw;refine wpAny_getItem_heap (tupleKind_room_in1 hu) (vM I.hok eb) dd hp ?_;rw [hp2];exact h w' _ (I.tok _) rw'
theorem Bq {h':Heap}{t':Nat}{ob:HO}(I:bD X pins σ H s)(mu:Mut (H a))(hs:aMa a s.heap h')(he:∃ q,h'.get? a=some q)(new:cJ X.prog X.w (aX H a ob) h' a ob) :
  bD X pins σ (aX H a ob) { s with heap:=h',toks:=t' } :=
 I.write (x:=a) (e:=a) mu (.inl rfl) (fun b q hb z=>(hs.2 b hb).trans z) he new
theorem Rj {P:Program}{w:World}{H':Hp}{h':Heap}{kvs:List (Key×V)}{vs:List (Key×Value)}(z:kvs.length<=sizeLine)(hd:(a==sysModules)=false)(rel:KV kvs vs)(dd:h'.DictOf (dZ P w) a vs) :
  cJ P w H' h' a (.dK kvs):=⟨z,hd,vs,rel,dd⟩
theorem J2 {H':Hp}{Q:Unit->Shared->Prop}(hu:A.units+1<cLine)(I:bD X pins σ H s)(g:Jp H a y v H')(ry:RelV y u)(rv:RelV v r)(h:∀ s',bD X pins σ H' s'->Q () s') :
  wpAny (model X.prog X.w) A (setItem (.ref a) u r) Q E s:=by
 rcases g with ⟨kvs,k,e,ey,l,eH⟩ | ⟨kvs,k,b,e,ey,eb,l,eH⟩
 ·subst ey eH;obtain ⟨z,hd,vs,rel,dd⟩:=aBG I.hok e;have hz:vs.length<=sizeLine:=by rw [<- rel.length]; exact z
  have hl:(putK kvs k v).length<=sizeLine:=by have:=gK kvs k v; omega
  refine wpAny_setItem_pairs (hsz:=hz) (JK ry) dd fun h' dd' hs=>h _ ?_;have he:∃ q,h'.get? a=some q:=let ⟨q,_,_,hq,_⟩:=dd'; ⟨q,hq⟩;exact Bq I (by rw [e]; exact True.intro) hs he (Rj hl hd (rel.put k rv) dd')
 ·subst ey eH;cases (show u=Value.ref b from ry);obtain ⟨z,hd,xs,rel,dd⟩:=RD I.hok e;have hz:xs.length<=sizeLine:=by rw [<- Paired.length rel]; exact z
  have hl:(putK kvs k v).length<=sizeLine:=by have:=gK kvs k v; omega
  refine wpAny_setItem_heap (hsz:=hz) (tupleKind_room_in1 hu) (vM I.hok eb) dd fun h' dd' hs=>h _ ?_;obtain ⟨q,es,ep,hq,h2,h3,h4,_,h5⟩:=dd';refine Bq I (by rw [e]; exact True.intro) hs ⟨q,hq⟩ ⟨hl,hd,_,(rel.put k eb rv).keeps fun c ys ec=>?_,q,es,ep,hq,h2,h3,h4,h5⟩;rw [aO (cI ec e (fun z=>nomatch z))];exact ec
end
def Vo (i:Expr):Prop:=∀ ov iv,subscripted i false ov iv=operate [ov,iv] (getItem ov iv)
theorem Ox {prog:Program}{w:World}{A:Around}{E:Value->Shared->Prop}{s:Shared}{env:Env}{value slice:Expr}{pos:Pos}{T id:String}{Q:Value->Shared->Prop}
  (hl:typeLookup (.type T) "__getitem__" = pure (some (.builtin id))) (hs:Vo slice)
  (h:wpAny (model prog w) A (eval value env) (fun o s₁=>wpAny (model prog w) A (eval slice env) (fun i s₂=>s₂.TypeIs o T/\wpAny (model prog w) A (getItem o i) Q E s₂) E s₁) E s) :
  wpAny (model prog w) A (eval (.Subscript value slice pos) env) Q E s:=by
 refine Subscript_ (wpAny_mono h (fun o s₁ h₁=>wpAny_mono h₁ (fun i s₂ h₂=>?_) fun _ _ x=>x) fun _ _ x=>x);obtain ⟨hT,h₂⟩:=h₂;unfold subscriptTail;refine wpAny_bind ?_;rw [getitemInPython_of_ne hT.not_modules];refine wpAny_bind (wpAny_specialOf hT hl ?_);have fin:wpAny (model prog w) A (subscripted slice false o i) (fun r s₃=>wpAny (model prog w) A (letTemporaryGo value o r >>= fun _=>pure r) Q E s₃) E s₂:=by
  rw [hs o i];exact wpAny_operating (wpAny_mono h₂ (fun r s₃ h₃=>wpAny_bind (wpAny_letTemporaryGo (wpAny_pure h₃))) fun _ _ x=>x)
 first
  | exact wpAny_pure (wpAny_bind fin)
  | exact wpAny_bind (wpAny_pure (wpAny_bind fin))
  | exact wpAny_bind fin
theorem En {X:Cx}{pins:List (Addr×Obj)}{σ:St}{H:Hp}{s:Shared}{a:Addr}{y:V}{o:Option V}(I:bD X pins σ H s)(g:Bm H a y o):s.TypeIs (.ref a) "dict":=by
 rcases g with ⟨kvs,k,e,_,_⟩ | ⟨kvs,k,b,e,_,_,_⟩
 ·obtain ⟨_,_,vs,_,dd⟩:=Eb I.hok e;exact dd.typeIs
 ·obtain ⟨_,_,xs,_,dd⟩:=CP I.hok e;exact dd.typeIs
def aBg (td ty:TE):TE:=fun σ H Q=>td σ H fun x H1=>ty σ H1 fun y H2=>∃ a v,x=.ref a/\Bm H2 a y (some v)/\Q v H2
def VM (td ty tv:TE):TS:=fun D σ H=>tv σ H fun v H1=>td σ H1 fun x H2=>ty σ H2 fun y H3=>∃ a H4,x=.ref a/\Jp H3 a y v H4/\D.nx σ H4
section
variable {X:Cx}{o i e value:Expr}{pos pos' tpos:Pos}{td ty tv:TE}
theorem Ip (hu:X.A.units+1<cLine)(ho:PE X o td)(hi:PE X i ty)(hs:Vo i):PE X (.Subscript o i pos) (aBg td ty):=by
 intro pins s σ H Q I h;refine Ox PySem.F.slot_dict_getitem.lookup hs (d7 (ho pins s σ H _ I h) fun u s1 ⟨x,H1,I1,rx,q1⟩=>d7 (hi pins s1 σ H1 _ I1 q1) fun iv s2 ⟨y,H2,I2,ry,a,v,ex,g,q2⟩=>?_);subst ex;obtain rfl:u=Value.ref a:=rx;exact ⟨En I2 g,Je hu I2 g ry fun w' s3 I3 rw'=>⟨v,H2,I3,rw',q2⟩⟩
theorem Hf (hu:X.A.units+1<cLine)(ho:PE X o td)(hi:PE X i ty)(hv:PE X value tv)(hs:swapsWith value (some (.Subscript o i pos')) pos.line X.env=pure false) :
  PS X (.Assign [.Subscript o i pos'] value pos) (VM td ty tv):=by
 intro pins s σ H D I h;refine wpAny_Assign_Subscript (d7 (hv pins s σ H _ I h) fun r s1 ⟨v,H1,I1,rv,q1⟩=>d7 (ho pins s1 σ H1 _ I1 q1) fun u s2 ⟨x,H2,I2,rx,q2⟩=>d7 (hi pins s2 σ H2 _ I2 q2) fun iv s3 ⟨y,H3,I3,ry,a,H4,ex,g,q3⟩=>?_) hs;subst ex;obtain rfl:u=Value.ref a:=rx;exact J2 hu I3 g ry rv fun s4 I4=>⟨σ,H4,I4,q3⟩
end
theorem Cw {P:Program}{w:World}{H:Hp}(h:Heap)(hb:sysModules<h.objs.size):cJ P w H (h.push { cls:=.type "dict",data:=.dict #[] }) h.objs.size (.dT []) :=
 ⟨aLQ _,beq_eq_false_iff_ne.mpr (Ne.symm (aLR hb)),[],.nil,_,#[],0,aLJ _ rfl,⟨rfl,rfl,rfl⟩,rfl,rfl,aMH⟩
def Sg:TE:=fun _ H Q=>∀ p,H p=none->Q (.ref p) (aX H p (.dT []))
section
variable {X:Cx}{pos:Pos}
theorem Cd:PE X (.Dict [] [] pos) Sg:=fun pins s σ H Q I h =>
 wpAny_Dict_empty ⟨.ref s.heap.objs.size,_,I.laid (a:=s.heap.objs.size) (o:=.dT []) (t':=s.toks) (fun _ _ q=>aLt _ q) (aLu _) (Cw s.heap I.big),rfl,h _ (I.hok.fresh (aLu _))⟩
end
structure M1 (X:Cx)(o:Expr)(m:Str)(apos:Pos)(e:Expr)(cpos:Pos):Prop where
 base:attributeBase o m X.env (eval o X.env)=eval o X.env
 few:((backTo cpos (starEach [e] X.env)).all (fun x=>!x.1)&&(backToKw cpos (keywordEach [] X.env)).all (fun x=>x.1.isSome)
 &&decide (([e]:List Expr).length+([]:List Keyword).length+(if ([]:List Keyword).isEmpty then 0 else 1)<30))=true
 line:(apos.endLine==cpos.line)=true
 trees:backTo cpos (starEach [e] X.env)=[(false,eval e X.env)]
structure M2 (X:Cx)(o:Expr)(m:Str)(apos:Pos)(e f:Expr)(cpos:Pos):Prop where
 base:attributeBase o m X.env (eval o X.env)=eval o X.env
 few:((backTo cpos (starEach [e,f] X.env)).all (fun x=>!x.1)&&(backToKw cpos (keywordEach [] X.env)).all (fun x=>x.1.isSome)
 &&decide (([e,f]:List Expr).length+([]:List Keyword).length+(if ([]:List Keyword).isEmpty then 0 else 1)<30))=true
 line:(apos.endLine==cpos.line)=true
 trees:backTo cpos (starEach [e,f] X.env)=[(false,eval e X.env),(false,eval f X.env)]
def IsD (H:Hp)(a:Addr):Prop:=(∃ kvs,Rd H a (.dK kvs))∨∃ kvs,Rd H a (.dT kvs)
theorem Tj {X:Cx}{pins:List (Addr×Obj)}{σ:St}{H:Hp}{s:Shared}{a:Addr}(I:bD X pins σ H s)(d:IsD H a) :
  s.TypeIs (.ref a) "dict"/\(∀ b,Value.ref a=.ref b->∃ ob,s.heap.get? b=some ob/\ob.dict=none)/\(a==sysModules)=false:=by
 rcases d with ⟨kvs,e⟩ | ⟨kvs,e⟩
 ·obtain ⟨_,hd,vs,_,dd⟩:=Eb I.hok e;refine ⟨dd.typeIs,fun b q=>?_,hd⟩;cases q;obtain ⟨ob,_,_,h1,h2,_⟩:=dd;exact ⟨ob,h1,h2.2.1⟩
 ·obtain ⟨_,hd,xs,_,dd⟩:=CP I.hok e;refine ⟨dd.typeIs,fun b q=>?_,hd⟩;cases q;obtain ⟨ob,_,_,h1,h2,_⟩:=dd;exact ⟨ob,h1,h2.2.1⟩
section
variable {X:Cx}{pins:List (Addr×Obj)}{σ:St}{H:Hp}{s:Shared}{a:Addr}{y d:V}{u r:Value}{o:Option V}{A:Around}{E:Value->Shared->Prop}
theorem SX {Q:Value->Shared->Prop}(hu:A.units+1<cLine)(I:bD X pins σ H s)(g:Bm H a y o)(ry:RelV y u)(rd:RelV d r)(h:∀ w' s',bD X pins σ H s'->RelV (o.getD d) w'->Q w' s') :
  wpAny (model X.prog X.w) A (call (.builtin "dict.get") [.ref a,u,r]) Q E s:=by
 rcases g with ⟨kvs,k,e,ey,l⟩ | ⟨kvs,k,b,e,ey,eb,l⟩
 ·subst ey;obtain ⟨z,hd,vs,rel,dd⟩:=Eb I.hok e;refine call_meetsIn PySem.F.slot_dict_get dd.typeIs PySem.F.entry_dict_get (PySem.F.args_dict_get_3 _ _ _) (meets_dict_get_default (dZ X.prog X.w) a (JK ry) hd r) ⟨_,dd.mapOf,h _ _ (I.tok _) ?_⟩;rw [l];exact (rel.val k).getD rd
 ·subst ey;cases (show u=Value.ref b from ry);obtain ⟨z,hd,xs,rel,dd⟩:=CP I.hok e;refine call_meetsIn PySem.F.slot_dict_get dd.typeIs PySem.F.entry_dict_get (PySem.F.args_dict_get_3 _ _ _) (meetsH_dict_get_default (tupleKind (dZ X.prog X.w)) a b hd r) ⟨tupleKind_room_in1 hu,k,xs,vM I.hok eb,dd,h _ _ (I.tok _) ?_⟩;rw [l];exact (rel.val k).getD rd
end
def Tt (td ty tx:TE):TE:=fun σ H Q=>td σ H fun x H1=>∃ a,x=.ref a/\IsD H1 a/\ty σ H1 fun y H2=>tx σ H2 fun z H3=>∃ o,Bm H3 a y o/\Q (o.getD z) H3
section
variable {X:Cx}{o e f:Expr}{apos cpos:Pos}{td ty tx:TE}
theorem Dg (hu:X.A.units+1<cLine)(ho:PE X o td)(he:PE X e ty)(hf:PE X f tx)(m:M2 X o "get" apos e f cpos):PE X (.Call (.Attribute o "get" apos) [e,f] [] cpos) (Tt td ty tx):=by
 intro pins s σ H Q I h;refine wpAny_Call_method m.base m.few m.line PySem.F.plainAttrs_dict PySem.F.slot_dict_get PySem.F.type_dict_get (d7 (ho pins s σ H _ I h) fun u s1 ⟨x,H1,I1,rx,a,ex,d,q1⟩=>?_);subst ex;obtain rfl:u=Value.ref a:=rx;obtain ⟨t1,t2,_⟩:=Tj I1 d;refine ⟨t1,t2,?_⟩;rw [m.trees];refine Calls.callWith_builtin rfl (Calls.evalArgs_plain (Calls.spliced_cons (d7 (he pins s1 σ H1 _ I1 q1) fun iv s2 ⟨y,H2,I2,ry,q2⟩ =>
  Calls.spliced_cons (d7 (hf pins s2 σ H2 _ I2 q2) fun fv s3 ⟨z,H3,I3,rz,ov,g,q3⟩=>Calls.spliced_nil ?_))))
 exact SX hu I3 g ry rz fun w' s4 I4 rw'=>⟨_,H3,I4,rw',q3⟩
end
section
variable {κ:Type}[DecidableEq κ]
theorem NK {kvs:List (κ×V)}{k:κ}(h:gF kvs k=none):¬ k∈kvs.map (·.1):=by
 intro m;obtain ⟨p,hp,e⟩:=aLr.mp m;have q:(kvs.any fun kv=>decide (kv.1=k))=true:=aMh.mpr ⟨p,hp,decide_eq_true e⟩;rw [mQ,h] at q;exact absurd q (by simp)
end
end L2
namespace PySem
section
variable {prog:Program}{w:World}{A:Around}{E:Value->Shared->Prop}{R:Result->Shared->Prop}{s:Shared}
theorem Ad {elt target iter:Expr}{ifs:List Expr}{scope:Scope}{pos:Pos}{it acc:Value}{env:Env}(I:Nat->Shared->Prop)
  (turn:∀ n s,I n s->∀ E':Value->Shared->Prop,wpAny (model prog w) A (pyNext it) (fun r s₁=>match r with
   | none=>R (.ok .next) s₁
   | some v=>wpAny (model prog w) A (letOwnedTupleGo target it v) (fun _ s₁'=>wpAny (model prog w) A (assign target env v) (fun _ s₂ =>
     wpAny (model prog w) A (forIn ifs true fun c r=>if r=true then do let ok <- isTrue c env (eval c env); pure (ForInStep.yield ok) else pure (ForInStep.yield r)) (fun ok s₃ =>
      if ok=true then wpAny (model prog w) A (eval elt env) (fun x s₄ =>
       wpAny (model prog w) A (call (.builtin "list.append") [acc,x]) (fun _ s₅=>∃ m,m<n/\I m s₅) E' s₄) E' s₃
      else ∃ m,m<n/\I m s₃) E' s₂) E' s₁') E' s₁) E' s)
  (n:Nat) (h:I n s) :
  codeAny (model prog w) A (.compLoop (.ListComp elt [⟨target,iter,ifs,0⟩] scope pos) 0 it acc env) R s:=by
 refine codeAny_loop rfl I (fun n s hI=>?_) n h;show wpAny _ A ((compTurn (.ListComp elt [⟨target,iter,ifs,0⟩] scope pos) 0 it acc env).onRaise (fun x=>do noteFrame x env; theTreesLotGoes x)) _ _ s;refine wpAny_noted ?_;rw [compTurn_list];refine wpAny_bind (wpAny_standAt (wpAny_bind (wpAny_mono (turn n s hI _) (fun r s₁ h₁=>?_) fun _ _ h'=>h')));cases r with
 | none=>exact wpAny_pure h₁
 | some v =>
  refine wpAny_bind (wpAny_mono h₁ (fun _ s₁' h₁'=>?_) fun _ _ h'=>h');refine wpAny_bind (wpAny_mono h₁' (fun _ s₂ h₂=>wpAny_bind (wpAny_mono h₂ (fun ok s₃ h₃=>?_) fun _ _ h'=>h')) fun _ _ h'=>h');cases ok with
  | false=>exact wpAny_pure ⟨rfl,h₃⟩
  | true =>
   exact wpAny_bind (wpAny_bind (wpAny_mono h₃ (fun x s₄ h₄=>wpAny_bind (wpAny_mono h₄ (fun _ s₅ h₅=>wpAny_pure (wpAny_pure ⟨rfl,h₅⟩)) fun _ _ h'=>h')) fun _ _ h'=>h'))
end
def fG (env:Env):List (Str×NameKind)->List (Str×Addr)->List (Str×Addr)
 | [],cs=>cs
 | (n,k)::r,cs=>fG env r (if k==.free then (match env.cells.lookup n with | some a=>(n,a)::cs | none=>cs) else cs)
theorem rB {scope:Scope}{env:Env}(h:∀ y∈scope.names,y.2=.free->∃ c,env.cells.lookup y.1=some c):closureFor scope env=pure (fG env scope.names []):=by
 unfold closureFor;have key:∀ (l:List (Str×NameKind)) (cs:List (Str×Addr)),(∀ y∈l,y.2=.free->∃ c,env.cells.lookup y.1=some c) ->
   (forIn l cs fun x r=>(match x with
    | (name,kind)=>if (kind==NameKind.free)=true then (do let a <- cellOf env name; pure (ForInStep.yield ((name,a)::r))) else pure (ForInStep.yield r):Sem (ForInStep (List (Str×Addr)))))=(pure (fG env l cs):Sem _):=by
  intro l
  induction l with
  | nil=>intro cs _; rfl
  | cons y r ih =>
   intro cs hy;obtain ⟨n,k⟩:=y;rw [List.forIn_cons]
   by_cases hk:(k==NameKind.free)=true
   ·obtain ⟨c,hc⟩:=hy (n,k) aLq (by simpa using hk);have e:cellOf env n=pure c:=by unfold cellOf; rw [hc]
    simp only [hk,if_true,e,pure_bind];rw [ih _ fun z hz=>hy z (aLp _ hz)];show _=pure (fG env r (if (k==NameKind.free)=true then (match env.cells.lookup n with | some a=>(n,a)::cs | none=>cs) else cs));rw [if_pos hk,hc]
   ·have hk2:(k==NameKind.free)=false:=by simpa using hk
    simp only [hk2,aMn,if_false,pure_bind];rw [ih _ fun z hz=>hy z (aLp _ hz)];show _=pure (fG env r (if (k==NameKind.free)=true then (match env.cells.lookup n with | some a=>(n,a)::cs | none=>cs) else cs));rw [if_neg hk]
 have k2:=key scope.names [] h;simp only [bind_pure]
 first
  | exact k2
  | (rw [<- k2]; rfl)
theorem rY {env:Env}:∀ (l:List (Str×NameKind)) (cs:List (Str×Addr)) (p:Str×Addr),p∈fG env l cs->p∈cs∨env.cells.lookup p.1=some p.2
 | [],_,_,h=>.inl h
 | (n,k)::r,cs,p,h=>by
  rcases rY r _ p h with q | q
  ·by_cases hk:(k==NameKind.free)=true
   ·rw [if_pos hk] at q;cases e:env.cells.lookup n with
    | none=>rw [e] at q; exact .inl q
    | some a =>
     rw [e] at q;rcases aLF.mp q with z | z
     ·subst z; exact .inr e
     ·exact .inl z
   ·rw [if_neg hk] at q; exact .inl q
  ·exact .inr q
theorem yW {env:Env}:∀ (l:List (Str×NameKind)) (cs:List (Str×Addr)) (p:Str×Addr),p∈cs->p∈fG env l cs
 | [],_,_,h=>h
 | (n,k)::r,cs,p,h=>by
  refine yW r _ p ?_
  by_cases hk:(k==NameKind.free)=true
  ·rw [if_pos hk];cases e:env.cells.lookup n with
   | none=>exact h
   | some a=>exact aLp _ h
  ·rw [if_neg hk]; exact h
theorem rM {env:Env}{n:Str}{c:Addr}(e:env.cells.lookup n=some c):∀ (l:List (Str×NameKind)) (cs:List (Str×Addr)),(n,NameKind.free)∈l->(n,c)∈fG env l cs
 | [],_,h=>nomatch h
 | (m,k)::r,cs,h=>by
  rcases aLF.mp h with z | z
  ·cases z;refine yW r _ _ ?_;rw [if_pos (by rfl),e];exact aLq
  ·exact rM e r _ z
theorem kI {β:Type}{n:Str}{c:β}:∀ {l:List (Str×β)},(n,c)∈l->∃ d,l.lookup n=some d
 | [],h=>nomatch h
 | (m,d)::r,h=>by
  cases q:n==m with
  | true=>exact ⟨d,by simp only [aMi,q]⟩
  | false =>
   rcases aLF.mp h with z | z
   ·cases z;simp at q
   ·obtain ⟨d',e⟩:=kI z;exact ⟨d',by simp only [aMi,q,e]⟩
theorem iW {env:Env}:∀ {names:List (Str×NameKind)}{x:Str}{k:NameKind},
  (names.map fun (n,k)=>if (k==NameKind.free&&env.scope.kind==.function&&env.kindOf n==some .cell) then (n,NameKind.cell) else (n,k)).lookup x=some k ->
  ∃ k',names.lookup x=some k'/\(k'=k∨(k'=.free/\k=.cell))
 | [],_,_,h=>by simp at h
 | (n,j)::r,x,k,h=>by
  cases hx:x==n with
  | true =>
   refine ⟨j,by simp only [aMi,hx],?_⟩
   by_cases hc:(j==NameKind.free&&env.scope.kind==.function&&env.kindOf n==some .cell)=true
   ·simp only [aLw,if_pos hc,aMi,hx] at h;cases h;refine .inr ⟨?_,rfl⟩;simp only [aLV,beq_iff_eq] at hc;exact hc.1.1
   ·simp only [aLw,if_neg hc,aMi,hx] at h;cases h;exact .inl rfl
  | false =>
   by_cases hc:(j==NameKind.free&&env.scope.kind==.function&&env.kindOf n==some .cell)=true
   ·simp only [aLw,if_pos hc,aMi,hx] at h;obtain ⟨k',e1,e2⟩:=iW h;exact ⟨k',by simp only [aMi,hx,e1],e2⟩
   ·simp only [aLw,if_neg hc,aMi,hx] at h;obtain ⟨k',e1,e2⟩:=iW h;exact ⟨k',by simp only [aMi,hx,e1],e2⟩
end PySem
namespace L2
open PySem PySem.Spec PyProof.Rows
open Builtin.Int (intBits)
section
variable {X:Cx}
def Lb (i j:Int):Prop:=intBits i+intBits j<=134217728
def ZM (i j:Int):Prop:=j≠0/\intBits j<=9000
theorem bZ:oE X (binaryOp .Mult) (rI Lb fun i j=>.int (i*j)):=R8 fun _ _ _ _ _ _ _ hc q=>mul_int q (IntMulOk.of_le (aLu _) (aLu _) hc)
theorem Ar {j:Int}(h0:j≠0)(h:intBits j<=9000):j.natAbs.log2<9000:=by
 unfold Builtin.Int.intBits at h;have e:(j==0)=false:=by simpa using h0
 rw [e] at h;simp only [aMn,if_false] at h;omega
theorem fU:oE X (binaryOp .FloorDiv) (rI ZM fun i j=>.int (i.fdiv j)):=R8 fun _ _ _ _ _ _ _ hc q=>floordiv_int hc.1 q (.inl (PyProof.noPylong_of_log2 (Ar hc.1 hc.2)))
theorem cU {T:String}:eY X (.builtin "isinstance") (fun xs H Q=>∃ x t b,xs=[x,.ty T]/\iB X.K H x t/\PySem.W.kitOne X.K t (.type T)=some b/\Q (.bl b) H):=by
 intro pins s σ H xs us Q I r h;obtain ⟨x,t,b,rfl,ty,e,q⟩:=h;obtain ⟨u,w',rfl,rx,rt⟩:=vals2 r;cases (show w'=Value.type T from rt);exact yX I rx ty e fun tk=>⟨.bl b,H,I.tok _,rfl,q⟩
theorem getD_at {α:Type}{l:List α}{d:α}{i:Nat}(h:i<l.length):l.getD i d=l[i]:=by simp [h]
theorem Ef:∀ (ns ms:List Int),((aME (min ns.length ms.length)).all (fun j=>ns.getD j 0==ms.getD j 0)&&ns.length==ms.length)=decide (ns=ms):=by
 intro ns ms;rw [aMs];simp only [aLV,aMI,aMj,beq_iff_eq,decide_eq_true_eq];constructor
 ·rintro ⟨h,hl⟩;refine aOf hl fun i h1 h2=>?_;have q:=h i (by omega);rw [getD_at h1,getD_at h2] at q;exact q
 ·rintro rfl;exact ⟨fun _ _=>rfl,rfl⟩
theorem Ie {us:List Value}{ns:List Int}(h:b8 (ns.map V.int) us){j:Nat}(hj:j<us.length):∃ t,us[j]=Value.int (ns.getD j 0) t:=by
 have hl:=h.length;rw [aLo] at hl;have e:(ns.map V.int)[j]? = some (.int (ns.getD j 0)):=by
  rw [aLH,aLs (by omega),getD_at (by omega)]
  rfl
 obtain ⟨u,hu,t,r⟩:=h.get e;rw [aLs hj] at hu;exact ⟨t,(aMq.inj hu).trans r⟩
def aDN (K:PySem.W.Frag):R2:=fun x y H Q=>∃ (a b:Addr) (ns ms:List Int),x=.ref a/\y=.ref b/\cY K H a (ns.map V.int)/\cY K H b (ms.map V.int)/\Q (.bl (decide (ns=ms))) H
theorem J0 {A:Around}{s:Shared}{its its2:List Value}{ns ms:List Int}(r1:b8 (ns.map V.int) its)(r2:b8 (ms.map V.int) its2) :
  ∀ j (h1:j<its.toArray.size) (h2:j<its2.toArray.size),PySem.SeqAt.EqAt A s its.toArray[j] its2.toArray[j] (ns.getD j 0==ms.getD j 0):=fun j h1 h2=>by
 obtain ⟨t1,e1⟩:=Ie r1 (j:=j) (by simpa using h1);obtain ⟨t2,e2⟩:=Ie r2 (j:=j) (by simpa using h2);rw [aNl,aNl,e1,e2];exact PySem.SeqAt.EqAt.int_int _ _ _ _
theorem Gn {its its2:List Value}{ns ms:List Int}(r1:b8 (ns.map V.int) its)(r2:b8 (ms.map V.int) its2) :
  ((aME (min its.toArray.size its2.toArray.size)).all (fun j=>ns.getD j 0==ms.getD j 0)&&its.toArray.size==its2.toArray.size)=decide (ns=ms):=by
 have l1:=r1.length;have l2:=r2.length;rw [aLo] at l1 l2;rw [aLM,aLM,<- l1,<- l2];exact Ef ns ms
theorem Rq (hu:X.A.units<cLine):oE X (compareOp .Eq) (aDN X.K):=by
 intro pins s σ H x y v u Q I rx ry h;obtain ⟨a,b,ns,ms,rfl,rfl,ha,hb,q⟩:=h;cases rx;cases ry;obtain ⟨its,r1,p1,_⟩:=I.tuple ha;obtain ⟨its2,r2,p2,_⟩:=I.tuple hb;refine PySem.SeqAt.eq_tupleAt (show s.heap.IsTuple a its.toArray from p1) (show s.heap.IsTuple b its2.toArray from p2) hu (J0 r1 r2) ?_;rw [Gn r1 r2];exact ⟨.bl (decide (ns=ms)),H,I,rfl,q⟩
end
structure bM (sc scope:Scope):Prop where
 kind:scope.kind=.function
 nocell:∀ y∈scope.names,y.2≠.cell
 loc:∀ y∈scope.names,y.2=.local->scope.names.lookup y.1=some .local
 free:∀ y∈scope.names,y.2=.free->sc.names.lookup y.1=some .cell∨sc.names.lookup y.1=some .free
def Iz (sc scope:Scope):Bool:=(scope.kind==.function)&&scope.names.all fun y=>(y.2 != .cell)&&((y.2 != .local)||(scope.names.lookup y.1==some .local))&&((y.2 != .free)||(sc.names.lookup y.1==some .cell)||(sc.names.lookup y.1==some .free))
theorem bM.of {sc scope:Scope}(h:Iz sc scope=true):bM sc scope:=by
 unfold Iz at h;rw [aLV,aMI] at h;obtain ⟨hk,h⟩:=h;refine ⟨eq_of_beq hk,fun y hy=>?_,fun y hy e=>?_,fun y hy e=>?_⟩
 ·have q:=h y hy;simp only [aLV,bne_iff_ne] at q;exact q.1.1
 ·have q:=h y hy;simp only [aLV,aMP,bne_iff_ne,beq_iff_eq] at q;exact q.1.2.resolve_left fun z=>z e
 ·have q:=h y hy;simp only [aLV,aMP,bne_iff_ne,beq_iff_eq] at q;rcases q.2 with (z | z) | z
  ·exact absurd e z
  ·exact .inl z
  ·exact .inr z
structure NL (N M:List Str)(scope:Scope):Prop where
 len:M.length=N.length
 loc:∀ (j:Nat) x,M[j]? = some x->scope.names.lookup x≠some .local
 free:∀ (j:Nat) x,M[j]? = some x->scope.names.lookup x=some .free->N[j]? = some x
def nlB (scope:Scope):List Str->List Str->Bool
 | [],[]=>true
 | x::M,y::N=>(scope.names.lookup x != some .local)&&((scope.names.lookup x != some .free)||x==y)&&nlB scope M N
 | _,_=>false
theorem NL.of {scope:Scope}:∀ {N M:List Str},nlB scope M N=true->NL N M scope
 | [],[],_=>⟨rfl,fun j x h=>by simp at h,fun j x h=>by simp at h⟩
 | [],_::_,h=>by cases h
 | _::_,[],h=>by cases h
 | y::N,x::M,h=>by
  have h':((scope.names.lookup x != some .local)&&((scope.names.lookup x != some .free)||x==y)&&nlB scope M N)=true:=h;simp only [aLV,aMP,bne_iff_ne,beq_iff_eq] at h';obtain ⟨⟨h1,h2⟩,h3⟩:=h';have q:=NL.of h3;refine ⟨by simp [q.len],fun j z e=>?_,fun j z e f=>?_⟩
  ·cases j with
   | zero=>simp at e; subst e; exact h1
   | succ j=>exact q.loc j z (by simpa using e)
  ·cases j with
   | zero =>
    simp at e; subst e;rcases h2 with w | w
    ·exact absurd f w
    ·simp [w]
   | succ j=>simpa using q.free j z (by simpa using e) f
def eU (X:Cx)(ls M:List Str)(scope:Scope)(C:Addr)(fp:List Addr)(s:Shared)(H:Hp):Cx where
 prog:=X.prog
 w:=X.w
 K:=X.K
 mg:=X.mg
 base:=X.base
 A:=X.A
 N:=ls++M
 s₀:=s
 H₀:=H
 env:=compEnvC scope (fG X.env scope.names []) C X.env
 outer:=X.stack
 stack:=X.stack
 ex:=fp
 fn:=fun _=>false
 calm:=X.calm
 pn:=[]
 xe:=fun _ _=>False
def VN (Y:Cx)(ifs:List Expr)(c:TT):Prop :=
 ∀ (pins:List (Addr×Obj)) (s:Shared) (σ:St) (H:Hp) (Q:Bool->Hp->Prop),bD Y pins σ H s->c σ H Q ->
  wpAny (model Y.prog Y.w) Y.A (forIn ifs true fun c r=>if r=true then do let ok <- isTrue c Y.env (eval c Y.env); pure (ForInStep.yield ok) else pure (ForInStep.yield r)) (TP Y pins σ Q) Y.xe s
def Rv:TT:=fun _ H Q=>Q true H
theorem bV {Y:Cx}:VN Y [] Rv:=fun _ _ _ H _ I h=>wpAny_tests_nil ⟨H,I,h⟩
theorem Bl {Y:Cx}{e:Expr}{c:TT}(h:PT Y e c):VN Y [e] c:=fun pins s σ H Q I hw=>wpAny_tests_one (h pins s σ H Q I hw)
def vJ (k:Nat)(J:It)(g:TG)(c:TT)(te:TE)(σ:St)(H1:Hp)(D:Addr)(Q:VK):Prop :=
 ∃ W:Nat->Nat->St->Hp->Prop,(∃ m,W 0 m (aLX k none++σ) (aX H1 D (.lst [])))/\∀ i m τ H,W i m τ H ->
  (J.stop i H/\Q (.ref D) H)∨(J.go i H/\∀ x H',J.yld i H x H'->g x τ H' fun τ2 H2=>c τ2 H2 fun b H3=>if b=true then te τ2 H3 fun y H4=>∃ ys m',m'<m/\H4 D=some (.lst ys)/\ys.length<sizeLine/\W (i+1) m' τ2 (aX H4 D (.lst (ys++[y]))) else ∃ m',m'<m/\W (i+1) m' τ2 H3)
def R0 (k:Nat)(wi:TI)(g:TG)(c:TT)(te:TE):TE:=fun σ H Q=>wi σ H fun J H1=>∀ D,H1 D=none->vJ k J g c te σ H1 D Q
structure Pb (X:Cx)(pins:List (Addr×Obj))(H:Hp)(C:Addr)(s:Shared):Prop where
 ns:∃ m,s.heap.Ns C m
 none:H C=none
 ne:C≠X.env.locals
 young:X.s₀.heap.objs.size<=C
 cells:∀ x c,X.env.cells.lookup x=some c->c≠C
 pins:∀ p∈X.pn++pins,p.1≠C
theorem bD.gone {X:Cx}{pins:List (Addr×Obj)}{σ:St}{H:Hp}{C:Addr}{s:Shared}{h':Heap}(I:bD X pins σ H s)(o:Pb X pins H C s)(hs:aMa C s.heap h'):bD X pins σ H { s with heap:=h' } :=
 I.turned (t':=s.toks) (it:=C) (fun b ob hb e=>(hs.2 b hb).trans e) o.none o.ne (.inr o.young) o.cells o.pins
section
variable {X:Cx}{elt tg iter:Expr}{ifs:List Expr}{scope:Scope}{pos:Pos}{ls M:List Str}{g:TG}{c:TT}{te:TE}
theorem zO {J:It}{fp:List Addr}{tn:Nat->Heap->Prop}{it:Addr}{pins:List (Addr×Obj)}{σ:St}{H2:Hp}{s2:Shared}{Qe:VK}{RR:Value->Addr->Result->Shared->Prop}{E:Value->Shared->Prop}
  (hc:X.calm=true) (S:bM X.env.scope scope) (nl:NL X.N M scope)
  (hb:∀ C fp s H,PG (eU X ls M scope C fp s H) tg g/\VN (eU X ls M scope C fp s H) ifs c/\PE (eU X ls M scope C fp s H) elt te)
  (I2:bD X pins σ H2 s2) (T:Turn X.prog X.w X.K tg J fp it tn) (st2:tn 0 s2.heap) (f2:∀ b∈fp,jQ X pins H2 b)
  (hW:∀ D,H2 D=none->vJ ls.length J g c te σ H2 D Qe)
  (hRR:∀ D C H' s',bD X pins σ H' s'->Pb X pins H' C s'->Qe (.ref D) H'->RR (.ref D) C (.ok .next) s') :
  wpAny (model X.prog X.w) X.A (newList []) (fun acc s₃=>wpAny (model X.prog X.w) X.A (newFunctionEnv scope X.env.globals (fG X.env scope.names []) [] X.env.qual none .none (some X.env)) (fun cenv s₄ =>
   codeAny (model X.prog X.w) X.A (.compStart (.ListComp elt [⟨tg,iter,ifs,0⟩] scope pos) 0 (.ref it) acc { cenv with scope:=relabel scope X.env }) (RR acc cenv.locals) s₄) E s₃) E s2:=by
 refine wpAny_newObj_type (wpAny_newFunctionEnv S.nocell (by intro y hy; simp at hy) (fun h₁ hns₁ hsb₁=>?_) S.kind);dsimp only at hns₁ hsb₁ ⊢;have I3:bD X pins σ (aX H2 s2.heap.objs.size (.lst [])) { s2 with heap:=s2.heap.push { cls:=.type "list",dict:=none,data:=.seq ([]:List Value).toArray },toks:=s2.toks } :=
  I2.laid (fun _ _ q=>aLt _ q) (aLu _) ⟨aLQ _,[],0,.nil,aLJ _ rfl⟩
 have hfreshD:H2 s2.heap.objs.size=none:=I2.hok.fresh (aLu _);generalize hHH:s2.heap.push { cls:=.type "list",dict:=none,data:=.seq ([]:List Value).toArray }=HH at hns₁ hsb₁ I3 ⊢;have up:∀ b o,s2.heap.get? b=some o->HH.get? b=some o:=fun b o e=>by rw [<- hHH]; exact aLt _ e
 have old:∀ b o,HH.get? b=some o->h₁.get? b=some o:=fun b o e=>hsb₁.extBut b o (aLR (aLC e)) (aLt _ e);generalize hH3:aX H2 s2.heap.objs.size (.lst [])=H3 at I3;have f3:∀ b∈fp,jQ X pins H3 b:=fun b hb=>by
  obtain ⟨f0,fr⟩:=f2 b hb;refine ⟨?_,fr⟩;obtain ⟨o,e,_⟩:=T.obj 0 _ st2 b hb;rw [<- hH3,aO (aLR (aLC e))];exact f0
 have fplt:∀ b∈fp,b<HH.objs.size:=fun b hb=>by
  obtain ⟨o,e,_⟩:=T.obj 0 _ st2 b hb;exact aLC (up b o e)
 have sub:∀ x a,(fG X.env scope.names []).lookup x=some a->X.env.cells.lookup x=some a:=fun x a e=>by
  rcases rY _ _ _ (PySem.mem_of_lookup e) with z | z
  ·exact absurd z (by simp)
  ·exact z
 have kin:∀ x,scope.names.lookup x=some .free->X.env.kindOf x=some .cell∨X.env.kindOf x=some .free:=fun x e=>S.free (x,.free) (PySem.mem_of_lookup e) rfl;have has:∀ x a,scope.names.lookup x=some .free->X.env.cells.lookup x=some a->(fG X.env scope.names []).lookup x=some a:=fun x a e ec=>by
  obtain ⟨d,hd⟩:=kI (rM ec scope.names [] (PySem.mem_of_lookup e));have:=sub x d hd;rw [ec] at this;cases this;exact hd
 have rel:∀ x k,(relabel scope X.env).names.lookup x=some k->(k=.cell∨k=.free)->scope.names.lookup x=some .free:=fun x k e hk=>by
  obtain ⟨k',e1,e2⟩:=iW (show (scope.names.map fun (n,k)=>if (k==NameKind.free&&X.env.scope.kind==.function&&X.env.kindOf n==some .cell) then (n,NameKind.cell) else (n,k)).lookup x=some k from e);rcases e2 with e2 | ⟨e2,_⟩
  ·subst e2;rcases hk with hk | hk
   ·subst hk; exact absurd rfl (S.nocell _ (PySem.mem_of_lookup e1))
   ·subst hk; exact e1
  ·subst e2; exact e1
 have okY:(eU X ls M scope HH.objs.size fp { s2 with heap:=HH,toks:=s2.toks } H3).Ok:=by
  refine ⟨I3.ok.mod,S.kind,I3.ok.glob,I3.ok.blt,aLu _,fun x y a h1 h2=>I3.ok.inj x y a (sub x a h1) (sub y a h2),fun x hx=>?_,(fun x a h=>nomatch h),I3.ok.hd,I3.ok.frames,.inl rfl,fun b hb'=>⟨aLR (fplt b hb'),fun x a e=>(f3 b hb').2.2.2.2.1 x a (sub x a e)⟩,
   I3.bs,aLv I3.ok.bsz I3.sz,fun b o e hb'=>?_,fun b hb' hs=>?_,I3.stack,I3.stkFree⟩
  ·have hf:scope.names.lookup x=some .free:=by
    rcases hx with hx | hx
    ·exact rel x _ hx (.inl rfl)
    ·exact rel x _ hx (.inr rfl)
   obtain ⟨a,ea⟩:=I3.ok.has x (kin x hf);exact ⟨a,has x a hf ea⟩
  ·rcases (f3 b hb').2.2.2.1 with z | z
   ·exact I3.ok.noex b o e z
   ·exact absurd (aLS (aLC e) (aLv I3.ok.bsz z)) (aMp _)
  ·rcases aLF.mp (I3.stkSub b hs) with z | z
   ·exact (f3 b hb').2.1 z
   ·exact (f3 b hb').2.2.1 z
 have IY:bD (eU X ls M scope HH.objs.size fp { s2 with heap:=HH,toks:=s2.toks } H3) [] (aLX ls.length none++σ) H3 { s2 with heap:=h₁,toks:=s2.toks+([]:List (Str×Value)).length }:=by
  refine ⟨okY,rfl,I2.bare,Un.kept old,⟨_,hns₁,fun i x v e1 e2 e3=>?_⟩,fun x a e=>?_,I3.hok.fresh (aLu _),fun x a e=>I3.freeC x a (sub x a e),fun p hp=>absurd (show p∈([]:List (Addr×Obj)) from hp) (by simp),I3.hok.kept old,?_⟩
  ·have hi:ls.length<=i:=by
    by_cases hi:ls.length<=i
    ·exact hi
    ·rw [aMy (by simp; omega),aNF] at e2
     split at e2 <;> cases e2
   rw [aMl (by simpa using hi),aMx] at e2;have e0:M[i-ls.length]? = some x:=by
    have z:(ls++M)[i]? = some x:=e1;rw [aMl hi] at z;exact z
   have hnl:=nl.loc _ x e0;have hf:scope.names.lookup x=some .free:=by
    rcases e3 with e3 | e3 | e3
    ·obtain ⟨k',q1,q2⟩:=iW (show (scope.names.map fun (n,k)=>if (k==NameKind.free&&X.env.scope.kind==.function&&X.env.kindOf n==some .cell) then (n,NameKind.cell) else (n,k)).lookup x=some .local from e3);rcases q2 with q2 | ⟨_,q2⟩
     ·subst q2; exact absurd q1 hnl
     ·cases q2
    ·exact rel x _ e3 (.inl rfl)
    ·exact rel x _ e3 (.inr rfl)
   have e1':=nl.free _ x e0 hf;have hk:=kin x hf;obtain ⟨m,hn,hl⟩:=I3.loc;obtain ⟨u,ru,lk⟩:=hl (i-ls.length) x v e1' e2 (hk.elim (fun z=>.inr (.inl z)) fun z=>.inr (.inr z));refine ⟨u,ru,?_⟩;rcases lk with ⟨z,_⟩ | ⟨_,a,ea,hcell⟩
   ·rcases hk with hk | hk <;> (rw [hk] at z; cases z)
   ·obtain ⟨o,eo,hd⟩:=hcell;refine .inr ⟨?_,a,has x a hf ea,⟨o,old a o eo,hd⟩⟩;rcases e3 with e3 | e3 | e3
    ·obtain ⟨k',q1,q2⟩:=iW (show (scope.names.map fun (n,k)=>if (k==NameKind.free&&X.env.scope.kind==.function&&X.env.kindOf n==some .cell) then (n,NameKind.cell) else (n,k)).lookup x=some .local from e3);rcases q2 with q2 | ⟨_,q2⟩
     ·subst q2; exact absurd q1 hnl
     ·cases q2
    ·exact .inl e3
    ·exact .inr e3
  ·obtain ⟨v,o,eo,hd⟩:=I3.cell x a (sub x a e);exact ⟨v,o,old a o eo,hd⟩
  ·show (aLX ls.length none++σ).length=(ls++M).length;rw [aLP,aLP,aMx,I3.len,nl.len]
 have st1:tn 0 h₁:=T.keep 0 _ _ st2 fun b _ o e=>old b o (up b o e);obtain ⟨hPG,hPT,hPE⟩:=hb HH.objs.size fp { s2 with heap:=HH,toks:=s2.toks } H3;obtain ⟨W,⟨m0,w0⟩,turn⟩:=hW s2.heap.objs.size hfreshD;rw [hH3] at w0;have back:∀ {τ:St}{H':Hp}{s':Shared},bD (eU X ls M scope HH.objs.size fp { s2 with heap:=HH,toks:=s2.toks } H3) [] τ H' s'->bD X pins σ H' s'/\Pb X pins H' HH.objs.size s':=fun {τ H' s'} J=>by
  refine ⟨I3.call' (ch:=fp) J.os J.base J.hok J.bare fun b hb'=>?_,?_⟩
  ·obtain ⟨_,g1,g2,g3,g4,g5⟩:=f3 b hb';exact ⟨g3,g1,g4,g5⟩
  ·obtain ⟨m,hn,_⟩:=J.loc;refine ⟨⟨m,hn⟩,J.free,Ne.symm (aLR I3.lt),I3.sz,fun x a e=>?_,fun p hp=>aLR (aLC (I3.pin p hp).1)⟩;obtain ⟨v,q⟩:=I3.cell x a e;exact aLR q.lt
 have stat:∀ {H':Hp},(∀ b∈fp,H' b=none)->∀ b∈fp,jQ (eU X ls M scope HH.objs.size fp { s2 with heap:=HH,toks:=s2.toks } H3) [] H' b:=fun {H'} hn b hb'=>by
  obtain ⟨_,g1,g2,g3,g4,g5⟩:=f3 b hb';refine ⟨hn b hb',aLR (fplt b hb'),fun hs=>?_,.inl hb',fun x a e=>g4 x a (sub x a e),fun p hp=>absurd (show p∈([]:List (Addr×Obj)) from hp) (by simp)⟩;rcases aLF.mp (I3.stkSub b hs) with z | z
  ·exact g1 z
  ·exact g2 z
 have loop:∀ s₃:Shared,s₃ = { s2 with heap:=h₁,toks:=s2.toks+([]:List (Str×Value)).length } ->
   codeAny (model X.prog X.w) X.A (.compLoop (.ListComp elt [⟨tg,iter,ifs,0⟩] scope pos) 0 (.ref it) (.ref s2.heap.objs.size) (compEnvC scope (fG X.env scope.names []) HH.objs.size X.env)) (RR (.ref s2.heap.objs.size) HH.objs.size) s₃:=by
  rintro s₃ rfl;refine Ad (fun n s'=>∃ i τ H',bD (eU X ls M scope HH.objs.size fp { s2 with heap:=HH,toks:=s2.toks } H3) [] τ H' s'/\tn i s'.heap/\(∀ b∈fp,H' b=none)/\W i n τ H') ?_ m0 ⟨0,_,H3,IY,st1,fun b hb'=>(f3 b hb').1,w0⟩;rintro n s3 ⟨i,τ,H',I4,st4,fr4,w4⟩ E';rcases turn i n τ H' w4 with ⟨stop,qn⟩ | ⟨go,step⟩
  ·refine d7 (T.done (eU X ls M scope HH.objs.size fp { s2 with heap:=HH,toks:=s2.toks } H3) rfl rfl rfl hc i [] s3 τ H' E' I4 (stat fr4) st4 stop) fun r s4 ⟨hr,I5⟩=>?_;subst hr;obtain ⟨b1,b2⟩:=back I5;exact hRR _ _ H' s4 b1 b2 qn
  ·refine d7 (T.item (eU X ls M scope HH.objs.size fp { s2 with heap:=HH,toks:=s2.toks } H3) rfl rfl rfl hc i [] s3 τ H' E' I4 (stat fr4) st4 go) fun r s4 ⟨u,hr,h4⟩=>?_;subst hr;refine d7 h4 fun _ s5 ⟨x,H5,I5,r5,y5,st5,fr5⟩=>?_;have I5':=I5.pinned (stat fr5) (T.obj _ _ st5);refine wpAny_mono (hPG _ s5 τ H5 x u _ I5' r5 (step x H5 y5)) (fun _ s6 ⟨σ6,H6,I6,q6⟩=>?_) fun _ _ z=>z.elim;refine wpAny_mono (hPT _ s6 σ6 H6 _ I6 q6) (fun ok s7 ⟨H7,I7,q7⟩=>?_) fun _ _ z=>z.elim;have again:∀ {σ8:St}{H8:Hp}{s8:Shared}{m':Nat},bD (eU X ls M scope HH.objs.size fp { s2 with heap:=HH,toks:=s2.toks } H3) ([]++vX fp s5.heap) σ8 H8 s8->m'<n->W (i+1) m' σ8 H8 ->
     ∃ m,m<n/\∃ i τ H',bD (eU X ls M scope HH.objs.size fp { s2 with heap:=HH,toks:=s2.toks } H3) [] τ H' s8/\tn i s8.heap/\(∀ b∈fp,H' b=none)/\W i m τ H':=fun {σ8 H8 s8 m'} I8 hm w8=>by
    refine ⟨m',hm,i+1,σ8,H8,I8.unpinned,T.keep _ _ _ st5 fun b hb' o e=>(I8.pin (b,o) (aLL _ (aLL _ (lM hb' e)))).1,fun b hb'=>?_,w8⟩;obtain ⟨o,e,d⟩:=T.obj _ _ st5 b hb';exact (I8.pin (b,o) (aLL _ (aLL _ (lM hb' e)))).2.1
   cases ok with
   | false =>
    rw [if_neg aLK] at q7 ⊢;obtain ⟨m',hm,w7⟩:=q7;exact again I7 hm w7
   | true =>
    rw [if_pos rfl] at q7 ⊢;refine wpAny_mono (hPE _ s7 σ6 H7 _ I7 q7) (fun yv s8 ⟨y,H8,I8,r8,ys,m',hm,hD,hz,w8⟩=>?_) fun _ _ z=>z.elim;refine wpAny_mono (jH (X:=(eU X ls M scope HH.objs.size fp { s2 with heap:=HH,toks:=s2.toks } H3)) _ s8 σ6 H8 (.ref s2.heap.objs.size) [y] (.ref s2.heap.objs.size) [yv] (fun _ H9=>W (i+1) m' σ6 H9) I8 rfl (.cons r8 .nil) ⟨_,ys,y,rfl,rfl,hD,hz,w8⟩) (fun _ s9 ⟨_,H9,I9,_,w9⟩=>?_) fun _ _ z=>z.elim;exact again I9 hm w9
 exact codeAny_compStart_list (loop _ rfl) (T.self _ 0 _ _ _ st1 (loop _ rfl))
theorem HS (S:bM X.env.scope scope)(ok:X.Ok):closureFor scope X.env=pure (fG X.env scope.names []) :=
 rB fun y hy e=>ok.has y.1 (S.free y hy e)
theorem cD {wi:TI}(hc:X.calm=true)(S:bM X.env.scope scope)(nl:NL X.N M scope)(hi:PI X tg iter wi)
  (hb:∀ C fp s H,PG (eU X ls M scope C fp s H) tg g/\VN (eU X ls M scope C fp s H) ifs c/\PE (eU X ls M scope C fp s H) elt te)
  (hs:∀ x,foldedSetIterable iter X.env x=pure x:=by intro _; rfl):PE X (.ListComp elt [⟨tg,iter,ifs,0⟩] scope pos) (R0 ls.length wi g c te):=by
 intro pins s σ H Q I h;rw [eval_ListComp];refine wpAny_comprehension_free (use:=none) rfl hs (HS S I.ok) S.kind S.loc (d7 (hi pins s σ H _ I h) fun xv s1 h1=>d7 h1 fun itv s2 h2=>?_);obtain ⟨it,fp,tn,J,H2,e,I2,T,st2,f2,hW⟩:=h2;subst e;refine zO (RR:=fun acc C=>compPost (model X.prog X.w) X.A X.xe none (EP X pins σ Q) acc C) (Qe:=Q) hc S nl hb I2 T st2 f2 hW fun D C H' s' I' o q=>?_;exact ⟨o.ns.choose,o.ns.choose_spec,fun h' hs'=>⟨.ref D,H',I'.gone o hs',rfl,q⟩⟩
theorem lR {wi:TI}{i:Nat}{y:Str}{py spos:Pos}(hc:X.calm=true)(S:bM X.env.scope scope)(nl:NL X.N M scope)(hN:X.N.Nodup)(hiy:X.N[i]? = some y)(hy:Loc X.env.scope y)
  (hi:PI X tg iter wi) (hb:∀ C fp s H,PG (eU X ls M scope C fp s H) tg g/\VN (eU X ls M scope C fp s H) ifs c/\PE (eU X ls M scope C fp s H) elt te)
  (hsw:swapsWith (.ListComp elt [⟨tg,iter,ifs,0⟩] scope pos) (some (.Name y py)) spos.line X.env=pure true:=by rfl)
  (hs:∀ x,foldedSetIterable iter X.env x=pure x:=by intro _; rfl) (hf:X.fn y=true∨X.env.scope.names.lookup y=some .local:=by first | exact .inl rfl | exact .inr rfl) :
  PS X (.Assign [.Name y py] (.ListComp elt [⟨tg,iter,ifs,0⟩] scope pos) spos) (Xp (R0 ls.length wi g c te) (oO i)):=by
 intro pins s σ H D I h;rw [exec_Assign_Name_used _ _ _ _ hsw];refine wpAny_bind (wpAny_standAt (wpAny_bind ?_));show wpAny _ X.A (do let _ <- comprehension (.ListComp elt [⟨tg,iter,ifs,0⟩] scope pos) scope X.env _ (newList []) false (eval iter X.env) (some (assign (.Name y py) X.env))) _ _ s;refine wpAny_bind (wpAny_mono (wpAny_comprehension_free (use:=some (assign (.Name y py) X.env)) (Q:=fun _ s'=>SP X pins D .next s') rfl hs (HS S I.ok) S.kind S.loc (d7 (hi pins s σ H _ I h) fun xv s1 h1=>d7 h1 fun itv s2 h2=>?_)) (fun _ s' hq=>wpAny_pure (wpAny_pure hq)) fun _ _ e=>e);obtain ⟨it,fp,tn,J,H2,e,I2,T,st2,f2,hW⟩:=h2;subst e;refine zO (RR:=fun acc C=>compPost (model X.prog X.w) X.A X.xe (some (assign (.Name y py) X.env)) (fun _ s'=>SP X pins D .next s') acc C) hc S nl hb I2 T st2 f2 hW fun Dl C H' s' I' o q=>?_;show wpAny _ X.A (assign (.Name y py) X.env (.ref Dl)) _ _ _;refine wpAny_assign_Name (yL I' hN hiy hy (v:=.ref Dl) rfl (fun s'' I'' ⟨a,hsa,ha⟩=>?_) hf);have hCa:C≠a:=by
  rcases ha with z | z
  ·rw [z]; exact o.ne
  ·exact Ne.symm (o.cells y a z)
 obtain ⟨m,hm⟩:=o.ns;have o2:Pb X pins H' C s'':=⟨⟨m,hm.sameBut hsa hCa⟩,o.none,o.ne,o.young,o.cells,o.pins⟩
 exact ⟨m,hm.sameBut hsa hCa,fun h' hs'=>⟨_,H',I''.gone o2 hs',q⟩⟩
end
def CW (n:Nat)(Pv:Nat->St->Hp->Prop)(i m:Nat)(τ:St)(H:Hp):Prop:=m=n-i/\i<=n/\Pv i τ H
theorem bF {n i m:Nat}{Pv:Nat->St->Hp->Prop}{τ:St}{H4:Hp}{D:Addr}{ys:List V}{y:V}(hm:m=n-i)(hi:i<n)(e1:H4 D=some (.lst ys))(e2:ys.length<sizeLine)(p:Pv (i+1) τ (aX H4 D (.lst (ys++[y])))) :
  ∃ ys m',m'<m/\H4 D=some (.lst ys)/\ys.length<sizeLine/\CW n Pv (i+1) m' τ (aX H4 D (.lst (ys++[y]))):=⟨ys,n-(i+1),by omega,e1,e2,rfl,hi,p⟩
theorem rH {n i m:Nat}{Pv:Nat->St->Hp->Prop}{τ:St}{H3:Hp}(hm:m=n-i)(hi:i<n)(p:Pv (i+1) τ H3):∃ m',m'<m/\CW n Pv (i+1) m' τ H3:=⟨n-(i+1),by omega,rfl,hi,p⟩
theorem lO {k:Nat}{lo:Int}{n:Nat}{g:TG}{c:TT}{te:TE}{σ:St}{H1:Hp}{D:Addr}{Q:VK}(Pv:Nat->St->Hp->Prop)(h0:Pv 0 (aLX k none++σ) (aX H1 D (.lst [])))
  (hs:∀ i m τ H,m=n-i->i<n->Pv i τ H->g (.int (lo+i)) τ H fun τ2 H2=>c τ2 H2 fun b H3=>if b=true then te τ2 H3 fun y H4=>∃ ys m',m'<m/\H4 D=some (.lst ys)/\ys.length<sizeLine/\CW n Pv (i+1) m' τ2 (aX H4 D (.lst (ys++[y]))) else ∃ m',m'<m/\CW n Pv (i+1) m' τ2 H3)
  (hd:∀ τ H,Pv n τ H->Q (.ref D) H):vJ k (Sw lo n) g c te σ H1 D Q:=by
 refine ⟨CW n Pv,⟨n,rfl,aLQ _,h0⟩,?_⟩;rintro i m τ H ⟨hm,hi,p⟩
 by_cases hlt:i<n
 ·refine .inr ⟨hlt,fun x H' y=>?_⟩;obtain ⟨e,y⟩:=y;subst e y;exact hs i m τ _ hm hlt p
 ·have e:i=n:=by omega
  subst e;exact .inl ⟨aLu _,hd τ H p⟩
theorem bQ {K:PySem.W.Frag}{a:Addr}{xs:List V}{k:Nat}{g:TG}{c:TT}{te:TE}{σ:St}{H1:Hp}{D:Addr}{Q:VK}(Pv:Nat->St->Hp->Prop)(h0:Pv 0 (aLX k none++σ) (aX H1 D (.lst [])))
  (hl:∀ i τ H,i<=xs.length->Pv i τ H->bK K H a xs)
  (hs:∀ i m x τ H,m=xs.length-i->i<xs.length->xs[i]? = some x->Pv i τ H->g x τ H fun τ2 H2=>c τ2 H2 fun b H3=>if b=true then te τ2 H3 fun y H4=>∃ ys m',m'<m/\H4 D=some (.lst ys)/\ys.length<sizeLine/\CW xs.length Pv (i+1) m' τ2 (aX H4 D (.lst (ys++[y]))) else ∃ m',m'<m/\CW xs.length Pv (i+1) m' τ2 H3)
  (hd:∀ τ H,Pv xs.length τ H->Q (.ref D) H):vJ k (Ux K a) g c te σ H1 D Q:=by
 refine ⟨CW xs.length Pv,⟨xs.length,rfl,aLQ _,h0⟩,?_⟩;rintro i m τ H ⟨hm,hi,p⟩;have q:=hl i τ H hi p
 by_cases hlt:i<xs.length
 ·refine .inr ⟨⟨xs,xs[i],q,by simp [hlt]⟩,fun x H' y=>?_⟩;obtain ⟨e,y⟩:=y;subst e;exact hs i m x τ _ hm hlt (y xs q) p
 ·have e:i=xs.length:=by omega
  subst e;exact .inl ⟨⟨xs,q,aLu _⟩,hd τ H p⟩
theorem dG {τ:St}{H:Hp}{A B:Hp->Prop}(h:A H):Rv τ H (fun b H3=>if b=true then A H3 else B H3):=by
 show (if true=true then A H else B H);rw [if_pos rfl];exact h
theorem uR {c:Bool}{A B:Prop}(h:c=true)(a:A):if c=true then A else B:=by
 rw [if_pos h];exact a
theorem uP {c:Bool}{A B:Prop}(h:c=false)(b:B):if c=true then A else B:=by
 rw [if_neg (by rw [h]; exact aLK)];exact b
theorem Fd:bootBuiltins "int" = some (.type "int"):=by decide +kernel
theorem BP:bootBuiltins "bool" = some (.type "bool"):=by decide +kernel
theorem Mi:bootBuiltins "str" = some (.type "str"):=by decide +kernel
theorem jE:bootBuiltins "list" = some (.type "list"):=by decide +kernel
theorem eX:bootBuiltins "tuple" = some (.type "tuple"):=by decide +kernel
theorem QQ:bootBuiltins "dict" = some (.type "dict"):=by decide +kernel
theorem iI:bootBuiltins "len" = some (.builtin "len"):=by decide +kernel
theorem M5:bootBuiltins "abs" = some (.builtin "abs"):=by decide +kernel
theorem bI:bootBuiltins "isinstance" = some (.builtin "isinstance"):=by decide +kernel
theorem wJ:bootBuiltins "sum" = some (.builtin "sum"):=by decide +kernel
theorem HY:bootBuiltins "max" = some (.builtin "max"):=by decide +kernel
theorem Nz:bootBuiltins "min" = some (.builtin "min"):=by decide +kernel
theorem zL:bootBuiltins "sorted" = some (.builtin "sorted"):=by decide +kernel
theorem wG:bootBuiltins "all" = some (.builtin "all"):=by decide +kernel
theorem Rr:bootBuiltins "any" = some (.builtin "any"):=by decide +kernel
def GC:List Str->Bool
 | []=>true
 | x::r=>(r.all fun y=>x != y)&&GC r
theorem bY:∀ {l:List Str},GC l=true->l.Nodup
 | [],_=>.nil
 | x::r,h=>by
  have h':((r.all fun y=>x != y)&&GC r)=true:=h;rw [aLV,aMI] at h';refine aMf.mpr ⟨fun z=>?_,bY h'.2⟩;have:=h'.1 x z;simp at this
structure dF (P:Program)(w:World)(K:PySem.W.Frag)(mg:Str->Option Value)(base:Heap)(n:Nat)(x:Str)(ps:List Str)(sp:Sp)(g:Addr)(gd:FuncData):Prop where
 ok:aY P w K mg base cZ n g gd ps sp
 bi:Binds K gd ps []
 kp:PySem.W.keepIn K (.ref g)=true
 at_:mg x=some (.ref g)
theorem dF.up {P:Program}{w:World}{K:PySem.W.Frag}{mg:Str->Option Value}{base:Heap}{n m:Nat}{x:Str}{ps:List Str}{sp:Sp}{g:Addr}{gd:FuncData}(c:dF P w K mg base n x ps sp g gd)(h:n<=m):dF P w K mg base m x ps sp g gd:=⟨c.ok.mono h,c.bi,c.kp,c.at_⟩
theorem aK {X:Cx}{n:Nat}{x:Str}{ps:List Str}{sp:Sp}{g:Addr}{gd:FuncData}{p pos:Pos}{e:Expr}{es:List Expr}{t:TA}(c:dF X.prog X.w X.K X.mg X.base n x ps sp g gd)(hr:fV n X.A)(ha:PA X (e::es) t)(hg:Gl X x:=by rfl)
  (hd:(x==("__debug__" : Str))=false:=by decide) (he:starEach (e::es) X.env=(false,eval e X.env)::starEach es X.env:=by rfl) (hpl:(backTo pos (starEach es X.env)).any (·.1)=false:=by rfl) :
  PE X (.Call (.Name x p) (e::es) [] pos) (Ex sp [] E0 t):=IK c.ok hr hg c.at_ c.kp c.bi .nil c7 ha hd he hpl
theorem aH {H:Hp}{p:Addr}(h:H p=none)(o:HO):aR H (aX H p o):=fun b u q=>by rw [aO (bB q h)]; exact q
theorem aR.upd_new {H H':Hp}{p:Addr}(s:aR H H')(h:H p=none)(o:HO):aR H (aX H' p o):=fun b u q=>by rw [aO (bB q h)]; exact s b u q
theorem Ky {L:List Int}{i:Int}(h0:0<=i)(h1:i<(L.length:Int)):Hq (L.map V.int) i=some (.int (L.getD i.toNat 0)):=by
 have hi:i.toNat<L.length:=by omega
 have e:i=((i.toNat:Nat):Int):=by omega
 have q:Hq (L.map V.int) ((i.toNat:Nat):Int)=some (.int (L.getD i.toNat 0)):=j6 (by rw [aLH,aLs hi,getD_at hi] <;> rfl);rw [<- e] at q;exact q
end L2
namespace L2
open PySem PySem.Spec PyProof.Rows
section
variable {X:Cx}{pins:List (Addr×Obj)}{σ:St}{H:Hp}{s:Shared}
theorem bD.track {a:Addr}{o:HO}(I:bD X pins σ H s)(f:jQ X pins H a)(hy:X.s₀.heap.objs.size<=a)(new:cJ X.prog X.w (aX H a o) s.heap a o):bD X pins σ (aX H a o) s:=by
 obtain ⟨f0,f1,f2,f3,f4,f5⟩:=f;have ne:∀ b u,H b=some u->b≠a:=fun b u e=>bB e f0;refine ⟨I.ok,I.os,I.bare,⟨I.base.keep,I.base.slot,fun b ob e n hx=>?_,I.base.there,fun b xs e=>?_,fun b ob u e=>?_,fun b ps e=>?_⟩,I.loc,I.cell,?_,fun x c e=>?_,fun p hp=>?_,fun b u e=>?_,I.len⟩
 ·rw [aO (aLR (aLS (aLC e) hy))];exact I.base.free b ob e n hx
 ·have q:=I.base.tups b xs e;rw [aO (ne _ _ q)]; exact q
 ·have q:=I.base.frzs b ob u e;rw [aO (ne _ _ q)]; exact q
 ·obtain ⟨m,q⟩:=I.base.tbls b ps e;exact ⟨m,by rw [aO (ne _ _ q)]; exact q⟩
 ·rw [aO (Ne.symm f1)]; exact I.free
 ·rw [aO (f4 x c e)]; exact I.freeC x c e
 ·obtain ⟨g1,g2,g3,g4,g5⟩:=I.pin p hp;exact ⟨g1,by rw [aO (f5 p hp)]; exact g2,g3,g4,g5⟩
 ·by_cases hb:b=a
  ·subst hb; rw [aC] at e; cases e; exact new
  ·rw [aO hb] at e;exact (I.hok b u e).stay (fun _ _ _ q=>q) (fun c q=>by rw [aO (ne _ _ q)]; exact q) fun c xs q=>by rw [aO (ne _ _ q)]; exact q
theorem jQ.pin {b:Addr}{o:Obj}(f:jQ X pins H b)(e:s.heap.get? b=some o)(d:∀ v,o.data≠.cell v):s.heap.get? b=some o/\H b=none/\b≠X.env.locals/\b∉X.fs/\∀ v,o.data≠.cell v:=⟨e,f.1,f.2.1,f.2.2.1,d⟩
def Oo (X:Cx)(pins:List (Addr×Obj))(σ:St)(H:Hp)(A:Around)(f v:Value)(k:Int):Prop :=
 ∀ (more:List (Addr×Obj)) (s:Shared),bD X (pins++more) σ H s->wpAny (model X.prog X.w) A (call f [v]) (fun r s'=>(∃ t,r=Value.int k t)/\bD X (pins++more) σ H s') (fun _ _=>False) s
variable {A:Around}{E:Value->Shared->Prop}{P:PySem.Fin->Shared->Prop}{a kS:Addr}{b:Bool}{vs:List Value}{kz:List Int}{keys:Array Value}{e e1:Nat}{f:Value}
theorem Ei {st:SortSt}(I:bD X pins σ H s)(fk:jQ X pins H kS)(fa:jQ X pins H a)(hka:kS≠a)(ek:s.heap.get? kS=some (seqObj "list" keys e))(ea:s.heap.get? a=some (seqObj "list" #[] e1))
  (hk:IntsAre keys.toList kz) (hlen:kz.length=vs.length) (h64:vs.length<64) (hp:(arrOf st).Perm (keys.zip vs.toArray)) (hs:SortedTo (arrOf st) (arrOf st).size) (hfl:failedOf st=none)
  (done:∀ s' out c,bD X pins σ H s'->s'.heap.get? a=some (seqObj "list" out c)->KskOut b kz vs out.toList->P (.done (.ret .none)) s') :
  wpAny (model X.prog X.w) A (ksk_tail a b e1 (.ref kS) st) P E s:=by
 have hsz:keys.size=vs.length:=by
  have h1:=hk.length;rw [aL5] at h1;omega
 have hsz2:(arrOf st).size=vs.length:=by
  have z:(arrOf st).size=(keys.zip vs.toArray).size:=hp.size_eq;have z2:(keys.zip vs.toArray).size=vs.length:=by rw [Array.size_zip,hsz]; simp
  exact z.trans z2
 have ko:=ksk_out (b:=b) hk hp hs;have hout:(if b=true then ((arrOf st).map (·.2)).reverse else (arrOf st).map (·.2)).size=vs.length:=by
  cases b <;> simp [hsz2]
 generalize hO:(if b=true then ((arrOf st).map (·.2)).reverse else (arrOf st).map (·.2))=out at ko hout;have I1:bD X pins σ H { s with heap:=s.heap.update kS (Obj.mapSeq fun _=>(#[]:Array Value)) } :=
  I.turned (t':=s.toks) (fun b o hb q=>((aMa.update s.heap kS _).2 b hb).trans q) fk.1 fk.2.1 fk.2.2.2.1 fk.2.2.2.2.1 fk.2.2.2.2.2
 have ea1:(s.heap.update kS (Obj.mapSeq fun _=>(#[]:Array Value))).get? a=some (seqObj "list" #[] e1):=((aMa.update s.heap kS _).2 a (Ne.symm hka)).trans ea;have I2:bD X pins σ H { s with heap:=(s.heap.update kS (Obj.mapSeq fun _=>(#[]:Array Value))).update a (Obj.mapSeq fun _=>out) } :=
  I1.turned (t':=s.toks) (fun b o hb q=>((aMa.update _ a _).2 b hb).trans q) fa.1 fa.2.1 fa.2.2.2.1 fa.2.2.2.2.1 fa.2.2.2.2.2
 unfold ksk_tail;dsimp only;refine wpAny_bind (listUpdate_at ek rfl ?_ (by rw [hsz]; exact aLv (aLZ h64) (by decide)) (aLQ _));refine wpAny_bind (wpAny_letGo ?_);refine wpAny_bind (seqEpoch_at ea1 rfl ?_);rw [hO];refine wpAny_bind (listUpdate_at ea1 rfl ?_ (aLQ _) (by rw [hout]; exact aLv (aLZ h64) (by decide)));rw [hfl];simp only [bne_self_eq_false,aMn,if_false];exact wpAny_pure (done _ out _ I2 (get?_update_seq ea1 fun _=>out) ko)
theorem Qa (I:bD X pins σ H s)(fk:jQ X pins H kS)(fa:jQ X pins H a)(hka:kS≠a)(ek:s.heap.get? kS=some (seqObj "list" keys e))(ea:s.heap.get? a=some (seqObj "list" #[] e1))
  (hk:IntsAre keys.toList kz) (hlen:kz.length=vs.length) (h64:vs.length<64)
  (done:∀ s' out c,bD X pins σ H s'->s'.heap.get? a=some (seqObj "list" out c)->KskOut false kz vs out.toList->P (.done (.ret .none)) s') :
  wpAny (model X.prog X.w) A (ksk_end a false vs.toArray e1 (.ref kS) keys) P E s:=by
 have hsz:keys.size=vs.length:=by
  have h1:=hk.length;rw [aL5] at h1;omega
 have hzs:(keys.zip vs.toArray).size=vs.length:=by rw [Array.size_zip,hsz,aLM]; omega
 unfold ksk_end;dsimp only;simp only [aMn,if_false]
 by_cases h2:vs.toArray.size<2
 ·rw [if_pos h2,if_pos h2];refine wpAny_bind (wpAny_pure ?_);rw [StateT.run_pure];refine wpAny_bind (wpAny_pure ?_);refine Ei (st:=SortSt.mk' general' (keys.zip vs.toArray) #[] 7 none) I fk fa hka ek ea hk hlen h64 (aOo.refl _) (fun i j hij hj=>?_) rfl done;have hj':j<(keys.zip vs.toArray).size:=hj;rw [hzs] at hj';rw [aLM] at h2;have z:i=j:=by omega
  rw [z];exact aL2 _
 ·rw [if_neg h2,if_neg h2];rw [aLM] at h2;rw [ksk_kind hk (by omega)];refine wpAny_bind (wpAny_pure ?_);refine wpAny_bind (wpAny_mono (wpS_sortRuns (a₀:=keys.zip vs.toArray) (st:=SortSt.mk' oneType' (keys.zip vs.toArray) #[] 7 none)
   (Q:=fun _ t=>(arrOf t).Perm (keys.zip vs.toArray)/\failedOf t=none/\SortedTo (arrOf t) (keys.zip vs.toArray).size)
   (ksk_intKeys hk) ⟨aOo.refl _,rfl,rfl,rfl⟩ (by omega) (by omega) fun t z1 z2 z3=>⟨z1,z2,z3⟩) ?_ fun _ _ z=>z)
  rintro ⟨⟨⟩,t⟩ s2 ⟨rfl,p1,p2,p3⟩;exact Ei I fk fa hka ek ea hk hlen h64 p1 (by rw [p1.size_eq]; exact p3) p2 done
theorem M9 (I:bD X pins σ H s)(fk:jQ X pins H kS)(fa:jQ X pins H a)(hka:kS≠a)(ek:s.heap.get? kS=some (seqObj "list" #[] 0))(ea:s.heap.get? a=some (seqObj "list" #[] e1))
  (hlen:kz.length=vs.length) (h64:vs.length<64) (turn:∀ (i:Nat) v k,vs[i]? = some v->kz[i]? = some k->Oo X pins σ H A f v k)
  (done:∀ s' out c,bD X pins σ H s'->s'.heap.get? a=some (seqObj "list" out c)->KskOut false kz vs out.toList->P (.done (.ret .none)) s') :
  wpAny (model X.prog X.w) A (ksk_rest a f false vs.toArray e1 (.ref kS)) P E s:=by
 unfold ksk_rest;refine wpAny_bind (wpAny_rule ?_);rw [List.forIn_toArray];refine wpAny_bind (ksk_fold (fun i s'=>bD X pins σ H s'/\s'.heap.get? a=some (seqObj "list" #[] e1)/\∃ kA e,s'.heap.get? kS=some (seqObj "list" kA e)/\IntsAre kA.toList (kz.take i)) vs 0 s ⟨I,ea,#[],0,ek,by simpa using IntsAre.nil⟩ ?step ?fin)
 case step =>
  rintro j x s1 hx ⟨I1,ea1,kA,e,ek1,hk⟩;rw [aN7] at hk ⊢;have hj:j<vs.length:=(aLE.mp hx).1;have hkj:kz[j]? = some kz[j]:=aLs (by omega);have hz:kA.size<=vs.length:=by
   have h1:=hk.length;rw [aL5,aLU] at h1;omega
  have I2:bD X (pins++[(kS,seqObj "list" kA e),(a,seqObj "list" #[] e1)]) σ H s1:=I1.pins_of fun p hp=>by
   rcases aLO.mp hp with z | z
   ·exact I1.pin p (aLL _ z)
   ·rcases aLF.mp z with z | z
    ·subst z; exact fk.pin ek1 fun v q=>nomatch q
    ·rw [aLy.mp z]; exact fa.pin ea1 fun v q=>nomatch q
  refine wpAny_bind (wpAny_attempt (wpAny_mono (turn j x _ hx hkj _ s1 I2) (fun v s2 h2=>?_) fun _ _ z=>z.elim));obtain ⟨⟨t,rfl⟩,I3⟩:=h2;have ek2:=(I3.pin (kS,seqObj "list" kA e) (aLL _ (aLL _ (.head _)))).1;have ea2:=(I3.pin (a,seqObj "list" #[] e1) (aLL _ (aLL _ (.tail _ (.head _))))).1;have I4:=I3.unpinned;refine wpAny_bind (listUpdate_at ek2 rfl ?_ (aLv hz (aLv (aLZ h64) (by decide))) (aLv (aNK (Array.size_push ..)) (aOe (aLv hz (aLv (aLZ h64) (by decide))))));refine wpAny_pure ⟨rfl,I4.turned (t':=s2.toks) (fun b o hb q=>((aMa.update s2.heap kS _).2 b hb).trans q) fk.1 fk.2.1 fk.2.2.2.1 fk.2.2.2.2.1 fk.2.2.2.2.2,((aMa.update s2.heap kS _).2 a (Ne.symm hka)).trans ea2,kA.push (.int kz[j] t),_,get?_update_seq ek2 (·.push (.int kz[j] t)),?_⟩;have q1:kz.take (j+1)=kz.take j++[kz[j]]:=by rw [aMB,hkj]; rfl
  rw [q1,Array.toList_push];exact ksk_snoc hk
 case fin =>
  rintro s1 ⟨I1,ea1,kA,e,ek1,hk⟩;have hk':IntsAre kA.toList kz:=by
   rw [aN7,<- hlen,aLG] at hk;exact hk
  exact wpAny_bind (listItems_at ek1 rfl (Qa I1 fk fa hka ek1 ea1 hk' hlen h64 done))
end
section
variable {X:Cx}{pins:List (Addr×Obj)}{σ:St}{H:Hp}{s:Shared}{A:Around}{E:Value->Shared->Prop}{P:PySem.Fin->Shared->Prop}{a:Addr}{vs:List Value}{kz:List Int}{n:Nat}{f:Value}
theorem Ob (I:bD X pins σ H s)(fa:jQ X pins H a)(ea:s.heap.get? a=some (seqObj "list" vs.toArray n))(hlen:kz.length=vs.length)(h64:vs.length<64)
  (turn:∀ (i:Nat) v k,vs[i]? = some v->kz[i]? = some k->Oo X pins σ H A f v k)
  (done:∀ s' out c,bD X pins σ H s'->s'.heap.get? a=some (seqObj "list" out c)->KskOut false kz vs out.toList->P (.done (.ret .none)) s') :
  wpAny (model X.prog X.w) A (ksk_tree a f false) P E s:=by
 have I1:bD X pins σ H { s with heap:=s.heap.update a (Obj.mapSeq fun _=>(#[]:Array Value)) } :=
  I.turned (t':=s.toks) (fun b o hb q=>((aMa.update s.heap a _).2 b hb).trans q) fa.1 fa.2.1 fa.2.2.2.1 fa.2.2.2.2.1 fa.2.2.2.2.2
 have ea1:=get?_update_seq ea fun _=>(#[]:Array Value)
 generalize hh:s.heap.update a (Obj.mapSeq fun _=>(#[]:Array Value))=h1 at I1 ea1;have I2:bD X pins σ H { s with heap:=(h1.push (seqObj "tuple" vs.toArray 0)).push (seqObj "list" #[] 0) } :=
  I1.kept (t':=s.toks) fun b o q=>aLt _ (aLt _ q)
 have hlt:a<h1.objs.size:=aLC ea1;have hsz:(h1.push (seqObj "tuple" vs.toArray 0)).objs.size=h1.objs.size+1:=size_push' _ _;have h64':vs.length<=sizeLine:=aLv (aLZ h64) (by decide);unfold ksk_tree;refine wpAny_bind (listItems_at ea rfl ?_);refine wpAny_bind (listUpdate_at ea rfl ?_ (by rw [aLM]; exact h64') (aLQ _));rw [hh];refine wpAny_bind (seqEpoch_at (s:={ s with heap:=h1 }) ea1 rfl ?_);refine wpAny_bind (wpAny_newTuple ?_ (by simpa using h64'));refine wpAny_bind (wpAny_newList ?_ (aLQ _));refine wpAny_holding ?_;refine M9 (s:={ s with heap:=(h1.push (seqObj "tuple" vs.toArray 0)).push (seqObj "list" #[] 0) }) (kS:=(h1.push (seqObj "tuple" vs.toArray 0)).objs.size) I2 ?_ fa ?_ (aLJ _ rfl) (aLt _ (aLt _ ea1)) hlen h64 turn done
 ·exact I1.fpOk (by rw [hsz]; exact aNa _) (I1.hok.fresh (by rw [hsz]; exact aNa _))
 ·rw [hsz];exact aMA (aNz hlt)
def RN:Value->Addr
 | .ref a=>a
 | _=>0
theorem yS:∀ {qs:List Addr}{vs:List Value},b8 (qs.map V.ref) vs->vs=qs.map Value.ref
 | [],_,h=>by cases h; rfl
 | q::qs,_,h=>by
  cases h with
  | cons r t=>rw [yS t,show _=Value.ref q from r]; rfl
theorem rW:∀ (qs:List Addr),b8 (qs.map V.ref) (qs.map Value.ref)
 | []=>.nil
 | q::qs=>.cons rfl (rW qs)
theorem Jo {kz:List Int}{qs:List Addr}{out:List Value}(h:KskOut false kz (qs.map Value.ref) out):∃ ps:List (Int×Addr),ps.Perm (kz.zip qs)/\out=ps.map (fun p=>Value.ref p.2)/\ps.Pairwise (fun p q=>p.1<=q.1):=by
 obtain ⟨ps,hp,ho,hs⟩:=h;have e0:kz.zip (qs.map Value.ref)=(kz.zip qs).map fun p=>(p.1,Value.ref p.2):=by rw [List.zip_map_right]; exact aL6 fun ⟨x,y⟩ _=>rfl
 rw [e0] at hp;have mem:∀ p∈ps,p.2=Value.ref (RN p.2):=fun p hm=>by
  obtain ⟨q,_,rfl⟩:=aLr.mp (hp.mem_iff.mp hm)
  rfl
 refine ⟨ps.map fun p=>(p.1,RN p.2),?_,?_,?_⟩
 ·have z:=hp.map fun p=>(p.1,RN p.2)
  rw [aL1] at z;have e1:(kz.zip qs).map ((fun p=>(p.1,RN p.2)) ∘ fun p=>(p.1,Value.ref p.2))=kz.zip qs:=by
   conv=>rhs; rw [<- List.map_id (kz.zip qs)]
   exact aL6 fun ⟨x,y⟩ _=>rfl
  rw [e1] at z;exact z
 ·rw [ho,aL1];exact aL6 fun p hm=>mem p hm
 ·rw [aMX];exact hs
theorem Mp {l fa:Addr}{qs:List Addr}{Q:VK}(I:bD X pins σ H s)(hS:bK X.K H l (qs.map V.ref))(hlen:kz.length=qs.length)(h64:qs.length<64)
  (turn:∀ (i:Nat) q k,qs[i]? = some q->kz[i]? = some k->Oo X pins σ H X.A.in1.in1 (.ref fa) (.ref q) k)
  (done:∀ D (ps:List (Int×Addr)),H D=none->ps.Perm (kz.zip qs)->ps.Pairwise (fun p q=>p.1<=q.1)->Q (.ref D) (aX H D (.lst (ps.map fun p=>V.ref p.2)))) :
  wpAny (model X.prog X.w) X.A (call (.builtin "sorted") [.ref l] [(Str.ofString "key",.ref fa)]) (EP X pins σ Q) E s:=by
 obtain ⟨its,rv,pl,hz⟩:=I.list hS;have ei:=yS rv;subst ei;have hl64:(qs.map Value.ref).length<64:=by rw [aLo]; exact h64
 have h64':(qs.map Value.ref).length<=sizeLine:=aLv (aLZ hl64) (by decide);refine call_function_entry_kw kind_sorted plain_sorted entry_sorted (ksk_s1 _ _) ?_;unfold Builtin.«sorted»;refine wpAny_bind (m:=checkCount "sorted" 1 1 _) (wpAny_pure ?_);refine wpAny_bind (collect_list pl.isList ?_ h64');refine wpAny_bind (wpAny_newList ?_ h64');have up:∀ b o,s.heap.get? b=some o->((s.heap.push (seqObj "list" #[] 0)).update s.heap.objs.size (Obj.mapSeq (·++(qs.map Value.ref).toArray))).get? b=some o:=fun b o q =>
  ((aMa.update (s.heap.push (seqObj "list" #[] 0)) s.heap.objs.size _).2 b (aLR (aLC q))).trans (aLt _ q)
 have hsz:((s.heap.push (seqObj "list" #[] 0)).update s.heap.objs.size (Obj.mapSeq (·++(qs.map Value.ref).toArray))).objs.size=s.heap.objs.size+1:=by rw [Heap.size_update,size_push']
 generalize (s.heap.push (seqObj "list" #[] 0)).update s.heap.objs.size (Obj.mapSeq (·++(qs.map Value.ref).toArray))=h1 at up hsz;have I1:bD X pins σ H { s with heap:=h1.push (seqObj "list" (qs.map Value.ref).toArray 0) }:=I.kept (t':=s.toks) fun b o q=>aLt _ (up b o q);have fr:H h1.objs.size=none:=I.hok.fresh (by rw [hsz]; exact aNa _);have fp:jQ X pins H h1.objs.size:=I.fpOk (by rw [hsz]; exact aNa _) fr;have yo:X.s₀.heap.objs.size<=h1.objs.size:=aLv I.sz (by rw [hsz]; exact aNa _);have ea:(h1.push (seqObj "list" (qs.map Value.ref).toArray 0)).get? h1.objs.size=some (seqObj "list" (qs.map Value.ref).toArray 0):=aLJ _ rfl;refine wpAny_bind (wpAny_holding (wpAny_call_entry_kw PyProof.Rows.slot_list_sort ⟨_,ea,rfl⟩ PyProof.Rows.entry_list_sort ?body (ksk_l1 _ _)))
 case body =>
  show wpAny (model X.prog X.w) X.A.in1.in1 (Builtin.«list.sort» ⟨[.ref h1.objs.size],[(Str.ofString "key",.ref fa)]⟩) _ _ _;rw [ksk_t1];refine Ob (kz:=kz) (s:={ s with heap:=h1.push (seqObj "list" (qs.map Value.ref).toArray 0) }) I1 fp ea (by rw [aLo]; exact hlen) hl64 (fun i v k hv hk=>?_) fun s2 out c I2 e2 ko=>⟨_,rfl,?_⟩
  ·rw [aLH] at hv;cases eq:qs[i]? with
   | none=>rw [eq] at hv; cases hv
   | some q =>
    rw [eq] at hv;cases hv;exact turn i q k eq hk
  ·obtain ⟨ps,hp,ho,hs⟩:=Jo ko;have hpl:ps.length=qs.length:=by
    rw [hp.length_eq,List.length_zip,hlen,Nat.min_self]
   refine wpAny_pure ⟨_,rfl,.ref h1.objs.size,_,I2.track (o:=.lst (ps.map fun p=>V.ref p.2)) fp yo ⟨?_,out.toList,c,?_,?_⟩,rfl,done _ ps fr hp hs⟩
   ·rw [aLo,hpl];exact aLv (aLZ h64) (by decide)
   ·rw [ho];have z:=rW (ps.map Prod.snd);rw [aL1,aL1] at z;exact z
   ·rw [aNm];exact e2
end
def Hl (X:Cx)(A:Around)(p:Str)(M:List Str)(scope:Scope)(qual:Str)(f c':Addr)(s:Shared)(H:Hp):Cx where
 prog:=X.prog
 w:=X.w
 K:=X.K
 mg:=X.mg
 base:=X.base
 A:=A.deeper (PySem.W.envX qual scope s.heap.objs.size f (.ref c') (fG X.env scope.names []))
 N:=p::M
 s₀:=s
 H₀:=H
 env:=PySem.W.envX qual scope s.heap.objs.size f (.ref c') (fG X.env scope.names [])
 outer:=X.stack
 stack:=PySem.W.envX qual scope s.heap.objs.size f (.ref c') (fG X.env scope.names [])::X.stack
 ex:=[]
 fn:=fun _=>false
 calm:=true
 pn:=[]
 xe:=fun _ _=>False
abbrev sU (c':Addr)(qual:Str):HO:=.ext fun h=>h.CodeRec (.ref c') qual
section
variable {X:Cx}{pins:List (Addr×Obj)}{σ:St}{H:Hp}{A:Around}{p qual:Str}{M:List Str}{scope:Scope}{params:Arguments}{body:Expr}{pm ctv:Value}{c' f:Addr}{te:TE}
theorem Qc (hA:A.frames=some X.stack)(hd:A.handled=none)(hdep:A.depth<recursionLimit)(S:bM X.env.scope scope)(nl:NL X.N M scope)(hp:scope.names.lookup p=some .local)
  (hco:scope.isCoroutine=false) (hgen:scope.isGenerator=false) (hbind:∀ (cl:List (Str×Addr)) (pm cdv ctv u:Value),bindArgs (PySem.W.kla_fn "<lambda>" qual params body scope cl pm cdv ctv) ⟨[u],[]⟩=pure [(p,u)])
  (hb:∀ f c' s H,PE (Hl X A p M scope qual f c' s H) body te) {x:V}{u:Value}{k:Int} (rx:RelV x u) (hf:(f,PySem.W.kla_obj "<lambda>" qual params body scope (fG X.env scope.names []) pm c' ctv)∈pins)
  (hcr:H c'=some (sU c' qual)) (h:te (some x::σ) H fun r H'=>r=.int k/\H'=H):Oo X pins σ H A (.ref f) u k:=by
 intro more s I;have hcd:s.heap.CodeRec (.ref c') qual:=(I.hok c' _ hcr).1;have ho:=(I.pin _ (aLL _ (aL9 _ hf))).1;have sub:∀ x a,(fG X.env scope.names []).lookup x=some a->X.env.cells.lookup x=some a:=fun x a e=>by
  rcases rY _ _ _ (PySem.mem_of_lookup e) with z | z
  ·exact absurd z (by simp)
  ·exact z
 have kin:∀ x,scope.names.lookup x=some .free->X.env.kindOf x=some .cell∨X.env.kindOf x=some .free:=fun x e=>S.free (x,.free) (PySem.mem_of_lookup e) rfl;have has:∀ x a,scope.names.lookup x=some .free->X.env.cells.lookup x=some a->(fG X.env scope.names []).lookup x=some a:=fun x a e ec=>by
  obtain ⟨d,hd⟩:=kI (rM ec scope.names [] (PySem.mem_of_lookup e));have:=sub x d hd;rw [ec] at this;cases this;exact hd
 have nocell:∀ x,scope.names.lookup x≠some .cell:=fun x e=>S.nocell _ (PySem.mem_of_lookup e) rfl;refine wpAny_call (PySem.W.kla_callFunE hdep ho rfl hco hgen rfl hcd ?_);rw [hbind];refine wpAny_pure (wpAny_newFunctionEnv S.nocell (fun y hy=>?_) (fun h₁ hns hsb=>⟨?_,?_⟩) S.kind)
 ·rw [aLy.mp hy]; exact hp
 ·exact I.nolimit.keeps fun b o e=>hsb.extBut b o (aLR (aLC e)) (aLt _ e)
 have old:∀ b o,s.heap.get? b=some o->h₁.get? b=some o:=fun b o e=>hsb.extBut b o (aLR (aLC e)) (aLt _ e);have okY:(Hl X A p M scope qual f c' s H).Ok:=by
  refine ⟨I.ok.mod,S.kind,rfl,rfl,aLu _,fun x y a h1 h2=>I.ok.inj x y a (sub x a h1) (sub y a h2),fun x hx=>?_,(fun x a h=>nomatch h),fun _=>hd,Around.frames_deeper hA,.inr ⟨rfl,rfl⟩,(fun b hb'=>nomatch hb'),
   I.bs,aLv I.ok.bsz I.sz,(fun b o e hb'=>nomatch hb'),(fun b hb'=>nomatch hb'),I.stack,I.stkFree⟩
  have hf:scope.names.lookup x=some .free:=by
   rcases hx with hx | hx
   ·exact absurd hx (nocell x)
   ·exact hx
  obtain ⟨a,ea⟩:=I.ok.has x (kin x hf);exact ⟨a,has x a hf ea⟩
 have IY:bD (Hl X A p M scope qual f c' s H) [] (some x::σ) H { s with heap:=h₁,toks:=s.toks+[(p,u)].length }:=by
  refine ⟨okY,rfl,I.bare,Un.kept old,⟨_,hns,fun i y v e1 e2 e3=>?_⟩,fun y a e=>?_,I.hok.fresh (aLu _),fun y a e=>I.freeC y a (sub y a e),(fun q hq=>nomatch hq),I.hok.kept old,?_⟩
  ·cases i with
   | zero =>
    have e1':some p=some y:=e1;have e2':some (some x)=some (some v):=e2;cases e1';cases e2';refine ⟨u,rx,.inl ⟨hp,?_⟩⟩;show aMY p [(p,u)]=some u;simp
   | succ i =>
    have e0:M[i]? = some y:=e1;have e2':σ[i]? = some (some v):=e2;have hf:scope.names.lookup y=some .free:=by
     rcases e3 with e3 | e3 | e3
     ·exact absurd e3 (nl.loc _ y e0)
     ·exact absurd e3 (nocell y)
     ·exact e3
    have hk:=kin y hf;obtain ⟨m,hn,hl⟩:=I.loc;obtain ⟨z,rz,lk⟩:=hl i y v (nl.free _ y e0 hf) e2' (hk.elim (fun z=>.inr (.inl z)) fun z=>.inr (.inr z));refine ⟨z,rz,.inr ⟨.inr hf,?_⟩⟩;rcases lk with ⟨q,_⟩ | ⟨_,a,ea,o,eo,hdd⟩
    ·rcases hk with hk | hk <;> (rw [hk] at q; cases q)
    ·exact ⟨a,has y a hf ea,o,old a o eo,hdd⟩
  ·obtain ⟨v,o,eo,hdd⟩:=I.cell y a (sub y a e);exact ⟨v,o,old a o eo,hdd⟩
  ·show σ.length+1=M.length+1;rw [I.len,nl.len]
 refine PySem.W.kla_codeExpr (wpAny_mono (hb f c' s H [] _ (some x::σ) H _ IY h) (fun r s2 h2=>?_) fun _ _ z=>z.elim);obtain ⟨v,H2,J,rv,hv,hH⟩:=h2;subst hv hH;exact ⟨rv,I.call' (ch:=[]) J.os J.base J.hok J.bare (fun b hb'=>nomatch hb')⟩
end
def Ro (pos:Pos)(c':Addr):Array Value:=#[rawInt pos.line,rawInt pos.col,.ref c']
def Uy (P:Addr)(pos:Pos)(qual:Str)(c':Addr)(H:Hp):Prop:=H P=some (.tbl (Ro pos c'))/\H c'=some (sU c' qual)
def cA (P:Addr)(pos:Pos)(qual:Str)(H:Hp):Prop:=H P=some (.tbl #[])∨∃ c',Uy P pos qual c' H
def bH (P:Addr)(H H':Hp):Prop:=∀ b o,b≠P->H b=some o->H' b=some o
theorem bH.refl {P:Addr}(H:Hp):bH P H H:=fun _ _ _ e=>e
theorem bH.trans {P:Addr}{H H1 H2:Hp}(a:bH P H H1)(b:bH P H1 H2):bH P H H2:=fun c o n e=>b c o n (a c o n e)
theorem aR.toT {P:Addr}{H H':Hp}(a:aR H H'):bH P H H':=fun b o _ e=>a b o e
theorem bH.free {P:Addr}{H H':Hp}(a:bH P H H'){l:Addr}(h:H' l=none)(hP:∃ ps,H' P=some (.tbl ps)):H l=none:=by
 cases q:H l with
 | none=>rfl
 | some o =>
  by_cases e:l=P
  ·obtain ⟨ps,z⟩:=hP;rw [e,z] at h; cases h
  ·rw [a l o e q] at h; cases h
theorem bH.upd_new {P:Addr}{H H':Hp}{p:Addr}(s:bH P H H')(h:H p=none)(o:HO):bH P H (aX H' p o):=fun b u n q=>by rw [aO (bB q h)]; exact s b u n q
theorem cA.at_ {P:Addr}{pos:Pos}{qual:Str}{H:Hp}(t:cA P pos qual H):∃ ps,H P=some (.tbl ps):=by
 rcases t with t | ⟨c,t,_⟩
 ·exact ⟨_,t⟩
 ·exact ⟨_,t⟩
theorem bH.get {P:Addr}{pos:Pos}{qual:Str}{H H':Hp}(a:bH P H H')(t:cA P pos qual H){b:Addr}{o:HO}(e:H b=some o)(n:∀ ps,o≠.tbl ps):H' b=some o:=by
 obtain ⟨ps,z⟩:=t.at_;exact a b o (cI e z (n ps)) e
theorem cA.same {P:Addr}{pos:Pos}{qual:Str}{H H':Hp}(t:cA P pos qual H)(s:aR H H'):cA P pos qual H':=by
 rcases t with t | ⟨c,t,u⟩
 ·exact .inl (s _ _ t)
 ·exact .inr ⟨c,s _ _ t,s _ _ u⟩
theorem bH.lst {K:PySem.W.Frag}{P:Addr}{pos:Pos}{qual:Str}{H H':Hp}(a:bH P H H')(t:cA P pos qual H){b:Addr}{xs:List V}(h:bK K H b xs):bK K H' b xs:=by
 rcases h with (h | ⟨o,h⟩) | h
 ·exact .inl (.inl (a.get t h fun _ z=>nomatch z))
 ·exact .inl (.inr ⟨o,a.get t h fun _ z=>nomatch z⟩)
 ·exact .inr h
theorem Jj {h h':Heap}{mg:Str->Option Value}{P:Addr}(b:h.BuiltinsAt mg P)(k:∀ a o,h.get? a=some o->h'.get? a=some o):h'.BuiltinsAt mg P:=by
 obtain ⟨bm,o,b1,b2,b3,b4,b5,b6⟩:=b;exact ⟨bm,o,b1,b2,b3,b4,k _ _ b5,b6⟩
theorem z9 {c':Addr}{qual:Str}:∀ h1 h2:Heap,h1.CodeRec (.ref c') qual->(∀ o,h1.get? c'=some o->h2.get? c'=some o)->h2.CodeRec (.ref c') qual:=fun h1 h2 ⟨c,oc,vs,t,e,g,r⟩ k=>by
 cases e;exact ⟨_,oc,vs,t,rfl,k _ g,r⟩
section
variable {X:Cx}{pins:List (Addr×Obj)}{σ:St}{H:Hp}{s:Shared}{E:Value->Shared->Prop}{c P:Addr}{pos:Pos}{params:Arguments}{body:Expr}{scope:Scope}{Q:Value->Shared->Prop}
theorem Ka (I:bD X pins σ H s)(hcode:X.env.code=.ref c)(C:PySem.W.CodeHd X.base c P)(B:X.base.BuiltinsAt X.mg P)(T:cA P pos (X.env.qual++"<lambda>") H)(S:bM X.env.scope scope)(hdef:defaultsOf params X.env=([],[]))
  (q:∀ f c' pm ctv H' s',bH P H H'->Uy P pos (X.env.qual++"<lambda>") c' H'->bD X (pins++[(f,PySem.W.kla_obj "<lambda>" (X.env.qual++"<lambda>") params body scope (fG X.env scope.names []) pm c' ctv)]) σ H' s'->Q (.ref f) s') :
  wpAny (model X.prog X.w) X.A (eval (.Lambda params body scope pos) X.env) Q E s:=by
 have hcl:=HS S I.ok;have hg:=I.ok.mod.glob.keeps I.bk;have hB:=Jj B I.bk;obtain ⟨ps0,hP0⟩:=T.at_;have hgP:mainGlobals≠P:=fun z=>by
  obtain ⟨o,es,ep,e,_⟩:=I.ok.mod.glob;have:=(I.bs _ o e).2;rw [z,hP0] at this;cases this
 refine PySem.W.kla_eval hdef ?_;rcases T with T | ⟨c',T,U⟩
 ·have hP:s.heap.get? P=some (PySem.W.tabObj #[]):=I.hok P _ T;refine PySem.W.kla_makeFunction (mg:=X.mg) hcl I.ok.glob hg hcode (C.keeps I.bk) hP trivial rfl hgP hB fun c' ctv h' tk hx hge hlt hrec htb=>?_;have cn:H c'=none:=I.hok.fresh hge;have cP:c'≠P:=Ne.symm (bB T cn);have new1:∀ b o,b≠P->s.heap.get? b=some o->(h'.push (PySem.W.kla_obj "<lambda>" (X.env.qual++"<lambda>") params body scope (fG X.env scope.names []) ((X.mg "__name__").getD .none) c' ctv)).get? b=some o:=fun b o hb e=>aLt _ (hx b o hb e);have nP:∀ b,H b=none->b≠P:=fun b n z=>by rw [z,T] at n; cases n
  have ups:∀ b u,H b=some u->(∀ ps,u≠.tbl ps)->aX (aX H P (.tbl (Ro pos c'))) c' (sU c' (X.env.qual++"<lambda>")) b=some u:=fun b u e nt=>by
   rw [aO (bB e cn),aO (cI e T (nt _))]; exact e
  have hfresh:H h'.objs.size=none:=I.hok.fresh (aLv hge (aLZ hlt));have I1:bD X pins σ (aX (aX H P (.tbl (Ro pos c'))) c' (sU c' (X.env.qual++"<lambda>"))) { s with heap:=h'.push (PySem.W.kla_obj "<lambda>" (X.env.qual++"<lambda>") params body scope (fG X.env scope.names []) ((X.mg "__name__").getD .none) c' ctv),toks:=tk }:=by
   refine I.un (t':=tk) ⟨fun b o e n _ _=>new1 b o (nP b n) e,fun b o e n _ _=>⟨o.slots,new1 b o (nP b n) e⟩,fun b o e n _=>?_,fun b o e _=>?_,fun b xs e=>ups b _ e (fun _ z=>nomatch z),fun b o u e=>ups b _ e (fun _ z=>nomatch z),fun b ps e=>?_⟩ fun b u e=>?_
   ·rw [aO (aLR (aLS (aLC e) hge)),aO (nP b n)]; exact n
   ·by_cases z:b=P
    ·rw [z]; exact ⟨_,aLt _ htb⟩
    ·exact ⟨o,new1 b o z e⟩
   ·by_cases z:b=P
    ·rw [z,T] at e;cases e;refine ⟨Ro pos c',?_⟩;rw [z,aO (Ne.symm cP),aC];simp
    ·exact ⟨#[],by rw [aO (bB e cn),aO z,e]; simp⟩
   ·by_cases z:b=c'
    ·subst z;rw [aC] at e;cases e;obtain ⟨c2,oc,vs,t,e2,g2,r2⟩:=hrec;cases e2;exact ⟨⟨_,oc,vs,t,rfl,aLt _ g2,r2⟩,⟨oc,aLt _ g2⟩,z9⟩
    ·rw [aO z] at e
     by_cases z2:b=P
     ·subst z2;rw [aC] at e;cases e;have q2:=aLt (PySem.W.kla_obj "<lambda>" (X.env.qual++"<lambda>") params body scope (fG X.env scope.names []) ((X.mg "__name__").getD .none) c' ctv) htb;rw [Array.empty_append] at q2;exact q2
     ·rw [aO z2] at e;refine (I.hok b u e).stay (fun d v hd r=>new1 d v ?_ r) (fun d r=>ups d _ r fun _ z=>nomatch z) fun d xs r=>ups d _ r fun _ z=>nomatch z
      rcases hd with z3 | z3
      ·rw [z3]; exact z2
      ·exact cI z3 T fun z=>nomatch z
  refine q _ c' ((X.mg "__name__").getD .none) ctv _ _ (fun b o n e=>?_) ⟨?_,aC⟩ (I1.pins_of fun p hp=>?_)
  ·rw [aO (bB e cn),aO n]; exact e
  ·rw [aO (Ne.symm cP),aC]
  ·rcases aLO.mp hp with z | z
   ·exact I1.pin p (aLL _ z)
   ·rw [aLy.mp z];have fp:=I.fpOk (H':=aX (aX H P (.tbl (Ro pos c'))) c' (sU c' (X.env.qual++"<lambda>"))) (b:=h'.objs.size) (aLv hge (aLZ hlt)) (by rw [aO (aMA hlt),aO (nP _ hfresh)]; exact hfresh);exact ⟨aLJ _ rfl,fp.1,fp.2.1,fp.2.2.1,fun v z=>nomatch z⟩
 ·have hP:s.heap.get? P=some (PySem.W.tabObj (Ro pos c')):=I.hok P _ T;have am:codeAmong pos (Ro pos c').toList=some (.ref c'):=by
   show codeAmong pos [rawInt pos.line,rawInt pos.col,.ref c']=some (.ref c');simp [codeAmong,rawInt]
  refine PySem.W.kla_makeFunctionHit (mg:=X.mg) hcl I.ok.glob hg hcode (C.keeps I.bk) hP trivial am hB fun ctv h' tk hk hsz=>?_;have I1:bD X pins σ H { s with heap:=h'.push (PySem.W.kla_obj "<lambda>" (X.env.qual++"<lambda>") params body scope (fG X.env scope.names []) ((X.mg "__name__").getD .none) c' ctv),toks:=tk }:=I.kept (t':=tk) fun b o e=>aLt _ (hk b o e);refine q _ c' ((X.mg "__name__").getD .none) ctv H _ (bH.refl H) ⟨T,U⟩ (I1.pins_of fun p hp=>?_);rcases aLO.mp hp with z | z
  ·exact I1.pin p (aLL _ z)
  ·rw [aLy.mp z];have fp:=I.fpOk (H':=H) (b:=h'.objs.size) hsz (I.hok.fresh hsz);exact ⟨aLJ _ rfl,fp.1,fp.2.1,fp.2.2.1,fun v z=>nomatch z⟩
end
def Uq (K:PySem.W.Frag)(P:Addr)(pos:Pos)(qual:Str)(tl tb:TE):TE:=fun σ H Q=>tl σ H fun x H1=>∃ (l:Addr) (qs:List Addr) (kz:List Int),x=.ref l/\bK K H1 l (qs.map V.ref)/\kz.length=qs.length/\qs.length<64/\cA P pos qual H1 ∧
 ∀ H2 c',bH P H1 H2->Uy P pos qual c' H2->(∀ (i:Nat) q k,qs[i]? = some q->kz[i]? = some k->tb (some (.ref q)::σ) H2 fun r H'=>r=.int k/\H'=H2) ∧
  ∀ D (ps:List (Int×Addr)),H2 D=none->ps.Perm (kz.zip qs)->ps.Pairwise (fun p q=>p.1<=q.1)->Q (.ref D) (aX H2 D (.lst (ps.map fun p=>V.ref p.2)))
theorem Nx {X:Cx}{c P:Addr}{k:Nat}{p:Str}{M:List Str}{scope:Scope}{params:Arguments}{body e:Expr}{p0 pos lpos kpos:Pos}{tl tb:TE}(hr:fV k X.A)(hc:X.calm=true)(hg:Gl X "sorted")(hm:X.mg "sorted" = none)
  (hcode:X.env.code=.ref c) (C:PySem.W.CodeHd X.base c P) (B:X.base.BuiltinsAt X.mg P) (S:bM X.env.scope scope) (nl:NL X.N M scope) (hp:scope.names.lookup p=some .local) (hco:scope.isCoroutine=false) (hgen:scope.isGenerator=false)
  (he:PE X e tl) (hb:∀ A f c' s H,PE (Hl X A p M scope (X.env.qual++"<lambda>") f c' s H) body tb)
  (hdef:defaultsOf params X.env=([],[]):=by rfl)
  (hbind:∀ (cl:List (Str×Addr)) (pm cdv ctv u:Value),bindArgs (PySem.W.kla_fn "<lambda>" (X.env.qual++"<lambda>") params body scope cl pm cdv ctv) ⟨[u],[]⟩=pure [(p,u)]:=by intro _ _ _ _ _; rfl)
  (hs:starEach [e] X.env=[(false,eval e X.env)]:=by rfl) :
  PE X (.Call (.Name "sorted" p0) [e] [⟨some "key",.Lambda params body scope lpos,kpos⟩] pos) (Uq X.K P lpos (X.env.qual++"<lambda>") tl tb):=by
 intro pins s σ H Q I h;refine wpAny_Call_Name_kw (mY I hg hm zL ?_ (by decide) (by decide));refine callWith_kw (d7 (aA he aD hs pos pins s σ H (fun vs H1=>∃ x,vs=[x]/\∃ (l:Addr) (qs:List Addr) (kz:List Int),x=.ref l/\bK X.K H1 l (qs.map V.ref)/\kz.length=qs.length/\qs.length<64/\cA P lpos (X.env.qual++"<lambda>") H1 ∧
  ∀ H2 c',bH P H1 H2->Uy P lpos (X.env.qual++"<lambda>") c' H2->(∀ (i:Nat) q k,qs[i]? = some q->kz[i]? = some k->tb (some (.ref q)::σ) H2 fun r H'=>r=.int k/\H'=H2) ∧
   ∀ D (ps:List (Int×Addr)),H2 D=none->ps.Perm (kz.zip qs)->ps.Pairwise (fun p q=>p.1<=q.1)->Q (.ref D) (aX H2 D (.lst (ps.map fun p=>V.ref p.2)))) I ?_) fun us s1 ⟨vs,H1,I1,r1,x,ev,l,qs,kz,ex,hS,hlen,h64,hT,q1⟩=>?_) ?_ ?_ rfl rfl
 ·show tl σ H fun x H1=>_;have mono:=h;exact (show tl σ H fun x H1=>∃ x',[x]=[x']/\_ from by
   have e1:(fun (x:V) (H1:Hp)=>∃ x',[x]=[x']/\∃ (l:Addr) (qs:List Addr) (kz:List Int),x'=.ref l/\bK X.K H1 l (qs.map V.ref)/\kz.length=qs.length/\qs.length<64/\cA P lpos (X.env.qual++"<lambda>") H1 ∧
  ∀ H2 c',bH P H1 H2->Uy P lpos (X.env.qual++"<lambda>") c' H2->(∀ (i:Nat) q k,qs[i]? = some q->kz[i]? = some k->tb (some (.ref q)::σ) H2 fun r H'=>r=.int k/\H'=H2) ∧
   ∀ D (ps:List (Int×Addr)),H2 D=none->ps.Perm (kz.zip qs)->ps.Pairwise (fun p q=>p.1<=q.1)->Q (.ref D) (aX H2 D (.lst (ps.map fun p=>V.ref p.2))))=fun x H1=>∃ (l:Addr) (qs:List Addr) (kz:List Int),x=.ref l/\bK X.K H1 l (qs.map V.ref)/\kz.length=qs.length/\qs.length<64/\cA P lpos (X.env.qual++"<lambda>") H1 ∧
  ∀ H2 c',bH P H1 H2->Uy P lpos (X.env.qual++"<lambda>") c' H2->(∀ (i:Nat) q k,qs[i]? = some q->kz[i]? = some k->tb (some (.ref q)::σ) H2 fun r H'=>r=.int k/\H'=H2) ∧
   ∀ D (ps:List (Int×Addr)),H2 D=none->ps.Perm (kz.zip qs)->ps.Pairwise (fun p q=>p.1<=q.1)->Q (.ref D) (aX H2 D (.lst (ps.map fun p=>V.ref p.2))):=by
    funext x H1
    refine propext ⟨?_,?_⟩
    ·rintro ⟨x',z,r⟩;injection z with z
     subst z;exact r
    ·intro r;exact ⟨x,rfl,r⟩
   rw [e1];exact mono)
 ·subst ev ex;obtain ⟨u,rfl,ru⟩:=vals1 r1;cases (show u=Value.ref l from ru);show wpAny _ _ (evalAll [do let v <- eval (.Lambda params body scope lpos) X.env; standAt pos; pure v]) _ _ s1;refine wpAny_evalAll_cons (wpAny_bind (Ka I1 hcode C B hT S hdef fun f c' pm ctv H2 s2 st hit I2=>wpAny_bind (wpAny_standAt (wpAny_pure (wpAny_evalAll_nil ?_)))));obtain ⟨q2,q3⟩:=q1 H2 c' st hit;have fin:=Mp (E:=X.xe) (Q:=Q) (fa:=f) (kz:=kz) I2 (bH.lst st hT hS) hlen h64 (fun i q k eq ek=>Qc (A:=X.A.in1.in1) I2.ok.frames (I2.ok.hd hc) hr.depth S nl hp hco hgen hbind (hb X.A.in1.in1) (x:=.ref q) rfl (aLL _ (.head _)) hit.2 (q2 i q k eq ek)) fun D ps hD hp hs=>q3 D ps hD hp hs;exact d7 fin fun r s3 ⟨v,H3,I3,rv,qv⟩=>⟨v,H3,I3.unpinned,rv,qv⟩
 ·show backTo pos (starEach [e] X.env)=(false,eval e X.env)::_;rw [hs]
  rfl
 ·rw [hs]
  rfl
theorem dW.okc {P:Program}{w:World}{K:PySem.W.Frag}{mg:Str->Option Value}{base:Heap}{x qual:Str}{st:Stmt}{f c:Addr}{fd:FuncData}{N ps:List Str}{k:Nat}{sp:Sp}(F:dW K x qual st f fd)(hc:fd.code=.ref c)(S:aQ N ps (aN st))(len:∀ vs H Q E,sp vs H Q E->vs.length=ps.length)
  (hbody:∀ (A:Around) (outer:List Env) (s:Shared) (H:Hp) (vs:List V) (Q:VK) (E:XK),fV k (A.deeper (envOfC qual (aN st) s.heap.objs.size f (.ref c)))->sp vs H Q E ->
   ∃ t,CG (xT cZ P w K mg base N qual (aN st) f (.ref c) A outer s H E).nox (gY st) t/\t { nx:=fun _ H'=>Q .non H',rt:=Q } (start N vs) H):aY P w K mg base cZ (k+1) f fd ps sp:=by
 obtain ⟨oc,od,kV,doc,pm,an,cdv,ct,osl,rfl,lk,hcd⟩:=F.ex;cases (show cdv=Value.ref c from hc);refine O4 lk hcd S len fun A outer s H vs Q E hr hsp=>?_;obtain ⟨t,h,q⟩:=hbody A outer s H vs Q E hr hsp;exact ⟨t,h.nox,q⟩
section
variable {X:Cx}
theorem m7 (hc:X.calm=true):eY X (.builtin "sum") (fun xs H Q=>∃ (a:Addr) (ns:List Int),xs=[.ref a]/\bK X.K H a (ns.map V.int)/\Q (.int ns.sum) H):=by
 intro pins s σ H xs us Q I r h;obtain ⟨a,ns,rfl,hS,q⟩:=h;obtain ⟨u,rfl,ru⟩:=vals1 r;cases (show u=Value.ref a from ru);obtain ⟨its,rv,p,hz⟩:=I.list hS;have hi:=intsAre_of rv;obtain ⟨zs,e⟩:=(IntsAre.allInts hi).items;have hl:=p.isList;rw [e] at hl;refine sum_intListG (I.ok.hd hc) hl fun h' tk t' hk=>⟨.int ns.sum,H,I.kept hk,⟨t',?_⟩,q⟩
 have n1:=nums_intItems (xs:=zs);rw [<- e,show its.toArray.toList=its from rfl,IntsAre.numsOf hi] at n1;rw [preSum_eq,List.take_of_length_le (by simp),<- n1]
section
variable {prog:Program}{w:World}{A:Around}{E:Value->Shared->Prop}{s:Shared}{d it:Addr}{od:Obj}{es:Array DictEntry}{ep i:Nat}
theorem yK {Q:Value->Shared->Prop}(hd:(d==sysModules)=false)(ho:s.heap.get? d=some od)(hx:od.ExactDict)(hdat:od.data=.dict es ep)
  (hQ:Q (.ref s.heap.objs.size) { s with heap:=s.heap.push { cls:=.type "dict_keyiterator",data:=.fields #[.ref d,.int 0 0,.int es.size 0,.int ep 0] } }) :
  wpAny (model prog w) A (pyIter (.ref d)) Q E s:=by
 have ty:s.TypeIs (.ref d) "dict":=⟨od,ho,hx.1⟩
 apply wpAny_pyIter_slot ty F.slot_dict_iter;refine wpAny_call_entry F.slot_dict_iter ty F.entry_dict_iter ?body (F.args_dict_iter_1 _)
 case body =>
  unfold Builtin.«dict.__iter__»;apply wpAny_bind;unfold Builtin.Dict.dictSlotNone;refine wpAny_bind (wpAny_notOrdered_dict ty (wpAny_pure (a:=Value.ref d) ?_));show wpAny _ _ (Builtin.Dict.showsAll d >>= fun _=>_) _ _ s;unfold Builtin.Dict.showsAll;rw [hd,if_neg aLK];refine wpAny_bind (wpAny_pure (wpAny_bind (wpAny_dictEntries ho hdat (wpAny_bind (wpAny_dictEpoch ho hdat ?_)))));refine wpAny_bind (wpAny_newObj_type (wpAny_pure ⟨_,rfl,"dict_keyiterator",_,⟨_,aLJ _ rfl,rfl⟩,F.slot_dict_keyiterator_next.lookup,?_⟩))
  simpa only [rawInt] using hQ
theorem zU {e:DictEntry}{Q:Option Value->Shared->Prop}(hit:s.heap.IsKeyIter it d i es.size ep)(ho:s.heap.get? d=some od)(hdat:od.data=.dict es ep)(hx:es[i]? = some e)
  (hQ:∀ h',h'.IsKeyIter it d (i+1) es.size ep->aMa it s.heap h'->Q (some e.key) { s with heap:=h' }):wpAny (model prog w) A (pyNext (.ref it)) Q E s:=by
 obtain ⟨oi,hoi,hci,hdi⟩:=id hit;have ty:=hit.typeIs;have own:Builtin.Dict_items.ownsTuple "dict_keyiterator" = false:=by decide
 unfold pyNext;apply wpAny_bind;apply wpAny_attempt;refine wpAny_callSpecial?_slot (name:=Str.ofString "__next__") ty F.slot_dict_keyiterator_next ?call
 case call =>
  refine wpAny_call_entry F.slot_dict_keyiterator_next ty F.entry_dict_keyiterator_next ?body (F.args_dict_keyiterator_next_1 _)
  case body =>
   refine wpAny_bind (wpAny_pure (wpAny_bind (wpAny_bind ?_)));refine wpAny_bind (wpAny_typeNameOfWhole_keyiter ty (wpAny_pure (wpAny_bind (wpAny_fieldsOf hoi hdi ?_))));simp only [own,aMn,if_false];show wpAny _ _ (if (Value.ref d==Value.none)=true then _ else _) _ _ s;rw [if_neg (fun z:(Value.ref d==Value.none)=true=>aLK z)];refine wpAny_bind (wpAny_pure (wpAny_bind (wpAny_dictEntries ho hdat ?_)));rw [if_neg (by simp)];refine wpAny_bind (wpAny_pure (wpAny_bind (wpAny_dictEpoch ho hdat ?_)));rw [if_neg (by simp)];apply wpAny_pure;have neg:¬ ((i:Int)<0):=by omega
   simp only [neg,if_false,aNd,hx];refine wpAny_bind (wpAny_bind (wpAny_typeNameOfWhole_keyiter ty (wpAny_pure (wpAny_bind (wpAny_isOneOf_keyiter ty ?_)))));show wpAny _ _ (setField (.ref it) 1 (rawInt ((i:Int)+1)) >>= fun _=>_) _ _ s;refine wpAny_bind (wpAny_setField hoi hdi (by simp) ?_);have nx:(s.heap.update it (Obj.mapFields (·.setIfInBounds 1 (rawInt ((i:Int)+1))))).IsKeyIter it d (i+1) es.size ep :=
    ⟨_,Heap.get?_update_self _ hoi (Obj.isFreed_of_fields (Obj.data_mapFields hdi _)),(Obj.cls_mapFields ..).trans hci,by rw [Obj.data_mapFields hdi]; simp [rawInt]⟩
   refine wpAny_bind (wpAny_holding (wpAny_bind (wpAny_isOneOf_keyiter (s:={ s with heap:=s.heap.update it (Obj.mapFields (·.setIfInBounds 1 (rawInt ((i:Int)+1)))) }) nx.typeIs ?_)));show wpAny _ _ (pure e.key) _ _ _;exact wpAny_pure (wpAny_pure ⟨_,rfl,wpAny_pure (hQ _ nx (aMa.update ..))⟩)
theorem FT {Q:Option Value->Shared->Prop}(hh:A.handled=none)(hit:s.heap.IsKeyIter it d i es.size ep)(ho:s.heap.get? d=some od)(hdat:od.data=.dict es ep)(hx:es.size<=i)
  (hQ:∀ h',Heap.ExtBut it s.heap h'->Q none { s with heap:=h' }):wpAny (model prog w) A (pyNext (.ref it)) Q E s:=by
 obtain ⟨oi,hoi,hci,hdi⟩:=id hit;have ty:=hit.typeIs;have own:Builtin.Dict_items.ownsTuple "dict_keyiterator" = false:=by decide
 unfold pyNext;apply wpAny_bind;apply wpAny_attempt;refine wpAny_callSpecial?_slot (name:=Str.ofString "__next__") ty F.slot_dict_keyiterator_next ?call
 case call =>
  refine wpAny_call_entry F.slot_dict_keyiterator_next ty F.entry_dict_keyiterator_next ?body (F.args_dict_keyiterator_next_1 _)
  case body =>
   refine wpAny_bind (wpAny_pure (wpAny_bind (wpAny_bind ?_)));refine wpAny_bind (wpAny_typeNameOfWhole_keyiter ty (wpAny_pure (wpAny_bind (wpAny_fieldsOf hoi hdi ?_))));simp only [own,aMn,if_false];show wpAny _ _ (if (Value.ref d==Value.none)=true then _ else _) _ _ s;rw [if_neg (fun z:(Value.ref d==Value.none)=true=>aLK z)];refine wpAny_bind (wpAny_pure (wpAny_bind (wpAny_dictEntries ho hdat ?_)));rw [if_neg (by simp)];refine wpAny_bind (wpAny_pure (wpAny_bind (wpAny_dictEpoch ho hdat ?_)));rw [if_neg (by simp)];apply wpAny_pure;have neg:¬ ((i:Int)<0):=by omega
   simp only [neg,if_false,aNd,Array.getElem?_eq_none hx];refine wpAny_bind (wpAny_bind (wpAny_typeNameOfWhole_keyiter ty (wpAny_pure ?_)));show wpAny _ _ (setField (.ref it) 0 .none >>= fun _=>_) _ _ s;refine wpAny_bind (wpAny_setField hoi hdi (by simp) ?_);show wpAny _ _ (newExc (.type "StopIteration") [] >>= fun _=>_) _ _ _;apply wpAny_bind;simp only [newExc,newTuple];refine wpAny_bind (wpAny_newObj_type (wpAny_bind (m:=firstArgMember _ _) (wpAny_of_eq (a:=Value.none) (by first | rfl | (simp only [firstArgMember]; rfl)) (wpAny_newObj_type ?_ (by size_fits)))) (by size_fits));simp only [raiseNew];refine wpAny_bind (wpAny_handled ?_);rw [show A.in1.handled=aOi from hh];refine wpAny_bind (wpAny_pure (wpAny_throw ?thr));apply wpAny_bind;refine wpAny_isInstance (T:="StopIteration") (b:=true) ⟨_,aLJ _ rfl,rfl⟩ isSubtype_stop ?ends;exact wpAny_pure (hQ _ (((aMa.update ..).extBut.push _).push _))
end
def Ud (a:Addr)(o:Obj)(kvs:List (List Key×V)):It :=
 ⟨fun i H=>H a=some (.frz o (.dT kvs))/\i<kvs.length,fun i H x H'=>H'=H/\∃ k v q,kvs[i]? = some (k,v)/\x=.ref q/\H q=some (.tup (k.map kV)),fun i H=>H a=some (.frz o (.dT kvs))/\kvs.length<=i⟩
theorem Fo {P:Program}{w:World}{H:Hp}{h:Heap}{a:Addr}{o:Obj}{kvs:List (List Key×V)}(ok:nW P w H h)(e:H a=some (.frz o (.dT kvs))) :
  h.get? a=some o/\o.ExactDict/\∃ es ep,o.data=.dict es ep/\es.size=kvs.length/\∀ (i:Nat) k v,kvs[i]? = some (k,v)->∃ q ent,es[i]? = some ent/\ent.key=.ref q/\H q=some (.tup (k.map kV)):=by
 obtain ⟨e1,z,y,xs,r,ob,es,ep,e2,ex,hd,he,nd⟩:=ok a _ e;rw [e1] at e2;cases e2;have hl:kvs.length=xs.length:=Paired.length r;refine ⟨e1,ex,es,ep,hd,?_,fun i k v hk=>?_⟩
 ·rw [<- aL5,he,aLo,hl]
 ·have get:∀ {l1:List (List Key×V)}{l2:List (List Key×Addr×Value)}{i:Nat}{k:List Key}{v:V},Paired (fun (p:List Key×V) (q:List Key×Addr×Value)=>p.1=q.1/\H q.2.1=some (.tup (p.1.map kV))/\RelV p.2 q.2.2) l1 l2->l1[i]? = some (k,v) ->
    ∃ q:List Key×Addr×Value,l2[i]? = some q/\H q.2.1=some (.tup (k.map kV)):=by
   intro l1 l2 i k v r
   induction r generalizing i with
   | nil=>intro z; simp at z
   | cons h t ih =>
    intro z;cases i with
    | zero=>simp at z; subst z; exact ⟨_,rfl,h.2.1⟩
    | succ j=>exact ih (by simpa using z)
  obtain ⟨q,hq,ht⟩:=get r hk;refine ⟨q.2.1,entryOfKey (tupleKind (dZ P w)) q,?_,rfl,ht⟩;rw [<- aMT,he,aLH,hq]
  rfl
theorem KC {P:Program}{w:World}{K:PySem.W.Frag}{tg:Expr}(a it:Addr)(o:Obj)(kvs:List (List Key×V))(es:Array DictEntry)(ep:Nat)(hd:o.data=.dict es ep) :
  Turn P w K tg (Ud a o kvs) [it] it (fun i h=>h.IsKeyIter it a i es.size ep) where
 mem:=by simp
 obj:=fun i h st b hb=>by
  have e:b=it:=by simpa using hb
  subst e;obtain ⟨o,e,c,d⟩:=st;exact ⟨o,e,fun v z=>by rw [d] at z; cases z⟩
 keep:=fun i h h' st k=>st.at fun o e=>k it (by simp) o e
 item:=by
  intro X hP hw hK hc i pins s σ H E I hf st hg;subst hP hw hK;obtain ⟨hH,hi⟩:=hg;obtain ⟨e1,ex,es',ep',hd',hsz,get⟩:=Fo I.hok hH;rw [hd] at hd';cases hd';obtain ⟨q,ent,hent,hkey,ht⟩:=get i _ _ (aLs hi);obtain ⟨f0,f1,f2,f3,f4,f5⟩:=hf it (by simp);refine zU st e1 hd hent fun h' st' sb=>?_;have I1:bD X pins σ H { s with heap:=h' }:=I.turned (t':=s.toks) (fun b o hb e=>(sb.2 b hb).trans e) f0 f1 f3 f4 f5;obtain ⟨oo,e,c,d⟩:=id st';exact ⟨_,rfl,Ej (s:={ s with heap:=h' }) e c d (by decide) ⟨.ref q,H,I1,hkey,⟨rfl,_,_,q,aLs hi,rfl,ht⟩,st',fun b hb=>(hf b hb).1⟩⟩
 done:=by
  intro X hP hw hK hc i pins s σ H E I hf st hg;subst hP hw hK;obtain ⟨hH,hi⟩:=hg;obtain ⟨e1,ex,es',ep',hd',hsz,get⟩:=Fo I.hok hH;rw [hd] at hd';cases hd';obtain ⟨f0,f1,f2,f3,f4,f5⟩:=hf it (by simp);exact FT (I.ok.hd hc) st e1 hd (by omega) fun h' eb=>⟨rfl,I.turned (t':=s.toks) (fun b o hb e=>eb b o hb e) f0 f1 f3 f4 f5⟩
 self:=fun _ _ _ _ _ st h=>wpAny_pyIter_keyiter st h
theorem bD.freeze {pins:List (Addr×Obj)}{σ:St}{H:Hp}{s:Shared}{a:Addr}{kvs:List (List Key×V)}(I:bD X pins σ H s)(e:H a=some (.dT kvs)):∃ o,s.heap.get? a=some o/\bD X pins σ (aX H a (.frz o (.dT kvs))) s:=by
 have ok:=I.hok a _ e;obtain ⟨z,y,xs,r,ob,es,ep,e2,c⟩:=id ok;refine ⟨ob,e2,?_⟩;refine I.write (x:=a) (e:=a) (h':=s.heap) (t':=s.toks) (by rw [e]; exact trivial) (.inl rfl) (fun _ _ _ q=>q) ⟨_,e2⟩ ⟨e2,?_⟩;refine ok.stay (fun _ _ _ q=>q) (fun b q=>?_) fun b ys q=>?_
 ·rw [aO (fun w=>by rw [w,e] at q; cases q)]; exact q
 ·rw [aO (fun w=>by rw [w,e] at q; cases q)]; exact q
def Wy (tl:TE):TI:=fun σ H R=>tl σ H fun x H1=>∃ a kvs,x=.ref a/\((H1 a=some (.dT kvs)/\∀ o,R (Ud a o kvs) (aX H1 a (.frz o (.dT kvs))))∨∃ o,H1 a=some (.frz o (.dT kvs))/\R (Ud a o kvs) H1)
theorem Hx {pins:List (Addr×Obj)}{σ:St}{H:Hp}{s:Shared}{tg:Expr}{a:Addr}{o:Obj}{kvs:List (List Key×V)}{R:It->Hp->Prop}(I:bD X pins σ H s)(e:H a=some (.frz o (.dT kvs)))(q:R (Ud a o kvs) H) :
  wpAny (model X.prog X.w) X.A (pyIter (.ref a)) (PIE X pins σ tg R) X.xe s:=by
 obtain ⟨e1,ex,es,ep,hd,hsz,get⟩:=Fo I.hok e;obtain ⟨_,_,y,_⟩:=I.hok a _ e;refine yK y e1 ex hd ?_;refine ⟨s.heap.objs.size,[s.heap.objs.size],_,_,H,rfl,I.kept (t':=s.toks) fun b o e=>aLt _ e,KC a _ o kvs es ep hd,⟨_,aLJ _ rfl,rfl,rfl⟩,fun b hb=>?_,q⟩;have e:b=s.heap.objs.size:=by simpa using hb
 subst e;exact I.fpOk (aLu _) (I.hok.fresh (aLu _))
theorem QX {tg l:Expr}{tl:TE}(hl:PE X l tl):PI X tg l (Wy tl):=by
 intro pins s σ H R I h;refine d7 (hl pins s σ H _ I h) fun v s1 ⟨x,H1,I1,r1,q1⟩=>?_;obtain ⟨a,kvs,rfl,q1⟩:=q1;cases (show v=Value.ref a from r1);rcases q1 with ⟨e,q⟩ | ⟨o,e,q⟩
 ·obtain ⟨o,_,I2⟩:=I1.freeze e;exact Hx I2 aC (q o)
 ·exact Hx I1 e q
def YJ (K:PySem.W.Frag)(a:Addr)(xs:List V):It :=
 ⟨fun i H=>i<xs.length/\bK K H a xs,fun i H x H'=>H'=H/\xs[xs.length-1-i]? = some x,fun i H=>xs.length<=i⟩
theorem Oc {P:Program}{w:World}{K:PySem.W.Frag}{tg:Expr}(a it:Addr)(xs:List V):Turn P w K tg (YJ K a xs) [it] it (fun i h=>i<=xs.length/\h.IsRevIter it a ((xs.length:Int)-1-(i:Int))) where
 mem:=by simp
 obj:=fun i h st b hb=>by
  have e:b=it:=by simpa using hb
  subst e;obtain ⟨_,o,e,c,d⟩:=st;exact ⟨o,e,fun v z=>by rw [d] at z; cases z⟩
 keep:=fun i h h' st k=>⟨st.1,st.2.at fun o e=>k it (by simp) o e⟩
 item:=by
  intro X hP hw hK hc i pins s σ H E I hf st hg;subst hP hw hK;obtain ⟨hi,hS⟩:=hg;obtain ⟨_,st⟩:=st;obtain ⟨its,rv,p,hz⟩:=I.list hS;have hix:xs.length-1-i<xs.length:=by omega
  obtain ⟨u,hu,ru⟩:=rv.get (aLs hix);have ei:(xs.length:Int)-1-(i:Int)=((xs.length-1-i:Nat):Int):=by omega
  rw [ei] at st;obtain ⟨f0,f1,f2,f3,f4,f5⟩:=hf it (by simp);refine wpAny_pyNext_rev_item st p.isList (x:=u) (by simpa using hu) fun h' st' sb=>?_;have I1:bD X pins σ H { s with heap:=h' }:=I.turned (t':=s.toks) (fun b o hb e=>(sb.2 b hb).trans e) f0 f1 f3 f4 f5;obtain ⟨o,e,c,d⟩:=id st';refine ⟨u,rfl,Ej (s:={ s with heap:=h' }) e c d (by decide) ⟨_,H,I1,ru,⟨rfl,aLs hix⟩,⟨hi,?_⟩,fun b hb=>(hf b hb).1⟩⟩;have ej:(xs.length:Int)-1-((i+1:Nat):Int)=((xs.length-1-i:Nat):Int)-1:=by omega
  rw [ej];exact st'
 done:=by
  intro X hP hw hK hc i pins s σ H E I hf st hg;subst hP hw hK;obtain ⟨hi,st⟩:=st;have hg:xs.length<=i:=hg;have ei:(xs.length:Int)-1-(i:Int) = -1:=by omega
  rw [ei] at st;obtain ⟨f0,f1,f2,f3,f4,f5⟩:=hf it (by simp);exact wpAny_pyNext_rev_end (I.ok.hd hc) st fun h' eb=>⟨rfl,I.turned (t':=s.toks) (fun b o hb e=>eb b o hb e) f0 f1 f3 f4 f5⟩
 self:=fun _ _ _ _ _ st h=>wpAny_pyIter_revIter st.2 h
def aFs (K:PySem.W.Frag)(ta:TA):TI:=fun σ H R=>ta σ H fun vs H1=>∃ a xs,vs=[.ref a]/\bK K H1 a xs/\R (YJ K a xs) H1
theorem Ey:bootBuiltins "reversed" = some (.type "reversed"):=by decide +kernel
theorem SQ {tg a:Expr}{ta:TA}{p pos:Pos}(hg:Gl X "reversed")(hm:X.mg "reversed" = none)(ha:PA X [a] ta)(hs:starEach [a] X.env=[(false,eval a X.env)]:=by rfl):PI X tg (.Call (.Name "reversed" p) [a] [] pos) (aFs X.K ta):=by
 intro pins s σ H R I h;refine Call_ (mY I hg hm Ey (PyProof.Rows.callWith_type1 (d7 (ha pos pins s σ H _ I h) fun us s1 ⟨vs,H1,I1,r1,q1⟩=>?_) hs rfl));obtain ⟨b,xs,e,hS,q⟩:=q1;subst e;obtain ⟨u,rfl,ru⟩:=vals1 r1;cases (show u=Value.ref b from ru);obtain ⟨its,rv,pl,hz⟩:=I1.list hS;refine call_reversed_list pl.isList ?_;have hsz:its.toArray.size=xs.length:=by rw [aLM]; exact rv.length.symm
 rw [hsz];have st:Heap.IsRevIter (s1.heap.push (revObj b ((xs.length:Int)-1))) s1.heap.objs.size b ((xs.length:Int)-1-((0:Nat):Int)):=by
  rw [show (xs.length:Int)-1-((0:Nat):Int)=(xs.length:Int)-1 by omega];exact ⟨_,aLJ _ rfl,rfl,rfl⟩
 have I2:bD X pins σ H1 { s1 with heap:=s1.heap.push (revObj b ((xs.length:Int)-1)) }:=I1.kept (t':=s1.toks) fun b o e=>aLt _ e;refine wpAny_pyIter_revIter (s:={ s1 with heap:=s1.heap.push (revObj b ((xs.length:Int)-1)) }) st ?_;refine ⟨s1.heap.objs.size,[s1.heap.objs.size],_,_,H1,rfl,I2,Oc b _ xs,⟨aLQ _,st⟩,fun c hc=>?_,q⟩;have e:c=s1.heap.objs.size:=by simpa using hc
 subst e;exact I1.fpOk (aLu _) (I1.hok.fresh (aLu _))
end
theorem jD {X:Cx}{K:PySem.W.Frag}(h:X.K=K):Yz X (Zg K):=by subst h; exact b7
theorem O6 {X:Cx}{K:PySem.W.Frag}(h:X.K=K):Yz X (Wc K):=by subst h; exact gQ
theorem fK {X:Cx}{K:PySem.W.Frag}(hK:X.K=K){pos:Pos}{es:List Expr}{k:Nat}{t:RW}{n:Nat}(hc:X.calm=true)(h:Yv X es t)
  (hn:(assignEach es X.env).length=n:=by rfl) (hst:(assignEach es X.env).findIdx? (·.1)=none:=by rfl):PG X (.Tuple es k pos) (Y7 K n t):=by
 subst hK;exact rK hc h hn hst
theorem N5 {a:Addr}{o:Obj}{kvs:List (List Key×V)}{g:TG}{tb:TS}{D:Ends}{σ:St}{H:Hp}(Pv:Nat->St->Hp->Prop)(h0:Pv 0 σ H)(hl:∀ i σ H,i<=kvs.length->Pv i σ H->H a=some (.frz o (.dT kvs)))
  (hs:∀ i k v q σ H,kvs[i]? = some (k,v)->H q=some (.tup (k.map kV))->Pv i σ H->g (.ref q) σ H fun σ2 H2=>tb { D with nx:=Pv (i+1),ct:=Pv (i+1),bk:=D.nx } σ2 H2) (hd:∀ σ H,Pv kvs.length σ H->D.nx σ H) :
  ∃ W:Nat->Nat->St->Hp->Prop,(∃ m,W 0 m σ H)/\∀ i m σ H,W i m σ H ->
   ((Ud a o kvs).stop i H/\D.nx σ H)∨((Ud a o kvs).go i H/\∃ N:St->Hp->Prop,(∀ σ' H',N σ' H'->∃ m',m'<m/\W (i+1) m' σ' H')/\∀ x H',(Ud a o kvs).yld i H x H'->g x σ H' fun σ2 H2=>tb { D with nx:=N,ct:=N,bk:=D.nx } σ2 H2):=by
 refine ⟨fun i m σ H=>m=kvs.length-i/\i<=kvs.length/\Pv i σ H,⟨kvs.length,by simp,aLQ _,h0⟩,?_⟩;rintro i m σ H ⟨rfl,hi,p⟩;have q:=hl i σ H hi p
 by_cases hlt:i<kvs.length
 ·refine .inr ⟨⟨q,hlt⟩,Pv (i+1),fun σ' H' p'=>⟨kvs.length-(i+1),by omega,rfl,hlt,p'⟩,fun x H' y=>?_⟩;obtain ⟨e,k,v,z,hk,ex,ht⟩:=y;subst e ex;exact hs i k v z σ _ hk ht p
 ·have e:i=kvs.length:=by omega
  subst e;exact .inl ⟨⟨q,aLu _⟩,hd σ H p⟩
theorem Ju {Pg:Program}{w:World}{K:PySem.W.Frag}{mg mb:Str->Option Value}{CX:Bg}{k:Nat}{fa a P c:Addr}{fd:FuncData}{x:Str}{sp:Sp}{s₁:Shared}{vs:List Value}{ns:List Int}
  (KX:K.In s₁.heap) (hns:s₁.heap.Ns mainGlobals mg) (hb:s₁.heap.Ns builtinsNs mb) (hbb:∀ x:Str,x≠"__name__" -> mb x=bootBuiltins x) (hlim:s₁.heap.NoLimit) (hg:s₁.gens = #[])
  (ha:s₁.heap.get? a=some { cls:=.type "list",data:=.seq vs.toArray }) (hi:IntsAre vs ns) (hl:ns.length<=sizeLine) (hr:fV k callerA)
  (hP:s₁.heap.get? P=some (PySem.W.tabObj #[])) (hC:PySem.W.CodeHd s₁.heap c P) (hB:∃ bm ob,mg "__builtins__" = some (.ref bm)/\bm≠builtinsNs/\s₁.heap.get? bm=some ob/\ob.cls=.type "module"/\ob.dict=some builtinsNs/\ob.data=.plain)
  (hKP:K.lookup P=none) (hCK:∀ h,K.In h->PySem.W.CodeHd h c P)
  (F:∀ base:Heap,K.In base->base.Ns mainGlobals mg->PySem.W.CodeHd base c P->base.BuiltinsAt mg P->aY Pg w K mg base CX k fa fd [x] sp) (hbind:∀ (s:Shared) (u:Value),BindsTo s fd ⟨[u],[]⟩ [(x,u)])
  (hsp:∀ H:Hp,H P=some (.tbl #[])->bK K H a (ns.map V.int)->sp [.ref a] H (fun v _=>v=.bl true) fun _ _ _=>False)
  (hCX:∀ H e s',CX [] H s₁ (fun _ _ _=>False) e s'->False) :
  codeAny (model Pg w) callerA (.call (.ref fa) ⟨[.ref a],[]⟩) (fun r s'=>r=.ok (.ret (.bool true))/\OldK s₁.heap s'.heap/\s'.os=s₁.os/\AllBare s'.gens) s₁:=by
 have rv:=rN hi;have lenV:=hi.length;have haP:a≠P:=fun z=>by rw [z,hP] at ha; cases ha
 have core:∀ H:Hp,H P=some (.tbl #[])->(∀ b,b≠P->H b=none∨∃ xs,b=a/\H b=some (.frz { cls:=.type "list",data:=.seq vs.toArray } (.lst xs)))->bK K H a (ns.map V.int)->nW Pg w H s₁.heap->(H a≠none->K.lookup a=none) ->
   codeAny (model Pg w) callerA (.call (.ref fa) ⟨[.ref a],[]⟩) (fun r s'=>r=.ok (.ret (.bool true))/\OldK s₁.heap s'.heap/\s'.os=s₁.os/\AllBare s'.gens) s₁:=by
  intro H hHP hO hS hok hK;have base_of:∀ {b:Addr}{o:Obj},s₁.heap.get? b=some o->H b=none->(xE s₁.heap H).get? b=some o:=fun e n=>NP e n;have free:∀ {b:Addr}{o:Obj},s₁.heap.get? b=some o->(∀ xs n,o.data≠.seq xs n)->b≠P->H b=none:=fun {b o} e d nP=>by
   rcases hO b nP with z | ⟨xs,z,_⟩
   ·exact z
   ·rw [z,ha] at e;cases e;exact absurd rfl (d _ _)
  have ndP:∀ {b:Addr}{o:Obj}{es:Array DictEntry}{ep:Nat},s₁.heap.get? b=some o->o.data=.dict es ep->b≠P:=fun {b o es ep} e d z=>by
   rw [z,hP] at e;cases e;have d':Data.fields #[]=Data.dict es ep:=d;cases d'
  have nsK:∀ {b:Addr}{m:Str->Option Value},s₁.heap.Ns b m->(xE s₁.heap H).Ns b m:=fun {b m} ⟨o,es,ep,e,d,r⟩=>⟨o,es,ep,base_of e (free e (fun xs n z=>by rw [d] at z; cases z) (ndP e d)),d,r⟩
  have hKb:K.In (xE s₁.heap H):=fun b o e=>base_of (KX b o e) (by
   by_cases z:b=P
   ·rw [z,hKP] at e; cases e
   ·rcases hO b z with q | ⟨xs,q,r⟩
    ·exact q
    ·subst q;rw [hK (by rw [r]; simp)] at e; cases e)
  have hM:Mod K mg (xE s₁.heap H):=⟨hKb,nsK hns,⟨mb,nsK hb,hbb⟩,let ⟨mc,h1,h2⟩:=hlim; ⟨mc,nsK h1,h2⟩⟩
  have e0:Gq Pg w K mg (xE s₁.heap H) callerA [] s₁ H:=⟨rfl,hM,fun b o e=>Ol e,aNK (J8 _ _),trivial,fun b hb=>absurd (show b∈([]:List Addr) from hb) (by simp),hok,.of_eq hg⟩
  have hBA:(xE s₁.heap H).BuiltinsAt mg P:=by
   obtain ⟨bm,ob,b1,b2,b3,b4,b5,b6⟩:=hB;have nP:bm≠P:=fun z=>by rw [z,hP] at b3; cases b3; cases b4
   have nG:bm≠mainGlobals:=fun z=>by
    obtain ⟨o,es,ep,e,d,_⟩:=hns;rw [z,e] at b3;cases b3;rw [d] at b6;cases b6
   exact ⟨bm,ob,b1,b2,nG,nP,base_of b3 (free b3 (fun xs n z=>by rw [b6] at z; cases z) nP),b4,b5,b6⟩
  refine codeAny_mono ((F _ hKb (nsK hns) (hCK _ hKb) hBA).run callerA [] s₁ H ⟨[.ref a],[]⟩ [.ref a] [.ref a] _ _ hr e0 (hbind s₁ (.ref a)) (.cons rfl .nil) (hsp H hHP hS)) fun r s' h=>?_;cases r with
  | error e=>exact (hCX H e s' h).elim
  | ok fl =>
   cases fl with
   | next=>exact False.elim h
   | brk=>exact False.elim h
   | cont=>exact False.elim h
   | ret u =>
    obtain ⟨v,H',os,bare,un,hok',r',q⟩:=h;have q':v=.bl true:=q;subst q';obtain rfl:u=Value.bool true:=r';have keep:∀ b o,b≠P->s₁.heap.get? b=some o->s'.heap.get? b=some o:=fun b o nP e=>by
     rcases hO b nP with z | ⟨xs,z1,z⟩
     ·exact un.keep b o e z (by intro z; exact absurd (show b∈([]:List Addr) from z) (by simp)) (by simp)
     ·obtain ⟨e1,_⟩:=hok b _ z;obtain ⟨e2,_⟩:=hok' b _ (un.frzs b _ _ z);rw [e] at e1; cases e1;exact e2
    obtain ⟨more,hm⟩:=un.tbls P #[] hHP;have hP':s'.heap.get? P=some { cls:=.none,data:=.fields (#[]++more) }:=hok' P _ hm;refine ⟨rfl,⟨fun b o e=>?_,fun b o e=>?_⟩,os,bare⟩
    ·by_cases z:b=P
     ·subst z;rw [hP] at e;cases e;exact .inr (.inl ⟨(hC.tab hP).isCodeTable,rfl,#[],more,rfl,hP'⟩)
     ·exact .inl (keep b o z e)
    ·by_cases z:b=P
     ·subst z; exact ⟨_,hP'⟩
     ·exact ⟨o,keep b o z e⟩
 cases hk:K.lookup a with
 | some o =>
  have e:=KX a o hk;rw [ha] at e;cases e;refine core (fun b=>if b=P then some (.tbl #[]) else none) (if_pos rfl) (fun b z=>.inl (if_neg z)) (.inr ⟨_,vs.toArray,_,hk,rfl,rfl,rfl,by rw [aLM,lenV]; exact hl,by simpa using rv⟩) (fun b u z=>?_) fun z=>absurd (if_neg haP) z
  by_cases hb:b=P
  ·have z':=(if_pos hb).symm.trans z;cases z';subst hb;exact hP
  ·have z':=(if_neg hb).symm.trans z;cases z'
 | none =>
  refine core (fun b=>if b=P then some (.tbl #[]) else if b=a then some (.frz { cls:=.type "list",data:=.seq vs.toArray } (.lst (ns.map V.int))) else none) (if_pos rfl) (fun b z=>?_) (.inl (.inr ⟨{ cls:=.type "list",data:=.seq vs.toArray },(if_neg haP).trans (if_pos rfl)⟩)) (fun b u z=>?_) fun _=>hk
  ·by_cases hb:b=a
   ·exact .inr ⟨_,hb,(if_neg z).trans (if_pos hb)⟩
   ·exact .inl ((if_neg z).trans (if_neg hb))
  ·by_cases hb:b=P
   ·have z':=(if_pos hb).symm.trans z;cases z';subst hb;exact hP
   ·have z1:=(if_neg hb).symm.trans z
    by_cases hb2:b=a
    ·have z':=(if_pos hb2).symm.trans z1;cases z';subst hb2;exact ⟨ha,by rw [aLo]; exact hl,vs,_,rv,ha⟩
    ·have z':=(if_neg hb2).symm.trans z1;cases z'
theorem Lq {l:PySem.W.OpenLaw}{n k:Nat}{q:Program}{loose:List Str}{XP:(Str->Option Value)->Heap->Prop}{YP:World->Heap->Prop}{d d0:DefRec}{K:Params->PySem.W.Frag}{CX:World->Bg}{sp:World->Addr->Sp}{x x0:Str}
  (hn:l.most=some n) (hn2:n<=sizeLine) (hdf:d.params.defaults=[]) (hr:fV k callerA)
  (h0:(recsOf q).find? (fun e=>e.name==x0)=some d0)
  (hY:∀ (w:World) (h:Heap),YP w h->(K w.params).In h)
  (F:∀ (w:World) (mg:Str->Option Value) (fa:Addr) (h:Heap),(K w.params).In h->h.Ns mainGlobals mg->mg d.name=some (.ref fa) ->
   ∃ (fd:FuncData) (c P:Addr),(∀ (s:Shared) (u:Value),BindsTo s fd ⟨[u],[]⟩ [(x,u)])/\PySem.W.tabIn (K w.params) x0=some (c,P)/\PySem.W.codeHdIn (K w.params) c P=true/\(K w.params).lookup P=none ∧
    ∀ base:Heap,(K w.params).In base->base.Ns mainGlobals mg->PySem.W.CodeHd base c P->base.BuiltinsAt mg P->aY l.prog w (K w.params) mg base (CX w) k fa fd [x] (sp w P))
  (hsp:∀ (w:World) (H:Hp) (a P:Addr) (ns:List Int),ns.length<=n->H P=some (.tbl #[])->bK (K w.params) H a (ns.map V.int)->sp w P [.ref a] H (fun v _=>v=.bl true) fun _ _ _=>False)
  (hCX:∀ (w:World) (H:Hp) (s:Shared) (e:Value) (s':Shared),CX w [] H s (fun _ _ _=>False) e s'->False) :
  PySem.W.WalkO q loose XP YP l.row.toRowW d [] (fun f vs=>PySem.call f vs):=by
 refine Att.Er hn hdf fun w s₀ s₁ mg mb fa o pm cd doc a vs ns G Y ho hd hcd hmg hobj hints hlen hg=>?_;have KX:=hY w _ Y;obtain ⟨fd,c,P,hb,ht,hcd,hkp,hF⟩:=F w mg fa _ KX G.T.g hmg;obtain ⟨hC,hP⟩:=PySem.W.tab_of G.T KX h0 ht;exact Ju KX G.T.g G.T.b G.T.builtins G.T.nolimit hg hobj hints (aLv hlen hn2) hr hP hC G.T.bmain hkp (fun h X=>PySem.W.codeHd_of_K X hcd) hF hb (fun H hO hS=>hsp w H a P ns hlen hO hS) fun H e s'=>hCX w H s₁ e s'
theorem zG {X:Cx}(hc:X.calm=true):eY X (.builtin "max") (fun xs H Q=>∃ (a:Addr) (ns:List Int),xs=[.ref a]/\bK X.K H a (ns.map V.int)/\ns≠[]/\∀ M,M∈ns->(∀ n∈ns,n<=M)->Q (.int M) H):=by
 intro pins s σ H xs us Q I r h;obtain ⟨a,ns,rfl,hS,hne,q⟩:=h;obtain ⟨u,rfl,ru⟩:=vals1 r;cases (show u=Value.ref a from ru);obtain ⟨its,rv,p,hz⟩:=I.list hS;have hi:=intsAre_of rv;obtain ⟨zs,e⟩:=(IntsAre.allInts hi).items;have hl:=p.isList;rw [e] at hl;have hns:ns=zs.toList.map (·.1):=by
  have n1:=nums_intItems (xs:=zs);rw [<- e,show its.toArray.toList=its from rfl,IntsAre.numsOf hi] at n1;exact n1
 have hsz:0<zs.size:=by
  rcases aNt zs.size with z | z
  ·exfalso;apply hne;rw [hns];have:zs = #[]:=Array.eq_empty_of_size_eq_zero z;rw [this]
   rfl
  ·exact z
 refine max_intList (I.ok.hd hc) hl hsz fun v h' tk hv hk=>?_;obtain ⟨t,rfl⟩:=intItems_at hv;obtain ⟨h1,h2⟩:=argBest_gt (numAt zs) (zs.size-1);refine ⟨.int _,H,I.kept hk,⟨t,rfl⟩,q _ ?_ fun n hn=>?_⟩
 ·rw [hns,numAt_eq]; exact getD_mem (by rw [aLo,aL5]; omega)
 ·rw [hns] at hn;obtain ⟨j,hj,rfl⟩:=mem_getD hn;rw [aLo,aL5] at hj;rw [<- numAt_eq]; exact h2 j (by omega)
theorem Rk {P:Program}{w:World}{H:Hp}{h:Heap}{a:Addr}{kvs:List (List Key×V)}(ok:cJ P w H h a (.dT kvs)) :
  (a==sysModules)=false/\∃ o,h.get? a=some o/\o.ExactDict/\∃ es ep,o.data=.dict es ep/\es.size=kvs.length/\∀ (i:Nat) k v,kvs[i]? = some (k,v)->∃ q ent,es[i]? = some ent/\ent.key=.ref q/\H q=some (.tup (k.map kV)):=by
 obtain ⟨z,y,xs,r,ob,es,ep,e2,ex,hd,he,nd⟩:=ok;have hl:kvs.length=xs.length:=Paired.length r;refine ⟨y,ob,e2,ex,es,ep,hd,?_,fun i k v hk=>?_⟩
 ·rw [<- aL5,he,aLo,hl]
 ·have get:∀ {l1:List (List Key×V)}{l2:List (List Key×Addr×Value)}{i:Nat}{k:List Key}{v:V},Paired (fun (p:List Key×V) (q:List Key×Addr×Value)=>p.1=q.1/\H q.2.1=some (.tup (p.1.map kV))/\RelV p.2 q.2.2) l1 l2->l1[i]? = some (k,v) ->
    ∃ q:List Key×Addr×Value,l2[i]? = some q/\H q.2.1=some (.tup (k.map kV)):=by
   intro l1 l2 i k v r
   induction r generalizing i with
   | nil=>intro z; simp at z
   | cons h t ih =>
    intro z;cases i with
    | zero=>simp at z; subst z; exact ⟨_,rfl,h.2.1⟩
    | succ j=>exact ih (by simpa using z)
  obtain ⟨q,hq,ht⟩:=get r hk;refine ⟨q.2.1,entryOfKey (tupleKind (dZ P w)) q,?_,rfl,ht⟩;rw [<- aMT,he,aLH,hq]
  rfl
theorem JX {P:Program}{w:World}{A:Around}(hh:A.handled=none)(it d:Addr)(hne:it≠d)(o:Obj)(es:Array DictEntry)(ep:Nat)(hd:o.data=.dict es ep) :
  Walks P w A it [it,d] [it] es.size (fun i v=>∃ ent,es[i]? = some ent/\ent.key=v) (fun i h=>h.IsKeyIter it d i es.size ep/\h.get? d=some o) where
 sub:=fun b hb=>by rw [aLy.mp hb]; exact .head _
 frame:=fun i h h' st k=>⟨st.1.at fun o e=>k it (.head _) o e,k d (.tail _ (.head _)) _ st.2⟩
 item:=fun i s Q E hi st hQ=>by
  refine zU st.1 st.2 hd (aMz hi) fun h' st' sb=>?_;exact hQ _ h' s.toks ⟨_,aMz hi,rfl⟩ ⟨st',(sb.2 d (Ne.symm hne)).trans st.2⟩ fun b o hb e=>(sb.2 b (fun z=>hb (by rw [z]; exact .head _))).trans e
 done:=fun s Q E st hQ=>by
  refine FT hh st.1 st.2 hd (aLu _) fun h' eb=>?_;exact hQ h' s.toks fun b o hb e=>eb b o (fun z=>hb (by rw [z]; exact .head _)) e
 self:=fun i s Q E st hQ=>wpAny_pyIter_keyiter st.1 hQ
theorem NT {P:Program}{w:World}(d:Addr)(lo:(d==sysModules)=false)(o:Obj)(ex:o.ExactDict)(es:Array DictEntry)(ep:Nat)(hd:o.data=.dict es ep) :
  PySem.W.KdlSrc P w "dict" d d es.size (fun i v=>∃ ent,es[i]? = some ent/\ent.key=v) (fun h=>h.get? d=some o) where
 type:=fun s e=>⟨o,e,ex.1⟩
 there:=fun h e=>⟨aLC e,aLC e⟩
 keep:=fun h h' e k=>k d (.inl rfl) o e
 notList:=by decide
 notTuple:=by decide
 hint:=fun A E s Q e hq=>PySem.W.kdl_hint_dict ⟨o,e,ex.1⟩ hq
 iter:=fun A s hh e=>⟨_,_,(fun E Q hq=>yK lo e ex hd hq),JX hh _ d (aMA (aLC e)) o es ep hd,⟨⟨_,aLJ _ rfl,rfl,rfl⟩,aLt _ e⟩⟩
theorem vO {X:Cx}(hc:X.calm=true):eY X (.type "list") (fun xs H Q=>∃ (d:Addr) (kvs:List (List Key×V)),xs=[.ref d]/\(H d=some (.dT kvs)∨∃ o,H d=some (.frz o (.dT kvs))) ∧
  ∀ (l:Addr) (qs:List Addr),H l=none->qs.length=kvs.length->(∀ (i:Nat) k v,kvs[i]? = some (k,v)->∃ q,qs[i]? = some q/\H q=some (.tup (k.map kV)))->Q (.ref l) (aX H l (.lst (qs.map V.ref)))):=by
 intro pins s σ H xs us Q I r h;obtain ⟨d,kvs,rfl,hD,q⟩:=h;obtain ⟨u,rfl,ru⟩:=vals1 r;cases (show u=Value.ref d from ru);have ok:cJ X.prog X.w H s.heap d (.dT kvs):=by
  rcases hD with e | ⟨o,e⟩
  ·exact I.hok d _ e
  ·exact (I.hok d _ e).2
 have hz:kvs.length<=sizeLine:=ok.1;obtain ⟨lo,o,e,ex,es,ep,hd,hsz,get⟩:=Rk ok;refine PySem.W.kdl_call (NT d lo o ex es ep hd) (I.ok.hd hc) e (by rw [hsz]; exact hz) fun h' tk acc c hk hl hacc=>?_;have key:∀ (i:Nat),i<kvs.length->∃ q,acc.toList[i]? = some (Value.ref q)/\∀ k v,kvs[i]? = some (k,v)->H q=some (.tup (k.map kV)):=fun i hi=>by
  have hia:i<acc.size:=by rw [hacc.1,hsz]; exact hi
  obtain ⟨ent,e1,e2⟩:=hacc.2 i _ (aMz hia);obtain ⟨q,ent',e3,e4,e5⟩:=get i _ _ (aLs hi);rw [e1] at e3;cases e3;refine ⟨q,?_,fun k v ek=>?_⟩
  ·rw [aMT,aMz hia,<- e2,e4]
  ·rw [aLs hi] at ek;have ek:=aMq.inj ek;have:kvs[i].1=k:=by rw [ek]
   rw [<- this];exact e5
 have hla:acc.toList.length=kvs.length:=by rw [aL5,hacc.1,hsz]
 have eacc:acc.toList=(acc.toList.map RN).map Value.ref:=by
  refine List.ext_getElem? fun i=>?_;rw [aLH,aLH]
  by_cases hi:i<kvs.length
  ·obtain ⟨q,e1,_⟩:=key i hi;rw [e1]
   rfl
  ·rw [aNR (by omega)]
   rfl
 refine ⟨.ref s.heap.objs.size,_,I.laid (t':=tk) hk (aLu _) (show cJ X.prog X.w _ h' _ (.lst ((acc.toList.map RN).map V.ref)) from ⟨?_,acc.toList,c,?_,?_⟩),rfl,q _ (acc.toList.map RN) (I.hok.fresh (aLu _)) (by rw [aLo,hla]) fun i k v ek=>?_⟩
 ·rw [aLo,aLo,hla]; exact hz
 ·have z:=rW (acc.toList.map RN);rw [<- eacc] at z;exact z
 ·rw [aNm]; exact hl
 ·have hi:=(aLE.mp ek).1;obtain ⟨q2,e1,e2⟩:=key i hi;exact ⟨q2,by rw [aLH,e1]; rfl,e2 k v ek⟩
end L2
namespace Fr
theorem Ck (a b:Int):aL4 b (a.fmod b)=aL4 a b:=by
 rw [aN8,Int.gcd_sub_mul_left_right,Int.gcd_comm]
theorem yU {a b:Int}(hb:b≠0):(a.fmod b).natAbs<b.natAbs:=by
 rcases aN5 hb with h | h
 ·have e:a.fmod b = -((-a).fmod (-b)):=by
   rw [aN8,aN8,Int.neg_fdiv_neg,Int.neg_mul];omega
  have h1:=aNe (-a) (show (0:Int) < -b by omega);have h2:=aN6 (-a) (show (0:Int) < -b by omega);omega
 ·have h1:=aNe a h;have h2:=aN6 a h;omega
def dv (t b:Int):Int:=if b<0 then -(aL4 t b:Int) else (aL4 t b:Int)
def sh (t b:Int):Int×Int:=(t.fdiv (dv t b),b.fdiv (dv t b))
structure fZ (t b:Int):Prop where
 pos:0<b
 red:aL4 t b=1
theorem nH (t b:Int):(dv t b).natAbs=aL4 t b:=by unfold dv; split <;> omega
theorem Mu {t b:Int}(hb:b≠0):dv t b≠0:=by
 have:=aMg t hb;have e:=nH t b;omega
theorem Do (t b:Int):dv t b∣t:=by
 have h:=aNG t b;unfold dv
 split
 ·exact Int.neg_dvd.mpr h
 ·exact h
theorem Ax (t b:Int):dv t b∣b:=by
 have h:=aNA t b;unfold dv
 split
 ·exact Int.neg_dvd.mpr h
 ·exact h
theorem GJ (t b:Int):(sh t b).1*dv t b=t:=aN1 (Do t b)
theorem Ao (t b:Int):(sh t b).2*dv t b=b:=aN1 (Ax t b)
theorem lJ (t b:Int):(sh t b).1*b=t*(sh t b).2:=by
 have h1:=GJ t b;have h2:=Ao t b;generalize (sh t b).1=x at *;generalize (sh t b).2=y at *;generalize dv t b=d at *;rw [<- h1,<- h2];rw [Int.mul_assoc x d y,aNf d y]
theorem wI {t b:Int}(hb:b≠0):0<(sh t b).2:=by
 have h2:=Ao t b;have g:=aMg t hb;rcases aN5 hb with h | h
 ·have e:dv t b<0:=by unfold dv; rw [if_pos h]; omega
  rcases (by omega:0<(sh t b).2∨(sh t b).2<=0) with q | q
  ·exact q
  ·have:=Int.mul_nonneg_of_nonpos_of_nonpos q (aLA e);omega
 ·have e:0<dv t b:=by unfold dv; rw [if_neg (by omega)]; omega
  rcases (by omega:0<(sh t b).2∨(sh t b).2<=0) with q | q
  ·exact q
  ·have:=aM7 q (aLA e);omega
theorem Gk {t b:Int}(hb:b≠0):aL4 (sh t b).1 (sh t b).2=1:=by
 have h:=Int.gcd_mul_right (sh t b).1 (dv t b) (sh t b).2;rw [GJ,Ao,nH] at h;have g:=aMg t hb;have:1*aL4 t b=aL4 (sh t b).1 (sh t b).2*aL4 t b:=by omega
 exact (Nat.eq_of_mul_eq_mul_right g this).symm
theorem Kd {t b:Int}(hb:b≠0):fZ (sh t b).1 (sh t b).2:=⟨wI hb,Gk hb⟩
theorem cop {a b d:Int}(g:aL4 a b=1)(h:b∣a*d):b∣d:=by
 have h1:=aNS.mpr h;rw [Int.natAbs_mul] at h1;have h2:Nat.Coprime b.natAbs a.natAbs:=by
  show Nat.gcd b.natAbs a.natAbs=1;rw [Nat.gcd_comm];exact g
 exact aNS.mp (h2.dvd_of_dvd_mul_left h1)
theorem unique {a b c d:Int}(p:fZ a b)(q:fZ c d)(e:a*d=c*b):a=c/\b=d:=by
 have pp:=p.pos;have qp:=q.pos;have h1:b∣d:=by
  have:b∣a*d:=⟨c,by rw [e,aNf]⟩
  exact cop p.red this
 have h2:d∣b:=by
  have:d∣c*b:=⟨a,by rw [<- e,aNf]⟩
  exact cop q.red this
 have hbd:b=d:=Int.dvd_antisymm (aLA pp) (aLA qp) h1 h2;subst hbd;exact ⟨aMZ (by omega) e,rfl⟩
end Fr
namespace Tb
structure Rw where
 t:Int
 b:Int
 w:Int
def T (B:Int)(r:Rw):Int:=r.t*(B/r.b)
def mx (x:Int):Int:=if 0<x then x else 0
def S (B l0 l1:Int)(rs:List Rw):Int:=(rs.map fun r=>r.w*mx (T B r*l1-l0*B)).sum
def WT (B:Int)(rs:List Rw):Int:=(rs.map fun r=>r.w*T B r).sum
def W (rs:List Rw):Int:=(rs.map (·.w)).sum
structure CM (B:Int)(rs:List Rw):Prop where
 pos:0<B
 dv:∀ r∈rs,0<r.b/\r.b∣B
theorem gW (r:Rw)(rs:List Rw):W (r::rs)=r.w+W rs:=by simp [W]
theorem uN (B:Int)(r:Rw)(rs:List Rw):WT B (r::rs)=r.w*T B r+WT B rs:=by simp [WT]
theorem wD (B l0 l1:Int)(r:Rw)(rs:List Rw):S B l0 l1 (r::rs)=r.w*mx (T B r*l1-l0*B)+S B l0 l1 rs:=by simp [S]
theorem Df (B l0 l1:Int)(xs ys:List Rw):S B l0 l1 (xs++ys)=S B l0 l1 xs+S B l0 l1 ys:=by simp [S]
theorem Ds (xs ys:List Rw):W (xs++ys)=W xs+W ys:=by simp [W]
theorem cof {B b:Int}(hb:0<b)(hB:0<B)(h:b∣B):∃ c,0<c/\B=b*c/\B/b=c:=by
 obtain ⟨c,e⟩:=h;have hc:0<c:=by
  rcases (by omega:0<c∨c<=0) with z | z
  ·exact z
  ·have:=aMb (aLA hb) z;omega
 refine ⟨c,hc,e,?_⟩;rw [e,aNf,Int.mul_ediv_cancel _ (by omega)]
theorem Kv {B:Int}{r:Rw}(hb:0<r.b)(hB:0<B)(h:r.b∣B):T B r*r.b=r.t*B:=by
 obtain ⟨c,hc,e,q⟩:=cof hb hB h;unfold T;rw [q,e]
 grind
theorem Di {c x:Int}(hc:0<c):0<c*x↔0<x:=by
 constructor
 ·intro h;rcases (by omega:0<x∨x<=0) with z | z
  ·exact z
  ·have:=aMb (aLA hc) z;omega
 ·intro h;exact aLY hc h
theorem KD {B l0 l1:Int}{r:Rw}(hb:0<r.b)(hB:0<B)(h:r.b∣B):0<T B r*l1-l0*B↔l0*r.b<r.t*l1:=by
 obtain ⟨c,hc,e,q⟩:=cof hb hB h;have e2:T B r*l1-l0*B=c*(r.t*l1-l0*r.b):=by
  unfold T;rw [q,e]
  grind
 rw [e2,Di hc];omega
theorem Xr (x:Int):0<=mx x:=by unfold mx; split <;> omega
theorem aBu (x:Int):x<=mx x:=by unfold mx; split <;> omega
theorem aBN {B l0 l1 ws tops:Int}(hw:0<ws)(hl:0<l1)(hc:l0*(ws*B)=tops*l1):∀ {hi:List Rw},(∀ r∈hi,tops<=T B r*ws)->ws*S B l0 l1 hi=l1*(ws*WT B hi-tops*W hi)
 | [],_=>by simp [S,WT,W]
 | r::hi,h=>by
  have ih:=aBN hw hl hc (fun x hx=>h x (aLp _ hx));have hr:=h r aLq;have e:ws*(T B r*l1-l0*B)=l1*(T B r*ws-tops):=by grind
  have m:mx (T B r*l1-l0*B)=T B r*l1-l0*B:=by
   unfold mx
   split
   ·rfl
   ·rename_i n;have h1:0<=l1*(T B r*ws-tops):=aMm (aLA hl) (by omega);rw [<- e] at h1;rcases (by omega:T B r*l1-l0*B=0∨T B r*l1-l0*B<0) with z | z
    ·omega
    ·have:=Int.mul_neg_of_pos_of_neg hw z;omega
  rw [wD,uN,gW,m];have a1:ws*(r.w*(T B r*l1-l0*B)+S B l0 l1 hi)=r.w*(ws*(T B r*l1-l0*B))+ws*S B l0 l1 hi:=by grind
  rw [a1,e,ih]
  grind
theorem YG {B l0 l1 ws tops:Int}(hw:0<ws)(hl:0<l1)(hc:l0*(ws*B)=tops*l1):∀ {lo:List Rw},(∀ r∈lo,T B r*ws<=tops)->S B l0 l1 lo=0
 | [],_=>by simp [S]
 | r::lo,h=>by
  have ih:=YG hw hl hc (fun x hx=>h x (aLp _ hx));have hr:=h r aLq;have e:ws*(T B r*l1-l0*B)=l1*(T B r*ws-tops):=by grind
  have m:mx (T B r*l1-l0*B)=0:=by
   unfold mx
   split
   ·rename_i n;have h1:=aLY hw n;have h2:l1*(T B r*ws-tops)<=0:=aMb (aLA hl) (by omega);omega
   ·rfl
  rw [wD,m,ih];simp
theorem JV {B l0 l1 ws tops P:Int}{lo hi:List Rw}(hw:0<ws)(hl:0<l1)(hc:l0*(ws*B)=tops*l1)(ew:ws=W hi)(et:tops=WT B hi-P)(h1:∀ r∈hi,tops<=T B r*ws)(h2:∀ r∈lo,T B r*ws<=tops) :
  S B l0 l1 (lo++hi)=P*l1:=by
 have a:=aBN hw hl hc h1;have b:=YG hw hl hc h2;rw [Df,b,aM1];have:ws*S B l0 l1 hi=ws*(P*l1):=by rw [a,<- ew]; grind
 exact aNw (by omega) this
theorem Wx (B m0 m1:Int):∀ {hi:List Rw},(∀ r∈hi,0<=r.w)->m1*WT B hi-m0*B*W hi<=S B m0 m1 hi
 | [],_=>by simp [S,WT,W]
 | r::hi,h=>by
  have ih:=Wx B m0 m1 (fun x hx=>h x (aLp _ hx));have hr:=h r aLq;have g:=aLz (aBu (T B r*m1-m0*B)) hr;rw [wD,uN,gW];have e:m1*(r.w*T B r+WT B hi)-m0*B*(r.w+W hi)=r.w*(T B r*m1-m0*B)+(m1*WT B hi-m0*B*W hi):=by grind
  rw [e];omega
theorem aBp (B m0 m1:Int):∀ {lo:List Rw},(∀ r∈lo,0<=r.w)->0<=S B m0 m1 lo
 | [],_=>by simp [S]
 | r::lo,h=>by
  have ih:=aBp B m0 m1 (fun x hx=>h x (aLp _ hx));have g:=aMm (h r aLq) (Xr (T B r*m1-m0*B));rw [wD];omega
theorem GZ {B l0 l1 m0 m1 ws tops P:Int}{lo hi:List Rw}(hB:0<B)(hw:0<ws)(hl:0<l1)(hc:l0*(ws*B)=tops*l1)(ew:ws=W hi)(et:tops=WT B hi-P)
  (hp:∀ r∈lo++hi,0<=r.w) (lt:m0*l1<l0*m1):P*m1<S B m0 m1 (lo++hi):=by
 have a:=Wx B m0 m1 (hi:=hi) (fun r hr=>hp r (aLL _ hr));have b:=aBp B m0 m1 (lo:=lo) (fun r hr=>hp r (aL9 _ hr));rw [Df];have q:=Int.mul_lt_mul_of_pos_left lt (aLY hw hB);have e1:ws*B*(m0*l1)=l1*(m0*B*ws):=by grind
 have e2:ws*B*(l0*m1)=l1*(m1*tops):=by grind
 rw [e1,e2] at q;have q2:m0*B*ws<m1*tops:=Int.lt_of_mul_lt_mul_left q (aLA hl);have e3:m1*WT B hi-m0*B*W hi=m1*tops+P*m1-m0*B*ws:=by rw [<- ew]; grind
 omega
def Le (x y:Rw):Prop:=x.t*y.b<=y.t*x.b
theorem Sx {B:Int}{x y:Rw}(hB:0<B)(hx:0<x.b)(hy:0<y.b)(dx:x.b∣B)(dy:y.b∣B)(h:Le x y):T B x<=T B y:=by
 have e1:=Kv hx hB dx;have e2:=Kv hy hB dy;have g:=aLz h (aLA hB);have k:(x.b*y.b)*T B x<=(x.b*y.b)*T B y:=by
  have a1:(x.b*y.b)*T B x=B*(x.t*y.b):=by grind
  have a2:(x.b*y.b)*T B y=B*(y.t*x.b):=by grind
  rw [a1,a2];exact g
 exact aNx k (aLY hx hy)
structure Lp (B P:Int)(rs:List Rw)(i:Nat)(tops ws:Int):Prop where
 le:i<=rs.length
 ew:ws=W (rs.drop (rs.length-i))
 et:tops=WT B (rs.drop (rs.length-i))-P
 hi:0<i->∀ r∈rs.drop (rs.length-i),tops<=T B r*ws
 z:P=0->i<=1
theorem Lp.start {B P:Int}{rs:List Rw}(e:0<=P):Lp B P rs 0 (-P) 0:=by
 refine ⟨aLQ _,?_,?_,fun h=>absurd h (by omega),fun _=>by omega⟩
 ·simp [W]
 ·simp [WT]
structure Tab (B:Int)(rs:List Rw):Prop where
 cm:CM B rs
 w:∀ r∈rs,1<=r.w
 so:rs.Pairwise Le
theorem M6:∀ {rs:List Rw},(∀ r∈rs,1<=r.w)->rs≠[]->0<W rs
 | [],_,h=>absurd rfl h
 | [r],h,_=>by
  have:=h r aLq;simp [W];omega
 | r::s::rs,h,_=>by
  have:=h r aLq;have q:=M6 (rs:=s::rs) (fun x hx=>h x (aLp _ hx)) (by simp);rw [gW];omega
theorem zJ {rs:List Rw}{i:Nat}(h:i<rs.length):∃ r,rs[rs.length-1-i]? = some r/\rs.drop (rs.length-(i+1))=r::rs.drop (rs.length-i)/\r∈rs:=by
 have hk:rs.length-1-i<rs.length:=by omega
 refine ⟨rs[rs.length-1-i],aLs hk,?_,aMc hk⟩;have e1:rs.length-(i+1)=rs.length-1-i:=by omega
 have e2:rs.length-i=rs.length-1-i+1:=by omega
 rw [e1,e2];exact aNy hk
theorem Tab.mono {B:Int}{rs:List Rw}(tb:Tab B rs){x y:Rw}(hx:x∈rs)(hy:y∈rs)(h:Le x y):T B x<=T B y :=
 Sx tb.cm.pos (tb.cm.dv x hx).1 (tb.cm.dv y hy).1 (tb.cm.dv x hx).2 (tb.cm.dv y hy).2 h
theorem Lp.ws_pos {B P tops ws:Int}{rs:List Rw}{i:Nat}(tb:Tab B rs)(l:Lp B P rs i tops ws)(h:0<i):0<ws:=by
 rw [l.ew];have:=l.le;refine M6 (fun r hr=>tb.w r (aM0 hr)) ?_;intro e;have:=congrArg aMJ e;simp at this;omega
theorem Lp.next {B P tops ws:Int}{rs:List Rw}{i:Nat}{r:Rw}(tb:Tab B rs)(hP:0<=P)(l:Lp B P rs i tops ws)(hi:i<rs.length)(hr:rs[rs.length-1-i]? = some r)(go:¬ (0<ws/\T B r*ws<=tops)) :
  Lp B P rs (i+1) (tops+r.w*T B r) (ws+r.w):=by
 obtain ⟨r',e1,e2,hm⟩:=zJ hi;rw [hr] at e1;cases e1;have hw:=tb.w r hm;have last:tops<=T B r*ws:=by
  by_cases h0:0<i
  ·have:=l.ws_pos tb h0;omega
  ·have z:i=0:=by omega
   subst z;have a:=l.ew;have b:=l.et;simp [W] at a;simp [WT] at b;rw [a,b];omega
 have mine:tops+r.w*T B r<=T B r*(ws+r.w):=by
  have:T B r*(ws+r.w)=T B r*ws+r.w*T B r:=by grind
  omega
 have wp:0<ws+r.w:=by
  by_cases h0:0<i
  ·have:=l.ws_pos tb h0;omega
  ·have z:i=0:=by omega
   subst z;have a:=l.ew;simp [W] at a;omega
 refine ⟨hi,?_,?_,fun _ x hx=>?_,fun p0=>?_⟩
 ·rw [e2,gW,<- l.ew]; omega
 ·rw [e2,uN,l.et]; omega
 ·rw [e2] at hx;rcases aLF.mp hx with z | z
  ·subst z; exact mine
  ·have pw:(r::rs.drop (rs.length-i)).Pairwise Le:=by
    rw [<- e2];exact tb.so.sublist (aN9 _ _)
   have le:=(aML.mp pw).1 x z;have tm:=tb.mono hm (aM0 z) le;have:=aLD tm (aLA wp);omega
 ·have k:=l.z p0;rcases (by omega:i=0∨i=1) with z | z
  ·omega
  ·exfalso;subst z;apply go;have wp1:=l.ws_pos tb (by decide);refine ⟨wp1,?_⟩;obtain ⟨r2,f1,f2,fm⟩:=zJ (rs:=rs) (i:=0) (by omega);have f3:rs.drop (rs.length-1)=[r2]:=by
    have:rs.drop (rs.length-0)=[]:=by simp
    rw [f2,this]
   have a:=l.ew;have b:=l.et;rw [f3] at a b;simp [W] at a;simp [WT] at b;have pw:(r::rs.drop (rs.length-1)).Pairwise Le:=by
    rw [<- e2];exact tb.so.sublist (aN9 _ _)
   have le:=(aML.mp pw).1 r2 (by rw [f3]; exact aLq);have tm:=tb.mono hm fm le;have:=aLD tm (aLA wp1);rw [b,a] at *;have e:T B r2*r2.w=r2.w*T B r2:=aNf _ _;omega
structure Lv (B P l0 l1:Int)(rs:List Rw):Prop where
 pos:0<l1
 has:S B l0 l1 rs=P*l1
 more:∀ m0 m1:Int,m0*l1<l0*m1->P*m1<S B m0 m1 rs
theorem Lp.ends {B P tops ws l0 l1:Int}{rs:List Rw}{i:Nat}(tb:Tab B rs)(l:Lp B P rs i tops ws)(h0:0<i)(stop:i=rs.length∨∃ r,rs[rs.length-1-i]? = some r/\i<rs.length/\T B r*ws<=tops)
  (hl:0<l1) (hc:l0*(ws*B)=tops*l1):Lv B P l0 l1 rs:=by
 have wp:=l.ws_pos tb h0;have e:rs=rs.take (rs.length-i)++rs.drop (rs.length-i):=(aMe _ _).symm;have lo:∀ r∈rs.take (rs.length-i),T B r*ws<=tops:=by
  rcases stop with z | ⟨r,hr,hi,ht⟩
  ·subst z;simp
  ·intro x hx;obtain ⟨j,hj,ex⟩:=aNn.mp hx;rw [aLU] at hj;rw [List.getElem_take] at ex;have hk:rs.length-1-i<rs.length:=by omega
   rw [aLs hk] at hr;have er:=aMq.inj hr;have tm:T B x<=T B r:=by
    by_cases ej:j=rs.length-1-i
    ·subst ej;rw [<- ex,<- er];exact aL2 _
    ·have le:=aM5.mp tb.so j (rs.length-1-i) (by omega) hk (by omega);rw [ex,er] at le;exact tb.mono (by rw [<- ex]; exact aMc _) (by rw [<- er]; exact aMc _) le
   have:=aLD tm (aLA wp);omega
 refine ⟨hl,?_,fun m0 m1 lt=>?_⟩
 ·rw [e];exact JV wp hl hc l.ew l.et (l.hi h0) lo
 ·rw [e];exact GZ tb.cm.pos wp hl hc l.ew l.et (fun r hr=>by rw [<- e] at hr; have:=tb.w r hr; omega) lt
def Wt (ps:List Rw)(t b:Int):Int:=(ps.map fun r=>if r.t=t/\r.b=b then r.w else 0).sum
def j9 (ps:List Rw)(t b:Int):Prop:=∃ p∈ps,p.t=t/\p.b=b
def Lt (x y:Rw):Prop:=x.t*y.b<y.t*x.b
structure tW (ps ys:List Rw):Prop where
 lt:ys.Pairwise Lt
 fr:∀ y∈ys,Fr.fZ y.t y.b
 has:∀ t b,j9 ys t b↔j9 ps t b
 d:∃ d,0<d/\∀ y∈ys,Wt ps y.t y.b=y.w*d
 one:∀ e:Int,(∀ y∈ys,e∣y.w)->e∣1
theorem vC (t b:Int):Wt [] t b=0:=rfl
theorem gZ (r:Rw)(ps:List Rw)(t b:Int):Wt (r::ps) t b=(if r.t=t/\r.b=b then r.w else 0)+Wt ps t b:=by simp [Wt]
theorem rC (ps qs:List Rw)(t b:Int):Wt (ps++qs) t b=Wt ps t b+Wt qs t b:=by simp [Wt]
theorem lN {ps qs:List Rw}{t b:Int}:j9 (ps++qs) t b↔j9 ps t b∨j9 qs t b:=by
 constructor
 ·rintro ⟨p,hp,e⟩;rcases aLO.mp hp with z | z
  ·exact .inl ⟨p,z,e⟩
  ·exact .inr ⟨p,z,e⟩
 ·rintro (⟨p,hp,e⟩ | ⟨p,hp,e⟩)
  ·exact ⟨p,aL9 _ hp,e⟩
  ·exact ⟨p,aLL _ hp,e⟩
theorem iU {r:Rw}{ps:List Rw}{t b:Int}:j9 (r::ps) t b↔(r.t=t/\r.b=b)∨j9 ps t b:=by
 constructor
 ·rintro ⟨p,hp,e⟩;rcases aLF.mp hp with z | z
  ·subst z; exact .inl e
  ·exact .inr ⟨p,z,e⟩
 ·rintro (e | ⟨p,hp,e⟩)
  ·exact ⟨r,aLq,e⟩
  ·exact ⟨p,aLp _ hp,e⟩
theorem nJ {t b:Int}:¬ j9 [] t b:=by rintro ⟨p,hp,_⟩; cases hp
theorem jC:∀ {ps:List Rw}{t b:Int},¬ j9 ps t b->Wt ps t b=0
 | [],_,_,_=>rfl
 | r::ps,t,b,h=>by
  rw [gZ,if_neg fun e=>h (iU.mpr (.inl e)),jC fun e=>h (iU.mpr (.inr e))]
  rfl
theorem JC:∀ {ps:List Rw} (t b:Int),(∀ r∈ps,1<=r.w)->0<=Wt ps t b
 | [],_,_,_=>aL2 0
 | r::ps,t,b,h=>by
  have:=JC t b fun x hx=>h x (aLp _ hx);have hr:=h r aLq;rw [gZ]
  split <;> omega
theorem u0:∀ {ps:List Rw}{t b:Int},(∀ r∈ps,1<=r.w)->j9 ps t b->1<=Wt ps t b
 | [],_,_,_,h=>absurd h nJ
 | r::ps,t,b,h,q=>by
  have hr:=h r aLq;have hn:=JC t b fun x hx=>h x (aLp _ hx);rw [gZ]
  split
  ·omega
  ·rename_i ne;rcases iU.mp q with z | z
   ·exact absurd z ne
   ·have:=u0 (fun x hx=>h x (aLp _ hx)) z;omega
theorem Qu:∀ {ps:List Rw} (t b:Int),(∀ r∈ps,1<=r.w)->Wt ps t b<=W ps
 | [],_,_,_=>aL2 0
 | r::ps,t,b,h=>by
  have hr:=h r aLq;have:=Qu t b fun x hx=>h x (aLp _ hx);rw [gZ,gW]
  split <;> omega
theorem Gd {x y:Rw}(h:Lt x y)(e1:x.t=y.t)(e2:x.b=y.b):False:=by
 unfold Lt at h;rw [e1,e2] at h;omega
theorem Lr {t b u c m:Int}(hb:0<b)(hc:0<c)(bm:b<=m)(cm:c<=m)(lt:t*c<u*b):(t*(m*m)).fdiv b<(u*(m*m)).fdiv c:=by
 have hm:0<m:=by omega
 rw [aMk _ (aLA hb),aMk _ (aLA hc)];have k1:(t*(m*m))/b*b<=t*(m*m):=Int.ediv_mul_le _ (aLT hb);have hbc:b*c<=m*m:=Int.mul_le_mul bm cm (aLA hc) (aLA hm);have h1:(t*c+1)*(m*m)<=u*b*(m*m):=aLD (by omega) (aLA (aLY hm hm))
 suffices h:(t*(m*m))/b+1<=(u*(m*m))/c by omega
 refine (Int.le_ediv_iff_mul_le hc).mpr ?_;have h2:b*(((t*(m*m))/b+1)*c)<=b*(u*(m*m)):=by
  have e1:b*(((t*(m*m))/b+1)*c)=c*((t*(m*m))/b*b)+b*c:=by grind
  have e2:b*(u*(m*m))=u*b*(m*m):=by grind
  have e3:(t*c+1)*(m*m)=c*(t*(m*m))+m*m:=by grind
  have h3:=aLz k1 (aLA hc);omega
 exact aNx h2 hb
def wF (ns:List Int):Int:=ns.foldl (fun d n=>((aL4 d n:Nat):Int)) 0
theorem KY (ns:List Int)(n:Int):wF (ns++[n])=((aL4 (wF ns) n:Nat):Int):=by unfold wF; rw [aMC]; rfl
theorem wU:∀ (ns:List Int) (d:Int),(ns.foldl (fun d n=>((aL4 d n:Nat):Int)) d∣d)/\(∀ n∈ns,ns.foldl (fun d n=>((aL4 d n:Nat):Int)) d∣n)/\∀ e:Int,e∣d->(∀ n∈ns,e∣n)->e∣ns.foldl (fun d n=>((aL4 d n:Nat):Int)) d
 | [],d=>⟨aMu d,(fun _ h=>nomatch h),fun e h _=>h⟩
 | n::ns,d=>by
  obtain ⟨a,b,c⟩:=wU ns ((aL4 d n:Nat):Int);refine ⟨aMS a (aNG d n),fun k hk=>?_,fun e he hn=>c e (Int.dvd_coe_gcd he (hn n aLq)) fun k hk=>hn k (aLp _ hk)⟩;rcases aLF.mp hk with z | z
  ·subst z; exact aMS a (aNA d k)
  ·exact b k z
theorem vK {ns:List Int}{n:Int}(h:n∈ns):wF ns∣n:=(wU ns 0).2.1 n h
theorem Gx {ns:List Int}{e:Int}(h:∀ n∈ns,e∣n):e∣wF ns:=(wU ns 0).2.2 e (Int.dvd_zero e) h
theorem JD:∀ (ns:List Int) (d:Int),0<=d->0<=ns.foldl (fun d n=>((aL4 d n:Nat):Int)) d
 | [],_,h=>h
 | n::ns,d,_=>JD ns _ (aN4 _)
theorem LR {ns:List Int}{n:Int}(h:n∈ns)(hn:1<=n):0<wF ns:=by
 have h0:0<=wF ns:=JD ns 0 (aL2 0);rcases (by omega:0<wF ns∨wF ns=0) with z | z
 ·exact z
 ·have:=vK h;rw [z] at this;have:=Int.zero_dvd.mp this;omega
end Tb
set_option maxHeartbeats 4000000
namespace TD
open PySem L2
open Builtin.Int (intBits)
structure Row where
 p:Addr
 q:Addr
 t:Int
 b:Int
 w:Int
def Row.r (x:Row):Tb.Rw:=⟨x.t,x.b,x.w⟩
def iD (H:Hp)(x:Row):Prop:=H x.p=some (.tup [.ref x.q,.int x.w])/\H x.q=some (.tup [.int x.t,.int x.b])
def refs (xs:List Row):List V:=xs.map fun x=>V.ref x.p
structure TabAt (H:Hp)(a:Addr)(xs:List Row):Prop where
 lst:H a=some (.lst (refs xs))
 rows:∀ x∈xs,iD H x
def bO (xs:List Row):List Tb.Rw:=xs.map Row.r
theorem iD.same {H H':Hp}{x:Row}(s:aR H H')(h:iD H x):iD H' x:=⟨s _ _ h.1,s _ _ h.2⟩
theorem TabAt.same {H H':Hp}{a:Addr}{xs:List Row}(s:aR H H')(h:TabAt H a xs):TabAt H' a xs:=⟨s _ _ h.lst,fun x hx=>(h.rows x hx).same s⟩
theorem refs_length (xs:List Row):(refs xs).length=xs.length:=aLo _
theorem eO (xs:List Row):(bO xs).length=xs.length:=aLo _
theorem jB {xs:List Row}{i:Nat}{v:V}(h:(refs xs)[i]? = some v):∃ x,xs[i]? = some x/\v=.ref x.p:=by
 unfold refs at h;rw [aLH] at h;cases e:xs[i]? with
 | none=>rw [e] at h; cases h
 | some x=>rw [e] at h; cases h; exact ⟨x,rfl,rfl⟩
theorem lD (xs:List Row)(y:Row):refs (xs++[y])=refs xs++[V.ref y.p]:=by unfold refs; rw [aLB]; rfl
theorem jT (xs:List Row)(y:Row):bO (xs++[y])=bO xs++[y.r]:=by unfold bO; rw [aLB]; rfl
theorem Ge (xs ys:List Row):bO (xs++ys)=bO xs++bO ys:=by unfold bO; rw [aLB]
theorem take_snoc {α:Type}{xs:List α}{i:Nat}{x:α}(h:xs[i]? = some x):xs.take (i+1)=xs.take i++[x]:=by
 rw [aMB,h]
 rfl
theorem iD.over {H:Hp}{a:Addr}{xs zs:List V}{x:Row}(h:iD H x)(e:H a=some (.lst xs)):iD (aX H a (.lst zs)) x :=
 ⟨by rw [aO (cI h.1 e fun z=>nomatch z)]; exact h.1,by rw [aO (cI h.2 e fun z=>nomatch z)]; exact h.2⟩
theorem U7:1<=sizeLine:=aLZ (aU (by decide))
theorem qU:2<=sizeLine:=aLZ (aU (by decide))
theorem sz3:3<=sizeLine:=aLZ (aU (by decide))
theorem eE {m n:Nat}{x y:Int}(hx:intBits x<=m)(hy:intBits y<=n)(h:m+n<=134217728):Lb x y:=aLv (Nat.add_le_add hx hy) h
theorem fQ {K:PySem.W.Frag}(T:String):PySem.W.kitOne K (.type T) (.type T)=some true:=by
 unfold PySem.W.kitOne;rw [if_pos (beq_self_eq_true _)]
theorem Aq {K:PySem.W.Frag}:PySem.W.kitOne K (.type "int") (.type "bool")=some false:=by rfl
structure Rs where
 q:Addr
 t:Int
 b:Int
def jN (rs:List Rs):List V:=rs.map fun r=>V.ref r.q
def PQ (x y:Rs):Prop:=x.t*y.b<y.t*x.b
def LeR (x y:Rs):Prop:=x.t*y.b<=y.t*x.b
def jU (r:Rs):List Key:=[.inl r.t,.inl r.b]
def Ja (H:Hp)(r:Rs):Prop:=H r.q=some (.tup [.int r.t,.int r.b])
theorem jA (rs:List Rs):(jN rs).length=rs.length:=aLo _
theorem QW (rs:List Rs):jN rs=(rs.map (·.q)).map V.ref:=by unfold jN; rw [aL1]; rfl
theorem vP {rs:List Rs}{i:Nat}{v:V}(h:(jN rs)[i]? = some v):∃ x,rs[i]? = some x/\v=.ref x.q:=by
 unfold jN at h;rw [aLH] at h;cases e:rs[i]? with
 | none=>rw [e] at h; cases h
 | some x=>rw [e] at h; cases h; exact ⟨x,rfl,rfl⟩
theorem nC {x:Rs}{t b:Int}:jU x=[.inl t,.inl b]↔x.t=t/\x.b=b:=by
 unfold jU;constructor
 ·intro h;injection h with h1 h2
  injection h2 with h2 _
  injection h1 with h1
  injection h2 with h2
  exact ⟨h1,h2⟩
 ·rintro ⟨rfl,rfl⟩; rfl
theorem Zx {x y:Rs}(fx:Fr.fZ x.t x.b)(fy:Fr.fZ y.t y.b)(h:LeR x y)(ne:jU x≠jU y):PQ x y:=by
 unfold LeR at h;unfold PQ;rcases (by omega:x.t*y.b<y.t*x.b∨x.t*y.b=y.t*x.b) with z | z
 ·exact z
 ·obtain ⟨e1,e2⟩:=Fr.unique fx fy z;exact absurd (nC.mpr ⟨e1,e2⟩) ne
structure Dk (ps:List Tb.Rw)(kvs:List (List Key×V)):Prop where
 nd:(kvs.map (·.1)).Nodup
 en:∀ kv∈kvs,∃ t b,kv=([.inl t,.inl b],.int (Tb.Wt ps t b))/\Tb.j9 ps t b
 all:∀ t b,Tb.j9 ps t b->([Sum.inl t,Sum.inl b]:List Key)∈kvs.map (·.1)
theorem Dk.nil:Dk [] []:=⟨aMH,(fun _ h=>nomatch h),fun t b h=>absurd h Tb.nJ⟩
theorem vB {kvs:List (List Key×V)}{k:List Key}{v:V}(h:gF kvs k=some v):(k,v)∈kvs:=by
 unfold gF at h;cases e:kvs.find? fun kv=>decide (kv.1=k) with
 | none=>rw [e] at h; cases h
 | some kv =>
  rw [e] at h;have h1:kv.2=v:=aMq.inj h;have h2:=List.find?_some e;have h3:kv.1=k:=of_decide_eq_true h2;rw [<- h1,<- h3];exact List.mem_of_find?_eq_some e
theorem Bc {t b t' b':Int}(h:([Sum.inl t,Sum.inl b]:List Key)=[.inl t',.inl b']):t=t'/\b=b':=by
 injection h with h1 h2
 injection h2 with h2 _
 injection h1 with h1
 injection h2 with h2
 exact ⟨h1,h2⟩
theorem Dk.val {ps:List Tb.Rw}{kvs:List (List Key×V)}(d:Dk ps kvs){t b:Int}(h:Tb.j9 ps t b):gF kvs [.inl t,.inl b]=some (.int (Tb.Wt ps t b)):=by
 cases e:gF kvs [.inl t,.inl b] with
 | none=>exact absurd (d.all t b h) (NK e)
 | some v =>
  obtain ⟨t',b',e2,_⟩:=d.en _ (vB e);injection e2 with e3 e4
  obtain ⟨rfl,rfl⟩:=Bc e3;rw [e4]
theorem Dk.get {ps:List Tb.Rw}{kvs:List (List Key×V)}(d:Dk ps kvs)(t b:Int):(gF kvs [.inl t,.inl b]).getD (.int 0)=.int (Tb.Wt ps t b):=by
 by_cases h:Tb.j9 ps t b
 ·rw [d.val h]; rfl
 ·cases e:gF kvs [.inl t,.inl b] with
  | none=>rw [Tb.jC h]; rfl
  | some v =>
   obtain ⟨t',b',e2,h2⟩:=d.en _ (vB e);injection e2 with e3 e4
   obtain ⟨rfl,rfl⟩:=Bc e3;exact absurd h2 h
theorem De {kvs:List (List Key×V)}{k:List Key}{v:V}{kv:List Key×V}(h:kv∈putK kvs k v):kv=(k,v)∨(kv∈kvs/\kv.1≠k):=by
 unfold putK at h
 split at h
 ·obtain ⟨x,hx,e⟩:=aLr.mp h
  split at e
  ·rename_i ek
   left
   rw [<- e,ek]
  ·rename_i ek
   right
   rw [<- e];exact ⟨hx,ek⟩
 ·rename_i na;rcases aLO.mp h with z | z
  ·right
   refine ⟨z,fun ek=>na ?_⟩;exact aMh.mpr ⟨kv,z,decide_eq_true ek⟩
  ·exact .inl (by simpa using z)
theorem nA {kvs:List (List Key×V)}{k:List Key}{v:V}:(putK kvs k v).map (·.1)=if (kvs.any fun kv=>decide (kv.1=k))=true then kvs.map (·.1) else kvs.map (·.1)++[k]:=by
 unfold putK
 split
 ·rw [aL1];refine aL6 fun x _=>?_;show (if x.1=k then (x.1,v) else x).1=x.1
  split <;> rfl
 ·rw [aLB]; rfl
theorem Dk.put {ps:List Tb.Rw}{kvs:List (List Key×V)}(d:Dk ps kvs)(x:Tb.Rw):Dk (ps++[x]) (putK kvs [.inl x.t,.inl x.b] (.int (Tb.Wt ps x.t x.b+x.w))):=by
 have hx:∀ t b,Tb.Wt [x] t b=if x.t=t/\x.b=b then x.w else 0:=fun t b=>by rw [Tb.gZ,Tb.vC,aOa]
 refine ⟨?_,fun kv hkv=>?_,fun t b h=>?_⟩
 ·rw [nA]
  split
  ·exact d.nd
  ·rename_i na;refine aNg.mpr ⟨d.nd,aMf.mpr ⟨aLW,aMH⟩,fun y hy z hz=>?_⟩;rw [aLy.mp hz];rintro rfl;obtain ⟨kv,hkv,e⟩:=aLr.mp hy;exact na (aMh.mpr ⟨kv,hkv,decide_eq_true e⟩)
 ·rcases De hkv with z | ⟨z,ne⟩
  ·refine ⟨x.t,x.b,?_,Tb.lN.mpr (.inr ⟨x,aLq,rfl,rfl⟩)⟩;rw [z,Tb.rC,hx,if_pos ⟨rfl,rfl⟩]
  ·obtain ⟨t,b,e,h⟩:=d.en kv z;refine ⟨t,b,?_,Tb.lN.mpr (.inl h)⟩;rw [Tb.rC,hx,if_neg ?_,aOa]
   ·exact e
   ·rintro ⟨rfl,rfl⟩;exact ne (by rw [e])
 ·rw [nA];have key:([Sum.inl t,Sum.inl b]:List Key)∈kvs.map (·.1)∨([Sum.inl t,Sum.inl b]:List Key)=[.inl x.t,.inl x.b]:=by
   rcases Tb.lN.mp h with z | ⟨p,hp,e1,e2⟩
   ·exact .inl (d.all t b z)
   ·right
    rw [aLy.mp hp] at e1 e2;rw [e1,e2]
  split
  ·rename_i ya;rcases key with z | z
   ·exact z
   ·obtain ⟨kv,hkv,e⟩:=aMh.mp ya;rw [z,<- of_decide_eq_true e];exact aLr.mpr ⟨kv,hkv,rfl⟩
  ·rcases key with z | z
   ·exact aL9 _ z
   ·rw [z]; exact aLL _ (.head _)
def wOf (kv:List Key×V):Int:=match kv.2 with | .int w=>w | _=>0
def iZ (kvs:List (List Key×V)):Int:=Tb.wF (kvs.map wOf)
theorem Dk.wOf {ps:List Tb.Rw}{kvs:List (List Key×V)}(d:Dk ps kvs){t b:Int}(h:Tb.j9 ps t b):Tb.Wt ps t b∈kvs.map TD.wOf:=by
 have m:=vB (d.val h);exact aLr.mpr ⟨_,m,rfl⟩
theorem Dk.ne {ps:List Tb.Rw}{kvs:List (List Key×V)}(d:Dk ps kvs)(h:ps≠[]):kvs≠[]:=by
 cases ps with
 | nil=>exact absurd rfl h
 | cons p ps =>
  intro e;have:=d.all p.t p.b (Tb.iU.mpr (.inl ⟨rfl,rfl⟩));rw [e] at this;cases this
theorem Dk.div_pos {ps:List Tb.Rw}{kvs:List (List Key×V)}(d:Dk ps kvs)(h:ps≠[])(hw:∀ p∈ps,1<=p.w):0<iZ kvs:=by
 cases ps with
 | nil=>exact absurd rfl h
 | cons p ps =>
  have hp:Tb.j9 (p::ps) p.t p.b:=Tb.iU.mpr (.inl ⟨rfl,rfl⟩);exact Tb.LR (d.wOf hp) (Tb.u0 hw hp)
theorem QJ {w d:Int}(hd:0<d)(hw:1<=w)(h:d∣w):w=w.fdiv d*d/\1<=w.fdiv d/\w.fdiv d<=w:=by
 obtain ⟨c,e⟩:=h;have ec:w.fdiv d=c:=by
  have h:=aMF (a:=d) c (aLT hd);rw [<- e] at h;exact h
 rw [ec];have cp:0<c:=by
  rcases (by omega:0<c∨c<=0) with z | z
  ·exact z
  ·have:=aMb (aLA hd) z;omega
 have:=aLD (show (1:Int)<=d by omega) (aLA cp);refine ⟨by rw [e,aNf],by omega,by omega⟩
theorem Tc {ps:List Tb.Rw}{kvs:List (List Key×V)}{rs:List Rs}{ys:List Row}(d:Dk ps kvs)(hw:∀ p∈ps,1<=p.w)(hf:∀ p∈ps,Fr.fZ p.t p.b)(hne:ps≠[])(pr:(rs.map jU).Perm (kvs.map (·.1)))(so:rs.Pairwise PQ)
  (ey:ys.map (fun y=>Rs.mk y.q y.t y.b)=rs) (yw:∀ y∈ys,y.w=(Tb.Wt ps y.t y.b).fdiv (iZ kvs)):Tb.tW ps (bO ys)/\∀ y∈ys,1<=y.w/\y.w<=Tb.Wt ps y.t y.b:=by
 have dp:=d.div_pos hne hw;have yk:∀ y∈ys,Tb.j9 ps y.t y.b:=fun y hy=>by
  have h1:jU (Rs.mk y.q y.t y.b)∈rs.map jU:=by
   rw [<- ey];exact aLr.mpr ⟨_,aLr.mpr ⟨y,hy,rfl⟩,rfl⟩
  obtain ⟨kv,hkv,e⟩:=aLr.mp (pr.mem_iff.mp h1);obtain ⟨t,b,e2,h⟩:=d.en kv hkv;rw [e2] at e;obtain ⟨e3,e4⟩:=nC.mp e.symm;have e3:y.t=t:=e3;have e4:y.b=b:=e4;rw [e3,e4];exact h
 have pb:∀ y∈ys,Tb.Wt ps y.t y.b=y.w*iZ kvs/\1<=y.w/\y.w<=Tb.Wt ps y.t y.b:=fun y hy=>by
  rw [yw y hy];exact QJ dp (Tb.u0 hw (yk y hy)) (Tb.vK (d.wOf (yk y hy)))
 have back:∀ t b,Tb.j9 ps t b->∃ y∈ys,y.t=t/\y.b=b:=fun t b h=>by
  obtain ⟨r,hr,e⟩:=aLr.mp (pr.mem_iff.mpr (d.all t b h));rw [<- ey] at hr;obtain ⟨y,hy,rfl⟩:=aLr.mp hr;exact ⟨y,hy,nC.mp e⟩
 refine ⟨⟨?_,fun y hy=>?_,fun t b=>?_,⟨iZ kvs,dp,fun y hy=>?_⟩,fun e he=>?_⟩,fun y hy=>(pb y hy).2⟩
 ·have h:(ys.map fun y=>Rs.mk y.q y.t y.b).Pairwise PQ:=by rw [ey]; exact so
  unfold bO;rw [aMX] at h ⊢;exact h
 ·obtain ⟨z,hz,rfl⟩:=aLr.mp hy;obtain ⟨p,hp,e1,e2⟩:=yk z hz;have:=hf p hp;rw [e1,e2] at this;exact this
 ·constructor
  ·rintro ⟨y,hy,rfl,rfl⟩;obtain ⟨z,hz,rfl⟩:=aLr.mp hy;exact yk z hz
  ·intro h;obtain ⟨y,hy,e1,e2⟩:=back t b h;exact ⟨y.r,aLr.mpr ⟨y,hy,rfl⟩,e1,e2⟩
 ·obtain ⟨z,hz,rfl⟩:=aLr.mp hy;exact (pb z hz).1
 ·have g:e*iZ kvs∣iZ kvs:=by
   refine Tb.Gx fun n hn=>?_;obtain ⟨kv,hkv,rfl⟩:=aLr.mp hn;obtain ⟨t,b,e2,h⟩:=d.en kv hkv;obtain ⟨y,hy,rfl,rfl⟩:=back t b h;have q:=(pb y hy).1;have q2:=he y.r (aLr.mpr ⟨y,hy,rfl⟩);rw [e2];show e*iZ kvs∣Tb.Wt ps y.t y.b;rw [q];exact Int.mul_dvd_mul_right _ q2
  have g2:e*iZ kvs∣1*iZ kvs:=by rw [aMK]; exact g
  exact Int.dvd_of_mul_dvd_mul_right (aLT dp) g2
theorem J4 {α β:Type}{f:α->β}:∀ {x m:List β},x.Perm m->∀ l:List α,x=l.map f->∃ l':List α,l'.Perm l/\m=l'.map f:=by
 intro x m h
 induction h with
 | nil=>intro l e; exact ⟨l,.refl _,e⟩
 | cons a p ih =>
  intro l e;cases l with
  | nil=>cases e
  | cons b l =>
   injection e with e1 e2
   obtain ⟨l',p',e'⟩:=ih l e2;exact ⟨b::l',p'.cons b,by rw [aLw,<- e1,<- e']⟩
 | swap a b t =>
  intro l e
  match l,e with
  | c::d::l,e =>
   injection e with e1 e2
   injection e2 with e2 e3
   exact ⟨d::c::l,.swap ..,by rw [aLw,aLw,<- e1,<- e2,<- e3]⟩
 | trans p q ih1 ih2 =>
  intro l e;obtain ⟨l1,p1,e1⟩:=ih1 l e;obtain ⟨l2,p2,e2⟩:=ih2 l1 e1;exact ⟨l2,p2.trans p1,e2⟩
def O9 (m:Int)(r:Rs):Int:=(r.t*(m*m)).fdiv r.b
theorem Eg {β:Type}(f:Rs->β)(g:Rs->Addr):∀ rs:List Rs,(rs.map f).zip (rs.map g)=rs.map fun r=>(f r,g r)
 | []=>rfl
 | r::rs=>by simp [Eg f g rs]
theorem Pk {m:Int}{rs:List Rs}{ps:List (Int×Addr)}(hp:ps.Perm ((rs.map (O9 m)).zip (rs.map (·.q))))(hs:ps.Pairwise fun p q=>p.1<=q.1)(nd:(rs.map jU).Nodup)(fr:∀ r∈rs,Fr.fZ r.t r.b)(hm:∀ r∈rs,r.b<=m) :
  ∃ rs':List Rs,rs'.Perm rs/\ps.map (fun p=>V.ref p.2)=jN rs'/\rs'.Pairwise PQ:=by
 rw [Eg] at hp;obtain ⟨rs',p',e⟩:=J4 hp.symm rs rfl;refine ⟨rs',p',?_,?_⟩
 ·rw [e,aL1]; rfl
 ·have nd':(rs'.map jU).Nodup:=(p'.map jU).nodup_iff.mpr nd;rw [e,aMX] at hs;have nd2:rs'.Pairwise fun x y=>jU x≠jU y:=aMX.mp nd';refine (hs.and nd2).imp_of_mem fun {x y} hx hy h=>?_;have fx:=fr x (p'.mem_iff.mp hx);have fy:=fr y (p'.mem_iff.mp hy);refine Zx fx fy ?_ h.2;unfold LeR;rcases (by omega:x.t*y.b<=y.t*x.b∨y.t*x.b<x.t*y.b) with z | z
  ·exact z
  ·have:=Tb.Lr fy.pos fx.pos (hm y (p'.mem_iff.mp hy)) (hm x (p'.mem_iff.mp hx)) z;have h1:O9 m x<=O9 m y:=h.1;unfold O9 at h1;omega
def dI (m n:Int):Int:=m*(n.fdiv ((aL4 m n:Nat):Int))
def dH (ns:List Int):Int:=ns.foldl dI 1
theorem Gf {m n:Int}(hm:0<m)(hn:0<n):0<dI m n/\m∣dI m n/\n∣dI m n:=by
 have hg:0<((aL4 m n:Nat):Int):=by have:=aMg m (aLT hn); omega
 obtain ⟨c,hc⟩:=aNA m n;obtain ⟨d,hd⟩:=aNG m n;have e:n.fdiv ((aL4 m n:Nat):Int)=c:=by
  have h:=aMF (a:=((aL4 m n:Nat):Int)) c (by omega);rw [<- hc] at h;exact h
 have cp:0<c:=by
  rcases (by omega:0<c∨c<=0) with z | z
  ·exact z
  ·have:=aMb (aLA hg) z;omega
 unfold dI;rw [e];refine ⟨aLY hm cp,⟨c,rfl⟩,⟨d,?_⟩⟩;generalize ((aL4 m n:Nat):Int)=g at *;rw [hc,hd]
 grind
theorem Ci:∀ (ns:List Int) (m:Int),0<m->(∀ n∈ns,0<n)->0<ns.foldl dI m/\m∣ns.foldl dI m/\∀ n∈ns,n∣ns.foldl dI m
 | [],m,hm,_=>⟨hm,aMu m,fun _ h=>nomatch h⟩
 | n::ns,m,hm,h=>by
  obtain ⟨a,b,c⟩:=Gf hm (h n aLq);obtain ⟨x,y,z⟩:=Ci ns (dI m n) a fun k hk=>h k (aLp _ hk);refine ⟨x,aMS b y,fun k hk=>?_⟩;rcases aLF.mp hk with e | e
  ·subst e; exact aMS c y
  ·exact z k e
theorem pW {ns:List Int}(h:∀ n∈ns,0<n):0<dH ns/\∀ n∈ns,n∣dH ns:=by
 obtain ⟨a,_,c⟩:=Ci ns 1 (by decide) h;exact ⟨a,c⟩
theorem Ew:∀ (ns:List Int) (m:Int) (k:Nat),intBits m<=k->intBits (ns.foldl dI m)<=k+(ns.map intBits).sum
 | [],m,k,h=>by simpa using h
 | n::ns,m,k,h=>by
  have h1:intBits (dI m n)<=k+intBits n:=PySem.intBits_mul_le h (PySem.intBits_fdiv_le (aLu _));have:=Ew ns (dI m n) _ h1;simp only [aLw,aLI];show intBits (ns.foldl dI (dI m n))<=_;omega
theorem yP (ns:List Int):intBits (dH ns)<=1+(ns.map intBits).sum:=Ew ns 1 1 (by decide)
theorem J7 (ns:List Int)(n:Int):dH (ns++[n])=dI (dH ns) n:=by unfold dH; rw [aMC]; rfl
theorem tO (ns:List Int)(i:Nat):((ns.take i).map intBits).sum<=(ns.map intBits).sum:=by
 have e:ns.map intBits=(ns.take i).map intBits++(ns.drop i).map intBits:=by rw [<- aLB,aMe]
 rw [e,aNP];omega
theorem Gu {ns:List Int}{n:Int}(h:n∈ns):intBits n<=(ns.map intBits).sum:=by
 induction ns with
 | nil=>cases h
 | cons m r ih =>
  simp only [aLw,aLI];rcases aLF.mp h with e | e
  ·subst e; omega
  ·have:=ih e; omega
theorem lL {k:Nat}:∀ {l:List Nat},(∀ n∈l,n<=k)->l.sum<=k*l.length
 | [],_=>by simp
 | n::l,h=>by
  have a:=lL (l:=l) fun m hm=>h m (aLp _ hm);have b:=h n aLq;simp only [aLI,aL0];rw [aNW,Nat.mul_one];omega
def Qk:Sp:=fun vs H Q _=>∃ a b:Int,vs=[.int a,.int b]/\Q (.int ((aL4 a b:Nat):Int)) H
def uQ:Sp:=fun vs H Q _=>∃ t b:Int,vs=[.int t,.int b]/\b≠0/\intBits b<=9000/\∀ p H',aR H H'->H' p=some (.tup [.int (Fr.sh t b).1,.int (Fr.sh t b).2])->Q (.ref p) H'
def Ht:Sp:=fun vs H Q _=>∃ t b:Int,vs=[.int t,.int b]/\0<b/\intBits b<=9000/\∀ p H',aR H H'->H' p=some (.tup [.int (Fr.sh t b).1,.int (Fr.sh t b).2])->Q (.ref p) H'
structure Sz (a b c d:Int):Prop where
 a:intBits a<=10000
 b:intBits b<=10000
 c:intBits c<=10000
 d:intBits d<=10000
def JG (K:PySem.W.Frag):Sp:=fun vs H Q _=>∃ p q a b c d,vs=[.ref p,.ref q]/\cY K H p [.int a,.int b]/\cY K H q [.int c,.int d]/\Sz a b c d/\Q (.bl (decide (a*d<c*b))) H
def QM (K:PySem.W.Frag):Sp:=fun vs H Q _=>∃ (a:Addr) (ns:List Int),vs=[.ref a]/\bK K H a (ns.map V.int)/\(∀ n∈ns,0<n)/\(∀ n∈ns,intBits n<=9000)/\(ns.map intBits).sum<=200000/\Q (.int (dH ns)) H
def wsum (xs:List Row):Int:=(xs.map Row.w).sum
def Ot:Sp:=fun vs H Q _=>∃ (a:Addr) (xs:List Row),vs=[.ref a]/\TabAt H a xs/\xs.length<=1000/\∀ H',aR H H'->Q (.int (wsum xs)) H'
def d8:Str:=("rising" : Str)++".<locals>."++"<lambda>"
def Fw (K:PySem.W.Frag)(P:Addr)(lp:Pos):Sp:=fun vs H Q _=>∃ (a:Addr) (rs:List Rs),vs=[.ref a]/\bK K H a (jN rs)/\rs≠[]/\rs.length<64/\(∀ r∈rs,Ja H r/\Fr.fZ r.t r.b/\intBits r.t<=4000/\intBits r.b<=4000)/\(rs.map jU).Nodup/\cA P lp d8 H ∧
 ∀ (D:Addr) (H':Hp) (rs':List Rs),bH P H H'->cA P lp d8 H'->H' D=some (.lst (jN rs'))->rs'.Perm rs->rs'.Pairwise PQ->Q (.ref D) H'
def uZ:Int:=2^4000
def PB (xs:List Row):Prop:=∀ x∈xs,Fr.fZ x.t x.b/\intBits x.t<=4000/\intBits x.b<=4000/\1<=x.w/\x.w<=uZ
structure Out (ps:List Tb.Rw)(ys:List Row):Prop where
 tab:Tb.tW ps (bO ys)
 w:∀ y∈ys,1<=y.w/\y.w<=Tb.Wt ps y.t y.b
def rE (P:Addr)(lp:Pos):Sp:=fun vs H Q _=>∃ (a:Addr) (xs:List Row),vs=[.ref a]/\TabAt H a xs/\xs≠[]/\xs.length<64/\PB xs/\cA P lp d8 H ∧
 ∀ (r:Addr) (H':Hp) (ys:List Row),bH P H H'->cA P lp d8 H'->H r=none->TabAt H' r ys->Out (bO xs) ys->ys.length<=xs.length->Q (.ref r) H'
theorem PB.ps {xs:List Row}(h:PB xs):(∀ p∈bO xs,1<=p.w)/\∀ p∈bO xs,Fr.fZ p.t p.b:=by
 refine ⟨fun p hp=>?_,fun p hp=>?_⟩ <;>
 ·obtain ⟨x,hx,rfl⟩:=aLr.mp hp
  first | exact (h x hx).2.2.2.1 | exact (h x hx).1
theorem jM (xs:List Row):wsum xs=Tb.W (bO xs):=by
 unfold wsum Tb.W bO;rw [aL1]
 rfl
theorem ZW {m:Int}(hm:0<=m):∀ {ps:List Tb.Rw},(∀ p∈ps,1<=p.w/\p.w<=m)->0<=Tb.W ps/\Tb.W ps<=m*(ps.length:Int)
 | [],_=>by simp [Tb.W]
 | p::ps,h=>by
  obtain ⟨a,b⟩:=ZW hm (ps:=ps) fun y hy=>h y (aLp _ hy);obtain ⟨c,d⟩:=h p aLq;have f:m*((p::ps).length:Int)=m+m*(ps.length:Int):=by rw [aL0]; grind
  rw [Tb.gW];omega
theorem Out.key {ps:List Tb.Rw}{ys:List Row}(o:Out ps ys){y:Row}(hy:y∈ys):∃ p∈ps,p.t=y.t/\p.b=y.b:=(o.tab.has y.t y.b).mp ⟨y.r,aLr.mpr ⟨y,hy,rfl⟩,rfl,rfl⟩
theorem Out.ne {ps:List Tb.Rw}{ys:List Row}(o:Out ps ys)(h:ps≠[]):ys≠[]:=by
 rintro rfl;cases ps with
 | nil=>exact h rfl
 | cons p ps=>exact Tb.nJ ((o.tab.has p.t p.b).mpr (Tb.iU.mpr (.inl ⟨rfl,rfl⟩)))
theorem NQ {ps:List Tb.Rw}{kvs:List (List Key×V)}(d:Dk ps kvs)(hne:ps≠[])(hw:∀ p∈ps,1<=p.w/\p.w<=uZ)(hl:ps.length<=1000):intBits (iZ kvs)<=9000:=by
 have dp:=d.div_pos hne fun p hp=>(hw p hp).1;cases ps with
 | nil=>exact absurd rfl hne
 | cons p ps =>
  have hp:Tb.j9 (p::ps) p.t p.b:=Tb.iU.mpr (.inl ⟨rfl,rfl⟩);have w1:=Tb.u0 (fun p hp=>(hw p hp).1) hp;have w2:=Tb.Qu p.t p.b (ps:=p::ps) fun p hp=>(hw p hp).1;have w3:=(ZW (by decide) hw).2;have dv:=aM6 (by omega) (Tb.vK (d.wOf hp));have dv:iZ kvs<=Tb.Wt (p::ps) p.t p.b:=dv;refine PySem.intBits_le_iff.mpr ?_;have e:uZ*(((p::ps).length:Nat):Int)<=uZ*1000:=aLz (by omega) (by decide);have e2:uZ*1000<((2^9000:Nat):Int):=by decide +kernel
  omega
end TD
namespace Sd
structure Fq (t b N k:Int):Prop where
 fr:Fr.fZ t b
 dv:b∣N
 lo:-(k*b)<=t
 hi:t<=k*b
theorem eN {a b c:Int}(h:a<=b)(hc:0<=c):a*c<=b*c:=aLD h hc
theorem Fq.mono {t b N k N' k':Int}(f:Fq t b N k)(h:N∣N')(hk:k<=k'):Fq t b N' k':=by
 have p:=aLA f.fr.pos;have e:=eN hk p;exact ⟨f.fr,aMS f.dv h,by have:=f.lo; omega,by have:=f.hi; omega⟩
theorem Ss {t b u N:Int}(hb:0<b)(e:t*N=u*b):(Fr.sh t b).2∣N:=by
 have hn:b≠0:=aLT hb;have cr:=Fr.lJ t b;refine Fr.cop (a:=(Fr.sh t b).1) (Fr.Gk hn) ⟨u,?_⟩;have h:(Fr.sh t b).1*N*b=(Fr.sh t b).2*u*b:=by
  have h1:(Fr.sh t b).1*N*b=((Fr.sh t b).1*b)*N:=by grind
  have h2:(Fr.sh t b).2*u*b=(Fr.sh t b).2*(u*b):=by grind
  rw [h1,h2,cr,<- e]
  grind
 exact aMZ hn h
theorem Hv {t b u N k:Int}(hb:0<b)(e:t*N=u*b)(lo:-(k*b)<=t)(hi:t<=k*b):Fq (Fr.sh t b).1 (Fr.sh t b).2 N k:=by
 have hn:b≠0:=aLT hb;have cr:=Fr.lJ t b;have yp:=aLA (Fr.wI (t:=t) hn);refine ⟨Fr.Kd hn,Ss hb e,?_,?_⟩
 ·have h:=eN lo yp;rw [<- cr] at h;refine aNu (a:=b) ?_ hb;have:-(k*(Fr.sh t b).2)*b = -(k*b)*(Fr.sh t b).2:=by grind
  rw [this];exact h
 ·have h:=eN hi yp;rw [<- cr] at h;refine aNu (a:=b) ?_ hb;have:k*(Fr.sh t b).2*b=k*b*(Fr.sh t b).2:=by grind
  rw [this];exact h
def pls (x y:Int×Int):Int×Int:=Fr.sh (x.1*y.2+y.1*x.2) (x.2*y.2)
def tms (x y:Int×Int):Int×Int:=Fr.sh (x.1*y.1) (x.2*y.2)
def grt (x y:Int×Int):Int×Int:=if x.1*y.2<y.1*x.2 then y else x
abbrev FQ (x:Int×Int)(N k:Int):Prop:=Fq x.1 x.2 N k
theorem FQ.pls {x y:Int×Int}{N k l:Int}(f:FQ x N k)(g:FQ y N l):FQ (pls x y) N (k+l):=by
 obtain ⟨n1,e1⟩:=f.dv;obtain ⟨n2,e2⟩:=g.dv;have xp:=f.fr.pos;have yp:=g.fr.pos;refine Hv (u:=x.1*n1+y.1*n2) (aLY xp yp) ?_ ?_ ?_
 ·have h1:(x.1*y.2+y.1*x.2)*N=x.1*y.2*N+y.1*x.2*N:=by grind
  rw [h1];have h2:x.1*y.2*N=x.1*y.2*(x.2*n1):=by rw [<- e1]
  have h3:y.1*x.2*N=y.1*x.2*(y.2*n2):=by rw [<- e2]
  rw [h2,h3]
  grind
 ·have h1:=eN f.lo (aLA yp);have h2:=eN g.lo (aLA xp);have h3:-((k+l)*(x.2*y.2)) = -(k*x.2)*y.2 + -(l*y.2)*x.2:=by grind
  rw [h3];omega
 ·have h1:=eN f.hi (aLA yp);have h2:=eN g.hi (aLA xp);have h3:(k+l)*(x.2*y.2)=(k*x.2)*y.2+(l*y.2)*x.2:=by grind
  rw [h3];omega
theorem FQ.tms {x y:Int×Int}{M N k:Int}(f:FQ x M 1)(h0:0<=x.1)(g:FQ y N k)(hk:0<=k):FQ (tms x y) (M*N) k:=by
 obtain ⟨n1,e1⟩:=f.dv;obtain ⟨n2,e2⟩:=g.dv;have xp:=f.fr.pos;have yp:=g.fr.pos;have x1:=f.hi;have kp:0<=k*y.2:=aMm hk (aLA yp);refine Hv (u:=x.1*n1*(y.1*n2)) (aLY xp yp) ?_ ?_ ?_
 ·rw [e1,e2]
  grind
 ·have a:=aLz g.lo h0;have b:=eN x1 kp;have c:x.1 * -(k*y.2) = -(x.1*(k*y.2)):=by grind
  have d:k*(x.2*y.2)=1*x.2*(k*y.2):=by grind
  rw [d];rw [c] at a;omega
 ·have a:=aLz g.hi h0;have b:=eN x1 kp;have d:k*(x.2*y.2)=1*x.2*(k*y.2):=by grind
  rw [d];omega
theorem FQ.grt {x y:Int×Int}{N k:Int}(f:FQ x N k)(g:FQ y N k):FQ (grt x y) N k:=by
 unfold Sd.grt
 split
 ·exact g
 ·exact f
inductive Sd where
 | en (v:Int)
 | st (p:Int) (rs:List (Int×Sd))
inductive Ok:Sd->Nat->Nat->Prop
 | en {v:Int}{d m:Nat} (h0:0<=v) (h9:v<=1000000000) (hm:1<=m):Ok (.en v) d m
 | st {p:Int}{rs:List (Int×Sd)}{d m:Nat}{f:Int×Sd->Nat} (h0:0<=p) (h9:p<=1000000000) (ne:rs≠[]) (l4:rs.length<=4) (w:∀ r∈rs,1<=r.1/\r.1<=1000) (sub:∀ r∈rs,Ok r.2 d (f r)) (hk:(rs.map f).sum<=m):Ok (.st p rs) (d+1) m
def dD (rs:List (Int×Sd)):Int:=(rs.map (·.1)).sum
def dR:List Int->Int
 | []=>1
 | n::ns=>n*dR ns
def Fb (l:Int×Int):Nat->Sd->Int×Int
 | 0,_=>(0,1)
 | _+1,.en v=>grt l (v,1)
 | n+1,.st p rs=>grt l (rs.foldl (fun a r=>pls a (tms (Fr.sh r.1 (dD rs)) (Fb l n r.2))) (-p,1))
def md (L:Int):Nat->Sd->Int
 | 0,_=>1
 | _+1,.en _=>L
 | n+1,.st _ rs=>dD rs*dR (rs.map fun r=>md L n r.2)
theorem jG:∀ {l:List Int},(∀ n∈l,0<n)->0<dR l
 | [],_=>by decide
 | n::l,h=>aLY (h n aLq) (jG fun m hm=>h m (aLp _ hm))
theorem lF:∀ {l:List Int}{n:Int},n∈l->n∣dR l
 | m::l,n,h=>by
  rcases aLF.mp h with e | e
  ·subst e; exact ⟨_,rfl⟩
  ·exact aMS (lF e) ⟨m,by show m*dR l=dR l*m; grind⟩
theorem bU (n:Nat):(0:Int)<2^n:=Int.pow_pos (by decide)
theorem Cm {e:Nat}:∀ {l:List Int},(∀ n∈l,0<n/\n<=2^e)->dR l<=2^(l.length*e)
 | [],_=>by simp [dR]
 | n::l,h=>by
  have ih:=Cm (l:=l) fun m hm=>h m (aLp _ hm);have hn:=h n aLq;have pp:=jG (l:=l) fun m hm=>(h m (aLp _ hm)).1;show n*dR l<=_;rw [aL0,aNM,aOb,aMv];exact aLN (aLD hn.2 (aLA pp)) (aLz ih (aLA (bU e)))
theorem Mr:∀ {rs:List (Int×Sd)},(∀ r∈rs,1<=r.1/\r.1<=1000)->(rs.length:Int)<=dD rs/\dD rs<=1000*(rs.length:Int)
 | [],_=>by decide
 | r::rs,h=>by
  have ih:=Mr (rs:=rs) fun x hx=>h x (aLp _ hx);have hr:=h r aLq;have e:dD (r::rs)=r.1+dD rs:=by unfold dD; rw [aLw,aLI]
  rw [e,aL0]
  push_cast
  omega
theorem dO {a b:Nat}(h:a<=b):(2:Int)^a<=2^b:=by
 obtain ⟨c,rfl⟩:=Nat.exists_eq_add_of_le h;rw [aMv];have h1:(1:Int)<=2^c:=by have:=bU c; omega
 have:=aLz h1 (aLA (bU a));omega
theorem o4 {rs:List (Int×Sd)}(ne:rs≠[])(w:∀ r∈rs,1<=r.1/\r.1<=1000)(l4:rs.length<=4):1<=dD rs/\dD rs<=4000:=by
 have:=Mr w;have:0<rs.length:=aMG.mpr ne;omega
theorem Ok.m1 {s:Sd}{d m:Nat}(ok:Ok s d m):1<=m:=by
 induction ok with
 | en _ _ h=>exact h
 | @st p rs d m k h0 h9 ne l4 w sub hk ih =>
  cases rs with
  | nil=>exact absurd rfl ne
  | cons r rs =>
   have h1:=ih r aLq;rw [aLw,aLI] at hk;omega
theorem Pu {α:Type}{f:α->Nat}{m:Nat}:∀ {l:List α},(l.map f).sum<=m->∀ x∈l,f x<=m
 | y::l,h,x,hx=>by
  rw [aLw,aLI] at h;rcases aLF.mp hx with e | e
  ·subst e; omega
  ·exact Pu (l:=l) (by omega) x e
theorem yZ {α:Type}{g:α->Int}{f:α->Nat}{c:Nat}:∀ {l:List α},(∀ x∈l,0<g x/\g x<=2^(c*f x))->dR (l.map g)<=2^(c*(l.map f).sum)
 | [],_=>by simp [dR]
 | x::l,h=>by
  have ih:=yZ (g:=g) (f:=f) (c:=c) (l:=l) fun y hy=>h y (aLp _ hy);have hn:=h x aLq;have pp:=jG (l:=l.map g) fun m hm=>by obtain ⟨y,hy,rfl⟩:=aLr.mp hm; exact (h y (aLp _ hy)).1
  show g x*dR (l.map g)<=_;rw [aLw,aLI,aNW,aMv];exact aLN (aLD hn.2 (aLA pp)) (aLz ih (aLA (bU _)))
theorem ZS {L:Int}(L0:0<L)(L1:L<=2^10){s:Sd}{d m:Nat}(ok:Ok s d m):∀ n,0<md L n s/\md L n s<=2^((12*d+10)*m):=by
 induction ok with
 | @en v d m h0 h9 hm =>
  intro n;cases n with
  | zero=>exact ⟨(by decide:(0:Int)<1),by have:=bU ((12*d+10)*m); show (1:Int)<=_; omega⟩
  | succ n =>
   refine ⟨L0,aLN L1 (dO ?_)⟩
   calc 10<=12*d+10:=by omega
    _=(12*d+10)*1:=by omega
    _<=(12*d+10)*m:=aL7 _ hm
 | @st p rs d m k h0 h9 ne l4 w sub hk ih =>
  intro n;cases n with
  | zero=>exact ⟨(by decide:(0:Int)<1),by have:=bU ((12*(d+1)+10)*m); show (1:Int)<=_; omega⟩
  | succ n =>
   have W:=o4 ne w l4;have pp:=jG (l:=rs.map fun r=>md L n r.2) fun x hx=>by
    obtain ⟨r,hr,rfl⟩:=aLr.mp hx;exact (ih r hr n).1
   have pl:=yZ (g:=fun r:Int×Sd=>md L n r.2) (f:=k) (c:=12*d+10) (l:=rs) fun r hr=>ih r hr n;have mp:1<=m:=(Ok.st h0 h9 ne l4 w sub hk).m1;refine ⟨aLY (by omega) pp,?_⟩;show dD rs*dR _<=_;have e3:(12*d+10)*(rs.map k).sum<=(12*d+10)*m:=aL7 _ hk;have e4:12+(12*d+10)*m<=(12*(d+1)+10)*m:=by
    have:(12*(d+1)+10)*m=12*m+(12*d+10)*m:=by
     rw [show 12*(d+1)+10=12+(12*d+10) by omega,aOj]
    omega
   have a1:dD rs<=2^12:=by
    have:(2:Int)^12=4096:=by decide
    omega
   calc dD rs*dR (rs.map fun r=>md L n r.2)<=2^12*dR (rs.map fun r=>md L n r.2):=aLD a1 (aLA pp)
    _<=2^12*2^((12*d+10)*(rs.map k).sum):=aLz pl (by decide)
    _=2^(12+(12*d+10)*(rs.map k).sum):=by rw [aMv]
    _<=2^((12*(d+1)+10)*m):=dO (by omega)
def kB:Nat->Int
 | 0=>2147483648
 | d+1=>1000000000+4*kB d
theorem WW (v:Int):Fr.fZ v 1:=⟨by decide,by simp⟩
theorem PP {w W:Int}(h0:1<=w)(h1:w<=W):FQ (Fr.sh w W) W 1/\0<=(Fr.sh w W).1:=by
 have Wp:0<W:=by omega
 refine ⟨Hv (u:=w) Wp rfl (by omega) (by omega),?_⟩;have cr:=Fr.lJ w W;have yp:=Fr.wI (t:=w) (aLT Wp);rcases Int.lt_or_le (Fr.sh w W).1 0 with z | z
 ·exfalso;have a:(Fr.sh w W).1*W<0:=Int.mul_neg_of_neg_of_pos z Wp;have b:0<w*(Fr.sh w W).2:=aLY (by omega) yp;omega
 ·exact z
theorem uX:∀ {rs:List (Int×Sd)}{r:Int×Sd},(∀ r∈rs,1<=r.1/\r.1<=1000)->r∈rs->r.1<=dD rs
 | x::rs,r,h,hr=>by
  have e:dD (x::rs)=x.1+dD rs:=by unfold dD; rw [aLw,aLI]
  have w0:=Mr (rs:=rs) fun x hx=>h x (aLp _ hx);have hx:=h x aLq;rcases aLF.mp hr with z | z
  ·subst z; omega
  ·have:=uX (fun x hx=>h x (aLp _ hx)) z;omega
def Ig (l:Int×Int)(n:Nat)(p:Int)(rs:List (Int×Sd))(i:Nat):Int×Int:=(rs.take i).foldl (fun a r=>pls a (tms (Fr.sh r.1 (dD rs)) (Fb l n r.2))) (-p,1)
theorem pZ {l:Int×Int}{n:Nat}{p:Int}{rs:List (Int×Sd)}{i:Nat}{r:Int×Sd}(h:rs[i]? = some r):Ig l n p rs (i+1)=pls (Ig l n p rs i) (tms (Fr.sh r.1 (dD rs)) (Fb l n r.2)):=by
 unfold Ig;rw [aMB,h,aMC]
 rfl
theorem uU (l:Int×Int)(n:Nat)(p:Int)(rs:List (Int×Sd)):Fb l (n+1) (.st p rs)=grt l (Ig l n p rs rs.length):=by
 unfold Ig;rw [aLG]
 rfl
theorem aBQ {L:Int}(L0:0<L)(L1:L<=2^10){s:Sd}{d m:Nat}(ok:Ok s d m)(hd:d<=4)(hm:m<=12)(n:Nat):0<md L n s/\md L n s<=2^700:=by
 have h:=ZS L0 L1 ok n;refine ⟨h.1,aLN h.2 (dO ?_)⟩
 calc (12*d+10)*m<=58*m:=aMD _ (by omega)
  _<=58*12:=aL7 _ hm
  _<=700:=by decide
end Sd
namespace L2
open PySem PySem.Spec PyProof.Rows
theorem range_all (bs:List Bool):(aME bs.length).all (fun i=>bs.getD i false)=bs.all id:=by
 rw [aMs];simp only [aMI,aMj];constructor
 ·intro h b hb;obtain ⟨i,hi,e⟩:=aNn.mp hb;have q:=h i hi;rw [getD_at hi,e] at q;exact q
 ·intro h i hi;rw [getD_at hi];exact h _ (aMc hi)
theorem range_any (bs:List Bool):(aME bs.length).any (fun i=>bs.getD i false)=bs.any id:=by
 rw [aMs];simp only [aMh,aMj];constructor
 ·rintro ⟨i,hi,h⟩;rw [getD_at hi] at h;exact ⟨_,aMc hi,h⟩
 ·rintro ⟨b,hb,h⟩;obtain ⟨i,hi,e⟩:=aNn.mp hb;refine ⟨i,hi,?_⟩;rw [getD_at hi,e];exact h
section
variable {X:Cx}{K:PySem.W.Frag}
theorem Ke {us:List Value}{bs:List Bool}(h:b8 (bs.map V.bl) us){i:Nat}{v:Value}(e:us[i]? = some v):v=.bool (bs.getD i false):=by
 have hl:=h.length;rw [aLo] at hl;have hi:i<us.length:=(aLE.mp e).1;have e2:(bs.map V.bl)[i]? = some (.bl (bs.getD i false)):=by
  rw [aLH,aLs (by omega),getD_at (by omega)]
  rfl
 obtain ⟨u,hu,r⟩:=h.get e2;rw [e] at hu;cases hu;exact r
theorem kO (hK:X.K=K)(hc:X.calm=true):eY X (.builtin "all") (fun xs H Q=>∃ (a:Addr) (bs:List Bool),xs=[.ref a]/\bK K H a (bs.map V.bl)/\Q (.bl (bs.all id)) H):=by
 subst hK;intro pins s σ H xs us Q I r h;obtain ⟨a,bs,rfl,hS,q⟩:=h;obtain ⟨u,rfl,ru⟩:=vals1 r;cases (show u=Value.ref a from ru);obtain ⟨its,rv,pl,hz⟩:=I.list hS;have lt:a<s.heap.objs.size:=by obtain ⟨o,e,_⟩:=pl.isList; exact aLC e
 have hl:=rv.length;rw [aLo] at hl;refine call_all_walk (wpAny_pyIter_list pl.isList ⟨s.heap.objs.size,_,_,_,_,_,fun i=>bs.getD i false,rfl,Walks.list (A:=X.A.in1) (I.ok.hd hc) s.heap.objs.size a (aLR lt) its.toArray,⟨⟨_,aLJ _ rfl,rfl,rfl⟩,pl.isList.push _⟩,?_,fun h' tk hk=>?_⟩)
 ·intro i v s' Q' E' hv hQ;have e:=Ke rv (i:=i) (v:=v) (by simpa using hv);rw [e];exact wpAny_truthy_bool hQ
 ·refine ⟨.bl (bs.all id),H,I.kept (t':=tk) fun b o e=>hk b o (fun z=>?_) (aLt _ e),?_,q⟩
  ·rw [aLy.mp z] at e;exact absurd (aLC e) (aMp _)
  ·show Value.bool _=Value.bool _;rw [aLM,<- hl,range_all]
theorem Jk (hK:X.K=K)(hc:X.calm=true):eY X (.builtin "any") (fun xs H Q=>∃ (a:Addr) (bs:List Bool),xs=[.ref a]/\bK K H a (bs.map V.bl)/\Q (.bl (bs.any id)) H):=by
 subst hK;intro pins s σ H xs us Q I r h;obtain ⟨a,bs,rfl,hS,q⟩:=h;obtain ⟨u,rfl,ru⟩:=vals1 r;cases (show u=Value.ref a from ru);obtain ⟨its,rv,pl,hz⟩:=I.list hS;have lt:a<s.heap.objs.size:=by obtain ⟨o,e,_⟩:=pl.isList; exact aLC e
 have hl:=rv.length;rw [aLo] at hl;refine call_any_walk (wpAny_pyIter_list pl.isList ⟨s.heap.objs.size,_,_,_,_,_,fun i=>bs.getD i false,rfl,Walks.list (A:=X.A.in1) (I.ok.hd hc) s.heap.objs.size a (aLR lt) its.toArray,⟨⟨_,aLJ _ rfl,rfl,rfl⟩,pl.isList.push _⟩,?_,fun h' tk hk=>?_⟩)
 ·intro i v s' Q' E' hv hQ;have e:=Ke rv (i:=i) (v:=v) (by simpa using hv);rw [e];exact wpAny_truthy_bool hQ
 ·refine ⟨.bl (bs.any id),H,I.kept (t':=tk) fun b o e=>hk b o (fun z=>?_) (aLt _ e),?_,q⟩
  ·rw [aLy.mp z] at e;exact absurd (aLC e) (aMp _)
  ·show Value.bool _=Value.bool _;rw [aLM,<- hl,range_any]
end
structure QV (K:PySem.W.Frag)(C:Addr)(m:Str)(f:Addr):Prop where
 ga:PySem.W.specialIn K (.ref C) "__getattribute__" = some (some (.builtin "type.__getattribute__"))
 rd:PySem.W.readsIn K C (.type "type")=true
 at_:PySem.W.findCls K (.ref C) (.type "type") m=some (.val (.ref f))
 hd:PySem.W.handedIn (.ref f)=true
 kp:PySem.W.keepIn K (.ref f)=true
section
variable {X:Cx}{CX:Bg}{C f:Addr}{fd:FuncData}{k:Nat}{x m:Str}{ps:List Str}{ds:List Value}{dvs:List V}{sp:Sp}{E:XK}{e:Expr}{es:List Expr}{t:TA}{p apos pos:Pos}
theorem IW {pl:Sem Bool}(hg:Gl X x)(hm:X.mg x=some (.ref C))(c:QV X.K C m f)(F:aY X.prog X.w X.K X.mg X.base CX k f fd ps sp)(hr:fV k X.A)(hb:Binds X.K fd ps ds)(hd:b8 dvs ds)(hx:jL CX X E)(ha:PA X (e::es) t)
  (hdb:(x==("__debug__" : Str))=false:=by decide)
  (hst:starEach (e::es) X.env=(false,eval e X.env)::starEach es X.env:=by rfl) (hpl:(backTo pos (starEach es X.env)).any (·.1)=false:=by rfl)
  (ht:eval (.Call (.Attribute (.Name x p) m apos) (e::es) [] pos) X.env=(do
   let ov <- eval (.Name x p) X.env
   standAt apos.atName
   let (f,first) <- holding [ov] (getMethod ov m pl)
   callWith pos f first (backTo pos (starEach (e::es) X.env)) (backToKw pos (keywordEach [] X.env))):=by rfl) :
  PE X (.Call (.Attribute (.Name x p) m apos) (e::es) [] pos) (Ex sp dvs E t):=by
 intro pins s σ H Q I h;refine PySem.W.methodCall_KW (pl:=pl) (qO I hg hm ?_ hdb) ht;refine PySem.W.method_cls I.kIn c.ga (PySem.W.cls_value I.kIn c.rd c.at_ c.hd ?_);have I2:=I.tok (s.toks+1);refine PySem.W.callWith_K (first:=[]) (h₀:=X.base) I.ok.mod.kin c.kp (d7 (ha pos pins _ σ H _ I2 h) fun us s1 ⟨vs,H1,I1,r,q⟩=>⟨I1.kIn,?_⟩) hst hpl;exact Bu F hr hb hd hx I1 r q
theorem nF {e:Expr}{t u:TE}(h1:PE X e t)(h2:PE X e u):PE X e (fun σ H Q=>t σ H Q∨u σ H Q):=fun pins s σ H Q I h=>h.elim (h1 pins s σ H Q I) (h2 pins s σ H Q I)
theorem gR {K:PySem.W.Frag}(hK:X.K=K):eY X (.builtin "isinstance") (fun xs H Q=>∃ (x:V) (C:Addr) (t:Value) (b:Bool),xs=[x,.ref C]/\iB K H x t/\PySem.W.kitOne K t (.ref C)=some b/\Q (.bl b) H):=by
 subst hK;intro pins s σ H xs us Q I r h;obtain ⟨x,C,t,b,rfl,ty,e,q⟩:=h;obtain ⟨u,w',rfl,rx,rt⟩:=vals2 r;cases (show w'=Value.ref C from rt);exact yX I rx ty e fun tk=>⟨.bl b,H,I.tok _,rfl,q⟩
end
def uW (P:Program)(w:World):Bg:=fun outer H s E e s' =>
 ∃ (a:Addr) (cls a0:Value) (H':Hp) (B:Heap),e=.ref a/\s'.os=s.os/\AllBare s'.gens/\Un (rG outer) [] H H' s.heap s'.heap/\nW P w H' s'.heap/\Heap.FlyingW B outer a cls a0 s'.heap ∧
  (∀ b o,s.heap.get? b=some o->b∉rG outer->∃ o',B.get? b=some o')/\(∀ b u,H' b=some u->∃ o',B.get? b=some o')/\E cls none H'
section
variable {P:Program}{w:World}{H H':Hp}{B h0 h1 h2:Heap}{fs:List Addr}
theorem Ik (b1:B.StaysIn h1)(b2:B.StaysIn h2){b:Addr}{o:Obj}(q:h1.get? b=some o)(x:∃ o',B.get? b=some o'):h2.get? b=some o:=by
 obtain ⟨o',e⟩:=x;have:=b1 b o' e;rw [q] at this;cases this;exact b2 b _ e
theorem N8 (u:Un fs [] H H' h0 h1)(b1:B.StaysIn h1)(b2:B.StaysIn h2)(up:h1.UpToSlots h2)(nf:∀ b∈fs,∃ o,h1.get? b=some o/\∀ vs,o.data≠.fields vs)
  (hB:∀ b o,h0.get? b=some o->b∉fs->∃ o',B.get? b=some o'):Un fs [] H H' h0 h2:=by
 refine ⟨fun b o q n hb hx=>Ik b1 b2 (u.keep b o q n hb hx) (hB b o q hb),fun b o q n hb hx=>?_,u.free,fun b o q hx=>?_,u.tups,u.frzs,u.tbls⟩
 ·obtain ⟨sl,e⟩:=u.slot b o q n hb hx;obtain ⟨o1,e1,d1⟩:=nf b hb;rw [e] at e1;cases e1;obtain ⟨sl2,e2⟩:=up b _ e d1;exact ⟨sl2,e2⟩
 ·by_cases hb:b∈fs
  ·obtain ⟨o1,e1,d1⟩:=nf b hb;obtain ⟨sl2,e2⟩:=up b _ e1 d1;exact ⟨_,e2⟩
  ·obtain ⟨o1,e1⟩:=hB b o q hb;exact ⟨_,b2 b _ e1⟩
theorem Hn (x:nW P w H h1)(b1:B.StaysIn h1)(b2:B.StaysIn h2)(hH:∀ b u,H b=some u->∃ o',B.get? b=some o'):nW P w H h2:=fun a o e =>
 (x a o e).stay (fun b u hb q=>Ik b1 b2 q (by
  rcases hb with rfl | hb
  ·exact hH _ _ e
  ·exact hH _ _ hb)) (fun _ q=>q) fun _ _ q=>q
end
theorem obj_some {P:Program}{w:World}{H:Hp}{h:Heap}{b:Addr}{u:HO}(x:cJ P w H h b u)(z:h.get? b=none):False:=by
 cases u with
 | lst xs=>obtain ⟨_,_,_,_,e⟩:=x; rw [z] at e; cases e
 | tup xs=>obtain ⟨_,_,_,_,e,_⟩:=x; rw [z] at e; cases e
 | dK kvs=>obtain ⟨_,_,_,_,o,_,_,e,_⟩:=x; rw [z] at e; cases e
 | dT kvs=>obtain ⟨_,_,_,_,o,_,_,e,_⟩:=x; rw [z] at e; cases e
 | set S n=>obtain ⟨o,_,_,_,e,_⟩:=x; rw [z] at e; cases e
 | ins C dx fs=>obtain ⟨_,_,_,e,_⟩:=x; rw [z] at e; cases e
 | own y=>obtain ⟨_,e⟩:=x; rw [z] at e; cases e
 | xd fs=>obtain ⟨_,⟨_,_,_,e,_⟩,_⟩:=x; rw [z] at e; cases e
 | rng lo hi=>obtain ⟨_,_,_,e⟩:=x; rw [z] at e; cases e
 | frz ob v=>obtain ⟨e,_⟩:=x; rw [z] at e; cases e
 | tbl ps=>have e:=(show h.get? b=some _ from x); rw [z] at e; cases e
 | met f y=>have e:=(show h.get? b=some _ from x); rw [z] at e; cases e
 | ext φ=>obtain ⟨_,⟨_,e⟩,_⟩:=x; rw [z] at e; cases e
theorem Hh {env:Env}{outer:List Env}{L b:Addr}(hf:env.frame=some L):b∈rG (env::outer)↔b=L∨b∈rG outer:=by
 unfold rG;rw [aMt,hf];exact aLF
structure xU (K:PySem.W.Frag)(C:Addr):Prop where
 isx:PySem.W.excIn K C ([.type "ValueError",.type "Exception",.type "BaseException",.type "object"]) "ValueError.__new__" = true
section
variable {X:Cx}
def Throws (X:Cx)(E:XK):Prop:=∀ (pins:List (Addr×Obj)) (σ:St) (H:Hp) (s:Shared) (h':Heap) (e:Addr) (cls:Value) (args:List Value),bD X pins σ H s->Heap.MadeExcOf s.heap h' e cls args->E cls none H ->
 X.xe (.ref e) { s with heap:=h' }
end
section
variable {P:Program}{w:World}{K:PySem.W.Frag}{mg:Str->Option Value}{base:Heap}{N:List Str}{qual:Str}{scope:Scope}{f:Addr}{cd:Value}{A:Around}{outer:List Env}{s:Shared}{H:Hp}{E:XK}
theorem jJ:Throws (xT (uW P w) P w K mg base N qual scope f cd A outer s H E) E:=by
 intro pins σ H1 s1 h' e cls args I mk hE;have hfr:=I.ok.frames;have hst:=I.stack;have nsz:∀ b o,s.heap.get? b=some o->b≠s.heap.objs.size:=fun b o q z=>absurd (aLC q) (by rw [z]; exact aMp _);have hide:∀ b o,s1.heap.get? b=some o->b∉rG (envOfC qual scope s.heap.objs.size f cd::outer)->(PySem.W.hideAll s1.heap (rG (envOfC qual scope s.heap.objs.size f cd::outer))).get? b=some o:=fun b o q hb=>PySem.W.hideAll_get _ q hb;have inS:∀ b o,s.heap.get? b=some o->b∉rG outer->∃ o',(PySem.W.hideAll s1.heap (rG (envOfC qual scope s.heap.objs.size f cd::outer))).get? b=some o':=fun b o q hb=>by
  obtain ⟨o',e'⟩:=I.base.there b o q (by show b∉([]:List Addr); simp);exact ⟨o',hide b o' e' fun z=>((Hh rfl).mp z).elim (nsz b o q) hb⟩
 have inH:∀ b u,H1 b=some u->∃ o',(PySem.W.hideAll s1.heap (rG (envOfC qual scope s.heap.objs.size f cd::outer))).get? b=some o':=fun b u q=>by
  have lt:=I.hok.lt q;obtain ⟨o',e'⟩:∃ o',s1.heap.get? b=some o':=by
   have:=I.hok b u q;cases z:s1.heap.get? b with
   | some o'=>exact ⟨o',rfl⟩
   | none=>exact (obj_some this z).elim
  refine ⟨o',hide b o' e' fun z=>?_⟩;have:=I.stkFree b z;rw [q] at this;cases this
 show wpAny (model P w) (A.deeper (envOfC qual scope s.heap.objs.size f cd)) (leaving (envOfC qual scope s.heap.objs.size f cd) (.ref e)) _ _ _;refine wpAny_leaves_madeW (h:=s1.heap) (base:=PySem.W.hideAll s1.heap (rG (envOfC qual scope s.heap.objs.size f cd::outer))) hfr rfl (fun b o q=>PySem.W.of_hideAll _ q)
  (PySem.W.funFrames_hide hst fun env he b hb=>aMw.mpr ⟨env,he,hb⟩) mk fun h'' t fl _ _ up=>?_
 have b1:Heap.StaysIn (PySem.W.hideAll s1.heap (rG (envOfC qual scope s.heap.objs.size f cd::outer))) h':=fun b o q=>mk.keeps _ _ (PySem.W.of_hideAll _ q);refine ⟨e,cls,.ref t,H1,_,rfl,I.os,I.bare,?_,Hn (I.hok.kept mk.keeps) b1 fl.1 inH,fl,inS,inH,hE⟩;have u1:Un (rG outer) [] H H1 s.heap h':=Un.trans (show Un (rG outer) [] H H1 s.heap s1.heap from I.base) (Un.kept mk.keeps);refine N8 u1 b1 fl.1 up (fun b hb=>?_) inS;obtain ⟨_,o,ho,hd⟩:=I.funs.mem hb;exact ⟨o,mk.keeps _ _ ho,hd⟩
theorem rT:jL (uW P w) (xT (uW P w) P w K mg base N qual scope f cd A outer s H E) E:=by
 rintro pins σ H1 s1 e s' I ⟨a,cls,a0,H',B,rfl,hos,hg,un,hok,fl,inB,inH,hE⟩;have nsz:∀ b o,s.heap.get? b=some o->b≠s.heap.objs.size:=fun b o q z=>absurd (aLC q) (by rw [z]; exact aMp _);have J:=I.call' (s':=s') (H':=H') (ch:=[]) hos un hok hg (fun b z=>absurd z (by simp));have inS:∀ b o,s.heap.get? b=some o->b∉rG outer->∃ o',B.get? b=some o':=fun b o q hb=>by
  obtain ⟨o',e'⟩:=I.base.there b o q (by show b∉([]:List Addr); simp);exact inB b o' e' fun z=>((Hh rfl).mp z).elim (nsz b o q) hb
 show wpAny (model P w) (A.deeper (envOfC qual scope s.heap.objs.size f cd)) (leaving (envOfC qual scope s.heap.objs.size f cd) (.ref a)) _ _ _;refine wpAny_leaves_onW I.ok.frames rfl fl fun h'' fl' up=>?_;refine ⟨a,cls,a0,H',B,rfl,J.os,hg,?_,Hn hok fl.1 fl'.1 inH,fl',inS,inH,hE⟩;refine N8 (show Un (rG outer) [] H H' s.heap s'.heap from J.base) fl.1 fl'.1 up (fun b hb=>?_) inS;obtain ⟨_,o,ho,hd⟩:=fl.2.2.1.mem (aMw.mpr (by
  obtain ⟨env,he,z⟩:=aMw.mp hb;exact ⟨env,aLp _ he,z⟩))
 exact ⟨o,ho,hd⟩
end
end L2
namespace L2
open PySem PySem.Spec PySem.W PyProof.Rows
section
variable {X:Cx}
theorem TV:∀ (cs:List String) (its:List Value),b8 (cs.map V.ty) its->its=cs.map Value.type:=by
 intro cs
 induction cs with
 | nil=>intro its r; cases r; rfl
 | cons c cs ih=>intro its r; cases r with | cons r1 r2=>rw [ih _ r2]; cases r1; rfl
theorem qN {K:Frag}(hK:X.K=K):eY X (.builtin "isinstance") (fun xs H Q=>∃ (x:V) (p:Addr) (t:Value) (cs:List String) (b:Bool),xs=[x,.ref p]/\iB K H x t/\H p=some (.tup (cs.map V.ty))/\kitAny K t (cs.map Value.type)=some b/\Q (.bl b) H):=by
 subst hK;rintro pins s σ H vs us Q I r ⟨x,p,t,cs,b,rfl,ty,ht,e,q⟩;obtain ⟨u,u2,rfl,rx,r2⟩:=vals2 r;obtain rfl:u2=Value.ref p:=r2;obtain ⟨_,its,rv,o,ho,hc,n,hd⟩:=(show cJ X.prog X.w H s.heap p (.tup (cs.map V.ty)) from I.hok p _ ht)
 obtain rfl:=TV cs its rv;obtain ⟨oc,od,oda,osl⟩:=o;dsimp only at hc hd;subst hc;subst hd;have fin:∀ tk,EP X pins σ Q (.bool b) { s with toks:=tk }:=fun tk=>⟨.bl b,H,I.tok _,rfl,q⟩
 cases ty with
 | non=>cases (show u=Value.none from rx); exact kia_tup kitx_none I.kIn True.intro ho e (fun z=>nomatch z) fin
 | bl y=>cases (show u=Value.bool y from rx); exact kia_tup kitx_bool I.kIn True.intro ho e (fun z=>nomatch z) fin
 | int i=>obtain ⟨t,z⟩:=(show ∃ t,u=Value.int i t from rx); cases z; exact kia_tup kitx_int I.kIn True.intro ho e (fun z=>nomatch z) fin
 | str y=>obtain ⟨t,z⟩:=(show ∃ t,u=Value.str y t from rx); cases z; exact kia_tup kitx_str I.kIn True.intro ho e (fun z=>nomatch z) fin
 | flt y=>obtain ⟨t,z⟩:=(show ∃ t,u=Value.float y t from rx); cases z; exact kia_tup kitx_float I.kIn True.intro ho e (fun z=>nomatch z) fin
 | @lst a xs ea =>
  cases (show u=Value.ref a from rx);obtain ⟨_,_,n,_,h1⟩:=(show cJ X.prog X.w H s.heap a (.lst xs) from I.hok a _ ea)
  exact kia_tup kitx_list I.kIn ⟨_,h1,rfl⟩ ho e (fun z=>nomatch z) fin
 | @frz a ob xs ea =>
  cases (show u=Value.ref a from rx);obtain ⟨_,_,_,n,_,h1⟩:=(show cJ X.prog X.w H s.heap a (.frz ob (.lst xs)) from I.hok a _ ea)
  exact kia_tup kitx_list I.kIn ⟨_,h1,rfl⟩ ho e (fun z=>nomatch z) fin
 | @tup a xs ea =>
  cases (show u=Value.ref a from rx);obtain ⟨_,_,_,pp⟩:=(show cJ X.prog X.w H s.heap a (.tup xs) from I.hok a _ ea)
  obtain ⟨o,h1,h2,_⟩:=pp;exact kia_tup kitx_tuple I.kIn ⟨o,h1,h2⟩ ho e (fun z=>nomatch z) fin
 | @dK a kvs ea =>
  cases (show u=Value.ref a from rx);obtain ⟨_,_,vs,_,pp⟩:=(show cJ X.prog X.w H s.heap a (.dK kvs) from I.hok a _ ea)
  obtain ⟨o,es,ep,h1,h2,_⟩:=pp;exact kia_tup kitx_dict I.kIn ⟨o,h1,h2.1⟩ ho e (fun z=>nomatch z) fin
 | @dT a kvs ea =>
  cases (show u=Value.ref a from rx);obtain ⟨_,_,xs,_,o,es,ep,h1,h2,_⟩:=(show cJ X.prog X.w H s.heap a (.dT kvs) from I.hok a _ ea)
  exact kia_tup kitx_dict I.kIn ⟨o,h1,h2.1⟩ ho e (fun z=>nomatch z) fin
 | @ins a C dx fs ea cl ha hn htk hm =>
  cases (show u=Value.ref a from rx);obtain ⟨mA,O,_⟩:=qC I.hok ea;obtain ⟨od,J,_⟩:=O.look;exact kia_tup (kitx_own (cl.get _) cl.hd ha hn htk hm) I.kIn J ho e (fun z=>nomatch z) fin
end
end L2
namespace L2
open PySem PySem.Spec PyProof.Rows
section
variable {X:Cx}
theorem bD.turnedLaid {pins:List (Addr×Obj)}{σ:St}{H:Hp}{s:Shared}{h':Heap}{t':Nat}{ch:List Addr}{a:Addr}{o:HO}(I:bD X pins σ H s)(hf:∀ b∈ch,jQ X pins H b)
  (k:∀ b u,b∉ch->s.heap.get? b=some u->h'.get? b=some u) (hp:s.heap.objs.size<=a) (new:cJ X.prog X.w (aX H a o) h' a o):bD X pins σ (aX H a o) { s with heap:=h',toks:=t' }:=by
 have hn:=I.hok.fresh hp;have nit:∀ b u,H b=some u->b∉ch:=fun b u e z=>by rw [(hf b z).1] at e; cases e
 refine I.step (g':=s.gens) (d':=s.drawn) (ch:=ch) (fun b hb=>?_) (fun b o _ _ hc e _=>k b o hc e) (fun b o _ _ hc e _=>⟨o.slots,k b o hc e⟩) (fun b u hc e n=>?_) (fun b o hc e=>⟨o,k b o hc e⟩)
  (fun b xs e=>by rw [aO (bB e hn)]; exact e) (fun b o u e=>by rw [aO (bB e hn)]; exact e) (fun b ps e=>⟨#[],by rw [aO (bB e hn),e]; simp⟩) (fun m hm=>?_) (fun b u e=>?_) I.bare
 ·obtain ⟨_,f1,f2,f3,f4,f5⟩:=hf b hb;exact ⟨f3,f1,f4,f5⟩
 ·rw [aO (aLR (aLS (aLC e) hp))];exact n
 ·obtain ⟨o,es,ep,ho,r⟩:=hm;exact ⟨o,es,ep,k _ o (fun z=>(hf _ z).2.1 rfl) ho,r⟩
 ·by_cases hb:b=a
  ·subst hb;rw [aC] at e;cases e;exact new
  ·rw [aO hb] at e;refine (I.hok b u e).stay (fun c v hc q=>k c v ?_ q) (fun c q=>by rw [aO (bB q hn)]; exact q) fun c xs q=>by rw [aO (bB q hn)]; exact q
   rcases hc with z | z
   ·rw [z]; exact nit b u e
   ·exact nit c _ z
theorem bD.turnedN {pins:List (Addr×Obj)}{σ:St}{H:Hp}{s:Shared}{h':Heap}{t':Nat}{ch:List Addr}(I:bD X pins σ H s)(hf:∀ b∈ch,jQ X pins H b)
  (k:∀ b u,b∉ch->s.heap.get? b=some u->h'.get? b=some u):bD X pins σ H { s with heap:=h',toks:=t' }:=by
 have nit:∀ b u,H b=some u->b∉ch:=fun b u e z=>by rw [(hf b z).1] at e; cases e
 refine I.step (g':=s.gens) (d':=s.drawn) (ch:=ch) (fun b hb=>?_) (fun b o _ _ hc e _=>k b o hc e) (fun b o _ _ hc e _=>⟨o.slots,k b o hc e⟩) (fun _ _ _ _ n=>n) (fun b o hc e=>⟨o,k b o hc e⟩)
  (fun _ _ e=>e) (fun _ _ _ e=>e) (fun b ps e=>⟨#[],by rw [e]; simp⟩) (fun m hm=>?_) (fun b u e=>?_) I.bare
 ·obtain ⟨_,f1,f2,f3,f4,f5⟩:=hf b hb;exact ⟨f3,f1,f4,f5⟩
 ·obtain ⟨o,es,ep,ho,r⟩:=hm;exact ⟨o,es,ep,k _ o (fun z=>(hf _ z).2.1 rfl) ho,r⟩
 ·refine (I.hok b u e).stay (fun c v hc q=>k c v ?_ q) (fun _ q=>q) fun _ _ q=>q;rcases hc with z | z
  ·rw [z]; exact nit b u e
  ·exact nit c _ z
def Itz (K:PySem.W.Frag)(a b:Addr):It :=
 ⟨fun i H=>∃ xs ys x y,bK K H a xs/\bK K H b ys/\xs[i]? = some x/\ys[i]? = some y,
  fun i H v H'=>∃ x y T,H T=none/\v=.ref T/\H'=aX H T (.tup [x,y])/\(∀ xs,bK K H a xs->xs[i]? = some x)/\∀ ys,bK K H b ys->ys[i]? = some y,
  fun i H=>∃ xs ys,bK K H a xs/\bK K H b ys/\(xs.length<=i∨ys.length<=i)⟩
theorem MK {P:Program}{w:World}{K:PySem.W.Frag}{elts:List Expr}{kk:Nat}{tpos:Pos}{z TI TO i1 i2 a b:Addr}(D:ZipApart z TI TO i1 i2 a b) :
  Turn P w K (.Tuple elts kk tpos) (Itz K a b) [z,TI,TO,i1,i2] z (fun i h=>IsZip h z TI TO .none/\IsPair h TI (.ref i1) (.ref i2)/\(∃ x y,IsPair h TO x y)/\h.IsListIter i1 a i/\h.IsListIter i2 b i) where
 mem:=by simp
 obj:=fun i h st c hc=>by
  obtain ⟨hz,hTI,⟨x,y,hTO⟩,⟨o1,e1,c1,d1⟩,⟨o2,e2,c2,d2⟩⟩:=st;simp only [aLF,aLW,or_false] at hc;rcases hc with rfl | rfl | rfl | rfl | rfl
  ·exact ⟨_,hz,fun v z=>nomatch z⟩
  ·exact ⟨_,hTI,fun v z=>nomatch z⟩
  ·exact ⟨_,hTO,fun v z=>nomatch z⟩
  ·exact ⟨_,e1,fun v z=>by rw [d1] at z; cases z⟩
  ·exact ⟨_,e2,fun v z=>by rw [d2] at z; cases z⟩
 keep:=fun i h h' st k=>by
  obtain ⟨hz,hTI,⟨x,y,hTO⟩,h1,h2⟩:=st;exact ⟨k z (by simp) _ hz,k TI (by simp) _ hTI,⟨x,y,k TO (by simp) _ hTO⟩,h1.at fun o e=>k i1 (by simp) o e,h2.at fun o e=>k i2 (by simp) o e⟩
 item:=by
  intro X hP hw hK hc i pins s σ H E I hf st hg;subst hP hw hK;obtain ⟨xs,ys,x,y,ha,hb,hx,hy⟩:=hg;obtain ⟨hz,hTI,⟨p,q,hTO⟩,h1,h2⟩:=st;obtain ⟨its,rv,pl,_⟩:=I.list ha;obtain ⟨its2,rv2,pl2,_⟩:=I.list hb;obtain ⟨u,hu,ru⟩:=rv.get hx;obtain ⟨u2,hu2,ru2⟩:=rv2.get hy;refine wpAny_pyNext_zip_item (x:=u) (y:=u2) D hz hTI hTO h1 h2 pl.isList pl2.isList (by simpa using hu) (by simpa using hu2) fun h' a1 a2 a3 a4 a5 a6 hk=>?_;refine ⟨_,rfl,?_⟩;refine wpAny_letOwnedTupleGo_zip (s:={ s with heap:=h' }) a1 fun h'' hz'' hs''=>?_;have ne:∀ {c o},s.heap.get? c=some o->s.heap.objs.size≠c:=fun e=>aMA (aLC e);have hT:IsPair h'' s.heap.objs.size u u2:=hs''.extBut _ _ (ne hz) a5;have fr:H s.heap.objs.size=none:=I.hok.fresh (aLu _);refine ⟨.ref s.heap.objs.size,aX H s.heap.objs.size (.tup [x,y]),?_,rfl,⟨x,y,_,fr,rfl,rfl,fun zs h=>by rw [I.list_inj h ha]; exact hx,fun zs h=>by rw [I.list_inj h hb]; exact hy⟩,⟨hz'',?_,?_,?_,?_⟩,fun c hc=>?_⟩
  ·refine I.turnedLaid (t':=s.toks) (ch:=[z,TO,i1,i2]) (fun c hc=>hf c ?_) (fun c o hc e=>?_) (aLu _) ⟨aLZ (aU (show 2<=1000 by decide)),[u,u2],.cons ru (.cons ru2 .nil),_,hT,rfl,_,rfl⟩
   ·simp only [aLF,aLW,or_false] at hc ⊢;rcases hc with z | z | z | z
    ·exact .inl z
    ·exact .inr (.inr (.inl z))
    ·exact .inr (.inr (.inr (.inl z)))
    ·exact .inr (.inr (.inr (.inr z)))
   ·simp only [aLF,aLW,or_false,not_or] at hc;exact hs''.extBut _ _ hc.1 (hk c o hc.1 hc.2.1 hc.2.2.1 hc.2.2.2 e)
  ·exact hs''.extBut _ _ D.TIz (hk _ _ D.TIz D.TITO D.TIi1 D.TIi2 hTI)
  ·exact ⟨u,u2,hs''.extBut _ _ D.TOz a2⟩
  ·exact a3.extBut hs''.extBut D.i1z
  ·exact a4.extBut hs''.extBut D.i2z
  ·have lt:∀ {c},c∈[z,TI,TO,i1,i2]->c≠s.heap.objs.size:=fun {c} hc e=>by
    obtain ⟨o1,e1,_⟩:=h1;obtain ⟨o2,e2,_⟩:=h2;simp only [aLF,aLW,or_false] at hc;rcases hc with rfl | rfl | rfl | rfl | rfl
    ·exact ne hz e.symm
    ·exact ne hTI e.symm
    ·exact ne hTO e.symm
    ·exact ne e1 e.symm
    ·exact ne e2 e.symm
   rw [aO (lt hc)];exact (hf c hc).1
 done:=by
  intro X hP hw hK hc i pins s σ H E I hf st hg;subst hP hw hK;obtain ⟨xs,ys,ha,hb,hx⟩:=hg;obtain ⟨hz,hTI,⟨p,q,hTO⟩,h1,h2⟩:=st;obtain ⟨its,rv,pl,_⟩:=I.list ha;obtain ⟨its2,rv2,pl2,_⟩:=I.list hb;have l1:=rv.length;have l2:=rv2.length;refine wpAny_pyNext_zip_end (I.ok.hd hc) D hz hTI hTO h1 h2 pl.isList pl2.isList ?_ fun h' hk=>⟨rfl,I.turnedN (t':=s.toks) (ch:=[z,TO,i1,i2]) (fun c hc=>hf c ?_) fun c o hc e=>?_⟩
  ·rcases hx with hx | hx
   ·exact .inl (by simp; omega)
   ·exact .inr (by simp; omega)
  ·simp only [aLF,aLW,or_false] at hc ⊢;rcases hc with z | z | z | z
   ·exact .inl z
   ·exact .inr (.inr (.inl z))
   ·exact .inr (.inr (.inr (.inl z)))
   ·exact .inr (.inr (.inr (.inr z)))
  ·simp only [aLF,aLW,or_false,not_or] at hc;exact hk c o hc.1 hc.2.1 hc.2.2.1 hc.2.2.2 e
 self:=fun _ _ _ _ _ st h=>wpAny_pyIter_zip st.1 h
def aGd (K:PySem.W.Frag)(ta:TA):TI:=fun σ H R=>ta σ H fun vs H1=>∃ a b xs ys,vs=[.ref a,.ref b]/\bK K H1 a xs/\bK K H1 b ys/\R (Itz K a b) H1
theorem Up:bootBuiltins "zip" = some (.type "zip"):=by decide +kernel
theorem Jh (I l1 l2:Nat)(h1:l1<I)(h2:l2<I):ZipApart (I+4) (I+2) (I+3) I (I+1) l1 l2:=by
 constructor <;> (show (_:Nat)≠_; omega)
theorem U0 {a b:Expr}{ta:TA}{p pos tpos:Pos}{elts:List Expr}{kk:Nat}(hg:Gl X "zip")(hm:X.mg "zip" = none)(ha:PA X [a,b] ta)(hs:starEach [a,b] X.env=[(false,eval a X.env),(false,eval b X.env)]:=by rfl)(hs2:starEach [b] X.env=[(false,eval b X.env)]:=by rfl) :
  PI X (.Tuple elts kk tpos) (.Call (.Name "zip" p) [a,b] [] pos) (aGd X.K ta):=by
 intro pins s σ H R I h;refine Call_ (mY I hg hm Up (PyProof.Rows.callWith_type1 (d7 (ha pos pins s σ H _ I h) fun us s1 ⟨vs,H1,I1,r1,q1⟩=>?_) (by rw [hs,hs2]) (by rw [hs2]; rfl)));obtain ⟨l1,l2,xs,ys,e,h1,h2,q⟩:=q1;subst e;obtain ⟨u,w',rfl,ru,rw'⟩:=vals2 r1;cases (show u=Value.ref l1 from ru);cases (show w'=Value.ref l2 from rw');obtain ⟨its,rv,pl,_⟩:=I1.list h1;obtain ⟨its2,rv2,pl2,_⟩:=I1.list h2;have lt1:l1<s1.heap.objs.size:=by obtain ⟨o,e,_⟩:=pl.isList; exact aLC e
 have lt2:l2<s1.heap.objs.size:=by obtain ⟨o,e,_⟩:=pl2.isList; exact aLC e
 refine call_zip_2 pl.isList pl2.isList fun h' hz hTI hTO hi1 hi2 hsz hk=>?_;refine wpAny_pyIter_zip hz ?_;refine ⟨_,_,_,_,H1,rfl,I1.kept (t':=s1.toks) hk,MK (Jh s1.heap.objs.size l1 l2 lt1 lt2),⟨hz,hTI,⟨_,_,hTO⟩,hi1,hi2⟩,fun c hc=>?_,q⟩;have le:s1.heap.objs.size<=c:=by
  simp only [aLF,aLW,or_false] at hc;rcases hc with rfl | rfl | rfl | rfl | rfl <;> first | exact aOg _ _ | exact aLu _
 exact I1.fpOk le (I1.hok.fresh le)
theorem K8 {K:PySem.W.Frag}{a b:Addr}{xs ys:List V}{k:Nat}{g:TG}{c:TT}{te:TE}{σ:St}{H1:Hp}{D:Addr}{Q:VK}(Pv:Nat->St->Hp->Prop)(hn:xs.length=ys.length)(h0:Pv 0 (aLX k none++σ) (aX H1 D (.lst [])))
  (hl:∀ i τ H,i<=xs.length->Pv i τ H->bK K H a xs/\bK K H b ys)
  (hs:∀ i m x y T τ H,m=xs.length-i->i<xs.length->xs[i]? = some x->ys[i]? = some y->H T=none->Pv i τ H->g (.ref T) τ (aX H T (.tup [x,y])) fun τ2 H2=>c τ2 H2 fun b H3=>if b=true then te τ2 H3 fun y H4=>∃ ys m',m'<m/\H4 D=some (.lst ys)/\ys.length<sizeLine/\CW xs.length Pv (i+1) m' τ2 (aX H4 D (.lst (ys++[y]))) else ∃ m',m'<m/\CW xs.length Pv (i+1) m' τ2 H3)
  (hd:∀ τ H,Pv xs.length τ H->Q (.ref D) H):vJ k (Itz K a b) g c te σ H1 D Q:=by
 refine ⟨CW xs.length Pv,⟨xs.length,rfl,aLQ _,h0⟩,?_⟩;rintro i m τ H ⟨hm,hi,p⟩;obtain ⟨q1,q2⟩:=hl i τ H hi p
 by_cases hlt:i<xs.length
 ·refine .inr ⟨⟨xs,ys,xs[i],ys[i]'(by omega),q1,q2,by simp [hlt],aLs (by omega)⟩,fun v H' y=>?_⟩;obtain ⟨x,y,T,hT,rfl,rfl,e1,e2⟩:=y;exact hs i m x y T τ _ hm hlt (e1 xs q1) (e2 ys q2) hT p
 ·have e:i=xs.length:=by omega
  subst e;exact .inl ⟨⟨xs,ys,q1,q2,.inl (aLu _)⟩,hd τ H p⟩
end
theorem DY {K:PySem.W.Frag}{a:Addr}{xs:List V}{k:Nat}{g:TG}{c:TT}{te:TE}{σ:St}{H1:Hp}{D:Addr}{Q:VK}(Pv:Nat->St->Hp->Prop)(h0:Pv 0 (aLX k none++σ) (aX H1 D (.lst [])))
  (hl:∀ i τ H,i<=xs.length->Pv i τ H->cY K H a xs)
  (hs:∀ i m x τ H,m=xs.length-i->i<xs.length->xs[i]? = some x->Pv i τ H->g x τ H fun τ2 H2=>c τ2 H2 fun b H3=>if b=true then te τ2 H3 fun y H4=>∃ ys m',m'<m/\H4 D=some (.lst ys)/\ys.length<sizeLine/\CW xs.length Pv (i+1) m' τ2 (aX H4 D (.lst (ys++[y]))) else ∃ m',m'<m/\CW xs.length Pv (i+1) m' τ2 H3)
  (hd:∀ τ H,Pv xs.length τ H->Q (.ref D) H):vJ k (Uv K a) g c te σ H1 D Q:=by
 refine ⟨CW xs.length Pv,⟨xs.length,rfl,aLQ _,h0⟩,?_⟩;rintro i m τ H ⟨hm,hi,p⟩;have q:=hl i τ H hi p
 by_cases hlt:i<xs.length
 ·refine .inr ⟨⟨xs,xs[i],q,by simp [hlt]⟩,fun x H' y=>?_⟩;obtain ⟨e,y⟩:=y;subst e;exact hs i m x τ _ hm hlt (y xs q) p
 ·have e:i=xs.length:=by omega
  subst e;exact .inl ⟨⟨xs,q,aLu _⟩,hd τ H p⟩
theorem wK {i:Nat}{v:V}{τ:St}{H:Hp}{A B:St->Hp->Prop}(h:A (τ.set i (some v)) H):oO i v τ H (fun τ2 H2=>Rv τ2 H2 (fun b H3=>if b=true then A τ2 H3 else B τ2 H3)):=dG (τ:=τ.set i (some v)) (A:=A (τ.set i (some v))) (B:=B (τ.set i (some v))) h
theorem Q8 {K:PySem.W.Frag}{a:Addr}{xs:List V}{g:TG}{tb:TS}{D:Ends}{σ:St}{H:Hp}(Pv:Nat->St->Hp->Prop)(h0:Pv 0 σ H)(hl:∀ i σ H,i<=xs.length->Pv i σ H->bK K H a xs)
  (hs:∀ i x σ H,i<xs.length->xs[xs.length-1-i]? = some x->Pv i σ H->g x σ H fun σ2 H2=>tb { D with nx:=Pv (i+1),ct:=Pv (i+1),bk:=D.nx } σ2 H2) (hd:∀ σ H,Pv xs.length σ H->D.nx σ H) :
  ∃ W:Nat->Nat->St->Hp->Prop,(∃ m,W 0 m σ H)/\∀ i m σ H,W i m σ H ->
   ((YJ K a xs).stop i H/\D.nx σ H)∨((YJ K a xs).go i H/\∃ N:St->Hp->Prop,(∀ σ' H',N σ' H'->∃ m',m'<m/\W (i+1) m' σ' H')/\∀ x H',(YJ K a xs).yld i H x H'->g x σ H' fun σ2 H2=>tb { D with nx:=N,ct:=N,bk:=D.nx } σ2 H2):=by
 refine ⟨fun i m σ H=>m=xs.length-i/\i<=xs.length/\Pv i σ H,⟨xs.length,by simp,aLQ _,h0⟩,?_⟩;rintro i m σ H ⟨rfl,hi,p⟩;have q:=hl i σ H hi p
 by_cases hlt:i<xs.length
 ·refine .inr ⟨⟨hlt,q⟩,Pv (i+1),fun σ' H' p'=>⟨xs.length-(i+1),by omega,rfl,hlt,p'⟩,fun x H' y=>?_⟩;obtain ⟨e,y⟩:=y;subst e;exact hs i x σ _ hlt y p
 ·have e:i=xs.length:=by omega
  subst e;exact .inl ⟨aLu _,hd σ H p⟩
end L2
namespace TD
open PySem L2
open Builtin.Int (intBits)
abbrev Tq (H:Hp)(p:Addr)(x:Int×Int):Prop:=H p=some (.tup [.int x.1,.int x.2])
structure Z4 (x:Int×Int):Prop where
 t:intBits x.1<=4400
 b:intBits x.2<=4400
 p:0<x.2
abbrev Is (ns:List Int):List V:=ns.map V.int
theorem cF (ns:List Int):(Is ns).length=ns.length:=aLo _
theorem j5 (xs:List Int)(y:Int):Is (xs++[y])=Is xs++[V.int y]:=by show (xs++[y]).map V.int=_; rw [aLB]; rfl
theorem qT {ns:List Int}{i:Nat}{v:V}(h:(Is ns)[i]? = some v):∃ n,ns[i]? = some n/\v=.int n:=by
 rw [aLH] at h;cases e:ns[i]? with
 | none=>rw [e] at h; cases h
 | some n=>rw [e] at h; cases h; exact ⟨n,rfl,rfl⟩
def O1:Sp:=fun vs H Q _=>∃ i lo hi:Int,vs=[.int i,.int lo,.int hi]/\lo<=i/\i<=hi/\Q (.bl true) H
def UV:Sp:=fun vs H Q _=>∃ i:Int,vs=[.int i]/\∀ p H',aR H H'->Tq H' p (i,1)->Q (.ref p) H'
def aAE:Sp:=fun vs H Q _=>∃ (p q:Addr) (x y:Int×Int),vs=[.ref p,.ref q]/\Tq H p x/\Tq H q y/\Z4 x/\Z4 y/\∀ r H',aR H H'->Tq H' r (Sd.pls x y)->Q (.ref r) H'
def Zr:Sp:=fun vs H Q _=>∃ (p q:Addr) (x y:Int×Int),vs=[.ref p,.ref q]/\Tq H p x/\Tq H q y/\Z4 x/\Z4 y/\∀ r H',aR H H'->Tq H' r (Sd.tms x y)->Q (.ref r) H'
def PK (K:PySem.W.Frag):Sp:=fun vs H Q _=>∃ p q a b c d,vs=[.ref p,.ref q]/\cY K H p [.int a,.int b]/\cY K H q [.int c,.int d]/\Sz a b c d/\(c*b<a*d->Q (.ref q) H)/\(¬ c*b<a*d->Q (.ref p) H)
def O3:Sp:=fun vs H Q _=>∃ (p q:Addr) (x y:Int×Int),vs=[.ref p,.ref q]/\Tq H p x/\Tq H q y/\Z4 x/\Z4 y/\Q (.bl (decide (x.1*y.2<y.1*x.2))) H
theorem gO {x:Int}{k:Nat}(h0:-(2^k)<x)(h1:x<2^k):intBits x<=k:=by
 refine PySem.intBits_le_iff.mpr ?_;have e:((2^k:Nat):Int)=2^k:=by push_cast; rfl
 omega
theorem uL {t b N k:Int}{n j:Nat}(f:Sd.Fq t b N k)(hN:0<N)(hn:N<=2^n)(k0:0<=k)(hj:k<=2^j):intBits b<=n+1/\intBits t<=n+j+1:=by
 have bp:=f.fr.pos;have bl:=aM6 hN f.dv;have e1:b<=2^n:=aLN bl hn;have e2:k*b<=2^j*2^n:=aLN (aLD hj (aLA bp)) (aLz e1 (aLA (Sd.bU j)));rw [<- aMv,aOb] at e2;have p1:(2:Int)^(n+1)=2*2^n:=by rw [aM2]; omega
 have p2:(2:Int)^(n+j+1)=2*2^(n+j):=by rw [aM2]; omega
 have q1:=Sd.bU n;have q2:=Sd.bU (n+j);have l:=f.lo;have h:=f.hi;exact ⟨gO (by omega) (by omega),gO (by omega) (by omega)⟩
structure GT (xs:List Row)(n:Nat)(W M k:Int):Prop where
 ne:xs≠[]
 len:xs.length<=n
 w1:∀ x∈xs,1<=x.w
 ws:wsum xs<=W
 mp:0<M
 fq:∀ x∈xs,Sd.Fq x.t x.b M k
structure Cp (n:Nat)(W M k:Int):Prop where
 n:n<=12
 w:W<=2^600
 m:M<=2^1600
 k0:0<=k
 k:k<=2^1600
theorem jO {xs:List Row}(w1:∀ x∈xs,1<=x.w):∀ {x:Row},x∈xs->x.w<=wsum xs:=by
 induction xs with
 | nil=>intro x h; cases h
 | cons y ys ih =>
  intro x hx;have e:wsum (y::ys)=y.w+wsum ys:=by unfold wsum; rw [aLw,aLI]
  have y1:=w1 y aLq;have n0:0<=wsum ys:=by
   clear ih hx
   induction ys with
   | nil=>exact aL2 _
   | cons z zs ih =>
    have e:wsum (z::zs)=z.w+wsum zs:=by unfold wsum; rw [aLw,aLI]
    have z1:=w1 z (aLp _ aLq);have:=ih (fun x hx=>by
     rcases aLF.mp hx with h | h
     ·subst h; exact y1
     ·exact w1 x (aLp _ (aLp _ h))) (by unfold wsum; rw [aLw,aLI])
    omega
  rcases aLF.mp hx with h | h
  ·subst h; omega
  ·have:=ih (fun x hx=>w1 x (aLp _ hx)) h;omega
theorem GT.bits {xs:List Row}{n:Nat}{W M k:Int}(g:GT xs n W M k)(c:Cp n W M k){x:Row}(hx:x∈xs):intBits x.b<=1601/\intBits x.t<=3201:=by
 have:=uL (g.fq x hx) g.mp c.m c.k0 c.k;omega
theorem GT.pb {xs:List Row}{n:Nat}{W M k:Int}(g:GT xs n W M k)(c:Cp n W M k):PB xs:=fun x hx=>by
 have b:=g.bits c hx;have w:=jO g.w1 hx;have w2:=g.ws;have w3:=c.w;have e:(2:Int)^600<=uZ:=by decide +kernel
 exact ⟨(g.fq x hx).fr,by omega,by omega,g.w1 x hx,by omega⟩
theorem GT.tot {xs:List Row}{n:Nat}{W M k:Int}(g:GT xs n W M k):1<=wsum xs:=by
 cases xs with
 | nil=>exact absurd rfl g.ne
 | cons x xs =>
  have:=jO g.w1 (x:=x) aLq;have:=g.w1 x aLq;omega
def M3 (H:Hp)(a:Addr)(xs:List Row):Prop:=H a=some (.tup (refs xs))/\∀ x∈xs,iD H x
def be:Nat->Nat
 | 0=>1
 | d+1=>be d+(12*(d+1)+1)
def ka:Nat->Nat
 | 0=>30
 | d+1=>ka d+(12*(d+1)+1)*12+1
def wB (d m:Nat):Int:=2^((12*d+1)*m)
def kK (d:Nat):Int:=2^ka d
theorem tU {d m:Nat}{M:Int}(hd:d<=4)(hm:m<=12)(hM:M<=2^(be d*m)):Cp m (wB d m) M (kK d):=by
 have b:be d<=125:=by
  rcases (by omega:d=0∨d=1∨d=2∨d=3∨d=4) with z | z | z | z | z <;> subst z <;> decide
 have a:ka d<=1600:=by
  rcases (by omega:d=0∨d=1∨d=2∨d=3∨d=4) with z | z | z | z | z <;> subst z <;> decide
 refine ⟨hm,Sd.dO ?_,aLN hM (Sd.dO ?_),aLA (Sd.bU _),Sd.dO a⟩
 ·calc (12*d+1)*m<=49*m:=aMD _ (by omega)
   _<=49*12:=aL7 _ hm
   _<=600:=by decide
 ·calc be d*m<=125*m:=aMD _ b
   _<=125*12:=aL7 _ hm
   _<=1600:=by decide
end TD
namespace Fr
theorem RJ {x y t b:Int}(f:fZ x y)(hb:b≠0)(e:x*b=t*y):(x,y)=sh t b:=by
 have q:=Kd (t:=t) hb;have c2:=lJ t b;generalize (sh t b)=z at *;obtain ⟨z1,z2⟩:=z;have k:b*(x*z2)=b*(z1*y):=by
  have k1:b*(x*z2)=(x*b)*z2:=by grind
  have k2:b*(z1*y)=(z1*b)*y:=by grind
  rw [k1,k2,c2,e]
  grind
 obtain ⟨a,c⟩:=unique f q (aNw hb k);rw [a,c]
end Fr
namespace Tb
def iV (l0 l1:Int)(r:Rw):Rw:=if l0*r.b<r.t*l1 then ⟨l0,l1,r.w⟩ else r
end Tb
namespace TD
open PySem L2
open Builtin.Int (intBits)
structure Ent where
 p:Addr
 w:Int
 a:Addr
 ys:List Row
def zT (H:Hp)(e:Ent):Prop:=H e.p=some (.tup [.int e.w,.ref e.a])/\TabAt H e.a e.ys
def pL (es:List Ent):List V:=es.map fun e=>V.ref e.p
structure xB (H:Hp)(a:Addr)(es:List Ent):Prop where
 lst:H a=some (.lst (pL es))
 ents:∀ e∈es,zT H e
theorem zT.same {H H':Hp}{e:Ent}(s:aR H H')(h:zT H e):zT H' e:=⟨s _ _ h.1,h.2.same s⟩
theorem xB.same {H H':Hp}{a:Addr}{es:List Ent}(s:aR H H')(h:xB H a es):xB H' a es:=⟨s _ _ h.lst,fun e he=>(h.ents e he).same s⟩
theorem pU (es:List Ent):(pL es).length=es.length:=aLo _
theorem Cy {es:List Ent}{i:Nat}{v:V}(h:(pL es)[i]? = some v):∃ x,es[i]? = some x/\v=.ref x.p:=by
 unfold pL at h;rw [aLH] at h;cases e:es[i]? with
 | none=>rw [e] at h; cases h
 | some x=>rw [e] at h; cases h; exact ⟨x,rfl,rfl⟩
theorem GF (xs:List Ent)(y:Ent):pL (xs++[y])=pL xs++[V.ref y.p]:=by unfold pL; rw [aLB]; rfl
def qY (S:Int)(e:Ent):Int:=e.w*S.fdiv (wsum e.ys)
def partsOf (S:Int)(es:List Ent):List Tb.Rw:=es.flatMap fun e=>e.ys.map fun y=>⟨y.t,y.b,qY S e*y.w⟩
def cV (es:List Ent):List Int:=es.map fun e=>wsum e.ys
theorem BV (S:Int)(es:List Ent)(e:Ent):partsOf S (es++[e])=partsOf S es++e.ys.map fun y=>⟨y.t,y.b,qY S e*y.w⟩:=by
 unfold partsOf;rw [aNq];simp
def bN (xs:List Row):Int:=dH (xs.map Row.b)
theorem Gb {m n:Int}(hn:0<n):dI m n=m*(Fr.sh m n).2:=by
 unfold dI Fr.sh Fr.dv;rw [if_neg (by omega)]
theorem CJ {m n M:Int}(hn:0<n)(h1:m∣M)(h2:n∣M):dI m n∣M:=by
 rw [Gb hn];obtain ⟨a,ea⟩:=h1;obtain ⟨b,eb⟩:=h2;have d1:=Fr.GJ m n;have d2:=Fr.Ao m n;have dn:=Fr.Mu (t:=m) (aLT hn);have h:(Fr.sh m n).2∣(Fr.sh m n).1*a:=by
  refine ⟨b,aMZ dn ?_⟩;have e1:(Fr.sh m n).1*a*Fr.dv m n=((Fr.sh m n).1*Fr.dv m n)*a:=by grind
  have e2:(Fr.sh m n).2*b*Fr.dv m n=((Fr.sh m n).2*Fr.dv m n)*b:=by grind
  rw [e1,e2,d1,d2,<- ea,<- eb]
 obtain ⟨c,hc⟩:=Fr.cop (Fr.Gk (t:=m) (aLT hn)) h;exact ⟨c,by rw [ea,hc]; grind⟩
theorem pM:∀ (ns:List Int) (m M:Int),(∀ n∈ns,0<n)->m∣M->(∀ n∈ns,n∣M)->ns.foldl dI m∣M
 | [],_,_,_,h,_=>h
 | n::ns,m,M,hp,h,hd=>pM ns _ M (fun k hk=>hp k (aLp _ hk)) (CJ (hp n aLq) h (hd n aLq)) fun k hk=>hd k (aLp _ hk)
theorem vU {ns:List Int}{M:Int}(hp:∀ n∈ns,0<n)(hd:∀ n∈ns,n∣M):dH ns∣M:=pM ns 1 M hp ⟨M,(aMK _).symm⟩ hd
theorem JR {ns:List Int}(hp:∀ n∈ns,0<n):dH ns<=Sd.dR ns:=aM6 (Sd.jG hp) (vU hp fun n hn=>Sd.lF hn)
theorem GT.bp {xs:List Row}{n:Nat}{W M k:Int}(g:GT xs n W M k):∀ b∈xs.map Row.b,0<b:=fun b hb=>by
 obtain ⟨x,hx,rfl⟩:=aLr.mp hb;exact (g.fq x hx).fr.pos
theorem GT.lcm {xs:List Row}{n:Nat}{W M k:Int}(g:GT xs n W M k):0<bN xs/\bN xs∣M/\∀ x∈xs,x.b∣bN xs:=by
 obtain ⟨a,b⟩:=pW g.bp;exact ⟨a,vU g.bp fun b hb=>by obtain ⟨x,hx,rfl⟩:=aLr.mp hb; exact (g.fq x hx).dv,fun x hx=>b _ (aLr.mpr ⟨x,hx,rfl⟩)⟩
theorem GT.own {xs:List Row}{n:Nat}{W M k:Int}(g:GT xs n W M k):GT xs n W (bN xs) k/\bN xs<=M:=by
 obtain ⟨a,b,c⟩:=g.lcm;exact ⟨⟨g.ne,g.len,g.w1,g.ws,a,fun x hx=>⟨(g.fq x hx).fr,c x hx,(g.fq x hx).lo,(g.fq x hx).hi⟩⟩,aM6 g.mp b⟩
theorem Hs {r:Tb.Rw}(hr:1<=r.w):∀ {ys:List Tb.Rw},ys.Pairwise Tb.Lt->(ys.map fun y=>if r.t=y.t/\r.b=y.b then r.w else 0).sum<=r.w
 | [],_=>by show (0:Int)<=r.w; omega
 | y::ys,h=>by
  obtain ⟨h1,h2⟩:=aML.mp h;rw [aLw,aLI]
  by_cases e:r.t=y.t/\r.b=y.b
  ·rw [if_pos e];have z:(ys.map fun y=>if r.t=y.t/\r.b=y.b then r.w else 0).sum=0:=by
    have:∀ zs:List Tb.Rw,(∀ z∈zs,Tb.Lt y z)->(zs.map fun y=>if r.t=y.t/\r.b=y.b then r.w else 0).sum=0:=by
     intro zs
     induction zs with
     | nil=>intro _; rfl
     | cons z zs ih =>
      intro hz;rw [aLw,aLI,ih fun x hx=>hz x (aLp _ hx),if_neg fun q=>Tb.Gd (hz z aLq) (e.1.symm.trans q.1) (e.2.symm.trans q.2)]
      rfl
    exact this ys h1
   omega
  ·rw [if_neg e];have:=Hs hr h2;omega
theorem Nj {ys:List Tb.Rw}(so:ys.Pairwise Tb.Lt):∀ {ps:List Tb.Rw},(∀ r∈ps,1<=r.w)->(ys.map fun y=>Tb.Wt ps y.t y.b).sum<=Tb.W ps
 | [],_=>by
  have:∀ zs:List Tb.Rw,(zs.map fun y=>Tb.Wt [] y.t y.b).sum=0:=by
   intro zs
   induction zs with
   | nil=>rfl
   | cons z zs ih=>rw [aLw,aLI,ih]; rfl
  rw [this];exact aL2 _
 | r::ps,h=>by
  have ih:=Nj so (ps:=ps) fun x hx=>h x (aLp _ hx);have k:=Hs (h r aLq) so;have e:∀ zs:List Tb.Rw,(zs.map fun y=>Tb.Wt (r::ps) y.t y.b).sum=(zs.map fun y=>if r.t=y.t/\r.b=y.b then r.w else 0).sum+(zs.map fun y=>Tb.Wt ps y.t y.b).sum:=by
   intro zs
   induction zs with
   | nil=>rfl
   | cons z zs ih =>
    rw [aLw,aLI,aLw,aLI,aLw,aLI,ih,Tb.gZ];omega
  rw [e,Tb.gW];omega
theorem Out.sum {ps:List Tb.Rw}{ys:List Row}(o:Out ps ys)(h:∀ r∈ps,1<=r.w):wsum ys<=Tb.W ps:=by
 have s:=Nj o.tab.lt h;have le:∀ zs:List Row,(∀ y∈zs,y.w<=Tb.Wt ps y.t y.b)->wsum zs<=((bO zs).map fun y=>Tb.Wt ps y.t y.b).sum:=by
  intro zs
  induction zs with
  | nil=>intro _; exact aL2 _
  | cons z zs ih =>
   intro hz;have e:wsum (z::zs)=z.w+wsum zs:=by unfold wsum; rw [aLw,aLI]
   have e2:bO (z::zs)=z.r::bO zs:=rfl;rw [e,e2,aLw,aLI];have h1:=hz z aLq;have h2:=ih fun y hy=>hz y (aLp _ hy);have h3:Tb.Wt ps z.r.t z.r.b=Tb.Wt ps z.t z.b:=rfl;omega
 exact aLN (le ys fun y hy=>(o.w y hy).2) s
structure GM (es:List Ent)(k0:Nat)(W0 kk:Int):Prop where
 ne:es≠[]
 len:es.length<=4
 k:k0<=12
 n:es.length*k0<=48
 w:∀ e∈es,1<=e.w/\e.w<=1000
 g:∀ e∈es,GT e.ys k0 W0 (bN e.ys) kk
 c:∀ e∈es,Cp k0 W0 (bN e.ys) kk
theorem GM.tp {es:List Ent}{k0:Nat}{W0 kk:Int}(g:GM es k0 W0 kk):∀ n∈cV es,0<n/\n<=2^600:=fun n hn=>by
 obtain ⟨e,he,rfl⟩:=aLr.mp hn;have:=(g.g e he).tot;have:=(g.g e he).ws;have:=(g.c e he).w;omega
theorem GM.tb {es:List Ent}{k0:Nat}{W0 kk:Int}(g:GM es k0 W0 kk):(∀ n∈cV es,intBits n<=601)/\((cV es).map intBits).sum<=2404:=by
 have e1:∀ n∈cV es,intBits n<=601:=fun n hn=>by
  have:=g.tp n hn;have p1:(2:Int)^601=2*2^600:=by rw [aM2]; omega
  have q1:=Sd.bU 600;exact gO (by omega) (by omega)
 have h:=lL (k:=601) (l:=(cV es).map intBits) fun n hn=>by
  obtain ⟨z,hz,rfl⟩:=aLr.mp hn;exact e1 z hz
 have l:=g.len;have e:((cV es).map intBits).length=es.length:=by rw [aLo]; unfold cV; rw [aLo]
 rw [e] at h;exact ⟨e1,by omega⟩
theorem GM.S {es:List Ent}{k0:Nat}{W0 kk:Int}(g:GM es k0 W0 kk):0<dH (cV es)/\dH (cV es)<=2^2400/\intBits (dH (cV es))<=2405/\∀ e∈es,wsum e.ys∣dH (cV es):=by
 have tp:∀ n∈cV es,0<n:=fun n hn=>(g.tp n hn).1;obtain ⟨a,b⟩:=pW tp;have l:=g.len;have pl:=Sd.Cm (e:=600) g.tp;have e:(cV es).length=es.length:=by unfold cV; rw [aLo]
 rw [e] at pl;have hb:=yP (cV es);have:=g.tb.2;exact ⟨a,aLN (aLN (JR tp) pl) (Sd.dO (by omega)),by omega,fun e he=>b _ (aLr.mpr ⟨e,he,rfl⟩)⟩
theorem Br {S:Int}{e:Ent}(hp:1<=wsum e.ys)(d:wsum e.ys∣S):qY S e*wsum e.ys=e.w*S:=by
 unfold qY;obtain ⟨s,es⟩:=d;have q1:S.fdiv (wsum e.ys)=s:=by rw [es]; exact aMF _ (by omega)
 rw [q1,es]
 grind
theorem Q5 {S:Int}{e:Ent}(hw:1<=e.w)(hp:1<=wsum e.ys)(hS:0<S)(d:wsum e.ys∣S):1<=qY S e:=by
 have h:=Br hp d;have p:0<e.w*S:=aLY (by omega) hS;rcases Int.lt_or_le 0 (qY S e) with z | z
 ·omega
 ·have:=aM7 z (show (0:Int)<=wsum e.ys by omega);omega
theorem GM.part {es:List Ent}{k0:Nat}{W0 kk:Int}(g:GM es k0 W0 kk){e:Ent}(he:e∈es){y:Row}(hy:y∈e.ys):1<=qY (dH (cV es)) e*y.w/\qY (dH (cV es)) e*y.w<=1000*dH (cV es):=by
 obtain ⟨Sp,_,_,Sd'⟩:=g.S;have ge:=g.g e he;have w:=g.w e he;have f1:=Q5 w.1 ge.tot Sp (Sd' e he);have y1:=ge.w1 y hy;have y2:=jO ge.w1 hy;have a:=Br ge.tot (Sd' e he);have b:=aLz y2 (show 0<=qY (dH (cV es)) e by omega);have c:=aLD w.2 (aLA Sp);have d:1*1<=qY (dH (cV es)) e*y.w:=Int.mul_le_mul f1 y1 (by decide) (by omega);omega
theorem GM.pb {es:List Ent}{k0:Nat}{W0 kk:Int}(g:GM es k0 W0 kk){e:Ent}(he:e∈es){y:Row}(hy:y∈e.ys):Fr.fZ y.t y.b/\intBits y.t<=4000/\intBits y.b<=4000/\1<=qY (dH (cV es)) e*y.w/\qY (dH (cV es)) e*y.w<=uZ:=by
 have b:=(g.g e he).bits (g.c e he) hy;have p:=g.part he hy;have s:=g.S.2.1;have m:(1000:Int)*2^2400<=uZ:=by decide +kernel
 exact ⟨((g.g e he).fq y hy).fr,by omega,by omega,p.1,by omega⟩
theorem Iv {S:Int}:∀ {es:List Ent},(∀ e∈es,1<=wsum e.ys/\wsum e.ys∣S/\e.w<=1000)->0<=S->Tb.W (partsOf S es)<=1000*(es.length:Int)*S
 | [],_,_=>by show (0:Int)<=_; simp
 | e::es,h,hS=>by
  have ih:=Iv (es:=es) (fun x hx=>h x (aLp _ hx)) hS;obtain ⟨h1,h2,h3⟩:=h e aLq;have e1:partsOf S (e::es)=(e.ys.map fun y=>⟨y.t,y.b,qY S e*y.w⟩)++partsOf S es:=rfl;have e2:∀ zs:List Row,Tb.W (zs.map fun y=>(⟨y.t,y.b,qY S e*y.w⟩:Tb.Rw))=qY S e*wsum zs:=by
   intro zs
   induction zs with
   | nil=>show (0:Int)=_*0; simp
   | cons z zs ih =>
    have e:wsum (z::zs)=z.w+wsum zs:=by unfold wsum; rw [aLw,aLI]
    rw [aLw,Tb.gW,ih,e,Int.mul_add]
  rw [e1,Tb.Ds,e2,Br h1 h2,aL0];have:=aLD h3 hS
  push_cast
  have e3:1000*((es.length:Int)+1)*S=1000*(es.length:Int)*S+1000*S:=by grind
  rw [e3];omega
theorem Jl {S:Int}{es:List Ent}{t b:Int}(h:Tb.j9 (partsOf S es) t b):∃ e∈es,∃ y∈e.ys,y.t=t/\y.b=b:=by
 obtain ⟨p,hp,e1,e2⟩:=h;obtain ⟨e,he,hq⟩:=aM3.mp hp;obtain ⟨y,hy,rfl⟩:=aLr.mp hq;exact ⟨e,he,y,hy,e1,e2⟩
theorem GM.out {es:List Ent}{k0:Nat}{W0 kk:Int}{ys:List Row}(g:GM es k0 W0 kk)(o:Out (partsOf (dH (cV es)) es) ys)(hl:ys.length<=es.length*k0) :
  GT ys (es.length*k0) (4000*Sd.dR (cV es)) (Sd.dR (es.map fun e=>bN e.ys)) kk:=by
 obtain ⟨Sp,_,_,Sd'⟩:=g.S;have tp:∀ n∈cV es,0<n:=fun n hn=>(g.tp n hn).1;have pw:∀ r∈partsOf (dH (cV es)) es,1<=r.w:=fun r hr=>by
  obtain ⟨e,he,hq⟩:=aM3.mp hr;obtain ⟨y,hy,rfl⟩:=aLr.mp hq;exact (g.part he hy).1
 have pne:partsOf (dH (cV es)) es≠[]:=by
  cases es with
  | nil=>exact absurd rfl g.ne
  | cons e es =>
   intro z;have h1:=(List.append_eq_nil_iff.mp (show (e.ys.map fun y=>(⟨y.t,y.b,qY _ e*y.w⟩:Tb.Rw))++partsOf _ es=[] from z)).1;exact (g.g e aLq).ne (aMd.mp h1)
 have wp:=Iv (S:=dH (cV es)) (es:=es) (fun e he=>⟨(g.g e he).tot,Sd' e he,(g.w e he).2⟩) (aLA Sp);have sl:=JR tp;have l:=g.len;have mpos:∀ n∈es.map (fun e=>bN e.ys),0<n:=fun n hn=>by
  obtain ⟨e,he,rfl⟩:=aLr.mp hn;exact (g.g e he).mp
 refine ⟨o.ne pne,hl,fun y hy=>(o.w y hy).1,?_,Sd.jG mpos,fun y hy=>?_⟩
 ·have a:=o.sum pw;have b:1000*(es.length:Int)*dH (cV es)<=4000*dH (cV es):=aLD (by omega) (aLA Sp);omega
 ·obtain ⟨p,hp,e1,e2⟩:=o.key hy;obtain ⟨e,he,z,hz,e3,e4⟩:=Jl ⟨p,hp,e1,e2⟩;have f:=(g.g e he).fq z hz;rw [e3,e4] at f;exact Sd.Fq.mono f (Sd.lF (aLr.mpr ⟨e,he,rfl⟩)) (aL2 _)
theorem GT.cm {xs:List Row}{n:Nat}{W M k:Int}(g:GT xs n W M k):Tb.CM (bN xs) (bO xs):=by
 obtain ⟨a,b,c⟩:=g.lcm;refine ⟨a,fun r hr=>?_⟩;obtain ⟨x,hx,rfl⟩:=aLr.mp hr;exact ⟨(g.fq x hx).fr.pos,c x hx⟩
theorem GT.tab {xs:List Row}{n:Nat}{W M k:Int}(g:GT xs n W M k)(so:(bO xs).Pairwise Tb.Lt):Tb.Tab (bN xs) (bO xs) :=
 ⟨g.cm,fun r hr=>by obtain ⟨x,hx,rfl⟩:=aLr.mp hr; exact g.w1 x hx,so.imp fun h=>aLA h⟩
theorem aFM {B k:Int}{r:Tb.Rw}(hb:0<r.b)(hB:0<B)(d:r.b∣B)(lo:-(k*r.b)<=r.t)(hi:r.t<=k*r.b):-(k*B)<=Tb.T B r/\Tb.T B r<=k*B:=by
 obtain ⟨c,hc,e,q⟩:=Tb.cof hb hB d;unfold Tb.T;rw [q,e];have h1:=aLD lo (aLA hc);have h2:=aLD hi (aLA hc);have e1:-(k*r.b)*c = -(k*(r.b*c)):=by grind
 have e2:k*r.b*c=k*(r.b*c):=by grind
 rw [e1] at h1;rw [e2] at h2;exact ⟨h1,h2⟩
theorem Qo {B k:Int}(kB:0<=k*B):∀ {rs:List Tb.Rw},(∀ r∈rs,1<=r.w/\-(k*B)<=Tb.T B r/\Tb.T B r<=k*B)->-(k*B*Tb.W rs)<=Tb.WT B rs/\Tb.WT B rs<=k*B*Tb.W rs
 | [],_=>by simp [Tb.W,Tb.WT]
 | r::rs,h=>by
  obtain ⟨a,b⟩:=Qo kB (rs:=rs) fun x hx=>h x (aLp _ hx);obtain ⟨w1,l,u⟩:=h r aLq;rw [Tb.uN,Tb.gW];have h1:=aLz l (show 0<=r.w by omega);have h2:=aLz u (show 0<=r.w by omega);have e1:r.w * -(k*B) = -(k*B*r.w):=by grind
  have e2:r.w*(k*B)=k*B*r.w:=by grind
  have e3:k*B*(r.w+Tb.W rs)=k*B*r.w+k*B*Tb.W rs:=by grind
  rw [e1] at h1;rw [e2] at h2;rw [e3];omega
theorem Rx {rs:List Tb.Rw}(h:∀ r∈rs,1<=r.w)(j:Nat):0<=Tb.W (rs.drop j)/\Tb.W (rs.drop j)<=Tb.W rs:=by
 have nn:∀ zs:List Tb.Rw,(∀ r∈zs,1<=r.w)->0<=Tb.W zs:=by
  intro zs
  induction zs with
  | nil=>intro _; exact aL2 _
  | cons z zs ih =>
   intro hz;rw [Tb.gW];have:=hz z aLq;have:=ih fun x hx=>hz x (aLp _ hx);omega
 have e:Tb.W rs=Tb.W (rs.take j)+Tb.W (rs.drop j):=by rw [<- Tb.Ds,aMe]
 have a:=nn (rs.take j) fun r hr=>h r (List.mem_of_mem_take hr);have b:=nn (rs.drop j) fun r hr=>h r (aM0 hr);omega
theorem GT.lp {xs:List Row}{n:Nat}{W M k p tops ws:Int}{i:Nat}(g:GT xs n W M k)(k0:0<=k)(p0:0<=p)(l:Tb.Lp (bN xs) (p*Tb.W (bO xs)*bN xs) (bO xs) i tops ws) :
  0<=ws/\ws<=wsum xs/\-((p+k)*wsum xs*bN xs)<=tops/\tops<=(p+k)*wsum xs*bN xs:=by
 have cm:=g.cm;have Bp:=cm.pos;have w1:∀ r∈bO xs,1<=r.w:=fun r hr=>by obtain ⟨x,hx,rfl⟩:=aLr.mp hr; exact g.w1 x hx
 have wd:=Rx w1 ((bO xs).length-i);have kB:0<=k*bN xs:=aMm k0 (aLA Bp);have wt:=Qo kB (rs:=(bO xs).drop ((bO xs).length-i)) fun r hr=>by
  obtain ⟨x,hx,rfl⟩:=aLr.mp (aM0 hr);have f:=g.fq x hx;exact ⟨g.w1 x hx,aFM (r:=x.r) f.fr.pos Bp (g.lcm.2.2 x hx) f.lo f.hi⟩
 have ew:=l.ew;have et:=l.et;rw [<- ew] at wd wt;have m:=aLz wd.2 kB;have P0:0<=p*Tb.W (bO xs)*bN xs:=aMm (aMm p0 (by omega)) (aLA Bp);have e:(p+k)*wsum xs*bN xs=p*Tb.W (bO xs)*bN xs+k*bN xs*Tb.W (bO xs):=by rw [jM]; grind
 rw [e,jM];exact ⟨wd.1,wd.2,by omega,by omega⟩
theorem TY {tops ws B k:Int}(hw:1<=ws)(hB:0<B)(k0:0<=k)(lo:-(k*B)<=tops)(hi:tops<=k*B):Sd.FQ (Fr.sh tops (ws*B)) (ws*B) k:=by
 have p:0<ws*B:=aLY (by omega) hB;have kb:0<=k*B:=aMm k0 (aLA hB);have e:k*(ws*B)=k*B*ws:=by grind
 have h:k*B*1<=k*B*ws:=aLz hw kb;exact Sd.Hv (u:=tops) p rfl (by rw [e]; omega) (by rw [e]; omega)
def RG:Sp:=fun vs H Q _=>∃ (a:Addr) (xs:List Row) (p:Int) (n:Nat) (W k:Int),vs=[.ref a,.int p]/\TabAt H a xs/\GT xs n W (bN xs) k/\Cp n W (bN xs) k/\(bO xs).Pairwise Tb.Lt/\0<=p/\p<=1000000000 ∧
 ∀ (r:Addr) (H':Hp) (l:Int×Int) (u:Int),aR H H'->Tq H' r l->1<=u->u<=wsum xs->Sd.FQ l (u*bN xs) ((p+k)*wsum xs)->Tb.Lv (bN xs) (p*Tb.W (bO xs)*bN xs) l.1 l.2 (bO xs)->Q (.ref r) H'
theorem U8 {xs ys:List Row}{n:Nat}{W M k l0 l1:Int}(g:GT xs n W M k)(f:Sd.Fq l0 l1 M k)(o:Out ((bO xs).map (Tb.iV l0 l1)) ys)(hl:ys.length<=xs.length):GT ys n W M k:=by
 have cw:∀ r:Tb.Rw,(Tb.iV l0 l1 r).w=r.w:=fun r=>by unfold Tb.iV; split <;> rfl
 have pw:∀ r∈(bO xs).map (Tb.iV l0 l1),1<=r.w:=fun r hr=>by
  obtain ⟨p,hp,rfl⟩:=aLr.mp hr;obtain ⟨x,hx,rfl⟩:=aLr.mp hp;rw [cw];exact g.w1 x hx
 have eW:∀ rs:List Tb.Rw,Tb.W (rs.map (Tb.iV l0 l1))=Tb.W rs:=by
  intro rs
  induction rs with
  | nil=>rfl
  | cons r rs ih=>rw [aLw,Tb.gW,Tb.gW,ih,cw]
 have s:=o.sum pw;rw [eW,<- jM] at s;refine ⟨o.ne fun z=>g.ne (aMd.mp (aMd.mp z)),aLv hl g.len,fun y hy=>(o.w y hy).1,aLN s g.ws,g.mp,fun y hy=>?_⟩;obtain ⟨p,hp,e1,e2⟩:=o.key hy;obtain ⟨q,hq,rfl⟩:=aLr.mp hp;obtain ⟨x,hx,rfl⟩:=aLr.mp hq;rw [<- e1,<- e2];unfold Tb.iV
 split
 ·exact f
 ·exact g.fq x hx
def MJ (Pt:Addr)(lp:Pos):Sp:=fun vs H Q _=>∃ (a l:Addr) (xs:List Row) (x:Int×Int) (n:Nat) (W M k:Int),vs=[.ref a,.ref l]/\TabAt H a xs/\GT xs n W M k/\Cp n W M k/\Tq H l x/\Sd.FQ x M k/\cA Pt lp d8 H ∧
 ∀ (r:Addr) (H':Hp) (ys:List Row),bH Pt H H'->cA Pt lp d8 H'->H r=none->TabAt H' r ys->GT ys n W M k->Out ((bO xs).map (Tb.iV x.1 x.2)) ys->Q (.ref r) H'
def LC (Pt:Addr)(lp:Pos):Sp:=fun vs H Q _=>∃ (a:Addr) (es:List Ent) (k0:Nat) (W0 kk:Int),vs=[.ref a]/\xB H a es/\GM es k0 W0 kk/\cA Pt lp d8 H ∧
 ∀ (r:Addr) (H':Hp) (ys:List Row),bH Pt H H'->cA Pt lp d8 H'->H r=none->TabAt H' r ys->GT ys (es.length*k0) (4000*Sd.dR (cV es)) (Sd.dR (es.map fun e=>bN e.ys)) kk->Out (partsOf (dH (cV es)) es) ys->ys.length<=(partsOf (dH (cV es)) es).length->Q (.ref r) H'
def By (xs:List Row)(d m:Nat):Prop:=GT xs m (wB d m) (bN xs) (kK d)/\bN xs<=2^(be d*m)
theorem By.up {xs:List Row}{d k:Nat}(h:By xs d k)(hk:k<=12):By xs d 12:=by
 obtain ⟨g,l⟩:=h;have a:wB d k<=wB d 12:=Sd.dO (aL7 _ hk);exact ⟨⟨g.ne,aLv g.len hk,g.w1,aLN g.ws a,g.mp,g.fq⟩,aLN l (Sd.dO (aL7 _ hk))⟩
inductive Ae (d:Nat)(f:Int×Sd.Sd->Nat):List Ent->List (Int×Sd.Sd)->Prop
 | nil:Ae d f [] []
 | cons {e:Ent}{t:Int×Sd.Sd}{es:List Ent}{rs:List (Int×Sd.Sd)} (g:By e.ys d (f t)) (h:Ae d f es rs):Ae d f (e::es) (t::rs)
theorem Ae.snoc {d:Nat}{f:Int×Sd.Sd->Nat}{es:List Ent}{rs:List (Int×Sd.Sd)}(h:Ae d f es rs){e:Ent}{t:Int×Sd.Sd}(g:By e.ys d (f t)):Ae d f (es++[e]) (rs++[t]):=by
 induction h with
 | nil=>exact .cons g .nil
 | cons g' _ ih=>exact .cons g' ih
structure AeB (d n:Nat)(es:List Ent):Prop where
 t0:0<Sd.dR (cV es)
 t:Sd.dR (cV es)<=2^((12*d+1)*n)
 l:Sd.dR (es.map fun e=>bN e.ys)<=2^(be d*n)
 p:∀ S,(partsOf S es).length<=n
theorem Ae.b {d:Nat}{f:Int×Sd.Sd->Nat}{es:List Ent}{rs:List (Int×Sd.Sd)}(h:Ae d f es rs):AeB d (rs.map f).sum es:=by
 induction h with
 | nil=>exact ⟨by decide,by show (1:Int)<=_; simp,by show (1:Int)<=_; simp,fun _=>aLQ _⟩
 | @cons e t es rs g _ ih =>
  have a:=g.1.tot;have b:=g.1.ws;unfold wB at b;have c:=g.1.mp;have e1:cV (e::es)=wsum e.ys::cV es:=rfl;have lp:0<Sd.dR (es.map fun e=>bN e.ys)∨True:=.inr trivial;rw [aLw,aLI];refine ⟨?_,?_,?_,fun S=>?_⟩
  ·rw [e1]; exact aLY (by omega) ih.t0
  ·rw [e1,aNW,aMv];exact aLN (aLD b (aLA ih.t0)) (aLz ih.t (aLA (Sd.bU _)))
  ·rw [aLw,aNW,aMv];exact aLN (aLz ih.l (aLA c)) (aLD g.2 (aLA (Sd.bU _)))
  ·have e2:partsOf S (e::es)=(e.ys.map fun y=>⟨y.t,y.b,qY S e*y.w⟩)++partsOf S es:=rfl;rw [e2,aLP,aLo];have:=g.1.len;have:=ih.p S;omega
theorem Ae.all {d:Nat}{f:Int×Sd.Sd->Nat}{es:List Ent}{rs:List (Int×Sd.Sd)}(h:Ae d f es rs)(hf:∀ t∈rs,f t<=12):∀ e∈es,By e.ys d 12:=by
 induction h with
 | nil=>intro e he; cases he
 | @cons e t es rs g _ ih =>
  intro x hx;rcases aLF.mp hx with z | z
  ·subst z; exact g.up (hf t aLq)
  ·exact ih (fun u hu=>hf u (aLp _ hu)) x z
theorem Zn {es:List Ent}{d:Nat}(hd:d<=4)(ne:es≠[])(l4:es.length<=4)(w:∀ e∈es,1<=e.w/\e.w<=1000)(g:∀ e∈es,By e.ys d 12):GM es 12 (wB d 12) (kK d) :=
 ⟨ne,l4,by decide,by omega,w,fun e he=>(g e he).1,fun e he=>tU hd (by decide) (g e he).2⟩
structure Mx (es:List Ent)(ys:List Row)(d m:Nat):Prop where
 g:GT ys m (wB (d+1) m) (bN ys) (kK d)
 l:bN ys<=2^(be d*m)
theorem aAf {es:List Ent}{ys:List Row}{d m n n0:Nat}(ab:AeB d n es)(hn:n<=m)(hm1:1<=m)(o:ys.length<=n)(h:GT ys n0 (4000*Sd.dR (cV es)) (Sd.dR (es.map fun e=>bN e.ys)) (kK d)):Mx es ys d m:=by
 have x2:(12*d+1)*n<=(12*d+1)*m:=aL7 _ hn;have x3:12+(12*d+1)*m<=(12*(d+1)+1)*m:=by
  have:(12*(d+1)+1)*m=12*m+(12*d+1)*m:=by rw [show 12*(d+1)+1=12+(12*d+1) by omega,aOj]
  omega
 have y2:be d*n<=be d*m:=aL7 _ hn;have W1:4000*Sd.dR (cV es)<=wB (d+1) m:=by
  have a:4000*Sd.dR (cV es)<=2^12*Sd.dR (cV es):=aLD (by decide) (aLA ab.t0);have b:(2:Int)^12*Sd.dR (cV es)<=2^12*2^((12*d+1)*n):=aLz ab.t (by decide);rw [<- aMv] at b;have c:(2:Int)^(12+(12*d+1)*n)<=wB (d+1) m:=Sd.dO (by omega);omega
 obtain ⟨o1,o2⟩:=h.own;have M1:bN ys<=2^(be d*m):=aLN (aLN o2 ab.l) (Sd.dO (by omega));exact ⟨⟨o1.ne,aLv o hn,o1.w1,aLN o1.ws W1,o1.mp,o1.fq⟩,M1⟩
theorem Mx.cp {es:List Ent}{ys:List Row}{d m:Nat}(x:Mx es ys d m)(hd:d+1<=4)(hm:m<=12):Cp m (wB (d+1) m) (bN ys) (kK d):=by
 have a:=tU (d:=d) (by omega) hm x.l;have b:=tU (d:=d+1) (m:=m) (M:=1) hd hm (by have:=Sd.bU (be (d+1)*m); omega);exact ⟨hm,b.w,a.m,a.k0,a.k⟩
theorem k30 (d:Nat):(1000000000:Int)<=kK d:=by
 have h:30<=ka d:=by
  induction d with
  | zero=>exact aLu _
  | succ d ih=>show 30<=ka d+(12*(d+1)+1)*12+1; omega
 have:=Sd.dO h;have e:(2:Int)^30=1073741824:=by decide
 unfold kK;omega
structure Lx (ys:List Row)(l:Int×Int)(M k:Int)(d m:Nat):Prop where
 g:GT ys m (wB (d+1) m) M k
 c:Cp m (wB (d+1) m) M k
 f:Sd.FQ l M k
 m:M<=2^(be (d+1)*m)
 k:k<=kK (d+1)
theorem Vn {es:List Ent}{ys:List Row}{d m:Nat}{p u:Int}{l:Int×Int}(x:Mx es ys d m)(hd:d+1<=4)(hm:m<=12)(p0:0<=p)(p9:p<=1000000000)(u1:1<=u)(u2:u<=wsum ys)(f:Sd.FQ l (u*bN ys) ((p+kK d)*wsum ys)) :
  Lx ys l (u*bN ys) ((p+kK d)*wsum ys) d m:=by
 have kp:=Sd.bU (ka d);have kp:0<kK d:=kp;have k9:=k30 d;have ws:=x.g.ws;have w1:=x.g.tot;have mp:=x.g.mp;have wp:(0:Int)<wB (d+1) m:=Sd.bU _;have kk:kK d<=(p+kK d)*wsum ys:=by
  have a:(p+kK d)*1<=(p+kK d)*wsum ys:=aLz w1 (by omega);omega
 have M1:u*bN ys<=2^(be (d+1)*m):=by
  have a:u*bN ys<=wB (d+1) m*2^(be d*m):=aLN (aLD (aLN u2 ws) (aLA mp)) (aLz x.l (aLA wp));unfold wB at a;rw [<- aMv] at a;refine aLN a (Sd.dO ?_);have e:be (d+1)*m=be d*m+(12*(d+1)+1)*m:=by rw [<- aOj]; rfl
  omega
 have K1:(p+kK d)*wsum ys<=kK (d+1):=by
  have a:(p+kK d)*wsum ys<=(2*kK d)*wB (d+1) m:=aLN (aLD (by omega) (by omega)) (aLz ws (by omega));have e:(2*kK d)*wB (d+1) m=2^(ka d+1+(12*(d+1)+1)*m):=by
   unfold kK wB;rw [aMv,aM2]
   grind
  rw [e] at a;refine aLN a (Sd.dO ?_);show _<=ka d+(12*(d+1)+1)*12+1;have:=aL7 (12*(d+1)+1) hm;omega
 have c1:=tU (d:=d+1) hd hm M1;refine ⟨⟨x.g.ne,x.g.len,x.g.w1,x.g.ws,aLY (by omega) mp,fun y hy=>Sd.Fq.mono (x.g.fq y hy) ⟨u,by grind⟩ kk⟩,⟨hm,c1.w,c1.m,by omega,aLN K1 c1.k⟩,f,M1,K1⟩
theorem aAX {ys zs:List Row}{l:Int×Int}{M k:Int}{d m:Nat}(x:Lx ys l M k d m)(g:GT zs m (wB (d+1) m) M k):By zs (d+1) m:=by
 obtain ⟨a,b⟩:=g.own;exact ⟨⟨a.ne,a.len,a.w1,a.ws,a.mp,fun y hy=>Sd.Fq.mono (a.fq y hy) (aMu _) x.k⟩,aLN b x.m⟩
end TD
namespace Sd
def V (x:Int×Int):Rat:=(x.1:Rat)/(x.2:Rat)
def uJ (a b:Rat):Rat:=if a<b then b else a
def rb (l:Rat):Nat->Sd->Rat
 | 0,_=>0
 | _+1,.en v=>uJ l (v:Rat)
 | n+1,.st p rs=>uJ l (rs.foldl (fun a r=>a+(r.1:Rat)/(dD rs:Rat)*rb l n r.2) (-(p:Rat)))
def opr (l:Rat):Nat->Sd->Rat
 | 0,_=>0
 | _+1,.en v=>(v:Rat)
 | n+1,.st p rs=>rs.foldl (fun a r=>a+(r.1:Rat)/(dD rs:Rat)*rb l n r.2) (-(p:Rat))
theorem UG (l:Rat)(n:Nat)(s:Sd):rb l (n+1) s=uJ l (opr l (n+1) s):=by cases s <;> rfl
theorem gH {b:Int}(h:0<b):(0:Rat)<(b:Rat):=by exact_mod_cast h
theorem eV {b:Int}(h:0<b):(b:Rat)≠0:=by have:=gH h; grind
theorem QF {t b:Int}(h:0<b):V (Fr.sh t b)=(t:Rat)/(b:Rat):=by
 have c:=Fr.lJ t b;have p:=Fr.wI (t:=t) (aLT h);have c':((Fr.sh t b).1:Rat)*(b:Rat)=(t:Rat)*((Fr.sh t b).2:Rat):=by exact_mod_cast c
 have n1:=eV h;have n2:=eV p;unfold V
 grind
theorem aBt {x y:Int×Int}(hx:0<x.2)(hy:0<y.2):V (pls x y)=V x+V y:=by
 unfold pls;rw [QF (aLY hx hy)];have n1:=eV hx;have n2:=eV hy;unfold V
 push_cast
 grind
theorem aBz {x y:Int×Int}(hx:0<x.2)(hy:0<y.2):V (tms x y)=V x*V y:=by
 unfold tms;rw [QF (aLY hx hy)];have n1:=eV hx;have n2:=eV hy;unfold V
 push_cast
 grind
theorem V_lt {x y:Int×Int}(hx:0<x.2)(hy:0<y.2):x.1*y.2<y.1*x.2↔V x<V y:=by
 have p1:=gH hx;have p2:=gH hy;have n1:=eV hx;have n2:=eV hy;have e1:V x*(x.2:Rat)=(x.1:Rat):=by unfold V; grind
 have e2:V y*(y.2:Rat)=(y.1:Rat):=by unfold V; grind
 have pp:(0:Rat)<(x.2:Rat)*(y.2:Rat):=Rat.mul_pos p1 p2;have c:x.1*y.2<y.1*x.2↔(x.1:Rat)*(y.2:Rat)<(y.1:Rat)*(x.2:Rat):=by
  constructor
  ·intro h; exact_mod_cast h
  ·intro h; exact_mod_cast h
 rw [c,<- e1,<- e2];constructor
 ·intro h
  by_cases z:V x<V y
  ·exact z
  ·have:=aMo (aNN.mp z) (c:=(x.2:Rat)*(y.2:Rat)) (by grind)
   grind
 ·intro h;have:=aNr h pp
  grind
theorem RL {x y:Int×Int}(hx:0<x.2)(hy:0<y.2):V (grt x y)=uJ (V x) (V y):=by
 unfold grt uJ
 by_cases h:x.1*y.2<y.1*x.2
 ·rw [if_pos h,if_pos ((V_lt hx hy).mp h)]
 ·rw [if_neg h,if_neg (fun z=>h ((V_lt hx hy).mpr z))]
theorem RQ {x y:Int×Int}(fx:Fr.fZ x.1 x.2)(fy:Fr.fZ y.1 y.2)(h:V x=V y):x=y:=by
 have n1:=eV fx.pos;have n2:=eV fy.pos;have c:(x.1:Rat)*(y.2:Rat)=(y.1:Rat)*(x.2:Rat):=by unfold V at h; grind
 have c':x.1*y.2=y.1*x.2:=by exact_mod_cast c
 have e:=Fr.RJ fx (aLT fy.pos) c';have e2:=Fr.RJ fy (aLT fy.pos) (rfl:y.1*y.2=y.1*y.2);exact e.trans e2.symm
def cv (r:Tb.Rw):Rat:=(r.t:Rat)/(r.b:Rat)
def up (l:Rat)(ys:List Tb.Rw):Rat:=(ys.map fun r=>(r.w:Rat)*(uJ l (cv r)-l)).sum
def bR (ys:List Tb.Rw):Rat:=(ys.map fun r=>(r.w:Rat)).sum
theorem rJ (l:Rat):up l []=0:=rfl
theorem gP (l:Rat)(r:Tb.Rw)(ys:List Tb.Rw):up l (r::ys)=(r.w:Rat)*(uJ l (cv r)-l)+up l ys:=by unfold up; rw [aLw,aLI]
theorem gJ (r:Tb.Rw)(ys:List Tb.Rw):bR (r::ys)=(r.w:Rat)+bR ys:=by unfold bR; rw [aLw,aLI]
theorem Js (l:Rat)(xs ys:List Tb.Rw):up l (xs++ys)=up l xs+up l ys:=by unfold up; rw [aLB,aNP]
theorem Dj (xs ys:List Tb.Rw):bR (xs++ys)=bR xs+bR ys:=by unfold bR; rw [aLB,aNP]
theorem lV:∀ ys:List Tb.Rw,bR ys=((Tb.W ys:Int):Rat)
 | []=>rfl
 | r::ys=>by rw [gJ,Tb.gW,lV ys]; push_cast; rfl
theorem Iu {f:Int->Int->Rat}{r:Tb.Rw}:∀ {ys:List Tb.Rw},ys.Pairwise Tb.Lt->((ys.map fun y=>(((if r.t=y.t/\r.b=y.b then r.w else 0:Int)):Rat)*f y.t y.b).sum=if (∃ y∈ys,y.t=r.t/\y.b=r.b) then (r.w:Rat)*f r.t r.b else 0)
 | [],_=>by simp
 | y::ys,so=>by
  obtain ⟨h1,h2⟩:=aML.mp so;rw [aLw,aLI,Iu (f:=f) (r:=r) h2]
  by_cases e:r.t=y.t/\r.b=y.b
  ·have no:¬ ∃ z∈ys,z.t=r.t/\z.b=r.b:=by
    rintro ⟨z,hz,e1,e2⟩;exact Tb.Gd (h1 z hz) (by omega) (by omega)
   rw [if_pos e,if_neg no,if_pos ⟨y,aLq,e.1.symm,e.2.symm⟩,<- e.1,<- e.2]
   grind
  ·rw [if_neg e]
   by_cases h:∃ z∈ys,z.t=r.t/\z.b=r.b
   ·obtain ⟨z,hz,ez⟩:=h;rw [if_pos ⟨z,hz,ez⟩,if_pos ⟨z,aLp _ hz,ez⟩]
    push_cast
    grind
   ·rw [if_neg h,if_neg]
    ·push_cast
     grind
    ·rintro ⟨z,hz,ez⟩;rcases aLF.mp hz with w | w
     ·subst w; exact e ⟨ez.1.symm,ez.2.symm⟩
     ·exact h ⟨z,w,ez⟩
theorem Hz {α:Type}{f g:α->Rat}:∀ l:List α,(l.map fun x=>f x+g x).sum=(l.map f).sum+(l.map g).sum
 | []=>by show (0:Rat)=0+0; grind
 | x::l=>by rw [aLw,aLI,Hz l,aLw,aLI,aLw,aLI]; grind
theorem uM {α:Type}{f:α->Rat}(d:Rat):∀ l:List α,(l.map fun x=>d*f x).sum=d*(l.map f).sum
 | []=>by simp
 | x::l=>by rw [aLw,aLI,uM d l,aLw,aLI]; grind
theorem wN {ys:List Tb.Rw}(so:ys.Pairwise Tb.Lt)(f:Int->Int->Rat):∀ {ps:List Tb.Rw},(∀ r∈ps,Tb.j9 ys r.t r.b)->(ps.map fun r=>(r.w:Rat)*f r.t r.b).sum=(ys.map fun y=>((Tb.Wt ps y.t y.b:Int):Rat)*f y.t y.b).sum
 | [],_=>by
  have e:(ys.map fun y=>((Tb.Wt [] y.t y.b:Int):Rat)*f y.t y.b)=ys.map fun y=>(0:Rat)*f y.t y.b:=aL6 fun y _=>rfl;rw [e,uM];simp
 | r::ps,h=>by
  rw [aLw,aLI,wN so f fun x hx=>h x (aLp _ hx)];have e:(ys.map fun y=>((Tb.Wt (r::ps) y.t y.b:Int):Rat)*f y.t y.b)=ys.map fun y=>(((if r.t=y.t/\r.b=y.b then r.w else 0:Int)):Rat)*f y.t y.b+((Tb.Wt ps y.t y.b:Int):Rat)*f y.t y.b:=aL6 fun y _=>by
   rw [Tb.gZ]
   push_cast
   grind
  rw [e,Hz,Iu so,if_pos];obtain ⟨y,hy,e1,e2⟩:=h r aLq;exact ⟨y,hy,e1,e2⟩
theorem Es {ps ys:List Tb.Rw}(h:Tb.tW ps ys):∃ d:Rat,0<d/\(∀ l,up l ps=d*up l ys)/\bR ps=d*bR ys:=by
 obtain ⟨d,d0,hd⟩:=h.d;have hh:∀ r∈ps,Tb.j9 ys r.t r.b:=fun r hr=>(h.has r.t r.b).mpr ⟨r,hr,rfl,rfl⟩;have key:∀ f:Int->Int->Rat,(ps.map fun r=>(r.w:Rat)*f r.t r.b).sum=(d:Rat)*(ys.map fun y=>(y.w:Rat)*f y.t y.b).sum:=fun f=>by
  rw [wN h.lt f hh,<- uM]
  congr 1
  refine aL6 fun y hy=>?_;rw [hd y hy]
  push_cast
  grind
 refine ⟨(d:Rat),gH d0,fun l=>key fun t b=>uJ l ((t:Rat)/(b:Rat))-l,?_⟩;have k1:=key fun _ _=>1;unfold bR;have e:∀ l:List Tb.Rw,(l.map fun r=>(r.w:Rat)*1)=l.map fun r=>(r.w:Rat):=fun l=>aL6 fun r _=>by grind
 rw [e,e] at k1;exact k1
theorem Sq (a b:Rat):a<=uJ a b:=by unfold uJ; split <;> grind
theorem aAh {l:Rat}:∀ {ys:List Tb.Rw},(∀ r∈ys,1<=r.w)->0<=up l ys
 | [],_=>by rw [rJ]; grind
 | r::ys,h=>by
  have a:=aAh (l:=l) (ys:=ys) fun x hx=>h x (aLp _ hx);have w:=gH (show 0<r.w by have:=h r aLq; omega);have m:=Sq l (cv r);have b:0<=(r.w:Rat)*(uJ l (cv r)-l):=Rat.mul_nonneg (by grind) (by grind);rw [gP]
  grind
theorem Hm {l l':Rat}(h:l<=l'):∀ {ys:List Tb.Rw},(∀ r∈ys,1<=r.w)->up l' ys<=up l ys
 | [],_=>by rw [rJ,rJ]; grind
 | r::ys,hw=>by
  have a:=Hm h (ys:=ys) fun x hx=>hw x (aLp _ hx);have w:=gH (show 0<r.w by have:=hw r aLq; omega);have m:uJ l' (cv r)-l'<=uJ l (cv r)-l:=by unfold uJ; split <;> split <;> grind
  have b:=aMr m (c:=(r.w:Rat)) (by grind);rw [gP,gP]
  grind
theorem Cj {ys:List Tb.Rw}(ne:ys≠[])(h:∀ r∈ys,1<=r.w):0<bR ys:=by
 rw [lV];exact gH (Tb.M6 h ne)
theorem SJ {l0 l1:Int}(hl:0<l1){r:Tb.Rw}(hb:0<r.b):cv (Tb.iV l0 l1 r)=(if V (l0,l1)<cv r then V (l0,l1) else cv r)/\(Tb.iV l0 l1 r).w=r.w:=by
 have e:=V_lt (x:=(l0,l1)) (y:=(r.t,r.b)) hl hb;have e:l0*r.b<r.t*l1↔V (l0,l1)<cv r:=e;unfold Tb.iV
 by_cases h:l0*r.b<r.t*l1
 ·rw [if_pos h,if_pos (e.mp h)];exact ⟨rfl,rfl⟩
 ·rw [if_neg h,if_neg (fun z=>h (e.mpr z))];exact ⟨rfl,rfl⟩
theorem HX {l0 l1:Int}(hl:0<l1){l:Rat}:∀ {ys:List Tb.Rw},(∀ r∈ys,0<r.b)->up l (ys.map (Tb.iV l0 l1))=(if l<V (l0,l1) then up l ys-up (V (l0,l1)) ys else 0)/\bR (ys.map (Tb.iV l0 l1))=bR ys
 | [],_=>by
  constructor
  ·simp only [aNL,rJ]; split <;> grind
  ·rfl
 | r::ys,h=>by
  obtain ⟨a,b⟩:=HX (l0:=l0) hl (l:=l) (ys:=ys) fun x hx=>h x (aLp _ hx);obtain ⟨c,d⟩:=SJ (l0:=l0) hl (h r aLq);rw [aLw,gP,gJ,a,b,c,d,gJ,gP,gP];refine ⟨?_,rfl⟩;unfold uJ
  by_cases h1:l<V (l0,l1)
  ·rw [if_pos h1,if_pos h1]
   by_cases h2:V (l0,l1)<cv r
   ·simp only [if_pos h2];rw [if_pos h1,if_pos (show l<cv r by grind)]
    grind
   ·simp only [if_neg h2]
    by_cases h3:l<cv r
    ·rw [if_pos h3]; grind
    ·rw [if_neg h3]; grind
  ·rw [if_neg h1,if_neg h1];have:¬ l<(if V (l0,l1)<cv r then V (l0,l1) else cv r):=by split <;> grind
   rw [if_neg this]
   grind
theorem Rg {B l0 l1:Int}(hB:0<B)(hl:0<l1):∀ {ys:List Tb.Rw},(∀ r∈ys,0<r.b/\r.b∣B)->((Tb.S B l0 l1 ys:Int):Rat)=(B:Rat)*(l1:Rat)*up (V (l0,l1)) ys
 | [],_=>by rw [rJ]; show ((0:Int):Rat)=_; push_cast; grind
 | r::ys,h=>by
  have a:=Rg (l0:=l0) hB hl (ys:=ys) fun x hx=>h x (aLp _ hx);obtain ⟨hb,dv⟩:=h r aLq;have tm:=Tb.Kv hb hB dv;have ai:=Tb.KD (l0:=l0) (l1:=l1) hb hB dv;have e:=V_lt (x:=(l0,l1)) (y:=(r.t,r.b)) hl hb;have e:l0*r.b<r.t*l1↔V (l0,l1)<cv r:=e;have n1:=eV hB;have n2:=eV hl;have n3:=eV hb;have tm':((Tb.T B r:Int):Rat)*(r.b:Rat)=(r.t:Rat)*(B:Rat):=by exact_mod_cast tm
  rw [Tb.wD,gP]
  push_cast
  rw [a];unfold Tb.mx uJ
  by_cases c:V (l0,l1)<cv r
  ·rw [if_pos (ai.mpr (e.mpr c)),if_pos c]
   push_cast
   unfold V cv;have t2:((Tb.T B r:Int):Rat)=(r.t:Rat)*(B:Rat)/(r.b:Rat):=by grind
   rw [t2]
   grind
  ·rw [if_neg (fun z=>c (e.mp (ai.mp z))),if_neg c]
   push_cast
   grind
structure LvR (p:Int)(L:Rat)(ys:List Tb.Rw):Prop where
 has:up L ys=(p:Rat)*bR ys
 more:∀ m:Rat,m<L->(p:Rat)*bR ys<up m ys
theorem Ra (m:Rat):V (m.num,(m.den:Int))=m:=by
 unfold V;show (m.num:Rat)/((m.den:Int):Rat)=m;rw [<- Rat.divInt_eq_div,Rat.num_divInt_den]
theorem U5 {B p l0 l1:Int}{ys:List Tb.Rw}(hB:0<B)(h:∀ r∈ys,0<r.b/\r.b∣B)(L:Tb.Lv B (p*Tb.W ys*B) l0 l1 ys):LvR p (V (l0,l1)) ys:=by
 have n1:=eV hB;have n2:=eV L.pos;have q1:=gH hB;constructor
 ·have a:=Rg (l0:=l0) hB L.pos h;rw [L.has] at a
  push_cast at a
  rw [lV]
  grind
 ·intro m hm;have mp:(0:Int)<(m.den:Int):=by exact_mod_cast m.den_pos
  have lt:=(V_lt (x:=(m.num,(m.den:Int))) (y:=(l0,l1)) mp L.pos).mpr (by rw [Ra]; exact hm);have b:=L.more m.num m.den lt;have a:=Rg (l0:=m.num) hB mp h;rw [Ra] at a;have b':((p*Tb.W ys*B*(m.den:Int):Int):Rat)<((Tb.S B m.num m.den ys:Int):Rat):=by exact_mod_cast b
  rw [a] at b'
  push_cast at b'
  have q2:=gH mp
  push_cast at q2
  have q3:(0:Rat)<(B:Rat)*(m.den:Rat):=Rat.mul_pos q1 q2;rw [lV]
  by_cases z:(p:Rat)*((Tb.W ys:Int):Rat)<up m ys
  ·exact z
  ·have:=aMo (aNN.mp z) (c:=(B:Rat)*(m.den:Rat)) (by grind)
   grind
end Sd
namespace Sd
open TD
structure Mt (s:Sd)(d:Nat)(lv:Int×Int)(ys:List Tb.Rw):Prop where
 a:∀ n,d<n->∀ l:Rat,(rb l n s-l)*bR ys=up l ys
 b:∀ l:Rat,0<up l ys↔l<V lv
 c:∀ n,d<n->opr (V lv) n s=V lv
 t:0<bR ys
inductive Al (d:Nat):List Ent->List (Int×Sd)->Prop
 | nil:Al d [] []
 | cons {e:Ent}{t:Int×Sd}{es:List Ent}{rs:List (Int×Sd)} (w:e.w=t.1) (m:∃ lv,Mt t.2 d lv (bO e.ys)) (h:Al d es rs):Al d (e::es) (t::rs)
theorem Al.snoc {d:Nat}{es:List Ent}{rs:List (Int×Sd)}(h:Al d es rs){e:Ent}{t:Int×Sd}(w:e.w=t.1)(m:∃ lv,Mt t.2 d lv (bO e.ys)):Al d (es++[e]) (rs++[t]):=by
 induction h with
 | nil=>exact .cons w m .nil
 | cons w' m' _ ih=>exact .cons w' m' ih
theorem FW (l:Rat)(k:Int):∀ ys:List Row,up l (ys.map fun y=>⟨y.t,y.b,k*y.w⟩)=(k:Rat)*up l (bO ys)/\bR (ys.map fun y=>(⟨y.t,y.b,k*y.w⟩:Tb.Rw))=(k:Rat)*bR (bO ys)
 | []=>by
  constructor
  ·show (0:Rat)=(k:Rat)*0; grind
  ·show (0:Rat)=(k:Rat)*0; grind
 | y::ys=>by
  obtain ⟨a,b⟩:=FW l k ys;have e:bO (y::ys)=y.r::bO ys:=rfl;rw [aLw,gP,gJ,a,b,e,gP,gJ];have e2:cv y.r=cv ⟨y.t,y.b,k*y.w⟩:=rfl;have e3:y.r.w=y.w:=rfl;rw [e2,e3]
  push_cast
  constructor <;> grind
theorem Lg {S:Int}{d n:Nat}(hn:d<n)(l:Rat){es:List Ent}{rs:List (Int×Sd)}(al:Al d es rs):(∀ e∈es,1<=wsum e.ys/\wsum e.ys∣S) ->
  up l (partsOf S es)=(S:Rat)*(rs.map fun t=>(t.1:Rat)*(rb l n t.2-l)).sum/\bR (partsOf S es)=(S:Rat)*((dD rs:Int):Rat):=by
 induction al with
 | nil =>
  intro _;constructor
  ·show (0:Rat)=(S:Rat)*0; grind
  ·show (0:Rat)=(S:Rat)*((0:Int):Rat); push_cast; grind
 | @cons e t es rs w m _ ih =>
  intro h;obtain ⟨a,b⟩:=ih fun x hx=>h x (aLp _ hx);obtain ⟨h1,h2⟩:=h e aLq;obtain ⟨lv,mt⟩:=m;have ef:=Br h1 h2;have ew:bR (bO e.ys)=((wsum e.ys:Int):Rat):=by rw [lV,jM]
  have ef':((qY S e:Int):Rat)*bR (bO e.ys)=(t.1:Rat)*(S:Rat):=by
   rw [ew,<- w]
   exact_mod_cast ef
  have ma:=mt.a n hn l;have pe:partsOf S (e::es)=(e.ys.map fun y=>(⟨y.t,y.b,qY S e*y.w⟩:Tb.Rw))++partsOf S es:=rfl;obtain ⟨u1,u2⟩:=FW l (qY S e) e.ys;have wt:dD (t::rs)=t.1+dD rs:=by unfold dD; rw [aLw,aLI]
  rw [pe,Js,Dj,u1,u2,a,b,aLw,aLI,wt,<- ma,ef']
  push_cast
  constructor
  ·have:((qY S e:Int):Rat)*((rb l n t.2-l)*bR (bO e.ys))=(rb l n t.2-l)*(((qY S e:Int):Rat)*bR (bO e.ys)):=by grind
   rw [this,ef']
   grind
  ·grind
theorem Ez (W l:Rat)(n:Nat):∀ (rs:List (Int×Sd)) (z:Rat),rs.foldl (fun a r=>a+(r.1:Rat)/W*rb l n r.2) z=z+(rs.map fun r=>(r.1:Rat)/W*rb l n r.2).sum
 | [],z=>by show z=z+0; grind
 | r::rs,z=>by rw [aMQ,Ez W l n rs,aLw,aLI]; grind
theorem zY {W:Rat}(hW:W≠0)(l:Rat)(n:Nat):∀ rs:List (Int×Sd),(rs.map fun r=>(r.1:Rat)/W*rb l n r.2).sum=(rs.map fun t=>(t.1:Rat)*(rb l n t.2-l)).sum/W+l*((dD rs:Int):Rat)/W
 | []=>by show (0:Rat)=0/W+l*((0:Int):Rat)/W; push_cast; grind
 | r::rs=>by
  have wt:dD (r::rs)=r.1+dD rs:=by unfold dD; rw [aLw,aLI]
  rw [aLw,aLI,zY hW l n rs,aLw,aLI,wt]
  push_cast
  grind
theorem U4 {p:Int}{rs:List (Int×Sd)}(hW:0<dD rs)(l:Rat)(n:Nat):opr l (n+1) (.st p rs)=l-(p:Rat)+(rs.map fun t=>(t.1:Rat)*(rb l n t.2-l)).sum/((dD rs:Int):Rat):=by
 have ne:=eV hW;show rs.foldl (fun a r=>a+(r.1:Rat)/(dD rs:Rat)*rb l n r.2) (-(p:Rat))=_;rw [Ez,zY ne]
 grind
theorem aAx (v:Int)(d:Nat):Mt (.en v) d (v,1) [⟨v,1,1⟩]:=by
 have e1:V (v,1)=(v:Rat):=by unfold V; push_cast; grind
 have e2:cv ⟨v,1,1⟩=(v:Rat):=e1;have e3:bR [⟨v,1,1⟩]=1:=by rw [gJ]; show ((1:Int):Rat)+0=1; push_cast; grind
 have e4:∀ l:Rat,up l [⟨v,1,1⟩]=uJ l (v:Rat)-l:=fun l=>by rw [gP,e2,rJ]; push_cast; grind
 refine ⟨fun n hn l=>?_,fun l=>?_,fun n hn=>?_,by rw [e3]; grind⟩
 ·obtain ⟨n,rfl⟩:∃ k,n=k+1:=⟨n-1,by omega⟩
  rw [e3,e4];show (uJ l (v:Rat)-l)*1=_
  grind
 ·rw [e4,e1];unfold uJ
  split <;> grind
 ·obtain ⟨n,rfl⟩:∃ k,n=k+1:=⟨n-1,by omega⟩
  rw [e1]
  rfl
theorem aA2 {d:Nat}{es:List Ent}{rs:List (Int×Sd)}{S p:Int}{lv:Int×Int}{ys zs:List Tb.Rw}(al:Al d es rs)(hS:0<S)(hd:∀ e∈es,1<=wsum e.ys/\wsum e.ys∣S)(hW:0<dD rs)(o:Tb.tW (partsOf S es) ys)(ne:ys≠[])(hw:∀ r∈ys,1<=r.w)(hb:∀ r∈ys,0<r.b)
  (lp:0<lv.2) (L:LvR p (V lv) ys) (o2:Tb.tW (ys.map (Tb.iV lv.1 lv.2)) zs):Mt (.st p rs) (d+1) lv zs:=by
 obtain ⟨k1,k1p,u1,t1⟩:=Es o;obtain ⟨k2,k2p,u2,t2⟩:=Es o2;have Tp:=Cj ne hw;have Wp:=gH hW;have Sp:=gH hS;obtain ⟨_,tc⟩:=HX (l0:=lv.1) lp (l:=0) hb;have t2':bR ys=k2*bR zs:=by rw [<- tc,t2]
 have op:∀ n,d<n->∀ l:Rat,opr l (n+1) (.st p rs)=l-(p:Rat)+up l ys/bR ys:=fun n hn l=>by
  obtain ⟨a,b⟩:=Lg hn l al hd;rw [U4 hW];rw [u1] at a;rw [t1] at b;have n1:((dD rs:Int):Rat)≠0:=by grind
  have n2:bR ys≠0:=by grind
  have n3:(S:Rat)≠0:=by grind
  have n4:k1≠0:=by grind
  have c:(rs.map fun t=>(t.1:Rat)*(rb l n t.2-l)).sum*bR ys=up l ys*((dD rs:Int):Rat):=by
   have e1:(S:Rat)*((rs.map fun t=>(t.1:Rat)*(rb l n t.2-l)).sum*bR ys)*k1=(S:Rat)*(up l ys*((dD rs:Int):Rat))*k1:=by grind
   grind
  grind
 have cap:∀ l:Rat,k2*up l zs=if l<V lv then up l ys-(p:Rat)*bR ys else 0:=fun l=>by
  rw [<- u2,(HX (l0:=lv.1) lp (l:=l) hb).1];show (if l<V lv then up l ys-up (V lv) ys else 0)=_;rw [L.has]
 have key:∀ l:Rat,(uJ l (l-(p:Rat)+up l ys/bR ys)-l)*bR ys=if l<V lv then up l ys-(p:Rat)*bR ys else 0:=fun l=>by
  have n2:bR ys≠0:=by grind
  have q:up l ys/bR ys*bR ys=up l ys:=by grind
  by_cases h:l<V lv
  ·have m:=L.more l h;have g:(p:Rat)<up l ys/bR ys:=by
    by_cases z:(p:Rat)<up l ys/bR ys
    ·exact z
    ·have:=aMo (aNN.mp z) (c:=bR ys) (by grind)
     grind
   unfold uJ;rw [if_pos h,if_pos (by grind)]
   grind
  ·have m:=Hm (l:=V lv) (l':=l) (by grind) hw;rw [L.has] at m;have g:¬ (p:Rat)<up l ys/bR ys:=fun z=>by
    have:=aNr z Tp
    grind
   unfold uJ;rw [if_neg h,if_neg (by grind)]
   grind
 have tz:0<bR zs:=by
  by_cases z:0<bR zs
  ·exact z
  ·have:=aMr (aNN.mp z) (c:=k2) (by grind)
   grind
 refine ⟨fun n hn l=>?_,fun l=>?_,fun n hn=>?_,tz⟩
 ·obtain ⟨n,rfl⟩:∃ k,n=k+1:=⟨n-1,by omega⟩
  rw [UG,op n (by omega) l];have a:=key l;rw [<- cap l,t2'] at a;have n4:k2≠0:=by grind
  rw [t2']
  grind
 ·have c:=cap l;have n4:k2≠0:=by grind
  by_cases h:l<V lv
  ·have m:=L.more l h;rw [if_pos h] at c;refine ⟨fun _=>h,fun _=>?_⟩
   by_cases z:0<up l zs
   ·exact z
   ·have:=aMr (aNN.mp z) (c:=k2) (by grind)
    grind
  ·rw [if_neg h] at c;refine ⟨fun z=>?_,fun z=>absurd z h⟩;have:=Rat.mul_lt_mul_of_pos_left z k2p
   grind
 ·obtain ⟨n,rfl⟩:∃ k,n=k+1:=⟨n-1,by omega⟩
  rw [op n (by omega),L.has];have n2:bR ys≠0:=by grind
  grind
end Sd
namespace Sd
structure Lw (l:Int×Int):Prop where
 fr:Fr.fZ l.1 l.2
 b:l.2<=2^1500
 lo:-(2^1530*l.2)<=l.1
 hi:l.1<=2^1530*l.2
def kW:Nat->Int
 | 0=>2^1530
 | d+1=>1000000000+4*kW d
theorem p30:(1000000000:Int)<=2^1530:=by decide +kernel
theorem w6:∀ d,(2^1530:Int)<=kW d
 | 0=>aL2 _
 | d+1=>by have:=w6 d; have:=p30; show _<=1000000000+4*kW d; omega
theorem Oa (d:Nat):(1000000000:Int)<=kW d:=aLN p30 (w6 d)
theorem Lw.fq {l:Int×Int}(h:Lw l):FQ l l.2 (2^1530):=⟨h.fr,aMu _,h.lo,h.hi⟩
theorem Ha {l:Int×Int}(hl:Lw l){s:Sd}{d m:Nat}(ok:Ok s d m):∀ n,d<n->FQ (Fb l n s) (l.2*md 1 n s) (kW d):=by
 induction ok with
 | @en v d m h0 h9 hm =>
  intro n hn;obtain ⟨n,rfl⟩:∃ k,n=k+1:=⟨n-1,by omega⟩
  have kp:=w6 d;have f1:FQ l (l.2*md 1 (n+1) (.en v)) (kW d):=Fq.mono hl.fq ⟨_,rfl⟩ kp;exact FQ.grt f1 ⟨WW v,⟨l.2*1,(aMK _).symm⟩,by have:=Oa d; show -(kW d*1)<=v; omega,by have:=Oa d; show v<=kW d*1; omega⟩
 | @st p rs d m k h0 h9 ne l4 w sub hk ih =>
  intro n hn;obtain ⟨n,rfl⟩:∃ k,n=k+1:=⟨n-1,by omega⟩
  have kp:=w6 d;have k9:=Oa d;have W:=o4 ne w l4;have part:∀ i,i<=rs.length->FQ (Ig l n p rs i) (l.2*md 1 (n+1) (.st p rs)) (1000000000+(i:Int)*kW d):=by
   intro i
   induction i with
   | zero=>intro _; exact ⟨WW (-p),⟨_,(aMK _).symm⟩,by show -((1000000000+((0:Nat):Int)*kW d)*1)<=-p; omega,by show -p<=(1000000000+((0:Nat):Int)*kW d)*1; omega⟩
   | succ i ih2 =>
    intro hi;have hr:rs[i]? = some rs[i]:=aLs (by omega);have hm:=aMc (l:=rs) (n:=i) (by omega);rw [pZ hr];have w1:=(w _ hm).1;have s1:=PP w1 (uX w hm);have t1:=FQ.tms s1.1 s1.2 (ih _ hm n (by omega)) (by omega);have dv:dD rs*(l.2*md 1 n rs[i].2)∣l.2*md 1 (n+1) (.st p rs):=by
     obtain ⟨c,hc⟩:=lF (l:=rs.map fun r=>md 1 n r.2) (n:=md 1 n rs[i].2) (aLr.mpr ⟨_,hm,rfl⟩);refine ⟨c,?_⟩;show l.2*(dD rs*dR (rs.map fun r=>md 1 n r.2))=_;rw [hc]
     grind
    have r1:=FQ.pls (ih2 (by omega)) (Fq.mono t1 dv (aL2 _));refine Fq.mono r1 (aMu _) ?_
    push_cast
    rw [aOk];omega
  rw [uU];have hlk:kW d<=kW (d+1):=by show _<=1000000000+4*kW d; omega
  have ld:l.2∣l.2*md 1 (n+1) (.st p rs):=⟨_,rfl⟩
  refine FQ.grt (Fq.mono hl.fq ld (aLN kp hlk)) (Fq.mono (part _ (aLu _)) (aMu _) ?_);show _<=1000000000+4*kW d;have:(rs.length:Int)*kW d<=4*kW d:=eN (by omega) (by omega);omega
theorem Gz {l:Int×Int}(hl:Lw l){p:Int}{rs:List (Int×Sd)}{d m:Nat}{f:Int×Sd->Nat}(h0:0<=p)(h9:p<=1000000000)(ne:rs≠[])(l4:rs.length<=4)(w:∀ r∈rs,1<=r.1/\r.1<=1000)(sub:∀ r∈rs,Ok r.2 d (f r))(hk:(rs.map f).sum<=m)(n:Nat)(hn:d<n) :
  (∀ i,i<=rs.length->FQ (Ig l n p rs i) (l.2*md 1 (n+1) (.st p rs)) (kW (d+1)))/\∀ r∈rs,FQ (Fb l n r.2) (l.2*md 1 (n+1) (.st p rs)) (kW (d+1))/\FQ (tms (Fr.sh r.1 (dD rs)) (Fb l n r.2)) (l.2*md 1 (n+1) (.st p rs)) (kW (d+1)):=by
 have kp:=w6 d;have k9:=Oa d;have W:=o4 ne w l4;have hlk:kW d<=kW (d+1):=by show _<=1000000000+4*kW d; omega
 have dv:∀ r∈rs,dD rs*(l.2*md 1 n r.2)∣l.2*md 1 (n+1) (.st p rs):=fun r hr=>by
  obtain ⟨c,hc⟩:=lF (l:=rs.map fun r=>md 1 n r.2) (n:=md 1 n r.2) (aLr.mpr ⟨_,hr,rfl⟩);refine ⟨c,?_⟩;show l.2*(dD rs*dR (rs.map fun r=>md 1 n r.2))=_;rw [hc]
  grind
 have tm:∀ r∈rs,FQ (tms (Fr.sh r.1 (dD rs)) (Fb l n r.2)) (l.2*md 1 (n+1) (.st p rs)) (kW d):=fun r hr=>by
  have s1:=PP (w r hr).1 (uX w hr);exact Fq.mono (FQ.tms s1.1 s1.2 (Ha hl (sub r hr) n hn) (by omega)) (dv r hr) (aL2 _)
 have part:∀ i,i<=rs.length->FQ (Ig l n p rs i) (l.2*md 1 (n+1) (.st p rs)) (1000000000+(i:Int)*kW d):=by
  intro i
  induction i with
  | zero=>intro _; exact ⟨WW (-p),⟨_,(aMK _).symm⟩,by show -((1000000000+((0:Nat):Int)*kW d)*1)<=-p; omega,by show -p<=(1000000000+((0:Nat):Int)*kW d)*1; omega⟩
  | succ i ih2 =>
   intro hi;have hr:rs[i]? = some rs[i]:=aLs (by omega);have hm:=aMc (l:=rs) (n:=i) (by omega);rw [pZ hr];refine Fq.mono (FQ.pls (ih2 (by omega)) (tm _ hm)) (aMu _) ?_
   push_cast
   rw [aOk];omega
 refine ⟨fun i hi=>Fq.mono (part i hi) (aMu _) ?_,fun r hr=>⟨Fq.mono (Ha hl (sub r hr) n hn) (aMS ⟨dD rs,by grind⟩ (dv r hr)) hlk,Fq.mono (tm r hr) (aMu _) hlk⟩⟩;show _<=1000000000+4*kW d;have:(i:Int)*kW d<=4*kW d:=eN (by omega) (by omega);omega
theorem VG:∀ d,d<=4->kW d<=2^1600
 | 0,_=>by show (2:Int)^1530<=2^1600; decide +kernel
 | 1,_=>by show 1000000000+4*(2:Int)^1530<=2^1600; decide +kernel
 | 2,_=>by show 1000000000+4*(1000000000+4*(2:Int)^1530)<=2^1600; decide +kernel
 | 3,_=>by show 1000000000+4*(1000000000+4*(1000000000+4*(2:Int)^1530))<=2^1600; decide +kernel
 | 4,_=>by show 1000000000+4*(1000000000+4*(1000000000+4*(1000000000+4*(2:Int)^1530)))<=2^1600; decide +kernel
 | d+5,h=>by omega
end Sd
namespace TD
open PySem L2
open Builtin.Int (intBits)
theorem Mg {x:Int×Int}{N k:Int}(f:Sd.FQ x N k)(hN:0<N)(hn:N<=2^2200)(k0:0<=k)(hk:k<=2^1600):Z4 x:=by
 have h:=uL f hN hn k0 hk;exact ⟨by omega,by omega,f.fr.pos⟩
theorem Qx {l:Int×Int}(h:Sd.Lw l):Z4 l:=Mg h.fq h.fr.pos (aLN h.b (Sd.dO (by decide))) (aLA (Sd.bU _)) (Sd.dO (by decide))
theorem VP {l:Int×Int}(h:Sd.Lw l){s:Sd.Sd}{d m:Nat}(ok:Sd.Ok s d m)(d4:d<=4)(m12:m<=12)(n:Nat):0<l.2*Sd.md 1 n s/\l.2*Sd.md 1 n s<=2^2200:=by
 have M:=Sd.aBQ (L:=1) (by decide) (by decide) ok d4 m12 n;refine ⟨aLY h.fr.pos M.1,?_⟩;have a:l.2*Sd.md 1 n s<=2^1500*Sd.md 1 n s:=Sd.eN h.b (aLA M.1);have b:(2^1500:Int)*Sd.md 1 n s<=2^1500*2^700:=aLz M.2 (aLA (Sd.bU _));rw [<- aMv] at b;exact aLN a b
theorem opz {l:Int×Int}(hl:Sd.Lw l){p:Int}{rs:List (Int×Sd.Sd)}{d m:Nat}{f:Int×Sd.Sd->Nat}(h0:0<=p)(h9:p<=1000000000)(ne:rs≠[])(l4:rs.length<=4)(w:∀ r∈rs,1<=r.1/\r.1<=1000)(sub:∀ r∈rs,Sd.Ok r.2 d (f r))(hk:(rs.map f).sum<=m)(d4:d+1<=4)(m12:m<=12)(n:Nat)(hn:d<n) :
  (∀ i,i<=rs.length->Z4 (Sd.Ig l n p rs i))/\∀ r∈rs,Z4 (Fr.sh r.1 (Sd.dD rs))/\Z4 (Sd.Fb l n r.2)/\Z4 (Sd.tms (Fr.sh r.1 (Sd.dD rs)) (Sd.Fb l n r.2)):=by
 obtain ⟨a,b⟩:=Sd.Gz hl h0 h9 ne l4 w sub hk n hn;have M:=VP hl (Sd.Ok.st h0 h9 ne l4 w sub hk) d4 m12 (n+1);have kp:=Sd.Oa (d+1);have kl:=Sd.VG (d+1) d4;have W:=Sd.o4 ne w l4;have e3:(4000:Int)<=2^2200:=aLN (by decide:(4000:Int)<=2^12) (Sd.dO (by decide));have e4:(1:Int)<=2^1600:=Sd.bU _;have z:∀ {x:Int×Int},Sd.FQ x (l.2*Sd.md 1 (n+1) (.st p rs)) (Sd.kW (d+1))->Z4 x:=fun f=>Mg f M.1 M.2 (by omega) kl;exact ⟨fun i hi=>z (a i hi),fun r hr=>⟨Mg (Sd.PP (w r hr).1 (Sd.uX w hr)).1 (by omega) (by omega) (by decide) e4,z (b r hr).1,z (b r hr).2⟩⟩
end TD
namespace Sd
open TD
theorem Wv {l:Int×Int}(hl:Lw l){p:Int}{rs:List (Int×Sd)}{d m:Nat}{f:Int×Sd->Nat}(h0:0<=p)(h9:p<=1000000000)(ne:rs≠[])(l4:rs.length<=4)(w:∀ r∈rs,1<=r.1/\r.1<=1000)(sub:∀ r∈rs,Ok r.2 d (f r))(hk:(rs.map f).sum<=m)(n:Nat)(hn:d<n)(ih:∀ r∈rs,V (Fb l n r.2)=rb (V l) n r.2) :
  ∀ i,i<=rs.length->V (Ig l n p rs i)=(rs.take i).foldl (fun a r=>a+(r.1:Rat)/(dD rs:Rat)*rb (V l) n r.2) (-(p:Rat)):=by
 obtain ⟨a,b⟩:=Gz hl h0 h9 ne l4 w sub hk n hn;have W:=o4 ne w l4;intro i
 induction i with
 | zero=>intro _; show V (-p,1) = -(p:Rat); unfold V; push_cast; grind
 | succ i ih2 =>
  intro hi;have hr:rs[i]? = some rs[i]:=aLs (by omega);have hm:=aMc (l:=rs) (n:=i) (by omega);have sp:0<(Fr.sh rs[i].1 (dD rs)).2:=(PP (w _ hm).1 (uX w hm)).1.fr.pos;rw [pZ hr,aBt (a i (by omega)).fr.pos (b _ hm).2.fr.pos,aBz sp (b _ hm).1.fr.pos,QF (by omega),ih _ hm,ih2 (by omega),aMB,hr];show _=List.foldl _ _ (List.take i rs++[rs[i]]);rw [aMC]
  rfl
theorem aAw {l:Int×Int}(hl:Lw l){s:Sd}{d m:Nat}(ok:Ok s d m):∀ n,d<n->V (Fb l n s)=rb (V l) n s:=by
 induction ok with
 | @en v d m h0 h9 hm =>
  intro n hn;obtain ⟨n,rfl⟩:∃ k,n=k+1:=⟨n-1,by omega⟩
  show V (grt l (v,1))=uJ (V l) (v:Rat);rw [RL hl.fr.pos (show (0:Int)<1 by decide)]
  congr 1
  unfold V
  push_cast
  grind
 | @st p rs d m k h0 h9 ne l4 w sub hk ih =>
  intro n hn;obtain ⟨n,rfl⟩:∃ k,n=k+1:=⟨n-1,by omega⟩
  have o:=Gz hl h0 h9 ne l4 w sub hk n (by omega);rw [uU,RL hl.fr.pos (o.1 _ (aLu _)).fr.pos,Wv hl h0 h9 ne l4 w sub hk n (by omega) (fun r hr=>ih r hr n (by omega)) _ (aLu _),aLG]
  rfl
end Sd
namespace Sd
def nE:Nat->Sd->Int
 | 0,_=>0
 | _+1,.en _=>1
 | n+1,.st _ rs=>(rs.map fun r=>nE n r.2).sum
def mxL (l:List Int):Int:=l.foldl max 0
def nS:Nat->Sd->Int
 | 0,_=>0
 | _+1,.en _=>0
 | n+1,.st _ rs=>1+mxL (rs.map fun r=>nS n r.2)
theorem DP:∀ (l:List Int) (a:Int),a<=l.foldl max a/\(∀ x∈l,x<=l.foldl max a)/\(l.foldl max a=a∨l.foldl max a∈l)
 | [],a=>⟨aL2 _,(fun _ h=>nomatch h),.inl rfl⟩
 | y::l,a=>by
  obtain ⟨h1,h2,h3⟩:=DP l (max a y);rw [aMQ];refine ⟨by omega,fun x hx=>?_,?_⟩
  ·rcases aLF.mp hx with e | e
   ·subst e; omega
   ·exact h2 x e
  ·rcases h3 with e | e
   ·rw [e]
    by_cases z:a<=y
    ·right; rw [show max a y=y by omega]; exact aLq
    ·left; omega
   ·exact .inr (aLp _ e)
theorem Uj {l:List Int}{M:Int}(h0:∀ x∈l,0<=x)(hm:M∈l)(hx:∀ x∈l,x<=M):M=mxL l:=by
 obtain ⟨h1,h2,h3⟩:=DP l 0;have a:=h2 M hm;unfold mxL;rcases h3 with e | e
 ·have:=h0 M hm;omega
 ·have:=hx _ e;omega
theorem Ok.nE {s:Sd}{d m:Nat}(ok:Ok s d m):∀ n,d<n->nE n s<=(m:Int):=by
 induction ok with
 | en _ _ hm=>intro n hn; obtain ⟨n,rfl⟩:∃ k,n=k+1:=⟨n-1,by omega⟩; show (1:Int)<=_; omega
 | @st p rs d m k h0 h9 ne l4 w sub hk ih =>
  intro n hn;obtain ⟨n,rfl⟩:∃ k,n=k+1:=⟨n-1,by omega⟩
  show (rs.map fun r=>Sd.nE n r.2).sum<=_;have key:∀ l:List (Int×Sd),(∀ r∈l,r∈rs)->(l.map fun r=>Sd.nE n r.2).sum<=(((l.map k).sum:Nat):Int):=by
   intro l
   induction l with
   | nil=>intro _; exact aL2 _
   | cons r l ih2 =>
    intro h;have a:=ih2 fun x hx=>h x (aLp _ hx);have b:=ih r (h r aLq) n (by omega);rw [aLw,aLI,aLw,aLI]
    push_cast
    omega
  have a:=key rs fun r hr=>hr;omega
end Sd
namespace TD
open PySem L2
open Builtin.Int (intBits)
structure Cs where
 e:Addr
 s:Addr
def fB (n k:Int)(l cp:Addr):List (Str×V):=[("end_count",.int n),("stage_count",.int k),("level",.ref l),("cap_rows",.ref cp)]
def fE (n k:Int)(l cp:Addr)(v:Int):List (Str×V):=[("end_count",.int n),("stage_count",.int k),("level",.ref l),("cap_rows",.ref cp),("worth",.int v)]
def fS (n k:Int)(l cp:Addr)(p:Int)(r:Addr):List (Str×V):=[("end_count",.int n),("stage_count",.int k),("level",.ref l),("cap_rows",.ref cp),("price",.int p),("rows",.ref r)]
structure U3 (H:Hp)(l cp:Addr)(s:Sd.Sd)(lq:Int×Int)(xs:List Row)(n k:Int)(d m:Nat):Prop where
 lv:Tq H l lq
 caps:M3 H cp xs
 gs:By xs d m
 so:(bO xs).Pairwise Tb.Lt
 n1:1<=n
 nm:n<=(m:Int)
 k0:0<=k
 kd:k<=(d:Int)
 mt:Sd.Mt s d lq (bO xs)
 lw:Sd.Lw lq
 nx:n=Sd.nE (d+1) s
 kx:k=Sd.nS (d+1) s
inductive fW (c:Cs)(H:Hp):Addr->Sd.Sd->Nat->Nat->Prop
 | en {x dx l cp:Addr}{v n k:Int}{d m:Nat}{xs:List Row} (h:H x=some (.ins c.e dx (fE n k l cp v))) (vv:U3 H l cp (.en v) (v,1) xs n k d m) (ok:Sd.Ok (.en v) d m):fW c H x (.en v) d m
 | st {x dx l cp r:Addr}{p n k:Int}{lv:Int×Int}{d m:Nat}{j:Int×Sd.Sd->Nat}{xs:List Row}{rs:List (Int×Sd.Sd)}{ps ys:List Addr} (h:H x=some (.ins c.s dx (fS n k l cp p r))) (vv:U3 H l cp (.st p rs) lv xs n k (d+1) m) (g:H r=some (.tup (ps.map V.ref)))
   (lp:ps.length=rs.length) (ly:ys.length=rs.length) (row:∀ (i:Nat) q y t,ps[i]? = some q->ys[i]? = some y->rs[i]? = some t->H q=some (.tup [.int t.1,.ref y])) (sub:∀ (i:Nat) y t,ys[i]? = some y->rs[i]? = some t->fW c H y t.2 d (j t))
   (p0:0<=p) (p9:p<=1000000000) (ne:rs≠[]) (l4:rs.length<=4) (w:∀ r∈rs,1<=r.1/\r.1<=1000) (hk:(rs.map j).sum<=m):fW c H x (.st p rs) (d+1) m
def Kp (H H':Hp):Prop:=∀ b o,H b=some o->(∀ ps,o≠.tbl ps)->(∀ C dx,o≠.ins C dx [])->H' b=some o
theorem aR.kp {H H':Hp}(s:aR H H'):Kp H H':=fun b o h _ _=>s b o h
theorem bH.kp {P:Addr}{pos:Pos}{qual:Str}{H H':Hp}(s:bH P H H')(t:cA P pos qual H):Kp H H':=fun b o h n _=>s.get t h n
theorem Kp.trans {H H1 H2:Hp}(a:Kp H H1)(b:Kp H1 H2):Kp H H2:=fun c o h n m=>b c o (a c o h n m) n m
theorem Kp.tup {H H':Hp}(k:Kp H H'){b:Addr}{xs:List V}(h:H b=some (.tup xs)):H' b=some (.tup xs):=k _ _ h (fun _ z=>nomatch z) (fun _ _ z=>nomatch z)
theorem Kp.ins {H H':Hp}(k:Kp H H'){b C dx:Addr}{f:Str×V}{fs:List (Str×V)}(h:H b=some (.ins C dx (f::fs))):H' b=some (.ins C dx (f::fs)):=k _ _ h (fun _ z=>nomatch z) (fun _ _ z=>by injection z with _ _ z; exact nomatch z)
theorem iD.kp {H H':Hp}{x:Row}(s:Kp H H')(h:iD H x):iD H' x:=⟨s.tup h.1,s.tup h.2⟩
theorem M3.kp {H H':Hp}{a:Addr}{xs:List Row}(s:Kp H H')(h:M3 H a xs):M3 H' a xs:=⟨s.tup h.1,fun x hx=>(h.2 x hx).kp s⟩
theorem U3.kp {H H':Hp}{l cp:Addr}{sd:Sd.Sd}{lv:Int×Int}{xs:List Row}{n k:Int}{d m:Nat}(s:Kp H H')(h:U3 H l cp sd lv xs n k d m):U3 H' l cp sd lv xs n k d m:=⟨s.tup h.lv,h.caps.kp s,h.gs,h.so,h.n1,h.nm,h.k0,h.kd,h.mt,h.lw,h.nx,h.kx⟩
theorem fW.kp {c:Cs}{H H':Hp}{x:Addr}{s:Sd.Sd}{d m:Nat}(h:fW c H x s d m)(k:Kp H H'):fW c H' x s d m:=by
 induction h with
 | en h vv ok=>exact .en (k.ins h) (vv.kp k) ok
 | st h vv g lp ly row sub p0 p9 ne l4 w hk ih=>exact .st (k.ins h) (vv.kp k) (k.tup g) lp ly (fun i q y t a b c=>k.tup (row i q y t a b c)) ih p0 p9 ne l4 w hk
theorem fW.same {c:Cs}{H H':Hp}{x:Addr}{s:Sd.Sd}{d m:Nat}(k:aR H H')(h:fW c H x s d m):fW c H' x s d m:=h.kp (aR.kp k)
theorem Nh {α β:Type}{ys:List α}{rs:List β}(l:ys.length=rs.length){r:β}(h:r∈rs):∃ (i:Nat) (y:α),ys[i]? = some y/\rs[i]? = some r:=by
 obtain ⟨i,hi,e⟩:=List.getElem_of_mem h;exact ⟨i,ys[i]'(by omega),aLs _,by rw [aLs hi,e]⟩
theorem fW.ok {c:Cs}{H:Hp}{x:Addr}{s:Sd.Sd}{d m:Nat}(h:fW c H x s d m):Sd.Ok s d m:=by
 induction h with
 | en _ _ ok=>exact ok
 | st h vv g lp ly row sub p0 p9 ne l4 w hk ih=>exact .st p0 p9 ne l4 w (fun r hr=>by obtain ⟨i,y,a,b⟩:=Nh ly hr; exact ih i y r a b) hk
inductive kJ (H:Hp):Addr->Sd.Sd->Prop
 | en {a:Addr}{v:Int} (h:H a=some (.tup [.str "end",.int v])):kJ H a (.en v)
 | st {a r:Addr}{p:Int}{rs:List (Int×Sd.Sd)}{ps ys:List Addr} (h:H a=some (.tup [.str "stage",.int p,.ref r])) (g:H r=some (.tup (ps.map V.ref))) (lp:ps.length=rs.length) (ly:ys.length=rs.length)
   (row:∀ (i:Nat) q y t,ps[i]? = some q->ys[i]? = some y->rs[i]? = some t->H q=some (.tup [.int t.1,.ref y])) (sub:∀ (i:Nat) y t,ys[i]? = some y->rs[i]? = some t->kJ H y t.2):kJ H a (.st p rs)
theorem kJ.keep {H H':Hp}{a:Addr}{s:Sd.Sd}(h:kJ H a s)(k:∀ b xs,H b=some (.tup xs)->H' b=some (.tup xs)):kJ H' a s:=by
 induction h with
 | en h=>exact .en (k _ _ h)
 | st h g lp ly row sub ih=>exact .st (k _ _ h) (k _ _ g) lp ly (fun i q y t a b c=>k _ _ (row i q y t a b c)) ih
theorem kJ.kp {H H':Hp}{a:Addr}{s:Sd.Sd}(h:kJ H a s)(k:Kp H H'):kJ H' a s:=h.keep fun b xs e=>k.tup e
theorem kJ.same {H H':Hp}{a:Addr}{s:Sd.Sd}(k:aR H H')(h:kJ H a s):kJ H' a s:=h.keep fun b xs e=>k _ _ e
structure CK (K:PySem.W.Frag)(c:Cs):Prop where
 ce:tM K c.e
 cs:tM K c.s
 e1:cB K c.e "end_count"
 e2:cB K c.e "stage_count"
 e3:cB K c.e "level"
 e4:cB K c.e "cap_rows"
 e5:cB K c.e "worth"
 s1:cB K c.s "end_count"
 s2:cB K c.s "stage_count"
 s3:cB K c.s "level"
 s4:cB K c.s "cap_rows"
 s5:cB K c.s "price"
 s6:cB K c.s "rows"
structure CT (K:PySem.W.Frag)(c:Cs):Prop where
 hn:PySem.W.specialIn K (.builtin "object.__class__") "__get__" = some (some (.builtin "getset_descriptor.__get__"))
 htk:PySem.W.takesIn K (.builtin "object.__class__")=some true
 ea:PySem.W.findIn K (.ref c.e) "__class__" = some (some (.builtin "object.__class__"))
 em:PySem.W.mroIn K c.e (.type "object")=some true
 sa:PySem.W.findIn K (.ref c.s) "__class__" = some (some (.builtin "object.__class__"))
 sm:PySem.W.mroIn K c.s (.type "object")=some true
 ee:PySem.W.kitOne K (.ref c.e) (.ref c.e)=some true
 se:PySem.W.kitOne K (.ref c.s) (.ref c.e)=some false
 ss:PySem.W.kitOne K (.ref c.s) (.ref c.s)=some true
def Ko (c:Cs):Sp:=fun vs H Q _=>∃ (x:Addr) (s:Sd.Sd) (d m:Nat),vs=[.ref x]/\fW c H x s d m/\∀ n:Int,1<=n->n<=(m:Int)->n=Sd.nE (d+1) s->Q (.int n) H
def K5 (c:Cs):Sp:=fun vs H Q _=>∃ (x:Addr) (s:Sd.Sd) (d m:Nat),vs=[.ref x]/\fW c H x s d m/\∀ k:Int,0<=k->k<=(d:Int)->k=Sd.nS (d+1) s->Q (.int k) H
def LK (c:Cs):Sp:=fun vs H Q _=>∃ (x:Addr) (s:Sd.Sd) (d m:Nat),vs=[.ref x]/\fW c H x s d m/\∀ (r:Addr) (H':Hp) (xs:List Row),aR H H'->H r=none->TabAt H' r xs->By xs d m->(bO xs).Pairwise Tb.Lt->(∃ lv,Sd.Mt s d lv (bO xs)/\Sd.Lw lv)->Q (.ref r) H'
def MT (c:Cs):Sp:=fun vs H Q _=>∃ (x dx C l a:Addr) (n k:Int) (xs:List Row),vs=[.ref x,.int n,.int k,.ref l,.ref a]/\(C=c.e∨C=c.s)/\H x=some (.ins C dx [])/\TabAt H a xs ∧
 ∀ (cp:Addr) (H':Hp),H cp=none->(∀ b o,b≠x->H b=some o->H' b=some o)->H' x=some (.ins C dx (fB n k l cp))->H' cp=some (.tup (refs xs))->Q .non H'
structure vW (c:Cs)(H:Hp)(ps ys:List Addr)(rs:List (Int×Sd.Sd))(d:Nat)(j:Int×Sd.Sd->Nat):Prop where
 lp:ps.length=rs.length
 ly:ys.length=rs.length
 row:∀ (i:Nat) q y t,ps[i]? = some q->ys[i]? = some y->rs[i]? = some t->H q=some (.tup [.int t.1,.ref y])
 sub:∀ (i:Nat) y t,ys[i]? = some y->rs[i]? = some t->fW c H y t.2 d (j t)
theorem vW.kp {c:Cs}{H H':Hp}{ps ys:List Addr}{rs:List (Int×Sd.Sd)}{d:Nat}{j:Int×Sd.Sd->Nat}(h:vW c H ps ys rs d j)(k:Kp H H'):vW c H' ps ys rs d j:=⟨h.lp,h.ly,fun i q y t a b e=>k.tup (h.row i q y t a b e),fun i y t a b=>(h.sub i y t a b).kp k⟩
theorem vW.at_ {c:Cs}{H:Hp}{ps ys:List Addr}{rs:List (Int×Sd.Sd)}{d i:Nat}{j:Int×Sd.Sd->Nat}{v:V}(h:vW c H ps ys rs d j)(hv:(ps.map V.ref)[i]? = some v):∃ q y t,ps[i]? = some q/\ys[i]? = some y/\rs[i]? = some t/\v=.ref q/\H q=some (.tup [.int t.1,.ref y])/\fW c H y t.2 d (j t)/\t∈rs:=by
 rw [aLH] at hv;cases e:ps[i]? with
 | none=>rw [e] at hv; cases hv
 | some q =>
  rw [e] at hv;cases hv;have hi:=(aLE.mp e).1;have l1:=h.lp;have l2:=h.ly;have ey:ys[i]? = some (ys[i]'(by omega)):=aLs _;have er:rs[i]? = some (rs[i]'(by omega)):=aLs _;exact ⟨q,_,_,rfl,ey,er,rfl,h.row i q _ _ e ey er,h.sub i _ _ ey er,aLx er⟩
theorem Rn {p q:Addr}{v:Int}{d m:Nat}(h0:0<=v)(h9:v<=1000000000)(hm:1<=m):By [⟨p,q,v,1,1⟩] d m:=by
 have e:bN [⟨p,q,v,1,1⟩]=1:=by show dH [1]=1; decide
 have w1:wsum [(⟨p,q,v,1,1⟩:Row)]=1:=rfl;have wp:=Sd.bU ((12*d+1)*m);have bp:=Sd.bU (be d*m);have k9:=k30 d;unfold By;rw [e];refine ⟨⟨by simp,by show 1<=m; exact hm,fun x hx=>?_,by rw [w1]; unfold wB; omega,by decide,fun x hx=>?_⟩,by omega⟩
 ·rw [aLy.mp hx]; exact aL2 _
 ·rw [aLy.mp hx];exact ⟨Sd.WW v,aMu _,by show -(kK d*1)<=v; omega,by show v<=kK d*1; omega⟩
def DK (x:Addr)(H H':Hp):Prop:=∀ b o,b≠x->H b=some o->H' b=some o
theorem DK.kp {x C dx:Addr}{H H':Hp}(s:DK x H H')(hx:H x=some (.ins C dx [])):Kp H H':=fun b o h _ n=>s b o (fun e=>by rw [e,hx] at h; cases h; exact n C dx rfl) h
theorem cA.sameX {P x C dx:Addr}{pos:Pos}{qual:Str}{fs:List (Str×V)}{H H':Hp}(t:cA P pos qual H)(s:DK x H H')(hx:H x=some (.ins C dx fs)):cA P pos qual H':=by
 rcases t with t | ⟨c,t,u⟩
 ·exact .inl (s _ _ (cI t hx fun z=>nomatch z) t)
 ·exact .inr ⟨c,s _ _ (cI t hx fun z=>nomatch z) t,s _ _ (cI u hx fun z=>by unfold sU at z; exact nomatch z) u⟩
theorem Mw {c:Cs}{H H0:Hp}{y:Addr}{s:Sd.Sd}{d m:Nat}{σ:St}{ta:TE}{nm:Str}{sp:Sp}{Q:VK}(st:fW c H y s d m)(le:∀ n k l cp v,(fE n k l cp v).lookup nm=none)(ls:∀ n k l cp p r,(fS n k l cp p r).lookup nm=none)(hv:∀ R:VK,R (.ref y) H->ta σ H0 R)(q:sp [.ref y] H Q E0) :
  pG c.e nm sp [] E0 ta xJ σ H0 Q∨pG c.s nm sp [] E0 ta xJ σ H0 Q:=by
 cases st with
 | en h vv ok=>exact .inl (hv _ ⟨y,_,_,rfl,h,le _ _ _ _ _,q⟩)
 | st h vv g lp ly row sub p0 p9 ne l4 w hk=>exact .inr (hv _ ⟨y,_,_,rfl,h,ls _ _ _ _ _ _,q⟩)
def RM (K:PySem.W.Frag):Sp:=fun vs H Q _=>∃ (a:Addr) (ns:List Int) (k:Int),vs=[.ref a,.int k]/\bK K H a (ns.map V.int)/\0<=k/\∀ j,Q (.int j) H
def Nq:Sp:=fun vs H Q _=>∃ c k:Int,vs=[.int c,.int k]/\0<=k/\k<=100000/\∀ j,0<=j->j<2147483587->Q (.int j) H
def RB:Sp:=fun vs H Q _=>∃ i:Int,vs=[.int i]/\∀ H',aR H H'->Q (.bl true) H'
def R6:Sp:=fun vs H Q _=>(∃ i:Int,vs=[.int i]/\∀ H',aR H H'->Q (.bl true) H')∨∃ (p:Addr) (x:Int×Int),vs=[.ref p]/\Tq H p x/\∀ H',aR H H'->Q (.bl true) H'
def Zq:Sp:=fun vs H Q _=>∃ (p q:Addr) (x:Int×Int),vs=[.ref p,.ref q]/\Tq H p x/\Tq H q x/\∀ H',aR H H'->Q (.bl true) H'
def Li:Sp:=fun vs H Q _=>∃ (c b n:Int),vs=[.int c,.int b,.int n]/\n=151/\∀ r H' ns,aR H H'->H r=none->H' r=some (.lst (Is ns))->ns.length=151->Q (.ref r) H'
def pp:Nat->Nat->Nat
 | 0,_=>2
 | d+1,m=>((aME 4).map fun i=>if i+1<=m then 2+(i+1)*(1+pp d (m/(i+1))) else 2).foldl max 2
theorem lU:∀ (l:List Nat) (a:Nat),a<=l.foldl max a/\∀ x∈l,x<=l.foldl max a
 | [],a=>⟨aLu _,fun _ h=>nomatch h⟩
 | y::l,a=>by
  obtain ⟨h1,h2⟩:=lU l (max a y);refine ⟨aLv (Nat.le_max_left _ _) h1,fun x hx=>?_⟩;rcases aLF.mp hx with e | e
  ·subst e; exact aLv (Nat.le_max_right _ _) h1
  ·exact h2 x e
theorem Um (d m:Nat):2<=pp d m:=by
 cases d with
 | zero=>exact aLu _
 | succ d=>exact (lU _ 2).1
theorem aDy {d m n:Nat}(h1:1<=n)(h4:n<=4)(hm:n<=m):2+n*(1+pp d (m/n))<=pp (d+1) m:=by
 refine (lU _ 2).2 _ (aLr.mpr ⟨n-1,aMj.mpr (by omega),?_⟩);rw [show n-1+1=n by omega,if_pos hm]
theorem Ri:pp 4 12<=150:=by decide +kernel
def Io (n:Nat):Sp:=fun vs H Q _=>∃ (L:Addr) (ns:List Int) (d m:Nat) (sc:Int),vs=[.ref L,.int (d:Int),.int (m:Int),.int sc]/\H L=some (.lst (Is ns))/\d<n/\d<=4/\1<=m/\m<=12/\1<=sc/\sc<=1000000001/\pp d m<=ns.length/\ns.length<=1000 ∧
 ∀ (r:Addr) (H':Hp) (s:Sd.Sd) (ns':List Int),(∀ b o,b≠L->H b=some o->H' b=some o)->H' L=some (.lst (Is ns'))->ns.length<=ns'.length+pp d m->ns'.length<=ns.length->kJ H' r s->Sd.Ok s d m->Q (.ref r) H'
def Ov (c:Cs)(Pt:Addr)(lp:Pos)(n:Nat):Sp:=fun vs H Q _=>∃ (a:Addr) (s:Sd.Sd) (d m:Nat),vs=[.ref a]/\kJ H a s/\Sd.Ok s d m/\d<n/\d<=4/\m<=12/\cA Pt lp d8 H/\∀ (x:Addr) (H':Hp),bH Pt H H'->cA Pt lp d8 H'->fW c H' x s d m->Q (.ref x) H'
def Ql (n:Nat):Sp:=fun vs H Q _=>∃ (a l:Addr) (s:Sd.Sd) (lv:Int×Int) (d m:Nat),vs=[.ref a,.ref l]/\kJ H a s/\Sd.Ok s d m/\d<n/\d<=4/\m<=12/\Tq H l lv/\Sd.Lw lv/\∀ r H',aR H H'->Tq H' r (Sd.Fb lv n s)->Q (.ref r) H'
def uK (K:PySem.W.Frag)(Pt:Addr)(lp:Pos):Sp:=fun vs H Q _=>∃ (a:Addr) (ns:List Int),vs=[.ref a]/\bK K H a (ns.map V.int)/\ns.length<=63/\H Pt=some (.tbl #[])/\∀ H',Q (.bl true) H'
theorem aEK {v:Int}(h0:-1000000000<=v)(h9:v<=1000000000):Z4 (v,1):=by
 have e:(1000000000:Int)<2^4400:=by decide +kernel
 exact ⟨gO (k:=4400) (show -(2^4400:Int)<v by omega) (show v<2^4400 by omega),(by show intBits 1<=4400; decide),(by decide:(0:Int)<1)⟩
theorem UW {v:Int}(h0:0<=v)(h9:v<=1000000000):Sd.Lw (v,1):=by
 have:=Sd.p30;exact ⟨Sd.WW v,Sd.bU 1500,by show -(2^1530*1)<=v; omega,by show v<=2^1530*1; omega⟩
theorem be4:∀ d,d+1<=4->be (d+1)<=125/\ka (d+1)<=1530
 | 0,_=>by decide
 | 1,_=>by decide
 | 2,_=>by decide
 | 3,_=>by decide
 | d+4,h=>by omega
theorem Vz {ys:List Row}{l:Int×Int}{M k:Int}{d m:Nat}(x:Lx ys l M k d m)(hd:d+1<=4)(hm:m<=12):Sd.Lw l:=by
 obtain ⟨b1,b2⟩:=be4 d hd;have a:=aM6 x.g.mp x.f.dv;have e:(2:Int)^(be (d+1)*m)<=2^1500:=Sd.dO (aLv (Nat.mul_le_mul b1 hm) (by decide));have g:k<=2^1530:=aLN x.k (Sd.dO b2);have h:=Sd.eN g (aLA x.f.fr.pos);have:=x.f.lo;have:=x.f.hi;exact ⟨x.f.fr,aLN a (aLN x.m e),by omega,by omega⟩
theorem Xi {d:Nat}{es:List Ent}{rs:List (Int×Sd.Sd)}{p:Int}{lv:Int×Int}{ys zs:List Row}{n:Nat}{W k W0 kk:Int}{k0:Nat}(al:Sd.Al d es rs)(gm:GM es k0 W0 kk)(hW:0<Sd.dD rs)(o:Out (partsOf (dH (cV es)) es) ys)(g:GT ys n W (bN ys) k)
  (lp:0<lv.2) (L:Tb.Lv (bN ys) (p*Tb.W (bO ys)*bN ys) lv.1 lv.2 (bO ys)) (o2:Out ((bO ys).map (Tb.iV lv.1 lv.2)) zs):Sd.Mt (.st p rs) (d+1) lv (bO zs):=by
 obtain ⟨S1,_,_,S2⟩:=gm.S;have fr:∀ r∈bO ys,0<r.b/\r.b∣bN ys:=fun r hr=>by
  obtain ⟨y,hy,rfl⟩:=aLr.mp hr;exact ⟨(g.fq y hy).fr.pos,(g.fq y hy).dv⟩
 refine Sd.aA2 al S1 (fun e he=>⟨(gm.g e he).tot,S2 e he⟩) hW o.tab (fun e=>g.ne (aMd.mp e)) (fun r hr=>?_) (fun r hr=>(fr r hr).1) lp (Sd.U5 g.mp fr L) o2.tab;obtain ⟨y,hy,rfl⟩:=aLr.mp hr;exact g.w1 y hy
end TD
namespace PySem
open Sem (wp)
namespace F
theorem yE:typeLookup (.type "list") "keys" = pure none:=by rw [typeLookup_type,builtinLookup_eq_fast]; kernel_rfl
theorem iQ:plainId "dict.update.loop" = true:=by decide +kernel
theorem nZ:entryFor table "dict.update.loop" = some Builtin.«dict.update.loop»:=entryFor_of_fast (by kernel_rfl)
end F
theorem Km {prog:Program}{w:World}{A:Around}{E:Value->Shared->Prop}{s:Shared}{l:Addr}{ob:Obj}{zs:Array Value}{n:Nat}{x:Str}{Q:Option Value->Shared->Prop}
  (at_:s.heap.get? l=some ob) (ty:ob.cls=.type "list") (da:ob.data=.seq zs n) (nd:ob.dict=none) (miss:typeLookup (.type "list") x=pure none) (usual:(["__module__","__name__","__qualname__","__doc__","__annotations__"]:List Str).contains x=false) (calm:A.handled=none) (short:x.length+100<=sizeLine)
  (go:∀ h' tk,(∀ b o,s.heap.get? b=some o->h'.get? b=some o)->Q none { s with heap:=h',toks:=tk }):wpAny (model prog w) A (getAttr? (.ref l) x) Q E s:=by
 cases ob with
 | mk cl di dt st =>
 cases (show cl=_ from ty);cases (show dt=_ from da);cases (show di=_ from nd);cases s with
 | mk hp gs dr tks ost =>
 have isL:∀ t,(⟨hp,gs,dr,t,ost⟩:Shared).TypeIs (.ref l) "list":=fun _=>⟨_,at_,rfl⟩
 have lk:=F.slot_list_getattribute.lookup;have bd:=F.slot_list_getattribute.bind (.ref l);have hk:=am_list_getattr_none;have sb:=sub_AttributeError;unfold getAttr? getAttrBy? getAttrBy
 repeat (any_goals (first
  | exact isL _
  | assumption
  | ((with_reducible show wpAny _ _ (call (Value.builtin "list.__getattribute__") _ _) _ _ _); refine call_meets F.slot_list_getattribute (isL _) am_entry_list_getattribute (F.args_list_getattribute_2 _ _) (meets_getattribute_miss_list l zs n st x _ miss usual short) ⟨at_,calm,fun h2 t2 ea new=>?_⟩)
  | wp_step))
 have old:=new.keeps;obtain ⟨ta,ua,there⟩:=new.there;show wpAny _ _ (getattributeRaised _ _ _ (.ref ea) _ _ _) _ _ _;unfold getattributeRaised
 repeat (any_goals (first | assumption | wp_step))
 exact go _ _ old
end PySem
namespace L2
open PySem PySem.Spec PyProof.Rows
structure Dr where
 p:Addr
 q:Addr
 k:List Key
 v:V
def Oq (H:Hp)(d:Dr):Prop:=H d.p=some (.tup [.ref d.q,d.v])/\H d.q=some (.tup (d.k.map kV))
def gU (ds:List Dr):List (List Key×V):=ds.foldl (fun kvs d=>putK kvs d.k d.v) []
theorem Gj (ds:List Dr)(d:Dr):gU (ds++[d])=putK (gU ds) d.k d.v:=by unfold gU; rw [aMC]; rfl
theorem yQ:∀ (ds:List Dr) (kvs:List (List Key×V)),(ds.foldl (fun kvs d=>putK kvs d.k d.v) kvs).length<=kvs.length+ds.length
 | [],kvs=>aLu _
 | d::ds,kvs=>by
  have h1:=yQ ds (putK kvs d.k d.v);have h2:=gK kvs d.k d.v;simp only [aMQ,aL0];omega
theorem Bb (ds:List Dr):(gU ds).length<=ds.length:=by
 have:=yQ ds []
 simpa [gU] using this
theorem JW {X:Cx}{pins:List (Addr×Obj)}{σ:St}{H:Hp}{s:Shared}{a b:Addr}{kvs:List (List Key×V)}{k:List Key}{v:V}{r:Value}{A:Around}{E:Value->Shared->Prop}{Q:Unit->Shared->Prop}(hu:A.units<cLine)(I:bD X pins σ H s)
  (e:H a=some (.dT kvs)) (eb:H b=some (.tup (k.map kV))) (l:kvs.length<sizeLine) (rv:RelV v r)
  (h:∀ s',bD X pins σ (aX H a (.dT (putK kvs k v))) s'->aMa a s.heap s'.heap->Q () s'):wpAny (model X.prog X.w) A (dictSet a (.ref b) r) Q E s:=by
 obtain ⟨z,hd,xs,rel,dd⟩:=RD I.hok e;have hz:xs.length<=sizeLine:=by rw [<- Paired.length rel]; exact z
 have hl:(putK kvs k v).length<=sizeLine:=by have:=gK kvs k v; omega
 refine wpAny_dictSet_heap (hsz:=hz) hu (vM I.hok eb) dd fun h' dd' hs=>h _ ?_ hs;obtain ⟨q,es,ep,hq,h2,h3,h4,_,h5⟩:=dd';refine Bq I (by rw [e]; exact True.intro) hs ⟨q,hq⟩ ⟨hl,hd,_,(rel.put k eb rv).keeps fun c ys ec=>?_,q,es,ep,hq,h2,h3,h4,h5⟩;rw [aO (cI ec e (fun z=>nomatch z))];exact ec
theorem Kh {X:Cx}{pins:List (Addr×Obj)}{σ:St}{H:Hp}{A:Around}{R:Result->Shared->Prop}{l it d:Addr}{ds:List Dr}(hu:A.units+1<cLine)(hh:A.handled=none)
  (hf:jQ X pins H it) (hne:it≠d) (hd:H d=none) (hS:bK X.K H l (ds.map fun x=>V.ref x.p)) (hD:∀ x∈ds,Oq H x) (hz:ds.length<sizeLine)
  (hR:∀ s',bD X pins σ (aX H d (.dT (gU ds))) s'->R (.ok (.ret .none)) s') :
  ∀ (k i:Nat) (j:Int) (s:Shared),ds.length-i=k->i<=ds.length->bD X pins σ (aX H d (.dT (gU (ds.take i)))) s->s.heap.IsListIter it l i ->
   codeAny (model X.prog X.w) A (.builtin "dict.update.loop" ⟨[.ref d,.ref it,rawInt j,.none],[]⟩) R s:=by
 obtain ⟨f0,f1,f2,f3,f4,f5⟩:=hf;intro k
 induction k with
 | zero =>
  intro i j s hk hi I st;have e:i=ds.length:=by omega
  subst e;rw [aLG] at I;obtain ⟨its,rv,pl,_⟩:=I.list ((aH hd _).seq hS);have hl:=rv.length;refine codeAny_builtin F.nZ ?_;rw [Around.under_plainId F.iQ _];show wpAny _ A.in1 (pyNext (.ref it) >>= _) _ _ s;refine wpAny_bind (wpAny_pyNext_list_end hh st pl.isList (by simp at hl ⊢; omega) fun h' eb=>?_);have I1:bD X pins σ (aX H d (.dT (gU ds))) { s with heap:=h' }:=I.turned (t':=s.toks) (fun b o hb e=>eb b o hb e) (by rw [aO hne]; exact f0) f1 f3 f4 f5;show wpAny _ A.in1 (Builtin.Dict.addKeywords d [] >>= _) _ _ _;exact wpAny_bind (wpAny_pure (wpAny_pure (hR _ I1)))
 | succ k ih =>
  intro i j s hk hi I st;have hlt:i<ds.length:=by omega
  have hx:ds[i]? = some ds[i]:=aLs hlt;have hxm:ds[i]∈ds:=aMc hlt;generalize ds[i]=x at hx hxm;have sN:=aH hd (.dT (gU (ds.take i)));obtain ⟨its,rv,pl,_⟩:=I.list (sN.seq hS);obtain ⟨u,hu1,ru⟩:=rv.get (i:=i) (x:=.ref x.p) (by rw [aLH,hx]; rfl);cases (show u=Value.ref x.p from ru);refine codeAny_builtin F.nZ ?_;rw [Around.under_plainId F.iQ _];show wpAny _ A.in1 (pyNext (.ref it) >>= _) _ _ s;refine wpAny_bind (wpAny_pyNext_list_item st pl.isList (x:=.ref x.p) (by simpa using hu1) fun h' st' sb=>?_);have I1:bD X pins σ (aX H d (.dT (gU (ds.take i)))) { s with heap:=h' }:=I.turned (t':=s.toks) (fun b o hb e=>(sb.2 b hb).trans e) (by rw [aO hne]; exact f0) f1 f3 f4 f5;obtain ⟨hp,hq⟩:=hD x hxm;obtain ⟨_,its2,rv2,o,e1,e2,n,e3⟩:=(show cJ X.prog X.w _ h' x.p (.tup [.ref x.q,x.v]) from I1.hok x.p _ (sN _ _ hp))
  obtain ⟨w1,w2,rfl,r1,r2⟩:=vals2 rv2;cases (show w1=Value.ref x.q from r1);refine wpAny_bind (wpAny_holding ?_);refine wpAny_bind (wpAny_tryCatch ?_);unfold Builtin.Dict.pairItems;refine wpAny_bind (wpAny_typeOf (T:="tuple") ⟨o,e1,e2⟩ ?_);rw [if_pos (by decide)];refine wpAny_bind (wpAny_seqItems e1 e3 (wpAny_pure ?_));show wpAny _ A.in1 (holding [.ref x.q,w2] (dictSet d (.ref x.q) w2)) _ _ _;refine wpAny_holding (JW (show A.in1.units<cLine from hu) I1 aC (sN _ _ hq) ?_ r2 fun s' I2 sm=>?_)
  ·have:=Bb (ds.take i);rw [aLU] at this;omega
  ·refine wpAny_pure ⟨plainId_quiet F.iQ _,?_⟩;refine ih (i+1) (j+1) s' (by omega) hlt ?_ (st'.at fun o e=>(sm.2 it hne).trans e);have et:ds.take (i+1)=ds.take i++[x]:=by rw [aMB,hx]; rfl
   rw [et,Gj];rw [Px] at I2;exact I2
theorem Gh {X:Cx}(hc:X.calm=true)(hu:X.A.units+2<cLine):eY X (.type "dict") (fun xs H Q=>∃ (a:Addr) (ds:List Dr),xs=[.ref a]/\bK X.K H a (ds.map fun x=>V.ref x.p)/\(∀ x∈ds,Oq H x)/\ds.length<sizeLine/\∀ r,H r=none->Q (.ref r) (aX H r (.dT (gU ds)))):=by
 intro pins s σ H xs us Q I r h;obtain ⟨a,ds,rfl,hS,hD,hz,q⟩:=h;obtain ⟨u,rfl,ru⟩:=vals1 r;cases (show u=Value.ref a from ru);have hA:=I.ok.hd hc;refine callType_codes (Q₁:=fun obj s₁=>obj=.ref s.heap.objs.size/\s₁ = { s with heap:=s.heap.push { cls:=.type "dict",data:=.dict #[] } }) F.kt_called_dict (F.kt_typeCall_dict_1 _) F.entry_dict_init (kt_code_dict_new _ ⟨rfl,rfl⟩) ?_;rintro obj s₁ ⟨rfl,rfl⟩;have hd:H s.heap.objs.size=none:=I.hok.fresh (aLu _);have I1:bD X pins σ (aX H s.heap.objs.size (.dT [])) { s with heap:=s.heap.push { cls:=.type "dict",data:=.dict #[] } }:=I.laid (a:=s.heap.objs.size) (o:=.dT []) (t':=s.toks) (fun _ _ q=>aLt _ q) (aLu _) (Cw s.heap I.big);have tyD:({ s with heap:=s.heap.push { cls:=.type "dict",data:=.dict #[] } }:Shared).TypeIs (.ref s.heap.objs.size) "dict":=⟨_,aLJ _ rfl,rfl⟩
 refine ⟨tyD,F.args_dict_init_2 _ _,?_⟩;obtain ⟨its,rv,pl,_⟩:=I1.list ((aH hd _).seq hS);obtain ⟨o,n,e1,e2,e3,e4⟩:=id pl;unfold Builtin.«dict.__init__»;refine wpAny_bind ?_;unfold Builtin.Dict.selfAndRest;refine wpAny_bind (wpAny_notOrdered_dict tyD ?_);show wpAny _ _ (pure (s.heap.objs.size,[Value.ref a])) _ _ _;refine wpAny_pure ?_;show wpAny _ _ (Builtin.Dict.updateFrom "dict.__init__" s.heap.objs.size (.ref a) [] .none) _ _ _;unfold Builtin.Dict.updateFrom;refine wpAny_bind (wpAny_typeOf (T:="list") ⟨o,e1,e2⟩ ?_);rw [if_pos (by decide)];refine wpAny_bind (Km e1 e2 e4 e3 F.yE (by decide +kernel) hA (by decide) fun h1 tk1 k1=>?_);rw [if_pos (show (none:Option Value).isNone=true from rfl)];refine wpAny_bind (wpAny_rule ?_);have I2:bD X pins σ (aX H s.heap.objs.size (.dT [])) { s with heap:=h1,toks:=tk1 }:=I1.kept (t':=tk1) k1;obtain ⟨its2,rv2,pl2,_⟩:=I2.list ((aH hd _).seq hS);refine wpAny_bind (wpAny_pyIter_list pl2.isList ?_);have I3:=I2.kept (t':=tk1) (h':=h1.push { cls:=.type "list_iterator",data:=.fields #[.ref a,.int 0 0] }) fun _ _ q=>aLt _ q;have dlt:s.heap.objs.size<h1.objs.size:=aLC (k1 _ _ (aLJ _ rfl));refine wpAny_pure ⟨plainId_quiet F.iQ _,?_⟩;have fr:H h1.objs.size=none:=by
  have z:=I2.hok.fresh (aLu h1.objs.size);rw [aO (aMA dlt)] at z;exact z
 refine Kh (A:=X.A.in1) (ds:=ds) (d:=s.heap.objs.size) (show X.A.units+1+1<cLine from hu) hA (I2.fpOk (aLu _) fr) (aMA dlt) hd hS hD hz (fun s' I'=>?_) ds.length 0 0 _ (by omega) (aLQ _) I3 ⟨_,aLJ _ rfl,rfl,rfl⟩;exact ⟨rfl,.ref s.heap.objs.size,_,I',rfl,q _ hd⟩
theorem Ek {X:Cx}{K:PySem.W.Frag}(hK:X.K=K)(hc:X.calm=true)(hu:X.A.units+2<cLine):eY X (.type "dict") (fun xs H Q=>∃ (a:Addr) (ds:List Dr),xs=[.ref a]/\bK K H a (ds.map fun x=>V.ref x.p)/\(∀ x∈ds,Oq H x)/\ds.length<sizeLine/\∀ r,H r=none->Q (.ref r) (aX H r (.dT (gU ds)))):=by
 subst hK;exact Gh hc hu
end L2
namespace Tb
abbrev Kp:=Int×Int
def kp (r:Rw):Kp:=(r.t,r.b)
def Sm (ps:List Rw)(pre:List Kp):Int:=(ps.map fun r=>if kp r∈pre then r.w else 0).sum
def Uw (x y:Kp):Prop:=x.1*y.2<y.1*x.2
def big (p q:Rw):Rw:=if p.t*q.b<q.t*p.b then ⟨q.t,q.b,p.w*q.w⟩ else ⟨p.t,p.b,p.w*q.w⟩
def gD (ps qs:List Rw):List Rw:=ps.flatMap fun p=>qs.map (big p)
theorem lQ (r:Rw)(ps:List Rw)(pre:List Kp):Sm (r::ps) pre=(if kp r∈pre then r.w else 0)+Sm ps pre:=by simp [Sm]
theorem KQ (ps qs:List Rw)(pre:List Kp):Sm (ps++qs) pre=Sm ps pre+Sm qs pre:=by simp [Sm]
theorem Bk:∀ ps:List Rw,Sm ps []=0
 | []=>rfl
 | r::ps=>by rw [lQ,Bk ps]; simp
theorem Ah {pre:List Kp}{k:Kp}(h:k∉pre):∀ ps:List Rw,Sm ps (pre++[k])=Sm ps pre+Wt ps k.1 k.2
 | []=>rfl
 | r::ps=>by
  rw [lQ,lQ,gZ,Ah h ps]
  by_cases e:kp r=k
  ·have h1:kp r∉pre:=by rw [e]; exact h
   have h2:kp r∈pre++[k]:=by rw [e]; simp
   have h3:r.t=k.1/\r.b=k.2:=by rw [<- e]; exact ⟨rfl,rfl⟩
   rw [if_pos h2,if_neg h1,if_pos h3];omega
  ·have h3:¬ (r.t=k.1/\r.b=k.2):=fun z=>e (Prod.ext z.1 z.2);rw [if_neg h3]
   by_cases h1:kp r∈pre
   ·rw [if_pos h1,if_pos (aL9 _ h1)];omega
   ·have h2:kp r∉pre++[k]:=by simp [h1,e]
    rw [if_neg h1,if_neg h2];omega
theorem Ru (p q:Rw):kp (big p q)=kp p∨kp (big p q)=kp q:=by
 unfold big
 split
 ·exact .inr rfl
 ·exact .inl rfl
theorem Np (p q:Rw):(big p q).w=p.w*q.w:=by
 unfold big
 split <;> rfl
def wV (all pre:List Kp):Prop:=∀ x∈all,∀ y∈pre,¬ Uw y x->x∈pre
theorem PL {all pre:List Kp}(hd:wV all pre){p q:Rw}(hp:kp p∈all)(hq:kp q∈all):kp (big p q)∈pre↔kp p∈pre/\kp q∈pre:=by
 unfold big
 split
 ·rename_i lt;show kp q∈pre↔_;refine ⟨fun h=>⟨hd _ hp _ h fun z=>?_,h⟩,fun h=>h.2⟩;have z:q.t*p.b<p.t*q.b:=z;omega
 ·rename_i lt;show kp p∈pre↔_;refine ⟨fun h=>⟨h,hd _ hq _ h fun z=>?_⟩,fun h=>h.1⟩;have z:p.t*q.b<q.t*p.b:=z;omega
theorem K6 {all pre:List Kp}(hd:wV all pre){p:Rw}(hp:kp p∈all):∀ qs:List Rw,(∀ q∈qs,kp q∈all)->Sm (qs.map (big p)) pre=(if kp p∈pre then p.w else 0)*Sm qs pre
 | [],_=>by simp [Sm]
 | q::qs,h=>by
  rw [aLw,lQ,lQ,K6 hd hp qs fun x hx=>h x (aLp _ hx),Np];have e:=PL hd hp (h q aLq)
  by_cases h1:kp p∈pre
  ·by_cases h2:kp q∈pre
   ·rw [if_pos (e.mpr ⟨h1,h2⟩),if_pos h1,if_pos h2,Int.mul_add]
   ·rw [if_neg fun z=>h2 (e.mp z).2,if_pos h1,if_neg h2,aM1,aM1]
  ·rw [if_neg fun z=>h1 (e.mp z).1,if_neg h1];simp
theorem FP {all pre:List Kp}(hd:wV all pre):∀ ps qs:List Rw,(∀ p∈ps,kp p∈all)->(∀ q∈qs,kp q∈all)->Sm (gD ps qs) pre=Sm ps pre*Sm qs pre
 | [],qs,_,_=>by simp [gD,Sm]
 | p::ps,qs,hp,hq=>by
  have e:gD (p::ps) qs=qs.map (big p)++gD ps qs:=by unfold gD; rw [aNB]
  rw [e,KQ,lQ,K6 hd (hp p aLq) qs hq,FP hd ps qs (fun x hx=>hp x (aLp _ hx)) hq,aOk]
theorem zN {ps qs:List Rw}{r:Rw}(h:r∈gD ps qs):∃ p∈ps,∃ q∈qs,r=big p q:=by
 unfold gD at h;obtain ⟨p,hp,h⟩:=aM3.mp h;obtain ⟨q,hq,h⟩:=aLr.mp h;exact ⟨p,hp,q,hq,h.symm⟩
theorem Af (ps qs:List Rw):(gD ps qs).length=ps.length*qs.length:=by
 unfold gD
 induction ps with
 | nil=>simp
 | cons p ps ih=>rw [aNB,aLP,ih,aLo,aL0,aNM,aOb]
def zF:List (List Rw)->List Rw
 | []=>[]
 | t::ts=>ts.foldl gD t
theorem oN {all pre:List Kp}(hd:wV all pre):∀ (ts:List (List Rw)) (ps:List Rw),(∀ p∈ps,kp p∈all)->(∀ t∈ts,∀ q∈t,kp q∈all)->(∀ p∈ts.foldl gD ps,kp p∈all)/\Sm (ts.foldl gD ps) pre=(ts.map fun t=>Sm t pre).foldl (· * ·) (Sm ps pre)
 | [],ps,hp,_=>⟨hp,rfl⟩
 | t::ts,ps,hp,ht=>by
  have hc:∀ p∈gD ps t,kp p∈all:=fun r hr=>by
   obtain ⟨p,h1,q,h2,rfl⟩:=zN hr;rcases Ru p q with e | e
   ·rw [e]; exact hp p h1
   ·rw [e]; exact ht t aLq q h2
  obtain ⟨a,b⟩:=oN hd ts (gD ps t) hc fun u hu=>ht u (aLp _ hu);refine ⟨a,?_⟩;rw [aMQ,b,FP hd ps t hp (ht t aLq),aLw,aMQ]
def qK (ns:List Int):Int:=ns.foldl (· * ·) 1
theorem Gp (ns:List Int)(n:Int):qK (ns++[n])=qK ns*n:=by unfold qK; rw [aMC]; rfl
theorem Fx {all pre:List Kp}(hd:wV all pre){ts:List (List Rw)}(hn:ts≠[])(ht:∀ t∈ts,∀ q∈t,kp q∈all):(∀ p∈zF ts,kp p∈all)/\Sm (zF ts) pre=qK (ts.map fun t=>Sm t pre):=by
 cases ts with
 | nil=>exact absurd rfl hn
 | cons t ts =>
  obtain ⟨a,b⟩:=oN hd ts t (ht t aLq) fun u hu=>ht u (aLp _ hu);refine ⟨a,?_⟩;show Sm (ts.foldl gD t) pre=_;rw [b];unfold qK;rw [aLw,aMQ,aMK]
theorem yM {all:List Kp}(so:all.Pairwise Uw)(i:Nat):wV all (all.take i):=by
 intro x hx y hy nl;rw [<- aMe i all] at hx;rcases aLO.mp hx with z | z
 ·exact z
 ·rw [<- aMe i all] at so;exact absurd ((aNX.mp so).2.2 y hy x z) nl
theorem JH {x:Kp}(h:Uw x x):False:=by
 unfold Uw at h;omega
theorem LQ {all:List Kp}(so:all.Pairwise Uw){i:Nat}{k:Kp}(h:all[i]? = some k):k∉all.take i:=fun z=>by
 have hi:=(aLE.mp h).1;have e:=(aLE.mp h).2;have hd:k∈all.drop i:=by rw [aNy hi,e]; exact aLq
 rw [<- aMe i all] at so;exact JH ((aNX.mp so).2.2 k z k hd)
def rowsOf (ps:List Rw)(pre:List Kp):List Rw:=pre.filterMap fun k=>if 0<Wt ps k.1 k.2 then some ⟨k.1,k.2,Wt ps k.1 k.2⟩ else none
theorem tH (ps:List Rw)(pre:List Kp)(k:Kp):rowsOf ps (pre++[k])=rowsOf ps pre++(if 0<Wt ps k.1 k.2 then [⟨k.1,k.2,Wt ps k.1 k.2⟩] else []):=by
 unfold rowsOf;rw [List.filterMap_append]
 congr 1
 rw [aMt]
 split
 ·rename_i h
  split at h
  ·cases h
  ·rename_i h2; rw [if_neg h2]; rfl
 ·rename_i b h
  split at h
  ·rename_i h2; rw [if_pos h2]; cases h; rfl
  ·cases h
theorem wO {ps:List Rw}{pre:List Kp}{r:Rw}(h:r∈rowsOf ps pre):kp r∈pre/\0<r.w/\r.w=Wt ps r.t r.b:=by
 unfold rowsOf at h;obtain ⟨k,hk,e⟩:=aMw.mp h
 split at e
 ·rename_i hp;cases e;exact ⟨hk,hp,rfl⟩
 ·cases e
theorem zK {ps:List Rw}:∀ {pre:List Kp},pre.Nodup->∀ k∈pre,0<=Wt ps k.1 k.2->Wt (rowsOf ps pre) k.1 k.2=Wt ps k.1 k.2
 | [],_,_,h,_=>nomatch h
 | j::pre,nd,k,hk,h0=>by
  obtain ⟨n1,n2⟩:=aMf.mp nd;have tail0:∀ m:Kp,m∉pre->Wt (rowsOf ps pre) m.1 m.2=0:=fun m hm=>by
   refine jC ?_;rintro ⟨r,hr,e1,e2⟩;obtain ⟨a,_,_⟩:=wO hr;exact hm (by rw [show m=kp r from Prod.ext e1.symm e2.symm]; exact a)
  have split_:rowsOf ps (j::pre)=(if 0<Wt ps j.1 j.2 then [⟨j.1,j.2,Wt ps j.1 j.2⟩] else [])++rowsOf ps pre:=by
   unfold rowsOf;rw [aMt]
   by_cases hp:0<Wt ps j.1 j.2
   ·simp [hp]
   ·simp [hp]
  rw [split_,rC];rcases aLF.mp hk with e | e
  ·subst e;rw [tail0 k n1]
   by_cases hp:0<Wt ps k.1 k.2
   ·rw [if_pos hp,gZ,vC,if_pos ⟨rfl,rfl⟩];show Wt ps k.1 k.2+0+0=_;omega
   ·rw [if_neg hp,vC];omega
  ·have ne:j≠k:=fun z=>n1 (by rw [z]; exact e);rw [zK n2 k e h0]
   by_cases hp:0<Wt ps j.1 j.2
   ·rw [if_pos hp,gZ,vC,if_neg (fun z=>ne (Prod.ext z.1 z.2))];omega
   ·rw [if_neg hp,vC];omega
theorem Jb {ps:List Rw}{all:List Kp}(nd:all.Nodup)(hk:∀ p∈ps,kp p∈all)(hw:∀ p∈ps,1<=p.w):(∀ t b,j9 (rowsOf ps all) t b↔j9 ps t b)/\∀ t b,Wt (rowsOf ps all) t b=Wt ps t b:=by
 have one:∀ t b,j9 ps t b->Wt (rowsOf ps all) t b=Wt ps t b:=fun t b h=>by
  obtain ⟨p,hp,rfl,rfl⟩:=h;exact zK nd (kp p) (hk p hp) (JC _ _ hw)
 have two:∀ t b,j9 (rowsOf ps all) t b->j9 ps t b:=fun t b h=>by
  obtain ⟨r,hr,rfl,rfl⟩:=h;obtain ⟨_,a,e⟩:=wO hr;rcases Classical.em (j9 ps r.t r.b) with z | z
  ·exact z
  ·have:=jC z;omega
 have three:∀ t b,j9 ps t b->j9 (rowsOf ps all) t b:=fun t b h=>by
  have e:=one t b h;rcases Classical.em (j9 (rowsOf ps all) t b) with z | z
  ·exact z
  ·have h0:=jC z;have:=u0 hw h;omega
 refine ⟨fun t b=>⟨two t b,three t b⟩,fun t b=>?_⟩;rcases Classical.em (j9 ps t b) with z | z
 ·exact one t b z
 ·rw [jC z,jC fun y=>z (two t b y)]
theorem Hk:∀ {ts:List (List Rw)}{ps:List Rw},(∀ p∈ps,1<=p.w)->(∀ t∈ts,∀ q∈t,1<=q.w)->∀ p∈ts.foldl gD ps,1<=p.w
 | [],_,h,_=>h
 | t::ts,ps,h,ht=>by
  refine Hk (ts:=ts) (ps:=gD ps t) (fun r hr=>?_) fun u hu=>ht u (aLp _ hu);obtain ⟨p,h1,q,h2,rfl⟩:=zN hr;rw [Np];have a:=h p h1;have b:=ht t aLq q h2;have:=aLY (show 0<p.w by omega) (show 0<q.w by omega);omega
end Tb
namespace TG
open PySem L2 TD
open Builtin.Int (intBits)
section
variable {Pt:Addr}
structure Tn where
 a:Addr
 ys:List Row
def wA (ts:List Tn):List V:=ts.map fun t=>V.ref t.a
structure yV (H:Hp)(a:Addr)(ts:List Tn):Prop where
 lst:H a=some (.lst (wA ts))
 tabs:∀ t∈ts,TabAt H t.a t.ys
theorem yV.same {H H':Hp}{a:Addr}{ts:List Tn}(s:aR H H')(h:yV H a ts):yV H' a ts:=⟨s _ _ h.lst,fun e he=>(h.tabs e he).same s⟩
theorem pR (ts:List Tn):(wA ts).length=ts.length:=aLo _
theorem wH {ts:List Tn}{i:Nat}{v:V}(h:(wA ts)[i]? = some v):∃ x,ts[i]? = some x/\v=.ref x.a:=by
 unfold wA at h;rw [aLH] at h;cases e:ts[i]? with
 | none=>rw [e] at h; cases h
 | some x=>rw [e] at h; cases h; exact ⟨x,rfl,rfl⟩
structure Gw (t:Tn):Prop where
 ne:t.ys≠[]
 len:t.ys.length<=12
 lt:(bO t.ys).Pairwise Tb.Lt
 fr:∀ y∈t.ys,Fr.fZ y.t y.b
 zt:∀ y∈t.ys,intBits y.t<=4000
 zb:∀ y∈t.ys,intBits y.b<=4000
 w:∀ y∈t.ys,1<=y.w
structure Gs (ts:List Tn):Prop where
 ne:ts≠[]
 len:ts.length<=7
 keys:(ts.flatMap fun t=>t.ys.map fun y=>(y.t,y.b)).length<=63
 bt:(ts.map fun t=>intBits (Tb.W (bO t.ys))).sum<=3900
 all:∀ t∈ts,Gw t
def pB (ts:List Tn):List (List Tb.Rw):=ts.map fun t=>bO t.ys
def keysOf (ts:List Tn):List Tb.Kp:=ts.flatMap fun t=>t.ys.map fun y=>(y.t,y.b)
theorem mJ (ts:List Tn)(t:Tn):keysOf (ts++[t])=keysOf ts++t.ys.map fun y=>(y.t,y.b):=by
 unfold keysOf;rw [aNq];simp
theorem xN (ts us:List Tn):keysOf (ts++us)=keysOf ts++keysOf us:=by
 unfold keysOf;rw [aNq]
theorem Jg (ts:List Tn)(i:Nat):(keysOf (ts.take i)).length<=(keysOf ts).length:=by
 have e:keysOf ts=keysOf (ts.take i)++keysOf (ts.drop i):=by rw [<- xN,aMe]
 rw [e,aLP];omega
theorem xC {ts:List Tn}{k:Tb.Kp}(h:k∈keysOf ts):∃ t∈ts,∃ y∈t.ys,(y.t,y.b)=k:=by
 unfold keysOf at h;obtain ⟨t,ht,h⟩:=aM3.mp h;obtain ⟨y,hy,h⟩:=aLr.mp h;exact ⟨t,ht,y,hy,h⟩
theorem lK {ts:List Tn}{t:Tn}{y:Row}(ht:t∈ts)(hy:y∈t.ys):(y.t,y.b)∈keysOf ts:=aM3.mpr ⟨t,ht,aLr.mpr ⟨y,hy,rfl⟩⟩
def uB (y:Row):Dr:=⟨y.p,y.q,[.inl y.t,.inl y.b],.int y.w⟩
theorem PN (ys:List Row):(ys.map uB).map (fun x=>V.ref x.p)=refs ys:=by unfold refs; rw [aL1]; rfl
theorem aAD {H:Hp}{a:Addr}{ys:List Row}(h:TabAt H a ys):∀ x∈ys.map uB,Oq H x:=fun x hx=>by
 obtain ⟨y,hy,rfl⟩:=aLr.mp hx;exact h.rows y hy
theorem yR {t b:Int}:∀ (ys:List Row) (kvs:List (List Key×V)),(bO ys).Pairwise Tb.Lt ->
  (Tb.j9 (bO ys) t b->(gF ((ys.map uB).foldl (fun kvs d=>putK kvs d.k d.v) kvs) [.inl t,.inl b]).getD (.int 0)=.int (Tb.Wt (bO ys) t b)) ∧
  (¬ Tb.j9 (bO ys) t b->gF ((ys.map uB).foldl (fun kvs d=>putK kvs d.k d.v) kvs) [.inl t,.inl b]=gF kvs [.inl t,.inl b])
 | [],kvs,_=>⟨fun h=>absurd h Tb.nJ,fun _=>rfl⟩
 | y::ys,kvs,hp=>by
  obtain ⟨p1,p2⟩:=aML.mp (show (y.r::bO ys).Pairwise Tb.Lt from hp);obtain ⟨i1,i2⟩:=yR (t:=t) (b:=b) ys (putK kvs [.inl y.t,.inl y.b] (.int y.w)) p2;have eW:Tb.Wt (bO (y::ys)) t b=(if y.t=t/\y.b=b then y.w else 0)+Tb.Wt (bO ys) t b:=Tb.gZ y.r (bO ys) t b;have eH:Tb.j9 (bO (y::ys)) t b↔(y.t=t/\y.b=b)∨Tb.j9 (bO ys) t b:=Tb.iU (r:=y.r)
  by_cases hk:y.t=t/\y.b=b
  ·have nh:¬ Tb.j9 (bO ys) t b:=by
    rintro ⟨z,hz,z1,z2⟩;exact Tb.Gd (p1 z hz) (show y.t=z.t by rw [z1]; exact hk.1) (show y.b=z.b by rw [z2]; exact hk.2)
   refine ⟨fun _=>?_,fun h=>absurd (eH.mpr (.inl hk)) h⟩;have q:=i2 nh;show (gF ((ys.map uB).foldl (fun kvs d=>putK kvs d.k d.v) (putK kvs [.inl y.t,.inl y.b] (.int y.w))) [.inl t,.inl b]).getD (.int 0)=_;rw [q,DG,if_pos (by rw [hk.1,hk.2]),eW,if_pos hk,Tb.jC nh,aOa]
   rfl
  ·have ne:¬ (([.inl t,.inl b]:List Key)=[.inl y.t,.inl y.b]):=fun z=>by
    obtain ⟨z1,z2⟩:=Bc z;exact hk ⟨z1.symm,z2.symm⟩
   refine ⟨fun h=>?_,fun h=>?_⟩
   ·rcases eH.mp h with z | z
    ·exact absurd z hk
    ·rw [eW,if_neg hk,aM1];exact i1 z
   ·have q:=i2 fun z=>h (eH.mpr (.inr z));rw [DG,if_neg ne] at q;exact q
theorem aE8 {ys:List Row}(hp:(bO ys).Pairwise Tb.Lt)(t b:Int):(gF (gU (ys.map uB)) [.inl t,.inl b]).getD (.int 0)=.int (Tb.Wt (bO ys) t b):=by
 obtain ⟨i1,i2⟩:=yR (t:=t) (b:=b) ys [] hp;rcases Classical.em (Tb.j9 (bO ys) t b) with z | z
 ·exact i1 z
 ·have q:=i2 z;unfold gU;rw [q,Tb.jC z]
  rfl
structure Dw (ks:List Tb.Kp)(kvs:List (List Key×V)):Prop where
 nd:(kvs.map (·.1)).Nodup
 en:∀ kv∈kvs,∃ t b:Int,kv.1=[.inl t,.inl b]/\(t,b)∈ks
 all:∀ k∈ks,([Sum.inl k.1,Sum.inl k.2]:List Key)∈kvs.map (·.1)
theorem Dw.nil:Dw [] []:=⟨aMH,(fun _ h=>nomatch h),fun _ h=>nomatch h⟩
theorem Dw.put {ks:List Tb.Kp}{kvs:List (List Key×V)}(d:Dw ks kvs)(t b:Int)(v:V):Dw (ks++[(t,b)]) (putK kvs [.inl t,.inl b] v):=by
 refine ⟨?_,fun kv hkv=>?_,fun k hk=>?_⟩
 ·rw [nA]
  split
  ·exact d.nd
  ·rename_i na;refine aNg.mpr ⟨d.nd,aMf.mpr ⟨aLW,aMH⟩,fun y hy z hz=>?_⟩;rw [aLy.mp hz];rintro rfl;obtain ⟨kv,hkv,e⟩:=aLr.mp hy;exact na (aMh.mpr ⟨kv,hkv,decide_eq_true e⟩)
 ·rcases De hkv with z | ⟨z,ne⟩
  ·exact ⟨t,b,by rw [z],aLL _ (.head _)⟩
  ·obtain ⟨t',b',e,h⟩:=d.en kv z;exact ⟨t',b',e,aL9 _ h⟩
 ·rw [nA]
  split
  ·rename_i ya;rcases aLO.mp hk with z | z
   ·exact d.all k z
   ·rw [aLy.mp z];obtain ⟨kv,hkv,e⟩:=aMh.mp ya;exact aLr.mpr ⟨kv,hkv,of_decide_eq_true e⟩
  ·rcases aLO.mp hk with z | z
   ·exact aL9 _ (d.all k z)
   ·rw [aLy.mp z];exact aLL _ (.head _)
theorem RX:∀ (ns:List Int) (m:Int) (k:Nat),intBits m<=k->intBits (ns.foldl (· * ·) m)<=k+(ns.map intBits).sum
 | [],m,k,h=>by simpa using h
 | n::ns,m,k,h=>by
  have h1:intBits (m*n)<=k+intBits n:=PySem.intBits_mul_le h (aLu _);have:=RX ns (m*n) _ h1;simp only [aLw,aLI];show intBits (ns.foldl (· * ·) (m*n))<=_;omega
theorem u5 (ns:List Int):intBits (Tb.qK ns)<=1+(ns.map intBits).sum:=RX ns 1 1 (by decide)
theorem Cu (pre:List Tb.Kp):∀ {ps:List Tb.Rw},(∀ p∈ps,1<=p.w)->0<=Tb.Sm ps pre/\Tb.Sm ps pre<=Tb.W ps
 | [],_=>by simp [Tb.Sm,Tb.W]
 | p::ps,h=>by
  obtain ⟨a,b⟩:=Cu pre (ps:=ps) fun x hx=>h x (aLp _ hx);have c:=h p aLq;rw [Tb.lQ,Tb.gW]
  split <;> omega
theorem Gw.ws {t:Tn}(g:Gw t):∀ p∈bO t.ys,1<=p.w:=fun p hp=>by
 obtain ⟨x,hx,rfl⟩:=aLr.mp hp;exact g.w x hx
theorem Jr {x y:Int}(h0:0<=x)(h:x<=y):intBits x<=intBits y:=PySem.intBits_le_of_natAbs (y:=y) (by omega) (aLu _)
theorem Gw.sm {t:Tn}(g:Gw t)(pre:List Tb.Kp):0<=Tb.Sm (bO t.ys) pre/\intBits (Tb.Sm (bO t.ys) pre)<=intBits (Tb.W (bO t.ys)):=by
 obtain ⟨a,b⟩:=Cu pre (ps:=bO t.ys) g.ws;exact ⟨a,Jr a b⟩
def Am (ts:List Tn)(pre:List Tb.Kp):List Int:=ts.map fun t=>Tb.Sm (bO t.ys) pre
theorem Hr {α:Type}{f g:α->Nat}:∀ {l:List α},(∀ x∈l,f x<=g x)->(l.map f).sum<=(l.map g).sum
 | [],_=>aLu _
 | x::l,h=>by
  rw [aLw,aLw,aLI,aLI];have:=Hr (f:=f) (g:=g) (l:=l) fun y hy=>h y (aLp _ hy);have:=h x aLq;omega
theorem Lk {ts:List Tn}(g:Gs ts)(pre:List Tb.Kp):((Am ts pre).map intBits).sum<=3900:=by
 unfold Am;rw [aL1];exact aLv (Hr fun t ht=>((g.all t ht).sm pre).2) g.bt
theorem Yi {x:Int}(h1:1<=x)(h:intBits x<=3999):x<=uZ:=by
 have h2:=PySem.intBits_le_iff.mp h;have e:((2^3999:Nat):Int)<=uZ:=by decide +kernel
 omega
theorem Bf {ts:List Tn}{t:List Tb.Rw}(h:t∈pB ts):∃ u∈ts,t=bO u.ys:=by
 obtain ⟨u,hu,rfl⟩:=aLr.mp h;exact ⟨u,hu,rfl⟩
theorem vQ {ts:List Tn}{all:List Tb.Kp}(h:∀ t∈ts,∀ y∈t.ys,(y.t,y.b)∈all):∀ t∈pB ts,∀ q∈t,Tb.kp q∈all:=fun t ht q hq=>by
 obtain ⟨u,hu,rfl⟩:=Bf ht;obtain ⟨y,hy,rfl⟩:=aLr.mp hq;exact h u hu y hy
theorem Xe {ts:List Tn}(g:∀ t∈ts,Gw t):∀ t∈pB ts,∀ q∈t,1<=q.w:=fun t ht q hq=>by
 obtain ⟨u,hu,rfl⟩:=Bf ht;exact (g u hu).ws q hq
theorem Hk {ts:List Tn}(g:Gs ts):∀ p∈Tb.zF (pB ts),1<=p.w:=by
 have h:=Xe g.all;cases e:pB ts with
 | nil=>exact fun _ h=>nomatch h
 | cons t us =>
  rw [e] at h;exact Tb.Hk (h t aLq) fun u hu=>h u (aLp _ hu)
theorem Hi:∀ (us:List (List Tb.Rw)) (ps:List Tb.Rw),ps≠[]->(∀ u∈us,u≠[])->us.foldl Tb.gD ps≠[]
 | [],_,h,_=>h
 | u::us,ps,h,hu=>by
  refine Hi us (Tb.gD ps u) ?_ fun x hx=>hu x (aLp _ hx);intro z;have l:=Tb.Af ps u;rw [z] at l;have h1:0<ps.length:=aMG.mpr h;have h2:0<u.length:=aMG.mpr (hu u aLq);have:=Nat.mul_pos h1 h2;simp at l;omega
theorem Fv {ys:List Row}(h:ys≠[]):bO ys≠[]:=fun z=>h (aMd.mp z)
theorem Rh {ts:List Tn}(g:Gs ts):Tb.zF (pB ts)≠[]:=by
 cases e:ts with
 | nil=>exact absurd e g.ne
 | cons t us =>
  have hn:∀ u∈ts,u.ys≠[]:=fun u hu=>(g.all u hu).ne;rw [e] at hn;refine Hi (pB us) (bO t.ys) (Fv (hn t aLq)) fun u hu=>?_;obtain ⟨x,hx,rfl⟩:=Bf hu;exact Fv (hn x (aLp _ hx))
def qX (rs:List Rs):List Tb.Kp:=rs.map fun r=>(r.t,r.b)
theorem Kf {rs:List Rs}(h:rs.Pairwise PQ):(qX rs).Pairwise Tb.Uw:=aMX.mpr h
theorem Rm {rs:List Rs}(h:rs.Pairwise PQ):(qX rs).Nodup:=(Kf h).imp fun {x y} hxy e=>by
 subst e;exact Tb.JH hxy
def wo (H:Hp)(a:Addr):Hp:=fun b=>if b=a then none else H b
theorem JM (H:Hp)(a:Addr):wo H a a=none:=if_pos rfl
theorem w5 {H:Hp}{a b:Addr}(h:b≠a):wo H a b=H b:=if_neg h
theorem Q3 (H:Hp)(a:Addr):aR (wo H a) H:=fun b o e=>by
 by_cases h:b=a
 ·rw [h,JM] at e; cases e
 ·rw [w5 h] at e; exact e
theorem bH.wo {H H':Hp}{a:Addr}(s:bH Pt H H')(h:H a=none):bH Pt H (wo H' a):=fun b o n e=>by
 rw [w5 (bB e h)];exact s b o n e
theorem cA.wo {pos:Pos}{qual:Str}{H:Hp}{a:Addr}{xs:List V}(t:cA Pt pos qual H)(e:H a=some (.lst xs)):cA Pt pos qual (wo H a):=by
 rcases t with t | ⟨c,t,u⟩
 ·exact .inl (by rw [w5 (cI t e fun z=>nomatch z)]; exact t)
 ·exact .inr ⟨c,by rw [w5 (cI t e fun z=>nomatch z)]; exact t,by rw [w5 (cI u e fun z=>nomatch z)]; exact u⟩
def Ma (K:PySem.W.Frag):Sp:=fun vs H Q _=>∃ (a:Addr) (ns:List Int),vs=[.ref a]/\bK K H a (ns.map V.int)/\(ns.map intBits).sum<=4200/\Q (.int (Tb.qK ns)) H
def Du (Pt:Addr)(cT:Pos):Sp:=fun vs H Q _=>∃ (a:Addr) (ts:List Tn),vs=[.ref a]/\yV H a ts/\Gs ts/\cA Pt cT d8 H ∧
 ∀ (D:Addr) (H':Hp) (rs:List Rs),bH Pt H H'->cA Pt cT d8 H'->H' D=some (.lst (jN rs))->(∀ r∈rs,Ja H' r)->rs.Pairwise PQ->rs.length<=(keysOf ts).length->(∀ r∈rs,(r.t,r.b)∈keysOf ts)->(∀ k∈keysOf ts,k∈qX rs)->Q (.ref D) H'
structure Gr (ts:List Tn)(ys:List Row):Prop where
 ex:∃ rows,(∀ t b,Tb.j9 rows t b↔Tb.j9 (Tb.zF (pB ts)) t b)/\(∀ t b,Tb.Wt rows t b=Tb.Wt (Tb.zF (pB ts)) t b)/\Out rows ys
def IV (Pt:Addr)(cT:Pos):Sp:=fun vs H Q _=>∃ (a:Addr) (ts:List Tn),vs=[.ref a]/\yV H a ts/\Gs ts/\cA Pt cT d8 H ∧
 ∀ (r:Addr) (H':Hp) (ys:List Row),bH Pt H H'->cA Pt cT d8 H'->H r=none->TabAt H' r ys->Gr ts ys->ys.length<=(keysOf ts).length->Q (.ref r) H'
end
end TG
namespace L2
open PySem PySem.Spec PyProof.Rows
abbrev ZV:List Value:=[.type "ValueError",.type "Exception",.type "BaseException",.type "object"]
theorem xU.obj {K:PySem.W.Frag}{h:Heap}{C:Addr}(x:xU K C)(k:K.In h):∃ (bm:List Value) (N:Addr) (nm q:Str) (bs:List Value) (hdct:Bool) (sn:List Str) (sub:List Value) (ab:Bool) (col:Option Bool) (dd:Option Addr) (k0 k1 k2 k3 k5:Option Value) (mN:Str->Option Value),
  h.get? C=some (excClassObj nm q C N bs bm hdct sn sub ab col dd k0 k1 k2 k3 k5 "ValueError.__new__")/\h.Ns N mN/\mN "__init__" = none/\OwnTail h ZV bm:=by
 have z:=x.isx;unfold PySem.W.excIn at z
 split at z
 case h_2=>cases z
 case h_1 dd cd sl ho =>
  split at z
  case h_2=>cases z
  case h_1 C' bm k0 k1 k2 k3 n k5 hm hs =>
   simp only [aLV,beq_iff_eq,Bool.not_eq_true'] at z;obtain ⟨⟨⟨⟨⟨e1,e2⟩,hdel⟩,ht⟩,hok⟩,hni⟩:=z;subst e1;subst e2;obtain ⟨nm,bs,mro,ns,qn,hd,sn,sub,ab,col,del⟩:=cd;dsimp only at hm hdel hok hni;subst hm;subst hdel;obtain ⟨l⟩:=sl;obtain rfl:l=[k0,k1,k2,k3,some (.builtin "ValueError.__new__"),k5]:=hs;have g:=k _ _ ho;have nn:=PySem.W.isNs_of_in k hok;exact ⟨bm,ns,nm,qn,bs,hd,sn,sub,ab,col,dd,k0,k1,k2,k3,k5,_,g,.of_isNs nn,PySem.W.nsMap_none_of_in k hok hni,PySem.W.tail_of_in k ht⟩
theorem lH {X:Cx}{x:Str}{C:Addr}{E:XK}{np cpos pos:Pos}(T:Throws X E)(hc:X.calm=true)(hg:Gl X x)(hm:X.mg x=some (.ref C))(xc:xU X.K C)(hd:(x==("__debug__" : Str))=false:=by decide) :
  PS X (.Raise (some (.Call (.Name x np) [] [] cpos)) none pos) (fun _ _ H=>E (.ref C) none H):=by
 intro pins s σ H D I h;obtain ⟨bm,N,nm,q,bs,hdct,sn,sub,ab,col,dd,k0,k1,k2,k3,k5,mN,hC,hN,hni,TL⟩:=xc.obj I.kIn;refine wpAny_Raise_call_subT (C:=C) (nm:=nm) (q:=q) (N:=N) (bs:=bs) (bm:=bm) (hdct:=hdct) (sn:=sn) (sub:=sub) (ab:=ab) (col:=col) (dd:=dd) (k0:=k0) (k1:=k1) (k2:=k2) (k3:=k3) (k5:=k5) PySem.F.excBase_ValueError (mN:=mN)
  (TL.hasType PySem.F.excBase_ValueError.hasBase) (I.ok.hd hc) rfl hni (qO I hg hm ⟨rfl,?_⟩ hd)
 exact evalArgs_empty ⟨rfl,aLQ _,hC,hN,TL,fun h' e mk=>T pins σ H s h' e _ _ I mk h⟩
section
variable {P:Program}{w:World}{K:PySem.W.Frag}{mg:Str->Option Value}{base:Heap}
theorem dW.okX {x qual:Str}{st:Stmt}{f:Addr}{fd:FuncData}{N ps:List Str}{k:Nat}{sp:Sp}(F:dW K x qual st f fd)(S:aQ N ps (aN st))(len:∀ vs H Q E,sp vs H Q E->vs.length=ps.length)
  (hbody:∀ (cdv:Value) (A:Around) (outer:List Env) (s:Shared) (H:Hp) (vs:List V) (Q:VK) (E:XK),fV k (A.deeper (envOfC qual (aN st) s.heap.objs.size f cdv))->sp vs H Q E ->
   ∃ t,CG (xT (uW P w) P w K mg base N qual (aN st) f cdv A outer s H E) (gY st) t/\t { nx:=fun _ H'=>Q .non H',rt:=Q } (start N vs) H):aY P w K mg base (uW P w) (k+1) f fd ps sp:=by
 obtain ⟨oc,od,kV,doc,pm,an,cdv,ct,osl,rfl,lk,hcd⟩:=F.ex;exact O4 lk hcd S len fun A outer s H vs Q E hr hsp=>hbody cdv A outer s H vs Q E hr hsp
end
structure Ab (P:Program)(w:World)(K:PySem.W.Frag)(mg:Str->Option Value)(base:Heap)(n:Nat)(x:Str)(ps:List Str)(sp:Sp)(g:Addr)(gd:FuncData):Prop where
 ok:aY P w K mg base (uW P w) n g gd ps sp
 bi:Binds K gd ps []
 kp:PySem.W.keepIn K (.ref g)=true
 at_:mg x=some (.ref g)
theorem Ab.up {P:Program}{w:World}{K:PySem.W.Frag}{mg:Str->Option Value}{base:Heap}{n m:Nat}{x:Str}{ps:List Str}{sp:Sp}{g:Addr}{gd:FuncData}(c:Ab P w K mg base n x ps sp g gd)(h:n<=m):Ab P w K mg base m x ps sp g gd:=⟨c.ok.mono h,c.bi,c.kp,c.at_⟩
theorem xD {X:Cx}:jL (uW X.prog X.w) X E0:=fun _ _ _ _ _ _ _ ⟨_,_,_,_,_,_,_,_,_,_,_,_,_,h⟩=>False.elim h
theorem Nm {X:Cx}{n:Nat}{x:Str}{ps:List Str}{sp:Sp}{g:Addr}{gd:FuncData}{E:XK}{p pos:Pos}{e:Expr}{es:List Expr}{t:TA}(c:Ab X.prog X.w X.K X.mg X.base n x ps sp g gd)(hr:fV n X.A)(hx:jL (uW X.prog X.w) X E)(ha:PA X (e::es) t)(hg:Gl X x:=by rfl)
  (hd:(x==("__debug__" : Str))=false:=by decide) (he:starEach (e::es) X.env=(false,eval e X.env)::starEach es X.env:=by rfl) (hpl:(backTo pos (starEach es X.env)).any (·.1)=false:=by rfl) :
  PE X (.Call (.Name x p) (e::es) [] pos) (Ex sp [] E t):=IK c.ok hr hg c.at_ c.kp c.bi .nil hx ha hd he hpl
theorem PS.nox {X:Cx}{st:Stmt}{t:TS}(h:PS X.nox st t):PS X st t:=fun pins s σ H D I hw =>
 wpAny_mono (h pins s σ H D (I.wish _) hw) (fun _ _ q=>q.unwish) fun _ _ z=>False.elim z
end L2
namespace TD
open PySem L2
open Builtin.Int (intBits)
theorem iB.same {K:PySem.W.Frag}{H H':Hp}{v:V}{t:Value}(s:aR H H')(h:iB K H v t):iB K H' v t:=by
 cases h with
 | non=>exact .non
 | bl x=>exact .bl x
 | int i=>exact .int i
 | str x=>exact .str x
 | flt x=>exact .flt x
 | lst e=>exact .lst (s _ _ e)
 | frz e=>exact .frz (s _ _ e)
 | tup e=>exact .tup (s _ _ e)
 | dK e=>exact .dK (s _ _ e)
 | dT e=>exact .dT (s _ _ e)
 | ins e a b c d f=>exact .ins (s _ _ e) a b c d f
def Qg (H:Hp)(T:String)(v:V):Prop:=∀ K:PySem.W.Frag,∃ t,iB K H v t/\PySem.W.kitOne K t (.type T)=some false
theorem Qg.same {H H':Hp}{T:String}{v:V}(s:aR H H')(h:Qg H T v):Qg H' T v:=fun K=>let ⟨t,a,b⟩:=h K; ⟨t,iB.same s a,b⟩
theorem Be {K:PySem.W.Frag}:PySem.W.kitOne K (.type "bool") (.type "int")=some true:=by rfl
inductive uT (H:Hp)(lo hi:Int):V->Bool->Prop where
 | no {v:V} (h:Qg H "int" v):uT H lo hi v false
 | bl (c:Bool):uT H lo hi (.bl c) false
 | int (i:Int):uT H lo hi (.int i) (decide (lo<=i)&&decide (i<=hi))
theorem uT.yes {H:Hp}{lo hi i:Int}(h1:lo<=i)(h2:i<=hi):uT H lo hi (.int i) true:=by
 have h:=uT.int (H:=H) (lo:=lo) (hi:=hi) i;rw [decide_eq_true h1,decide_eq_true h2] at h;exact h
def rO:Sp:=fun vs H Q _=>∃ (v:V) (lo hi:Int) (b:Bool),vs=[v,.int lo,.int hi]/\uT H lo hi v b/\Q (.bl b) H
theorem iB.kp {K:PySem.W.Frag}{H H':Hp}{v:V}{t:Value}(s:∀ b o,H b=some o->(∀ ps,o≠.tbl ps)->H' b=some o)(h:iB K H v t):iB K H' v t:=by
 cases h with
 | non=>exact .non
 | bl x=>exact .bl x
 | int i=>exact .int i
 | str x=>exact .str x
 | flt x=>exact .flt x
 | lst e=>exact .lst (s _ _ e fun _ z=>nomatch z)
 | frz e=>exact .frz (s _ _ e fun _ z=>nomatch z)
 | tup e=>exact .tup (s _ _ e fun _ z=>nomatch z)
 | dK e=>exact .dK (s _ _ e fun _ z=>nomatch z)
 | dT e=>exact .dT (s _ _ e fun _ z=>nomatch z)
 | ins e a b c d f=>exact .ins (s _ _ e fun _ z=>nomatch z) a b c d f
def Kt (H H':Hp):Prop:=∀ b o,H b=some o->(∀ ps,o≠.tbl ps)->H' b=some o
theorem aR.kt {H H':Hp}(s:aR H H'):Kt H H':=fun b o h _=>s b o h
theorem bH.kt {P:Addr}{pos:Pos}{qual:Str}{H H':Hp}(s:bH P H H')(t:cA P pos qual H):Kt H H':=fun b o h n=>s.get t h n
theorem Kt.trans {H H1 H2:Hp}(a:Kt H H1)(b:Kt H1 H2):Kt H H2:=fun c o h n=>b c o (a c o h n) n
theorem Kt.kp {H H':Hp}(k:Kt H H'):Kp H H':=fun b o h n _=>k b o h n
theorem Kt.tup {H H':Hp}(k:Kt H H'){b:Addr}{xs:List V}(h:H b=some (.tup xs)):H' b=some (.tup xs):=k _ _ h fun _ z=>nomatch z
theorem Kt.lst {H H':Hp}(k:Kt H H'){b:Addr}{xs:List V}(h:H b=some (.lst xs)):H' b=some (.lst xs):=k _ _ h fun _ z=>nomatch z
theorem Qg.kt {H H':Hp}{T:String}{v:V}(s:Kt H H')(h:Qg H T v):Qg H' T v:=fun K=>let ⟨t,a,b⟩:=h K; ⟨t,iB.kp s a,b⟩
theorem uT.kt {H H':Hp}{lo hi:Int}{v:V}{b:Bool}(s:Kt H H')(h:uT H lo hi v b):uT H' lo hi v b:=by
 cases h with
 | no h=>exact .no (h.kt s)
 | bl c=>exact .bl c
 | int i=>exact .int i
theorem uT.inv {H:Hp}{lo hi:Int}{v:V}(h:uT H lo hi v true):∃ i,v=.int i/\lo<=i/\i<=hi:=by
 generalize hb:true=b at h;cases h with
 | no h=>cases hb
 | bl c=>cases hb
 | int i =>
  have:=hb.symm;rw [aLV,decide_eq_true_eq,decide_eq_true_eq] at this;exact ⟨i,rfl,this⟩
structure CN (K:PySem.W.Frag)(c:Cs):Prop where
 all:∀ T∈["tuple","int","NoneType","str","list"],PySem.W.kitOne K (.type T) (.ref c.e)=some false/\PySem.W.kitOne K (.type T) (.ref c.s)=some false
 et:PySem.W.kitOne K (.ref c.e) (.type "tuple")=some false
inductive Az (c:Cs)(K:PySem.W.Frag)(H:Hp):V->Bool->Prop where
 | yes {x:Addr}{s:Sd.Sd}{d m:Nat} (h:fW c H x s d m):Az c K H (.ref x) true
 | no {v:V}{T:String} (h:iB K H v (.type T)) (ht:T∈["tuple","int","NoneType","str","list"]):Az c K H v false
inductive z7 (c:Cs)(K:PySem.W.Frag)(H:Hp):V->Bool->Prop where
 | no {v:V}{t:Value} (h:iB K H v t) (hk:PySem.W.kitOne K t (.type "tuple")=some false):z7 c K H v false
 | len {a:Addr}{xs:List V} (e:H a=some (.tup xs)) (hl:xs.length≠2):z7 c K H (.ref a) false
 | two {a:Addr}{x y:V}{b b2:Bool} (e:H a=some (.tup [x,y])) (hx:uT H 1 1000 x b) (hy:Az c K H y b2):z7 c K H (.ref a) (b&&b2)
inductive pN (c:Cs)(K:PySem.W.Frag)(H:Hp):V->Bool->Prop where
 | no {v:V} (h:Qg H "list" v):pN c K H v false
 | len {a:Addr}{xs:List V} (e:H a=some (.lst xs)) (hl:¬ (1<=xs.length/\xs.length<=4)):pN c K H (.ref a) false
 | all {a:Addr}{xs:List V}{bs:List Bool} (e:H a=some (.lst xs)) (h1:1<=xs.length) (h4:xs.length<=4) (hb:bs.length=xs.length) (h:∀ (i:Nat) x,xs[i]? = some x->z7 c K H x (bs.getD i false)):pN c K H (.ref a) (bs.all id)
inductive Dt (c:Cs)(K:PySem.W.Frag)(H:Hp):V->Bool->Prop where
 | no {v:V} (h:Qg H "list" v):Dt c K H v false
 | len {a:Addr}{xs:List V} (e:H a=some (.lst xs)) (hl:¬ (1<=xs.length/\xs.length<=6)):Dt c K H (.ref a) false
 | all {a:Addr}{xs:List V}{bs:List Bool} (e:H a=some (.lst xs)) (h1:1<=xs.length) (h6:xs.length<=6) (hb:bs.length=xs.length) (h:∀ (i:Nat) x,xs[i]? = some x->Az c K H x (bs.getD i false)):Dt c K H (.ref a) (bs.all id)
section
variable {c:Cs}{K:PySem.W.Frag}{H H':Hp}{v:V}{b:Bool}
theorem Az.kt (s:Kt H H')(h:Az c K H v b):Az c K H' v b:=by
 cases h with
 | yes h=>exact .yes (h.kp s.kp)
 | no h ht=>exact .no (iB.kp s h) ht
theorem z7.kt (s:Kt H H')(h:z7 c K H v b):z7 c K H' v b:=by
 cases h with
 | no h hk=>exact .no (iB.kp s h) hk
 | len e hl=>exact .len (s.tup e) hl
 | two e hx hy=>exact .two (s.tup e) (hx.kt s) (hy.kt s)
end
def Kw (c:Cs)(K:PySem.W.Frag):Sp:=fun vs H Q _=>∃ (v:V) (b:Bool),vs=[v]/\Az c K H v b/\Q (.bl b) H
def JN (c:Cs)(K:PySem.W.Frag):Sp:=fun vs H Q _=>∃ (v:V) (b:Bool),vs=[v]/\z7 c K H v b/\Q (.bl b) H
def DW (c:Cs)(K:PySem.W.Frag):Sp:=fun vs H Q _=>∃ (v:V) (b:Bool),vs=[v]/\pN c K H v b/\∀ H',aR H H'->Q (.bl b) H'
def R9 (c:Cs)(C:Addr):Sp:=fun vs H Q E =>
 (∃ (x dx:Addr) (v:Int),vs=[.ref x,.int v]/\H x=some (.ins c.e dx [])/\0<=v/\v<=1000000000/\∀ H':Hp,(∀ b o,b≠x->H b=some o->H' b=some o)->(∀ d m:Nat,1<=m->fW c H' x (.en v) d m)->Q .non H') ∨
 ∃ (x:Addr) (v:V),vs=[.ref x,v]/\uT H 0 1000000000 v false/\E (.ref C) none H
structure Vj (c:Cs)(H:Hp)(a:Addr)(ps ys:List Addr)(rs:List (Int×Sd.Sd))(d:Nat)(j:Int×Sd.Sd->Nat):Prop where
 ha:H a=some (.lst (ps.map V.ref))
 R:vW c H ps ys rs d j
 ne:rs≠[]
 l4:rs.length<=4
 ww:∀ r∈rs,1<=r.1/\r.1<=1000
def Qv (c:Cs)(K:PySem.W.Frag)(C Pt:Addr)(lp:Pos):Sp:=fun vs H Q E =>
 (∃ (x dx a:Addr) (p:Int) (ps ys:List Addr) (rs:List (Int×Sd.Sd)) (d:Nat) (j:Int×Sd.Sd->Nat),vs=[.ref x,.int p,.ref a]/\H x=some (.ins c.s dx [])/\Vj c H a ps ys rs d j/\0<=p/\p<=1000000000 ∧
  (((12<Sd.nE (d+1+1) (.st p rs)∨4<Sd.nS (d+1+1) (.st p rs))/\∀ H',aR H H'->E (.ref C) none H') ∨
   ∃ m:Nat,(rs.map j).sum<=m/\m<=12/\d+1<=4/\cA Pt lp d8 H/\∀ H':Hp,(∀ b o,b≠x->b≠Pt->H b=some o->H' b=some o)->cA Pt lp d8 H'->fW c H' x (.st p rs) (d+1) m->Q .non H')) ∨
 ∃ (x:Addr) (v w:V),vs=[.ref x,v,w]/\(uT H 0 1000000000 v false∨(uT H 0 1000000000 v true/\pN c K H w false))/\∀ H',aR H H'->E (.ref C) none H'
def aBn (c:Cs)(K:PySem.W.Frag)(C:Addr):Sp:=fun vs H Q E=>∃ (v:V) (b:Bool),vs=[v]/\Dt c K H v b/\(b=true->∀ H',aR H H'->Q .non H')/\(b=false->∀ H',aR H H'->E (.ref C) none H')
section
variable {c:Cs}{K:PySem.W.Frag}{H H':Hp}{a:Addr}{ps ys:List Addr}{rs:List (Int×Sd.Sd)}{d:Nat}{j:Int×Sd.Sd->Nat}
theorem made {x dx:Addr}{o1 o2:HO}(hx:H x=none)(hd:H dx=none)(kp:∀ b o,b≠x->aX (aX H dx o1) x o2 b=some o->H' b=some o):aR H H':=fun b o e=>kp b o (bB e hx) (by rw [aO (bB e hx),aO (bB e hd)]; exact e)
theorem iT {x dx:Addr}{o1 o2:HO}(hx:H x=none)(hd:H dx=none)(ne:dx≠x):aR H (aX (aX H dx o1) x o2):=(aH hd o1).trans (aH (by rw [aO (Ne.symm ne)]; exact hx) o2)
end
section
variable {c:Cs}{H H':Hp}
theorem CQ (kt:∀ b xs,H b=some (.tup xs)->H' b=some (.tup xs)){l cp:Addr}{sd:Sd.Sd}{lv:Int×Int}{xs:List Row}{n k:Int}{d m:Nat}(h:U3 H l cp sd lv xs n k d m):U3 H' l cp sd lv xs n k d m :=
 ⟨kt _ _ h.lv,⟨kt _ _ h.caps.1,fun x hx=>⟨kt _ _ (h.caps.2 x hx).1,kt _ _ (h.caps.2 x hx).2⟩⟩,h.gs,h.so,h.n1,h.nm,h.k0,h.kd,h.mt,h.lw,h.nx,h.kx⟩
theorem JP (kt:∀ b xs,H b=some (.tup xs)->H' b=some (.tup xs))(ki:∀ b C dx f fs,H b=some (.ins C dx (f::fs))->H' b=some (.ins C dx (f::fs))){x:Addr}{s:Sd.Sd}{d m:Nat}(h:fW c H x s d m):fW c H' x s d m:=by
 induction h with
 | en h vv ok=>exact .en (ki _ _ _ _ _ h) (CQ kt vv) ok
 | st h vv g lp ly row sub p0 p9 ne l4 w hk ih=>exact .st (ki _ _ _ _ _ h) (CQ kt vv) (kt _ _ g) lp ly (fun i q y t a b c=>kt _ _ (row i q y t a b c)) ih p0 p9 ne l4 w hk
end
def fCa (tp tl th:Addr)(sp:Int)(td:Addr):List (Str×V):=[("present",.ref tp),("lowest",.ref tl),("held",.ref th),("spent",.int sp),("done",.ref td)]
inductive JT (H:Hp):V->Prop where
 | non:JT H .non
 | sh {a:Addr}{lv:Int×Int} (h:Tq H a lv) (w:Sd.Lw lv):JT H (.ref a)
inductive Jq (H:Hp):Addr->Prop where
 | op {q:Addr}{b r:Int} (h:H q=some (.tup [.str "open",.int b,.int r])):Jq H q
 | tk {q:Addr}{b:Int} (h:H q=some (.tup [.str "take",.int b])):Jq H q
structure Ca where
 dx:Addr
 tp:Addr
 tl:Addr
 th:Addr
 td:Addr
 ys:List Addr
 ss:List (Sd.Sd×Nat×Nat)
 ls:List V
 bs:List Bool
 sp:Int
 ds:List Addr
structure BK (c:Cs)(cC:Addr)(H:Hp)(x:Addr)(q:Ca):Prop where
 hx:H x=some (.ins cC q.dx (fCa q.tp q.tl q.th q.sp q.td))
 hp:H q.tp=some (.tup (q.ys.map V.ref))
 hl:H q.tl=some (.tup q.ls)
 hh:H q.th=some (.tup (q.bs.map V.bl))
 hd:H q.td=some (.tup (q.ds.map V.ref))
 n1:1<=q.ys.length
 n6:q.ys.length<=6
 es:q.ss.length=q.ys.length
 el:q.ls.length=q.ys.length
 eb:q.bs.length=q.ys.length
 st:∀ (i:Nat) y s,q.ys[i]? = some y->q.ss[i]? = some s->fW c H y s.1 s.2.1 s.2.2/\s.2.1<=4/\s.2.2<=12
 cp:∀ l∈q.ls,JT H l
 en:∀ (i:Nat) s,q.bs[i]? = some true->q.ss[i]? = some s->∃ v,s.1=.en v
 dd:∀ d∈q.ds,Jq H d
 d9:q.ds.length<=100
section
variable {c:Cs}{cC:Addr}{H H':Hp}{x:Addr}{q:Ca}
theorem JT.kt (s:Kt H H'){l:V}(h:JT H l):JT H' l:=by
 cases h with
 | non=>exact .non
 | sh h w=>exact .sh (s.tup h) w
theorem Jq.kt (s:Kt H H'){a:Addr}(h:Jq H a):Jq H' a:=by
 cases h with
 | op h=>exact .op (s.tup h)
 | tk h=>exact .tk (s.tup h)
theorem BK.kt (s:Kt H H')(h:BK c cC H x q):BK c cC H' x q :=
 ⟨s _ _ h.hx (fun _ z=>nomatch z),s.tup h.hp,s.tup h.hl,s.tup h.hh,s.tup h.hd,h.n1,h.n6,h.es,h.el,h.eb,fun i y t e1 e2=>⟨(h.st i y t e1 e2).1.kp s.kp,(h.st i y t e1 e2).2⟩,fun l hl=>(h.cp l hl).kt s,h.en,fun d hd=>(h.dd d hd).kt s,h.d9⟩
end
def KX (x:Addr)(H H':Hp):Prop:=∀ b o,b≠x->H b=some o->H' b=some o
theorem KX.trans {x:Addr}{H H1 H2:Hp}(a:KX x H H1)(b:KX x H1 H2):KX x H H2:=fun c o n h=>b c o n (a c o n h)
theorem KX.of {x:Addr}{H H':Hp}(s:aR H H'):KX x H H':=fun b o _ h=>s b o h
theorem KX.put {x:Addr}{H:Hp}(o:HO):KX x H (aX H x o):=fun b u n h=>by rw [aO n]; exact h
theorem QL {c:Cs}{K:PySem.W.Frag}{H:Hp}{a:Addr}{xs:List V}(e:H a=some (.lst xs))(h:∀ x∈xs,Az c K H x true)(b:Bool)(hb:b=(decide (0<(xs.length:Int))&&decide ((xs.length:Int)<7))):Dt c K H (.ref a) b:=by
 by_cases h1:1<=xs.length
 ·by_cases h6:xs.length<=6
  ·have z:=Dt.all (c:=c) (K:=K) (bs:=aLX xs.length true) e h1 h6 (by simp) fun i x hx=>by
    have hi:=(aLE.mp hx).1;have e2:(aLX xs.length true).getD i false=true:=by simp [List.getD,hi]
    rw [e2];exact h x (aLx hx)
   have e2:(aLX xs.length true).all id=true:=by simp
   rw [e2] at z;rw [hb,decide_eq_true (by omega),decide_eq_true (by omega)];exact z
  ·rw [hb,decide_eq_true (by omega),decide_eq_false (by omega)];exact .len e (by omega)
 ·rw [hb,decide_eq_false (by omega)];exact .len e (by omega)
structure K4 (K:PySem.W.Frag)(c:Cs)(cC:Addr):Prop where
 ne:cC≠c.e
 nS:cC≠c.s
 cl:tM K cC
 np:cB K cC "present"
 nl:cB K cC "lowest"
 nh:cB K cC "held"
 ns:cB K cC "spent"
 nd:cB K cC "done"
def aBf (q:Ca):List Nat:=(aME q.ys.length).filter fun i=>q.bs.getD i false
def Wr (q:Ca):List Int:=(aBf q).map Int.ofNat
section
variable (c:Cs)(cC:Addr)(C:Addr)
def Kr:Sp:=fun vs H Q _=>∃ (x:Addr) (q:Ca),vs=[.ref x]/\BK c cC H x q/\Q (.int (q.ys.length:Int)) H
def Ti:Sp:=fun vs H Q E=>∃ (x:Addr) (v:V) (q:Ca) (b:Bool),vs=[.ref x,v]/\BK c cC H x q/\uT H 0 ((q.ys.length:Int)-1) v b/\(b=true->Q .non H)/\(b=false->E (.ref C) none H)
def Nf:Sp:=fun vs H Q E=>∃ (x:Addr) (v:V) (q:Ca) (b:Bool),vs=[.ref x,v]/\BK c cC H x q/\uT H 0 ((q.ys.length:Int)-1) v b/\(∀ (i:Nat) y,v=.int i->q.ys[i]? = some y->Q (.ref y) H)/\(b=false->E (.ref C) none H)
def Oe:Sp:=fun vs H Q E=>∃ (x:Addr) (v:V) (q:Ca) (b:Bool),vs=[.ref x,v]/\BK c cC H x q/\uT H 0 ((q.ys.length:Int)-1) v b/\(∀ (i:Nat) l,v=.int i->q.ls[i]? = some l->Q l H)/\(b=false->E (.ref C) none H)
def RT (K:PySem.W.Frag)(CB:Addr):Sp:=fun vs H Q E =>
 (∃ (x dx a:Addr) (ys:List Addr),vs=[.ref x,.ref a]/\H x=some (.ins cC dx [])/\H a=some (.lst (ys.map V.ref))/\1<=ys.length/\ys.length<=6/\(∀ y∈ys,∃ s d m,fW c H y s d m) ∧
  ∀ (tp tl th td:Addr) (H':Hp),(∀ b o,b≠x->H b=some o->H' b=some o)->H' x=some (.ins cC dx (fCa tp tl th 0 td))->H' tp=some (.tup (ys.map V.ref))->H' tl=some (.tup (ys.map fun _=>V.non))->H' th=some (.tup (ys.map fun _=>V.bl false))->H' td=some (.tup [])->Q .non H') ∨
 ∃ (x:Addr) (v:V),vs=[.ref x,v]/\Dt c K H v false/\∀ H',aR H H'->E (.ref CB) none H'
end
theorem p9:aAg 10 9:=⟨by decide,by decide,by decide⟩
end TD
namespace Tb
def lo (l0 l1:Int)(ps:List Rw):List Rw:=ps.filter fun r=>decide (r.t*l1<l0*r.b)
end Tb
namespace Sd
def tB (M:Int)(ps:List Tb.Rw):Int:=(ps.map fun r=>r.w*r.t*M.fdiv r.b).sum
def sm (ps:List Tb.Rw):Rat:=(ps.map fun r=>(r.w:Rat)*cv r).sum
theorem JB (r:Tb.Rw)(ps:List Tb.Rw):sm (r::ps)=(r.w:Rat)*cv r+sm ps:=by unfold sm; rw [aLw,aLI]
theorem Og {M:Int}(hM:0<M):∀ {ps:List Tb.Rw},(∀ r∈ps,0<r.b/\r.b∣M)->((tB M ps:Int):Rat)=(M:Rat)*sm ps
 | [],_=>by simp [tB,sm]
 | r::ps,h=>by
  have ih:=Og hM (ps:=ps) fun x hx=>h x (aLp _ hx);obtain ⟨b0,k,hk⟩:=h r aLq;have e1:tB M (r::ps)=r.w*r.t*M.fdiv r.b+tB M ps:=by unfold tB; rw [aLw,aLI]
  have e2:M.fdiv r.b=k:=by rw [hk]; exact aMF _ (aLT b0)
  have e3:(M:Rat)=(r.b:Rat)*(k:Rat):=by rw [hk]; push_cast; rfl
  have n1:=eV b0;rw [e1,e2,JB]
  push_cast
  rw [ih];unfold cv;rw [e3]
  grind
end Sd
namespace TD
open PySem L2
open Builtin.Int (intBits)
def iY (H:Hp)(y:Addr)(xs:List Row):Prop:=∃ (C dx:Addr) (fs:List (Str×V)) (cp:Addr),H y=some (.ins C dx fs)/\fs.lookup ("cap_rows" : Str)=some (V.ref cp)/\M3 H cp xs
theorem FN {H:Hp}:∀ {xs ys:List Row},refs xs=refs ys->(∀ x∈xs,iD H x)->(∀ x∈ys,iD H x)->xs=ys
 | [],[],_,_,_=>rfl
 | [],_::_,h,_,_=>nomatch h
 | _::_,[],h,_,_=>nomatch h
 | x::xs,y::ys,h,hx,hy=>by
  have h':V.ref x.p::refs xs=V.ref y.p::refs ys:=h;injection h' with h1 h2
  injection h1 with h1
  rw [FN h2 (fun z hz=>hx z (aLp _ hz)) fun z hz=>hy z (aLp _ hz)];obtain ⟨a1,a2⟩:=hx x aLq;obtain ⟨b1,b2⟩:=hy y aLq;cases x;cases y;simp only at h1 a1 a2 b1 b2;subst h1;rw [a1] at b1;injection b1 with b1
  injection b1 with b1
  injection b1 with e1 e2
  injection e1 with e1
  injection e2 with e2
  injection e2 with e2
  subst e1 e2;rw [a2] at b2;injection b2 with b2
  injection b2 with b2
  injection b2 with e1 e2
  injection e1 with e1
  injection e2 with e2
  injection e2 with e2
  subst e1 e2
  rfl
theorem iY.uniq {H:Hp}{y:Addr}{xs zs:List Row}(a:iY H y xs)(b:iY H y zs):xs=zs:=by
 obtain ⟨C,dx,fs,cp,h1,h2,h3,h4⟩:=a;obtain ⟨C',dx',fs',cp',g1,g2,g3,g4⟩:=b;rw [h1] at g1;injection g1 with g1
 injection g1 with e1 e2 e3
 subst e3;rw [h2] at g2;injection g2 with g2
 injection g2 with g2
 subst g2;rw [h3] at g3;injection g3 with g3
 injection g3 with g3
 exact FN g3 h4 g4
theorem fW.tab {c:Cs}{H:Hp}{y:Addr}{s:Sd.Sd}{d m:Nat}(h:fW c H y s d m):∃ xs lv,iY H y xs/\By xs d m/\(bO xs).Pairwise Tb.Lt/\Sd.Mt s d lv (bO xs)/\Sd.Lw lv:=by
 cases h with
 | en h vv ok=>exact ⟨_,_,⟨_,_,_,_,h,rfl,vv.caps⟩,vv.gs,vv.so,vv.mt,vv.lw⟩
 | st h vv g lp ly row sub p0 p9 ne l4 w hk=>exact ⟨_,_,⟨_,_,_,_,h,rfl,vv.caps⟩,vv.gs,vv.so,vv.mt,vv.lw⟩
theorem iY.kp {c:Cs}{H H':Hp}{y:Addr}{s:Sd.Sd}{d m:Nat}{xs:List Row}(st:fW c H y s d m)(k:Kp H H')(h:iY H y xs):iY H' y xs:=by
 obtain ⟨C,dx,fs,cp,h1,h2,h3⟩:=h;cases fs with
 | nil=>cases h2
 | cons f fs=>exact ⟨C,dx,_,cp,k.ins h1,h2,h3.kp k⟩
theorem Oj {xs ys:List Row}{l0 l1:Int}(g:PB xs)(f:Fr.fZ l0 l1)(b0:intBits l0<=4000)(b1:intBits l1<=4000)(e:bO ys=(bO xs).map (Tb.iV l0 l1)):PB ys:=fun y hy=>by
 have m:y.r∈(bO xs).map (Tb.iV l0 l1):=by rw [<- e]; exact aLr.mpr ⟨y,hy,rfl⟩
 obtain ⟨p,hp,ep⟩:=aLr.mp m;obtain ⟨x,hx,rfl⟩:=aLr.mp hp;have pb:=g x hx;unfold Tb.iV at ep
 by_cases cc:l0*x.r.b<x.r.t*l1
 ·rw [if_pos cc] at ep;have e1:l0=y.t:=congrArg Tb.Rw.t ep;have e2:l1=y.b:=congrArg Tb.Rw.b ep;have e3:x.w=y.w:=congrArg Tb.Rw.w ep;rw [<- e1,<- e2,<- e3];exact ⟨f,b0,b1,pb.2.2.2.1,pb.2.2.2.2⟩
 ·rw [if_neg cc] at ep;have e1:x.t=y.t:=congrArg Tb.Rw.t ep;have e2:x.b=y.b:=congrArg Tb.Rw.b ep;have e3:x.w=y.w:=congrArg Tb.Rw.w ep;rw [<- e1,<- e2,<- e3];exact pb
theorem Pr {l:Int×Int}(h:Sd.Lw l):intBits l.2<=1501/\intBits l.1<=3031:=uL h.fq h.fr.pos h.b (aLA (Sd.bU _)) (aL2 _)
section
variable (c:Cs)(cC:Addr)(C:Addr)(Pt:Addr)(lp:Pos)
def uV:Sp:=fun vs H Q _=>∃ (x:Addr) (s:Sd.Sd) (d m:Nat) (xs:List Row),vs=[.ref x]/\fW c H x s d m/\iY H x xs/\∀ (r:Addr) (H':Hp),aR H H'->H r=none->TabAt H' r xs->Q (.ref r) H'
def My:Sp:=fun vs H Q _=>∃ (a l:Addr) (xs:List Row) (lv:Int×Int) (d m:Nat),vs=[.ref a,.ref l]/\TabAt H a xs/\By xs d m/\d<=4/\m<=12/\Tq H l lv/\Sd.Lw lv/\cA Pt lp d8 H ∧
 ∀ (r:Addr) (H':Hp) (ys:List Row),bH Pt H H'->cA Pt lp d8 H'->H r=none->TabAt H' r ys->Out ((bO xs).map (Tb.iV lv.1 lv.2)) ys->Q (.ref r) H'
def Sy:Sp:=fun vs H Q _=>∃ (a l:Addr) (xs:List Row) (x:Int×Int),vs=[.ref a,.ref l]/\TabAt H a xs/\xs≠[]/\xs.length<=12/\PB xs/\Tq H l x/\Fr.fZ x.1 x.2/\intBits x.1<=4000/\intBits x.2<=4000/\cA Pt lp d8 H ∧
 ∀ (r:Addr) (H':Hp) (ys:List Row),bH Pt H H'->cA Pt lp d8 H'->H r=none->TabAt H' r ys->Out ((bO xs).map (Tb.iV x.1 x.2)) ys->ys.length<=xs.length->Q (.ref r) H'
structure BR (xs:List Row):Prop where
 len:xs.length<=40
 b:∀ x∈xs,0<x.b
 t:∀ x∈xs,intBits x.t<=4000
 w:∀ x∈xs,intBits x.w<=1000
 z:∀ x∈xs,intBits x.b<=4000
 lz:intBits (bN xs)<=5000
def Qt:Sp:=fun vs H Q _=>∃ (a:Addr) (xs:List Row) (W:Int),vs=[.ref a,.int W]/\TabAt H a xs/\BR xs/\0<W/\intBits W<=1000 ∧
 ∀ p H',aR H H'->Tq H' p (Fr.sh (Sd.tB (bN xs) (bO xs)) (bN xs*W))->Q (.ref p) H'
structure At (H:Hp)(x:Addr)(i:Nat)(q:Ca)(y:Addr)(xs:List Row):Prop where
 ca:BK c cC H x q
 yy:q.ys[i]? = some y
 tab:iY H y xs
def Qw:Sp:=fun vs H Q _=>∃ (x:Addr) (i:Nat) (q:Ca) (y:Addr) (xs:List Row) (d m:Nat),vs=[.ref x,.int (i:Int)]/\At c cC H x i q y xs/\By xs d m/\d<=4/\m<=12/\cA Pt lp d8 H ∧
 ((q.ls[i]? = some .non/\∀ (r:Addr) (H':Hp),bH Pt H H'->cA Pt lp d8 H'->H r=none->TabAt H' r xs->Q (.ref r) H') ∨
  ∃ (l:Addr) (lv:Int×Int),q.ls[i]? = some (.ref l)/\Tq H l lv/\Sd.Lw lv/\∀ (r:Addr) (H':Hp) (ys:List Row),bH Pt H H'->cA Pt lp d8 H'->H r=none->TabAt H' r ys->Out ((bO xs).map (Tb.iV lv.1 lv.2)) ys->Q (.ref r) H')
end
theorem Jv {c:Cs}{ta:TE}{σ:St}{H:Hp}{Q:VK}{y:Addr}{s:Sd.Sd}{d m:Nat}{xs:List Row}(hta:∀ Q':VK,Q' (.ref y) H->ta σ H Q')(st:fW c H y s d m)(ct:iY H y xs)
  (k:∀ r H1,aR H H1->H r=none->TabAt H1 r xs->Q (.ref r) H1):pG c.e "caps" (uV c) [] E0 ta xJ σ H Q∨pG c.s "caps" (uV c) [] E0 ta xJ σ H Q:=by
 have st0:=st;cases st with
 | en h vv ok=>exact .inl (hta _ ⟨y,_,_,rfl,h,rfl,y,_,_,_,xs,rfl,st0,ct,k⟩)
 | st h vv g lp ly row sub p0 p9 ne l4 w hk=>exact .inr (hta _ ⟨y,_,_,rfl,h,rfl,y,_,_,_,xs,rfl,st0,ct,k⟩)
structure SS where
 la:Addr
 ca:Addr
 ka:Addr
 da:Addr
 ts:List Addr
 ls:List V
 ks:List Int
 pd:Int
 ds:List Addr
end TD
namespace L2
open PySem PySem.Spec PyProof.Rows
section
variable {X:Cx}
def OJ (ns:List Int):List Int:=ns.foldl step_dedup []
theorem Dh (ns:List Int):firstMet (fun i=>ns.getD i 0) ns.length=OJ ns:=by
 unfold firstMet OJ
 congr 1
 apply aOf
 ·simp
 ·intro i h1 h2;simp [h2]
theorem J3 (hc:X.calm=true):eY X (.type "set") (fun xs H Q=>∃ (a:Addr) (ns:List Int),xs=[.ref a]/\bK X.K H a (ns.map V.int)/\ns.length+1<scanBound ∧
  ∀ r,H r=none->Q (.ref r) (aX H r (.set (fun k=>(OJ ns).any (·==k)) (OJ ns).length))):=by
 intro pins s σ H xs us Q I r h;obtain ⟨a,ns,rfl,hS,hb,q⟩:=h;obtain ⟨u,rfl,ru⟩:=vals1 r;cases (show u=Value.ref a from ru);obtain ⟨its,rv,p,hz⟩:=I.list hS;have hi:=intsAre_of rv;have hl:its.toArray.size=ns.length:=by
  have h:=rv.length;rw [aLo] at h
  simpa using h.symm
 refine call_set_list (items:=its.toArray) (ns:=ns) (I.ok.hd hc) p.isList hi (by rw [hl]; exact hb) fun h' tk hSO kp=>?_;rw [hl,Dh] at hSO;refine ⟨.ref s.heap.objs.size,_,I.laid (t':=tk) (fun b o e=>kp b o (aLC e) e) (aLu _) (show cJ X.prog X.w _ h' _ (.set _ _) from hSO),rfl,q _ (I.hok.fresh (aLu _))⟩
theorem xW:eY X (.builtin "len") (fun xs H Q=>∃ (a:Addr) (S:Int->Bool) (n:Nat),xs=[.ref a]/\H a=some (.set S n)/\Q (.int n) H):=by
 intro pins s σ H xs us Q I r h;obtain ⟨a,S,n,rfl,ha,q⟩:=h;obtain ⟨u,rfl,ru⟩:=vals1 r;cases (show u=Value.ref a from ru);obtain ⟨o,es,ep,t,ho,hex,hd,_,_,hsb,hf,hn⟩:=(show cJ X.prog X.w H s.heap a (.set S n) from I.hok a _ ha)
 subst hn;refine call_len_set ho hex hd hf ?_ ⟨.int es.size,H,I.kept (h':=s.heap) (fun _ _ e=>e),⟨_,rfl⟩,q⟩;have:(es.size:Int)<4096:=by unfold scanBound at hsb; omega
 exact aOc this (by decide)
end
section
variable {prog:Program}{w:World}{A:Around}{E:Value->Shared->Prop}{s:Shared}{a₀:Array PyProof.Rows.Keyed}
theorem Pj {st:SortSt}{m:Nat}{Q:Option Nat->SortSt->Prop}(h0:IntKeys a₀)(hn:m<=a₀.size)(h1:1<=m)(hB:SBase a₀ st)(hs:SortedTo (arrOf st) m)(h:Q (some m) st) :
  wpS (model prog w) A E s (countRun' 0 m) Q st:=by
 rw [countRun0_eq];refine wpS_bind (wpS_ascLoop h0 hn (aLu 1) h1 hB (fun i j hij hj=>hs i j hij (by omega)) fun n n1 n2 _ hor=>?_);have e:n=m:=by
  rcases hor with e | e
  ·exact e
  ·by_cases z:n=m
   ·exact z
   ·exact absurd (hs (n-1) n (by omega) (by omega)) (Int.not_le.mpr e)
 subst e;dsimp only;rw [if_pos (beq_self_eq_true n)];exact wpS_pure h
theorem TJ {st:SortSt}{Q:Unit->SortSt->Prop}(h0:IntKeys a₀)(hB:SBase a₀ st)(h64:a₀.size=64)(hs:SortedTo (arrOf st) a₀.size)
  (h:∀ st',(arrOf st').Perm a₀->failedOf st'=none->SortedTo (arrOf st') a₀.size->Q () st'):wpS (model prog w) A E s sortRuns' Q st:=by
 rw [sortRuns'_eq];refine wpS_bind (wpS_get ?_);have hm:minRun' 64 64 0=32:=by decide
 simp only [hB.size,h64,hm];rw [h64] at hs;refine wpS_bind (wpS_mono (wpS_forRange (I:=fun x c st'=>(x=0/\c=(none,0)/\st'=st)∨(1<=x/\c=(none,64)/\st'=setPending st ((pendingOf st).push (0,64,0)))) (Q:=fun c st'=>c=(none,64)/\st'=setPending st ((pendingOf st).push (0,64,0))) ?step ?fin (.inl ⟨rfl,rfl,rfl⟩)) ?post)
 case fin =>
  rintro c st' (⟨hx,_,_⟩ | ⟨_,hc,hD⟩)
  ·omega
  ·exact ⟨hc,hD⟩
 case step =>
  rintro x c st' _ hx (⟨rfl,rfl,rfl⟩ | ⟨hx1,rfl,hD⟩)
  ·dsimp only;rw [if_neg (by omega)];simp only [Nat.sub_zero,aN7];refine wpS_bind (Pj h0 (by omega) (by decide) hB hs ?_);dsimp only;rw [if_neg (by decide)];refine wpS_bind (wpS_get ?_);rw [show (pendingOf st').back? = none by rw [hB.pend]; rfl];dsimp only;exact wpS_bind (wpS_modify (wpS_pure (.inr ⟨by omega,rfl,rfl⟩)))
  ·dsimp only;rw [if_pos (aLu _)];exact wpS_pure ⟨rfl,hD⟩
 case post =>
  rintro c st' ⟨rfl,rfl⟩;dsimp only;refine wpS_bind (wpS_mono (wpS_forRange (I:=fun _ c st''=>st''=setPending st ((pendingOf st).push (0,64,0))/\c=(none,())) (Q:=fun c st''=>st''=setPending st ((pendingOf st).push (0,64,0))/\c=(none,())) ?_ (fun _ _ hh=>hh) ⟨rfl,rfl⟩) ?_)
  ·rintro x c st'' _ _ ⟨rfl,rfl⟩;refine wpS_bind (wpS_get ?_);rw [if_pos (by show ((pendingOf st).push (0,64,0)).size<=1; rw [hB.pend]; exact aLu 1)];exact wpS_pure ⟨rfl,rfl⟩
  ·rintro c st'' ⟨rfl,rfl⟩;exact wpS_pure (h _ hB.perm hB.failed (by rw [h64]; exact hs))
theorem Bh {vs:List Value}{ns:List Int}(hI:IntsAre vs ns)(hs:ns.Pairwise (·<=·)):SortedTo (pairsOf vs) (pairsOf vs).size:=by
 intro i j hij hj;have hi:i<(pairsOf vs).size:=by omega
 have hn:=hI.nums;have kk:∀ (k:Nat) (hk:k<(pairsOf vs).size),K (pairsOf vs) k=ns[k]'(by rw [<- hn,aLo]; rw [pairsOf_size] at hk; exact hk):=fun k hk=>by
  rw [K_eq hk];simp only [pairsOf,Array.getElem_zip,aNl];have e:ns[k]'(by rw [<- hn,aLo]; rw [pairsOf_size] at hk; exact hk)=(vs.map numOf)[k]'(by rw [aLo]; rw [pairsOf_size] at hk; exact hk):=by simp only [hn]
  rw [e,List.getElem_map]
 rw [kk i hi,kk j hj]
 by_cases e:i=j
 ·subst e; exact aL2 _
 ·exact aM5.mp hs i j _ _ (by omega)
theorem UT {a:Addr}{vs:List Value}{ns:List Int}{n:Nat}{P:PySem.Fin->Shared->Prop}(ho:s.heap.get? a=some (seqObj "list" vs.toArray n))(hI:IntsAre vs ns)(h64:vs.length=64)(hs:ns.Pairwise (·<=·))
  (h:∀ (out:Array Value) (ns':List Int),IntsAre out.toList ns'->ns'.Perm ns->ns'.Pairwise (·<=·)->P (.done (.ret .none)) { s with heap:=sortedHeap s.heap a vs out }) :
  wpAny (model prog w) A (Builtin.«list.sort» ⟨[.ref a],[]⟩) P E s:=by
 rw [list_sort_plain];have ha:a<s.heap.objs.size:=aLC ho;have hl:vs.toArray.size=64:=by simpa using h64
 refine wpAny_bind (listItems_at ho rfl (wpAny_bind (listUpdate_at ho rfl ?_ (by rw [hl,sizeLine_eq]; decide) (aLQ _))));obtain ⟨e1,ho1⟩:∃ e1,(s.heap.update a (Obj.mapSeq fun _=>#[])).get? a=some (seqObj "list" #[] e1):=⟨_,get?_update_seq ho (fun _=>#[])⟩
 refine wpAny_bind (seqEpoch_at ho1 rfl (wpAny_bind (wpAny_newTuple (wpAny_bind (wpAny_newList (wpAny_holding ?_))) (by rw [show vs.toArray.toList=vs from rfl,h64,sizeLine_eq]; decide))));have ho6:(((s.heap.update a (Obj.mapSeq fun _=>#[])).push (seqObj "tuple" vs.toArray 0)).push (seqObj "list" #[] 0)).get? a=some (seqObj "list" #[] e1):=aLt _ (aLt _ ho1);show wpAny (model prog w) A _ P E { s with heap:=((s.heap.update a (Obj.mapSeq fun _=>#[])).push (seqObj "tuple" vs.toArray 0)).push (seqObj "list" #[] 0) };dsimp only;rw [if_neg (by rw [hl]; decide),if_neg (by rw [hl]; decide)];obtain ⟨v1,v2,rest,rfl⟩:∃ v1 v2 rest,vs=v1::v2::rest:=by
  match vs,h64 with
  | v1::v2::rest,_=>exact ⟨v1,v2,rest,rfl⟩
 rw [keyKind_ints hI];refine wpAny_bind (wpAny_pure ?_);refine wpAny_bind (wpAny_mono (TJ (a₀:=pairsOf (v1::v2::rest)) (st:=SortSt.mk' oneType' ((v1::v2::rest).toArray.zip (v1::v2::rest).toArray) #[] 7 none)
  (Q:=fun _ st'=>(arrOf st').Perm (pairsOf (v1::v2::rest))/\failedOf st'=none/\SortedTo (arrOf st') (pairsOf (v1::v2::rest)).size)
  hI.intKeys ⟨aOo.refl _,rfl,rfl,rfl⟩ (by rw [pairsOf_size]; exact h64) (Bh hI hs) fun st' a1 a2 a3=>⟨a1,a2,a3⟩) ?_ fun _ _ e=>e)
 rintro ⟨⟨⟩,st'⟩ s' ⟨rfl,hp,hf,hso⟩;dsimp only;refine wpAny_bind (seqEpoch_at ho6 rfl (wpAny_bind (listUpdate_at ho6 rfl ?_ (aLQ _) (aLv (aNK ((Array.size_map ..).trans (hp.size_eq.trans ((pairsOf_size _).trans h64)))) (by rw [sizeLine_eq]; decide)))));rw [hf];simp only [bne_self_eq_false,aMn,if_false];obtain ⟨ns',b1,b2,b3⟩:=sorted_out hI hp hso;exact wpAny_pure (h _ ns' b1 b2 b3)
theorem Et {l:Addr}{o:Obj}{T:String}{vs:List Value}{n:Nat}{Q:List Value->Shared->Prop}(hT:T = "list"∨T = "tuple")(ho:s.heap.get? l=some o)(hc:o.cls=.type T)(hd:o.data=.seq vs.toArray n)(hz:vs.length<=sizeLine)
  (h:∀ h',(∀ b u,s.heap.get? b=some u->h'.get? b=some u)->Q vs { s with heap:=h' }):wpAny (model prog w) A (collect (.ref l)) Q E s:=by
 unfold collect;refine wpAny_bind (wpAny_runValue (codeAny_builtin entry_proto_collect' ?_));show wpAny _ _ (do again (.builtin "list.__iadd__" ⟨[<- newList [],.ref l],[]⟩)) _ _ s;refine wpAny_bind (wpAny_newList (wpAny_pure ⟨Code.quiet_builtin _ (by decide +kernel),codeAny_builtin entry_list_iadd' ?_⟩));show wpAny _ _ (Builtin.List.listExtendWith (.ref s.heap.objs.size) (.ref l) (.ref s.heap.objs.size)) _ _ { s with heap:=s.heap.push (seqObj "list" #[] 0) };unfold Builtin.List.listExtendWith;have ho':(s.heap.push (seqObj "list" #[] 0)).get? l=some o:=aLt _ ho;refine wpAny_bind (wpAny_typeOf (T:=T) ⟨o,ho',hc⟩ ?_);rw [if_pos (by rcases hT with e | e <;> subst e <;> simp)];refine wpAny_bind (listItems_at ho' hd (wpAny_bind (listItems_at (xs:=#[]) (n:=0) (aLJ _ rfl) rfl ?_)));rw [if_neg (by simp)];refine wpAny_bind (listUpdate_at (xs:=#[]) (n:=0) (aLJ _ rfl) rfl ?_ (aLQ _) (by show (#[]++vs.toArray).size<=sizeLine+1; simp only [Array.size_append,aLM,aOl]; omega));refine wpAny_pure ?_;show wpAny (model prog w) A (do
   let o <- load s.heap.objs.size
   match o.data with
   | .seq xs _=>pure xs.toList
   | _=>unsupported "internal:collect") Q E { s with heap:=(s.heap.push (seqObj "list" #[] 0)).update s.heap.objs.size (Obj.mapSeq (·++vs.toArray)) }
 refine wpAny_bind (wpAny_load (get?_update_seq (aLJ _ rfl) _) ?_);show wpAny _ _ (pure ((#[]:Array Value)++vs.toArray).toList) Q E _;rw [show ((#[]:Array Value)++vs.toArray).toList=vs by simp];refine wpAny_pure (h _ fun b u e=>?_);rw [Heap.get?_update_ne _ _ _ _ (aLR (aLC e))];exact aLt _ e
end
section
variable {X:Cx}
def Ml (ns:List Int):Prop:=ns.length<64∨(ns.length=64/\ns.Pairwise (·<=·))
theorem z8:eY X (.builtin "sorted") (fun xs H Q=>∃ (p:Addr) (ns:List Int),xs=[.ref p]/\(bK X.K H p (ns.map V.int)∨cY X.K H p (ns.map V.int))/\Ml ns ∧
  ∀ (l:Addr) (ms:List Int),H l=none->ms.Perm ns->ms.Pairwise (·<=·)->Q (.ref l) (aX H l (.lst (ms.map V.int)))):=by
 intro pins s σ H xs us Q I r h;obtain ⟨p,ns,rfl,hq,h64,q⟩:=h;obtain ⟨u,rfl,ru⟩:=vals1 r;cases (show u=Value.ref p from ru);obtain ⟨T,hT,o,its,n,ho,hc,hd,rv,hz⟩:∃ T,(T = "list"∨T = "tuple")/\∃ (o:Obj) (its:List Value) (n:Nat),s.heap.get? p=some o/\o.cls=.type T/\o.data=.seq its.toArray n/\b8 (ns.map V.int) its/\(ns.map V.int).length<=sizeLine:=by
  rcases hq with hq | hq
  ·obtain ⟨its,rv,pl,hz⟩:=I.list hq;obtain ⟨o,ho,hc,n,hd⟩:=pl.isList;exact ⟨"list",.inl rfl,o,its,n,ho,hc,hd,rv,hz⟩
  ·obtain ⟨its,rv,pl,hz⟩:=I.tuple hq;obtain ⟨o,ho,hc,n,hd⟩:=pl;exact ⟨"tuple",.inr rfl,o,its,n,ho,hc,hd,rv,hz⟩
 have hlen:=rv.length;have hi:=intsAre_of rv;have hln:its.length=ns.length:=hi.length;refine Calls.call_function_entry kind_sorted plain_sorted entry_sorted (args_sorted1 _) ?_;unfold Builtin.«sorted»;refine wpAny_bind (m:=checkCount "sorted" 1 1 _) (wpAny_pure ?_);refine wpAny_bind (Et hT ho hc hd (by omega) fun h' kp=>?_);refine wpAny_bind (wpAny_newList ?_ (by omega));have hoL:(h'.push (seqObj "list" its.toArray 0)).get? h'.objs.size=some (seqObj "list" its.toArray 0):=aLJ _ rfl;have fin:∀ (out:Array Value) (ns':List Int),IntsAre out.toList ns'->ns'.Perm ns->ns'.Pairwise (·<=·)->EP X pins σ Q (.ref h'.objs.size) { s with heap:=sortedHeap (h'.push (seqObj "list" its.toArray 0)) h'.objs.size its out }:=fun out ns' a1 a2 a3=>by
  have I1:bD X pins σ H { s with heap:=h' }:=I.kept (t':=s.toks) kp;obtain ⟨ep2,eo⟩:=sortedHeap_at (out:=out) hoL;have hlo:out.toList.length=ns'.length:=a1.length;have hl2:ns'.length=ns.length:=a2.length_eq;refine ⟨.ref h'.objs.size,aX H h'.objs.size (.lst (ns'.map V.int)),I1.laid (t':=s.toks) (fun b u q=>?_) (aLu _) ⟨by rw [aLo]; omega,out.toList,ep2,rN a1,by rw [aNm]; exact eo⟩,rfl,q _ _ (I1.hok.fresh (aLu _)) a2 a3⟩;rw [sortedHeap_old (aLR (aLC q)) (by rw [aNV]; exact aNz (aLC q))];exact aLt _ q
 rcases h64 with h64 | ⟨h64,hs⟩
 ·refine wpAny_bind (wpAny_holding (wpAny_call_entry slot_list_sort ⟨_,hoL,rfl⟩ entry_list_sort (list_sort_tree hoL hi (by omega) fun out ns' a1 a2 a3=>⟨_,rfl,?_⟩) (args_list_sort _)));exact wpAny_pure ⟨_,rfl,fin out ns' a1 a2 a3⟩
 ·refine wpAny_bind (wpAny_holding (wpAny_call_entry slot_list_sort ⟨_,hoL,rfl⟩ entry_list_sort (UT hoL hi (by omega) hs fun out ns' a1 a2 a3=>⟨_,rfl,?_⟩) (args_list_sort _)));exact wpAny_pure ⟨_,rfl,fin out ns' a1 a2 a3⟩
def Uu:V->List V->Hp->VK->Prop:=fun x vs H Q=>∃ (l:Addr) (ns:List Int) (k:Int),x=.ref l/\vs=[.int k]/\H l=some (.lst (ns.map V.int))/\Q (.int (ns.count k:Nat)) H
theorem zM {k:Int}:∀ {us:List Value}{ns:List Int},IntsAre us ns->us.countP (fun y=>numOf y==k)=ns.count k
 | _,_,.nil=>rfl
 | _,_,.cons n t h=>by
  rw [aNH,aOm,zM h]
  rfl
theorem OD:MtM X "list.count" Uu:=by
 intro pins s σ H x vs v us Q I rx rv h;obtain ⟨l,ns,k,rfl,rfl,hH,q⟩:=h;cases rx;obtain ⟨u,rfl,ru⟩:=rv.one;obtain ⟨t,rfl⟩:=ru;obtain ⟨z,its,n,r,hl,e⟩:=I.lstM hH;have hi:=intsAre_of r;refine call_meets F.slot_list_count ⟨_,e,rfl⟩ F.entry_list_count (F.args_list_count_2 _ _) (SeqAt.list_countAt l its.toArray n none #[] (.int k t) fun y=>numOf y==k) ⟨e,fun y hy=>?_,?_⟩
 ·obtain ⟨m,t',rfl⟩:=hi.all y (by simpa using hy);exact SeqAt.EqAt.int_int m t' k t
 ·refine ⟨.int (ns.count k:Nat),H,I.kept (h':=s.heap) (fun _ _ e=>e),⟨s.toks,?_⟩,q⟩;rw [show its.toArray.toList=its from rfl,zM hi]
theorem Ft {e:Expr}{a b c:TE}(h1:PE X e a)(h2:PE X e b)(h3:PE X e c):PE X e (fun σ H Q=>a σ H Q∨b σ H Q∨c σ H Q):=fun pins s σ H Q I h=>by
 rcases h with h | h | h
 ·exact h1 pins s σ H Q I h
 ·exact h2 pins s σ H Q I h
 ·exact h3 pins s σ H Q I h
end
theorem QD {ns:List Int}(nd:ns.Nodup):OJ ns=ns:=by
 have go:∀ (ms ds:List Int),(ds++ms).Nodup->ms.foldl PyProof.Rows.step_dedup ds=ds++ms:=by
  intro ms
  induction ms with
  | nil=>intro ds _; simp
  | cons m ms ih =>
   intro ds h;have hm:ds.any (·==m)=false:=by
    rw [aMW];intro x hx z;have hxm:x=m:=by simpa using z
    have:=(aNg.mp h).2.2 x hx m aLq;exact this hxm
   show ms.foldl PyProof.Rows.step_dedup (PyProof.Rows.step_dedup ds m)=_;have e:PyProof.Rows.step_dedup ds m=ds++[m]:=by unfold PyProof.Rows.step_dedup; rw [if_neg (by rw [hm]; exact aLK)]
   rw [e,ih (ds++[m]) (by rw [aNC]; exact h),aNC]
   rfl
 exact go ns [] (by simpa using nd)
theorem xP {X:Cx}{K:PySem.W.Frag}(hK:X.K=K):eY X (.builtin "sorted") (fun xs H Q=>∃ (p:Addr) (ns:List Int),xs=[.ref p]/\(bK K H p (ns.map V.int)∨cY K H p (ns.map V.int))/\Ml ns ∧
  ∀ (l:Addr) (ms:List Int),H l=none->ms.Perm ns->ms.Pairwise (·<=·)->Q (.ref l) (aX H l (.lst (ms.map V.int)))):=by subst hK; exact z8
theorem Fg {X:Cx}{K:PySem.W.Frag}(hK:X.K=K)(hc:X.calm=true):eY X (.type "set") (fun xs H Q=>∃ (a:Addr) (ns:List Int),xs=[.ref a]/\bK K H a (ns.map V.int)/\ns.length+1<scanBound ∧
  ∀ r,H r=none->Q (.ref r) (aX H r (.set (fun k=>(OJ ns).any (·==k)) (OJ ns).length))):=by subst hK; exact J3 hc
theorem Us:bootBuiltins "set" = some (.type "set"):=by decide +kernel
section
variable {X:Cx}{K:PySem.W.Frag}{o e:Expr}{es:List Expr}{ta to:TE}{t:TA}{f name:Str}{pos apos cpos:Pos}{T id:String}{r:V->List V->Hp->VK->Prop}
theorem Aa (hK:X.K=K)(he:PE X e ta)(hb:attributeBase e f X.env (eval e X.env)=eval e X.env):PE X (.Attribute e f pos) (Xh K ta f):=by subst hK; exact j7 he hb
theorem Ub (hK:X.K=K)(pa:PlainAttrs T)(slot:Slot T name id)(hty:typeOf (.builtin id)=pure (.type "method_descriptor"))(hm:MtR X id r)(ho:PE X o to)(ha:PA X (e::es) t)
  (hbase:attributeBase o name X.env (eval o X.env)=eval o X.env:=by rfl)
  (hfew:((backTo cpos (starEach (e::es) X.env)).all (fun x=>!x.1)&&(backToKw cpos (keywordEach [] X.env)).all (fun x=>x.1.isSome)
  &&decide ((e::es).length+([]:List Keyword).length+(if ([]:List Keyword).isEmpty then 0 else 1)<30))=true:=by rfl)
  (hline:(apos.endLine==cpos.line)=true:=by rfl) (hs:starEach (e::es) X.env=(false,eval e X.env)::starEach es X.env:=by rfl) (hplain:(backTo cpos (starEach es X.env)).any (·.1)=false:=by rfl) :
  PE X (.Call (.Attribute o name apos) (e::es) [] cpos) (tBM K T r to t):=by subst hK; exact lX pa slot hty hm ho ha hbase hfew hline hs hplain
end
end L2
namespace TP
open PySem L2 TD
open Builtin.Int (intBits)
def hb (k b:Int):Bool:=decide (V.int (Builtin.bitAnd (k/2^b.toNat) 1)=V.int 1)
def six (n:Nat):List Int:=(aME n).map fun (i:Nat)=>(0:Int)+(i:Int)
def iK (k:Int):List Int:=(six 6).filter (hb k)
theorem qF (n:Nat):six (n+1)=six n++[0+(n:Int)]:=by unfold six; rw [List.range_succ,aLB]; rfl
theorem Ih {n:Nat}{b:Int}(h:b∈six n):0<=b/\b<n:=by
 obtain ⟨i,hi,rfl⟩:=aLr.mp h;have:=aMj.mp hi;omega
theorem Bv (k:Int):(iK k).length<=6:=aLv (aMU _ _) (by unfold six; rw [aLo,aNh]; exact aLu _)
theorem m8 {k b:Int}(h:b∈iK k):0<=b/\b<6:=Ih (aL3.mp h).1
def Nr:Sp:=fun vs H Q _=>∃ k b:Int,vs=[.int k,.int b]/\0<=b/\Q (.bl (hb k b)) H
def wY:Sp:=fun vs H Q _=>∃ k:Int,vs=[.int k]/\∀ r H',aR H H'->H r=none->H' r=some (.lst (Is (iK k)))->Q (.ref r) H'
def SM:Sp:=fun vs H Q _=>∃ k:Int,vs=[.int k]/\∀ H',aR H H'->Q (.int ((iK k).length:Nat)) H'
def Gv:Sp:=fun vs H Q _=>∃ (a:Addr) (ns:List Int) (lo hi g:Int),vs=[.ref a,.int lo,.int hi,.int g]/\H a=some (.lst (Is ns))/\lo<=(ns.length:Int)/\(ns.length:Int)<=hi/\ns.length<=64/\(∀ n∈ns,0<=n/\n<=g)/\∀ H',aR H H'->Q (.bl true) H'
inductive Sk where
 | few (c:Int)
 | groups (gs ms:List Int)
 | listed (ks:List Int)
structure Wb (gs ms:List Int):Prop where
 l1:1<=gs.length
 l6:gs.length<=6
 g:∀ g∈gs,0<=g/\g<=5
 m6:ms.length=6
 m:∀ m∈ms,0<=m/\m<=6
structure GLs (ks:List Int):Prop where
 l1:1<=ks.length
 few:Ml ks
 nd:ks.Nodup
 k:∀ k∈ks,0<=k/\k<=63
theorem GLs.l64 {ks:List Int}(g:GLs ks):ks.length<=64:=by rcases g.few with h | h <;> omega
def qP:Sk->Prop
 | .few c=>0<=c/\c<=6
 | .groups gs ms=>Wb gs ms
 | .listed ks=>GLs ks
def Oz (gs ms:List Int)(k:Int):Bool:=(iK k).all (fun b=>decide (b<(gs.length:Int)))&&((iK k).map fun b=>gs.getD b.toNat 0).all fun g=>decide ((((iK k).map fun b=>gs.getD b.toNat 0).count g:Nat)<=ms.getD g.toNat 0)
def fX:Sk->Int->Bool
 | .few c,k=>decide (((iK k).length:Nat)<=c)
 | .groups gs ms,k=>Oz gs ms k
 | .listed ks,k=>Qf (.int k) (Is ks)
structure xF where
 f:Addr
 g:Addr
 l:Addr
def tZ (C:Addr)(H:Hp)(x:Addr)(c:Int):Prop:=∃ dx,H x=some (.ins C dx [("limit",.int c)])
def Cz (C:Addr)(H:Hp)(x:Addr)(gs ms:List Int):Prop:=∃ dx g m,H x=some (.ins C dx [("groups",.ref g),("most",.ref m)])/\H g=some (.tup (Is gs))/\H m=some (.tup (Is ms))
def Fj (C:Addr)(H:Hp)(x:Addr)(ks:List Int):Prop:=∃ dx k,H x=some (.ins C dx [("sets",.ref k)])/\H k=some (.tup (Is ks))
theorem tZ.same {C:Addr}{H H':Hp}{x:Addr}{c:Int}(s:aR H H')(h:tZ C H x c):tZ C H' x c:=by obtain ⟨dx,a⟩:=h; exact ⟨dx,s _ _ a⟩
theorem Cz.same {C:Addr}{H H':Hp}{x:Addr}{gs ms:List Int}(s:aR H H')(h:Cz C H x gs ms):Cz C H' x gs ms:=by obtain ⟨dx,g,m,a,b,c⟩:=h; exact ⟨dx,g,m,s _ _ a,s _ _ b,s _ _ c⟩
theorem Fj.same {C:Addr}{H H':Hp}{x:Addr}{ks:List Int}(s:aR H H')(h:Fj C H x ks):Fj C H' x ks:=by obtain ⟨dx,k,a,b⟩:=h; exact ⟨dx,k,s _ _ a,s _ _ b⟩
def Qs (C:Addr):Sp:=fun vs H Q _=>∃ (x dx:Addr) (c:Int),vs=[.ref x,.int c]/\H x=some (.ins C dx [])/\0<=c/\c<=6/\Q .non (aX H x (.ins C dx [("limit",.int c)]))
def vA (C:Addr):Sp:=fun vs H Q _=>∃ (x:Addr) (c k:Int),vs=[.ref x,.int k]/\tZ C H x c/\∀ H',aR H H'->Q (.bl (fX (.few c) k)) H'
def R5 (C:Addr):Sp:=fun vs H Q _=>∃ (x dx a b:Addr) (gs ms:List Int),vs=[.ref x,.ref a,.ref b]/\H x=some (.ins C dx [])/\H a=some (.lst (Is gs))/\H b=some (.lst (Is ms))/\Wb gs ms ∧
 ∀ g m H',(∀ b o,b≠x->H b=some o->H' b=some o)->H' g=some (.tup (Is gs))->H' m=some (.tup (Is ms))->H' x=some (.ins C dx [("groups",.ref g),("most",.ref m)])->Q .non H'
def vN (C:Addr):Sp:=fun vs H Q _=>∃ (x:Addr) (gs ms:List Int) (k:Int),vs=[.ref x,.int k]/\Cz C H x gs ms/\Wb gs ms/\∀ H',aR H H'->Q (.bl (Oz gs ms k)) H'
def Qy (C:Addr):Sp:=fun vs H Q _=>∃ (x dx a:Addr) (ks:List Int),vs=[.ref x,.ref a]/\H x=some (.ins C dx [])/\H a=some (.lst (Is ks))/\GLs ks ∧
 ∀ k ms H',aR H H'->ms.Perm ks->ms.Pairwise (·<=·)->H' k=some (.tup (Is ms))->Q .non (aX H' x (.ins C dx [("sets",.ref k)]))
def vI (C:Addr):Sp:=fun vs H Q _=>∃ (x:Addr) (ks:List Int) (k:Int),vs=[.ref x,.int k]/\Fj C H x ks/\Q (.bl (Qf (.int k) (Is ks))) H
theorem QH (ns:List Int):(Is ns).all qQ=true:=by
 rw [aMI];intro v hv;obtain ⟨n,_,rfl⟩:=aLr.mp hv
 rfl
theorem RZ {ns:List Int}{k:Int}(h0:0<=k)(h:k<(ns.length:Int)):Hq (Is ns) k=some (.int (ns.getD k.toNat 0)):=by
 have hk:k.toNat<ns.length:=by omega
 have e:=j6 (xs:=Is ns) (j:=k.toNat) (v:=.int (ns.getD k.toNat 0)) (by rw [aLH,aLs hk]; simp [hk]);rw [show ((k.toNat:Nat):Int)=k by omega] at e;exact e
def fC (cs:xF)(H:Hp)(x:Addr):Sk->Prop
 | .few c=>tZ cs.f H x c
 | .groups gs ms=>Cz cs.g H x gs ms
 | .listed ks=>∃ ms,ms.Perm ks/\ms.Pairwise (·<=·)/\Fj cs.l H x ms
theorem fC.same {cs:xF}{H H':Hp}{x:Addr}{S:Sk}(s:aR H H')(h:fC cs H x S):fC cs H' x S:=by
 cases S with
 | few c=>exact tZ.same s h
 | groups gs ms=>exact Cz.same s h
 | listed ks=>obtain ⟨ms,a,b,c⟩:=h; exact ⟨ms,a,b,c.same s⟩
end TP
namespace TP
open PySem L2 TD
theorem getD_mem {ns:List Int}{i:Nat}(h:i<ns.length):ns.getD i 0∈ns:=by
 rw [show ns.getD i 0=ns[i] by simp [h]];exact aMc h
theorem Ou (x y:Int):Oi (.int x) (.int y)=(x==y):=rfl
theorem Fi {x:Int}:∀ {ks:List Int},Qf (.int x) (Is ks)=true↔x∈ks
 | []=>⟨fun h=>(nomatch h),fun h=>(nomatch h)⟩
 | k::ks=>by
  have e:Qf (.int x) (Is (k::ks))=(Oi (.int k) (.int x)||Qf (.int x) (Is ks)):=rfl;rw [e,Ou,aMP,Fi,aLF,beq_iff_eq];exact ⟨fun h=>h.imp Eq.symm id,fun h=>h.imp Eq.symm id⟩
def Fl:Sp:=fun vs H Q _=>∃ k b:Int,vs=[.int k,.int b]/\0<=b/\b<100/\Q (.int (Builtin.bitOr k (1*2^b.toNat))) H
abbrev Bs (bs:List Bool):List V:=bs.map V.bl
theorem Eu {bs:List Bool}{k:Int}(h0:0<=k)(h:k<(bs.length:Int)):Hq (Bs bs) k=some (.bl (bs.getD k.toNat false)):=by
 have hk:k.toNat<bs.length:=by omega
 have e:=j6 (xs:=Bs bs) (j:=k.toNat) (v:=.bl (bs.getD k.toNat false)) (by rw [aLH,aLs hk]; simp [hk]);rw [show ((k.toNat:Nat):Int)=k by omega] at e;exact e
theorem nU (bs:List Bool):(Bs bs).length=bs.length:=aLo _
theorem Qh:∀ (k:Fin 64) (b:Fin 6),hb ((k.val:Nat):Int) ((b.val:Nat):Int)=true->(2:Int)^b.val<=((k.val:Nat):Int):=by decide +kernel
theorem low {k b:Int}(h0:0<=k)(h1:k<64)(hb1:b∈iK k):0<=k-1*2^b.toNat/\k-1*2^b.toNat<k:=by
 have r:=m8 hb1;have e:=Qh ⟨k.toNat,by omega⟩ ⟨b.toNat,by omega⟩;simp only [show ((k.toNat:Nat):Int)=k by omega,show ((b.toNat:Nat):Int)=b by omega] at e;have h2:=e (aL3.mp hb1).2;have h3:(0:Int)<2^b.toNat:=Int.pow_pos (by decide);omega
def wV (bs:List Bool)(n:Nat):Prop:=∀ o:Nat,o<n->∀ b∈iK (0+(o:Int)),bs.getD (0+(o:Int)).toNat false=true->bs.getD (0+(o:Int)-1*2^b.toNat).toNat false=true
theorem Ut:∀ (m:Fin 7) (k:Fin 64) (b:Fin 6),k.val<2^m.val->hb ((k.val:Nat):Int) ((b.val:Nat):Int)=true->b.val<m.val:=by decide +kernel
theorem aAR:∀ (m:Fin 7) (k:Fin 64) (b:Fin 6),k.val<2^m.val->b.val<m.val->0<=Builtin.bitOr ((k.val:Nat):Int) (2^b.val)/\Builtin.bitOr ((k.val:Nat):Int) (2^b.val)<2^m.val:=by decide +kernel
theorem BZ {m:Nat}{o e b:Int}(hm:m<=6)(o0:0<=o)(o1:o<2^m)(e0:0<=e)(e1:e<2^m)(h:b∈iK o):0<=Builtin.bitOr e (1*2^b.toNat)/\Builtin.bitOr e (1*2^b.toNat)<2^m:=by
 have r:=m8 h;have p6:(2:Int)^m<=64:=by
  have:m=0∨m=1∨m=2∨m=3∨m=4∨m=5∨m=6:=by omega
  rcases this with z | z | z | z | z | z | z <;> subst z <;> decide
 have pn:((2^m:Nat):Int)=(2:Int)^m:=by push_cast; rfl
 have ko:o.toNat<2^m:=by omega
 have ke:e.toNat<2^m:=by omega
 have x:=Ut ⟨m,by omega⟩ ⟨o.toNat,by omega⟩ ⟨b.toNat,by omega⟩ ko;simp only [show ((o.toNat:Nat):Int)=o by omega,show ((b.toNat:Nat):Int)=b by omega] at x;have y:=aAR ⟨m,by omega⟩ ⟨e.toNat,by omega⟩ ⟨b.toNat,by omega⟩ ke (x (aL3.mp h).2);simp only [show ((e.toNat:Nat):Int)=e by omega] at y;rw [aMK];exact y
def Hu (bs:List Bool)(o e:Int):List Bool:=((iK o).filter fun b=>!hb e b).map fun b=>bs.getD (Builtin.bitOr e (1*2^b.toNat)).toNat false
def Mq:Sp:=fun vs H Q _=>∃ (a:Addr) (bs:List Bool) (m:Nat) (o e:Int),vs=[.ref a,.int o,.int e]/\H a=some (.lst (Bs bs))/\bs.length=2^m/\m<=6/\0<=o/\o<(bs.length:Int)/\0<=e/\e<(bs.length:Int)/\∀ H',aR H H'->Q (.bl ((Hu bs o e).any id)) H'
def pick (bs:List Bool)(s:Nat)(k:Int):Bool:=bs.getD k.toNat false&&((iK k).length==s)
def Ep (bs:List Bool)(i s:Nat):List Int:=(six i).filter (pick bs s)
theorem Kc (bs:List Bool)(i s:Nat):(Ep bs i s).length<=i:=aLv (aMU _ _) (by unfold six; rw [aLo,aNh]; exact aLu _)
theorem rD (bs:List Bool)(i s:Nat):Ep bs (i+1) s=Ep bs i s++(if pick bs s (0+(i:Int))=true then [0+(i:Int)] else []):=by
 unfold Ep;rw [qF,aMM]
 congr 1
 rw [aM4]
 split <;> rfl
structure Wl (H:Hp)(D:Addr)(ls:List Addr)(bs:List Bool)(i:Nat):Prop where
 lst:H D=some (.lst (ls.map V.ref))
 len:ls.length=7
 nd:ls.Nodup
 ne:∀ l∈ls,l≠D
 each:∀ (s:Nat) l,ls[s]? = some l->H l=some (.lst (Is (Ep bs i s)))
def Ni:Sp:=fun vs H Q _=>∃ (a:Addr) (bs:List Bool),vs=[.ref a]/\H a=some (.lst (Bs bs))/\bs.length<=64/\∀ r H' ls,aR H H'->Wl H' r ls bs bs.length->Q (.ref r) H'
structure RK (bs:List Bool)(o e:Int):Prop where
 o0:0<=o
 o1:o<(bs.length:Int)
 e0:0<=e
 e1:e<(bs.length:Int)
 bo:bs.getD o.toNat false=true
 be:bs.getD e.toNat false=true
 sz:(iK o).length=(iK e).length+1
 no:(Hu bs o e).any id=false
theorem Eh {bs:List Bool}{i s:Nat}{x:Int}(h:x∈Ep bs i s):0<=x/\x<(i:Int)/\bs.getD x.toNat false=true/\(iK x).length=s:=by
 obtain ⟨h1,h2⟩:=aL3.mp h;have r:=Ih h1;unfold pick at h2;rw [aLV,beq_iff_eq] at h2;exact ⟨r.1,r.2,h2.1,h2.2⟩
theorem at0 {xs:List V}{i:Nat}{v:V}(h:xs[i]? = some v):Hq xs (0+(i:Int))=some v:=by rw [aM1]; exact j6 h
theorem at1 {xs:List V}{i:Nat}{v:V}(h:xs[i+1]? = some v):Hq xs (0+(i:Int)+1)=some v:=by
 have:=j6 h;rw [show ((i+1:Nat):Int)=0+(i:Int)+1 by omega] at this;exact this
def Oh:Sp:=fun vs H Q _=>∃ (a:Addr) (bs:List Bool) (m:Nat),vs=[.ref a]/\H a=some (.lst (Bs bs))/\bs.length=2^m/\m<=6/\(∀ H',aR H H'->Q .non H') ∧
 ∀ (r:Addr) (H':Hp) (o e:Int),aR H H'->H' r=some (.tup [.str "more",.int o,.int e])->RK bs o e->Q (.ref r) H'
theorem Im:∀ {xs ys:List Int},(∀ g,xs.count g<=ys.count g)->xs.length<=ys.length
 | [],_,_=>aLQ _
 | x::xs,ys,h=>by
  have hx:=h x;rw [List.count_cons_self] at hx;have mem:x∈ys:=List.count_pos_iff.mp (by omega);have ih:=Im (xs:=xs) (ys:=ys.erase x) fun g=>by
   have a:=h g;rw [aOm] at a;rw [List.count_erase]
   by_cases e:(x==g)=true
   ·rw [if_pos e] at a ⊢; omega
   ·rw [if_neg e] at a ⊢; omega
  rw [List.length_erase_of_mem mem] at ih;have:=List.length_pos_of_mem mem;rw [aL0];omega
theorem QT:∀ (k:Fin 64),∀ b∈six 6,∀ x∈six 6,hb ((k.val:Nat):Int) b=true->hb (((k.val:Nat):Int)-1*2^b.toNat) x=(hb ((k.val:Nat):Int) x&&!(x==b)):=by decide +kernel
theorem Uo:∀ (k:Fin 64),∀ b∈six 6,∀ x∈six 6,hb (Builtin.bitOr ((k.val:Nat):Int) (1*2^b.toNat)) x=(hb ((k.val:Nat):Int) x||x==b):=by decide +kernel
theorem nd6:(six 6).Nodup:=by decide +kernel
def Nc (gf:Int->Int)(k g:Int):Nat:=((iK k).map gf).count g
theorem sJ (gf:Int->Int)(k g:Int):Nc gf k g=(six 6).countP fun b=>(gf b==g)&&hb k b:=by
 unfold Nc iK;rw [List.count,List.countP_map,List.countP_filter]
 rfl
theorem len_eq (k:Int):(iK k).length=(six 6).countP (hb k):=by unfold iK; rw [List.countP_eq_length_filter]
structure Rt (n:Int)(may:Int->Bool)(L:Int)(gf M:Int->Int)(c:Int):Prop where
 n64:n<=64
 m0:∀ g,0<=M g
 c0:0<=c
 iff:∀ k,0<=k->k<n->(may k=true↔(∀ b∈iK k,b<L)/\(∀ g,(Nc gf k g:Int)<=M g)/\((iK k).length:Int)<=c)
theorem Sh:iK 0=[]:=by decide +kernel
theorem Rt.zero {n:Int}{may:Int->Bool}{L:Int}{gf M:Int->Int}{c:Int}(h:Rt n may L gf M c)(hn:0<n):may 0=true:=by
 refine (h.iff 0 (aL2 _) hn).mpr ?_;unfold Nc;rw [Sh];exact ⟨(fun b hb=>nomatch hb),h.m0,h.c0⟩
theorem Rt.down {n:Int}{may:Int->Bool}{L:Int}{gf M:Int->Int}{c:Int}(h:Rt n may L gf M c){o b:Int}(o0:0<=o)(o1:o<n)(hb1:b∈iK o)(ho:may o=true):may (o-1*2^b.toNat)=true:=by
 have n64:=h.n64;have lw:=low o0 (by omega) hb1;obtain ⟨a1,a2,a3⟩:=(h.iff o o0 o1).mp ho;obtain ⟨m1,m2⟩:=aL3.mp hb1;have key:∀ x∈six 6,hb (o-1*2^b.toNat) x=(hb o x&&!(x==b)):=fun x hx=>by
  have z:=QT ⟨o.toNat,by omega⟩ b m1 x hx;have e:((o.toNat:Nat):Int)=o:=by omega
  simp only [e] at z;exact z m2
 have imp:∀ x∈six 6,hb (o-1*2^b.toNat) x=true->hb o x=true:=fun x hx hh=>by
  rw [key x hx,aLV] at hh;exact hh.1
 refine (h.iff _ lw.1 (by omega)).mpr ⟨fun x hx=>?_,fun g=>?_,?_⟩
 ·obtain ⟨x1,x2⟩:=aL3.mp hx;exact a1 x (aL3.mpr ⟨x1,imp x x1 x2⟩)
 ·have z:Nc gf (o-1*2^b.toNat) g<=Nc gf o g:=by
   rw [sJ,sJ];exact aMV fun x hx hh=>by
    rw [aLV] at hh ⊢;exact ⟨hh.1,imp x hx hh.2⟩
  have:=a2 g;omega
 ·have z:(iK (o-1*2^b.toNat)).length<=(iK o).length:=by
   rw [len_eq,len_eq];exact aMV imp
  omega
theorem rP {p q:Int->Bool}{b:Int}:∀ {l:List Int},l.Nodup->(∀ x∈l,q x=(p x||x==b))->l.countP q<=l.countP p+1
 | [],_,_=>by simp
 | x::l,nd,h=>by
  obtain ⟨n1,n2⟩:=aMf.mp nd;rw [aNH,aNH]
  by_cases e:x=b
  ·subst e;have same:l.countP q=l.countP p:=by
    refine List.countP_congr fun y hy=>?_;rw [h y (aLp _ hy)];have:(y==x)=false:=by
     have ne:y≠x:=fun z=>n1 (z ▸ hy)
     simpa using ne
    rw [this,Bool.or_false]
   rw [same]
   split <;> split <;> omega
  ·have ih:=rP (p:=p) (q:=q) (b:=b) (l:=l) n2 fun y hy=>h y (aLp _ hy);have e2:=h x aLq;have:(x==b)=false:=by simpa using e
   rw [this,Bool.or_false] at e2;rw [e2]
   split <;> omega
theorem Rt.more {m:Nat}{may:Int->Bool}{L:Int}{gf M:Int->Int}{c:Int}(h:Rt ((2^m:Nat):Int) may L gf M c)(m6:m<=6){o e:Int}(o0:0<=o)(o1:o<((2^m:Nat):Int))(e0:0<=e)(e1:e<((2^m:Nat):Int))(ho:may o=true)(he:may e=true)(sz:(iK o).length=(iK e).length+1):∃ b∈iK o,hb e b=false/\may (Builtin.bitOr e (1*2^b.toNat))=true:=by
 have n64:=h.n64;obtain ⟨a1,a2,a3⟩:=(h.iff o o0 o1).mp ho;obtain ⟨c1,c2,c3⟩:=(h.iff e e0 e1).mp he;have ex:∃ g,Nc gf e g<Nc gf o g:=by
  by_cases z:∃ g,Nc gf e g<Nc gf o g
  ·exact z
  ·have l:=Im (xs:=(iK o).map gf) (ys:=(iK e).map gf) fun g=>by
    by_cases y:Nc gf e g<Nc gf o g
    ·exact absurd ⟨g,y⟩ z
    ·exact Nat.not_lt.mp y
   rw [aLo,aLo] at l;omega
 obtain ⟨g,hg⟩:=ex;have eb:∃ b∈iK o,gf b=g/\hb e b=false:=by
  by_cases z:∃ b∈iK o,gf b=g/\hb e b=false
  ·exact z
  ·refine absurd hg (Nat.not_lt.mpr ?_);rw [sJ,sJ];refine aMV fun x hx hh=>?_;rw [aLV] at hh ⊢;refine ⟨hh.1,?_⟩;cases y:hb e x with
   | true=>rfl
   | false=>exact absurd ⟨x,aL3.mpr ⟨hx,hh.2⟩,by simpa using hh.1,y⟩ z
 obtain ⟨b,b1,b2,b3⟩:=eb;obtain ⟨m1,m2⟩:=aL3.mp b1;have p2:((2^m:Nat):Int)=2^m:=by rw [aOn]; rfl
 have gi:=BZ m6 o0 (by rw [<- p2]; exact o1) e0 (by rw [<- p2]; exact e1) b1;have key:∀ x∈six 6,hb (Builtin.bitOr e (1*2^b.toNat)) x=(hb e x||x==b):=fun x hx=>by
  have z:=Uo ⟨e.toNat,by omega⟩ b m1 x hx;have ee:((e.toNat:Nat):Int)=e:=by omega
  simp only [ee] at z;exact z
 refine ⟨b,b1,b3,(h.iff _ gi.1 (by rw [p2]; exact gi.2)).mpr ⟨fun x hx=>?_,fun g'=>?_,?_⟩⟩
 ·obtain ⟨x1,x2⟩:=aL3.mp hx;rw [key x x1,aMP] at x2;rcases x2 with x2 | x2
  ·exact c1 x (aL3.mpr ⟨x1,x2⟩)
  ·have:x=b:=by simpa using x2
   subst this;exact a1 x b1
 ·by_cases eg:g'=g
  ·subst eg;have z:Nc gf (Builtin.bitOr e (1*2^b.toNat)) g'<=Nc gf e g'+1:=by
    rw [sJ,sJ];refine rP (b:=b) nd6 fun x hx=>?_;rw [key x hx];cases y:x==b with
    | true =>
     have:x=b:=by simpa using y
     subst this;rw [b2];simp
    | false=>simp
   have:=a2 g';omega
  ·have z:Nc gf (Builtin.bitOr e (1*2^b.toNat)) g'<=Nc gf e g':=by
    rw [sJ,sJ];refine aMV fun x hx hh=>?_;rw [aLV] at hh ⊢;refine ⟨hh.1,?_⟩;have h2:=hh.2;rw [key x hx,aMP] at h2;rcases h2 with y | y
    ·exact y
    ·have:x=b:=by simpa using y
     subst this;have:gf x=g':=by simpa using hh.1
     exact absurd (this.symm.trans b2) eg
   have:=c2 g';omega
 ·have z:(iK (Builtin.bitOr e (1*2^b.toNat))).length<=(iK e).length+1:=by
   rw [len_eq,len_eq];exact rP nd6 key
  omega
def mO (S:Sk)(m:Nat):Prop:=∃ L gf M c,Rt ((2^m:Nat):Int) (fX S) L gf M c
end TP
namespace L2
open PySem
theorem xH {X:Cx}{K:PySem.W.Frag}(h:X.K=K):eY X (.builtin "len") (fun xs H Q=>∃ p ys,xs=[.ref p]/\(bK K H p ys∨cY K H p ys)/\Q (.int ys.length) H):=by subst h; exact cH
end L2
namespace TP
open PySem L2 TD
structure SN (K:PySem.W.Frag)(p:xF):Prop where
 hn:PySem.W.specialIn K (.builtin "object.__class__") "__get__" = some (some (.builtin "getset_descriptor.__get__"))
 htk:PySem.W.takesIn K (.builtin "object.__class__")=some true
 cf:tM K p.f
 cg:tM K p.g
 cl:tM K p.l
 fa:PySem.W.findIn K (.ref p.f) "__class__" = some (some (.builtin "object.__class__"))
 fm:PySem.W.mroIn K p.f (.type "object")=some true
 ga:PySem.W.findIn K (.ref p.g) "__class__" = some (some (.builtin "object.__class__"))
 gm:PySem.W.mroIn K p.g (.type "object")=some true
 la:PySem.W.findIn K (.ref p.l) "__class__" = some (some (.builtin "object.__class__"))
 lm:PySem.W.mroIn K p.l (.type "object")=some true
 ff:PySem.W.kitOne K (.ref p.f) (.ref p.f)=some true
 gf:PySem.W.kitOne K (.ref p.g) (.ref p.f)=some false
 gg:PySem.W.kitOne K (.ref p.g) (.ref p.g)=some true
 lf:PySem.W.kitOne K (.ref p.l) (.ref p.f)=some false
 lg:PySem.W.kitOne K (.ref p.l) (.ref p.g)=some false
 ll:PySem.W.kitOne K (.ref p.l) (.ref p.l)=some true
def jV (S:Sk)(n:Nat):List Bool:=(six n).map (fX S)
theorem nR (S:Sk)(n:Nat):(jV S n).length=n:=by unfold jV six; rw [aLo,aLo,aNh]
theorem lA {S:Sk}{n:Nat}{k:Int}(h0:0<=k)(h:k<(n:Int)):(jV S n).getD k.toNat false=fX S k:=by
 have hk:k.toNat<n:=by omega
 unfold jV six;rw [List.getD_eq_getElem?_getD,aLH,aLH,List.getElem?_range hk];show fX S (0+(k.toNat:Int))=_;rw [show (0:Int)+(k.toNat:Int)=k by omega]
theorem Pn {S:Sk}{m:Nat}(m6:m<=6)(h:mO S m):wV (jV S (2^m)) (jV S (2^m)).length:=by
 obtain ⟨L,gf,M,c,mt⟩:=h;rw [nR];intro o ho b hb1 e;have o1:(0:Int)+(o:Int)<((2^m:Nat):Int):=by omega
 have n64:=mt.n64;have lw:=low (k:=0+(o:Int)) (by omega) (by omega) hb1;rw [lA (by omega) o1] at e;rw [lA lw.1 (by omega)];exact mt.down (by omega) o1 hb1 e
theorem Qj {S:Sk}{m:Nat}(m6:m<=6)(h:mO S m){o e:Int}(f:RK (jV S (2^m)) o e):False:=by
 obtain ⟨L,gf,M,c,mt⟩:=h;have o1:=f.o1;have e1:=f.e1;have bo:=f.bo;have be:=f.be;rw [nR] at o1 e1;rw [lA f.o0 o1] at bo;rw [lA f.e0 e1] at be;obtain ⟨b,b1,b2,b3⟩:=mt.more m6 f.o0 o1 f.e0 e1 bo be f.sz;have no:=f.no;rw [aMW] at no;have p2:((2^m:Nat):Int)=2^m:=by rw [aOn]; rfl
 have gi:=BZ m6 f.o0 (by rw [<- p2]; exact o1) f.e0 (by rw [<- p2]; exact e1) b1;refine no true ?_ rfl;unfold Hu;refine aLr.mpr ⟨b,aL3.mpr ⟨b1,by rw [b2]; rfl⟩,?_⟩;rw [lA gi.1 (by rw [p2]; exact gi.2)];exact b3
theorem Pa {S:Sk}{m:Nat}(h:mO S m):(jV S (2^m)).getD 0 false=true:=by
 obtain ⟨L,gf,M,c,mt⟩:=h;have p:0<2^m:=Nat.pow_pos (by decide);have z:=lA (S:=S) (n:=2^m) (k:=0) (by decide) (by omega);rw [show (0:Int).toNat=0 from rfl] at z;rw [z];exact mt.zero (by omega)
def p7 (ks:List Int):Int:=(ks.map fun b=>(1:Int)*2^b.toNat).sum
def keepB (q:Ca)(S:Sk)(i:Nat):Bool:=!(q.bs.getD i false)&&fX S (Builtin.bitOr (p7 (Wr q)) (1*2^((i:Int)).toNat))
section
variable (p:xF)(c:Cs)(cC:Addr)
def Ij:Sp:=fun vs H Q _=>∃ (a:Addr) (bs:List Bool),vs=[.ref a]/\H a=some (.lst (Bs bs))/\bs.length<=64/\wV bs bs.length/\∀ H',aR H H'->Q .non H'
def uO:Sp:=fun vs H Q _=>∃ (x:Addr) (S:Sk) (m:Nat),vs=[.ref x,.int (m:Int)]/\fC p H x S/\qP S/\1<=m/\m<=6/\mO S m/\∀ H',aR H H'->Q .non H'
def Qn:Sp:=fun vs H Q _=>∃ (x:Addr) (S:Sk),vs=[.ref x]/\fC p H x S/\Q (.bl true) H
def Lz:Sp:=fun vs H Q _=>∃ (a:Addr) (ks:List Int),vs=[.ref a]/\H a=some (.lst (Is ks))/\ks.length<=100/\(∀ k∈ks,0<=k/\k<100)/\∀ H',aR H H'->Q (.int (p7 ks)) H'
end
theorem Uk {p:xF}{ta tb:TE}{σ:St}{H:Hp}{Q:VK}{x:Addr}{S:Sk}{k:Int}(hX:fC p H x S)(hG:qP S)(hta:∀ Q':VK,Q' (.ref x) H->ta σ H Q')(htb:∀ Q':VK,(∀ H1,aR H H1->Q' (.int k) H1)->tb σ H Q')(K:∀ H2,aR H H2->Q (.bl (fX S k)) H2) :
  pG p.f "may" (vA p.f) [] E0 ta (zB tb xJ) σ H Q∨pG p.g "may" (vN p.g) [] E0 ta (zB tb xJ) σ H Q∨pG p.l "may" (vI p.l) [] E0 ta (zB tb xJ) σ H Q:=by
 cases S with
 | few cc =>
  obtain ⟨dx,hx⟩:=(show tZ p.f H x cc from hX)
  exact .inl (hta _ ⟨x,dx,_,rfl,hx,rfl,htb _ fun H1 s1=>⟨x,cc,k,rfl,⟨dx,s1 _ _ hx⟩,fun H2 s2=>K H2 (s1.trans s2)⟩⟩)
 | groups gs ms =>
  obtain ⟨dx,g,m0,hx,hg,hm0⟩:=(show Cz p.g H x gs ms from hX)
  exact .inr (.inl (hta _ ⟨x,dx,_,rfl,hx,rfl,htb _ fun H1 s1=>⟨x,gs,ms,k,rfl,⟨dx,g,m0,s1 _ _ hx,s1 _ _ hg,s1 _ _ hm0⟩,hG,fun H2 s2=>K H2 (s1.trans s2)⟩⟩))
 | listed ks =>
  obtain ⟨ms,pm,so,dx,t,hx,ht⟩:=(show ∃ ms,ms.Perm ks/\ms.Pairwise (·<=·)/\Fj p.l H x ms from hX)
  have ei:Qf (.int k) (Is ms)=fX (.listed ks) k:=by
   show _=Qf _ _;rw [aMs,Fi,Fi];exact pm.mem_iff
  exact .inr (.inr (hta _ ⟨x,dx,_,rfl,hx,rfl,htb _ fun H1 s1=>⟨x,ms,k,rfl,⟨dx,t,s1 _ _ hx,s1 _ _ ht⟩,by rw [ei]; exact K H1 s1⟩⟩))
end TP
namespace L2
open PySem PySem.Spec PyProof.Rows
section
variable {X:Cx}
def Rz (a:Addr):It :=
 ⟨fun i H=>∃ xs x,H a=some (.lst xs)/\xs[i]? = some x,
  fun i H v H'=>∃ x T,H T=none/\v=.ref T/\H'=aX H T (.tup [.int i,x])/\∀ xs,H a=some (.lst xs)->xs[i]? = some x,
  fun i H=>∃ xs,H a=some (.lst xs)/\xs.length<=i⟩
theorem Qi {P:Program}{w:World}{K:PySem.W.Frag}{elts:List Expr}{kk:Nat}{tpos:Pos}{e it a:Addr}(n1:e≠it)(n2:a≠it)(n3:e≠a) :
  Turn P w K (.Tuple elts kk tpos) (Rz a) [e,it] e (fun i h=>∃ old,IsEnum h e it i old/\h.IsListIter it a i) where
 mem:=by simp
 obj:=fun i h st c hc=>by
  obtain ⟨old,he,⟨o1,e1,c1,d1⟩⟩:=st;simp only [aLF,aLW,or_false] at hc;rcases hc with rfl | rfl
  ·exact ⟨_,he,fun v z=>nomatch z⟩
  ·exact ⟨_,e1,fun v z=>by rw [d1] at z; cases z⟩
 keep:=fun i h h' st k=>by
  obtain ⟨old,he,h1⟩:=st;exact ⟨old,k e (by simp) _ he,h1.at fun o e=>k it (by simp) o e⟩
 item:=by
  intro X hP hw hK hc i pins s σ H E I hf st hg;subst hP hw hK;obtain ⟨xs,x,ha,hx⟩:=hg;obtain ⟨old,he,h1⟩:=st;obtain ⟨hz,its,n,rv,hl,ea⟩:=I.lstM ha;obtain ⟨u,hu,ru⟩:=rv.get hx;have il:i<its.toArray.size:=by
   have:=(aLE.mp hu).1
   simpa using this
  refine wpAny_pyNext_enum_itemD (Draws.list (by rw [show X.A.in1.handled=X.A.handled from rfl]; exact I.ok.hd hc) it a n2 its.toArray) he ⟨h1,⟨_,ea,rfl,n,rfl⟩⟩ il n1 (by simp [n1,n3]) fun y h' tk hy g1 g2 g3 g4 g5=>?_;have ey:y=u:=by
   have hy:its.toArray[i]? = some y:=hy;rw [aNT,hu] at hy;cases hy
   rfl
  subst ey;refine ⟨_,rfl,?_⟩;refine wpAny_letOwnedTupleGo_enum (s:={ s with heap:=h',toks:=tk+1 }) g1 fun h2 e2 k2=>?_;have lt:∀ {c o},s.heap.get? c=some o->s.heap.objs.size≠c:=fun q=>aMA (aLC q);have fr:H s.heap.objs.size=none:=I.hok.fresh (aLu _);have hT:h2.get? s.heap.objs.size=some { cls:=.type "tuple",data:=.seq #[.int i tk,y] }:=k2.extBut _ _ (lt he) g3;obtain ⟨o1,e1,r1⟩:=id h1;refine ⟨.ref s.heap.objs.size,aX H s.heap.objs.size (.tup [.int i,x]),?_,rfl,⟨x,_,fr,rfl,rfl,fun zs h=>by rw [ha] at h; cases h; exact hx⟩,⟨y,by simpa using e2,g2.1.extBut k2.extBut n1.symm⟩,fun c hc=>?_⟩
  ·refine I.turnedLaid (t':=tk+1) (ch:=[e,it]) hf (fun c o hc q=>?_) (aLu _) ⟨aLZ (aU (show 2<=1000 by decide)),[.int i tk,y],.cons ⟨_,rfl⟩ (.cons ru .nil),_,hT,rfl,_,rfl⟩;simp only [aLF,aLW,or_false,not_or] at hc;exact k2.extBut _ _ hc.1 (g5 c o hc.1 hc.2 q)
  ·have ne:c≠s.heap.objs.size:=fun z=>by
    simp only [aLF,aLW,or_false] at hc;rcases hc with rfl | rfl
    ·exact lt he z.symm
    ·exact lt e1 z.symm
   rw [aO ne];exact (hf c hc).1
 done:=by
  intro X hP hw hK hc i pins s σ H E I hf st hg;subst hP hw hK;obtain ⟨xs,ha,hx⟩:=hg;obtain ⟨old,he,h1⟩:=st;obtain ⟨hz,its,n,rv,hl,ea⟩:=I.lstM ha;refine wpAny_pyNext_enum_end (I.ok.hd hc) he h1 ⟨_,ea,rfl,n,rfl⟩ (by rw [aNT,aNR (by omega)]) fun h' g=>⟨rfl,I.turnedN (t':=s.toks) (ch:=[e,it]) hf fun c o hc q=>?_⟩
  simp only [aLF,aLW,or_false,not_or] at hc;exact g c o hc.2 q
 self:=fun _ _ _ _ _ st h=>by
  obtain ⟨old,he,_⟩:=st;exact wpAny_pyIter_enum he h
def iEn (ta:TA):TI:=fun σ H R=>ta σ H fun vs H1=>∃ a xs,vs=[.ref a]/\H1 a=some (.lst xs)/\R (Rz a) H1
theorem Ac:bootBuiltins "enumerate" = some (.type "enumerate"):=by decide +kernel
theorem Pq {a:Expr}{ta:TA}{p pos tpos:Pos}{elts:List Expr}{kk:Nat}(hg:Gl X "enumerate")(hm:X.mg "enumerate" = none)(ha:PA X [a] ta)(hs:starEach [a] X.env=[(false,eval a X.env)]:=by rfl):PI X (.Tuple elts kk tpos) (.Call (.Name "enumerate" p) [a] [] pos) (iEn ta):=by
 intro pins s σ H R I h;refine Call_ (mY I hg hm Ac (PyProof.Rows.callWith_type1 (d7 (ha pos pins s σ H _ I h) fun us s1 ⟨vs,H1,I1,r1,q1⟩=>?_) hs rfl));obtain ⟨b,xs,e,hS,q⟩:=q1;subst e;obtain ⟨u,rfl,ru⟩:=vals1 r1;cases (show u=Value.ref b from ru);obtain ⟨hz,its,n,rv,hl,ea⟩:=I1.lstM hS;have lb:b<s1.heap.objs.size:=aLC ea;refine call_enumerate_1 ea fun h' g1 g2 g3 g4=>?_;refine wpAny_pyIter_enum g1 ?_;refine ⟨s1.heap.objs.size+1,[s1.heap.objs.size+1,s1.heap.objs.size],_,_,H1,rfl,I1.kept (t':=s1.toks) g4,Qi (by show (_:Nat)≠_; omega) (by show (_:Nat)≠_; exact aLR lb) (by show (_:Nat)≠_; exact aMA (aNz lb)),⟨_,g1,g2⟩,fun c hc=>?_,q⟩;have le:s1.heap.objs.size<=c:=by
  simp only [aLF,aLW,or_false] at hc;rcases hc with rfl | rfl <;> first | exact aOg _ _ | exact aLu _
 exact I1.fpOk le (I1.hok.fresh le)
end
end L2
namespace L2
open PySem
theorem KJ {a:Addr}{xs:List V}{k:Nat}{g:TG}{c:TT}{te:TE}{σ:St}{H1:Hp}{D:Addr}{Q:VK}(Pv:Nat->St->Hp->Prop)(h0:Pv 0 (aLX k none++σ) (aX H1 D (.lst [])))
  (hl:∀ i τ H,i<=xs.length->Pv i τ H->H a=some (.lst xs))
  (hs:∀ i m x T τ H,m=xs.length-i->i<xs.length->xs[i]? = some x->H T=none->Pv i τ H->g (.ref T) τ (aX H T (.tup [.int (i:Int),x])) fun τ2 H2=>c τ2 H2 fun b H3=>if b=true then te τ2 H3 fun y H4=>∃ ys m',m'<m/\H4 D=some (.lst ys)/\ys.length<sizeLine/\CW xs.length Pv (i+1) m' τ2 (aX H4 D (.lst (ys++[y]))) else ∃ m',m'<m/\CW xs.length Pv (i+1) m' τ2 H3)
  (hd:∀ τ H,Pv xs.length τ H->Q (.ref D) H):vJ k (Rz a) g c te σ H1 D Q:=by
 refine ⟨CW xs.length Pv,⟨xs.length,rfl,aLQ _,h0⟩,?_⟩;rintro i m τ H ⟨hm,hi,p⟩;have q1:=hl i τ H hi p
 by_cases hlt:i<xs.length
 ·refine .inr ⟨⟨xs,xs[i],q1,by simp [hlt]⟩,fun v H' y=>?_⟩;obtain ⟨x,T,hT,rfl,rfl,e1⟩:=y;exact hs i m x T τ _ hm hlt (e1 xs q1) hT p
 ·have e:i=xs.length:=by omega
  subst e;exact .inl ⟨⟨xs,q1,aLu _⟩,hd τ H p⟩
end L2
namespace TG
open PySem L2 TD TP
open Builtin.Int (intBits)
theorem Gr.tab {ts:List Tn}{ys:List Row}(h:Gr ts ys):Tb.tW (Tb.zF (pB ts)) (bO ys):=by
 obtain ⟨rows,h1,h2,o⟩:=h.ex;obtain ⟨d,d0,hd⟩:=o.tab.d;exact ⟨o.tab.lt,o.tab.fr,fun t b=>(o.tab.has t b).trans (h1 t b),⟨d,d0,fun y hy=>by rw [<- h2]; exact hd y hy⟩,o.tab.one⟩
theorem Gr.w {ts:List Tn}{ys:List Row}(h:Gr ts ys):∀ y∈ys,1<=y.w:=by
 obtain ⟨rows,h1,h2,o⟩:=h.ex;exact fun y hy=>(o.w y hy).1
theorem Tw {ps ys:List Tb.Rw}(h:Tb.tW ps ys):∃ d:Int,0<d/\Sd.sm ps=(d:Rat)*Sd.sm ys/\Sd.bR ps=(d:Rat)*Sd.bR ys:=by
 obtain ⟨d,d0,hd⟩:=h.d;have hh:∀ r∈ps,Tb.j9 ys r.t r.b:=fun r hr=>(h.has r.t r.b).mpr ⟨r,hr,rfl,rfl⟩;have key:∀ f:Int->Int->Rat,(ps.map fun r=>(r.w:Rat)*f r.t r.b).sum=(d:Rat)*(ys.map fun y=>(y.w:Rat)*f y.t y.b).sum:=fun f=>by
  rw [Sd.wN h.lt f hh,<- Sd.uM]
  congr 1
  refine aL6 fun y hy=>?_;rw [hd y hy]
  push_cast
  grind
 refine ⟨d,d0,key fun t b=>(t:Rat)/(b:Rat),?_⟩;have k1:=key fun _ _=>1;unfold Sd.bR;have e:∀ l:List Tb.Rw,(l.map fun r=>(r.w:Rat)*1)=l.map fun r=>(r.w:Rat):=fun l=>aL6 fun r _=>by grind
 rw [e,e] at k1;exact k1
theorem pQ {ps ys:List Tb.Rw}(h:Tb.tW ps ys)(p:0<Sd.bR ps):Sd.sm ys/Sd.bR ys=Sd.sm ps/Sd.bR ps/\Sd.bR ys<=Sd.bR ps/\0<Sd.bR ys:=by
 obtain ⟨d,d0,e1,e2⟩:=Tw h;have dp:=Sd.gH d0;have d1:(1:Rat)<=(d:Rat):=by exact_mod_cast (show (1:Int)<=d by omega)
 have tp:0<Sd.bR ys:=by
  rw [e2] at p
  by_cases z:0<Sd.bR ys
  ·exact z
  ·have:(d:Rat)*Sd.bR ys<=0:=by
    have h1:Sd.bR ys<=0:=by grind
    have h2:=aMr h1 (Rat.le_of_lt dp)
    grind
   grind
 refine ⟨?_,?_,tp⟩
 ·rw [e1,e2];have n1:(d:Rat)≠0:=by grind
  have n2:Sd.bR ys≠0:=by grind
  grind
 ·rw [e2];have:=aMo d1 (Rat.le_of_lt tp)
  grind
def Z0:Tb.Rw:=⟨0,1,1⟩
theorem xA:∀ ps:List Tb.Rw,Tb.gD ps [Z0]=ps.map fun p=>Tb.big p Z0
 | []=>rfl
 | p::ps=>by
  have ih:=xA ps;unfold Tb.gD at ih ⊢;rw [aNB,ih]
  rfl
theorem Kz {p:Tb.Rw}(h:0<p.b):Sd.cv (Tb.big p Z0)=Sd.uJ 0 (Sd.cv p)/\(Tb.big p Z0).w=p.w:=by
 have w:(Tb.big p Z0).w=p.w:=by rw [Tb.Np]; show p.w*1=_; rw [Int.mul_one]
 refine ⟨?_,w⟩;have l:=Sd.V_lt (x:=(0,1)) (y:=(p.t,p.b)) (by decide) h;have v0:Sd.V (0,1)=0:=by unfold Sd.V; grind
 have l2:=Sd.V_lt (x:=(p.t,p.b)) (y:=(0,1)) h (by decide);have e:Sd.V (p.t,p.b)=Sd.cv p:=rfl;rw [v0,e] at l l2;unfold Tb.big Sd.uJ;show Sd.cv (if p.t*1<0*p.b then _ else _)=_
 by_cases c:p.t*1<0*p.b
 ·have c2:=l2.mp c;rw [if_pos c,if_neg (by grind)];show ((0:Int):Rat)/((1:Int):Rat)=0
  grind
 ·rw [if_neg c];have c2:¬ Sd.cv p<0:=fun z=>c (l2.mpr z);show Sd.cv p=_
  split
  ·rfl
  ·grind
theorem Bo:∀ {ps:List Tb.Rw},(∀ r∈ps,0<r.b)->Sd.sm (ps.map fun p=>Tb.big p Z0)=Sd.up 0 ps/\Sd.bR (ps.map fun p=>Tb.big p Z0)=Sd.bR ps
 | [],_=>⟨rfl,rfl⟩
 | p::ps,h=>by
  obtain ⟨a,b⟩:=Bo (ps:=ps) fun r hr=>h r (aLp _ hr);obtain ⟨c,d⟩:=Kz (h p aLq);rw [aLw,Sd.JB,Sd.gP,Sd.gJ,Sd.gJ,a,b,c,d];exact ⟨by grind,rfl⟩
theorem Ir (ps:List Tb.Rw):Tb.zF [ps,[Z0]]=ps.map fun p=>Tb.big p Z0:=xA ps
theorem MP {t z:Tn}(hz:bO z.ys=[Z0]){ys:List Row}(g:Gr [t,z] ys)(hb:∀ r∈bO t.ys,0<r.b)(ht:0<Sd.bR (bO t.ys)) :
  Sd.sm (bO ys)/Sd.bR (bO ys)=Sd.up 0 (bO t.ys)/Sd.bR (bO t.ys)/\Sd.bR (bO ys)<=Sd.bR (bO t.ys):=by
 have h:=g.tab;have e:pB [t,z]=[bO t.ys,[Z0]]:=by unfold pB; rw [aLw,aLw,hz]; rfl
 rw [e,Ir] at h;obtain ⟨a,b⟩:=Bo hb;obtain ⟨m1,m2,_⟩:=pQ h (by rw [b]; exact ht);rw [a,b] at m1;rw [b] at m2;exact ⟨m1,m2⟩
theorem J1 {z:Tn}(hz:bO z.ys=[Z0]){ys:List Row}(g:Gr [z] ys):Sd.sm (bO ys)/Sd.bR (bO ys)=0/\Sd.bR (bO ys)<=1:=by
 have h:=g.tab;have e:pB [z]=[[Z0]]:=by unfold pB; rw [aLw,hz]; rfl
 rw [e] at h;have s0:Sd.sm [Z0]=0:=by unfold Sd.sm Sd.cv; simp [Z0]; grind
 have t1:Sd.bR [Z0]=1:=by unfold Sd.bR; simp [Z0]; grind
 obtain ⟨m1,m2,_⟩:=pQ (ps:=[Z0]) h (by rw [t1]; grind);rw [s0,t1] at m1;rw [t1] at m2;exact ⟨by rw [m1]; grind,m2⟩
theorem Lj (all:List Tb.Kp):Tb.wV all []:=fun _ _ _ h=>nomatch h
theorem UJ {ts:List Tn}{ys:List Row}(hn:ts≠[])(g:Gr ts ys){y:Row}(hy:y∈ys):(y.t,y.b)∈keysOf ts:=by
 have hh:=(g.tab.has y.t y.b).mp ⟨y.r,aLr.mpr ⟨y,hy,rfl⟩,rfl,rfl⟩;obtain ⟨r,hr,e1,e2⟩:=hh;have tn:pB ts≠[]:=fun z=>hn (aMd.mp z);have m:=(Tb.Fx (Lj (keysOf ts)) tn (vQ fun t ht y hy=>lK ht hy)).1 r hr;have e:Tb.kp r=(y.t,y.b):=by unfold Tb.kp; rw [e1,e2]
 rw [<- e];exact m
theorem WD {ts:List Tn}{ys:List Row}{M:Int}(hn:ts≠[])(g:Gr ts ys)(yl:ys.length<=40)(hk:∀ k∈keysOf ts,intBits k.1<=4000/\intBits k.2<=4000/\0<k.2/\k.2∣M)(M0:0<M)(M1:M<=2^1600)(W:Sd.bR (bO ys)<=((2^600:Int):Rat)):BR ys/\intBits (wsum ys)<=601:=by
 have key:∀ y∈ys,_:=fun y hy=>hk _ (UJ hn g hy);have ws:wsum ys<=2^600:=by
  rw [Sd.lV,<- jM] at W
  exact_mod_cast W
 have w1:=g.w;have wy:∀ y∈ys,intBits y.w<=601:=fun y hy=>by
  have a:=jO w1 hy;have b:=w1 y hy;exact gO (aM8 (show -(2^601:Int)<0 by decide +kernel) (by omega)) (aM9 (aLN a ws) (by decide +kernel))
 have bp:∀ n∈ys.map Row.b,0<n:=fun n hn=>by
  obtain ⟨y,hy,rfl⟩:=aLr.mp hn;exact (key y hy).2.2.1
 have lz:intBits (bN ys)<=1601:=by
  have dv:=vU bp (M:=M) fun n hn=>by
   obtain ⟨y,hy,rfl⟩:=aLr.mp hn;exact (key y hy).2.2.2
  have le:=aM6 M0 dv;exact gO (aM8 (show -(2^1601:Int)<0 by decide +kernel) (aLA (pW bp).1)) (aM9 (aLN le M1) (by decide +kernel))
 have w0:0<=wsum ys:=by
  rw [jM];exact (Cu [] (ps:=bO ys) fun p hp=>by obtain ⟨y,hy,rfl⟩:=aLr.mp hp; exact w1 y hy).1 |> fun h=>aLN h (Cu [] (ps:=bO ys) fun p hp=>by obtain ⟨y,hy,rfl⟩:=aLr.mp hp; exact w1 y hy).2
 refine ⟨⟨yl,fun y hy=>(key y hy).2.2.1,fun y hy=>(key y hy).1,fun y hy=>aLv (wy y hy) (by decide),fun y hy=>(key y hy).2.1,aLv lz (by decide)⟩,gO (aM8 (show -(2^601:Int)<0 by decide +kernel) w0) (aM9 ws (by decide +kernel))⟩
def Mz (S:Sk)(m:Nat):Bool:=(aME m).any fun i=>(aME i).any fun j=>fX S (p7 [(i:Int),(j:Int)])
def Uz (S:Sk)(xs:List Row):Rat:=if fX S 1=true then Sd.up 0 (bO xs)/Sd.bR (bO xs) else 0
section
variable (p:xF)(c:Cs)(cC:Addr)(Pt:Addr)(lp:Pos)
def Ii:Sp:=fun vs H Q _=>∃ (a:Addr) (ys:List Row),vs=[.ref a]/\TabAt H a ys/\BR ys/\0<wsum ys/\intBits (wsum ys)<=1000 ∧
 ∀ r H' z,aR H H'->Tq H' r z->Fr.fZ z.1 z.2->Sd.V z=Sd.sm (bO ys)/Sd.bR (bO ys)->Q (.ref r) H'
def O8:Sp:=fun vs H Q _=>∃ (x:Addr) (S:Sk) (m:Nat),vs=[.ref x,.int (m:Int)]/\fC p H x S/\qP S/\m<=6/\∀ H',aR H H'->Q (.bl (Mz S m)) H'
def aAb:Sp:=fun vs H Q _=>∃ (x a:Addr) (S:Sk) (t:Tn) (d m:Nat),vs=[.ref x,.ref a]/\fC p H x S/\qP S/\H a=some (.lst [.ref t.a])/\TabAt H t.a t.ys/\By t.ys d m/\d<=4/\m<=12/\(bO t.ys).Pairwise Tb.Lt/\cA Pt lp d8 H ∧
 ∀ r H' z,bH Pt H H'->cA Pt lp d8 H'->Tq H' r z->Fr.fZ z.1 z.2->Sd.V z=Uz S t.ys->Q (.ref r) H'
structure Jt (H:Hp)(y:Addr)(q:Ca)(s:Sd.Sd)(d m:Nat):Prop where
 ca:BK c cC H y q
 ss:q.ss=[(s,d,m)]
 ls:q.ls=[.non]
def Ag (S:Sk)(s:Sd.Sd)(d:Nat):Rat:=if fX S 1=true then Sd.rb 0 (d+1) s else 0
def Ls:Sp:=fun vs H Q _=>∃ (x y:Addr) (S:Sk) (q:Ca) (s:Sd.Sd) (d m:Nat),vs=[.ref x,.ref y]/\fC p H x S/\qP S/\Jt c cC H y q s d m/\∀ H',aR H H'->Q .non H'
def Qz:Sp:=fun vs H Q _=>∃ (x y:Addr) (S:Sk) (q:Ca) (s:Sd.Sd) (d m:Nat),vs=[.ref x,.ref y]/\fC p H x S/\qP S/\Jt c cC H y q s d m/\cA Pt lp d8 H ∧
 ∀ r H' z,bH Pt H H'->cA Pt lp d8 H'->Tq H' r z->Fr.fZ z.1 z.2->Sd.V z=Ag S s d->Q (.ref r) H'
def Qm:Sp:=fun vs H Q _=>∃ (x y:Addr) (S:Sk) (q:Ca) (s:Sd.Sd) (d m:Nat),vs=[.ref x,.ref y]/\fC p H x S/\qP S/\mO S 1/\Jt c cC H y q s d m/\cA Pt lp d8 H ∧
 ∀ r H' z,bH Pt H H'->cA Pt lp d8 H'->Tq H' r z->Fr.fZ z.1 z.2->Sd.V z=Ag S s d->Q (.ref r) H'
def RV:Sp:=fun vs H Q _=>∃ (x a y:Addr) (S:Sk) (s:Sd.Sd) (d m:Nat),vs=[.ref a,.ref x]/\H a=some (.lst [.ref y])/\fW c H y s d m/\d<=4/\m<=12/\fC p H x S/\qP S/\mO S 1/\cA Pt lp d8 H ∧
 ∀ r H' z,bH Pt H H'->cA Pt lp d8 H'->Tq H' r z->Fr.fZ z.1 z.2->Sd.V z=Ag S s d->Q (.ref r) H'
end
end TG
namespace TD
open PySem PySem.Spec PyProof.Rows L2
theorem CN.of {K:PySem.W.Frag}{c:Cs}(h:(["tuple","int","NoneType","str","list"].map fun T=>(PySem.W.kitOne K (.type T) (.ref c.e),PySem.W.kitOne K (.type T) (.ref c.s)))=aLX 5 (some false,some false))(t:PySem.W.kitOne K (.ref c.e) (.type "tuple")=some false):CN K c :=
 ⟨fun T hT=>by
  have:=List.mem_map_of_mem (f:=fun T=>(PySem.W.kitOne K (.type T) (.ref c.e),PySem.W.kitOne K (.type T) (.ref c.s))) hT;rw [h] at this;have e:=List.eq_of_mem_replicate this;exact ⟨congrArg (·.1) e,congrArg (·.2) e⟩,t⟩
end TD
namespace L2
open PySem PySem.Spec PyProof.Rows
theorem cO {X:Cx}{K:PySem.W.Frag}(h:X.K=K):eY X (.type "tuple") (fun xs H Q=>∃ p ys,xs=[.ref p]/\((bK K H p ys/\∀ l,H l=none->Q (.ref l) (aX H l (.tup ys)))∨(cY K H p ys/\Q (.ref p) H))):=by subst h; exact xZ
structure QE (X:Cx)(e:Expr)(t:TE):Prop where
 h:PE X e t
section
variable {X:Cx}{pos pos' p p2:Pos}{e a b:Expr}{es:List Expr}{te ta tb:TE}{t:TA}{x:Str}{st:Stmt}{rest:List Stmt}{ts us:TS}
theorem qv (i:Nat){x:Str}{pos:Pos}(hN:X.N[i]? = some x:=by rfl)(hv:Vis X.env.scope x:=by first | exact Or.inl rfl | exact Or.inr (Or.inl rfl) | exact Or.inr (Or.inr rfl))(hd:(x==("__debug__" : Str))=false:=by decide)
  (hcd:(x==("__classdict__" : Str))=false:=by decide):QE X (.Name x pos) (J5 i):=⟨Mh hN hv hd hcd⟩
end
end L2
namespace K51
open PySem L2 TD
def cT:Pos:=⟨56,30,56,72⟩
theorem tE:aQ ["thing","least","most"] ["thing","least","most"] (aN (top 9)):=⟨rfl,rfl,rfl,by decide +kernel,rfl,by decide +kernel,by decide +kernel⟩
theorem jZ:aQ ["one","other","rest"] ["one","other"] (aN (top 10)):=⟨rfl,rfl,rfl,by decide +kernel,rfl,by decide +kernel,by decide +kernel⟩
theorem jR:aQ ["numbers","multiple","number"] ["numbers"] (aN (top 11)):=⟨rfl,rfl,rfl,by decide +kernel,rfl,by decide +kernel,by decide +kernel⟩
theorem Ec:aQ ["top","bottom","divisor"] ["top","bottom"] (aN (top 12)):=⟨rfl,rfl,rfl,by decide +kernel,rfl,by decide +kernel,by decide +kernel⟩
theorem Dq:aQ ["number"] ["number"] (aN (top 13)):=⟨rfl,rfl,rfl,by decide +kernel,rfl,by decide +kernel,by decide +kernel⟩
theorem DR:aQ ["one","other"] ["one","other"] (aN (top 15)):=⟨rfl,rfl,rfl,by decide +kernel,rfl,by decide +kernel,by decide +kernel⟩
theorem zZ:aQ ["one","other"] ["one","other"] (aN (top 16)):=⟨rfl,rfl,rfl,by decide +kernel,rfl,by decide +kernel,by decide +kernel⟩
theorem zR:aQ ["worths","most","scale"] ["worths"] (aN (top 20)):=⟨rfl,rfl,rfl,by decide +kernel,rfl,by decide +kernel,by decide +kernel⟩
theorem vH:aQ ["rows","weights","worth","weight","divisor"] ["rows"] (aN (top 21)):=⟨rfl,rfl,rfl,by decide +kernel,rfl,by decide +kernel,by decide +kernel⟩
theorem mX:aQ ["table"] ["table"] (aN (top 22)):=⟨rfl,rfl,rfl,by decide +kernel,rfl,by decide +kernel,by decide +kernel⟩
theorem oA:aQ ["rows","weights","bottom","top"] ["rows","weights"] (aN (top 23)):=⟨rfl,rfl,rfl,by decide +kernel,rfl,by decide +kernel,by decide +kernel⟩
theorem Hg:aQ ["table"] ["table"] (aN (top 24)):=⟨rfl,rfl,rfl,by decide +kernel,rfl,by decide +kernel,by decide +kernel⟩
theorem yJ:aQ ["table","level"] ["table","level"] (aN (top 25)):=⟨rfl,rfl,rfl,by decide +kernel,rfl,by decide +kernel,by decide +kernel⟩
theorem Cq:aQ ["rows","scale","parts","weight","table","factor"] ["rows"] (aN (top 26)):=⟨rfl,rfl,rfl,by decide +kernel,rfl,by decide +kernel,by decide +kernel⟩
theorem pO:aQ ["tables","worths","table","worth","weight"] ["tables"] (aN (top 27)):=⟨rfl,rfl,rfl,by decide +kernel,rfl,by decide +kernel,by decide +kernel⟩
theorem vD:aQ ["numbers","result","number"] ["numbers"] (aN (top 28)):=⟨rfl,rfl,rfl,by decide +kernel,rfl,by decide +kernel,by decide +kernel⟩
theorem sZ:aQ ["tables","weights","reached","behind","rows","worth","together"] ["tables"] (aN (top 29)):=⟨rfl,rfl,rfl,by decide +kernel,rfl,by decide +kernel,by decide +kernel⟩
theorem qG:aQ ["table","price","bottom","tops","weights","worth","weight","top"] ["table","price"] (aN (top 30)):=⟨rfl,rfl,rfl,by decide +kernel,rfl,by decide +kernel,by decide +kernel⟩
theorem tK:aQ ["thing"] ["thing"] (aN (top 40)):=⟨rfl,rfl,rfl,by decide +kernel,rfl,by decide +kernel,by decide +kernel⟩
theorem mD:aQ ["row"] ["row"] (aN (top 41)):=⟨rfl,rfl,rfl,by decide +kernel,rfl,by decide +kernel,by decide +kernel⟩
theorem lG:aQ ["rows"] ["rows"] (aN (top 42)):=⟨rfl,rfl,rfl,by decide +kernel,rfl,by decide +kernel,by decide +kernel⟩
theorem oF:aQ ["boxes"] ["boxes"] (aN (top 43)):=⟨rfl,rfl,rfl,by decide +kernel,rfl,by decide +kernel,by decide +kernel⟩
theorem wC:aQ ["kept","box"] ["kept","box"] (aN (top 48)):=⟨rfl,rfl,rfl,by decide +kernel,rfl,by decide +kernel,by decide +kernel⟩
theorem sS:aQ ["kept"] ["kept"] (aN (top 49)):=⟨rfl,rfl,rfl,by decide +kernel,rfl,by decide +kernel,by decide +kernel⟩
theorem vG:aQ ["kept"] ["kept"] (aN (top 50)):=⟨rfl,rfl,rfl,by decide +kernel,rfl,by decide +kernel,by decide +kernel⟩
theorem tX:aQ ["kept","box"] ["kept","box"] (aN (top 51)):=⟨rfl,rfl,rfl,by decide +kernel,rfl,by decide +kernel,by decide +kernel⟩
theorem zP:aQ ["boxes"] ["boxes"] (aN (top 52)):=⟨rfl,rfl,rfl,by decide +kernel,rfl,by decide +kernel,by decide +kernel⟩
theorem oW:aQ ["things","fewest","most","greatest_number"] ["things","fewest","most","greatest_number"] (aN (top 53)):=⟨rfl,rfl,rfl,by decide +kernel,rfl,by decide +kernel,by decide +kernel⟩
theorem oG:aQ ["thing"] ["thing"] (aN (top 58)):=⟨rfl,rfl,rfl,by decide +kernel,rfl,by decide +kernel,by decide +kernel⟩
theorem qI:aQ ["lets","one","box","other"] ["lets"] (aN (top 59)):=⟨rfl,rfl,rfl,by decide +kernel,rfl,by decide +kernel,by decide +kernel⟩
theorem tG:aQ ["lets","one","other"] ["lets","one","other"] (aN (top 60)):=⟨rfl,rfl,rfl,by decide +kernel,rfl,by decide +kernel,by decide +kernel⟩
theorem mC:aQ ["lets","by_size","kept"] ["lets"] (aN (top 61)):=⟨rfl,rfl,rfl,by decide +kernel,rfl,by decide +kernel,by decide +kernel⟩
theorem qR:aQ ["lets","by_size","size","other","one"] ["lets"] (aN (top 62)):=⟨rfl,rfl,rfl,by decide +kernel,rfl,by decide +kernel,by decide +kernel⟩
theorem JF:aQ ["pattern","many","lets","less"] ["pattern","many"] (aN (top 63)):=⟨rfl,rfl,rfl,by decide +kernel,rfl,by decide +kernel,by decide +kernel⟩
theorem mG:aQ ["pattern","many","found"] ["pattern","many"] (aN (top 66)):=⟨rfl,rfl,rfl,by decide +kernel,rfl,by decide +kernel,by decide +kernel⟩
theorem sO:aQ ["pattern","many","one","other"] ["pattern","many"] (aN (top 71)):=⟨rfl,rfl,rfl,by decide +kernel,rfl,by decide +kernel,by decide +kernel⟩
theorem p8:aQ ["pattern","case","many"] ["pattern","case"] (aN (top 72)):=⟨rfl,rfl,rfl,by decide +kernel,rfl,by decide +kernel,by decide +kernel⟩
theorem lC:aQ ["pattern","tables","lone"] ["pattern","tables"] (aN (top 73)):=⟨rfl,rfl,rfl,by decide +kernel,rfl,by decide +kernel,by decide +kernel⟩
theorem vR:aQ ["pattern","case","many","tables"] ["pattern","case"] (aN (top 77)):=⟨rfl,rfl,rfl,by decide +kernel,rfl,by decide +kernel,by decide +kernel⟩
theorem qL:aQ ["pattern","case"] ["pattern","case"] (aN (top 78)):=⟨rfl,rfl,rfl,by decide +kernel,rfl,by decide +kernel,by decide +kernel⟩
theorem Hc:aQ ["boxes","pattern"] ["boxes","pattern"] (aN (top 79)):=⟨rfl,rfl,rfl,by decide +kernel,rfl,by decide +kernel,by decide +kernel⟩
theorem mF:aQ ["_law_script","_law_k"] ["_law_script","_law_k"] (aN (top 81)):=⟨rfl,rfl,rfl,by decide +kernel,rfl,by decide +kernel,by decide +kernel⟩
theorem oV:aQ ["_law_cell","_law_k","_law_number"] ["_law_cell","_law_k"] (aN (top 82)):=⟨rfl,rfl,rfl,by decide +kernel,rfl,by decide +kernel,by decide +kernel⟩
theorem iR:aQ ["_law_thing","_law_part"] ["_law_thing"] (aN (top 83)):=⟨rfl,rfl,rfl,by decide +kernel,rfl,by decide +kernel,by decide +kernel⟩
theorem qD:aQ ["_law_found","_law_due"] ["_law_found","_law_due"] (aN (top 84)):=⟨rfl,rfl,rfl,by decide +kernel,rfl,by decide +kernel,by decide +kernel⟩
theorem sY:aQ ["_law_top","_law_bottom","_law_one","_law_other"] ["_law_top","_law_bottom"] (aN (top 85)):=⟨rfl,rfl,rfl,by decide +kernel,rfl,by decide +kernel,by decide +kernel⟩
theorem qH:aQ ["_law_one","_law_other"] ["_law_one","_law_other"] (aN (top 86)):=⟨rfl,rfl,rfl,by decide +kernel,rfl,by decide +kernel,by decide +kernel⟩
theorem oJ:aQ ["_law_one","_law_other"] ["_law_one","_law_other"] (aN (top 87)):=⟨rfl,rfl,rfl,by decide +kernel,rfl,by decide +kernel,by decide +kernel⟩
theorem pF:aQ ["_law_one","_law_other"] ["_law_one","_law_other"] (aN (top 88)):=⟨rfl,rfl,rfl,by decide +kernel,rfl,by decide +kernel,by decide +kernel⟩
theorem tV:aQ ["_law_cell","_law_bit","_law_many","_law_row_here","_law_k"] ["_law_cell","_law_bit","_law_many"] (aN (top 89)):=⟨rfl,rfl,rfl,by decide +kernel,rfl,by decide +kernel,by decide +kernel⟩
theorem sV:aQ ["_law_row_here","_law_deep","_law_most","_law_scale","_law_number","_law_many","_law_cost","_law_rows","_law_j","_law_weight"] ["_law_row_here","_law_deep","_law_most","_law_scale"] (aN (top 90)):=⟨rfl,rfl,rfl,by decide +kernel,rfl,by decide +kernel,by decide +kernel⟩
theorem oM:aQ ["_law_told"] ["_law_told"] (aN (top 91)):=⟨rfl,rfl,rfl,by decide +kernel,rfl,by decide +kernel,by decide +kernel⟩
theorem mR:aQ ["_law_told","_law_level","_law_total","_law_every","_law_weight","_law_part"] ["_law_told","_law_level"] (aN (top 92)):=⟨rfl,rfl,rfl,by decide +kernel,rfl,by decide +kernel,by decide +kernel⟩
theorem N7:aQ ["_law_script","_law_k","_law_cell","_law_row_here","_law_scale","_law_told","_law_boxes","_law_due","_law_count","_law_some","_law_pattern"] ["_law_script"] (aN (top 93)):=⟨rfl,rfl,rfl,by decide +kernel,rfl,by decide +kernel,by decide +kernel⟩
theorem jX:aQ ["self","end_count","stage_count","level","cap_rows"] ["self","end_count","stage_count","level","cap_rows"] (aN (inClass (top 37) 0)):=⟨rfl,rfl,rfl,by decide +kernel,rfl,by decide +kernel,by decide +kernel⟩
theorem oK:aQ ["self"] ["self"] (aN (inClass (top 37) 1)):=⟨rfl,rfl,rfl,by decide +kernel,rfl,by decide +kernel,by decide +kernel⟩
theorem lW:aQ ["self"] ["self"] (aN (inClass (top 37) 2)):=⟨rfl,rfl,rfl,by decide +kernel,rfl,by decide +kernel,by decide +kernel⟩
theorem iM:aQ ["self"] ["self"] (aN (inClass (top 37) 4)):=⟨rfl,rfl,rfl,by decide +kernel,rfl,by decide +kernel,by decide +kernel⟩
theorem lY:aQ ["self","worth"] ["self","worth"] (aN (inClass (top 38) 0)):=⟨rfl,rfl,rfl,by decide +kernel,rfl,by decide +kernel,by decide +kernel⟩
theorem jY:aQ ["self","price","rows","end_count","stage_count","behind","level"] ["self","price","rows"] (aN (inClass (top 39) 0)):=⟨rfl,rfl,rfl,by decide +kernel,rfl,by decide +kernel,by decide +kernel⟩
theorem kZ:aQ ["self","boxes"] ["self","boxes"] (aN (inClass (top 45) 0)):=⟨rfl,rfl,rfl,by decide +kernel,rfl,by decide +kernel,by decide +kernel⟩
theorem lB:aQ ["self"] ["self"] (aN (inClass (top 45) 1)):=⟨rfl,rfl,rfl,by decide +kernel,rfl,by decide +kernel,by decide +kernel⟩
theorem lE:aQ ["self","box"] ["self","box"] (aN (inClass (top 45) 2)):=⟨rfl,rfl,rfl,by decide +kernel,rfl,by decide +kernel,by decide +kernel⟩
theorem oR:aQ ["self","box"] ["self","box"] (aN (inClass (top 45) 3)):=⟨rfl,rfl,rfl,by decide +kernel,rfl,by decide +kernel,by decide +kernel⟩
theorem tD:aQ ["self","box"] ["self","box"] (aN (inClass (top 45) 4)):=⟨rfl,rfl,rfl,by decide +kernel,rfl,by decide +kernel,by decide +kernel⟩
theorem pY:aQ ["self","box","table","cap"] ["self","box"] (aN (inClass (top 45) 9)):=⟨rfl,rfl,rfl,by decide +kernel,rfl,by decide +kernel,by decide +kernel⟩
theorem lZ:aQ ["self","count"] ["self","count"] (aN (inClass (top 55) 0)):=⟨rfl,rfl,rfl,by decide +kernel,rfl,by decide +kernel,by decide +kernel⟩
theorem u6:aQ ["self","kept"] ["self","kept"] (aN (inClass (top 55) 1)):=⟨rfl,rfl,rfl,by decide +kernel,rfl,by decide +kernel,by decide +kernel⟩
theorem jP:aQ ["self","groups","most"] ["self","groups","most"] (aN (inClass (top 56) 0)):=⟨rfl,rfl,rfl,by decide +kernel,rfl,by decide +kernel,by decide +kernel⟩
theorem oH:aQ ["self","kept","boxes","groups"] ["self","kept"] (aN (inClass (top 56) 1)):=⟨rfl,rfl,rfl,by decide +kernel,rfl,by decide +kernel,by decide +kernel⟩
theorem jK:aQ ["self","sets"] ["self","sets"] (aN (inClass (top 57) 0)):=⟨rfl,rfl,rfl,by decide +kernel,rfl,by decide +kernel,by decide +kernel⟩
theorem nY:aQ ["self","kept"] ["self","kept"] (aN (inClass (top 57) 1)):=⟨rfl,rfl,rfl,by decide +kernel,rfl,by decide +kernel,by decide +kernel⟩
end K51
namespace K51
open PySem L2 TD
open Builtin.Int (intBits)
section
variable {P:Program}{w:World}{K:PySem.W.Frag}{mg:Str->Option Value}{base:Heap}{Pt:Addr}
theorem pK {n:Nat}{f:Addr}{fd:FuncData}(F:dW K "common_divisor" "common_divisor" (top 10) f fd)(aIy:mg "abs" = none):aY P w K mg base cZ (n+1) f fd ["one","other"] Qk:=by
 refine F.ok jZ (fun vs H Q E h=>?_) (fun cdv A outer s H vs Q E hr h=>?_)
 ·obtain ⟨a,b,rfl,_⟩:=h
  rfl
 obtain ⟨a,b,rfl,q⟩:=h;have nd:=jZ.nd;refine ⟨_,(aF (Dz PassesOwn.never (cQ Ng (pv 1) aJ (cM _)) (aF (bC (i:=2) nd rfl (Or.inl rfl) (bA Hw (pv 0) (pv 1))) (aF (bC (i:=0) nd rfl (Or.inl rfl) (pv 1)) (aG (bC (i:=1) nd rfl (Or.inl rfl) (pv 2)))))) (aG (aV (aW DN rfl aIy M5 (aA (pv 0) aD))))),?_⟩;refine Em (fun σ H'=>∃ x y r,σ = [some (.int x),some (.int y),r]/\aL4 x y=aL4 a b/\H'=H) (fun σ _=>match σ with | [_,some (.int y),_]=>y.natAbs | _=>0) ⟨a,b,none,rfl,rfl,rfl⟩ (fun σ H' ⟨x,y,r,e,hg,eH⟩=>?_) (fun σ H Q Q' hQ ⟨v,e,hs,k,ek,q⟩=>⟨v,e,hs,k,ek,hQ _ _ q⟩);subst e eH;refine ⟨_,rfl,rfl,_,rfl,?_⟩
 by_cases hy:y=0
 ·subst hy;refine uP (by simp) ?_;refine ⟨_,rfl,_,rfl,?_⟩;have e:(if x<0 then -x else x)=((aL4 a b:Nat):Int):=by
   rw [<- hg,Int.gcd_zero]
   split <;> omega
  rw [e];exact q
 ·refine uR (by simp [hy]) ?_;refine ⟨_,rfl,_,rfl,x,y,rfl,rfl,hy,?_⟩;refine ⟨_,rfl,?_⟩;refine ⟨_,rfl,?_⟩;exact ⟨⟨y,x.fmod y,_,rfl,(Fr.Ck x y).trans hg,rfl⟩,Fr.yU hy⟩
theorem O7 {n:Nat}{f:Addr}{fd:FuncData}(F:dW K "share" "share" (top 12) f fd){u_:Addr}{p_:FuncData}(v_:dF P w K mg base n "common_divisor" ["one","other"] Qk u_ p_):aY P w K mg base cZ (n+1) f fd ["top","bottom"] uQ:=by
 refine F.ok Ec (fun vs H Q E h=>?_) (fun cdv A outer s H vs Q E hr h=>?_)
 ·obtain ⟨t,b,rfl,_⟩:=h
  rfl
 obtain ⟨t,b,rfl,hb,hz,q⟩:=h;have nd:=Ec.nd;refine ⟨_,(aF (bC (i:=2) nd rfl (Or.inl rfl) (aK v_ hr (aA (pv 0) (aA (pv 1) aD)))) (aF (cL (cQ Dp (pv 1) aJ (cM _)) (aG (bC (i:=2) nd rfl (Or.inl rfl) (Qq Mj (pv 2)))) bJ) (aG (aV (dN (aA (bA fU (pv 0) (pv 2)) (aA (bA fU (pv 1) (pv 2)) aD))))))),?_⟩;have hdz:intBits (Fr.dv t b)<=9000:=PySem.intBits_le_of_natAbs (by rw [Fr.nH]; exact aNb t hb) hz;have hdn:=Fr.Mu (t:=t) hb;refine ⟨_,rfl,_,rfl,t,b,rfl,?_⟩;refine ⟨_,rfl,_,_,rfl,rfl,_,rfl,?_⟩;refine GK (fun c=>?_) (fun c=>?_)
 ·have e:-((aL4 t b:Nat):Int)=Fr.dv t b:=by unfold Fr.dv; rw [if_pos (of_decide_eq_true c)]
  unfold Fr.sh at q;rw [<- e] at q hdz hdn;refine ⟨_,rfl,_,rfl,?_⟩;refine ⟨_,rfl,_,rfl,_,_,rfl,rfl,⟨hdn,hdz⟩,_,rfl,_,rfl,_,_,rfl,rfl,⟨hdn,hdz⟩,qU,fun p hp=>?_⟩;exact q p _ (aH hp _) aC
 ·have e:((aL4 t b:Nat):Int)=Fr.dv t b:=by unfold Fr.dv; rw [if_neg (of_decide_eq_false (Bool.eq_false_iff.mpr c))]
  unfold Fr.sh at q;rw [<- e] at q hdz hdn;refine ⟨_,rfl,_,rfl,_,_,rfl,rfl,⟨hdn,hdz⟩,_,rfl,_,rfl,_,_,rfl,rfl,⟨hdn,hdz⟩,qU,fun p hp=>?_⟩;exact q p _ (aH hp _) aC
theorem oX {n:Nat}{f:Addr}{fd:FuncData}(F:dW K "common_multiple" "common_multiple" (top 11) f fd){u_:Addr}{p_:FuncData}(v_:dF P w K mg base n "common_divisor" ["one","other"] Qk u_ p_):aY P w K mg base cZ (n+1) f fd ["numbers"] (QM K):=by
 refine F.ok jR (fun vs H Q E h=>?_) (fun cdv A outer s H vs Q E hr h=>?_)
 ·obtain ⟨a,ns,rfl,_⟩:=h
  rfl
 obtain ⟨a,ns,rfl,hS,hp,h9,hz,q⟩:=h;have nd:=jR.nd;refine ⟨_,(aF (bC (i:=1) nd rfl (Or.inl rfl) aJ) (aF (dB PassesOwn.never rfl (bL (pv 0)) (aP (i:=2) nd rfl (Or.inl rfl)) (aG (bC (i:=1) nd rfl (Or.inl rfl) (bA bZ (pv 1) (bA fU (pv 2) (aK v_ hr (aA (pv 1) (aA (pv 2) aD)))))))) (aG (aV (pv 1))))),?_⟩;have hl:(ns.map V.int).length=ns.length:=aLo _;refine ⟨_,rfl,a,rfl,⟨_,hS⟩,?_⟩;refine fH (xs:=ns.map V.int) (fun i σ H'=>∃ r,σ = [some (.ref a),some (.int (dH (ns.take i))),r]/\H'=H) ⟨none,rfl,rfl⟩ (fun i σ H' _ ⟨r,_,e⟩=>by subst e; exact hS) ?turn ?done
 case turn =>
  rintro i x σ H' hx ⟨r,rfl,rfl⟩;rw [aLH] at hx;cases e:ns[i]? with
  | none=>rw [e] at hx; cases hx
  | some n =>
   rw [e] at hx;cases hx;have hm:=aLx e;have hn:=hp n hm;have nz:=h9 n hm;have gz:intBits ((aL4 (dH (ns.take i)) n:Nat):Int)<=9000:=aLv (PySem.intBits_le_of_natAbs (y:=n) (by have:=aNb (dH (ns.take i)) (aLT hn); omega) (aLu _)) (by omega);have gn:((aL4 (dH (ns.take i)) n:Nat):Int)≠0:=by have:=aMg (dH (ns.take i)) (aLT hn); omega
   have lb:=yP (ns.take i);have st:=tO ns i;refine ⟨_,rfl,_,rfl,_,rfl,_,rfl,dH (ns.take i),n,rfl,_,_,rfl,rfl,⟨gn,gz⟩,_,_,rfl,rfl,eE (m:=200001) (n:=9000) (by omega) (PySem.intBits_fdiv_le nz) (by decide),?_⟩;refine ⟨some (V.int n),?_,rfl⟩;rw [aMB,e];show _=[some (V.ref a),some (V.int (dH (ns.take i++[n]))),some (V.int n)]
   rw [J7]
   rfl
 case done =>
  rintro σ H' ⟨r,rfl,rfl⟩;rw [hl,aLG];exact ⟨_,rfl,q⟩
theorem Ln {n:Nat}{f:Addr}{fd:FuncData}(F:dW K "whole" "whole" (top 13) f fd):aY P w K mg base cZ (n+1) f fd ["number"] UV:=by
 refine F.ok Dq (fun vs H Q E h=>?_) (fun cdv A outer s H vs Q E hr h=>?_)
 ·obtain ⟨t,rfl,_⟩:=h
  rfl
 obtain ⟨t,rfl,q⟩:=h;have nd:=Dq.nd;refine ⟨_,(aG (aV (dN (aA (pv 0) (aA aJ aD))))),?_⟩;refine ⟨_,rfl,qU,fun p hp=>?_⟩;exact q p _ (aH hp _) aC
theorem O2 {n:Nat}{f:Addr}{fd:FuncData}(F:dW K "below" "below" (top 15) f fd):aY P w K mg base cZ (n+1) f fd ["one","other"] (JG K):=by
 refine F.ok DR (fun vs H Q E h=>?_) (fun cdv A outer s H vs Q E hr h=>?_)
 ·obtain ⟨p,q,a,b,c,d,rfl,_⟩:=h
  rfl
 obtain ⟨p,q,a,b,c,d,rfl,hp,hq,z,k⟩:=h;have nd:=DR.nd;refine ⟨_,(aG (aV (j4 Dp (bA bZ (bT b7 (pv 0) aJ (fun _ _=>rfl)) (bT b7 (pv 1) aJ (fun _ _=>rfl))) (bA bZ (bT b7 (pv 1) aJ (fun _ _=>rfl)) (bT b7 (pv 0) aJ (fun _ _=>rfl))) (cM _)))),?_⟩;exact ⟨_,rfl,p,_,_,_,rfl,rfl,hp,rfl,_,rfl,q,_,_,_,rfl,rfl,hq,rfl,_,_,rfl,rfl,eE z.a z.d (by decide),_,rfl,q,_,_,_,rfl,rfl,hq,rfl,_,rfl,p,_,_,_,rfl,rfl,hp,rfl,_,_,rfl,rfl,eE z.c z.b (by decide),_,_,rfl,rfl,k⟩
theorem Jc {n:Nat}{f:Addr}{fd:FuncData}(F:dW K "lesser" "lesser" (top 16) f fd){aKw:Addr}{aJ1:FuncData}(aKx:dF P w K mg base n "below" ["one","other"] (JG K) aKw aJ1):aY P w K mg base cZ (n+1) f fd ["one","other"] (PK K):=by
 refine F.ok zZ (fun vs H Q E h=>?_) (fun cdv A outer s H vs Q E hr h=>?_)
 ·obtain ⟨p,q,a,b,c,d,rfl,_⟩:=h
  rfl
 obtain ⟨p,q,a,b,c,d,rfl,hp,hq,z,k1,k2⟩:=h;have nd:=zZ.nd;refine ⟨_,(aG (aV (wQ (bW (aK aKx hr (aA (pv 1) (aA (pv 0) aD)))) (pv 1) (pv 0)))),?_⟩;refine ⟨_,rfl,_,rfl,q,p,c,d,a,b,rfl,hq,hp,⟨z.c,z.d,z.a,z.b⟩,_,rfl,?_⟩
 by_cases cc:c*b<a*d
 ·refine uR (decide_eq_true cc) ?_;exact ⟨_,rfl,k1 cc⟩
 ·refine uP (decide_eq_false cc) ?_;exact ⟨_,rfl,k2 cc⟩
theorem Ji {n:Nat}{f c:Addr}{fd:FuncData}(F:dW K "rising" "rising" (top 20) f fd)(hc:fd.code=.ref c)(hC:PySem.W.CodeHd base c Pt)(hB:base.BuiltinsAt mg Pt)(aBZ:mg "sorted" = none)(aHy:mg "max" = none):aY P w K mg base cZ (n+1) f fd ["worths"] (Fw K Pt cT):=by
 refine F.okc hc zR (fun vs H Q E h=>?_) (fun A outer s H vs Q E hr h=>?_)
 ·obtain ⟨a,rs,rfl,_⟩:=h
  rfl
 obtain ⟨a,rs,rfl,hS,hne,h64,hrs,nd0,hT,q⟩:=h;have nd:=zR.nd;refine ⟨_,(aF (bC (i:=1) nd rfl (Or.inl rfl) (aW (zG rfl) rfl aHy HY (aA (cD (ls:=["worth"]) (M:=["worths","most","scale"]) rfl (bM.of (by rfl)) (NL.of (by rfl)) (bL (pv 0)) (fun _ _ _ _=>⟨(aP (i:=0) (bY (by rfl)) rfl (Or.inl rfl)),bV,(bT (jD (K:=K) rfl) (pv 0) aJ (fun _ _=>rfl))⟩)) aD))) (aF (bC (i:=2) nd rfl (Or.inr rfl) (bA bZ (pv 1) (pv 1))) (aG (aV (Nx (p:="worth") (M:=["worths","most","scale"]) hr rfl rfl aBZ rfl hC hB (bM.of (by rfl)) (NL.of (by rfl)) rfl rfl rfl (pv 0) (fun _ _ _ _ _=>(bA fU (bA bZ (bT (jD (K:=K) rfl) (pv 0) aJ (fun _ _=>rfl)) (pv 3)) (bT (jD (K:=K) rfl) (pv 0) aJ (fun _ _=>rfl))))))))),?_⟩;have hlr:=jA rs;refine ⟨_,rfl,a,rfl,⟨_,hS⟩,fun D hD=>?_⟩;refine bQ (xs:=jN rs) (fun i τ H'=>∃ v0,τ = [v0,some (.ref a),none,none]/\aR H H'/\H' D=some (.lst ((rs.take i).map fun r=>V.int r.b))) ⟨none,rfl,aH hD _,aC⟩ ?keep ?turn ?done
 case keep =>
  rintro i τ H' hi ⟨v0,rfl,hs,_⟩;exact hs.seq hS
 case turn =>
  rintro i m v τ H' hm hi hv ⟨v0,rfl,hs,hD'⟩;obtain ⟨x,hx,rfl⟩:=vP hv;have hr2:=hs _ _ (hrs x (aLx hx)).1;unfold oO;refine dG ?_;refine ⟨_,rfl,x.q,_,_,_,rfl,rfl,cY.of hr2,rfl,?_⟩;refine bF hm hi hD' (by rw [aLo]; exact aU (aLv (aL8 _ _) (by omega))) ⟨_,rfl,hs.upd_new hD _,?_⟩;rw [aC,take_snoc hx,aLB]
  rfl
 case done =>
 rintro τ H1 ⟨v0,rfl,s1,hD1⟩;rw [hlr,aLG] at hD1;refine ⟨D,rs.map Rs.b,rfl,bK.of (by rw [hD1,aL1]; rfl),fun e=>hne (aMd.mp e),fun mx hmx hmax=>?_⟩;obtain ⟨r0,hr0,rfl⟩:=aLr.mp hmx;have z0:=(hrs r0 hr0).2.2.2;refine ⟨_,rfl,_,rfl,_,_,rfl,rfl,eE z0 z0 (by decide),?_⟩;have zz:intBits (r0.b*r0.b)<=8000:=PySem.intBits_mul_le z0 z0;refine ⟨_,rfl,a,rs.map Rs.q,rs.map (O9 r0.b),rfl,by rw [<- QW]; exact s1.seq hS,by rw [aLo,aLo],by rw [aLo]; exact h64,hT.same s1,fun H2 c' st hit=>⟨fun i qa kk eq ek=>?_,fun D2 ps hD2 hp hs=>?_⟩⟩
 ·rw [aLH] at eq ek;cases er:rs[i]? with
  | none=>rw [er] at eq; cases eq
  | some r =>
   rw [er] at eq ek;cases eq;cases ek;obtain ⟨ra,rf,rt,rb⟩:=hrs r (aLx er);have ra2:H2 r.q=some (.tup [.int r.t,.int r.b]):=st.get (hT.same s1) (s1 _ _ ra) fun _ z=>nomatch z
   exact ⟨_,rfl,r.q,_,_,_,rfl,rfl,(cY.of ra2),rfl,_,rfl,_,_,rfl,rfl,eE rt zz (by decide),_,rfl,r.q,_,_,_,rfl,rfl,(cY.of ra2),rfl,_,_,rfl,rfl,⟨aLT rf.pos,aLv rb (by decide)⟩,rfl,rfl⟩
 ·obtain ⟨rs',pm,e,so⟩:=Pk hp hs nd0 (fun r hr=>(hrs r hr).2.1) (fun r hr=>hmax _ (aLr.mpr ⟨r,hr,rfl⟩));rw [e];have tb2:cA Pt cT d8 H2:=.inr ⟨c',hit⟩;exact q D2 _ rs' (((s1.toT).trans st).trans (aR.toT (aH hD2 _))) (tb2.same (aH hD2 _)) aC pm so
theorem Ny {H:Hp}:∀ {kvs:List (List Key×V)}{qs:List Addr},qs.length=kvs.length->(∀ kv∈kvs,∃ t b:Int,kv.1=[.inl t,.inl b])->(∀ (i:Nat) k v,kvs[i]? = some (k,v)->∃ q,qs[i]? = some q/\H q=some (.tup (k.map kV))) ->
  ∃ rs:List Rs,jN rs=qs.map V.ref/\rs.map jU=kvs.map (·.1)/\∀ r∈rs,Ja H r
 | [],[],_,_,_=>⟨[],rfl,rfl,fun _ h=>nomatch h⟩
 | [],_::_,h,_,_=>by simp at h
 | _::_,[],h,_,_=>by simp at h
 | kv::kvs,q::qs,hl,hk,hq=>by
  obtain ⟨rs,e1,e2,e3⟩:=Ny (kvs:=kvs) (qs:=qs) (by simpa using hl) (fun x hx=>hk x (aLp _ hx)) fun i k v e=>by
   obtain ⟨z,z1,z2⟩:=hq (i+1) k v (by simpa using e);exact ⟨z,by simpa using z1,z2⟩
  obtain ⟨t,b,ek⟩:=hk kv aLq;obtain ⟨z,z1,z2⟩:=hq 0 kv.1 kv.2 rfl;have z1:q=z:=by simpa using z1
  subst z1;refine ⟨⟨q,t,b⟩::rs,?_,?_,fun r hr=>?_⟩
  ·show V.ref q::jN rs=V.ref q::qs.map V.ref;rw [e1]
  ·show jU ⟨q,t,b⟩::rs.map jU=kv.1::kvs.map (·.1);rw [e2,ek]
   rfl
  ·rcases aLF.mp hr with e | e
   ·subst e;rw [ek] at z2;exact z2
   ·exact e3 r e
theorem Cg {xs:List Row}{kvs:List (List Key×V)}(pb:PB xs)(d:Dk (bO xs) kvs){r:Rs}(h:jU r∈kvs.map (·.1)):Tb.j9 (bO xs) r.t r.b/\Fr.fZ r.t r.b/\intBits r.t<=4000/\intBits r.b<=4000:=by
 obtain ⟨kv,hkv,e⟩:=aLr.mp h;obtain ⟨t,b,e2,hh⟩:=d.en kv hkv;rw [e2] at e;obtain ⟨e3,e4⟩:=nC.mp e.symm;rw [e3,e4];refine ⟨hh,?_⟩;obtain ⟨p,hp,e5,e6⟩:=hh;obtain ⟨x,hx,rfl⟩:=aLr.mp hp;have g:=pb x hx;have e5:x.t=t:=e5;have e6:x.b=b:=e6;rw [<- e5,<- e6];exact ⟨g.1,g.2.1,g.2.2.1⟩
theorem Gy {n:Nat}{f:Addr}{fd:FuncData}(F:dW K "in_form" "in_form" (top 21) f fd){aH5:Addr}{aHI:FuncData}(aH6:dF P w K mg base n "rising" ["worths"] (Fw K Pt cT) aH5 aHI){u_:Addr}{p_:FuncData}(v_:dF P w K mg base n "common_divisor" ["one","other"] Qk u_ p_)(j_:mg "list" = none):aY P w K mg base cZ (n+1) f fd ["rows"] (rE Pt cT):=by
 refine F.ok vH (fun vs H Q E h=>?_) (fun cdv A outer s H vs Q E hr h=>?_)
 ·obtain ⟨a,xs,rfl,_⟩:=h
  rfl
 obtain ⟨a,xs,rfl,hT,xne,xlen,pb,hTb,q⟩:=h;have nd:=vH.nd;have hu:=Lf hr;refine ⟨_,(aF (bC (i:=1) nd rfl (Or.inr rfl) Cd) (aF (dB PassesOwn.never rfl (bL (pv 0)) (rK rfl (bG (aP (i:=2) nd rfl (Or.inl rfl)) (bG (aP (i:=3) nd rfl (Or.inl rfl)) dJ))) (aG (Hf hu (pv 1) (pv 2) (bA gC (Dg hu (pv 1) (pv 2) aJ ⟨rfl,rfl,rfl,rfl⟩) (pv 3)) rfl))) (aF (bC (i:=4) nd rfl (Or.inr rfl) aJ) (aF (dB PassesOwn.never rfl (QX (pv 1)) (aP (i:=2) nd rfl (Or.inl rfl)) (aG (bC (i:=4) nd rfl (Or.inr rfl) (aK v_ hr (aA (pv 4) (aA (Ip hu (pv 1) (pv 2) (fun _ _=>rfl)) aD)))))) (aG (aV (cD (ls:=["worth"]) (M:=["rows","weights","worth#","weight","divisor"]) rfl (bM.of (by rfl)) (NL.of (by rfl)) (bL (aK aH6 hr (aA (cX (vO rfl) rfl j_ jE (aA (pv 1) aD)) aD))) (fun _ _ _ _=>⟨(aP (i:=0) (bY (by rfl)) rfl (Or.inl rfl)),bV,(dN (aA (pv 0) (aA (bA fU (Ip hu (pv 2) (pv 0) (fun _ _=>rfl)) (pv 5)) aD)))⟩)))))))),?_⟩;have hlr:=refs_length xs;intro Dd hDd;have n0:=aH hDd (.dT []);refine ⟨_,rfl,a,rfl,⟨_,bK.of (hT.same n0).lst⟩,?_⟩;refine fH (xs:=refs xs) (fun i σ H'=>∃ kvs v2 v3,σ = [some (.ref a),some (.ref Dd),v2,v3,none]/\aR H H'/\H' Dd=some (.dT kvs)/\Dk (bO (xs.take i)) kvs/\kvs.length<=i) ⟨[],none,none,rfl,n0,aC,Dk.nil,aLu _⟩ ?keep ?turn ?done
 case keep =>
  rintro i σ H' hi ⟨kvs,v2,v3,rfl,hs,_⟩;exact bK.of (hT.same hs).lst
 case turn =>
  rintro i v σ H' hv ⟨kvs,v2,v3,rfl,hs,hd,dk,kl⟩;obtain ⟨x,hx,rfl⟩:=jB hv;have hmem:=aLx hx;have hi:=(aLE.mp hx).1;have hr:=(hT.same hs).rows x hmem;have hq:H' x.q=some (.tup (([.inl x.t,.inl x.b]:List Key).map kV)):=hr.2;refine ⟨x.p,_,rfl,cY.of hr.1,rfl,_,_,rfl,_,_,rfl,rfl,?_⟩;refine ⟨_,rfl,Dd,rfl,.inr ⟨_,.inl hd⟩,_,rfl,_,Bm.t hd hq,_,rfl,Tb.Wt (bO (xs.take i)) x.t x.b,x.w,dk.get x.t x.b,rfl,?_⟩;refine ⟨_,rfl,_,rfl,Dd,_,rfl,Jp.t hd hq (aU (by omega)),?_⟩;refine ⟨_,_,_,rfl,hs.upd_new hDd _,aC,?_,?_⟩
  ·rw [take_snoc hx,jT];exact dk.put x.r
  ·have:=gK kvs [.inl x.t,.inl x.b] (.int (Tb.Wt (bO (xs.take i)) x.t x.b+x.w));exact aLv this (by omega)
 case done =>
 rintro σ H1 ⟨kvs,v2,v3,rfl,s1,hd1,dk,kl⟩;rw [hlr,aLG] at dk;rw [hlr] at kl;obtain ⟨hw1,hf1⟩:=pb.ps;have pne:bO xs≠[]:=fun e=>xne (aMd.mp e);have plen:(bO xs).length<=1000:=by rw [eO]; omega
 have dpos:=dk.div_pos pne hw1;have dbits:=NQ dk pne (fun p hp=>by obtain ⟨x,hx,rfl⟩:=aLr.mp hp; exact ⟨(pb x hx).2.2.2.1,(pb x hx).2.2.2.2⟩) plen;refine ⟨_,rfl,Dd,kvs,rfl,.inl ⟨hd1,fun o=>?_⟩⟩;have s2:aR H (aX H1 Dd (.frz o (.dT kvs))):=s1.upd_new hDd _;have hfz:aX H1 Dd (.frz o (.dT kvs)) Dd=some (.frz o (.dT kvs)):=aC;generalize aX H1 Dd (.frz o (.dT kvs))=H2 at s2 hfz ⊢;refine N5 (fun i σ H'=>∃ d v2,σ = [some (.ref a),some (.ref Dd),v2,v3,some (.int d)]/\H'=H2/\d=Tb.wF ((kvs.take i).map wOf)) ⟨0,_,rfl,rfl,rfl⟩ (fun i σ H' _ ⟨_,_,_,e,_⟩=>by rw [e]; exact hfz) ?turn3 ?done3
 case turn3 =>
  rintro i k v kq σ H' hk hkt ⟨d,v2,rfl,rfl,ed⟩;obtain ⟨t,b,ekv,hh⟩:=dk.en _ (aLx hk);injection ekv with ek1 ek2
  subst ek1 ek2;refine ⟨_,rfl,_,rfl,_,rfl,Dd,.int (Tb.Wt (bO xs) t b),rfl,.inr ⟨kvs,[.inl t,.inl b],kq,.inr ⟨o,hfz⟩,rfl,hkt,(dk.val hh).symm⟩,d,Tb.Wt (bO xs) t b,rfl,?_⟩;refine ⟨_,_,rfl,rfl,?_⟩;rw [take_snoc hk,aLB,ed];exact (Tb.KY _ _).symm
 case done3 =>
 rintro σ H3 ⟨d,v2,rfl,rfl,ed⟩;rw [aLG] at ed;have ed:d=iZ kvs:=ed;subst ed;have kb:∀ kv∈kvs,∃ t b:Int,kv.1=[.inl t,.inl b]:=fun kv hkv=>by
  obtain ⟨t,b,e,_⟩:=dk.en kv hkv;exact ⟨t,b,by rw [e]⟩
 refine ⟨_,rfl,Dd,kvs,rfl,.inr ⟨o,hfz⟩,fun l qs hl hql hqs=>?_⟩;obtain ⟨rs0,er1,er2,er3⟩:=Ny hql kb hqs;have n3:=aH hl (.lst (qs.map V.ref));have s3:=s2.trans n3;have rl0:rs0.length=kvs.length:=by simpa using congrArg aMJ er2
 have kin0:∀ r∈rs0,jU r∈kvs.map (·.1):=fun r hr=>by rw [<- er2]; exact aLr.mpr ⟨r,hr,rfl⟩
 refine ⟨l,rs0,rfl,bK.of (by rw [er1]; exact aC),?_,by omega,fun r hr=>⟨n3 _ _ (er3 r hr),(Cg pb dk (kin0 r hr)).2⟩,by rw [er2]; exact dk.nd,hTb.same s3,fun R H4 rs st4 tb4 hR pm so=>?_⟩
 ·rintro rfl;exact dk.ne pne (aNc.mp rl0.symm)
 have tb3:=hTb.same s3;have hfz4:H4 Dd=some (.frz o (.dT kvs)):=st4.get tb3 (n3 _ _ hfz) fun _ z=>nomatch z
 have pmk:(rs.map jU).Perm (kvs.map (·.1)):=by rw [<- er2]; exact pm.map jU
 have kin:∀ r∈rs,jU r∈kvs.map (·.1):=fun r hr=>pmk.mem_iff.mp (aLr.mpr ⟨r,hr,rfl⟩);have rat:∀ r∈rs,Ja H4 r:=fun r hr=>st4.get tb3 (n3 _ _ (er3 r (pm.mem_iff.mp hr))) fun _ z=>nomatch z
 have rlen:rs.length=kvs.length:=by rw [pm.length_eq,rl0]
 have sT:bH Pt H H4:=(s3.toT).trans st4;refine ⟨R,rfl,⟨_,bK.of hR⟩,fun D hD=>?_⟩;refine bQ (xs:=jN rs) (fun i τ H'=>∃ v0 ys,τ = [v0,some (.ref a),some (.ref Dd),v2,v3,some (.int (iZ kvs))]/\aR H4 H'/\TabAt H' D ys/\ys.map (fun y=>Rs.mk y.q y.t y.b)=rs.take i/\∀ y∈ys,y.w=(Tb.Wt (bO xs) y.t y.b).fdiv (iZ kvs)) ⟨none,[],rfl,aH hD _,⟨aC,fun _ h=>nomatch h⟩,rfl,(fun _ h=>nomatch h)⟩ ?keep4 ?turn4 ?done4
 case keep4 =>
  rintro i τ H' hi ⟨v0,ys,rfl,hs,_⟩;exact bK.of (hs _ _ hR)
 case turn4 =>
  rintro i m v τ H' hm hi hv ⟨v0,ys,rfl,hs,hY,ey,yw⟩;obtain ⟨r,hr,rfl⟩:=vP hv;have hmem:=aLx hr;have hh:=(Cg pb dk (kin r hmem)).1;have rq:H' r.q=some (.tup [.int r.t,.int r.b]):=hs _ _ (rat r hmem);have ylen:ys.length<=1000:=by
   have h:=congrArg aMJ ey;rw [aLo,aLU] at h;omega
  unfold oO;refine dG ?_;refine ⟨_,rfl,_,rfl,_,rfl,Dd,.int (Tb.Wt (bO xs) r.t r.b),rfl,.inr ⟨kvs,[.inl r.t,.inl r.b],r.q,.inr ⟨o,hs _ _ hfz4⟩,rfl,rq,(dk.val hh).symm⟩,_,rfl,_,_,rfl,rfl,⟨aLT dpos,dbits⟩,qU,fun p hp=>?_⟩;have n1:=aH hp (.tup [.ref r.q,.int ((Tb.Wt (bO xs) r.t r.b).fdiv (iZ kvs))]);have hY1:=hY.same n1;refine bF hm hi hY1.lst (by rw [refs_length]; exact aU ylen) ⟨_,ys++[⟨p,r.q,r.t,r.b,(Tb.Wt (bO xs) r.t r.b).fdiv (iZ kvs)⟩],rfl,(hs.trans n1).upd_new hD _,⟨?_,?_⟩,?_,?_⟩
  ·rw [aC,lD]
  ·intro y hy;rcases aLO.mp hy with z | z
   ·exact (hY1.rows y z).over hY1.lst
   ·rw [aLy.mp z];exact iD.over ⟨aC,n1 _ _ rq⟩ hY1.lst
  ·rw [aLB,ey,take_snoc hr]
   rfl
  ·intro y hy;rcases aLO.mp hy with z | z
   ·exact yw y z
   ·rw [aLy.mp z]
 case done4 =>
  rintro τ H5 ⟨v0,ys,rfl,s5,hY,ey,yw⟩;rw [jA,aLG] at ey;obtain ⟨tab,wok⟩:=Tc dk hw1 hf1 pne pmk so ey yw;have yl:ys.length=rs.length:=by rw [<- ey,aLo]
  refine q D H5 ys (sT.trans (s5.toT)) (tb4.same s5) (sT.free hD tb4.at_) hY ⟨tab,wok⟩ (by omega)
theorem wM {n:Nat}{f:Addr}{fd:FuncData}(F:dW K "all_weights" "all_weights" (top 22) f fd)(Q_:mg "sum" = none):aY P w K mg base cZ (n+1) f fd ["table"] Ot:=by
 refine F.ok mX (fun vs H Q E h=>?_) (fun cdv A outer s H vs Q E hr h=>?_)
 ·obtain ⟨a,xs,rfl,_⟩:=h
  rfl
 obtain ⟨a,xs,rfl,hT,hl,q⟩:=h;have nd:=mX.nd;refine ⟨_,(aG (aV (aW (m7 rfl) rfl Q_ wJ (aA (cD (ls:=["worth","weight"]) (M:=["table"]) rfl (bM.of (by rfl)) (NL.of (by rfl)) (bL (pv 0)) (fun _ _ _ _=>⟨(fK (K:=K) (n:=2) rfl rfl (bG (aP (i:=0) (bY (by rfl)) rfl (Or.inl rfl)) (bG (aP (i:=1) (bY (by rfl)) rfl (Or.inl rfl)) dJ))),bV,(pv 1)⟩)) aD)))),?_⟩;have hlr:=refs_length xs;refine ⟨_,rfl,a,rfl,⟨_,bK.of hT.lst⟩,fun D hD=>?_⟩;refine bQ (xs:=refs xs) (fun i τ H'=>∃ v0 v1,τ = [v0,v1,some (.ref a)]/\aR H H'/\H' D=some (.lst ((xs.take i).map fun x=>V.int x.w))) ⟨none,none,rfl,aH hD _,aC⟩ ?keep ?turn ?done
 case keep =>
  rintro i τ H' hi ⟨v0,v1,rfl,hs,_⟩;exact bK.of (hT.same hs).lst
 case turn =>
  rintro i m v τ H' hm hi hv ⟨v0,v1,rfl,hs,hD'⟩;obtain ⟨x,hx,rfl⟩:=jB hv;have hr:=(hT.same hs).rows x (aLx hx);refine ⟨x.p,_,rfl,cY.of hr.1,rfl,_,_,rfl,_,_,rfl,rfl,?_⟩;refine dG ?_;refine ⟨_,rfl,?_⟩;refine bF hm hi hD' (by rw [aLo]; exact aU (aLv (aL8 _ _) (by omega))) ⟨_,_,rfl,hs.upd_new hD _,?_⟩;rw [aC,take_snoc hx,aLB]
  rfl
 case done =>
  rintro τ H' ⟨v0,v1,rfl,hs,hD'⟩;rw [hlr,aLG] at hD';refine ⟨D,xs.map Row.w,rfl,bK.of (by rw [hD',aL1]; rfl),?_⟩;exact q H' hs
end
end K51
namespace L2
open PySem PySem.Spec PyProof.Rows
structure aDL (K:PySem.W.Frag)(dT:Addr)(x qual:Str)(st:Stmt)(f:Addr)(fd:FuncData):Prop where
 ex:∃ (oc:Value) (od:Option Addr) (kV doc pm:Value) (an:Option Addr) (cdv ct:Value) (osl:Array (Option Value)),
  fd=PySem.W.fnOf x qual (jW st) (gY st) (aN st) (.ref dT) kV doc pm an cdv ct/\K.lookup f=some ⟨oc,od,.func fd,osl⟩/\PySem.W.codeIn K cdv qual=true
 kp:PySem.W.keepIn K (.ref f)=true
end L2
namespace K51
open PySem L2 TD
open Builtin.Int (intBits)
section
variable {P:Program}{w:World}{K:PySem.W.Frag}{mg:Str->Option Value}{base:Heap}{Pt:Addr}
theorem vL {n:Nat}{f:Addr}{fd:FuncData}(F:dW K "capped" "capped" (top 25) f fd){C_:Addr}{x_:FuncData}(D_:dF P w K mg base n "in_form" ["rows"] (rE Pt cT) C_ x_){aGW:Addr}{aCq:FuncData}(aGX:dF P w K mg base n "lesser" ["one","other"] (PK K) aGW aCq):aY P w K mg base cZ (n+1) f fd ["table","level"] (Sy Pt cT):=by
 refine F.ok yJ (fun vs H Q E h=>?_) (fun cdv A outer s H vs Q E hr h=>?_)
 ·obtain ⟨a,l,xs,x0,rfl,_⟩:=h
  rfl
 obtain ⟨a,l,xs,x0,rfl,hT,ne,l12,pb,hl,fl,lt,lb1,hTb,q⟩:=h;have nd:=yJ.nd;refine ⟨_,(aG (aV (aK D_ hr (aA (cD (ls:=["worth","weight"]) (M:=["table","level"]) rfl (bM.of (by rfl)) (NL.of (by rfl)) (bL (pv 0)) (fun _ _ _ _=>⟨(fK (K:=K) (n:=2) rfl rfl (bG (aP (i:=0) (bY (by rfl)) rfl (Or.inl rfl)) (bG (aP (i:=1) (bY (by rfl)) rfl (Or.inl rfl)) dJ))),bV,(dN (aA (aK aGX hr (aA (pv 0) (aA (pv 3) aD))) (aA (pv 1) aD)))⟩)) aD)))),?_⟩;obtain ⟨l0,l1⟩:=x0;have hl:H l=some (.tup [.int l0,.int l1]):=hl;have lb:intBits l1<=4000/\intBits l0<=4000:=⟨lb1,lt⟩
 have hlr:=refs_length xs;have glen:=l12;have ylen:∀ {i:Nat}{ys:List Row},bO ys=(bO (xs.take i)).map (Tb.iV l0 l1)->ys.length<=12:=fun {i ys} e=>by
  have h1:=congrArg aMJ e;rw [eO,aLo,eO,aLU] at h1;omega
 refine ⟨_,rfl,a,rfl,⟨_,bK.of hT.lst⟩,fun D hD=>?_⟩;refine bQ (xs:=refs xs) (fun i τ H'=>∃ v0 v1 ys,τ = [v0,v1,some (.ref a),some (.ref l)]/\aR H H'/\TabAt H' D ys/\bO ys=(bO (xs.take i)).map (Tb.iV l0 l1)) ⟨none,none,[],rfl,aH hD _,⟨aC,fun _ h=>nomatch h⟩,rfl⟩ ?keep ?turn ?done
 case keep =>
  rintro i τ H' hi ⟨v0,v1,ys,rfl,hs,_⟩;exact bK.of (hT.same hs).lst
 case turn =>
  rintro i m v τ H' hm hi hv ⟨v0,v1,ys,rfl,hs,hY,ey⟩;obtain ⟨x,hx,rfl⟩:=jB hv;have hmem:=aLx hx;have hr:=(hT.same hs).rows x hmem;have xz:intBits x.b<=4000/\intBits x.t<=4000:=⟨(pb x hmem).2.2.1,(pb x hmem).2.1⟩
  have yl:=ylen ey;refine ⟨x.p,_,rfl,cY.of hr.1,rfl,_,_,rfl,_,_,rfl,rfl,?_⟩;refine dG ?_;refine ⟨_,rfl,_,rfl,x.q,l,x.t,x.b,l0,l1,rfl,cY.of hr.2,cY.of (hs _ _ hl),⟨by omega,by omega,by omega,by omega⟩,fun c=>?_,fun c=>?_⟩
  ·
   refine ⟨_,rfl,qU,fun p hp=>?_⟩;have n1:=aH hp (.tup [.ref l,.int x.w]);have hY1:=hY.same n1;refine bF hm hi hY1.lst (by rw [refs_length]; exact aU (by omega)) ⟨_,_,ys++[⟨p,l,l0,l1,x.w⟩],rfl,(hs.trans n1).upd_new hD _,⟨?_,?_⟩,?_⟩
   ·rw [aC,lD]
   ·intro y hy;rcases aLO.mp hy with z | z
    ·exact (hY1.rows y z).over hY1.lst
    ·rw [aLy.mp z];exact iD.over ⟨aC,n1 _ _ (hs _ _ hl)⟩ hY1.lst
   ·rw [jT,ey,take_snoc hx,jT,aLB];show _++[_]=_++[Tb.iV l0 l1 x.r]
    unfold Tb.iV;rw [if_pos (show l0*x.r.b<x.r.t*l1 from c)]
    rfl
  ·
   refine ⟨_,rfl,qU,fun p hp=>?_⟩;have n1:=aH hp (.tup [.ref x.q,.int x.w]);have hY1:=hY.same n1;refine bF hm hi hY1.lst (by rw [refs_length]; exact aU (by omega)) ⟨_,_,ys++[⟨p,x.q,x.t,x.b,x.w⟩],rfl,(hs.trans n1).upd_new hD _,⟨?_,?_⟩,?_⟩
   ·rw [aC,lD]
   ·intro y hy;rcases aLO.mp hy with z | z
    ·exact (hY1.rows y z).over hY1.lst
    ·rw [aLy.mp z];exact iD.over ⟨aC,n1 _ _ hr.2⟩ hY1.lst
   ·rw [jT,ey,take_snoc hx,jT,aLB];show _++[_]=_++[Tb.iV l0 l1 x.r]
    unfold Tb.iV;rw [if_neg (show ¬ l0*x.r.b<x.r.t*l1 from c)]
    rfl
 case done =>
 rintro τ H1 ⟨v0,v1,ys,rfl,s1,hY,ey⟩;have yl:=ylen ey;rw [hlr,aLG] at ey;have el:ys.length=xs.length:=by
  have h1:=congrArg aMJ ey;rw [eO,aLo,eO] at h1;exact h1
 refine ⟨D,ys,rfl,hY,?_,by omega,Oj pb fl lt lb1 ey,hTb.same s1,fun r H5 zs s5 tb5 hr5 hZ o hzl=>?_⟩
 ·rintro rfl;exact ne (aNc.mp el.symm)
 ·rw [ey] at o;exact q r H5 zs ((s1.toT).trans s5) tb5 (s1.free hr5) hZ o (by omega)
theorem KZ {n:Nat}{f:Addr}{fd:FuncData}(F:dW K "capped" "capped" (top 25) f fd){C_:Addr}{x_:FuncData}(D_:dF P w K mg base n "in_form" ["rows"] (rE Pt cT) C_ x_){aGW:Addr}{aCq:FuncData}(aGX:dF P w K mg base n "lesser" ["one","other"] (PK K) aGW aCq):aY P w K mg base cZ (n+1) f fd ["table","level"] (MJ Pt cT):=(vL F D_ aGX).imp fun vs H Q E h=>by
 obtain ⟨a,l,xs,x0,n,W,M,kk,rfl,hT,g,c,hl,f,hTb,q⟩:=h;have lb:=uL f g.mp c.m c.k0 c.k;exact ⟨a,l,xs,x0,rfl,hT,g.ne,aLv g.len c.n,g.pb c,hl,f.fr,by omega,by omega,hTb,fun r H' ys s tb hr hY o hl'=>q r H' ys s tb hr hY (U8 g f o hl') o⟩
theorem Fp {n:Nat}{f:Addr}{fd:FuncData}(F:dW K "capped" "capped" (top 25) f fd){C_:Addr}{x_:FuncData}(D_:dF P w K mg base n "in_form" ["rows"] (rE Pt cT) C_ x_){aGW:Addr}{aCq:FuncData}(aGX:dF P w K mg base n "lesser" ["one","other"] (PK K) aGW aCq):aY P w K mg base cZ (n+1) f fd ["table","level"] (My Pt cT):=(vL F D_ aGX).imp fun vs H Q E h=>by
 obtain ⟨a,l,xs,lv,d,m,rfl,hT,gs,d4,m12,hl,lw,hTb,q⟩:=h;have cp:=tU d4 m12 gs.2;have lb:=Pr lw;exact ⟨a,l,xs,lv,rfl,hT,gs.1.ne,aLv gs.1.len cp.n,gs.1.pb cp,hl,lw.fr,by omega,by omega,hTb,fun r H' ys s tb hr hY o _=>q r H' ys s tb hr hY o⟩
theorem _root_.TD.GM.wz {es:List Ent}{k0:Nat}{W0 kk:Int}(g:GM es k0 W0 kk){e:Ent}(he:e∈es){y:Row}(hy:y∈e.ys):intBits y.w<=601:=by
 have ge:=g.g e he;have a:=ge.w1 y hy;have b:=jO ge.w1 hy;have c:=ge.ws;have d:=(g.c e he).w;have p1:(2:Int)^601=2*2^600:=by rw [aM2]; omega
 have q1:=Sd.bU 600;exact gO (by omega) (by omega)
theorem M7 {n:Nat}{f:Addr}{fd:FuncData}(F:dW K "mixed" "mixed" (top 26) f fd){C_:Addr}{x_:FuncData}(D_:dF P w K mg base n "in_form" ["rows"] (rE Pt cT) C_ x_){F_:Addr}{A_:FuncData}(z_:dF P w K mg base n "all_weights" ["table"] Ot F_ A_){q_:Addr}{m_:FuncData}(t_:dF P w K mg base n "common_multiple" ["numbers"] (QM K) q_ m_):aY P w K mg base cZ (n+1) f fd ["rows"] (LC Pt cT):=by
 refine F.ok Cq (fun vs H Q E h=>?_) (fun cdv A outer s H vs Q E hr h=>?_)
 ·obtain ⟨a,es,k0,W0,kk,rfl,_⟩:=h
  rfl
 obtain ⟨a,es,k0,W0,kk,rfl,hE,g,hTb,q⟩:=h;have nd:=Cq.nd;refine ⟨_,(aF (bC (i:=1) nd rfl (Or.inl rfl) (aK t_ hr (aA (cD (ls:=["weight","table"]) (M:=["rows","scale","parts","weight#","table#","factor"]) rfl (bM.of (by rfl)) (NL.of (by rfl)) (bL (pv 0)) (fun _ _ _ _=>⟨(fK (K:=K) (n:=2) rfl rfl (bG (aP (i:=0) (bY (by rfl)) rfl (Or.inl rfl)) (bG (aP (i:=1) (bY (by rfl)) rfl (Or.inl rfl)) dJ))),bV,(aK z_ hr (aA (pv 1) aD))⟩)) aD))) (aF (bC (i:=2) nd rfl (Or.inl rfl) (dM aD)) (aF (dB PassesOwn.never rfl (bL (pv 0)) (rK rfl (bG (aP (i:=3) nd rfl (Or.inl rfl)) (bG (aP (i:=4) nd rfl (Or.inl rfl)) dJ))) (aF (bC (i:=5) nd rfl (Or.inr rfl) (bA bZ (pv 3) (bA fU (pv 1) (aK z_ hr (aA (pv 4) aD))))) (aG (fL (lX PySem.F.plainAttrs_list PySem.F.slot_list_extend PySem.F.type_list_extend KN (pv 2) (aA (cD (ls:=["worth","inner"]) (M:=["rows","scale","parts","weight","table","factor"]) rfl (bM.of (by rfl)) (NL.of (by rfl)) (bL (pv 4)) (fun _ _ _ _=>⟨(fK (K:=K) (n:=2) rfl rfl (bG (aP (i:=0) (bY (by rfl)) rfl (Or.inl rfl)) (bG (aP (i:=1) (bY (by rfl)) rfl (Or.inl rfl)) dJ))),bV,(dN (aA (pv 0) (aA (bA bZ (pv 7) (pv 1)) aD)))⟩)) aD)))))) (aG (aV (aK D_ hr (aA (pv 2) aD))))))),?_⟩;have hlr:=pU es;have glen:=g.len;have tpos:∀ n∈cV es,0<n:=fun n hn=>(g.tp n hn).1;have tb:=g.tb;obtain ⟨Sp,_,Sz,Sdv⟩:=g.S;have k12:=g.k;have n12:=g.n;refine ⟨_,rfl,a,rfl,⟨_,bK.of hE.lst⟩,fun D hD=>?_⟩;refine bQ (xs:=pL es) (fun i τ H'=>∃ v0 v1,τ = [v0,v1,some (.ref a),none,none,none,none,none]/\aR H H'/\H' D=some (.lst ((es.take i).map fun e=>V.int (wsum e.ys)))) ⟨none,none,rfl,aH hD _,aC⟩ ?keep ?turn ?done
 case keep =>
  rintro i τ H' hi ⟨v0,v1,rfl,hs,_⟩;exact bK.of (hE.same hs).lst
 case turn =>
  rintro i m v τ H' hm hi hv ⟨v0,v1,rfl,hs,hD'⟩;obtain ⟨e,he,rfl⟩:=Cy hv;have hr:=(hE.same hs).ents e (aLx he);have ge:=g.g e (aLx he);refine ⟨e.p,_,rfl,cY.of hr.1,rfl,_,_,rfl,_,_,rfl,rfl,?_⟩;refine dG ?_;refine ⟨_,rfl,e.a,e.ys,rfl,hr.2,by have:=ge.len; omega,fun H2 s2=>?_⟩;refine bF hm hi (s2 _ _ hD') (by rw [aLo]; exact aU (aLv (aL8 _ _) (by omega))) ⟨_,_,rfl,(hs.trans s2).upd_new hD _,?_⟩;rw [aC,take_snoc he,aLB]
  rfl
 case done =>
 rintro τ H1 ⟨v0,v1,rfl,s1,hD1⟩;rw [hlr,aLG] at hD1;refine ⟨D,cV es,rfl,bK.of (by rw [hD1]; unfold cV; rw [aL1]; rfl),tpos,fun n hn=>aLv (tb.1 n hn) (by decide),aLv tb.2 (by decide),?_⟩;refine ⟨aLQ _,fun Rp hRp=>?_⟩;have hRn:H Rp=none:=s1.free hRp;have s2:=s1.upd_new hRn (.lst []);refine ⟨_,rfl,a,rfl,⟨_,bK.of (hE.same s2).lst⟩,?_⟩;refine fH (xs:=pL es) (fun i σ H'=>∃ v3 v4 v5 xs,σ = [some (.ref a),some (.int (dH (cV es))),some (.ref Rp),v3,v4,v5]/\aR H H'/\TabAt H' Rp xs/\bO xs=partsOf (dH (cV es)) (es.take i)/\PB xs/\xs.length<=i*k0) ⟨none,none,none,[],rfl,s2,⟨aC,fun _ h=>nomatch h⟩,rfl,(fun _ h=>nomatch h),by rw [Nat.zero_mul]; exact aLu _⟩ ?keep2 ?turn2 ?done2
 case keep2 =>
  rintro i σ H' hi ⟨v3,v4,v5,xs,rfl,hs,_⟩;exact bK.of (hE.same hs).lst
 case turn2 =>
  rintro i v σ H' hv ⟨v3,v4,v5,xs,rfl,hs,hX,ex,pb,xl⟩;obtain ⟨e,he,rfl⟩:=Cy hv;have hmem:=aLx he;have hi:=(aLE.mp he).1;have hr:=(hE.same hs).ents e hmem;have ge:=g.g e hmem;have gw:=g.w e hmem;have gl:=ge.len;have gs:=ge.tot;have tz:=tb.1 _ (aLr.mpr ⟨e,hmem,rfl⟩);have wz:intBits e.w<=64:=PySem.intBits_le_64 (by omega) (by omega);have fz:intBits (qY (dH (cV es)) e)<=64+2405:=PySem.intBits_mul_le wz (PySem.intBits_fdiv_le Sz);refine ⟨e.p,_,rfl,cY.of hr.1,rfl,_,_,rfl,_,_,rfl,rfl,?_⟩;refine ⟨_,rfl,_,rfl,_,rfl,e.a,e.ys,rfl,hr.2,by omega,fun H2 s2=>?_⟩;refine ⟨_,_,rfl,rfl,⟨by omega,aLv tz (by decide)⟩,_,_,rfl,rfl,eE (m:=64) (n:=2405) wz (PySem.intBits_fdiv_le Sz) (by decide),?_⟩;have hs2:=hs.trans s2;have hr2:=hr.2.same s2;refine ⟨_,rfl,.inl ⟨rfl,_,bK.of (hX.same s2).lst⟩,_,rfl,e.a,rfl,⟨_,bK.of hr2.lst⟩,fun D2 hD2=>?_⟩;refine bQ (xs:=refs e.ys) (fun j τ H''=>∃ v0 v1 zs,τ = [v0,v1,some (.ref a),some (.int (dH (cV es))),some (.ref Rp),some (.int e.w),some (.ref e.a),some (.int (qY (dH (cV es)) e))]/\aR H2 H''/\TabAt H'' D2 zs/\bO zs=(e.ys.take j).map (fun y=>⟨y.t,y.b,qY (dH (cV es)) e*y.w⟩)) ⟨none,none,[],rfl,aH hD2 _,⟨aC,fun _ h=>nomatch h⟩,rfl⟩ ?keep3 ?turn3 ?done3
  case keep3 =>
   rintro j τ H'' hj ⟨v0,v1,zs,rfl,hs3,_⟩;exact bK.of (hr2.same hs3).lst
  case turn3 =>
   rintro j m v τ H'' hm hj hv ⟨v0,v1,zs,rfl,hs3,hZ,ez⟩;obtain ⟨y,hy,rfl⟩:=jB hv;have hym:=aLx hy;have ry:=(hr2.same hs3).rows y hym;have yz:=g.wz hmem hym;have zl:zs.length<=12:=by
    have h:=congrArg aMJ ez;rw [eO,aLo,aLU] at h;omega
   refine ⟨y.p,_,rfl,cY.of ry.1,rfl,_,_,rfl,_,_,rfl,rfl,?_⟩;refine dG ?_;refine ⟨_,rfl,_,rfl,_,rfl,_,_,rfl,rfl,eE fz yz (by decide),qU,fun p hp=>?_⟩;have n1:=aH hp (.tup [.ref y.q,.int (qY (dH (cV es)) e*y.w)]);have hZ1:=hZ.same n1;refine bF hm hj hZ1.lst (by rw [refs_length]; exact aU (by omega)) ⟨_,_,zs++[⟨p,y.q,y.t,y.b,qY (dH (cV es)) e*y.w⟩],rfl,(hs3.trans n1).upd_new hD2 _,⟨?_,?_⟩,?_⟩
   ·rw [aC,lD]
   ·intro z hz;rcases aLO.mp hz with q1 | q1
    ·exact (hZ1.rows z q1).over hZ1.lst
    ·rw [aLy.mp q1];exact iD.over ⟨aC,n1 _ _ ry.2⟩ hZ1.lst
   ·rw [jT,ez,take_snoc hy,aLB]
    rfl
  case done3 =>
   rintro τ H3 ⟨v0,v1,zs,rfl,s3,hZ,ez⟩;rw [refs_length,aLG] at ez;have zl:zs.length=e.ys.length:=by
    have h:=congrArg aMJ ez;rw [eO,aLo] at h;exact h
   have hX3:=hX.same (s2.trans s3);have il:i*k0<=es.length*k0:=aMD _ (by omega);refine ⟨Rp,D2,refs xs,refs zs,rfl,rfl,hX3.lst,hZ.lst,by rw [refs_length,refs_length]; exact aLZ (aU (by omega)),?_⟩;have s4:aR H (aX H3 Rp (.lst (refs xs++refs zs))):=(hs2.trans s3).upd_new hRn _;refine ⟨_,_,_,xs++zs,rfl,s4,⟨?_,?_⟩,?_,?_,?_⟩
   ·rw [aC];unfold refs;rw [aLB]
   ·intro z hz;rcases aLO.mp hz with q1 | q1
    ·exact (hX3.rows z q1).over hX3.lst
    ·exact (hZ.rows z q1).over hX3.lst
   ·rw [Ge,ex,ez,take_snoc he,BV]
   ·intro z hz;rcases aLO.mp hz with q1 | q1
    ·exact pb z q1
    ·have m:z.r∈bO zs:=aLr.mpr ⟨z,q1,rfl⟩;rw [ez] at m;obtain ⟨y,hy,ey⟩:=aLr.mp m;have e1:y.t=z.t:=congrArg Tb.Rw.t ey;have e2:y.b=z.b:=congrArg Tb.Rw.b ey;have e3:qY (dH (cV es)) e*y.w=z.w:=congrArg Tb.Rw.w ey;rw [<- e1,<- e2,<- e3];exact g.pb hmem hy
   ·rw [aLP,aNM];omega
 case done2 =>
  rintro σ H4 ⟨v3,v4,v5,xs,rfl,s4,hX,ex,pb,xl⟩;rw [hlr,aLG] at ex;rw [hlr] at xl;refine ⟨_,rfl,Rp,xs,rfl,hX,?_,by omega,pb,hTb.same s4,fun r H5 ys s5 tb5 hr5 hY o hyl=>?_⟩
  ·rintro rfl;have ex:([]:List Tb.Rw)=partsOf (dH (cV es)) es:=ex;cases hes:es with
   | nil=>exact g.ne hes
   | cons e es' =>
    have ge:=g.g e (by rw [hes]; exact aLq);cases hys:e.ys with
    | nil=>exact ge.ne hys
    | cons y ys =>
     have z:Tb.j9 (partsOf (dH (cV es)) es) y.t y.b:=by
      rw [hes];exact Tb.lN.mpr (.inl ⟨⟨y.t,y.b,_⟩,aLr.mpr ⟨y,by rw [hys]; exact aLq,rfl⟩,rfl,rfl⟩)
     rw [<- ex] at z;exact Tb.nJ z
  ·rw [ex] at o;exact q r H5 ys ((s4.toT).trans s5) tb5 (s4.free hr5) hY (g.out o (by omega)) o (by rw [<- ex,eO]; exact hyl)
theorem Aw {n:Nat}{f:Addr}{fd:FuncData}(F:dW K "level_for" "level_for" (top 30) f fd){aID:Addr}{aH7:FuncData}(aIE:dF P w K mg base n "share" ["top","bottom"] uQ aID aH7){F_:Addr}{A_:FuncData}(z_:dF P w K mg base n "all_weights" ["table"] Ot F_ A_){q_:Addr}{m_:FuncData}(t_:dF P w K mg base n "common_multiple" ["numbers"] (QM K) q_ m_)(aHm:mg "reversed" = none):aY P w K mg base cZ (n+1) f fd ["table","price"] RG:=by
 refine F.ok qG (fun vs H Q E h=>?_) (fun cdv A outer s H vs Q E hr h=>?_)
 ·obtain ⟨a,xs,p,n,W,kk,rfl,_⟩:=h
  rfl
 obtain ⟨a,xs,p,n,W,kk,rfl,hT,g,c,so,p0,p9,q⟩:=h;have nd:=qG.nd;refine ⟨_,(aF (bC (i:=2) nd rfl (Or.inl rfl) (aK t_ hr (aA (cD (ls:=["worth","weight"]) (M:=["table","price","bottom","tops","weights","worth#","weight#","top"]) rfl (bM.of (by rfl)) (NL.of (by rfl)) (bL (pv 0)) (fun _ _ _ _=>⟨(fK (K:=K) (n:=2) rfl rfl (bG (aP (i:=0) (bY (by rfl)) rfl (Or.inl rfl)) (bG (aP (i:=1) (bY (by rfl)) rfl (Or.inl rfl)) dJ))),bV,(bT (jD (K:=K) rfl) (pv 0) aJ (fun _ _=>rfl))⟩)) aD))) (aF (bC (i:=3) nd rfl (Or.inl rfl) (bA bZ (bA bZ (Qq Mj (pv 1)) (aK z_ hr (aA (pv 0) aD))) (pv 2))) (aF (bC (i:=4) nd rfl (Or.inl rfl) aJ) (aF (dB PassesOwn.never rfl (SQ rfl aHm (aA (pv 0) aD)) (rK rfl (bG (aP (i:=5) nd rfl (Or.inl rfl)) (bG (aP (i:=6) nd rfl (Or.inl rfl)) dJ))) (aF (bC (i:=7) nd rfl (Or.inl rfl) (bA bZ (bT b7 (pv 5) aJ (fun _ _=>rfl)) (bA fU (pv 2) (bT b7 (pv 5) aJ (fun _ _=>rfl))))) (aF (cL (PW.pt (GQ (cQ zH (pv 4) aJ (cM _)) (Av (cQ mW (bA bZ (pv 7) (pv 4)) (pv 3) (cM _))))) (aG K7) bJ) (aF (bC (i:=3) nd rfl (Or.inl rfl) (bA gC (pv 3) (bA bZ (pv 6) (pv 7)))) (aG (bC (i:=4) nd rfl (Or.inl rfl) (bA gC (pv 4) (pv 6)))))))) (aG (aV (aK aIE hr (aA (pv 3) (aA (bA bZ (pv 4) (pv 2)) aD))))))))),?_⟩;have hlr:=refs_length xs;have hrl:=eO xs;have glen:=g.len;have gn:=c.n;have tab:=g.tab so;have wt1:=g.tot;have wt2:=g.ws;have wt3:=c.w;have lm:0<bN xs/\bN xs<=2^1600:=⟨g.mp,c.m⟩
 have p601:(2:Int)^601=2*2^600:=by rw [aM2]; omega
 have p600:=Sd.bU 600;have p1601:(2:Int)^1601=2*2^1600:=by rw [aM2]; omega
 have glz:intBits (bN xs)<=1601:=gO (by omega) (by omega);have wsz:∀ z:Int,0<=z->z<=wsum xs->intBits z<=601:=fun z h1 h2=>gO (by omega) (by omega);have nz:0<xs.length:=by
  rcases aNt xs.length with z | z
  ·exact absurd (aNc.mp z) g.ne
  ·exact z
 have b1:∀ x:Int,0<=x->x<=1000000000->intBits x<=64:=fun x h1 h2=>PySem.intBits_le_64 (by omega) (by omega);have bpos:∀ n∈xs.map Row.b,0<n:=fun n hn=>by
  obtain ⟨x,hx,rfl⟩:=aLr.mp hn;exact (g.fq x hx).fr.pos
 refine ⟨_,rfl,a,rfl,⟨_,bK.of hT.lst⟩,fun D hD=>?_⟩;refine bQ (xs:=refs xs) (fun i τ H'=>∃ v0 v1,τ = [v0,v1,some (.ref a),some (.int p),none,none,none,none,none,none]/\aR H H'/\H' D=some (.lst ((xs.take i).map fun x=>V.int x.b))) ⟨none,none,rfl,aH hD _,aC⟩ ?keep ?turn ?done
 case keep =>
  rintro i τ H' hi ⟨v0,v1,rfl,hs,_⟩;exact bK.of (hT.same hs).lst
 case turn =>
  rintro i m v τ H' hm hi hv ⟨v0,v1,rfl,hs,hD'⟩;obtain ⟨x,hx,rfl⟩:=jB hv;have hr:=(hT.same hs).rows x (aLx hx);refine ⟨x.p,_,rfl,cY.of hr.1,rfl,_,_,rfl,_,_,rfl,rfl,?_⟩;refine dG ?_;refine ⟨_,rfl,x.q,_,_,_,rfl,rfl,cY.of hr.2,rfl,?_⟩;refine bF hm hi hD' (by rw [aLo]; exact aU (aLv (aL8 _ _) (by omega))) ⟨_,_,rfl,hs.upd_new hD _,?_⟩;rw [aC,take_snoc hx,aLB]
  rfl
 case done =>
 rintro τ H1 ⟨v0,v1,rfl,s1,hD1⟩;rw [hlr,aLG] at hD1;have b9:∀ n∈xs.map Row.b,intBits n<=1601:=fun n hn=>by
  obtain ⟨x,hx,rfl⟩:=aLr.mp hn;exact (g.bits c hx).1
 have b10:((xs.map Row.b).map intBits).sum<=200000:=by
  have h:=lL (k:=1601) (l:=(xs.map Row.b).map intBits) fun n hn=>by
   obtain ⟨z,hz,rfl⟩:=aLr.mp hn;exact b9 z hz
  rw [aLo,aLo] at h;omega
 refine ⟨D,xs.map Row.b,rfl,bK.of (by rw [hD1,aL1]; rfl),bpos,fun n hn=>aLv (b9 n hn) (by decide),b10,?_⟩;have hT1:=hT.same s1;refine ⟨_,rfl,_,rfl,_,rfl,a,xs,rfl,hT1,by omega,fun H2 s2=>⟨_,_,rfl,rfl,eE (m:=64) (n:=601) (PySem.intBits_neg_le (b1 p p0 p9)) (wsz _ (by omega) (aL2 _)) (by decide),_,rfl,_,_,rfl,rfl,eE (m:=64+601) (n:=1601) (PySem.intBits_mul_le (PySem.intBits_neg_le (b1 p p0 p9)) (wsz _ (by omega) (aL2 _))) glz (by decide),?_⟩⟩;have hT2:=hT1.same s2;have gw2:=wt1;rw [jM] at gw2;have P0:0<=p*Tb.W (bO xs)*bN xs:=aMm (aMm p0 (by omega)) (aLA tab.cm.pos);have fin:∀ (i:Nat) (tops ws:Int) (v5 v6 v7:Option V),0<i->Tb.Lp (bN xs) (p*Tb.W (bO xs)*bN xs) (bO xs) i tops ws ->
   (i=(bO xs).length∨∃ r,(bO xs)[(bO xs).length-1-i]? = some r/\i<(bO xs).length/\Tb.T (bN xs) r*ws<=tops) ->
   Z9 (Ex uQ [] E0 (zB (J5 3) (zB (Zo (rI Lb fun i j=>.int (i*j)) (J5 4) (J5 2)) xJ))) { nx:=fun _ H'=>Q .non H',rt:=Q } [some (.ref a),some (.int p),some (.int (bN xs)),some (.int tops),some (.int ws),v5,v6,v7] H2:=by
  intro i tops ws v5 v6 v7 hi L stop;have wp:=L.ws_pos tab hi;obtain ⟨w0,wl,tlo,thi⟩:=g.lp c.k0 p0 L;have wz:=wsz ws w0 wl;have ne:ws*bN xs≠0:=aLT (aLY wp tab.cm.pos);refine ⟨_,rfl,_,rfl,_,rfl,_,_,rfl,rfl,eE wz glz (by decide),tops,ws*bN xs,rfl,ne,aLv (PySem.intBits_mul_le wz glz) (by decide),fun r H' s' hr'=>?_⟩;have kp:0<=(p+kk)*wsum xs:=aMm (by have:=c.k0; omega) (by omega);exact q r H' (Fr.sh tops (ws*bN xs)) ws ((s1.trans s2).trans s') hr' (by omega) wl (TY (by omega) lm.1 kp tlo thi) (L.ends tab hi stop (Fr.wI ne) (Fr.lJ tops (ws*bN xs)))
 refine ⟨_,rfl,a,refs xs,rfl,bK.of hT2.lst,?_⟩;refine Q8 (fun i σ H'=>∃ tops ws v5 v6 v7,σ = [some (.ref a),some (.int p),some (.int (bN xs)),some (.int tops),some (.int ws),v5,v6,v7]/\H'=H2/\Tb.Lp (bN xs) (p*Tb.W (bO xs)*bN xs) (bO xs) i tops ws) ?start (fun i σ H' _ ⟨_,_,_,_,_,_,e,_⟩=>by subst e; exact bK.of hT2.lst) ?turn2 ?done2
 case start =>
  refine ⟨_,_,none,none,none,rfl,rfl,?_⟩;have e:-p*wsum xs*bN xs = -(p*Tb.W (bO xs)*bN xs):=by rw [jM]; grind
  show Tb.Lp _ _ _ 0 (-p*wsum xs*bN xs) 0;rw [e];exact Tb.Lp.start P0
 case turn2 =>
  rintro i v σ H' hi hv ⟨tops,ws,v5,v6,v7,rfl,rfl,L⟩;obtain ⟨x,hx,rfl⟩:=jB hv;have hmem:=aLx hx;have hr:=hT2.rows x hmem;have xp:=(g.fq x hmem).fr.pos;have xbz:=g.bits c hmem;rw [hlr] at hi hx;have hx':(bO xs)[(bO xs).length-1-i]? = some x.r:=by rw [hrl]; unfold bO; rw [aLH,hx]; rfl
  have tT:x.t*(bN xs).fdiv x.b=Tb.T (bN xs) x.r:=by
   unfold Tb.T;rw [aMk _ (aLA xp)]
   rfl
  have tz:intBits (x.t*(bN xs).fdiv x.b)<=3201+1601:=PySem.intBits_mul_le xbz.2 (PySem.intBits_fdiv_le glz);obtain ⟨w0,wl,tlo,thi⟩:=g.lp c.k0 p0 L;have wz:=wsz ws w0 wl;have xw:=wsz x.w (by have:=g.w1 x hmem; omega) (jO g.w1 hmem);refine ⟨x.p,_,rfl,cY.of hr.1,rfl,_,_,rfl,_,_,rfl,rfl,?_⟩;refine ⟨_,rfl,x.q,_,_,_,rfl,rfl,cY.of hr.2,rfl,_,rfl,_,rfl,x.q,_,_,_,rfl,rfl,cY.of hr.2,rfl,_,_,rfl,rfl,⟨aLT xp,by omega⟩,_,_,rfl,rfl,eE xbz.2 (PySem.intBits_fdiv_le glz) (by decide),?_⟩;refine ⟨_,rfl,_,_,rfl,rfl,_,rfl,?_⟩;have go:¬ (0<ws/\Tb.T (bN xs) x.r*ws<=tops)->∃ tops' ws' v5 v6 v7,[some (V.ref a),some (.int p),some (.int (bN xs)),some (.int (tops+x.w*(x.t*(bN xs).fdiv x.b))),some (.int (ws+x.w)),some (.ref x.q),some (.int x.w),some (.int (x.t*(bN xs).fdiv x.b))]=[some (.ref a),some (.int p),some (.int (bN xs)),some (.int tops'),some (.int ws'),v5,v6,v7]/\H'=H'/\Tb.Lp (bN xs) (p*Tb.W (bO xs)*bN xs) (bO xs) (i+1) tops' ws':=fun h=>by
   have L2:=L.next tab P0 (by rw [hrl]; exact hi) hx' h;rw [<- tT] at L2;exact ⟨_,_,_,_,_,rfl,rfl,L2⟩
  by_cases hw:0<ws
  ·refine uR (decide_eq_true hw) ?_;refine ⟨_,rfl,_,rfl,_,_,rfl,rfl,eE tz wz (by decide),_,rfl,_,_,rfl,rfl,_,rfl,?_⟩
   by_cases hb:x.t*(bN xs).fdiv x.b*ws<=tops
   ·refine uR (decide_eq_true hb) ?_;have ip:0<i:=by
     rcases aNt i with z | z
     ·subst z;have a0:=L.ew;simp [Tb.W] at a0;omega
     ·exact z
    exact fin i tops ws _ _ _ ip L (.inr ⟨x.r,hx',by rw [hrl]; exact hi,by rw [<- tT]; exact hb⟩)
   ·refine uP (decide_eq_false hb) ?_;refine ⟨_,rfl,_,rfl,_,rfl,_,_,rfl,rfl,eE xw tz (by decide),_,_,rfl,rfl,?_⟩;refine ⟨_,rfl,_,rfl,_,_,rfl,rfl,?_⟩;exact go fun z=>hb (by rw [tT]; exact z.2)
  ·refine uP (decide_eq_false hw) ?_;refine dU ?_;refine ⟨_,rfl,_,rfl,_,rfl,_,_,rfl,rfl,eE xw tz (by decide),_,_,rfl,rfl,?_⟩;refine ⟨_,rfl,_,rfl,_,_,rfl,rfl,?_⟩;exact go fun z=>hw z.1
 case done2 =>
  rintro σ H' ⟨tops,ws,v5,v6,v7,rfl,rfl,L⟩;rw [hlr] at L;exact fin xs.length tops ws v5 v6 v7 nz L (.inl hrl.symm)
theorem xM {n:Nat}{f:Addr}{fd:FuncData}(F:dW K "ends" "Stand.ends" (inClass (top 37) 1) f fd){c:Cs}(ck:CK K c):aY P w K mg base cZ (n+1) f fd ["self"] (Ko c):=by
 refine F.ok oK (fun vs H Q E h=>?_) (fun cdv A outer s H vs Q E hr h=>?_)
 ·obtain ⟨x,s,d,m,rfl,_⟩:=h
  rfl
 obtain ⟨x,s,d,m,rfl,st,q⟩:=h;have nd:=oK.nd;refine ⟨_,(aG (aV (j7 (pv 0) rfl))),?_⟩;cases st with
 | en h vv ok=>exact ⟨_,rfl,x,c.e,_,_,_,rfl,h,ck.ce,ck.e1,rfl,q _ vv.n1 vv.nm vv.nx⟩
 | st h vv g lp ly row sub p0 p9 ne l4 w hk=>exact ⟨_,rfl,x,c.s,_,_,_,rfl,h,ck.cs,ck.s1,rfl,q _ vv.n1 vv.nm vv.nx⟩
theorem uA {n:Nat}{f:Addr}{fd:FuncData}(F:dW K "stages" "Stand.stages" (inClass (top 37) 2) f fd){c:Cs}(ck:CK K c):aY P w K mg base cZ (n+1) f fd ["self"] (K5 c):=by
 refine F.ok lW (fun vs H Q E h=>?_) (fun cdv A outer s H vs Q E hr h=>?_)
 ·obtain ⟨x,s,d,m,rfl,_⟩:=h
  rfl
 obtain ⟨x,s,d,m,rfl,st,q⟩:=h;have nd:=lW.nd;refine ⟨_,(aG (aV (j7 (pv 0) rfl))),?_⟩;cases st with
 | en h vv ok=>exact ⟨_,rfl,x,c.e,_,_,_,rfl,h,ck.ce,ck.e2,rfl,q _ vv.k0 vv.kd vv.kx⟩
 | st h vv g lp ly row sub p0 p9 ne l4 w hk=>exact ⟨_,rfl,x,c.s,_,_,_,rfl,h,ck.cs,ck.s2,rfl,q _ vv.k0 vv.kd vv.kx⟩
theorem xR {n:Nat}{f:Addr}{fd:FuncData}(F:dW K "caps" "Stand.caps" (inClass (top 37) 4) f fd){c:Cs}(ck:CK K c)(j_:mg "list" = none):aY P w K mg base cZ (n+1) f fd ["self"] (LK c):=by
 refine F.ok iM (fun vs H Q E h=>?_) (fun cdv A outer s H vs Q E hr h=>?_)
 ·obtain ⟨x,s,d,m,rfl,_⟩:=h
  rfl
 obtain ⟨x,s,d,m,rfl,st,q⟩:=h;have nd:=iM.nd;refine ⟨_,(aG (aV (cX pI rfl j_ jE (aA (j7 (pv 0) rfl) aD)))),?_⟩;cases st with
 | @en _ _ l cp v n' k' _ _ xs h vv ok =>
  refine ⟨_,rfl,x,c.e,_,_,_,rfl,h,ck.ce,ck.e4,rfl,?_⟩;refine ⟨cp,_,rfl,.inr (cY.of vv.caps.1),fun r hr0=>?_⟩;have n1:=aH hr0 (.lst (refs xs));exact q r _ xs n1 hr0 ⟨aC,fun y hy=>(vv.caps.2 y hy).same n1⟩ vv.gs vv.so ⟨_,vv.mt,vv.lw⟩
 | @st _ _ l cp r0 p n' k' lv _ _ j xs rs ps ys h vv g lp ly row sub p0 p9 ne l4 w hk =>
  refine ⟨_,rfl,x,c.s,_,_,_,rfl,h,ck.cs,ck.s4,rfl,?_⟩;refine ⟨cp,_,rfl,.inr (cY.of vv.caps.1),fun r hr0=>?_⟩;have n1:=aH hr0 (.lst (refs xs));exact q r _ xs n1 hr0 ⟨aC,fun y hy=>(vv.caps.2 y hy).same n1⟩ vv.gs vv.so ⟨_,vv.mt,vv.lw⟩
theorem qM {n:Nat}{f:Addr}{fd:FuncData}(F:dW K "__init__" "Stand.__init__" (inClass (top 37) 0) f fd){c:Cs}(ck:CK K c)(g_:mg "tuple" = none):aY P w K mg base cZ (n+1) f fd ["self","end_count","stage_count","level","cap_rows"] (MT c):=by
 refine F.ok jX (fun vs H Q E h=>?_) (fun cdv A outer s H vs Q E hr h=>?_)
 ·obtain ⟨x,dx,C,l,a,n1,k1,xs,rfl,_⟩:=h
  rfl
 obtain ⟨x,dx,C,l,a,n1,k1,xs,rfl,hC,hx,hT,q⟩:=h;have nd:=jX.nd;refine ⟨_,(aF (gB (pv 0) (pv 1) rfl) (aF (gB (pv 0) (pv 2) rfl) (aF (gB (pv 0) (pv 3) rfl) (aG (gB (pv 0) (cX (cO (K:=K) rfl) rfl g_ eX (aA (pv 4) aD)) rfl))))),?_⟩;have cC:tM K C/\cB K C "end_count"/\cB K C "stage_count"/\cB K C "level"/\cB K C "cap_rows":=by
  rcases hC with e | e <;> subst e
  ·exact ⟨ck.ce,ck.e1,ck.e2,ck.e3,ck.e4⟩
  ·exact ⟨ck.cs,ck.s1,ck.s2,ck.s3,ck.s4⟩
 have nax:a≠x:=cI hT.lst hx fun z=>nomatch z
 refine ⟨_,rfl,_,rfl,x,C,dx,[],rfl,hx,cC.1,cC.2.1,(by show _<1000; decide),?_⟩;refine ⟨_,rfl,_,rfl,x,C,dx,_,rfl,aC,cC.1,cC.2.2.1,(by show 1<1000; decide),?_⟩;refine ⟨_,rfl,_,rfl,x,C,dx,_,rfl,aC,cC.1,cC.2.2.2.1,(by show 2<1000; decide),?_⟩;refine ⟨_,rfl,a,_,rfl,.inl ⟨bK.of (by rw [aO nax,aO nax,aO nax]; exact hT.lst),fun t ht=>?_⟩⟩;have htx:t≠x:=fun e=>by rw [e,aC] at ht; cases ht
 refine ⟨_,rfl,x,C,dx,_,rfl,by rw [aO (Ne.symm htx)]; exact aC,cC.1,cC.2.2.2.2,(by show 3<1000; decide),?_⟩;rw [aO htx,aO htx,aO htx] at ht;refine q t _ ht (fun b o nb e=>?_) aC ?_
 ·rw [aO nb,aO (bB e ht),aO nb,aO nb,aO nb];exact e
 ·rw [aO htx];exact aC
theorem Ce {n:Nat}{f:Addr}{fd:FuncData}(F:dW K "is_whole" "is_whole" (top 9) f fd)(a_:mg "isinstance" = none)(aCQ:mg "bool" = none)(aHz:mg "int" = none):aY P w K mg base cZ (n+1) f fd ["thing","least","most"] rO:=by
 refine F.ok tE (fun vs H Q E h=>?_) (fun cdv A outer s H vs Q E hr h=>?_)
 ·obtain ⟨v,lo,hi,b,rfl,_⟩:=h
  rfl
 obtain ⟨v,lo,hi,b,rfl,h,q⟩:=h;have nd:=tE.nd;refine ⟨_,(aG (aV (qZ (aW (cU (T:="int")) rfl a_ bI (aA (pv 0) (aA (eF (v:=.ty "int") rfl aHz Fd rfl) aD))) (qZ (Gg (aW (cU (T:="bool")) rfl a_ bI (aA (pv 0) (aA (eF (v:=.ty "bool") rfl aCQ BP rfl) aD)))) (oZ (Nt mW mW (pv 1) (pv 0) (pv 2))))))),?_⟩;cases h with
 | no h =>
  obtain ⟨t,ht,hk⟩:=h K;refine ⟨_,rfl,_,_,_,rfl,ht,hk,_,rfl,?_⟩;exact dU q
 | bl c =>
  refine ⟨_,rfl,_,_,_,rfl,.bl c,Be,_,rfl,?_⟩;refine gA ?_;refine ⟨_,rfl,_,_,_,rfl,.bl c,fQ _,_,rfl,?_⟩;refine ⟨_,rfl,?_⟩;exact dU q
 | int i =>
  refine ⟨_,rfl,_,_,_,rfl,.int i,fQ _,_,rfl,?_⟩;refine gA ?_;refine ⟨_,rfl,_,_,_,rfl,.int i,Aq,_,rfl,?_⟩;refine ⟨_,rfl,?_⟩;refine gA ?_;refine ⟨_,rfl,_,rfl,_,_,rfl,rfl,_,rfl,?_⟩
  by_cases h1:lo<=i
  ·refine uR (decide_eq_true h1) ?_;refine ⟨_,rfl,_,_,rfl,rfl,?_⟩;rw [decide_eq_true h1] at q;exact q
  ·refine uP (decide_eq_false h1) ?_;rw [decide_eq_false h1] at q;exact q
theorem Ea {n:Nat}{f:Addr}{fd:FuncData}(F:dW K "is_stand" "is_stand" (top 40) f fd){c:Cs}(ck:CK K c)(ct:CT K c)(cn:CN K c)(aIz:mg "End" = some (.ref c.e))(aHb:mg "Stage" = some (.ref c.s))(a_:mg "isinstance" = none):aY P w K mg base cZ (n+1) f fd ["thing"] (Kw c K):=by
 refine F.ok tK (fun vs H Q E h=>?_) (fun cdv A outer s H vs Q E hr h=>?_)
 ·obtain ⟨v,b,rfl,_⟩:=h
  rfl
 obtain ⟨v,b,rfl,h,q⟩:=h;have nd:=tK.nd;refine ⟨_,(aG (aV (Lh (aW (gR (K:=K) rfl) rfl a_ bI (aA (pv 0) (aA (cN (v:=.ref c.e) rfl aIz rfl) aD))) (oZ (aW (gR (K:=K) rfl) rfl a_ bI (aA (pv 0) (aA (cN (v:=.ref c.s) rfl aHb rfl) aD))))))),?_⟩;cases h with
 | yes st =>
  cases st with
  | en h vv ok =>
   refine ⟨_,rfl,_,c.e,.ref c.e,true,rfl,.ins h ck.ce ct.ea ct.hn ct.htk ct.em,ct.ee,?_⟩;refine ⟨_,rfl,?_⟩;refine gA ?_;exact q
  | st h vv g lp ly row sub p0 p9 ne l4 w hk =>
   refine ⟨_,rfl,_,c.e,.ref c.s,false,rfl,.ins h ck.cs ct.sa ct.hn ct.htk ct.sm,ct.se,?_⟩;refine ⟨_,rfl,?_⟩;refine dU ?_;exact ⟨_,rfl,_,c.s,.ref c.s,true,rfl,.ins h ck.cs ct.sa ct.hn ct.htk ct.sm,ct.ss,q⟩
 | no h ht =>
  have z:=cn.all _ ht;refine ⟨_,rfl,_,c.e,_,false,rfl,h,z.1,?_⟩;refine ⟨_,rfl,?_⟩;refine dU ?_;exact ⟨_,rfl,_,c.s,_,false,rfl,h,z.2,q⟩
theorem uC {n:Nat}{f:Addr}{fd:FuncData}(F:dW K "is_stage_row" "is_stage_row" (top 41) f fd){c:Cs}{aHn:Addr}{aGY:FuncData}(aHo:dF P w K mg base n "is_stand" ["thing"] (Kw c K) aHn aGY){n_:Addr}{k_:FuncData}(o_:dF P w K mg base n "is_whole" ["thing","least","most"] rO n_ k_)(i_:mg "len" = none)(a_:mg "isinstance" = none)(g_:mg "tuple" = none){aHh:Value}(aBy:mg "MOST_WEIGHT" = some aHh)(aBR:RelV (.int 1000) aHh):aY P w K mg base cZ (n+1) f fd ["row"] (JN c K):=by
 refine F.ok mD (fun vs H Q E h=>?_) (fun cdv A outer s H vs Q E hr h=>?_)
 ·obtain ⟨v,b,rfl,_⟩:=h
  rfl
 obtain ⟨v,b,rfl,h,q⟩:=h;have nd:=mD.nd;refine ⟨_,(aF (cL (PW.pt (mU (cW (bW (aW (cU (T:="tuple")) rfl a_ bI (aA (pv 0) (aA (eF (v:=.ty "tuple") rfl g_ eX rfl) aD))))) (j8 (cQ Ng (aW cH rfl i_ iI (aA (pv 0) aD)) aJ (cM _))))) (aG (aV iH)) bJ) (aG (aV (qZ (aK o_ hr (aA (bT b7 (pv 0) aJ (fun _ _=>rfl)) (aA aJ (aA (cN (v:=.int 1000) rfl aBy aBR) aD)))) (oZ (aK aHo hr (aA (bT b7 (pv 0) aJ (fun _ _=>rfl)) aD))))))),?_⟩;cases h with
 | no ht hk =>
  refine ⟨_,rfl,_,_,_,rfl,ht,hk,_,rfl,?_⟩;exact gA (gA q)
 | @len a xs e hl =>
  refine ⟨_,rfl,_,_,_,rfl,.tup e,fQ _,_,rfl,?_⟩;refine dU ?_;refine ⟨_,rfl,a,_,rfl,.inr (cY.of e),rfl,_,rfl,?_⟩;refine uR ?_ q;rw [decide_eq_false (fun z=>hl (by injection z with z; omega))]
  rfl
 | @two a x y b1 b2 e hx hy =>
  refine ⟨_,rfl,_,_,_,rfl,.tup e,fQ _,_,rfl,?_⟩;refine dU ?_;refine ⟨_,rfl,a,_,rfl,.inr (cY.of e),rfl,_,rfl,?_⟩;refine dU ?_;refine ⟨_,rfl,a,_,_,_,rfl,rfl,cY.of e,rfl,x,1,1000,b1,rfl,hx,_,rfl,?_⟩;cases b1 with
  | false=>exact dU q
  | true =>
   refine gA ?_;exact ⟨_,rfl,a,_,_,_,rfl,rfl,cY.of e,rfl,y,b2,rfl,hy,q⟩
theorem rQ {n:Nat}{f:Addr}{fd:FuncData}(F:dW K "is_stage_rows" "is_stage_rows" (top 42) f fd){c:Cs}{aH8:Addr}{aHW:FuncData}(aH9:dF P w K mg base n "is_stage_row" ["row"] (JN c K) aH8 aHW)(aCr:mg "all" = none)(i_:mg "len" = none)(a_:mg "isinstance" = none)(j_:mg "list" = none){X_:Value}(J_:mg "MOST_STAGE_ROWS" = some X_)(K_:RelV (.int 4) X_):aY P w K mg base cZ (n+1) f fd ["rows"] (DW c K):=by
 refine F.ok lG (fun vs H Q E h=>?_) (fun cdv A outer s H vs Q E hr h=>?_)
 ·obtain ⟨v,b,rfl,_⟩:=h
  rfl
 obtain ⟨v,b,rfl,h,q⟩:=h;have nd:=lG.nd;refine ⟨_,(aF (cL (PW.pt (mU (cW (bW (aW (cU (T:="list")) rfl a_ bI (aA (pv 0) (aA (eF (v:=.ty "list") rfl j_ jE rfl) aD))))) (j8 (cW (vY mW mW aJ (aW cH rfl i_ iI (aA (pv 0) aD)) (cN (v:=.int 4) rfl J_ K_)))))) (aG (aV iH)) bJ) (aG (aV (aW (kO rfl rfl) rfl aCr wG (aA (cD (ls:=["row"]) (M:=["rows"]) rfl (bM.of (by rfl)) (NL.of (by rfl)) (bL (pv 0)) (fun _ _ _ _=>⟨(aP (i:=0) (bY (by rfl)) rfl (Or.inl rfl)),bV,(aK aH9 hr (aA (pv 0) aD))⟩)) aD))))),?_⟩;cases h with
 | no h =>
  obtain ⟨t,ht,hk⟩:=h K;refine ⟨_,rfl,_,_,_,rfl,ht,hk,_,rfl,?_⟩;exact gA (gA (q H (aR.refl _)))
 | @len a xs e hl =>
  refine ⟨_,rfl,_,_,_,rfl,.lst e,fQ _,_,rfl,?_⟩;refine dU ?_;refine ⟨_,rfl,a,_,rfl,.inl (bK.of e),_,_,rfl,rfl,_,rfl,?_⟩
  by_cases h1:1<=xs.length
  ·refine uR (decide_eq_true (show (1:Int)<=_ by omega)) ?_;refine ⟨_,_,rfl,rfl,_,rfl,?_⟩;refine uR ?_ (q H (aR.refl _));rw [decide_eq_false (show ¬ (xs.length:Int)<=4 by omega)]
   rfl
  ·refine uP (decide_eq_false (show ¬ (1:Int)<=_ by omega)) ?_;refine ⟨_,rfl,?_⟩;exact gA (q H (aR.refl _))
 | @all a xs bs e h1 h8 hb h =>
  refine ⟨_,rfl,_,_,_,rfl,.lst e,fQ _,_,rfl,?_⟩;refine dU ?_;refine ⟨_,rfl,a,_,rfl,.inl (bK.of e),_,_,rfl,rfl,_,rfl,?_⟩;refine uR (decide_eq_true (show (1:Int)<=_ by omega)) ?_;refine ⟨_,_,rfl,rfl,_,rfl,?_⟩;refine uP (by rw [decide_eq_true (show (xs.length:Int)<=4 by omega)]; rfl) ?_;refine ⟨_,rfl,a,rfl,⟨_,bK.of e⟩,fun D hD=>?_⟩;refine bQ (xs:=xs) (fun i τ H'=>∃ v0,τ = [v0,some (.ref a)]/\aR H H'/\H' D=some (.lst ((bs.take i).map V.bl))) ⟨none,rfl,aH hD _,aC⟩ ?keep ?turn ?done
  case keep =>
   rintro i τ H' hi ⟨v0,rfl,hs,_⟩;exact bK.of (hs _ _ e)
  case turn =>
   rintro i m v τ H' hm hi hv ⟨v0,rfl,hs,hD'⟩;have hib:i<bs.length:=by omega
   have eb:bs[i]? = some (bs.getD i false):=by rw [aLs hib,getD_at hib]
   refine wK ?_;refine ⟨_,rfl,v,bs.getD i false,rfl,(h i v hv).kt (aR.kt hs),?_⟩;refine bF hm hi hD' (by rw [aLo,aLU]; exact aU (by omega)) ⟨_,rfl,hs.upd_new hD _,?_⟩;rw [aC,take_snoc eb,aLB]
   rfl
  case done =>
   rintro τ H' ⟨v0,rfl,hs,hD'⟩;rw [<- hb,aLG] at hD';exact ⟨D,_,rfl,bK.of hD',q H' hs⟩
theorem yG {n:Nat}{f:Addr}{fd:FuncData}(F:dW K "need_boxes" "need_boxes" (top 43) f fd){c:Cs}{h_:Addr}(E_:mg "NoBox" = some (.ref h_))(Y_:xU K h_){aHn:Addr}{aGY:FuncData}(aHo:dF P w K mg base n "is_stand" ["thing"] (Kw c K) aHn aGY)(aCr:mg "all" = none)(i_:mg "len" = none)(a_:mg "isinstance" = none)(j_:mg "list" = none){e_:Value}(b_:mg "MOST_BOXES" = some e_)(d_:RelV (.int 6) e_):aY P w K mg base (uW P w) (n+1) f fd ["boxes"] (aBn c K h_):=by
 refine F.okX oF (fun vs H Q E h=>?_) (fun cdv A outer s H vs Q E hr h=>?_)
 ·obtain ⟨v,b,rfl,_⟩:=h
  rfl
 obtain ⟨v,b,rfl,h,qt,qf⟩:=h;have nd:=oF.nd;refine ⟨_,(aF (cL (PT.nox (PW.pt (mU (cW (bW (aW (cU (T:="list")) rfl a_ bI (aA (pv 0) (aA (eF (v:=.ty "list") rfl j_ jE rfl) aD))))) (j8 (cW (vY mW mW aJ (aW cH rfl i_ iI (aA (pv 0) aD)) (cN (v:=.int 6) rfl b_ d_))))))) (aG (lH jJ rfl rfl E_ Y_)) bJ) (aG (cL (PT.nox (cW (bW (aW (kO rfl rfl) rfl aCr wG (aA (cD (ls:=["box"]) (M:=["boxes"]) rfl (bM.of (by rfl)) (NL.of (by rfl)) (bL (pv 0)) (fun _ _ _ _=>⟨(aP (i:=0) (bY (by rfl)) rfl (Or.inl rfl)),bV,(aK aHo hr (aA (pv 0) aD))⟩)) aD)))) ) (aG (lH jJ rfl rfl E_ Y_)) bJ))),?_⟩;cases h with
 | no h =>
  obtain ⟨t,ht,hk⟩:=h K;refine ⟨_,rfl,_,_,_,rfl,ht,hk,_,rfl,?_⟩;exact gA (gA (qf rfl H (aR.refl _)))
 | @len a xs e hl =>
  refine ⟨_,rfl,_,_,_,rfl,.lst e,fQ _,_,rfl,?_⟩;refine dU ?_;refine ⟨_,rfl,a,_,rfl,.inl (bK.of e),_,_,rfl,rfl,_,rfl,?_⟩
  by_cases h1:1<=xs.length
  ·refine uR (decide_eq_true (show (1:Int)<=_ by omega)) ?_;refine ⟨_,_,rfl,rfl,_,rfl,?_⟩;refine uR ?_ (qf rfl H (aR.refl _));rw [decide_eq_false (show ¬ (xs.length:Int)<=6 by omega)]
   rfl
  ·refine uP (decide_eq_false (show ¬ (1:Int)<=_ by omega)) ?_;refine ⟨_,rfl,?_⟩;exact gA (qf rfl H (aR.refl _))
 | @all a xs bs e h1 h8 hb h =>
  refine ⟨_,rfl,_,_,_,rfl,.lst e,fQ _,_,rfl,?_⟩;refine dU ?_;refine ⟨_,rfl,a,_,rfl,.inl (bK.of e),_,_,rfl,rfl,_,rfl,?_⟩;refine uR (decide_eq_true (show (1:Int)<=_ by omega)) ?_;refine ⟨_,_,rfl,rfl,_,rfl,?_⟩;refine uP (by rw [decide_eq_true (show (xs.length:Int)<=6 by omega)]; rfl) ?_;refine ⟨_,rfl,a,rfl,⟨_,bK.of e⟩,fun D hD=>?_⟩;refine bQ (xs:=xs) (fun i τ H'=>∃ v0,τ = [v0,some (.ref a)]/\aR H H'/\H' D=some (.lst ((bs.take i).map V.bl))) ⟨none,rfl,aH hD _,aC⟩ ?keep ?turn ?done
  case keep =>
   rintro i τ H' hi ⟨v0,rfl,hs,_⟩;exact bK.of (hs _ _ e)
  case turn =>
   rintro i m v τ H' hm hi hv ⟨v0,rfl,hs,hD'⟩;have hib:i<bs.length:=by omega
   have eb:bs[i]? = some (bs.getD i false):=by rw [aLs hib,getD_at hib]
   refine wK ?_;refine ⟨_,rfl,v,bs.getD i false,rfl,(h i v hv).kt (aR.kt hs),?_⟩;refine bF hm hi hD' (by rw [aLo,aLU]; exact aU (by omega)) ⟨_,rfl,hs.upd_new hD _,?_⟩;rw [aC,take_snoc eb,aLB]
   rfl
  case done =>
   rintro τ H' ⟨v0,rfl,hs,hD'⟩;rw [<- hb,aLG] at hD';refine ⟨D,bs,rfl,bK.of hD',_,rfl,?_⟩;cases hbb:bs.all id with
   | true=>exact dU (qt hbb H' hs)
   | false=>exact gA (qf hbb H' hs)
theorem uG {n:Nat}{f:Addr}{fd:FuncData}(F:dW K "__init__" "End.__init__" (inClass (top 38) 0) f fd){c:Cs}(ck:CK K c){cSt fStI:Addr}{fdStI:FuncData}(aHc:mg "Stand" = some (.ref cSt))(aJO:QV K cSt "__init__" fStI)(aJ2:aY P w K mg base cZ n fStI fdStI ["self","end_count","stage_count","level","cap_rows"] (MT c))(aJ3:Binds K fdStI ["self","end_count","stage_count","level","cap_rows"] []){h_:Addr}(E_:mg "NoBox" = some (.ref h_))(Y_:xU K h_){aIF:Addr}{aIa:FuncData}(aH4:dF P w K mg base n "whole" ["number"] UV aIF aIa){n_:Addr}{k_:FuncData}(o_:dF P w K mg base n "is_whole" ["thing","least","most"] rO n_ k_){aHA:Value}(aDk:mg "MOST_WORTH" = some aHA)(aDv:RelV (.int 1000000000) aHA):aY P w K mg base (uW P w) (n+1) f fd ["self","worth"] (R9 c h_):=by
 refine F.okX lY (fun vs H Q E h=>?_) (fun cdv A outer s H vs Q E hr h=>?_)
 ·rcases h with ⟨x,dx,v,rfl,_⟩ | ⟨x,v,rfl,_⟩ <;> rfl
 have nd:=lY.nd;refine ⟨_,(aF (cL (PT.nox (cW (bW (aK o_ hr (aA (pv 1) (aA aJ (aA (cN (v:=.int 1000000000) rfl aDk aDv) aD))))))) (aG (lH jJ rfl rfl E_ Y_)) bJ) (CG.nox (aF (fL (IW rfl aHc aJO aJ2 hr aJ3 .nil c7 (aA (pv 0) (aA aJ (aA aJ (aA (aK aH4 hr (aA (pv 1) aD)) (aA (dM (aA (dN (aA (aK aH4 hr (aA (pv 1) aD)) (aA aJ aD))) aD)) aD))))))) (aG (gB (pv 0) (pv 1) rfl))))),?_⟩;rcases h with ⟨x,dx,v,rfl,hx,h0,h9,q⟩ | ⟨x,v,rfl,h,q⟩
 rotate_left
 ·refine ⟨_,rfl,v,0,1000000000,false,rfl,h,?_⟩;refine ⟨_,rfl,?_⟩;exact gA q
 refine ⟨_,rfl,.int v,0,1000000000,true,rfl,uT.yes h0 h9,?_⟩;refine ⟨_,rfl,?_⟩;refine dU ?_;refine ⟨_,rfl,_,rfl,v,rfl,fun l H1 s1 hl=>?_⟩;refine ⟨_,rfl,v,rfl,fun p H2 s2 hp=>?_⟩;refine ⟨qU,fun t ht=>?_⟩;refine ⟨U7,fun a ha=>?_⟩;have n3:=aH ht (.tup [.ref p,.int 1]);have n4:=aH ha (.lst [.ref t]);have s4:=((s1.trans s2).trans n3).trans n4;have hT:TabAt (aX (aX H2 t (.tup [.ref p,.int 1])) a (.lst [.ref t])) a [⟨t,p,v,1,1⟩]:=⟨aC,fun y hy=>by rw [aLy.mp hy]; exact ⟨n4 _ _ aC,(n3.trans n4) _ _ hp⟩⟩
 have hl4:=(s2.trans (n3.trans n4)) _ _ hl;generalize aX (aX H2 t (.tup [.ref p,.int 1])) a (.lst [.ref t])=H4 at n4 s4 hT hl4 ⊢;refine ⟨x,dx,c.e,l,a,1,0,_,rfl,.inl rfl,s4 _ _ hx,hT,fun cp H5 cn k5 hx5 hc5=>?_⟩;refine ⟨_,rfl,_,rfl,x,c.e,dx,_,rfl,hx5,ck.ce,ck.e5,(by show 4<1000; decide),?_⟩;have hx4:=s4 _ _ hx;have hu:∀ b o,b≠x->H4 b=some o->aX H5 x (.ins c.e dx (fE 1 0 l cp v)) b=some o:=fun b o nb e=>by rw [aO nb]; exact k5 b o nb e
 have tu:∀ b xs,H4 b=some (.tup xs)->aX H5 x (.ins c.e dx (fE 1 0 l cp v)) b=some (.tup xs):=fun b xs e=>hu b _ (cI e hx4 fun z=>nomatch z) e;refine q _ (fun b o nb e=>hu b o nb (s4 _ _ e)) fun d m hm=>?_;refine .en (dx:=dx) (l:=l) (cp:=cp) (n:=1) (k:=0) (xs:=[⟨t,p,v,1,1⟩]) aC ⟨tu _ _ hl4,⟨?_,fun y hy=>?_⟩,Rn h0 h9 hm,aNI _ _,by decide,by omega,by decide,by omega,Sd.aAx v d,UW h0 h9,rfl,rfl⟩ (.en h0 h9 hm)
 ·have:cp≠x:=fun e=>by rw [e,hx5] at hc5; cases hc5
  rw [aO this];exact hc5
 ·have:=hT.rows y hy;exact ⟨tu _ _ this.1,tu _ _ this.2⟩
theorem Hj {H:Hp}{D:Addr}{e:Ent}{zs:List V}{o:HO}(hD:H D=some (.lst zs))(n:e.a≠D)(h:zT H e):zT (aX H D o) e:=by
 refine ⟨?_,?_,fun x hx=>⟨?_,?_⟩⟩
 ·rw [aO (cI h.1 hD fun z=>nomatch z)]; exact h.1
 ·rw [aO n]; exact h.2.lst
 ·rw [aO (cI (h.2.rows x hx).1 hD fun z=>nomatch z)]; exact (h.2.rows x hx).1
 ·rw [aO (cI (h.2.rows x hx).2 hD fun z=>nomatch z)]; exact (h.2.rows x hx).2
theorem Ur {ns:List Int}(h:∀ n∈ns,1<=n/\True):(ns.length:Int)<=ns.sum:=by
 induction ns with
 | nil=>simp
 | cons n ns ih =>
  have a:=(h n aLq).1;have b:=ih fun m hm=>h m (aLp _ hm);rw [aLI,aL0]
  push_cast
  omega
theorem pN.good {c:Cs}{K:PySem.W.Frag}{H:Hp}{a:Addr}{ps ys:List Addr}{rs:List (Int×Sd.Sd)}{d:Nat}{j:Int×Sd.Sd->Nat}(g:Vj c H a ps ys rs d j):pN c K H (.ref a) true:=by
 have hl:(ps.map V.ref).length=rs.length:=by rw [aLo]; exact g.R.lp
 have h:=pN.all (c:=c) (K:=K) (bs:=aLX rs.length true) g.ha (by rw [hl]; exact aMG.mpr g.ne) (by rw [hl]; exact g.l4) (by rw [aMx,hl]) fun i v hv=>by
  obtain ⟨q1,y,t,_,_,er,rfl,h1,st,mem⟩:=g.R.at_ hv;have hi:=(aLE.mp er).1;have e:(aLX rs.length true).getD i false=true:=by simp [List.getD,hi]
  rw [e];exact z7.two h1 (uT.yes (g.ww t mem).1 (g.ww t mem).2) (.yes st)
 have e:(aLX rs.length true).all id=true:=by simp
 rw [e] at h;exact h
theorem pJ {n:Nat}{f:Addr}{fd:FuncData}(F:dW K "__init__" "Stage.__init__" (inClass (top 39) 0) f fd){c:Cs}(ck:CK K c){cSt fStI:Addr}{fdStI:FuncData}(aHc:mg "Stand" = some (.ref cSt))(aJO:QV K cSt "__init__" fStI)(aJ2:aY P w K mg base cZ n fStI fdStI ["self","end_count","stage_count","level","cap_rows"] (MT c))(aJ3:Binds K fdStI ["self","end_count","stage_count","level","cap_rows"] [])(cfE:tM K c.e)(cfS:tM K c.s){aJt:Addr}{aJK:FuncData}(aLe:fD K c.e "ends" aJt)(aLf:fD K c.s "ends" aJt)(aJ4:aY P w K mg base cZ n aJt aJK ["self"] (Ko c))(aJ5:Binds K aJK ["self"] []){aJu:Addr}{aJL:FuncData}(aLg:fD K c.e "stages" aJu)(aLh:fD K c.s "stages" aJu)(aJ6:aY P w K mg base cZ n aJu aJL ["self"] (K5 c))(aJ7:Binds K aJL ["self"] []){aHp:Addr}{aHB:FuncData}(aKT:fD K c.e "caps" aHp)(aKU:fD K c.s "caps" aHp)(aIb:aY P w K mg base cZ n aHp aHB ["self"] (LK c))(aIc:Binds K aHB ["self"] []){h_:Addr}(E_:mg "NoBox" = some (.ref h_))(Y_:xU K h_){aIe:Addr}{aHJ:FuncData}(aIf:dF P w K mg base n "capped" ["table","level"] (MJ Pt cT) aIe aHJ){aI1:Addr}{aIG:FuncData}(aI2:dF P w K mg base n "level_for" ["table","price"] RG aI1 aIG){aKy:Addr}{aJ8:FuncData}(aKz:dF P w K mg base n "mixed" ["rows"] (LC Pt cT) aKy aJ8){aHX:Addr}{aHK:FuncData}(aHY:dF P w K mg base n "is_stage_rows" ["rows"] (DW c K) aHX aHK){n_:Addr}{k_:FuncData}(o_:dF P w K mg base n "is_whole" ["thing","least","most"] rO n_ k_)(g_:mg "tuple" = none)(aHy:mg "max" = none)(Q_:mg "sum" = none){aHi:Value}(aBS:mg "MOST_STAGES" = some aHi)(aBT:RelV (.int 4) aHi){aHQ:Value}(aGZ:mg "MOST_ENDS" = some aHQ)(aG0:RelV (.int 12) aHQ){aHC:Value}(aEI:mg "MOST_PRICE" = some aHC)(aE2:RelV (.int 1000000000) aHC):aY P w K mg base (uW P w) (n+1) f fd ["self","price","rows"] (Qv c K h_ Pt cT):=by
 refine F.okX jY (fun vs H Q E h=>?_) (fun cdv A outer s H vs Q E hr h=>?_)
 ·rcases h with ⟨x,dx,a,p,ps,ys,rs,d,j,rfl,_⟩ | ⟨x,v,w,rfl,_⟩ <;> rfl
 have nd:=jY.nd;refine ⟨_,(aF (cL (PT.nox (PW.pt (mU (cW (bW (aK o_ hr (aA (pv 1) (aA aJ (aA (cN (v:=.int 1000000000) rfl aEI aE2) aD)))))) (j8 (cW (bW (aK aHY hr (aA (pv 2) aD)))))))) (aG (lH jJ rfl rfl E_ Y_)) bJ) (aF (PS.nox (bC (i:=3) nd rfl (Or.inl rfl) (aW (m7 rfl) rfl Q_ wJ (aA (cD (ls:=["weight","stand"]) (M:=["self","price","rows","end_count","stage_count","behind","level"]) rfl (bM.of (by rfl)) (NL.of (by rfl)) (bL (pv 2)) (fun _ _ _ _=>⟨(fK (K:=K) (n:=2) rfl rfl (bG (aP (i:=0) (bY (by rfl)) rfl (Or.inl rfl)) (bG (aP (i:=1) (bY (by rfl)) rfl (Or.inl rfl)) dJ))),bV,(nF (eZ (pv 1) cfE aLe aJ4 hr aJ5 .nil c7) (eZ (pv 1) cfS aLf aJ4 hr aJ5 .nil c7))⟩)) aD)))) (aF (PS.nox (bC (i:=4) nd rfl (Or.inl rfl) (bA gC aJ (aW (zG rfl) rfl aHy HY (aA (cD (ls:=["weight","stand"]) (M:=["self","price","rows","end_count","stage_count","behind","level"]) rfl (bM.of (by rfl)) (NL.of (by rfl)) (bL (pv 2)) (fun _ _ _ _=>⟨(fK (K:=K) (n:=2) rfl rfl (bG (aP (i:=0) (bY (by rfl)) rfl (Or.inl rfl)) (bG (aP (i:=1) (bY (by rfl)) rfl (Or.inl rfl)) dJ))),bV,(nF (eZ (pv 1) cfE aLg aJ6 hr aJ7 .nil c7) (eZ (pv 1) cfS aLh aJ6 hr aJ7 .nil c7))⟩)) aD))))) (aF (cL (PT.nox (PW.pt (mU (cQ zH (pv 3) (cN (v:=.int 12) rfl aGZ aG0) (cM _)) (j8 (cQ zH (pv 4) (cN (v:=.int 4) rfl aBS aBT) (cM _)))))) (aG (lH jJ rfl rfl E_ Y_)) bJ) (CG.nox (aF (bC (i:=5) nd rfl (Or.inl rfl) (aK aKz hr (aA (cD (ls:=["weight","stand"]) (M:=["self","price","rows","end_count","stage_count","behind","level"]) rfl (bM.of (by rfl)) (NL.of (by rfl)) (bL (pv 2)) (fun _ _ _ _=>⟨(fK (K:=K) (n:=2) rfl rfl (bG (aP (i:=0) (bY (by rfl)) rfl (Or.inl rfl)) (bG (aP (i:=1) (bY (by rfl)) rfl (Or.inl rfl)) dJ))),bV,(dN (aA (pv 0) (aA (nF (eZ (pv 1) cfE aKT aIb hr aIc .nil c7) (eZ (pv 1) cfS aKU aIb hr aIc .nil c7)) aD)))⟩)) aD))) (aF (bC (i:=6) nd rfl (Or.inl rfl) (aK aI2 hr (aA (pv 5) (aA (pv 1) aD)))) (aF (fL (IW rfl aHc aJO aJ2 hr aJ3 .nil c7 (aA (pv 0) (aA (pv 3) (aA (pv 4) (aA (pv 6) (aA (aK aIf hr (aA (pv 5) (aA (pv 6) aD))) aD))))))) (aF (gB (pv 0) (pv 1) rfl) (aG (gB (pv 0) (cX (cO (K:=K) rfl) rfl g_ eX (aA (pv 2) aD)) rfl))))))))))),?_⟩;rcases h with ⟨x,dx,a,p,ps,ys,rs,d,j,rfl,hx,g0,p0,p9,hq⟩ | ⟨x,v,u,rfl,h,q⟩
 rotate_left
 ·rcases h with h | ⟨h,h2⟩
  ·refine ⟨_,rfl,v,0,1000000000,false,rfl,h,?_⟩;refine ⟨_,rfl,?_⟩;exact gA (gA (q H (aR.refl _)))
  ·refine ⟨_,rfl,v,0,1000000000,true,rfl,h,?_⟩;refine ⟨_,rfl,?_⟩;refine dU ?_;refine ⟨_,rfl,u,false,rfl,h2,fun H1 s1=>?_⟩;refine ⟨_,rfl,?_⟩;exact gA (q H1 s1)
 have ha:=g0.ha;have R:=g0.R;have ne:=g0.ne;have l4:=g0.l4;have ww:=g0.ww;have hl:(ps.map V.ref).length=rs.length:=by rw [aLo]; exact R.lp
 have n1:1<=rs.length:=aMG.mpr ne;refine ⟨_,rfl,.int p,0,1000000000,true,rfl,uT.yes p0 p9,?_⟩;refine ⟨_,rfl,?_⟩;refine dU ?_;refine ⟨_,rfl,.ref a,true,rfl,pN.good g0,fun H1 s1=>?_⟩;refine ⟨_,rfl,?_⟩;refine dU ?_;have R1:=R.kp (aR.kp s1);have ha1:=s1 _ _ ha;refine ⟨_,rfl,a,rfl,⟨_,bK.of ha1⟩,fun D hD=>?_⟩;refine bQ (xs:=ps.map V.ref) (fun i τ H'=>∃ v0 v1 cs,τ = [v0,v1,some (.ref x),some (.int p),some (.ref a),none,none,none,none]/\aR H1 H'/\H' D=some (.lst (Is cs))/\cs=(rs.take i).map (fun t=>Sd.nE (d+1) t.2)/\∀ n∈cs,1<=n/\True) ⟨none,none,[],rfl,aH hD _,aC,rfl,fun _ h=>nomatch h⟩ ?keepA ?turnA ?doneA
 case keepA =>
  rintro i τ H' hi ⟨v0,v1,cs,rfl,hs,_⟩;exact bK.of (hs _ _ ha1)
 case turnA =>
  rintro i mm v τ H' hm hi hv ⟨v0,v1,cs,rfl,hs,hD',nl,hn⟩;obtain ⟨q1,y,t,_,_,er,rfl,h1,st,mem⟩:=R1.at_ hv;refine ⟨q1,_,rfl,cY.of (hs _ _ h1),rfl,_,_,rfl,_,_,rfl,rfl,?_⟩;refine dG ?_;refine Mw (st.same hs) (fun _ _ _ _ _=>rfl) (fun _ _ _ _ _ _=>rfl) (fun R h=>⟨_,rfl,h⟩) ?_;refine ⟨y,t.2,d,_,rfl,st.same hs,fun n n1 n2 n3=>?_⟩;refine bF hm hi hD' (by rw [cF,nl,aLo]; exact aU (aLv (aL8 _ _) (by rw [hl] at hi; omega))) ⟨_,_,cs++[n],rfl,hs.upd_new hD _,by rw [aC,j5],by rw [nl,take_snoc er,aLB,n3]; rfl,fun z hz=>?_⟩;rcases aLO.mp hz with u | u
  ·exact hn z u
  ·rw [aLy.mp u];exact ⟨n1,trivial⟩
 case doneA =>
 rintro τ H2 ⟨v0,v1,ns,rfl,s2,hD2,nl,hn⟩;have nx0:=nl;rw [hl,aLG] at nx0;have nl:ns.length=rs.length:=by rw [nx0,aLo]
 have sn:=Ur hn;refine ⟨D,ns,rfl,bK.of hD2,?_⟩;have R2:=R1.kp (aR.kp s2);have ha2:=s2 _ _ ha1;refine ⟨_,rfl,a,rfl,⟨_,bK.of ha2⟩,fun D2 hD2=>?_⟩;refine bQ (xs:=ps.map V.ref) (fun i τ H'=>∃ v0 v1 cs,τ = [v0,v1,some (.ref x),some (.int p),some (.ref a),some (.int ns.sum),none,none,none]/\aR H2 H'/\H' D2=some (.lst (Is cs))/\cs=(rs.take i).map (fun t=>Sd.nS (d+1) t.2)/\∀ n∈cs,0<=n/\n<=(d:Int)) ⟨none,none,[],rfl,aH hD2 _,aC,rfl,fun _ h=>nomatch h⟩ ?keepB ?turnB ?doneB
 case keepB =>
  rintro i τ H' hi ⟨v0,v1,cs,rfl,hs,_⟩;exact bK.of (hs _ _ ha2)
 case turnB =>
  rintro i mm v τ H' hm hi hv ⟨v0,v1,cs,rfl,hs,hD',nl,hn⟩;obtain ⟨q1,y,t,_,_,er,rfl,h1,st,mem⟩:=R2.at_ hv;refine ⟨q1,_,rfl,cY.of (hs _ _ h1),rfl,_,_,rfl,_,_,rfl,rfl,?_⟩;refine dG ?_;refine Mw (st.same hs) (fun _ _ _ _ _=>rfl) (fun _ _ _ _ _ _=>rfl) (fun R h=>⟨_,rfl,h⟩) ?_;refine ⟨y,t.2,d,_,rfl,st.same hs,fun n n1 n2 n3=>?_⟩;refine bF hm hi hD' (by rw [cF,nl,aLo]; exact aU (aLv (aL8 _ _) (by rw [hl] at hi; omega))) ⟨_,_,cs++[n],rfl,hs.upd_new hD2 _,by rw [aC,j5],by rw [nl,take_snoc er,aLB,n3]; rfl,fun z hz=>?_⟩;rcases aLO.mp hz with u | u
  ·exact hn z u
  ·rw [aLy.mp u];exact ⟨n1,n2⟩
 case doneB =>
 rintro τ H3 ⟨v0,v1,ms,rfl,s3,hD3,ml,hms⟩;have kx0:=ml;rw [hl,aLG] at kx0;have ml:ms.length=rs.length:=by rw [kx0,aLo]
 refine ⟨D2,ms,rfl,bK.of hD3,fun e=>by rw [e] at ml; have:(0:Nat)=rs.length:=ml; omega,fun mx hmx hmax=>?_⟩;have kx1:1+mx=Sd.nS (d+1+1) (.st p rs):=by rw [Sd.Uj (fun x hx=>(hms x hx).1) hmx hmax,kx0]; rfl
 have nx1:ns.sum=Sd.nE (d+1+1) (.st p rs):=by rw [nx0]; rfl
 have mb:=hms mx hmx;refine ⟨_,_,rfl,rfl,?_⟩;refine ⟨_,rfl,_,_,rfl,rfl,_,rfl,?_⟩;rcases hq with ⟨big,qE⟩ | ⟨m,hm,m12,d4,hTb,q⟩
 ·have Aj:=(s1.trans s2).trans s3
  by_cases h12:(12:Int)<ns.sum
  ·refine uR (decide_eq_true h12) ?_;refine gA ?_;exact qE _ Aj
  ·refine uP (decide_eq_false h12) ?_;refine ⟨_,rfl,_,_,rfl,rfl,_,rfl,?_⟩;refine uR (decide_eq_true (show (4:Int)<1+mx by omega)) ?_;exact qE _ Aj
 have okS:Sd.Ok (.st p rs) (d+1) m:=.st p0 p9 ne l4 ww (fun r hr=>by obtain ⟨i,y,a,b⟩:=Nh R.ly hr; exact (R.sub i y r a b).ok) hm;have jl:ns.sum<=(m:Int):=by have:=okS.nE (d+1+1) (aNj _); rw [nx0]; exact this
 refine uP (decide_eq_false (by omega)) ?_;refine ⟨_,rfl,_,_,rfl,rfl,_,rfl,?_⟩;refine uP (decide_eq_false (by omega)) ?_;have Aj:=(s1.trans s2).trans s3;have R3:=R2.kp (aR.kp s3);have ha3:=s3 _ _ ha2;refine ⟨_,rfl,a,rfl,⟨_,bK.of ha3⟩,fun D3 hD3n=>?_⟩;refine bQ (xs:=ps.map V.ref) (fun i τ H'=>∃ v0 v1 es,τ = [v0,v1,some (.ref x),some (.int p),some (.ref a),some (.int ns.sum),some (.int (1+mx)),none,none]/\aR H3 H'/\xB H' D3 es/\Sd.Al d es (rs.take i)/\Ae d j es (rs.take i)/\es.length=i/\∀ e∈es,e.a≠D3/\(1<=e.w/\e.w<=1000)) ⟨none,none,[],rfl,aH hD3n _,⟨aC,fun _ h=>nomatch h⟩,.nil,.nil,rfl,fun _ h=>nomatch h⟩ ?keepC ?turnC ?doneC
 case keepC =>
  rintro i τ H' hi ⟨v0,v1,es,rfl,hs,_⟩;exact bK.of (hs _ _ ha3)
 case turnC =>
  rintro i mm v τ H' hm' hi hv ⟨v0,v1,es,rfl,hs,hE,al,ae,el,he⟩;obtain ⟨q1,y,t,_,_,er,rfl,h1,st,mem⟩:=R3.at_ hv;refine ⟨q1,_,rfl,cY.of (hs _ _ h1),rfl,_,_,rfl,_,_,rfl,rfl,?_⟩;refine dG ?_;refine ⟨_,rfl,?_⟩;refine Mw (st.same hs) (fun _ _ _ _ _=>rfl) (fun _ _ _ _ _ _=>rfl) (fun R h=>⟨_,rfl,h⟩) ?_;refine ⟨y,t.2,d,_,rfl,st.same hs,fun r H4 xs s4 hr4 hT4 gs so ⟨lv4,mt4,_⟩=>?_⟩;refine ⟨qU,fun T hT=>?_⟩;have n5:=aH hT (.tup [.int t.1,.ref r]);have hE5:=(hE.same s4).same n5;have nr:r≠D3:=fun e=>by rw [e,hE.lst] at hr4; cases hr4
  refine bF hm' hi hE5.lst (by rw [pU]; exact aU (by rw [hl] at hi; omega)) ⟨_,_,es++[⟨T,t.1,r,xs⟩],rfl,((hs.trans s4).trans n5).upd_new hD3n _,⟨by rw [aC,GF],fun e h=>?_⟩,by rw [take_snoc er]; exact al.snoc rfl ⟨lv4,mt4⟩,by rw [take_snoc er]; exact ae.snoc gs,by rw [aLP,el]; rfl,fun e h=>?_⟩
  ·rcases aLO.mp h with u | u
   ·exact Hj hE5.lst (he e u).1 (hE5.ents e u)
   ·rw [aLy.mp u];exact Hj hE5.lst nr ⟨aC,hT4.same n5⟩
  ·rcases aLO.mp h with u | u
   ·exact he e u
   ·rw [aLy.mp u];exact ⟨nr,ww t mem⟩
 case doneC =>
 rintro τ H4 ⟨v0,v1,es,rfl,s4,hE,al,ae,el,he⟩;rw [hl,aLG] at al ae;rw [hl] at el;have ene:es≠[]:=fun e=>by rw [e] at el; have:(0:Nat)=rs.length:=el; omega
 have gall:=ae.all fun t ht=>aLv (Sd.Pu hm t ht) m12;have gm0:=Zn (show d<=4 by omega) ene (by omega) (fun e h=>(he e h).2) gall;have m1:1<=m:=okS.m1;have tb4:cA Pt cT d8 H4:=hTb.same (Aj.trans s4);refine ⟨D3,es,12,wB d 12,kK d,rfl,hE,gm0,tb4,fun B H5 xs s5 tb5 _ hB5 g5 o5 l5=>?_⟩;have Mx1:=aAf ae.b hm m1 (aLv l5 (ae.b.p _)) g5;refine ⟨_,rfl,_,rfl,B,xs,p,m,_,kK d,rfl,hB5,Mx1.g,Mx1.cp d4 m12,o5.tab.lt,p0,p9,fun lv H6 l u s6 hl6 u1 u2 f hLv=>?_⟩;have Lx1:=Vn Mx1 d4 m12 p0 p9 u1 u2 f;have tb6:=tb5.same s6;refine ⟨_,rfl,_,rfl,_,rfl,_,rfl,_,rfl,_,rfl,B,lv,xs,l,m,_,_,_,rfl,hB5.same s6,Lx1.g,Lx1.c,hl6,Lx1.f,tb6,fun cr H7 zs s7 tb7 _ hZ g7 o7=>?_⟩;have sT:bH Pt H H7:=((((Aj.trans s4).toT).trans s5).trans s6.toT).trans s7;have hx7:H7 x=some (.ins c.s dx []):=sT.get hTb hx fun _ z=>nomatch z
 have ha7:H7 a=some (.lst (ps.map V.ref)):=sT.get hTb ha fun _ z=>nomatch z
 have hl7:H7 lv=some (.tup [.int l.1,.int l.2]):=s7.get tb6 hl6 fun _ z=>nomatch z
 have nax:a≠x:=cI ha7 hx7 fun z=>nomatch z
 refine ⟨x,dx,c.s,lv,cr,ns.sum,1+mx,zs,rfl,.inr rfl,hx7,hZ,fun cp H8 cn k8 hx8 hc8=>?_⟩;have ncx:cp≠x:=fun e=>by rw [e,hx8] at hc8; cases hc8
 refine ⟨_,rfl,_,rfl,x,c.s,dx,_,rfl,hx8,ck.cs,ck.s5,(by show 4<1000; decide),?_⟩;refine ⟨_,rfl,a,_,rfl,.inl ⟨bK.of (by rw [aO nax]; exact k8 _ _ nax ha7),fun r hr0=>?_⟩⟩;have nrx:r≠x:=fun e=>by rw [e,aC] at hr0; cases hr0
 refine ⟨_,rfl,x,c.s,dx,_,rfl,by rw [aO (Ne.symm nrx)]; exact aC,ck.cs,ck.s6,(by show 5<1000; decide),?_⟩;rw [aO nrx] at hr0;have kx:∀ b o,b≠x->H8 b=some o->aX (aX (aX H8 x (.ins c.s dx (fJ "price" (.int p) (fB ns.sum (1+mx) lv cp)))) r (.tup (ps.map V.ref))) x (.ins c.s dx (fS ns.sum (1+mx) lv cp p r)) b=some o:=fun b o nb e=>by
  rw [aO nb,aO (bB e hr0),aO nb];exact e
 have hr9:aX (aX (aX H8 x (.ins c.s dx (fJ "price" (.int p) (fB ns.sum (1+mx) lv cp)))) r (.tup (ps.map V.ref))) x (.ins c.s dx (fS ns.sum (1+mx) lv cp p r)) r=some (.tup (ps.map V.ref)):=by rw [aO nrx]; exact aC
 have hx9:aX (aX (aX H8 x (.ins c.s dx (fJ "price" (.int p) (fB ns.sum (1+mx) lv cp)))) r (.tup (ps.map V.ref))) x (.ins c.s dx (fS ns.sum (1+mx) lv cp p r)) x=some (.ins c.s dx (fS ns.sum (1+mx) lv cp p r)):=aC;show Q .non (aX (aX (aX H8 x (.ins c.s dx (fJ "price" (.int p) (fB ns.sum (1+mx) lv cp)))) r (.tup (ps.map V.ref))) x (.ins c.s dx (fS ns.sum (1+mx) lv cp p r)));generalize aX (aX (aX H8 x (.ins c.s dx (fJ "price" (.int p) (fB ns.sum (1+mx) lv cp)))) r (.tup (ps.map V.ref))) x (.ins c.s dx (fS ns.sum (1+mx) lv cp p r))=HF at kx hr9 hx9 ⊢;have sX:DK x H7 HF:=fun b o nb e=>kx b o nb (k8 b o nb e);have kF:Kp H7 HF:=sX.kp hx7;have RF:=R.kp ((bH.kp sT hTb).trans kF);refine q HF (fun b o nb nP e=>sX b o nb (sT b o nP e)) (cA.sameX tb7 sX hx7) ?_;exact .st hx9 ⟨kF.tup hl7,⟨kx _ _ ncx hc8,fun y hy=>(hZ.rows y hy).kp kF⟩,aAX Lx1 g7,o7.tab.lt,by omega,by omega,by omega,by omega,Xi al gm0 (by have:=(Sd.o4 ne ww l4).1; omega) o5 Mx1.g Lx1.f.fr.pos hLv o7,Vz Lx1 d4 m12,nx1,kx1⟩ hr9 RF.lp RF.ly RF.row RF.sub p0 p9 ne l4 ww hm
theorem rZ {n:Nat}{f:Addr}{fd:FuncData}(F:dW K "how_many" "Case.how_many" (inClass (top 45) 1) f fd){c:Cs}{cC:Addr}(ca:K4 K c cC)(i_:mg "len" = none):aY P w K mg base cZ (n+1) f fd ["self"] (Kr c cC):=by
 refine F.ok lB (fun vs H Q E h=>?_) (fun cdv A outer s H vs Q E hr h=>?_)
 ·obtain ⟨x,q,rfl,_⟩:=h
  rfl
 obtain ⟨x,q,rfl,h,k⟩:=h;have nd:=lB.nd;refine ⟨_,(aG (aV (aW cH rfl i_ iI (aA (j7 (pv 0) rfl) aD)))),?_⟩;refine ⟨_,rfl,x,cC,_,_,_,rfl,h.hx,ca.cl,ca.np,rfl,q.tp,_,rfl,.inr (cY.of h.hp),?_⟩;rw [aLo];exact k
theorem rA {n:Nat}{f:Addr}{fd:FuncData}(F:dW K "need_box" "Case.need_box" (inClass (top 45) 2) f fd){c:Cs}{cC:Addr}(ca:K4 K c cC){l_:Addr}(aIg:mg "NoDeed" = some (.ref l_))(aJ9:xU K l_){aIh:Addr}{aG1:FuncData}(aJv:fD K cC "how_many" aIh)(aJw:aY P w K mg base cZ n aIh aG1 ["self"] (Kr c cC))(aJx:Binds K aG1 ["self"] []){n_:Addr}{k_:FuncData}(o_:dF P w K mg base n "is_whole" ["thing","least","most"] rO n_ k_):aY P w K mg base (uW P w) (n+1) f fd ["self","box"] (Ti c cC l_):=by
 refine F.okX lE (fun vs H Q E h=>?_) (fun cdv A outer s H vs Q E hr h=>?_)
 ·obtain ⟨x,v,q,b,rfl,_⟩:=h
  rfl
 have nd:=lE.nd;refine ⟨_,(aG (cL (PT.nox (cW (bW (aK o_ hr (aA (pv 1) (aA aJ (aA (bA mK (eZ (pv 0) ca.cl aJv aJw hr aJx .nil c7) aJ) aD))))))) (aG (lH jJ rfl rfl aIg aJ9)) bJ)),?_⟩;obtain ⟨x,v,q,b,rfl,h,iw,qt,qf⟩:=h;refine ⟨_,rfl,_,rfl,x,_,_,rfl,h.hx,rfl,x,q,rfl,h,_,_,rfl,rfl,v,0,(q.ys.length:Int)-1,b,rfl,iw,?_⟩;refine ⟨_,rfl,?_⟩;cases b with
 | true=>exact dU (qt rfl)
 | false=>exact gA (qf rfl)
theorem xV {n:Nat}{f:Addr}{fd:FuncData}(F:dW K "stand" "Case.stand" (inClass (top 45) 3) f fd){c:Cs}{cC:Addr}(ca:K4 K c cC){l_:Addr}{aKa:Addr}{aI3:FuncData}(aKV:fD K cC "need_box" aKa)(aKW:aY P w K mg base (uW P w) n aKa aI3 ["self","box"] (Ti c cC l_))(aKX:Binds K aI3 ["self","box"] []):aY P w K mg base (uW P w) (n+1) f fd ["self","box"] (Nf c cC l_):=by
 refine F.okX oR (fun vs H Q E h=>?_) (fun cdv A outer s H vs Q E hr h=>?_)
 ·obtain ⟨x,v,q,b,rfl,_⟩:=h
  rfl
 have nd:=oR.nd;refine ⟨_,(aF (fL (eG (pv 0) ca.cl aKV aKW hr aKX .nil rT (aA (pv 1) aD))) (aG (aV (bT b7 (j7 (pv 0) rfl) (pv 1) (fun _ _=>rfl))))),?_⟩;obtain ⟨x,v,q,b,rfl,h,iw,qt,qf⟩:=h;refine ⟨_,rfl,x,_,_,rfl,h.hx,rfl,_,rfl,x,v,q,b,rfl,h,iw,fun hb=>?_,fun hb=>qf hb⟩;subst hb;obtain ⟨i,rfl,i0,i9⟩:=iw.inv;obtain ⟨j,rfl⟩:∃ j:Nat,i=(j:Int):=⟨i.toNat,by omega⟩
 have n1:=h.n1;have el:=h.el;have hj:j<q.ys.length:=by omega
 refine ⟨_,rfl,x,cC,_,_,_,rfl,h.hx,ca.cl,ca.np,rfl,_,rfl,q.tp,_,_,_,rfl,rfl,cY.of h.hp,j6 (by rw [aLH,aLs hj]; rfl),qt j _ rfl (aLs hj)⟩
theorem CV {n:Nat}{f:Addr}{fd:FuncData}(F:dW K "cap" "Case.cap" (inClass (top 45) 4) f fd){c:Cs}{cC:Addr}(ca:K4 K c cC){l_:Addr}{aKa:Addr}{aI3:FuncData}(aKV:fD K cC "need_box" aKa)(aKW:aY P w K mg base (uW P w) n aKa aI3 ["self","box"] (Ti c cC l_))(aKX:Binds K aI3 ["self","box"] []):aY P w K mg base (uW P w) (n+1) f fd ["self","box"] (Oe c cC l_):=by
 refine F.okX tD (fun vs H Q E h=>?_) (fun cdv A outer s H vs Q E hr h=>?_)
 ·obtain ⟨x,v,q,b,rfl,_⟩:=h
  rfl
 have nd:=tD.nd;refine ⟨_,(aF (fL (eG (pv 0) ca.cl aKV aKW hr aKX .nil rT (aA (pv 1) aD))) (aG (aV (bT b7 (j7 (pv 0) rfl) (pv 1) (fun _ _=>rfl))))),?_⟩;obtain ⟨x,v,q,b,rfl,h,iw,qt,qf⟩:=h;refine ⟨_,rfl,x,_,_,rfl,h.hx,rfl,_,rfl,x,v,q,b,rfl,h,iw,fun hb=>?_,fun hb=>qf hb⟩;subst hb;obtain ⟨i,rfl,i0,i9⟩:=iw.inv;obtain ⟨j,rfl⟩:∃ j:Nat,i=(j:Int):=⟨i.toNat,by omega⟩
 have n1:=h.n1;have el:=h.el;have hj:j<q.ys.length:=by omega
 refine ⟨_,rfl,x,cC,_,_,_,rfl,h.hx,ca.cl,ca.nl,rfl,_,rfl,q.tl,_,_,_,rfl,rfl,cY.of h.hl,j6 (aLs (show j<q.ls.length by omega)),qt j _ rfl (aLs (show j<q.ls.length by omega))⟩
theorem rF {n:Nat}{f:Addr}{fd:FuncData}(F:dW K "__init__" "Case.__init__" (inClass (top 45) 0) f fd){c:Cs}{cC:Addr}(ca:K4 K c cC){h_:Addr}(E_:mg "NoBox" = some (.ref h_))(Y_:xU K h_){aIH:Addr}{aIr:FuncData}(aII:Ab P w K mg base n "need_boxes" ["boxes"] (aBn c K h_) aIH aIr)(g_:mg "tuple" = none):aY P w K mg base (uW P w) (n+1) f fd ["self","boxes"] (RT c cC K h_):=by
 refine F.okX kZ (fun vs H Q E h=>?_) (fun cdv A outer s H vs Q E hr h=>?_)
 ·rcases h with ⟨x,dx,a,ys,rfl,_⟩ | ⟨x,v,rfl,_⟩ <;> rfl
 have nd:=kZ.nd;refine ⟨_,(aF (fL (Nm aII hr rT (aA (pv 1) aD))) (CG.nox (aF (gB (pv 0) (cX (cO (K:=K) rfl) rfl g_ eX (aA (pv 1) aD)) rfl) (aF (gB (pv 0) (cX (cO (K:=K) rfl) rfl g_ eX (aA (cD (ls:=["box"]) (M:=["self","boxes"]) rfl (bM.of (by rfl)) (NL.of (by rfl)) (bL (pv 1)) (fun _ _ _ _=>⟨(aP (i:=0) (bY (by rfl)) rfl (Or.inl rfl)),bV,mV⟩)) aD)) rfl) (aF (gB (pv 0) (cX (cO (K:=K) rfl) rfl g_ eX (aA (cD (ls:=["box"]) (M:=["self","boxes"]) rfl (bM.of (by rfl)) (NL.of (by rfl)) (bL (pv 1)) (fun _ _ _ _=>⟨(aP (i:=0) (bY (by rfl)) rfl (Or.inl rfl)),bV,iH⟩)) aD)) rfl) (aF (gB (pv 0) aJ rfl) (aG (gB (pv 0) (dN aD) rfl)))))))),?_⟩;rcases h with ⟨x,dx,a,ys,rfl,hx,ha,n1,n6,hst,k⟩ | ⟨x,v,rfl,hb,qE⟩
 rotate_left
 ·exact ⟨_,rfl,v,false,rfl,hb,(fun z=>nomatch z),fun _ H' s=>qE H' s⟩
 have bx:Dt c K H (.ref a) true:=QL ha (fun v hv=>by
  obtain ⟨y,hy,rfl⟩:=aLr.mp hv;obtain ⟨s,d,m,st⟩:=hst y hy;exact .yes st) true (by rw [aLo,decide_eq_true (by omega),decide_eq_true (by omega)]; rfl)
 refine ⟨_,rfl,.ref a,true,rfl,bx,fun _ H1 s1=>?_,fun z=>nomatch z⟩;have ha1:=s1 _ _ ha;have hx1:=s1 _ _ hx;have nax:a≠x:=cI ha hx fun z=>nomatch z
 refine ⟨_,rfl,a,_,rfl,.inl ⟨bK.of ha1,fun tp htp=>?_⟩⟩;have np:=aH htp (.tup (ys.map V.ref));have ex:tp≠x:=fun z=>by rw [z,hx1] at htp; cases htp
 refine ⟨_,rfl,x,cC,dx,[],rfl,np _ _ hx1,ca.cl,ca.np,(by show 0<1000; decide),?_⟩;have k2:KX x H1 (aX (aX H1 tp (.tup (ys.map V.ref))) x (.ins cC dx (fJ "present" (.ref tp) []))):=(KX.of np).trans (KX.put _);have ep:aX (aX H1 tp (.tup (ys.map V.ref))) x (.ins cC dx (fJ "present" (.ref tp) [])) tp=some (.tup (ys.map V.ref)):=by rw [aO ex]; exact aC
 have hx2:aX (aX H1 tp (.tup (ys.map V.ref))) x (.ins cC dx (fJ "present" (.ref tp) [])) x=some (.ins cC dx [("present",.ref tp)]):=aC;generalize aX (aX H1 tp (.tup (ys.map V.ref))) x (.ins cC dx (fJ "present" (.ref tp) []))=H2 at k2 ep hx2 ⊢;refine ⟨_,rfl,a,rfl,⟨_,bK.of (k2 _ _ nax ha1)⟩,fun DL hDL=>?_⟩;refine bQ (xs:=ys.map V.ref) (fun i τ H'=>∃ v0,τ = [v0,some (.ref x),some (.ref a)]/\aR H2 H'/\H' DL=some (.lst (((ys.map fun _=>V.non)).take i))) ⟨none,rfl,aH hDL _,aC⟩ ?keepL ?turnL ?doneL
 case keepL =>
  rintro i τ H' hi ⟨v0,rfl,hs,_⟩;exact bK.of (hs _ _ (k2 _ _ nax ha1))
 case turnL =>
  rintro i m v τ H' hm hi hv ⟨v0,rfl,hs,hD'⟩;have hi':i<ys.length:=by rw [aLo] at hi; exact hi
  refine wK ?_;refine bF hm hi hD' (by rw [aLU,aLo]; exact aU (by omega)) ⟨_,rfl,hs.upd_new hDL _,?_⟩;rw [aC,take_snoc (x:=V.non) (by rw [aLH,aLs hi']; rfl)]
 case doneL =>
 rintro τ HL ⟨v0,rfl,hsL,hDL'⟩;rw [show (ys.map V.ref).length=(ys.map fun _=>V.non).length by rw [aLo,aLo],aLG] at hDL';refine ⟨DL,_,rfl,.inl ⟨bK.of hDL',fun tL htL=>?_⟩⟩;have nL:=aH htL (.tup (ys.map fun _=>V.non));have hx3:=(hsL.trans nL) _ _ hx2;have el:tL≠x:=fun z=>by rw [z,hsL _ _ hx2] at htL; cases htL
 refine ⟨_,rfl,x,cC,dx,_,rfl,hx3,ca.cl,ca.nl,(by show 1<1000; decide),?_⟩;have k4:KX x H2 (aX (aX HL tL (.tup (ys.map fun _=>V.non))) x (.ins cC dx (fJ "lowest" (.ref tL) [("present",.ref tp)]))):=(KX.of (hsL.trans nL)).trans (KX.put _);have eL:aX (aX HL tL (.tup (ys.map fun _=>V.non))) x (.ins cC dx (fJ "lowest" (.ref tL) [("present",.ref tp)])) tL=some (.tup (ys.map fun _=>V.non)):=by rw [aO el]; exact aC
 have hx4:aX (aX HL tL (.tup (ys.map fun _=>V.non))) x (.ins cC dx (fJ "lowest" (.ref tL) [("present",.ref tp)])) x=some (.ins cC dx [("present",.ref tp),("lowest",.ref tL)]):=aC;generalize aX (aX HL tL (.tup (ys.map fun _=>V.non))) x (.ins cC dx (fJ "lowest" (.ref tL) [("present",.ref tp)]))=H4 at k4 eL hx4 ⊢;refine ⟨_,rfl,a,rfl,⟨_,bK.of (k4 _ _ nax (k2 _ _ nax ha1))⟩,fun DQ hDQ=>?_⟩;refine bQ (xs:=ys.map V.ref) (fun i τ H'=>∃ v0,τ = [v0,some (.ref x),some (.ref a)]/\aR H4 H'/\H' DQ=some (.lst (((ys.map fun _=>V.bl false)).take i))) ⟨none,rfl,aH hDQ _,aC⟩ ?keepQ ?turnQ ?doneQ
 case keepQ =>
  rintro i τ H' hi ⟨v0,rfl,hs,_⟩;exact bK.of (hs _ _ (k4 _ _ nax (k2 _ _ nax ha1)))
 case turnQ =>
  rintro i m v τ H' hm hi hv ⟨v0,rfl,hs,hD'⟩;have hi':i<ys.length:=by rw [aLo] at hi; exact hi
  refine wK ?_;refine bF hm hi hD' (by rw [aLU,aLo]; exact aU (by omega)) ⟨_,rfl,hs.upd_new hDQ _,?_⟩;rw [aC,take_snoc (x:=V.bl false) (by rw [aLH,aLs hi']; rfl)]
 case doneQ =>
 rintro τ HQ ⟨v0,rfl,hsQ,hDQ'⟩;rw [show (ys.map V.ref).length=(ys.map fun _=>V.bl false).length by rw [aLo,aLo],aLG] at hDQ';refine ⟨DQ,_,rfl,.inl ⟨bK.of hDQ',fun tQ htQ=>?_⟩⟩;have nQ:=aH htQ (.tup (ys.map fun _=>V.bl false));have hx5:=(hsQ.trans nQ) _ _ hx4;have eq:tQ≠x:=fun z=>by rw [z,hsQ _ _ hx4] at htQ; cases htQ
 refine ⟨_,rfl,x,cC,dx,_,rfl,hx5,ca.cl,ca.nh,(by show 2<1000; decide),?_⟩;have k6:KX x H4 (aX (aX HQ tQ (.tup (ys.map fun _=>V.bl false))) x (.ins cC dx (fJ "held" (.ref tQ) [("present",.ref tp),("lowest",.ref tL)]))):=(KX.of (hsQ.trans nQ)).trans (KX.put _);have eQ:aX (aX HQ tQ (.tup (ys.map fun _=>V.bl false))) x (.ins cC dx (fJ "held" (.ref tQ) [("present",.ref tp),("lowest",.ref tL)])) tQ=some (.tup (ys.map fun _=>V.bl false)):=by rw [aO eq]; exact aC
 have hx6:aX (aX HQ tQ (.tup (ys.map fun _=>V.bl false))) x (.ins cC dx (fJ "held" (.ref tQ) [("present",.ref tp),("lowest",.ref tL)])) x=some (.ins cC dx [("present",.ref tp),("lowest",.ref tL),("held",.ref tQ)]):=aC;generalize aX (aX HQ tQ (.tup (ys.map fun _=>V.bl false))) x (.ins cC dx (fJ "held" (.ref tQ) [("present",.ref tp),("lowest",.ref tL)]))=H6 at k6 eQ hx6 ⊢;refine ⟨_,rfl,x,cC,dx,_,rfl,hx6,ca.cl,ca.ns,(by show 3<1000; decide),?_⟩;have k7:KX x H6 (aX H6 x (.ins cC dx (fJ "spent" (.int 0) [("present",.ref tp),("lowest",.ref tL),("held",.ref tQ)]))):=KX.put _;have hx7:aX H6 x (.ins cC dx (fJ "spent" (.int 0) [("present",.ref tp),("lowest",.ref tL),("held",.ref tQ)])) x=some (.ins cC dx [("present",.ref tp),("lowest",.ref tL),("held",.ref tQ),("spent",.int 0)]):=aC;generalize aX H6 x (.ins cC dx (fJ "spent" (.int 0) [("present",.ref tp),("lowest",.ref tL),("held",.ref tQ)]))=H7 at k7 hx7 ⊢;refine ⟨aLQ _,fun td htd=>?_⟩;have n8:=aH htd (.tup []);have ed:td≠x:=fun z=>by rw [z,hx7] at htd; cases htd
 refine ⟨_,rfl,x,cC,dx,_,rfl,n8 _ _ hx7,ca.cl,ca.nd,(by show 4<1000; decide),?_⟩;have k8:KX x H7 (aX (aX H7 td (.tup [])) x (.ins cC dx (fJ "done" (.ref td) [("present",.ref tp),("lowest",.ref tL),("held",.ref tQ),("spent",.int 0)]))):=(KX.of n8).trans (KX.put _);have kL:=k6.trans (k7.trans k8);refine k tp tL tQ td _ (((KX.of s1).trans k2).trans (k4.trans kL)) aC ((k4.trans kL) _ _ ex ep) (kL _ _ el eL) ((k7.trans k8) _ _ eq eQ) ?_;rw [aO ed];exact aC
section
variable {c:Cs}{H H':Hp}
theorem Q0 (kt:∀ b xs,H b=some (.tup xs)->H' b=some (.tup xs))(ki:∀ b C dx f fs,H b=some (.ins C dx (f::fs))->H' b=some (.ins C dx (f::fs))){ps ys:List Addr}{rs:List (Int×Sd.Sd)}{d:Nat}{j:Int×Sd.Sd->Nat}(h:vW c H ps ys rs d j):vW c H' ps ys rs d j :=
 ⟨h.lp,h.ly,fun i q y t a b e=>kt _ _ (h.row i q y t a b e),fun i y t a b=>JP kt ki (h.sub i y t a b)⟩
theorem qJ {α:Type}{l:List α}{x y:α}{i:Nat}(h:(l++[x])[i]? = some y):(i<l.length/\l[i]? = some y)∨(i=l.length/\y=x):=by
 by_cases hi:i<l.length
 ·exact .inl ⟨hi,by rwa [aMy hi] at h⟩
 ·have h2:=(aLE.mp h).1;rw [aLP,aNi] at h2;have e:i=l.length:=by omega
  subst e;rw [aMl (aLu _),aOd] at h;cases h;exact .inr ⟨rfl,rfl⟩
theorem Ph {ps ys:List Addr}{rs:List (Int×Sd.Sd)}{d:Nat}{j:Int×Sd.Sd->Nat}(h:vW c H ps ys rs d j){q y:Addr}{t:Int×Sd.Sd}(hq:H q=some (.tup [.int t.1,.ref y]))(hy:fW c H y t.2 d (j t)):vW c H (ps++[q]) (ys++[y]) (rs++[t]) d j:=by
 have l1:=h.lp;have l2:=h.ly;refine ⟨by simp [l1],by simp [l2],fun i q' y' t' a b c=>?_,fun i y' t' b c=>?_⟩
 ·rcases qJ a with ⟨i1,a⟩ | ⟨i1,rfl⟩ <;> rcases qJ b with ⟨i2,b⟩ | ⟨i2,rfl⟩ <;> rcases qJ c with ⟨i3,c⟩ | ⟨i3,rfl⟩
  ·exact h.row i _ _ _ a b c
  all_goals first | exact hq | (exfalso; omega)
 ·rcases qJ b with ⟨i2,b⟩ | ⟨i2,rfl⟩ <;> rcases qJ c with ⟨i3,c⟩ | ⟨i3,rfl⟩
  ·exact h.sub i _ _ b c
  all_goals first | exact hy | (exfalso; omega)
theorem Ks {ps ys:List Addr}{rs:List (Int×Sd.Sd)}(lp:ps.length=rs.length)(ly:ys.length=rs.length)(row:∀ (i:Nat) q y t,ps[i]? = some q->ys[i]? = some y->rs[i]? = some t->H q=some (.tup [.int t.1,.ref y]))(sub:∀ (i:Nat) y t,ys[i]? = some y->rs[i]? = some t->kJ H y t.2)
  {i:Nat}{v:V} (hv:(ps.map V.ref)[i]? = some v):∃ q y t,rs[i]? = some t/\v=.ref q/\H q=some (.tup [.int t.1,.ref y])/\kJ H y t.2/\t∈rs:=by
 rw [aLH] at hv;cases e:ps[i]? with
 | none=>rw [e] at hv; cases hv
 | some q =>
  rw [e] at hv;cases hv;have hi:=(aLE.mp e).1;have ey:ys[i]? = some (ys[i]'(by omega)):=aLs _;have er:rs[i]? = some (rs[i]'(by omega)):=aLs _;exact ⟨q,_,_,er,rfl,row i q _ _ e ey er,sub i _ _ ey er,aLx er⟩
end
structure yD (H:Hp)(ps ys:List Addr)(rs:List (Int×Sd.Sd)):Prop where
 lp:ps.length=rs.length
 ly:ys.length=rs.length
 row:∀ (i:Nat) q y t,ps[i]? = some q->ys[i]? = some y->rs[i]? = some t->H q=some (.tup [.int t.1,.ref y])
 sub:∀ (i:Nat) y t,ys[i]? = some y->rs[i]? = some t->kJ H y t.2
theorem yD.keep {H H':Hp}{ps ys:List Addr}{rs:List (Int×Sd.Sd)}(h:yD H ps ys rs)(k:∀ b xs,H b=some (.tup xs)->H' b=some (.tup xs)):yD H' ps ys rs :=
 ⟨h.lp,h.ly,fun i q y t a b c=>k _ _ (h.row i q y t a b c),fun i y t a b=>(h.sub i y t a b).keep k⟩
theorem yD.same {H H':Hp}{ps ys:List Addr}{rs:List (Int×Sd.Sd)}(s:aR H H')(h:yD H ps ys rs):yD H' ps ys rs:=h.keep fun b xs e=>s _ _ e
theorem mL {α:Type}{l:List α}{x y:α}{i:Nat}(h:(l++[x])[i]? = some y):(i<l.length/\l[i]? = some y)∨(i=l.length/\y=x):=by
 by_cases hi:i<l.length
 ·exact .inl ⟨hi,by rwa [aMy hi] at h⟩
 ·have h2:=(aLE.mp h).1;rw [aLP,aNi] at h2;have e:i=l.length:=by omega
  subst e;rw [aMl (aLu _),aOd] at h;cases h;exact .inr ⟨rfl,rfl⟩
theorem yD.snoc {H:Hp}{ps ys:List Addr}{rs:List (Int×Sd.Sd)}(h:yD H ps ys rs){q y:Addr}{t:Int×Sd.Sd}(hq:H q=some (.tup [.int t.1,.ref y]))(hy:kJ H y t.2):yD H (ps++[q]) (ys++[y]) (rs++[t]):=by
 have l1:=h.lp;have l2:=h.ly;refine ⟨by simp [l1],by simp [l2],fun i q' y' t' a b c=>?_,fun i y' t' b c=>?_⟩
 ·rcases mL a with ⟨i1,a⟩ | ⟨i1,rfl⟩ <;> rcases mL b with ⟨i2,b⟩ | ⟨i2,rfl⟩ <;> rcases mL c with ⟨i3,c⟩ | ⟨i3,rfl⟩
  ·exact h.row i _ _ _ a b c
  all_goals first | exact hq | (exfalso; omega)
 ·rcases mL b with ⟨i2,b⟩ | ⟨i2,rfl⟩ <;> rcases mL c with ⟨i3,c⟩ | ⟨i3,rfl⟩
  ·exact h.sub i _ _ b c
  all_goals first | exact hy | (exfalso; omega)
theorem m9 (x:Int){m:Int}(h:0<m):0<=x%m/\x%m<m:=⟨aNQ x (aLT h),aNv x h⟩
theorem Tu {n:Nat}(h:0<n):seqIndex? 0 n=some 0:=by
 have e:Rb n 0=some 0:=by
  unfold Rb;rw [if_pos (by decide),if_pos (by omega)]
  rfl
 exact (JQ e).1
theorem V7 {c A S:Prop}[Decidable c](h:S)(k:S->A):if c then A else S:=GK (fun _=>k h) (fun _=>h)
theorem at2 {α:Type}(x y:α)(c:Int):∃ v,Hq [x,y] (c%2)=some v/\(v=x∨v=y):=by
 have h:=m9 c (show (0:Int)<2 by decide);rcases (by omega:c%2=0∨c%2=1) with z | z
 ·exact ⟨x,by rw [z]; rfl,.inl rfl⟩
 ·exact ⟨y,by rw [z]; rfl,.inr rfl⟩
theorem yF {n:Nat}{f:Addr}{fd:FuncData}(F:dW K "_law_stand" "_law_stand" (top 91) f fd){n0:Nat}{c:Cs}{h_ iE iS:Addr}{dE dS:FuncData}{kE kS:Nat}(aK9:Mk K c.e iE)(aLa:aY P w K mg base (uW P w) kE iE dE ["self","worth"] (R9 c h_))(aLb:Binds K dE ["self","worth"] [])(aIz:mg "End" = some (.ref c.e))(aKY:kE+1<=n)(aKA:Mk K c.s iS)(aKB:aY P w K mg base (uW P w) kS iS dS ["self","price","rows"] (Qv c K h_ Pt cT))(aKC:Binds K dS ["self","price","rows"] [])(aHb:mg "Stage" = some (.ref c.s))(aKb:kS+1<=n){aFu:Addr}{aBU:FuncData}(aFB:dF P w K mg base n "_law_stand" ["_law_told"] (Ov c Pt cT n0) aFu aBU):aY P w K mg base cZ (n+1) f fd ["_law_told"] (Ov c Pt cT (n0+1)):=by
 refine F.ok oM (fun vs H Q E h=>?_) (fun cdv A outer s H vs Q E hr h=>?_)
 ·obtain ⟨a,s,d,m,rfl,_⟩:=h
  rfl
 obtain ⟨a,s,d,m,rfl,to,ok,dn,d4,m12,hTb,q⟩:=h;have nd:=oM.nd;refine ⟨_,(aF (cL (cQ uY (bT b7 (pv 0) aJ (fun _ _=>rfl)) oY (cM _)) (aG (aV (gG aK9 aLa (hr.mono aKY) rfl aIz aLb .nil xD (aA (bT b7 (pv 0) aJ (fun _ _=>rfl)) aD)))) bJ) (aG (aV (gG aKA aKB (hr.mono aKb) rfl aHb aKC .nil xD (aA (bT b7 (pv 0) aJ (fun _ _=>rfl)) (aA (cD (ls:=["_law_weight","_law_part"]) (M:=["_law_told"]) rfl (bM.of (by rfl)) (NL.of (by rfl)) (wZ (bT b7 (pv 0) aJ (fun _ _=>rfl))) (fun _ _ _ _=>⟨(fK (K:=K) (n:=2) rfl rfl (bG (aP (i:=0) (bY (by rfl)) rfl (Or.inl rfl)) (bG (aP (i:=1) (bY (by rfl)) rfl (Or.inl rfl)) dJ))),bV,(dN (aA (pv 0) (aA (aK aFB hr (aA (pv 1) aD)) aD)))⟩)) aD)))))),?_⟩;cases to with
 | @en _ v h =>
  cases ok with
  | en h0 h9 hm =>
  refine ⟨_,rfl,a,_,_,_,rfl,rfl,cY.of h,rfl,rfl,_,rfl,?_⟩;refine gA ?_;refine ⟨_,rfl,a,_,_,_,rfl,rfl,cY.of h,rfl,?_⟩;intro x dx hx hdx ndx;have nO:aR H (aX (aX H dx (.own x)) x (.ins c.e dx [])):=(aH hdx (.own x)).trans (aH (by rw [aO (Ne.symm ndx)]; exact hx) _);refine .inl ⟨x,dx,v,rfl,aC,h0,h9,fun H' k5 st=>⟨rfl,?_⟩⟩;have sX:DK x (aX (aX H dx (.own x)) x (.ins c.e dx [])) H':=k5;exact q x H' (fun b o _ e=>k5 b o (bB e hx) (nO _ _ e)) (cA.sameX (hTb.same nO) sX aC) (st d m hm)
 | @st _ r p rs ps ys h g lp ly row sub =>
  cases ok with
  | @st _ _ d _ j h0 h9 ne l4 ww oks hk =>
  have hlr:(ps.map V.ref).length=rs.length:=by rw [aLo]; exact lp
  refine ⟨_,rfl,a,_,_,_,rfl,rfl,cY.of h,rfl,rfl,_,rfl,?_⟩;refine dU ?_;refine ⟨_,rfl,a,_,_,_,rfl,rfl,cY.of h,rfl,?_⟩;refine ⟨_,rfl,a,_,_,_,rfl,rfl,cY.of h,rfl,r,rfl,⟨_,cY.of g⟩,fun D hD=>?_⟩;refine DY (xs:=ps.map V.ref) (fun i τ H'=>∃ v0 v1 qs zs,τ = [v0,v1,some (.ref a)]/\bH Pt H H'/\cA Pt cT d8 H'/\H' D=some (.lst (qs.map V.ref))/\vW c H' qs zs (rs.take i) d j) ⟨none,none,[],[],rfl,(aH hD _).toT,hTb.same (aH hD _),aC,⟨rfl,rfl,(fun i q y t a=>by simp at a),(fun i y t a=>by simp at a)⟩⟩ ?keep ?turn ?done
  case keep =>
   rintro u τ H' hi ⟨v0,v1,qs,zs,rfl,hs,_⟩;exact cY.of (hs.get hTb g fun _ z=>nomatch z)
  case turn =>
   rintro u mm v τ H' hm hi hv ⟨v0,v1,qs,zs,rfl,hs,tb,hD',R⟩;obtain ⟨q1,y,t,er,rfl,h1,to,mem⟩:=Ks lp ly row sub hv;have kt:∀ b xs,H b=some (.tup xs)->H' b=some (.tup xs):=fun b xs e=>hs.get hTb e fun _ z=>nomatch z
   refine ⟨q1,_,rfl,cY.of (kt _ _ h1),rfl,_,_,rfl,_,_,rfl,rfl,?_⟩;refine dG ?_;refine ⟨_,rfl,_,rfl,y,t.2,d,j t,rfl,to.keep kt,oks t mem,by omega,by omega,aLv (Sd.Pu hk t mem) m12,tb,fun x H2 s2 tb2 st2=>?_⟩;refine ⟨qU,fun T hT=>?_⟩;have n3:=aH hT (.tup [.int t.1,.ref x]);have hD2:H2 D=some (.lst (qs.map V.ref)):=s2.get tb hD' fun _ z=>nomatch z
   have hD3:=n3 _ _ hD2;have R3:=(R.kp (bH.kp s2 tb)).kp (aR.kp n3);have nD:∀ (o:HO),aR (aX H2 T (.tup [.int t.1,.ref x])) (aX H2 T (.tup [.int t.1,.ref x])):=fun _=>aR.refl _;have kt4:∀ (o:HO) b xs,aX H2 T (.tup [.int t.1,.ref x]) b=some (.tup xs)->aX (aX H2 T (.tup [.int t.1,.ref x])) D o b=some (.tup xs):=fun o b xs e=>by rw [aO (cI e hD3 fun z=>nomatch z)]; exact e
   have ki4:∀ (o:HO) b C dx f fs,aX H2 T (.tup [.int t.1,.ref x]) b=some (.ins C dx (f::fs))->aX (aX H2 T (.tup [.int t.1,.ref x])) D o b=some (.ins C dx (f::fs)):=fun o b C dx f fs e=>by rw [aO (cI e hD3 fun z=>nomatch z)]; exact e
   have ql:qs.length<=4:=by rw [R.lp,aLU]; omega
   refine bF hm hi hD3 (by rw [aLo]; exact aU (by omega)) ⟨_,_,qs++[T],zs++[x],rfl,((hs.trans s2).trans n3.toT).upd_new hD _,?_,by rw [aC,aLB]; rfl,?_⟩
   ·have:=tb2.same n3;rcases this with w | ⟨c',w1,w2⟩
    ·exact .inl (by rw [aO (cI w hD3 fun z=>nomatch z)]; exact w)
    ·exact .inr ⟨c',by rw [aO (cI w1 hD3 fun z=>nomatch z)]; exact w1,by rw [aO (cI w2 hD3 fun z=>by unfold sU at z; exact nomatch z)]; exact w2⟩
   ·rw [take_snoc er];exact Ph (Q0 (kt4 _) (ki4 _) R3) (kt4 _ _ _ aC) (JP (kt4 _) (ki4 _) (st2.kp (aR.kp n3)))
  case done =>
   rintro τ H1 ⟨v0,v1,qs,zs,rfl,hs,tb,hD',R⟩;rw [hlr,aLG] at R;intro x dx hx hdx ndx;have nO:aR H1 (aX (aX H1 dx (.own x)) x (.ins c.s dx [])):=(aH hdx (.own x)).trans (aH (by rw [aO (Ne.symm ndx)]; exact hx) _);refine .inl ⟨x,dx,D,p,qs,zs,rs,d,j,rfl,aC,⟨nO _ _ hD',R.kp (aR.kp nO),ne,l4,ww⟩,h0,h9,.inr ⟨m,hk,m12,d4,tb.same nO,fun H' k5 tb5 st5=>⟨rfl,?_⟩⟩⟩;exact q x H' (fun b o nP e=>k5 b o (bB (hs b o nP e) hx) nP (nO _ _ (hs b o nP e))) tb5 st5
end
end K51
namespace K51
open PySem L2 TD TP
open Builtin.Int (intBits)
section
variable {P:Program}{w:World}{K:PySem.W.Frag}{mg:Str->Option Value}{base:Heap}{Pt:Addr}
theorem Fz {n:Nat}{f:Addr}{fd:FuncData}(F:dW K "has_box" "has_box" (top 48) f fd):aY P w K mg base cZ (n+1) f fd ["kept","box"] Nr:=by
 refine F.ok wC (fun vs H Q E h=>?_) (fun cdv A outer s H vs Q E hr h=>?_)
 ·obtain ⟨k,b,rfl,_⟩:=h
  rfl
 obtain ⟨k,b,rfl,hb0,q⟩:=h;have nd:=wC.nd;refine ⟨_,(aG (aV (j4 uY (bA TQ (bA Uh (pv 0) (pv 1)) aJ) aJ (cM _)))),?_⟩;exact ⟨_,rfl,_,rfl,_,_,rfl,rfl,hb0,_,_,rfl,rfl,rfl,q⟩
theorem Cv {n:Nat}{f:Addr}{fd:FuncData}(F:dW K "boxes_of" "boxes_of" (top 49) f fd){aHL:Addr}{aHq:FuncData}(aHM:dF P w K mg base n "has_box" ["kept","box"] Nr aHL aHq)(gV:mg "range" = none){e_:Value}(b_:mg "MOST_BOXES" = some e_)(d_:RelV (.int 6) e_):aY P w K mg base cZ (n+1) f fd ["kept"] wY:=by
 refine F.ok sS (fun vs H Q E h=>?_) (fun cdv A outer s H vs Q E hr h=>?_)
 ·obtain ⟨k,rfl,_⟩:=h
  rfl
 obtain ⟨k,rfl,q⟩:=h;have nd:=sS.nd;refine ⟨_,(aG (aV (cD (ls:=["box"]) (M:=["kept"]) rfl (bM.of (by rfl)) (NL.of (by rfl)) (dX rfl gV (aA (cN (v:=.int 6) rfl b_ d_) aD)) (fun _ _ _ _=>⟨(aP (i:=0) (bY (by rfl)) rfl (Or.inl rfl)),(Bl (bW (aK aHM hr (aA (pv 1) (aA (pv 0) aD))))),(pv 0)⟩)))),?_⟩;refine ⟨6,rfl,by decide,by decide,fun D hD=>?_⟩;refine lO (n:=(6:Int).toNat) (fun i τ H'=>∃ v0,τ = [v0,some (.int k)]/\aR H H'/\H' D=some (.lst (Is ((six i).filter (hb k))))) ⟨none,rfl,aH hD _,aC⟩ ?turn ?done
 case turn =>
  rintro i m τ H' hm hi ⟨v0,rfl,hs,hD'⟩;refine ⟨_,rfl,_,rfl,k,0+(i:Int),rfl,by omega,?_⟩;cases eb:hb k (0+(i:Int)) with
  | false =>
   refine ⟨_,rfl,?_⟩;refine uP rfl ?_;refine rH hm hi ⟨_,rfl,hs,?_⟩;rw [qF,aMM,show [0+(i:Int)].filter (hb k)=[] by rw [aM4,eb]; rfl,aMN];exact hD'
  | true =>
   refine ⟨_,rfl,?_⟩;refine uR rfl ?_;refine ⟨_,rfl,?_⟩;refine bF hm hi hD' (by rw [cF]; exact aU (aLv (aMU _ _) (by unfold six; rw [aLo,aNh]; have:i<6:=hi; omega))) ⟨_,rfl,hs.upd_new hD _,?_⟩;rw [aC,qF,aMM,show [0+(i:Int)].filter (hb k)=[0+(i:Int)] by rw [aM4,eb]; rfl,j5]
 case done =>
  rintro τ H' ⟨v0,rfl,hs,hD'⟩;exact q D H' hs hD hD'
theorem Ga {n:Nat}{f:Addr}{fd:FuncData}(F:dW K "size_of" "size_of" (top 50) f fd){H_:Addr}{B_:FuncData}(I_:dF P w K mg base n "boxes_of" ["kept"] wY H_ B_)(i_:mg "len" = none):aY P w K mg base cZ (n+1) f fd ["kept"] SM:=by
 refine F.ok vG (fun vs H Q E h=>?_) (fun cdv A outer s H vs Q E hr h=>?_)
 ·obtain ⟨k,rfl,_⟩:=h
  rfl
 obtain ⟨k,rfl,q⟩:=h;have nd:=vG.nd;refine ⟨_,(aG (aV (aW cH rfl i_ iI (aA (aK I_ hr (aA (pv 0) aD)) aD)))),?_⟩;refine ⟨_,rfl,k,rfl,fun r H1 s1 _ hr1=>?_⟩;refine ⟨r,_,rfl,.inl (bK.of hr1),?_⟩;rw [cF];exact q H1 s1
theorem yC {n:Nat}{f:Addr}{fd:FuncData}(F:dW K "is_numbers" "is_numbers" (top 53) f fd){n_:Addr}{k_:FuncData}(o_:dF P w K mg base n "is_whole" ["thing","least","most"] O1 n_ k_)(aCr:mg "all" = none)(i_:mg "len" = none)(a_:mg "isinstance" = none)(j_:mg "list" = none):aY P w K mg base cZ (n+1) f fd ["things","fewest","most","greatest_number"] Gv:=by
 refine F.ok oW (fun vs H Q E h=>?_) (fun cdv A outer s H vs Q E hr h=>?_)
 ·obtain ⟨a,ns,lo,hi,g,rfl,_⟩:=h
  rfl
 obtain ⟨a,ns,lo,hi,g,rfl,ha,h1,h2,h64,hg,q⟩:=h;have nd:=oW.nd;refine ⟨_,(aF (cL (PW.pt (mU (cW (bW (aW (cU (T:="list")) rfl a_ bI (aA (pv 0) (aA (eF (v:=.ty "list") rfl j_ jE rfl) aD))))) (j8 (cW (vY mW mW (pv 1) (aW cH rfl i_ iI (aA (pv 0) aD)) (pv 2)))))) (aG (aV iH)) bJ) (aG (aV (aW (kO rfl rfl) rfl aCr wG (aA (cD (ls:=["thing"]) (M:=["things","fewest","most","greatest_number"]) rfl (bM.of (by rfl)) (NL.of (by rfl)) (bL (pv 0)) (fun _ _ _ _=>⟨(aP (i:=0) (bY (by rfl)) rfl (Or.inl rfl)),bV,(aK o_ hr (aA (pv 0) (aA aJ (aA (pv 4) aD))))⟩)) aD))))),?_⟩;have hlr:=cF ns;refine ⟨_,rfl,_,_,_,rfl,.lst ha,fQ _,_,rfl,?_⟩;refine dU ?_;refine ⟨_,rfl,_,rfl,a,_,rfl,.inl (bK.of ha),_,_,rfl,rfl,_,rfl,?_⟩;refine uR (decide_eq_true (show lo<=_ by rw [hlr]; exact h1)) ?_;refine ⟨_,rfl,_,_,rfl,rfl,_,rfl,?_⟩;refine uP (by rw [decide_eq_true (show (_:Int)<=hi by rw [hlr]; exact h2)]; rfl) ?_;refine ⟨_,rfl,a,rfl,⟨_,bK.of ha⟩,fun D hD=>?_⟩;refine bQ (xs:=Is ns) (fun i τ H'=>∃ v0,τ = [v0,some (.ref a),some (.int lo),some (.int hi),some (.int g)]/\aR H H'/\H' D=some (.lst ((aLX i true).map V.bl))) ⟨none,rfl,aH hD _,aC⟩ ?keep ?turn ?done
 case keep =>
  rintro i τ H' hi ⟨v0,rfl,hs,_⟩;exact bK.of (hs _ _ ha)
 case turn =>
  rintro i m v τ H' hm hi hv ⟨v0,rfl,hs,hD'⟩;obtain ⟨x,hx,rfl⟩:=qT hv;have hmem:=aLx hx;refine wK ?_;refine ⟨_,rfl,_,rfl,x,0,g,rfl,(hg x hmem).1,(hg x hmem).2,?_⟩;refine bF hm hi hD' (by rw [aLo,aMx]; exact aU (by rw [hlr] at hi; omega)) ⟨_,rfl,hs.upd_new hD _,?_⟩;rw [aC,List.replicate_succ',aLB]
  rfl
 case done =>
  rintro τ H' ⟨v0,rfl,hs,hD'⟩;refine ⟨D,_,rfl,bK.of hD',?_⟩;have e:(aLX (Is ns).length true).all id=true:=by simp
  rw [e];exact q H' hs
theorem uE {n:Nat}{f:Addr}{fd:FuncData}(F:dW K "__init__" "Few.__init__" (inClass (top 55) 0) f fd){C:Addr}(cf:tM K C)(aIi:PySem.W.findIn K (.ref C) "limit" = some none){n_:Addr}{k_:FuncData}(o_:dF P w K mg base n "is_whole" ["thing","least","most"] O1 n_ k_){e_:Value}(b_:mg "MOST_BOXES" = some e_)(d_:RelV (.int 6) e_):aY P w K mg base cZ (n+1) f fd ["self","count"] (Qs C):=by
 refine F.ok lZ (fun vs H Q E h=>?_) (fun cdv A outer s H vs Q E hr h=>?_)
 ·obtain ⟨x,dx,c,rfl,_⟩:=h
  rfl
 obtain ⟨x,dx,c,rfl,hx,h1,h2,q⟩:=h;have nd:=lZ.nd;refine ⟨_,(aF (cL (cW (bW (aK o_ hr (aA (pv 1) (aA aJ (aA (cN (v:=.int 6) rfl b_ d_) aD)))))) (aG kY) bJ) (aG (gB (pv 0) (pv 1) rfl))),?_⟩;refine ⟨_,rfl,c,0,6,rfl,h1,h2,?_⟩;refine ⟨_,rfl,?_⟩;refine dU ?_;exact ⟨_,rfl,_,rfl,x,C,dx,[],rfl,hx,cf,aIi,(by show 0<1000; decide),q⟩
theorem GX {n:Nat}{f:Addr}{fd:FuncData}(F:dW K "may" "Few.may" (inClass (top 55) 1) f fd){C:Addr}(cf:tM K C)(aIi:PySem.W.findIn K (.ref C) "limit" = some none){aHN:Addr}{aHr:FuncData}(aHO:dF P w K mg base n "size_of" ["kept"] SM aHN aHr):aY P w K mg base cZ (n+1) f fd ["self","kept"] (vA C):=by
 refine F.ok u6 (fun vs H Q E h=>?_) (fun cdv A outer s H vs Q E hr h=>?_)
 ·obtain ⟨x,c,k,rfl,_⟩:=h
  rfl
 obtain ⟨x,c,k,rfl,hF,q⟩:=h;have nd:=u6.nd;refine ⟨_,(aG (aV (j4 mW (aK aHO hr (aA (pv 1) aD)) (j7 (pv 0) rfl) (cM _)))),?_⟩;obtain ⟨dx,hx⟩:=hF;refine ⟨_,rfl,k,rfl,fun H1 s1=>?_⟩;exact ⟨_,rfl,x,C,dx,_,_,rfl,s1 _ _ hx,cf,aIi,rfl,_,_,rfl,rfl,q H1 s1⟩
theorem pA {n:Nat}{f:Addr}{fd:FuncData}(F:dW K "__init__" "Groups.__init__" (inClass (top 56) 0) f fd){C:Addr}(cf:tM K C)(aHd:PySem.W.findIn K (.ref C) "groups" = some none)(aIJ:PySem.W.findIn K (.ref C) "most" = some none){aGl:Addr}{aBV:FuncData}(P_:dF P w K mg base n "is_numbers" ["things","fewest","most","greatest_number"] Gv aGl aBV)(g_:mg "tuple" = none){e_:Value}(b_:mg "MOST_BOXES" = some e_)(d_:RelV (.int 6) e_):aY P w K mg base cZ (n+1) f fd ["self","groups","most"] (R5 C):=by
 refine F.ok jP (fun vs H Q E h=>?_) (fun cdv A outer s H vs Q E hr h=>?_)
 ·obtain ⟨x,dx,a,b,gs,ms,rfl,_⟩:=h
  rfl
 obtain ⟨x,dx,a,b,gs,ms,rfl,hx,ha,hb,g,q⟩:=h;have nd:=jP.nd;refine ⟨_,(aF (cL (cW (bW (aK P_ hr (aA (pv 1) (aA aJ (aA (cN (v:=.int 6) rfl b_ d_) (aA (bA mK (cN (v:=.int 6) rfl b_ d_) aJ) aD))))))) (aG kY) bJ) (aF (cL (cW (bW (aK P_ hr (aA (pv 2) (aA (cN (v:=.int 6) rfl b_ d_) (aA (cN (v:=.int 6) rfl b_ d_) (aA (cN (v:=.int 6) rfl b_ d_) aD))))))) (aG kY) bJ) (aF (gB (pv 0) (cX (cO (K:=K) rfl) rfl g_ eX (aA (pv 1) aD)) rfl) (aG (gB (pv 0) (cX (cO (K:=K) rfl) rfl g_ eX (aA (pv 2) aD)) rfl))))),?_⟩;have g1:=g.l1;have g6:=g.l6;have gm:=g.m6;refine ⟨_,rfl,_,_,rfl,rfl,a,gs,1,6,5,rfl,ha,by omega,by omega,by omega,g.g,fun H1 s1=>?_⟩;refine ⟨_,rfl,?_⟩;refine dU ?_;refine ⟨_,rfl,b,ms,6,6,6,rfl,s1 _ _ hb,by omega,by omega,by omega,g.m,fun H2 s2=>?_⟩;refine ⟨_,rfl,?_⟩;refine dU ?_;have oU:=s1.trans s2;refine ⟨_,rfl,a,_,rfl,.inl ⟨bK.of (oU _ _ ha),fun t ht=>?_⟩⟩;have n1:=aH ht (.tup (Is gs));have hx1:=(oU.trans n1) _ _ hx;refine ⟨_,rfl,x,C,dx,[],rfl,hx1,cf,aHd,(by show 0<1000; decide),?_⟩;have nbx:b≠x:=cI hb hx fun z=>nomatch z
 have ntx:t≠x:=Ne.symm (bB (oU _ _ hx) ht);have kx:∀ c o,c≠x->H c=some o->aX (aX H2 t (.tup (Is gs))) x (.ins C dx [("groups",.ref t)]) c=some o:=fun c o nc e=>by rw [aO nc]; exact (oU.trans n1) _ _ e
 have ht3:aX (aX H2 t (.tup (Is gs))) x (.ins C dx [("groups",.ref t)]) t=some (.tup (Is gs)):=by rw [aO ntx]; exact aC
 have hx3:aX (aX H2 t (.tup (Is gs))) x (.ins C dx [("groups",.ref t)]) x=some (.ins C dx [("groups",.ref t)]):=aC;refine ⟨_,rfl,b,_,rfl,.inl ⟨bK.of (kx _ _ nbx hb),fun u hu=>?_⟩⟩;have n4:=aH hu (.tup (Is ms));have nux:u≠x:=Ne.symm (bB hx3 hu);refine ⟨_,rfl,x,C,dx,[("groups",.ref t)],rfl,n4 _ _ hx3,cf,aIJ,(by show 1<1000; decide),?_⟩;refine q t u _ (fun c o nc e=>?_) ?_ ?_ aC
 ·rw [aO nc];exact n4 _ _ (kx c o nc e)
 ·rw [aO ntx];exact n4 _ _ ht3
 ·rw [aO nux];exact aC
theorem pC {n:Nat}{f:Addr}{fd:FuncData}(F:dW K "__init__" "Listed.__init__" (inClass (top 57) 0) f fd){C:Addr}(cf:tM K C)(aIK:PySem.W.findIn K (.ref C) "sets" = some none){aGl:Addr}{aBV:FuncData}(P_:dF P w K mg base n "is_numbers" ["things","fewest","most","greatest_number"] Gv aGl aBV)(g_:mg "tuple" = none)(aBZ:mg "sorted" = none)(i_:mg "len" = none)(aKc:mg "set" = none){aHR:Value}(Z_:mg "MOST_SETS" = some aHR)(aAy:RelV (.int 64) aHR):aY P w K mg base cZ (n+1) f fd ["self","sets"] (Qy C):=by
 refine F.ok jK (fun vs H Q E h=>?_) (fun cdv A outer s H vs Q E hr h=>?_)
 ·obtain ⟨x,dx,a,ks,rfl,_⟩:=h
  rfl
 obtain ⟨x,dx,a,ks,rfl,hx,ha,g,q⟩:=h;have nd:=jK.nd;refine ⟨_,(aF (cL (PW.pt (mU (cW (bW (aK P_ hr (aA (pv 1) (aA aJ (aA (cN (v:=.int 64) rfl Z_ aAy) (aA (bA mK (cN (v:=.int 64) rfl Z_ aAy) aJ) aD))))))) (j8 (cQ Ng (aW xW rfl i_ iI (aA (cX (Fg (K:=K) rfl rfl) rfl aKc Us (aA (pv 1) aD)) aD)) (aW cH rfl i_ iI (aA (pv 1) aD)) (cM _))))) (aG kY) bJ) (aG (gB (pv 0) (cX (cO (K:=K) rfl) rfl g_ eX (aA (aW (xP (K:=K) rfl) rfl aBZ zL (aA (pv 1) aD)) aD)) rfl))),?_⟩;have g1:=g.l1;have g64:=g.l64;refine ⟨_,rfl,_,_,rfl,rfl,a,ks,1,64,63,rfl,ha,by omega,by omega,g64,g.k,fun H1 s1=>?_⟩;refine ⟨_,rfl,?_⟩;refine dU ?_;refine ⟨_,rfl,a,ks,rfl,bK.of (s1 _ _ ha),(by show ks.length+1<4096; omega),fun r hr0=>?_⟩;have n1:=aH hr0 (.set (fun k=>(OJ ks).any (·==k)) (OJ ks).length);refine ⟨r,_,_,rfl,aC,_,rfl,a,_,rfl,.inl (bK.of ((s1.trans n1) _ _ ha)),rfl,_,rfl,?_⟩;refine uP (by rw [QD g.nd,cF]; simp) ?_;have s2:=s1.trans n1;generalize aX H1 r (.set (fun k=>(OJ ks).any (·==k)) (OJ ks).length)=H2 at s2 ⊢;refine ⟨_,rfl,a,ks,rfl,.inl (bK.of (s2 _ _ ha)),g.few,fun l ms hl pm so=>?_⟩;have n3:=aH hl (.lst (Is ms));refine ⟨l,_,rfl,.inl ⟨bK.of aC,fun t ht=>?_⟩⟩;have n4:=aH ht (.tup (Is ms));have s4:=s2.trans (n3.trans n4);exact ⟨_,rfl,x,C,dx,[],rfl,s4 _ _ hx,cf,aIK,(by show 0<1000; decide),q t ms _ s4 pm so aC⟩
theorem xG {n:Nat}{f:Addr}{fd:FuncData}(F:dW K "may" "Listed.may" (inClass (top 57) 1) f fd){C:Addr}(cf:tM K C)(aIK:PySem.W.findIn K (.ref C) "sets" = some none):aY P w K mg base cZ (n+1) f fd ["self","kept"] (vI C):=by
 refine F.ok nY (fun vs H Q E h=>?_) (fun cdv A outer s H vs Q E hr h=>?_)
 ·obtain ⟨x,ks,k,rfl,_⟩:=h
  rfl
 obtain ⟨x,ks,k,rfl,hF,q⟩:=h;have nd:=nY.nd;refine ⟨_,(aG (aV (j4 Jf (pv 1) (j7 (pv 0) rfl) rfl))),?_⟩;obtain ⟨dx,t,hx,ht⟩:=hF;exact ⟨_,rfl,_,rfl,x,C,dx,_,_,rfl,hx,cf,aIK,rfl,t,_,rfl,.inr (cY.of ht),rfl,QH ks,q⟩
theorem xK {n:Nat}{f:Addr}{fd:FuncData}(F:dW K "may" "Groups.may" (inClass (top 56) 1) f fd){C:Addr}(cf:tM K C)(aHd:PySem.W.findIn K (.ref C) "groups" = some none)(aIJ:PySem.W.findIn K (.ref C) "most" = some none){H_:Addr}{B_:FuncData}(I_:dF P w K mg base n "boxes_of" ["kept"] wY H_ B_)(aCr:mg "all" = none)(i_:mg "len" = none):aY P w K mg base cZ (n+1) f fd ["self","kept"] (vN C):=by
 refine F.ok oH (fun vs H Q E h=>?_) (fun cdv A outer s H vs Q E hr h=>?_)
 ·obtain ⟨x,gs,ms,k,rfl,_⟩:=h
  rfl
 obtain ⟨x,gs,ms,k,rfl,hF,gg,q⟩:=h;have nd:=oH.nd;refine ⟨_,(aF (bC (i:=2) nd rfl (Or.inl rfl) (aK I_ hr (aA (pv 1) aD))) (aF (cL (cW (bW (aW (kO rfl rfl) rfl aCr wG (aA (cD (ls:=["box"]) (M:=["self","kept","boxes","groups"]) rfl (bM.of (by rfl)) (NL.of (by rfl)) (bL (pv 2)) (fun _ _ _ _=>⟨(aP (i:=0) (bY (by rfl)) rfl (Or.inl rfl)),bV,(j4 Dp (pv 0) (aW (xH (K:=K) rfl) rfl i_ iI (aA (Aa (K:=K) rfl (pv 1) rfl) aD)) (cM _))⟩)) aD)))) (aG (aV iH)) bJ) (aF (bC (i:=3) nd rfl (Or.inr rfl) (cD (ls:=["box"]) (M:=["self","kept","boxes","groups"]) rfl (bM.of (by rfl)) (NL.of (by rfl)) (bL (pv 2)) (fun _ _ _ _=>⟨(aP (i:=0) (bY (by rfl)) rfl (Or.inl rfl)),bV,(bT (jD (K:=K) rfl) (Aa (K:=K) rfl (pv 1) rfl) (pv 0) (fun _ _=>rfl))⟩))) (aG (aV (aW (kO rfl rfl) rfl aCr wG (aA (cD (ls:=["group"]) (M:=["self","kept","boxes","groups"]) rfl (bM.of (by rfl)) (NL.of (by rfl)) (bL (pv 3)) (fun _ _ _ _=>⟨(aP (i:=0) (bY (by rfl)) rfl (Or.inl rfl)),bV,(j4 mW (Ub (K:=K) rfl PySem.F.plainAttrs_list PySem.F.slot_list_count PySem.F.type_list_count OD (pv 4) (aA (pv 0) aD)) (bT (jD (K:=K) rfl) (Aa (K:=K) rfl (pv 1) rfl) (pv 0) (fun _ _=>rfl)) (cM _))⟩)) aD))))))),?_⟩;obtain ⟨dx,g,m,hx,hg,hm⟩:=hF;have bl:=Bv k;have hlr:=cF (iK k);refine ⟨_,rfl,k,rfl,fun B H1 s1 hBn hB=>?_⟩;refine ⟨_,rfl,B,rfl,⟨_,bK.of hB⟩,fun D hD=>?_⟩;refine bQ (xs:=Is (iK k)) (fun i τ H'=>∃ v0,τ = [v0,some (.ref x),some (.int k),some (.ref B),none]/\aR H1 H'/\H' D=some (.lst ((((iK k).take i).map fun b=>decide (b<(gs.length:Int))).map V.bl))) ⟨none,rfl,aH hD _,aC⟩ ?keep ?turn ?done
 case keep =>
  rintro i τ H' hi ⟨v0,rfl,hs,_⟩;exact bK.of (hs _ _ hB)
 case turn =>
  rintro i j v τ H' hm' hi hv ⟨v0,rfl,hs,hD'⟩;obtain ⟨b,hb1,rfl⟩:=qT hv;have ss:=s1.trans hs;refine wK ?_;refine ⟨_,rfl,_,rfl,x,C,dx,_,_,rfl,ss _ _ hx,cf,aHd,rfl,g,_,rfl,.inr (cY.of (ss _ _ hg)),_,_,rfl,rfl,?_⟩;refine bF hm' hi hD' (by rw [aLo,aLo,aLU]; exact aU (by omega)) ⟨_,rfl,hs.upd_new hD _,?_⟩;rw [aC,take_snoc hb1,aLB,aLB,cF]
  rfl
 case done =>
 rintro τ H2 ⟨v0,rfl,s2,hD2⟩;rw [hlr,aLG] at hD2;have oU:=s1.trans s2;refine ⟨D,_,rfl,bK.of hD2,?_⟩;refine ⟨_,rfl,?_⟩;have ea:((iK k).map fun b=>decide (b<(gs.length:Int))).all id=(iK k).all (fun b=>decide (b<(gs.length:Int))):=by rw [List.all_map]; rfl
 rw [ea];cases hall:(iK k).all (fun b=>decide (b<(gs.length:Int))) with
 | false =>
  refine gA ?_;have h:=q H2 oU;unfold Oz at h;rw [hall] at h;exact h
 | true =>
 refine dU ?_;have hin:∀ b∈iK k,b<(gs.length:Int):=fun b hb=>of_decide_eq_true (aMI.mp hall b hb);refine ⟨_,rfl,B,rfl,⟨_,bK.of (s2 _ _ hB)⟩,fun D2 hD2n=>?_⟩;refine bQ (xs:=Is (iK k)) (fun i τ H'=>∃ v0,τ = [v0,some (.ref x),some (.int k),some (.ref B),none]/\aR H2 H'/\H' D2=some (.lst (Is (((iK k).take i).map fun b=>gs.getD b.toNat 0)))) ⟨none,rfl,aH hD2n _,aC⟩ ?keep2 ?turn2 ?done2
 case keep2 =>
  rintro i τ H' hi ⟨v0,rfl,hs,_⟩;exact bK.of ((s2.trans hs) _ _ hB)
 case turn2 =>
  rintro i j v τ H' hm' hi hv ⟨v0,rfl,hs,hD'⟩;obtain ⟨b,hb1,rfl⟩:=qT hv;have hbm:=aLx hb1;have ss:=oU.trans hs;refine wK ?_;refine ⟨_,rfl,x,C,dx,_,_,rfl,ss _ _ hx,cf,aHd,rfl,_,rfl,g,_,_,_,rfl,rfl,cY.of (ss _ _ hg),RZ (m8 hbm).1 (hin b hbm),?_⟩;refine bF hm' hi hD' (by rw [cF,aLo,aLU]; exact aU (by omega)) ⟨_,rfl,hs.upd_new hD2n _,?_⟩;rw [aC,take_snoc hb1,aLB];show _=some (HO.lst (Is (_++[gs.getD b.toNat 0])));rw [j5]
 case done2 =>
 rintro τ H3 ⟨v1,rfl,s3,hD3⟩;rw [hlr,aLG] at hD3;have Aj:=oU.trans s3;generalize hgl:((iK k).map fun b=>gs.getD b.toNat 0)=gl at hD3;have gll:gl.length<=6:=by rw [<- hgl,aLo]; exact bl
 have gin:∀ z∈gl,0<=z/\z<(ms.length:Int):=fun z hz=>by
  rw [<- hgl] at hz;obtain ⟨b,hb1,rfl⟩:=aLr.mp hz;have e:=hin b hb1;have e0:=(m8 hb1).1;have hbn:b.toNat<gs.length:=by omega
  have e2:=gg.g (gs.getD b.toNat 0) (by rw [show gs.getD b.toNat 0=gs[b.toNat] by simp [hbn]]; exact aMc hbn);have:=gg.m6;omega
 refine ⟨_,rfl,D2,rfl,⟨_,bK.of hD3⟩,fun D4 hD4n=>?_⟩;refine bQ (xs:=Is gl) (fun i τ H'=>∃ v0,τ = [v0,some (.ref x),some (.int k),some (.ref B),some (.ref D2)]/\aR H3 H'/\H' D4=some (.lst (((gl.take i).map fun z=>decide ((gl.count z:Nat)<=ms.getD z.toNat 0)).map V.bl))) ⟨none,rfl,aH hD4n _,aC⟩ ?keep4 ?turn4 ?done4
 case keep4 =>
  rintro i τ H' hi ⟨v0,rfl,hs,_⟩;exact bK.of (hs _ _ hD3)
 case turn4 =>
  rintro i j v τ H' hm' hi hv ⟨v0,rfl,hs,hD'⟩;obtain ⟨z,hz1,rfl⟩:=qT hv;have hzm:=aLx hz1;have ss:=Aj.trans hs;refine wK ?_;refine ⟨_,rfl,.inl ⟨rfl,_,bK.of (hs _ _ hD3)⟩,_,rfl,D2,gl,z,rfl,rfl,hs _ _ hD3,_,rfl,x,C,dx,_,_,rfl,ss _ _ hx,cf,aIJ,rfl,_,rfl,m,_,_,_,rfl,rfl,cY.of (ss _ _ hm),RZ (gin z hzm).1 (gin z hzm).2,_,_,rfl,rfl,?_⟩;refine bF hm' hi hD' (by rw [aLo,aLo,aLU]; exact aU (by omega)) ⟨_,rfl,hs.upd_new hD4n _,?_⟩;rw [aC,take_snoc hz1,aLB,aLB]
  rfl
 case done4 =>
  rintro τ H5 ⟨v2,rfl,s5,hD5⟩;rw [cF,aLG] at hD5;refine ⟨D4,_,rfl,bK.of hD5,?_⟩;have h:=q H5 (Aj.trans s5);unfold Oz at h;rw [hall,hgl,aN2] at h;rw [List.all_map];exact h
theorem EY {n:Nat}{f:Addr}{fd:FuncData}(F:dW K "with_box" "with_box" (top 51) f fd):aY P w K mg base cZ (n+1) f fd ["kept","box"] Fl:=by
 refine F.ok tX (fun vs H Q E h=>?_) (fun cdv A outer s H vs Q E hr h=>?_)
 ·obtain ⟨k,b,rfl,_⟩:=h
  rfl
 obtain ⟨k,b,rfl,hb0,hb1,q⟩:=h;have nd:=tX.nd;refine ⟨_,(aG (aV (bA YD (pv 0) (bA BL aJ (pv 1))))),?_⟩;exact ⟨_,rfl,_,rfl,_,_,rfl,rfl,⟨hb0,by omega,by decide⟩,_,_,rfl,rfl,q⟩
theorem Ak {n:Nat}{f:Addr}{fd:FuncData}(F:dW K "less_flaw" "less_flaw" (top 59) f fd){H_:Addr}{B_:FuncData}(I_:dF P w K mg base n "boxes_of" ["kept"] wY H_ B_)(gV:mg "range" = none)(i_:mg "len" = none):aY P w K mg base cZ (n+1) f fd ["lets"] Ij:=by
 refine F.ok qI (fun vs H Q E h=>?_) (fun cdv A outer s H vs Q E hr h=>?_)
 ·obtain ⟨a,bs,rfl,_⟩:=h
  rfl
 obtain ⟨a,bs,rfl,ha,h64,dnA,qn⟩:=h;have nd:=qI.nd;refine ⟨_,(aF (dB PassesOwn.never rfl (dX rfl gV (aA (aW cH rfl i_ iI (aA (pv 0) aD)) aD)) (aP (i:=1) nd rfl (Or.inl rfl)) (aG (dB PassesOwn.never rfl (bL (aK I_ hr (aA (pv 1) aD))) (aP (i:=2) nd rfl (Or.inl rfl)) (aF (bC (i:=3) nd rfl (Or.inl rfl) (bA mK (pv 1) (bA BL aJ (pv 2)))) (aG (cL (PW.pt (GQ (bW (bT gQ (pv 0) (pv 1) (fun _ _=>rfl))) (Av (cW (bW (bT gQ (pv 0) (pv 3) (fun _ _=>rfl))))))) (aG (aV (dN (aA oY (aA (pv 1) (aA (pv 3) aD)))))) bJ)))))) (aG (aV mV))),?_⟩;refine ⟨_,rfl,a,_,rfl,.inl (bK.of ha),(bs.length:Int),by rw [nU],by omega,by omega,?_⟩;refine gM (n:=(bs.length:Int).toNat) (fun i σ H'=>∃ v1 v2 v3,σ = [some (.ref a),v1,v2,v3]/\aR H H'/\wV bs i) ⟨none,none,none,rfl,aR.refl _,fun o h=>absurd h (aMR _)⟩ ?turn ?done
 case turn =>
  rintro i σ H' hi ⟨v1,v2,v3,rfl,hs,dn⟩;have hil:i<bs.length:=by omega
  refine ⟨_,rfl,0+(i:Int),rfl,fun B H1 s1 hBn hB=>?_⟩;have ss:=hs.trans s1;refine ⟨B,rfl,⟨_,bK.of hB⟩,?_⟩;refine fH (xs:=Is (iK (0+(i:Int)))) (fun j σ H2=>∃ v2 v3,σ = [some (.ref a),some (.int (0+(i:Int))),v2,v3]/\H2=H1/\∀ b∈(iK (0+(i:Int))).take j,bs.getD (0+(i:Int)).toNat false=true->bs.getD (0+(i:Int)-1*2^b.toNat).toNat false=true) ⟨v2,v3,rfl,rfl,fun _ h=>nomatch h⟩ ?keep2 ?turn2 ?done2
  case keep2 =>
   rintro j σ H2 hj ⟨v2,v3,rfl,rfl,_⟩;exact bK.of hB
  case turn2 =>
   rintro j v σ H2 hv ⟨v2,v3,rfl,rfl,hd⟩;obtain ⟨b,hb1,rfl⟩:=qT hv;have hbm:=aLx hb1;have r:=m8 hbm;have lo:=low (k:=0+(i:Int)) (by omega) (by omega) hbm;refine ⟨_,rfl,_,rfl,_,_,rfl,rfl,⟨r.1,by omega,by decide⟩,_,_,rfl,rfl,?_⟩;refine ⟨_,rfl,_,rfl,a,_,_,_,rfl,rfl,bK.of (ss _ _ ha),Eu (k:=0+(i:Int)) (by omega) (by omega),_,rfl,?_⟩;have stay:(bs.getD (0+(i:Int)).toNat false=true->bs.getD (0+(i:Int)-1*2^b.toNat).toNat false=true)->∀ b'∈(iK (0+(i:Int))).take (j+1),bs.getD (0+(i:Int)).toNat false=true->bs.getD (0+(i:Int)-1*2^b'.toNat).toNat false=true:=fun h b' hb'=>by
    rw [take_snoc hb1] at hb';rcases aLO.mp hb' with u | u
    ·exact hd b' u
    ·rw [aLy.mp u];exact h
   cases e1:bs.getD (0+(i:Int)).toNat false with
   | false =>
    refine uP rfl ?_;exact ⟨_,_,rfl,rfl,fun _ _ z=>nomatch z⟩
   | true =>
    refine uR rfl ?_;refine ⟨_,rfl,_,rfl,a,_,_,_,rfl,rfl,bK.of (ss _ _ ha),Eu (k:=0+(i:Int)-1*2^b.toNat) lo.1 (by omega),_,rfl,?_⟩;cases e2:bs.getD (0+(i:Int)-1*2^b.toNat).toNat false with
    | true =>
     refine dU ?_;exact ⟨_,_,rfl,rfl,fun b' hb' _=>stay (fun _=>e2) b' hb' e1⟩
    | false =>
     exact absurd (dnA i hil b hbm e1) (by rw [e2]; decide)
  case done2 =>
   rintro σ H2 ⟨v2,v3,rfl,rfl,hd⟩;rw [cF,aLG] at hd;refine ⟨_,_,_,rfl,ss,fun o ho b hb1=>?_⟩
   by_cases e:o=i
   ·subst e;exact hd b hb1
   ·exact dn o (by omega) b hb1
 case done =>
  rintro σ H' ⟨v1,v2,v3,rfl,hs,dn⟩;rw [show (bs.length:Int).toNat=bs.length by omega] at dn;exact qn H' hs
theorem Ed {n:Nat}{f:Addr}{fd:FuncData}(F:dW K "can_grow" "can_grow" (top 60) f fd){H_:Addr}{B_:FuncData}(I_:dF P w K mg base n "boxes_of" ["kept"] wY H_ B_){aHL:Addr}{aHq:FuncData}(aHM:dF P w K mg base n "has_box" ["kept","box"] Nr aHL aHq){aHs:Addr}{aG2:FuncData}(R_:dF P w K mg base n "with_box" ["kept","box"] Fl aHs aG2)(aKd:mg "any" = none):aY P w K mg base cZ (n+1) f fd ["lets","one","other"] Mq:=by
 refine F.ok tG (fun vs H Q E h=>?_) (fun cdv A outer s H vs Q E hr h=>?_)
 ·obtain ⟨a,bs,m,o,e,rfl,_⟩:=h
  rfl
 obtain ⟨a,bs,m,o,e,rfl,ha,hl,hm,o0,o1,e0,e1,q⟩:=h;have nd:=tG.nd;refine ⟨_,(aG (aV (aW (Jk rfl rfl) rfl aKd Rr (aA (cD (ls:=["box"]) (M:=["lets","one","other"]) rfl (bM.of (by rfl)) (NL.of (by rfl)) (bL (aK I_ hr (aA (pv 1) aD))) (fun _ _ _ _=>⟨(aP (i:=0) (bY (by rfl)) rfl (Or.inl rfl)),(Bl (cW (bW (aK aHM hr (aA (pv 3) (aA (pv 0) aD)))))),(bT (O6 (K:=K) rfl) (pv 1) (aK R_ hr (aA (pv 3) (aA (pv 0) aD))) (fun _ _=>rfl))⟩)) aD)))),?_⟩;have bl:=Bv o;have pl:(bs.length:Int)=2^m:=by rw [hl]; push_cast; rfl
 refine ⟨_,rfl,o,rfl,fun B H1 s1 hBn hB=>?_⟩;refine ⟨B,rfl,⟨_,bK.of hB⟩,fun D hD=>?_⟩;refine bQ (xs:=Is (iK o)) (fun i τ H'=>∃ v0,τ = [v0,some (.ref a),some (.int o),some (.int e)]/\aR H1 H'/\H' D=some (.lst (Bs ((((iK o).take i).filter fun b=>!hb e b).map fun b=>bs.getD (Builtin.bitOr e (1*2^b.toNat)).toNat false)))) ⟨none,rfl,aH hD _,aC⟩ ?keep ?turn ?done
 case keep =>
  rintro i τ H' hi ⟨v0,rfl,hs,_⟩;exact bK.of (hs _ _ hB)
 case turn =>
  rintro i j v τ H' hm' hi hv ⟨v0,rfl,hs,hD'⟩;obtain ⟨b,hb1,rfl⟩:=qT hv;have hbm:=aLx hb1;have r:=m8 hbm;have gi:=BZ hm o0 (by omega) e0 (by omega) hbm;refine ⟨_,rfl,_,rfl,e,b,rfl,r.1,?_⟩;refine ⟨_,rfl,?_⟩;cases eb:hb e b with
  | true =>
   refine uP rfl ?_;refine rH hm' hi ⟨_,rfl,hs,?_⟩;rw [take_snoc hb1,aMM,show [b].filter (fun b=>!hb e b)=[] by rw [aM4,eb]; rfl,aMN];exact hD'
  | false =>
   refine uR rfl ?_;refine ⟨_,rfl,_,rfl,_,rfl,e,b,rfl,r.1,by omega,a,_,_,_,rfl,rfl,bK.of ((s1.trans hs) _ _ ha),Eu gi.1 (by omega),?_⟩;refine bF hm' hi hD' (by rw [nU,aLo]; exact aU (aLv (aMU _ _) (by rw [aLU]; omega))) ⟨_,rfl,hs.upd_new hD _,?_⟩;rw [aC,take_snoc hb1,aMM,show [b].filter (fun b=>!hb e b)=[b] by rw [aM4,eb]; rfl,aLB];show _=some (HO.lst (List.map V.bl (_++[bs.getD (Builtin.bitOr e (1*2^b.toNat)).toNat false])));rw [aLB]
   rfl
 case done =>
  rintro τ H' ⟨v0,rfl,hs,hD'⟩;rw [cF,aLG] at hD';exact ⟨D,_,rfl,bK.of hD',q H' (s1.trans hs)⟩
theorem uD {n:Nat}{f:Addr}{fd:FuncData}(F:dW K "sets_by_size" "sets_by_size" (top 61) f fd){aHN:Addr}{aHr:FuncData}(aHO:dF P w K mg base n "size_of" ["kept"] SM aHN aHr)(gV:mg "range" = none)(i_:mg "len" = none){e_:Value}(b_:mg "MOST_BOXES" = some e_)(d_:RelV (.int 6) e_):aY P w K mg base cZ (n+1) f fd ["lets"] Ni:=by
 refine F.ok mC (fun vs H Q E h=>?_) (fun cdv A outer s H vs Q E hr h=>?_)
 ·obtain ⟨a,bs,rfl,_⟩:=h
  rfl
 obtain ⟨a,bs,rfl,ha,h64,q⟩:=h;have nd:=mC.nd;refine ⟨_,(aF (lR (i:=1) (ls:=["size"]) (M:=["lets","by_size","kept"]) rfl (bM.of (by rfl)) (NL.of (by rfl)) nd rfl (Or.inl rfl) (dX rfl gV (aA (bA gC (cN (v:=.int 6) rfl b_ d_) aJ) aD)) (fun _ _ _ _=>⟨(aP (i:=0) (bY (by rfl)) rfl (Or.inl rfl)),bV,(dM aD)⟩)) (aF (dB PassesOwn.never rfl (dX rfl gV (aA (aW cH rfl i_ iI (aA (pv 0) aD)) aD)) (aP (i:=2) nd rfl (Or.inl rfl)) (aG (cL (bW (bT gQ (pv 0) (pv 2) (fun _ _=>rfl))) (aG (fL (lX PySem.F.plainAttrs_list PySem.F.slot_list_append PySem.F.type_list_append jH (bT gQ (pv 1) (aK aHO hr (aA (pv 2) aD)) (fun _ _=>rfl)) (aA (pv 2) aD)))) bJ))) (aG (aV (pv 1))))),?_⟩;refine ⟨_,_,rfl,rfl,7,rfl,by decide,by decide,fun D hD=>?_⟩;refine lO (n:=(7:Int).toNat) (fun i τ H'=>∃ v0 ls,τ = [v0,some (.ref a),none,none]/\aR H H'/\H' D=some (.lst (ls.map V.ref))/\ls.length=i/\ls.Nodup/\∀ l∈ls,H' l=some (.lst [])/\l≠D/\H l=none) ⟨none,[],rfl,aH hD _,aC,rfl,aMH,fun _ h=>nomatch h⟩ ?turn ?done
 case turn =>
  rintro i m τ H' hm hi ⟨v0,ls,rfl,hs,hD',ll,nd',hl⟩;have hi7:i<7:=hi;refine wK ?_;refine ⟨aLQ _,fun l hl0=>?_⟩;have n1:=aH hl0 (.lst []);have nD:l≠D:=fun e=>by rw [e,hD'] at hl0; cases hl0
  have hD2:=n1 _ _ hD';refine bF hm hi hD2 (by rw [aLo]; exact aU (by omega)) ⟨_,ls++[l],rfl,(hs.trans n1).upd_new hD _,?_,by rw [aLP,ll]; rfl,?_,fun y hy=>?_⟩
  ·rw [aC,aLB]
   rfl
  ·exact aNg.mpr ⟨nd',aMf.mpr ⟨aLW,aMH⟩,fun u hu v hv=>by rw [aLy.mp hv]; rintro rfl; have:=(hl _ hu).1; rw [this] at hl0; cases hl0⟩
  ·rcases aLO.mp hy with u | u
   ·obtain ⟨x1,x2,x3⟩:=hl y u;exact ⟨by rw [aO x2]; exact n1 _ _ x1,x2,x3⟩
   ·rw [aLy.mp u];exact ⟨by rw [aO nD]; exact aC,nD,hs.free hl0⟩
 case done =>
 rintro τ H1 ⟨v0,ls,rfl,s1,hD1,ll,nd1,hl1⟩;have ll:ls.length=7:=ll;refine ⟨_,rfl,a,_,rfl,.inl (bK.of (s1 _ _ ha)),(bs.length:Int),by rw [nU],by omega,by omega,?_⟩;refine gM (n:=(bs.length:Int).toNat) (fun i σ H'=>∃ v2,σ = [some (.ref a),some (.ref D),v2]/\aR H H'/\Wl H' D ls bs i) ⟨none,rfl,s1,⟨hD1,ll,nd1,fun l hl=>(hl1 l hl).2.1,fun s l hl=>(hl1 l (aLx hl)).1⟩⟩ ?turn2 ?done2
 case turn2 =>
  rintro i σ H' hi ⟨v2,rfl,hs,by1⟩;have hil:i<bs.length:=by omega
  refine ⟨_,rfl,_,rfl,a,_,_,_,rfl,rfl,bK.of (hs _ _ ha),Eu (k:=0+(i:Int)) (by omega) (by omega),_,rfl,?_⟩;cases e1:bs.getD (0+(i:Int)).toNat false with
  | false =>
   refine uP rfl ?_;refine ⟨_,rfl,hs,by1.lst,by1.len,by1.nd,by1.ne,fun s l hl=>?_⟩;have h:=by1.each s l hl;rw [rD,if_neg (by unfold pick; rw [e1,Bool.false_and]; exact aLK),aMN];exact h
  | true =>
   refine uR rfl ?_;have bl:=Bv (0+(i:Int));obtain ⟨l,hl⟩:∃ l,ls[(iK (0+(i:Int))).length]? = some l:=⟨_,aLs (by omega)⟩
   refine ⟨_,rfl,_,rfl,0+(i:Int),rfl,fun H2 s2=>?_⟩;have h2:=s2 _ _ (by1.each _ l hl);refine ⟨D,_,_,_,rfl,rfl,bK.of (s2 _ _ by1.lst),j6 (v:=V.ref l) (by rw [aLH,hl]; rfl),Or.inl ⟨rfl,_,bK.of h2⟩,_,rfl,l,_,_,rfl,rfl,h2,by rw [cF]; exact aU (aLv (Kc _ _ _) (by omega)),?_⟩;have nD:=by1.ne l (aLx hl);refine ⟨_,rfl,(hs.trans s2).upd_new (hl1 l (aLx hl)).2.2 _,by rw [aO (Ne.symm nD)]; exact s2 _ _ by1.lst,by1.len,by1.nd,by1.ne,fun s y hy=>?_⟩
   by_cases es:s=(iK (0+(i:Int))).length
   ·subst es;rw [hl] at hy;cases hy;rw [aC,rD,if_pos (by unfold pick; rw [e1,aN2,beq_self_eq_true]),j5]
   ·have ny:y≠l:=fun z=>by
     subst z;have a1:=(aLE.mp hy)
     have a2:=(aLE.mp hl)
     have pw:=aM5.mp by1.nd;rcases Nat.lt_or_gt_of_ne es with u | u
     ·exact pw _ _ a1.1 a2.1 u (a1.2.trans a2.2.symm)
     ·exact pw _ _ a2.1 a1.1 u (a2.2.trans a1.2.symm)
    rw [aO ny,rD,if_neg (by unfold pick; rw [e1,aN2]; intro z; exact es (beq_iff_eq.mp z).symm),aMN];exact s2 _ _ (by1.each s y hy)
 case done2 =>
  rintro σ H' ⟨v2,rfl,hs,by1⟩;rw [show (bs.length:Int).toNat=bs.length by omega] at by1;exact ⟨_,rfl,q D H' ls hs by1⟩
theorem Ai {n:Nat}{f:Addr}{fd:FuncData}(F:dW K "more_flaw" "more_flaw" (top 62) f fd){aJy:Addr}{aI4:FuncData}(aJz:dF P w K mg base n "can_grow" ["lets","one","other"] Mq aJy aI4){aIj:Addr}{aHZ:FuncData}(aIk:dF P w K mg base n "sets_by_size" ["lets"] Ni aIj aHZ)(gV:mg "range" = none){e_:Value}(b_:mg "MOST_BOXES" = some e_)(d_:RelV (.int 6) e_):aY P w K mg base cZ (n+1) f fd ["lets"] Oh:=by
 refine F.ok qR (fun vs H Q E h=>?_) (fun cdv A outer s H vs Q E hr h=>?_)
 ·obtain ⟨a,bs,m,rfl,_⟩:=h
  rfl
 obtain ⟨a,bs,m,rfl,ha,hl,hm,qn,qm⟩:=h;have nd:=qR.nd;refine ⟨_,(aF (bC (i:=1) nd rfl (Or.inl rfl) (aK aIk hr (aA (pv 0) aD))) (aF (dB PassesOwn.never rfl (dX rfl gV (aA (cN (v:=.int 6) rfl b_ d_) aD)) (aP (i:=2) nd rfl (Or.inl rfl)) (aG (dB PassesOwn.never rfl (bL (bT gQ (pv 1) (pv 2) (fun _ _=>rfl))) (aP (i:=3) nd rfl (Or.inl rfl)) (aG (dB PassesOwn.never rfl (bL (bT gQ (pv 1) (bA gC (pv 2) aJ) (fun _ _=>rfl))) (aP (i:=4) nd rfl (Or.inl rfl)) (aG (cL (cW (bW (aK aJz hr (aA (pv 0) (aA (pv 4) (aA (pv 3) aD)))))) (aG (aV (dN (aA oY (aA (pv 4) (aA (pv 3) aD)))))) bJ))))))) (aG (aV mV)))),?_⟩;have h64:bs.length<=64:=by rw [hl]; exact aLv (aNY (by decide) hm) (by decide)
 refine ⟨_,rfl,a,bs,rfl,ha,h64,fun D H1 ls s1 by1=>?_⟩;refine ⟨6,rfl,by decide,by decide,?_⟩;have len:=by1.len;refine gM (n:=(6:Int).toNat) (fun i σ H'=>∃ v2 v3 v4,σ = [some (.ref a),some (.ref D),v2,v3,v4]/\aR H1 H') ⟨none,none,none,rfl,aR.refl _⟩ ?turn ?done
 case done =>
  rintro σ H' ⟨v2,v3,v4,rfl,hs⟩;exact qn H' (s1.trans hs)
 case turn =>
  rintro i σ H' hi ⟨v2,v3,v4,rfl,hs⟩;have hi6:i<6:=hi;obtain ⟨l1,hl1⟩:∃ l,ls[i]? = some l:=⟨_,aLs (by omega)⟩
  obtain ⟨l2,hl2⟩:∃ l,ls[i+1]? = some l:=⟨_,aLs (by omega)⟩
  have k1:=by1.each i l1 hl1;have k2:=by1.each (i+1) l2 hl2;refine ⟨_,rfl,_,rfl,D,_,_,_,rfl,rfl,bK.of (hs _ _ by1.lst),at0 (v:=V.ref l1) (by rw [aLH,hl1]; rfl),l1,rfl,⟨_,bK.of (hs _ _ k1)⟩,?_⟩;refine fH (xs:=Is (Ep bs bs.length i)) (fun j σ H2=>∃ v3 v4,σ = [some (.ref a),some (.ref D),some (.int (0+(i:Int))),v3,v4]/\aR H1 H2) ⟨v3,v4,rfl,hs⟩ ?keep2 ?turn2 ?done2
  case keep2 =>
   rintro j σ H2 hj ⟨v3,v4,rfl,hs2⟩;exact bK.of (hs2 _ _ k1)
  case done2 =>
   rintro σ H2 ⟨v3,v4,rfl,hs2⟩;exact ⟨_,_,_,rfl,hs2⟩
  case turn2 =>
   rintro j v σ H2 hv ⟨v3,v4,rfl,hs2⟩;obtain ⟨e,he,rfl⟩:=qT hv;have me:=Eh (aLx he);refine ⟨_,rfl,_,rfl,_,_,rfl,rfl,D,_,_,_,rfl,rfl,bK.of (hs2 _ _ by1.lst),at1 (v:=V.ref l2) (by rw [aLH,hl2]; rfl),l2,rfl,⟨_,bK.of (hs2 _ _ k2)⟩,?_⟩;refine fH (xs:=Is (Ep bs bs.length (i+1))) (fun j σ H3=>∃ v4,σ = [some (.ref a),some (.ref D),some (.int (0+(i:Int))),some (.int e),v4]/\aR H1 H3) ⟨v4,rfl,hs2⟩ ?keep3 ?turn3 ?done3
   case keep3 =>
    rintro j σ H3 hj ⟨v4,rfl,hs3⟩;exact bK.of (hs3 _ _ k2)
   case done3 =>
    rintro σ H3 ⟨v4,rfl,hs3⟩;exact ⟨_,_,rfl,hs3⟩
   case turn3 =>
    rintro j v σ H3 hv ⟨v4,rfl,hs3⟩;obtain ⟨o,ho,rfl⟩:=qT hv;have mo:=Eh (aLx ho);refine ⟨_,rfl,_,rfl,_,rfl,a,bs,m,o,e,rfl,(s1.trans hs3) _ _ ha,hl,hm,mo.1,mo.2.1,me.1,me.2.1,fun H4 s4=>?_⟩;refine ⟨_,rfl,?_⟩;cases eg:(Hu bs o e).any id with
    | true =>
     refine dU ?_;exact ⟨_,rfl,hs3.trans s4⟩
    | false =>
     refine gA ?_;refine ⟨_,rfl,_,rfl,sz3,fun r hr0=>?_⟩;exact qm r _ o e (((s1.trans hs3).trans s4).trans (aH hr0 _)) aC ⟨mo.1,mo.2.1,me.1,me.2.1,mo.2.2.1,me.2.2.1,by rw [mo.2.2.2,me.2.2.2],eg⟩
theorem Q6 {n:Nat}{f:Addr}{fd:FuncData}(F:dW K "flaw" "flaw" (top 63) f fd){p:xF}(pt:SN K p){aI5:Addr}{aHS:FuncData}(aKe:fD K p.f "may" aI5)(aKf:aY P w K mg base cZ n aI5 aHS ["self","kept"] (vA p.f))(aKg:Binds K aHS ["self","kept"] []){aI6:Addr}{aHT:FuncData}(aKh:fD K p.g "may" aI6)(aKi:aY P w K mg base cZ n aI6 aHT ["self","kept"] (vN p.g))(aKj:Binds K aHT ["self","kept"] []){aI7:Addr}{aHU:FuncData}(aKk:fD K p.l "may" aI7)(aKl:aY P w K mg base cZ n aI7 aHU ["self","kept"] (vI p.l))(aKm:Binds K aHU ["self","kept"] []){aI8:Addr}{aIL:FuncData}(aI9:dF P w K mg base n "more_flaw" ["lets"] Oh aI8 aIL){aJa:Addr}{aIM:FuncData}(aJb:dF P w K mg base n "less_flaw" ["lets"] Ij aJa aIM)(gV:mg "range" = none):aY P w K mg base cZ (n+1) f fd ["pattern","many"] (uO p):=by
 refine F.ok JF (fun vs H Q E h=>?_) (fun cdv A outer s H vs Q E hr h=>?_)
 ·obtain ⟨x,S,m,rfl,_⟩:=h
  rfl
 obtain ⟨x,S,m,rfl,hO,hG,m1,m6,nf,k⟩:=h;have nd:=JF.nd;refine ⟨_,(aF (lR (i:=2) (ls:=["kept"]) (M:=["pattern","many","lets","less"]) rfl (bM.of (by rfl)) (NL.of (by rfl)) nd rfl (Or.inl rfl) (dX rfl gV (aA (bA BL aJ (pv 1)) aD)) (fun _ _ _ _=>⟨(aP (i:=0) (bY (by rfl)) rfl (Or.inl rfl)),bV,(Ft (eG (pv 1) pt.cf aKe aKf hr aKg .nil c7 (aA (pv 0) aD)) (eG (pv 1) pt.cg aKh aKi hr aKj .nil c7 (aA (pv 0) aD)) (eG (pv 1) pt.cl aKk aKl hr aKm .nil c7 (aA (pv 0) aD)))⟩)) (aF (cL (cW (bW (bT gQ (pv 2) aJ (fun _ _=>rfl)))) (aG (aV (dN (aA oY (aA aJ (aA aJ aD)))))) bJ) (aF (bC (i:=3) nd rfl (Or.inl rfl) (aK aJb hr (aA (pv 2) aD))) (aG (aV (wQ (cQ BJ (pv 3) mV (cM _)) (aK aI9 hr (aA (pv 2) aD)) (pv 3))))))),?_⟩;have p64:2^m<=64:=aLv (aNY (by decide) m6) (by decide);obtain ⟨N,hN⟩:∃ N:Nat,N=2^m:=⟨_,rfl⟩
 have pe:(1:Int)*2^((m:Int)).toNat=(N:Int):=by rw [aMK,aNd,hN]; push_cast; rfl
 rw [<- hN] at p64;refine ⟨_,rfl,_,_,rfl,rfl,⟨by omega,by omega,by decide⟩,(N:Int),congrArg (fun v=>[V.int v]) pe,by omega,by omega,fun D hD=>?_⟩;refine lO (n:=(N:Int).toNat) (fun i τ H'=>∃ v0,τ = [v0,some (.ref x),some (.int (m:Int)),none,none]/\aR H H'/\H' D=some (.lst (Bs (jV S i)))) ⟨none,rfl,aH hD _,aC⟩ ?turn ?done
 case turn =>
  rintro i j τ H' hm hi ⟨v0,rfl,hs,hD'⟩;refine wK ?_;have hX:=hO.same hs;refine Uk hX hG (fun Q' h=>⟨_,rfl,h⟩) (fun Q' h=>⟨_,rfl,h H' (aR.refl _)⟩) fun H2 s2=>?_;refine bF hm hi (s2 _ _ hD') (by rw [nU,nR]; exact aU (by omega)) ⟨_,rfl,(hs.trans s2).upd_new hD _,?_⟩;rw [aC];unfold jV;rw [qF,aLB];show _=some (HO.lst (List.map V.bl (_++[fX S (0+(i:Int))])));rw [aLB]
  rfl
 case done =>
 rintro τ H1 ⟨v0,rfl,s1,hD1⟩;rw [aNd,hN] at hD1;rw [hN] at p64;have ll:=nR S (2^m);have lp:0<(jV S (2^m)).length:=by rw [ll]; exact Nat.pow_pos (by decide)
 refine ⟨_,rfl,D,_,_,_,rfl,rfl,bK.of hD1,Eu (k:=0) (by decide) (by omega),_,rfl,?_⟩;rw [show (jV S (2^m)).getD (0:Int).toNat false=true from Pa nf];refine dU ?_;refine ⟨_,rfl,D,jV S (2^m),rfl,hD1,by omega,Pn m6 nf,fun H2 s2=>?_⟩;refine ⟨_,rfl,rfl,_,rfl,?_⟩;refine gA ?_;exact ⟨_,rfl,D,jV S (2^m),m,rfl,s2 _ _ hD1,ll,m6,fun H3 s3=>k H3 ((s1.trans s2).trans s3),fun r H3 o e s3 hr3 mf=>(Qj m6 nf mf).elim⟩
theorem xO {n:Nat}{f:Addr}{fd:FuncData}(F:dW K "is_pattern" "is_pattern" (top 58) f fd){p:xF}(pt:SN K p)(aHV:mg "Few" = some (.ref p.f))(S_:mg "Groups" = some (.ref p.g))(L_:mg "Listed" = some (.ref p.l))(a_:mg "isinstance" = none):aY P w K mg base cZ (n+1) f fd ["thing"] (Qn p):=by
 refine F.ok oG (fun vs H Q E h=>?_) (fun cdv A outer s H vs Q E hr h=>?_)
 ·obtain ⟨x,S,rfl,_⟩:=h
  rfl
 obtain ⟨x,S,rfl,hX,q⟩:=h;have nd:=oG.nd;refine ⟨_,(aG (aV (Lh (aW (gR (K:=K) rfl) rfl a_ bI (aA (pv 0) (aA (cN (v:=.ref p.f) rfl aHV rfl) aD))) (Lh (aW (gR (K:=K) rfl) rfl a_ bI (aA (pv 0) (aA (cN (v:=.ref p.g) rfl S_ rfl) aD))) (oZ (aW (gR (K:=K) rfl) rfl a_ bI (aA (pv 0) (aA (cN (v:=.ref p.l) rfl L_ rfl) aD)))))))),?_⟩;cases S with
 | few cc =>
  obtain ⟨dx,hx⟩:=(show tZ p.f H x cc from hX)
  refine ⟨_,rfl,_,p.f,.ref p.f,true,rfl,.ins hx pt.cf pt.fa pt.hn pt.htk pt.fm,pt.ff,?_⟩;refine ⟨_,rfl,?_⟩;refine gA ?_;exact q
 | groups gs ms =>
  obtain ⟨dx,g,m0,hx,hg,hm0⟩:=(show Cz p.g H x gs ms from hX)
  refine ⟨_,rfl,_,p.f,.ref p.g,false,rfl,.ins hx pt.cg pt.ga pt.hn pt.htk pt.gm,pt.gf,?_⟩;refine ⟨_,rfl,?_⟩;refine dU ?_;refine ⟨_,rfl,_,p.g,.ref p.g,true,rfl,.ins hx pt.cg pt.ga pt.hn pt.htk pt.gm,pt.gg,?_⟩;refine ⟨_,rfl,?_⟩;refine gA ?_;exact q
 | listed ks =>
  obtain ⟨ms,pm,so,dx,t,hx,ht⟩:=(show ∃ ms,ms.Perm ks/\ms.Pairwise (·<=·)/\Fj p.l H x ms from hX)
  refine ⟨_,rfl,_,p.f,.ref p.l,false,rfl,.ins hx pt.cl pt.la pt.hn pt.htk pt.lm,pt.lf,?_⟩;refine ⟨_,rfl,?_⟩;refine dU ?_;refine ⟨_,rfl,_,p.g,.ref p.l,false,rfl,.ins hx pt.cl pt.la pt.hn pt.htk pt.lm,pt.lg,?_⟩;refine ⟨_,rfl,?_⟩;refine dU ?_;exact ⟨_,rfl,_,p.l,.ref p.l,true,rfl,.ins hx pt.cl pt.la pt.hn pt.htk pt.lm,pt.ll,q⟩
theorem uI {n:Nat}{f:Addr}{fd:FuncData}(F:dW K "need_pattern" "need_pattern" (top 66) f fd){p:xF}{aKZ:Addr}{aKD:FuncData}(aK0:dF P w K mg base n "flaw" ["pattern","many"] (uO p) aKZ aKD){aIN:Addr}{aIs:FuncData}(aIO:dF P w K mg base n "is_pattern" ["thing"] (Qn p) aIN aIs):aY P w K mg base cZ (n+1) f fd ["pattern","many"] (uO p):=by
 refine F.ok mG (fun vs H Q E h=>?_) (fun cdv A outer s H vs Q E hr h=>?_)
 ·obtain ⟨x,S,m,rfl,_⟩:=h
  rfl
 obtain ⟨x,S,m,rfl,hO,hG,m1,m6,nf,k⟩:=h;have nd:=mG.nd;refine ⟨_,(aF (cL (cW (bW (aK aIO hr (aA (pv 0) aD)))) (aG kY) bJ) (aF (bC (i:=2) nd rfl (Or.inl rfl) (aK aK0 hr (aA (pv 0) (aA (pv 1) aD)))) (aG (cL (cQ QS (pv 2) mV (cM _)) (aG kY) bJ)))),?_⟩;refine ⟨_,rfl,x,S,rfl,hO,?_⟩;refine ⟨_,rfl,?_⟩;refine dU ?_;refine ⟨_,rfl,_,rfl,x,S,m,rfl,hO,hG,m1,m6,nf,fun H1 s1=>?_⟩;refine ⟨_,rfl,rfl,_,rfl,?_⟩;refine uP rfl ?_;exact k H1 s1
theorem Jx {n:Nat}{f:Addr}{fd:FuncData}(F:dW K "set_of" "set_of" (top 52) f fd)(Q_:mg "sum" = none):aY P w K mg base cZ (n+1) f fd ["boxes"] Lz:=by
 refine F.ok zP (fun vs H Q E h=>?_) (fun cdv A outer s H vs Q E hr h=>?_)
 ·obtain ⟨a,ks,rfl,_⟩:=h
  rfl
 obtain ⟨a,ks,rfl,ha,l9,hk,q⟩:=h;have nd:=zP.nd;refine ⟨_,(aG (aV (aW (m7 rfl) rfl Q_ wJ (aA (cD (ls:=["box"]) (M:=["boxes"]) rfl (bM.of (by rfl)) (NL.of (by rfl)) (bL (pv 0)) (fun _ _ _ _=>⟨(aP (i:=0) (bY (by rfl)) rfl (Or.inl rfl)),bV,(bA BL aJ (pv 0))⟩)) aD)))),?_⟩;have hlr:=cF ks;refine ⟨_,rfl,a,rfl,⟨_,bK.of ha⟩,fun D hD=>?_⟩;refine bQ (xs:=Is ks) (fun i τ H'=>∃ v0,τ = [v0,some (.ref a)]/\aR H H'/\H' D=some (.lst (Is ((ks.take i).map fun b=>(1:Int)*2^b.toNat)))) ⟨none,rfl,aH hD _,aC⟩ ?keep ?turn ?done
 case keep =>
  rintro i τ H' hi ⟨v0,rfl,hs,_⟩;exact bK.of (hs _ _ ha)
 case turn =>
  rintro i mm v τ H' hm hi hv ⟨v0,rfl,hs,hD'⟩;obtain ⟨b,hb1,rfl⟩:=qT hv;have hb2:=hk b (aLx hb1);unfold oO;refine dG ?_;refine ⟨_,rfl,_,_,rfl,rfl,⟨hb2.1,by omega,by decide⟩,?_⟩;refine bF hm hi hD' (by rw [cF,aLo,aLU]; exact aU (by omega)) ⟨_,rfl,hs.upd_new hD _,?_⟩;rw [aC,take_snoc hb1,aLB];show _=some (HO.lst (Is (_++[(1:Int)*2^b.toNat])));rw [j5]
 case done =>
  rintro τ H1 ⟨v0,rfl,s1,hD1⟩;rw [hlr,aLG] at hD1;exact ⟨D,_,rfl,bK.of hD1,q H1 s1⟩
end
end K51
namespace K51
open PySem L2 TD
open Builtin.Int (intBits)
section
variable {P:Program}{w:World}{K:PySem.W.Frag}{mg:Str->Option Value}{base:Heap}{Pt:Addr}
theorem Bt (x:Int){m:Int}(h:0<m):0<=x%m/\x%m<m:=⟨aNQ x (aLT h),aNv x h⟩
def aDX:Sp:=fun _ _ _ _=>False
theorem aAu {f:Addr}{fd:FuncData}{ps:List Str}{sp:Sp}(h:∀ vs H Q E,¬ sp vs H Q E)(m:Nat):aY P w K mg base cZ m f fd ps sp:=⟨fun vs H Q E z=>absurd z (h vs H Q E),fun A outer s H args us vs Q E _ _ _ _ z=>absurd z (h vs H Q E)⟩
theorem uF {n:Nat}{f:Addr}{fd:FuncData}(F:dW K "_law_cell_at" "_law_cell_at" (top 81) f fd)(i_:mg "len" = none):aY P w K mg base cZ (n+1) f fd ["_law_script","_law_k"] (RM K):=by
 refine F.ok mF (fun vs H Q E h=>?_) (fun cdv A outer s H vs Q E hr h=>?_)
 ·obtain ⟨a,ns,i,rfl,_⟩:=h
  rfl
 obtain ⟨a,ns,i,rfl,hS,i0,q⟩:=h;have nd:=mF.nd;refine ⟨_,(aF (cL (cQ Dp (pv 1) (aW cH rfl i_ iI (aA (pv 0) aD)) (cM _)) (aG (aV (bT gQ (pv 0) (pv 1) (fun _ _=>rfl)))) bJ) (aG (aV aJ))),?_⟩;have hl:(ns.map V.int).length=ns.length:=aLo _;refine ⟨_,rfl,_,rfl,a,_,rfl,.inl hS,_,_,rfl,rfl,_,rfl,?_⟩;refine GK (fun c=>?_) (fun c=>?_)
 ·have c':i<(((ns.map V.int).length:Nat):Int):=of_decide_eq_true c;rw [hl] at c';exact ⟨_,rfl,_,rfl,a,_,_,_,rfl,rfl,hS,Ky i0 c',q _⟩
 ·exact q _
theorem xX {n:Nat}{f:Addr}{fd:FuncData}(F:dW K "_law_mixed" "_law_mixed" (top 82) f fd):aY P w K mg base cZ (n+1) f fd ["_law_cell","_law_k"] Nq:=by
 refine F.ok oV (fun vs H Q E h=>?_) (fun cdv A outer s H vs Q E hr h=>?_)
 ·obtain ⟨c,i,rfl,_⟩:=h
  rfl
 obtain ⟨c,i,rfl,i0,i9,q⟩:=h;have nd:=oV.nd;refine ⟨_,(aF (bC (i:=2) nd rfl (Or.inl rfl) (bA fY (bA gC (bA gC (bA bZ (bA fY (pv 0) aJ) aJ) (bA K9 aJ (pv 1))) aJ) aJ)) (aF (bC (i:=2) nd rfl (Or.inl rfl) (bA fY (bA gC (bA bZ (pv 2) (pv 2)) (bA K9 aJ (pv 1))) aJ)) (aG (aV (bA fY (bA bZ (pv 2) (pv 2)) aJ))))),?_⟩;have b1:∀ x:Int,0<=x->x<2147483648->intBits x<=64:=fun x h1 h2=>PySem.intBits_le_64 (by omega) (by omega);have m1:=Bt c (show (0:Int)<2147483647 by decide);refine ⟨_,rfl,_,_,rfl,rfl,(by show (0:Int)<2147483647; decide),_,_,rfl,rfl,eE (b1 _ m1.1 (by omega)) (b1 48271 (by decide) (by decide)) (by decide),_,rfl,_,_,rfl,rfl,.inl ⟨by decide,by decide⟩,_,_,rfl,rfl,_,_,rfl,rfl,_,_,rfl,rfl,(by show (0:Int)<2147483647; decide),?_⟩;have n1:=Bt (c%2147483647*48271+7919*i+1) (show (0:Int)<2147483647 by decide);have nb:=b1 _ n1.1 (aOc n1.2 (by decide));refine ⟨_,rfl,_,rfl,_,_,rfl,rfl,eE nb nb (by decide),_,rfl,_,_,rfl,rfl,.inl ⟨by decide,by decide⟩,_,_,rfl,rfl,_,_,rfl,rfl,(by show (0:Int)<2147483629; decide),?_⟩;have k1:=Bt (((c%2147483647*48271+7919*i+1)%2147483647)*((c%2147483647*48271+7919*i+1)%2147483647)+7*i) (show (0:Int)<2147483629 by decide);have kb:=b1 _ k1.1 (aOc k1.2 (by decide));refine ⟨_,rfl,_,rfl,_,_,rfl,rfl,eE kb kb (by decide),_,_,rfl,rfl,(by show (0:Int)<2147483587; decide),?_⟩;exact q _ (aNQ _ (by decide)) (aNv _ (by decide))
theorem wL {n:Nat}{f:Addr}{fd:FuncData}(F:dW K "_law_plain" "_law_plain" (top 83) f fd){M_:Addr}{G_:FuncData}(N_:dF P w K mg base n "_law_plain" ["_law_thing"] aDX M_ G_)(a_:mg "isinstance" = none)(aCQ:mg "bool" = none)(aHz:mg "int" = none)(aIA:mg "str" = none)(j_:mg "list" = none)(g_:mg "tuple" = none):aY P w K mg base cZ (n+1) f fd ["_law_thing"] RB:=by
 refine F.ok iR (fun vs H Q E h=>?_) (fun cdv A outer s H vs Q E hr h=>?_)
 ·obtain ⟨i,rfl,_⟩:=h
  rfl
 obtain ⟨i,rfl,q⟩:=h;have nd:=iR.nd;refine ⟨_,(aF (cL (bW (aW (qN (K:=K) rfl) rfl a_ bI (aA (pv 0) (aA (dN (aA (eF (v:=.ty "tuple") rfl g_ eX rfl) (aA (eF (v:=.ty "list") rfl j_ jE rfl) aD))) aD)))) (aF (dB PassesOwn.never rfl (wZ (pv 0)) (aP (i:=1) nd rfl (Or.inl rfl)) (aG (cL (cW (bW (aK N_ hr (aA (pv 1) aD)))) (aG (aV iH)) bJ))) (aG (aV iH))) bJ) (aF (cL (PW.pt (mU (cQ BJ (pv 0) mV (cM _)) (j8 (bW (aW (cU (T:="str")) rfl a_ bI (aA (pv 0) (aA (eF (v:=.ty "str") rfl aIA Mi rfl) aD))))))) (aG (aV iH)) bJ) (aG (aV (qZ (aW (cU (T:="int")) rfl a_ bI (aA (pv 0) (aA (eF (v:=.ty "int") rfl aHz Fd rfl) aD))) (oZ (Gg (aW (cU (T:="bool")) rfl a_ bI (aA (pv 0) (aA (eF (v:=.ty "bool") rfl aCQ BP rfl) aD)))))))))),?_⟩;refine ⟨_,rfl,qU,fun t ht=>?_⟩;have n1:=aH ht (.tup [.ty "tuple",.ty "list"]);refine ⟨_,t,_,["tuple","list"],false,rfl,.int i,aC,(by rfl),_,rfl,?_⟩;refine dU ?_;refine ⟨_,rfl,rfl,_,rfl,?_⟩;refine dU ?_;refine ⟨_,rfl,_,_,_,rfl,.int i,(by rfl),_,rfl,?_⟩;refine dU ?_;refine ⟨_,rfl,_,_,_,rfl,.int i,fQ _,_,rfl,?_⟩;refine gA ?_;refine ⟨_,rfl,_,_,_,rfl,.int i,(by rfl),_,rfl,?_⟩;exact q _ n1
theorem Bd {n:Nat}{f:Addr}{fd:FuncData}(F:dW K "_law_same" "_law_same" (top 84) f fd){M_:Addr}{G_:FuncData}(N_:dF P w K mg base n "_law_plain" ["_law_thing"] R6 M_ G_):aY P w K mg base cZ (n+1) f fd ["_law_found","_law_due"] Zq:=by
 refine F.ok qD (fun vs H Q E h=>?_) (fun cdv A outer s H vs Q E hr h=>?_)
 ·obtain ⟨p,q,x,rfl,_⟩:=h
  rfl
 obtain ⟨p,q,x,rfl,hp,hq,k⟩:=h;have nd:=qD.nd;have hu0:=fV.units0 hr;refine ⟨_,(aG (aV (qZ (aK N_ hr (aA (pv 0) aD)) (oZ (j4 (Rq hu0) (pv 0) (pv 1) (cM _)))))),?_⟩;refine ⟨_,rfl,.inr ⟨p,x,rfl,hp,fun H1 s1=>?_⟩⟩;refine ⟨_,rfl,?_⟩;refine gA ?_;refine ⟨_,rfl,_,rfl,p,q,[x.1,x.2],[x.1,x.2],rfl,rfl,cY.of (s1 _ _ hp),cY.of (s1 _ _ hq),?_⟩;rw [decide_eq_true rfl];exact k H1 s1
theorem Dv {n:Nat}{f:Addr}{fd:FuncData}(F:dW K "_law_low" "_law_low" (top 85) f fd)(aIy:mg "abs" = none):aY P w K mg base cZ (n+1) f fd ["_law_top","_law_bottom"] Ht:=by
 refine F.ok sY (fun vs H Q E h=>?_) (fun cdv A outer s H vs Q E hr h=>?_)
 ·obtain ⟨t,b,rfl,_⟩:=h
  rfl
 obtain ⟨t,b,rfl,hb,hz,q⟩:=h;have nd:=sY.nd;refine ⟨_,(aF (bC (i:=2) nd rfl (Or.inl rfl) (aW DN rfl aIy M5 (aA (pv 0) aD))) (aF (bC (i:=3) nd rfl (Or.inl rfl) (pv 1)) (aF (Dz PassesOwn.never (cQ zH (pv 3) aJ (cM _)) (aG (U9 (i:=2) (j:=3) rfl nd rfl rfl (by decide) rfl rfl (aA (pv 3) (aA (bA Hw (pv 2) (pv 3)) aD)) rfl))) (aG (aV (dN (aA (bA fU (pv 0) (pv 2)) (aA (bA fU (pv 1) (pv 2)) aD)))))))),?_⟩;have hb0:b≠0:=aLT hb;have hdz:intBits (Fr.dv t b)<=9000:=PySem.intBits_le_of_natAbs (by rw [Fr.nH]; exact aNb t hb0) hz;have hdn:=Fr.Mu (t:=t) hb0;refine ⟨_,rfl,_,rfl,?_⟩;refine ⟨_,rfl,?_⟩;have e0:aL4 (if t<0 then -t else t) b=aL4 t b:=by
  rw [aNp,aNp]
  congr 1
  split <;> omega
 have h1:0<=(if t<0 then -t else t):=by split <;> omega
 refine Em (fun σ H'=>∃ x y,σ = [some (.int t),some (.int b),some (.int x),some (.int y)]/\aL4 x y=aL4 t b/\0<=x/\0<=y/\H'=H) (fun σ _=>match σ with | [_,_,_,some (.int y)]=>y.natAbs | _=>0) ⟨_,_,rfl,e0,h1,by omega,rfl⟩ (fun σ H' ⟨x,y,e,hg,x0,y0,eH⟩=>?_) (fun σ H Q Q' hQ ⟨v,e,i,j,e1,e2,k,ek,q⟩=>⟨v,e,i,j,e1,e2,k,ek,hQ _ _ q⟩);subst e eH;refine ⟨_,rfl,_,_,rfl,rfl,_,rfl,?_⟩
 by_cases hy:0<y
 ·refine uR (decide_eq_true hy) ?_;refine ⟨_,rfl,_,rfl,_,rfl,x,y,rfl,rfl,aLT hy,_,_,rfl,?_⟩;exact ⟨⟨y,x.fmod y,rfl,(Fr.Ck x y).trans hg,y0,aNe x hy,rfl⟩,Fr.yU (aLT hy)⟩
 ·refine uP (decide_eq_false hy) ?_;have ey:y=0:=by omega
  subst ey;have e:x=Fr.dv t b:=by
   unfold Fr.dv;rw [if_neg (by omega),<- hg,Int.gcd_zero];omega
  subst e;unfold Fr.sh at q;refine ⟨_,rfl,_,rfl,_,_,rfl,rfl,⟨hdn,hdz⟩,_,rfl,_,rfl,_,_,rfl,rfl,⟨hdn,hdz⟩,qU,fun p hp=>?_⟩;exact q p _ (aH hp _) aC
theorem Bw {n:Nat}{f:Addr}{fd:FuncData}(F:dW K "_law_plus" "_law_plus" (top 86) f fd){T_:Addr}{O_:FuncData}(U_:dF P w K mg base n "_law_low" ["_law_top","_law_bottom"] Ht T_ O_):aY P w K mg base cZ (n+1) f fd ["_law_one","_law_other"] aAE:=by
 refine F.ok qH (fun vs H Q E h=>?_) (fun cdv A outer s H vs Q E hr h=>?_)
 ·obtain ⟨p,q,x,y,rfl,_⟩:=h
  rfl
 obtain ⟨p,q,x,y,rfl,hp,hq,z1,z2,k⟩:=h;have nd:=qH.nd;refine ⟨_,(aG (aV (aK U_ hr (aA (bA gC (bA bZ (bT b7 (pv 0) aJ (fun _ _=>rfl)) (bT b7 (pv 1) aJ (fun _ _=>rfl))) (bA bZ (bT b7 (pv 1) aJ (fun _ _=>rfl)) (bT b7 (pv 0) aJ (fun _ _=>rfl)))) (aA (bA bZ (bT b7 (pv 0) aJ (fun _ _=>rfl)) (bT b7 (pv 1) aJ (fun _ _=>rfl))) aD))))),?_⟩;refine ⟨_,rfl,p,_,_,_,rfl,rfl,(cY.of hp),rfl,_,rfl,q,_,_,_,rfl,rfl,(cY.of hq),rfl,_,_,rfl,rfl,eE z1.t z2.b (by decide),_,rfl,q,_,_,_,rfl,rfl,(cY.of hq),rfl,_,rfl,p,_,_,_,rfl,rfl,(cY.of hp),rfl,_,_,rfl,rfl,eE z2.t z1.b (by decide),_,_,rfl,rfl,_,rfl,p,_,_,_,rfl,rfl,(cY.of hp),rfl,_,rfl,q,_,_,_,rfl,rfl,(cY.of hq),rfl,_,_,rfl,rfl,eE z1.b z2.b (by decide),_,_,rfl,aLY z1.p z2.p,aLv (PySem.intBits_mul_le z1.b z2.b) (by decide),k⟩
theorem xY {n:Nat}{f:Addr}{fd:FuncData}(F:dW K "_law_times" "_law_times" (top 87) f fd){T_:Addr}{O_:FuncData}(U_:dF P w K mg base n "_law_low" ["_law_top","_law_bottom"] Ht T_ O_):aY P w K mg base cZ (n+1) f fd ["_law_one","_law_other"] Zr:=by
 refine F.ok oJ (fun vs H Q E h=>?_) (fun cdv A outer s H vs Q E hr h=>?_)
 ·obtain ⟨p,q,x,y,rfl,_⟩:=h
  rfl
 obtain ⟨p,q,x,y,rfl,hp,hq,z1,z2,k⟩:=h;have nd:=oJ.nd;refine ⟨_,(aG (aV (aK U_ hr (aA (bA bZ (bT b7 (pv 0) aJ (fun _ _=>rfl)) (bT b7 (pv 1) aJ (fun _ _=>rfl))) (aA (bA bZ (bT b7 (pv 0) aJ (fun _ _=>rfl)) (bT b7 (pv 1) aJ (fun _ _=>rfl))) aD))))),?_⟩;refine ⟨_,rfl,p,_,_,_,rfl,rfl,(cY.of hp),rfl,_,rfl,q,_,_,_,rfl,rfl,(cY.of hq),rfl,_,_,rfl,rfl,eE z1.t z2.t (by decide),_,rfl,p,_,_,_,rfl,rfl,(cY.of hp),rfl,_,rfl,q,_,_,_,rfl,rfl,(cY.of hq),rfl,_,_,rfl,rfl,eE z1.b z2.b (by decide),_,_,rfl,aLY z1.p z2.p,aLv (PySem.intBits_mul_le z1.b z2.b) (by decide),k⟩
theorem Ba {n:Nat}{f:Addr}{fd:FuncData}(F:dW K "_law_less" "_law_less" (top 88) f fd):aY P w K mg base cZ (n+1) f fd ["_law_one","_law_other"] O3:=by
 refine F.ok pF (fun vs H Q E h=>?_) (fun cdv A outer s H vs Q E hr h=>?_)
 ·obtain ⟨p,q,x,y,rfl,_⟩:=h
  rfl
 obtain ⟨p,q,x,y,rfl,hp,hq,z1,z2,k⟩:=h;have nd:=pF.nd;refine ⟨_,(aG (aV (j4 Dp (bA bZ (bT b7 (pv 0) aJ (fun _ _=>rfl)) (bT b7 (pv 1) aJ (fun _ _=>rfl))) (bA bZ (bT b7 (pv 1) aJ (fun _ _=>rfl)) (bT b7 (pv 0) aJ (fun _ _=>rfl))) (cM _)))),?_⟩;exact ⟨_,rfl,p,_,_,_,rfl,rfl,(cY.of hp),rfl,_,rfl,q,_,_,_,rfl,rfl,(cY.of hq),rfl,_,_,rfl,rfl,eE z1.t z2.b (by decide),_,rfl,q,_,_,_,rfl,rfl,(cY.of hq),rfl,_,rfl,p,_,_,_,rfl,rfl,(cY.of hp),rfl,_,_,rfl,rfl,eE z2.t z1.b (by decide),_,_,rfl,rfl,k⟩
theorem xQ {n:Nat}{f:Addr}{fd:FuncData}(F:dW K "_law_plain" "_law_plain" (top 83) f fd){M_:Addr}{G_:FuncData}(N_:dF P w K mg base n "_law_plain" ["_law_thing"] RB M_ G_)(a_:mg "isinstance" = none)(aCQ:mg "bool" = none)(aHz:mg "int" = none)(aIA:mg "str" = none)(j_:mg "list" = none)(g_:mg "tuple" = none):aY P w K mg base cZ (n+1) f fd ["_law_thing"] R6:=by
 refine F.ok iR (fun vs H Q E h=>?_) (fun cdv A outer s H vs Q E hr h=>?_)
 ·rcases h with ⟨i,rfl,_⟩ | ⟨p,x,rfl,_⟩ <;> rfl
 have nd:=iR.nd;refine ⟨_,(aF (cL (bW (aW (qN (K:=K) rfl) rfl a_ bI (aA (pv 0) (aA (dN (aA (eF (v:=.ty "tuple") rfl g_ eX rfl) (aA (eF (v:=.ty "list") rfl j_ jE rfl) aD))) aD)))) (aF (dB PassesOwn.never rfl (wZ (pv 0)) (aP (i:=1) nd rfl (Or.inl rfl)) (aG (cL (cW (bW (aK N_ hr (aA (pv 1) aD)))) (aG (aV iH)) bJ))) (aG (aV iH))) bJ) (aF (cL (PW.pt (mU (cQ BJ (pv 0) mV (cM _)) (j8 (bW (aW (cU (T:="str")) rfl a_ bI (aA (pv 0) (aA (eF (v:=.ty "str") rfl aIA Mi rfl) aD))))))) (aG (aV iH)) bJ) (aG (aV (qZ (aW (cU (T:="int")) rfl a_ bI (aA (pv 0) (aA (eF (v:=.ty "int") rfl aHz Fd rfl) aD))) (oZ (Gg (aW (cU (T:="bool")) rfl a_ bI (aA (pv 0) (aA (eF (v:=.ty "bool") rfl aCQ BP rfl) aD)))))))))),?_⟩;rcases h with ⟨i,rfl,q⟩ | ⟨p,x,rfl,hp,q⟩
 ·
  refine ⟨_,rfl,qU,fun t ht=>?_⟩;have n1:=aH ht (.tup [.ty "tuple",.ty "list"]);refine ⟨_,t,_,["tuple","list"],false,rfl,.int i,aC,(by rfl),_,rfl,?_⟩;refine dU ?_;refine ⟨_,rfl,rfl,_,rfl,?_⟩;refine dU ?_;refine ⟨_,rfl,_,_,_,rfl,.int i,(by rfl),_,rfl,?_⟩;refine dU ?_;refine ⟨_,rfl,_,_,_,rfl,.int i,fQ _,_,rfl,?_⟩;refine gA ?_;refine ⟨_,rfl,_,_,_,rfl,.int i,(by rfl),_,rfl,?_⟩;exact q _ n1
 ·refine ⟨_,rfl,qU,fun t ht=>?_⟩;have n1:=aH ht (.tup [.ty "tuple",.ty "list"]);have hp1:=n1 _ _ hp;refine ⟨_,t,_,["tuple","list"],true,rfl,.tup hp1,aC,(by rfl),_,rfl,?_⟩;refine gA ?_;generalize aX H t (.tup [.ty "tuple",.ty "list"])=H1 at n1 hp1 ⊢;refine ⟨_,rfl,p,rfl,⟨_,cY.of hp1⟩,?_⟩;refine Ia (xs:=[V.int x.1,V.int x.2]) (fun i σ H'=>∃ v,σ = [some (.ref p),v]/\aR H1 H') ⟨none,rfl,aR.refl _⟩ ?keep ?turn ?done
  case keep =>
   rintro i σ H' hi ⟨v,rfl,hs⟩;exact cY.of (hs _ _ hp1)
  case turn =>
   rintro i y σ H' hy ⟨v,rfl,hs⟩;obtain ⟨z,rfl⟩:∃ z,y=V.int z:=by
    have:=aLx hy;rcases aLF.mp this with e | e
    ·exact ⟨_,e⟩
    ·exact ⟨_,aLy.mp e⟩
   refine ⟨_,rfl,z,rfl,fun H2 s2=>?_⟩;refine ⟨_,rfl,?_⟩;refine dU ?_;exact ⟨_,rfl,hs.trans s2⟩
  case done =>
   rintro σ H' ⟨v,rfl,hs⟩;exact q H' (n1.trans hs)
theorem DX {n:Nat}{f:Addr}{fd:FuncData}(F:dW K "_law_row" "_law_row" (top 89) f fd){aGw:Addr}{aBW:FuncData}(aGS:dF P w K mg base n "_law_mixed" ["_law_cell","_law_k"] Nq aGw aBW)(gV:mg "range" = none):aY P w K mg base cZ (n+1) f fd ["_law_cell","_law_bit","_law_many"] Li:=by
 refine F.ok tV (fun vs H Q E h=>?_) (fun cdv A outer s H vs Q E hr h=>?_)
 ·obtain ⟨c,b,n,rfl,_⟩:=h
  rfl
 obtain ⟨c,b,n,rfl,rfl,q⟩:=h;have nd:=tV.nd;refine ⟨_,(aF (bC (i:=3) nd rfl (Or.inl rfl) (dM aD)) (aF (dB PassesOwn.never rfl (dX rfl gV (aA (pv 2) aD)) (aP (i:=4) nd rfl (Or.inl rfl)) (aG (cL (cQ uY (bA fY (pv 1) aJ) aJ (cM _)) (aF (fL (lX PySem.F.plainAttrs_list PySem.F.slot_list_append PySem.F.type_list_append jH (pv 3) (aA (bA fY (pv 0) aJ) aD))) (aG (bC (i:=0) nd rfl (Or.inl rfl) (bA fU (pv 0) aJ)))) (aG (fL (lX PySem.F.plainAttrs_list PySem.F.slot_list_append PySem.F.type_list_append jH (pv 3) (aA (aK aGS hr (aA (pv 0) (aA (pv 4) aD))) aD))))))) (aG (aV (pv 3))))),?_⟩;refine ⟨aLQ _,fun r hr0=>?_⟩;have n1:=aH hr0 (.lst []);refine ⟨_,rfl,151,rfl,by decide,by decide,?_⟩;refine gM (n:=(151:Int).toNat) (fun i σ H'=>∃ c v ns,σ = [some (.int c),some (.int b),some (.int 151),some (.ref r),v]/\aR H H'/\H' r=some (.lst (Is ns))/\ns.length=i) ⟨c,none,[],rfl,n1,aC,rfl⟩ ?turn ?done
 case done =>
  rintro σ H' ⟨c,v,ns,rfl,hs,hr1,nl⟩;exact ⟨_,rfl,q r H' ns hs hr0 hr1 nl⟩
 case turn =>
  rintro i σ H' hi ⟨c,v,ns,rfl,hs,hr1,nl⟩;have hi':i<151:=hi;refine ⟨_,rfl,_,_,rfl,rfl,(by show (0:Int)<2; decide),rfl,_,rfl,?_⟩;have push:∀ (z:Int),aR H (aX H' r (.lst (Is ns++[V.int z])))/\aX H' r (.lst (Is ns++[V.int z])) r=some (.lst (Is (ns++[z])))/\(ns++[z]).length=i+1:=fun z=>⟨hs.upd_new hr0 _,by rw [aC,j5],by rw [aLP,nl]; rfl⟩
  refine GK (fun _=>?_) (fun _=>?_)
  ·refine ⟨_,rfl,.inl ⟨rfl,_,bK.of hr1⟩,_,rfl,_,_,rfl,rfl,(by show (0:Int)<2147483647; decide),r,_,_,rfl,rfl,hr1,by rw [cF]; exact aU (by omega),?_⟩;refine ⟨_,rfl,_,_,rfl,rfl,⟨by decide,by decide⟩,?_⟩;obtain ⟨a1,a2,a3⟩:=push (c%2147483647);exact ⟨_,_,_,rfl,a1,a2,a3⟩
  ·refine ⟨_,rfl,.inl ⟨rfl,_,bK.of hr1⟩,_,rfl,_,rfl,c,0+(i:Int),rfl,by omega,by omega,fun j _ _=>?_⟩;refine ⟨r,_,_,rfl,rfl,hr1,by rw [cF]; exact aU (by omega),?_⟩;obtain ⟨a1,a2,a3⟩:=push j;exact ⟨_,_,_,rfl,a1,a2,a3⟩
theorem at3 {α:Type}(x y z:α)(c:Int):∃ v,Hq [x,y,z] (c%3)=some v/\(v=x∨v=y∨v=z):=by
 have h:=Bt c (show (0:Int)<3 by decide);rcases (by omega:c%3=0∨c%3=1∨c%3=2) with e | e | e
 ·exact ⟨x,by rw [e]; rfl,.inl rfl⟩
 ·exact ⟨y,by rw [e]; rfl,.inr (.inl rfl)⟩
 ·exact ⟨z,by rw [e]; rfl,.inr (.inr rfl)⟩
end
end K51
namespace K51
open PySem L2 TD TP
open Builtin.Int (intBits)
section
variable {P:Program}{w:World}{K:PySem.W.Frag}{mg:Str->Option Value}{base:Heap}{Pt:Addr}
theorem FJ {n:Nat}{f:Addr}{fd:FuncData}(F:dW K "_law_box" "_law_box" (top 90) f fd){n0:Nat}{aHt:Addr}{aG3:FuncData}(aHu:dF P w K mg base n "_law_box" ["_law_row_here","_law_deep","_law_most","_law_scale"] (Io n0) aHt aG3)(g_:mg "tuple" = none)(gV:mg "range" = none)(aIB:mg "min" = none):aY P w K mg base cZ (n+1) f fd ["_law_row_here","_law_deep","_law_most","_law_scale"] (Io (n0+1)):=by
 refine F.ok sV (fun vs H Q E h=>?_) (fun cdv A outer s H vs Q E hr h=>?_)
 ·obtain ⟨L,ns,d,m,sc,rfl,_⟩:=h
  rfl
 obtain ⟨L,ns,d,m,sc,rfl,hL,dn,d4,h1,m12,s1,s9,hp,hq,q⟩:=h;have nd:=sV.nd;refine ⟨_,(aF (bC (i:=4) nd rfl (Or.inl rfl) (lX PySem.F.plainAttrs_list PySem.F.slot_list_pop PySem.F.type_list_pop m5 (pv 0) (aA aJ aD))) (aF (cL (PW.pt (mU (cQ uY (pv 1) aJ (cM _)) (mU (cQ uY (bA fY (pv 4) aJ) aJ (cM _)) (j8 (PW.pt (GQ (cQ uY (pv 2) aJ (cM _)) (Av (cQ zH (bA fY (pv 4) aJ) aJ (cM _))))))))) (aG (aV (dN (aA oY (aA (bA fY (lX PySem.F.plainAttrs_list PySem.F.slot_list_pop PySem.F.type_list_pop m5 (pv 0) (aA aJ aD)) (pv 3)) aD))))) bJ) (aF (bC (i:=5) nd rfl (Or.inl rfl) (aW (zX rfl) rfl aIB Nz (aA (bA gC aJ (bA fY (bA pH (pv 4) aJ) aJ)) (aA (pv 2) aD)))) (aF (bC (i:=6) nd rfl (Or.inl rfl) (bA pH (bA fY (lX PySem.F.plainAttrs_list PySem.F.slot_list_pop PySem.F.type_list_pop m5 (pv 0) (aA aJ aD)) (pv 3)) (bA gC aJ (bA fY (bA pH (pv 4) aJ) aJ)))) (aF (bC (i:=7) nd rfl (Or.inl rfl) (dM aD)) (aF (dB PassesOwn.never rfl (dX rfl gV (aA (pv 5) aD)) (aP (i:=8) nd rfl (Or.inl rfl)) (aF (bC (i:=9) nd rfl (Or.inl rfl) (bA gC aJ (bA fY (lX PySem.F.plainAttrs_list PySem.F.slot_list_pop PySem.F.type_list_pop m5 (pv 0) (aA aJ aD)) (bT gQ (dM (aA aJ (aA aJ aD))) (bA fY (bA pH (pv 4) aJ) aJ) (fun _ _=>rfl))))) (aG (fL (lX PySem.F.plainAttrs_list PySem.F.slot_list_append PySem.F.type_list_append jH (pv 7) (aA (dN (aA (pv 9) (aA (aK aHu hr (aA (pv 0) (aA (bA mK (pv 1) aJ) (aA (bA pH (pv 2) (pv 5)) (aA (pv 3) aD))))) aD))) aD)))))) (aG (aV (dN (aA oY (aA (pv 6) (aA (cX (cO (K:=K) rfl) rfl g_ eX (aA (pv 7) aD)) aD)))))))))))),?_⟩;cases ns with
 | nil=>have:=Um d m; simp at hp; omega
 | cons m0 ns =>
 cases ns with
 | nil=>have:=Um d m; simp at hp; omega
 | cons m1 ns =>
 have hlen:(m0::m1::ns).length=ns.length+2:=rfl;have p2:=Um d m;have e1:=m9 m1 (show 0<sc by omega);refine ⟨_,rfl,.inl ⟨rfl,_,bK.of hL⟩,L,_,0,0,.int m0,rfl,rfl,hL,by decide,by decide,Tu (by simp),rfl,?_⟩;have hL1:aX H L (.lst (Is (m1::ns))) L=some (.lst (Is (m1::ns))):=aC;have k1:∀ b o,b≠L->H b=some o->aX (aX H L (.lst (Is (m1::ns)))) L (.lst (Is ns)) b=some o:=fun b o nb e=>by rw [aO nb,aO nb]; exact e
 have hL2:(aX (aX H L (.lst (Is (m1::ns)))) L (.lst (Is ns))) L=some (.lst (Is ns)):=aC;have fin:∀ r,(aX (aX H L (.lst (Is (m1::ns)))) L (.lst (Is ns))) r=none->Q (.ref r) (aX (aX (aX H L (.lst (Is (m1::ns)))) L (.lst (Is ns))) r (.tup [.str "end",.int (m1%sc)])):=fun r hr1=>by
  have n3:=aH hr1 (.tup [.str "end",.int (m1%sc)]);refine q r _ (.en (m1%sc)) ns (fun b o nb e=>n3 _ _ (k1 b o nb e)) (n3 _ _ hL2) (by omega) (by omega) (.en aC) (.en e1.1 (by omega) h1)
 refine ⟨_,rfl,rfl,_,rfl,?_⟩;refine GK (fun _=>?_) (fun c0=>?_)
 ·refine ⟨_,rfl,.inl ⟨rfl,_,bK.of hL1⟩,L,_,0,0,.int m1,rfl,rfl,hL1,by decide,by decide,Tu (by simp),rfl,_,rfl,_,_,rfl,rfl,by omega,qU,fun r hr1=>?_⟩;exact fin r hr1
 have d0:d≠0:=fun e=>c0 (decide_eq_true (by rw [e]; rfl));refine ⟨_,rfl,_,_,rfl,rfl,(by show (0:Int)<5; decide),rfl,_,rfl,?_⟩;refine GK (fun _=>?_) (fun c1=>?_)
 ·refine ⟨_,rfl,.inl ⟨rfl,_,bK.of hL1⟩,L,_,0,0,.int m1,rfl,rfl,hL1,by decide,by decide,Tu (by simp),rfl,_,rfl,_,_,rfl,rfl,by omega,qU,fun r hr1=>?_⟩;exact fin r hr1
 refine ⟨_,rfl,rfl,_,rfl,?_⟩;refine V7 ?st (fun hS=>?en)
 case en =>
  refine ⟨_,rfl,_,_,rfl,rfl,(by show (0:Int)<3; decide),_,_,rfl,rfl,_,rfl,?_⟩;refine GK (fun _=>?_) (fun _=>hS);refine ⟨_,rfl,.inl ⟨rfl,_,bK.of hL1⟩,L,_,0,0,.int m1,rfl,rfl,hL1,by decide,by decide,Tu (by simp),rfl,_,rfl,_,_,rfl,rfl,by omega,qU,fun r hr1=>?_⟩;exact fin r hr1
 obtain ⟨d,rfl⟩:∃ d',d=d'+1:=⟨d-1,by omega⟩
 have b4:=m9 (m0/5) (show (0:Int)<4 by decide);have b9:=m9 (m0/40) (show (0:Int)<9 by decide);obtain ⟨M,hM,M1,M4,Mm⟩:∃ M:Nat,(if (m:Int)<1+m0/5%4 then (m:Int) else 1+m0/5%4)=(M:Int)/\1<=M/\M<=4/\M<=m:=by
  split
  ·exact ⟨m,rfl,h1,by omega,aLu _⟩
  ·exact ⟨(1+m0/5%4).toNat,by omega,by omega,by omega,by omega⟩
 refine ⟨_,rfl,_,_,rfl,rfl,⟨by decide,by decide⟩,_,_,rfl,rfl,(by show (0:Int)<4; decide),_,_,rfl,rfl,_,rfl,_,_,rfl,?_⟩;rw [hM];refine ⟨_,rfl,.inl ⟨rfl,_,bK.of hL1⟩,L,_,0,0,.int m1,rfl,rfl,hL1,by decide,by decide,Tu (by simp),rfl,_,rfl,_,_,rfl,rfl,by omega,_,rfl,_,_,rfl,rfl,⟨by decide,by decide⟩,_,_,rfl,rfl,(by show (0:Int)<9; decide),_,_,rfl,rfl,_,_,rfl,rfl,⟨by omega,by omega⟩,?_⟩;refine ⟨aLQ _,fun R hR=>?_⟩;have n3:=aH hR (.lst []);have hL3:=n3 _ _ hL2;have k3:∀ b o,b≠L->H b=some o->(aX (aX (aX H L (.lst (Is (m1::ns)))) L (.lst (Is ns))) R (.lst [])) b=some o:=fun b o nb e=>n3 _ _ (k1 b o nb e);have nRL:R≠L:=fun e=>by rw [e,aC] at hR; cases hR
 have hR0:H R=none:=by rw [aO nRL,aO nRL] at hR; exact hR
 have hR3:(aX (aX (aX H L (.lst (Is (m1::ns)))) L (.lst (Is ns))) R (.lst [])) R=some (.lst (([]:List Addr).map V.ref)):=aC;have pn:=aDy (d:=d) (m:=m) (n:=M) M1 M4 Mm;have cb:0<=m1%sc/(1+m0/40%9)/\m1%sc/(1+m0/40%9)<=1000000000:=by
  have a:=Int.ediv_nonneg e1.1 (show (0:Int)<=1+m0/40%9 by omega);have b:=Int.ediv_le_self (b:=1+m0/40%9) e1.1;exact ⟨a,by omega⟩
 refine ⟨_,rfl,(M:Int),rfl,by omega,by omega,?_⟩;refine gM (n:=(M:Int).toNat) (fun i σ H'=>∃ v8 v9 ps ys rs ns3,σ = [some (.ref L),some (.int ((d+1:Nat):Int)),some (.int (m:Int)),some (.int sc),some (.int m0),some (.int (M:Int)),some (.int (m1%sc/(1+m0/40%9))),some (.ref R),v8,v9]/\(∀ b o,b≠L->H b=some o->H' b=some o)/\H' L=some (.lst (Is ns3))/\H' R=some (.lst (ps.map V.ref))/\yD H' ps ys rs/\rs.length=i/\(∀ r∈rs,1<=r.1/\r.1<=1000)/\(∀ r∈rs,Sd.Ok r.2 d (m/M))/\ns.length<=ns3.length+i*(1+pp d (m/M))/\ns3.length<=ns.length)
  ⟨none,none,[],[],[],ns,rfl,k3,hL3,hR3,⟨rfl,rfl,(fun i q y t a=>by simp at a),(fun i y t a=>by simp at a)⟩,rfl,(fun _ h=>nomatch h),(fun _ h=>nomatch h),by omega,aLu _⟩ ?turn ?done
 case turn =>
  rintro i σ H' hi ⟨v8,v9,ps,ys,rs,ns3,rfl,kH,hLi,hRi,tw,rl,rw_,ro,l1,l2⟩;have hiM:i<M:=by omega
  have im:(i+1)*(1+pp d (m/M))<=M*(1+pp d (m/M)):=aMD _ hiM;have im2:(i+1)*(1+pp d (m/M))=i*(1+pp d (m/M))+(1+pp d (m/M)):=aNM _ _;cases ns3 with
  | nil=>exfalso; simp at l1; omega
  | cons z ns4 =>
  have l3:(z::ns4).length=ns4.length+1:=rfl;refine ⟨_,rfl,.inl ⟨rfl,_,bK.of hLi⟩,L,_,0,0,.int z,rfl,rfl,hLi,by decide,by decide,Tu (by simp),rfl,?_⟩;refine ⟨qU,fun l hl=>?_⟩;have n5:=aH hl (.lst [.int 3,.int 1000]);obtain ⟨v,ev,hv⟩:=at2 (V.int 3) (V.int 1000) (m0/20);obtain ⟨u,rfl,u1,u9⟩:∃ u:Int,v=.int u/\1<=u/\u<=1000:=by
   rcases hv with e | e
   ·exact ⟨3,e,by decide,by decide⟩
   ·exact ⟨1000,e,by decide,by decide⟩
  refine ⟨_,rfl,_,_,rfl,rfl,⟨by decide,by decide⟩,_,_,rfl,rfl,(by show (0:Int)<2; decide),l,_,_,_,rfl,rfl,bK.of aC,ev,_,_,rfl,rfl,by omega,_,_,rfl,rfl,?_⟩;have zu:=m9 z (show 0<u by omega);have hLj:aX (aX H' L (.lst (Is ns4))) l (.lst [.int 3,.int 1000]) L=some (.lst (Is ns4)):=n5 _ _ aC;have hRj:aX (aX H' L (.lst (Is ns4))) l (.lst [.int 3,.int 1000]) R=some (.lst (ps.map V.ref)):=n5 _ _ (by rw [aO nRL]; exact hRi);have kj:∀ b o,b≠L->H' b=some o->aX (aX H' L (.lst (Is ns4))) l (.lst [.int 3,.int 1000]) b=some o:=fun b o nb e=>n5 _ _ (by rw [aO nb]; exact e);refine ⟨_,rfl,.inl ⟨rfl,_,bK.of hRj⟩,_,rfl,_,rfl,_,rfl,_,_,rfl,rfl,_,rfl,_,rfl,_,_,rfl,rfl,⟨by omega,by omega⟩,_,rfl,L,ns4,d,m/M,sc,?_,hLj,by omega,by omega,?_,?_,s1,s9,by omega,by omega,fun r H6 s6 ns6 k6 hL6 l6 l7 t6 o6=>?_⟩
  ·have e1:((d+1:Nat):Int)-1=(d:Int):=by omega
   have e2:(m:Int)/(M:Int)=((m/M:Nat):Int):=(Int.natCast_ediv m M).symm;show [V.ref L,V.int (((d+1:Nat):Int)-1),V.int ((m:Int)/(M:Int)),V.int sc]=_;rw [e1,e2]
  ·exact (Nat.le_div_iff_mul_le (by omega)).mpr (by omega)
  ·exact aLv (Nat.div_le_self _ _) m12
  refine ⟨qU,fun T hT=>?_⟩;have n7:=aH hT (.tup [.int (1+z%u),.ref r]);have hR6:=k6 _ _ nRL hRj;have hR7:=n7 _ _ hR6;have nTR:T≠R:=fun e=>by rw [e,hR6] at hT; cases hT
  have pl:ps.length=i:=by rw [tw.lp,rl]
  have tR:∀ b xs,aX H6 T (.tup [.int (1+z%u),.ref r]) b=some (.tup xs)->aX (aX H6 T (.tup [.int (1+z%u),.ref r])) R (.lst (ps.map V.ref++[.ref T])) b=some (.tup xs):=fun b xs e=>by rw [aO (cI e hR7 fun w=>nomatch w)]; exact e
  have tw7:=((tw.keep fun b xs e=>n7 _ _ (k6 _ _ (cI e hLi fun w=>nomatch w) (kj _ _ (cI e hLi fun w=>nomatch w) e))).keep tR).snoc (t:=(1+z%u,s6)) (tR _ _ aC) ((t6.same n7).keep tR);refine ⟨R,_,_,rfl,rfl,hR7,by rw [aLo,pl]; exact aU (by omega),?_⟩;refine ⟨_,_,ps++[T],ys++[r],rs++[(1+z%u,s6)],ns6,rfl,fun b o nb e=>?_,?_,by rw [aC,aLB]; rfl,tw7,by rw [aLP,rl]; rfl,fun x hx=>?_,fun x hx=>?_,by omega,by omega⟩
  ·have hb:b≠R:=fun w=>by rw [w,hR0] at e; cases e
   rw [aO hb];exact n7 _ _ (k6 _ _ nb (kj _ _ nb (kH b o nb e)))
  ·rw [aO (Ne.symm nRL)];exact n7 _ _ hL6
  ·rcases aLO.mp hx with w | w
   ·exact rw_ x w
   ·rw [aLy.mp w];exact ⟨by show 1<=1+z%u; omega,by show 1+z%u<=1000; omega⟩
  ·rcases aLO.mp hx with w | w
   ·exact ro x w
   ·rw [aLy.mp w];exact o6
 case done =>
  rintro σ H' ⟨v8,v9,ps,ys,rs,ns3,rfl,kH,hLi,hRi,tw,rl,rw_,ro,l1,l2⟩;rw [show (M:Int).toNat=M by omega] at rl l1;refine ⟨_,rfl,_,rfl,R,_,rfl,.inl ⟨bK.of hRi,fun t ht=>?_⟩⟩;have n5:=aH ht (.tup (ps.map V.ref));refine ⟨sz3,fun r hr1=>?_⟩;have n6:=aH hr1 (.tup [.str "stage",.int (m1%sc/(1+m0/40%9)),.ref t]);have tw6:=(tw.same n5).same n6;refine q r _ (.st (m1%sc/(1+m0/40%9)) rs) ns3 (fun b o nb e=>n6 _ _ (n5 _ _ (kH b o nb e))) (n6 _ _ (n5 _ _ hLi)) (by omega) (by omega) (.st aC (n6 _ _ aC) tw6.lp tw6.ly tw6.row tw6.sub) (.st (f:=fun _=>m/M) cb.1 cb.2 (fun e=>by rw [e] at rl; have:(0:Nat)=M:=rl; omega) (by omega) rw_ ro (by rw [List.map_const',List.sum_replicate_nat,rl]; exact Nat.mul_div_le m M))
end
end K51
namespace K51
open PySem L2 TD
open Builtin.Int (intBits)
section
variable {P:Program}{w:World}{K:PySem.W.Frag}{mg:Str->Option Value}{base:Heap}{Pt:Addr}
theorem wX {n:Nat}{f:Addr}{fd:FuncData}(F:dW K "_law_beside" "_law_beside" (top 92) f fd){n0:Nat}{aJc:Addr}{aIP:FuncData}(aJd:dF P w K mg base n "_law_less" ["_law_one","_law_other"] O3 aJc aIP){aJe:Addr}{aIQ:FuncData}(aJf:dF P w K mg base n "_law_plus" ["_law_one","_law_other"] aAE aJe aIQ){aIR:Addr}{aIt:FuncData}(aIS:dF P w K mg base n "_law_times" ["_law_one","_law_other"] Zr aIR aIt){aBX:Addr}{V_:FuncData}(aBY:dF P w K mg base n "_law_beside" ["_law_told","_law_level"] (Ql n0) aBX V_){T_:Addr}{O_:FuncData}(U_:dF P w K mg base n "_law_low" ["_law_top","_law_bottom"] Ht T_ O_)(Q_:mg "sum" = none):aY P w K mg base cZ (n+1) f fd ["_law_told","_law_level"] (Ql (n0+1)):=by
 refine F.ok mR (fun vs H Q E h=>?_) (fun cdv A outer s H vs Q E hr h=>?_)
 ·obtain ⟨a,l,s,lv,d,m,rfl,_⟩:=h
  rfl
 obtain ⟨a,l,s,lv,d,m,rfl,to,ok,dn,d4,m12,hl,hv,q⟩:=h;have nd:=mR.nd;refine ⟨_,(aF (cL (cQ uY (bT b7 (pv 0) aJ (fun _ _=>rfl)) oY (cM _)) (aG (bC (i:=2) nd rfl (Or.inl rfl) (dN (aA (bT b7 (pv 0) aJ (fun _ _=>rfl)) (aA aJ aD))))) (aF (bC (i:=2) nd rfl (Or.inl rfl) (dN (aA (bA mK aJ (bT b7 (pv 0) aJ (fun _ _=>rfl))) (aA aJ aD)))) (aF (bC (i:=3) nd rfl (Or.inl rfl) (aW (m7 rfl) rfl Q_ wJ (aA (cD (ls:=["_law_weight","_law_part"]) (M:=["_law_told","_law_level","_law_total","_law_every","_law_weight#","_law_part#"]) rfl (bM.of (by rfl)) (NL.of (by rfl)) (wZ (bT b7 (pv 0) aJ (fun _ _=>rfl))) (fun _ _ _ _=>⟨(fK (K:=K) (n:=2) rfl rfl (bG (aP (i:=0) (bY (by rfl)) rfl (Or.inl rfl)) (bG (aP (i:=1) (bY (by rfl)) rfl (Or.inl rfl)) dJ))),bV,(pv 0)⟩)) aD))) (aG (dB PassesOwn.never rfl (wZ (bT b7 (pv 0) aJ (fun _ _=>rfl))) (rK rfl (bG (aP (i:=4) nd rfl (Or.inl rfl)) (bG (aP (i:=5) nd rfl (Or.inl rfl)) dJ))) (aG (bC (i:=2) nd rfl (Or.inl rfl) (aK aJf hr (aA (pv 2) (aA (aK aIS hr (aA (aK U_ hr (aA (pv 4) (aA (pv 3) aD))) (aA (aK aBY hr (aA (pv 5) (aA (pv 1) aD))) aD))) aD)))))))))) (aF (cL (bW (aK aJd hr (aA (pv 1) (aA (pv 2) aD)))) (aG (aV (pv 2))) bJ) (aG (aV (pv 1))))),?_⟩;cases to with
 | @en _ v h =>
  cases ok with
  | en h0 h9 hm =>
  refine ⟨_,rfl,a,_,_,_,rfl,rfl,cY.of h,rfl,rfl,_,rfl,?_⟩;refine gA ?_;refine ⟨_,rfl,a,_,_,_,rfl,rfl,cY.of h,rfl,qU,fun t ht=>?_⟩;have n1:=aH ht (.tup [.int v,.int 1]);refine ⟨_,rfl,_,rfl,l,t,lv,(v,1),rfl,(n1 _ _ hl),aC,Qx hv,aEK (by omega) h9,?_⟩;refine ⟨_,rfl,?_⟩
  by_cases cc:lv.1*((v,1)).2<((v,1)).1*lv.2
  ·refine uR (decide_eq_true cc) ?_;exact ⟨_,rfl,q t _ n1 (by rw [show Sd.Fb lv (n0+1) (.en v)=Sd.grt lv (v,1) from rfl]; unfold Sd.grt; rw [if_pos cc]; exact aC)⟩
  ·refine uP (decide_eq_false cc) ?_;exact ⟨_,rfl,q l _ n1 (by rw [show Sd.Fb lv (n0+1) (.en v)=Sd.grt lv (v,1) from rfl]; unfold Sd.grt; rw [if_neg cc]; exact (n1 _ _ hl))⟩
 | @st _ r p rs ps ys h g lp ly row sub =>
  cases ok with
  | @st _ _ d _ j h0 h9 ne l4 ww oks hk =>
  have hlr:(ps.map V.ref).length=rs.length:=by rw [aLo]; exact lp
  have Z:=opz hv h0 h9 ne l4 ww oks hk d4 m12 n0 (by omega);have W:=Sd.o4 ne ww l4;have wz:intBits (Sd.dD rs)<=9000:=aLv (PySem.intBits_le_64 (by omega) (by omega)) (by decide);refine ⟨_,rfl,a,_,_,_,rfl,rfl,cY.of h,rfl,rfl,_,rfl,?_⟩;refine dU ?_;refine ⟨_,rfl,a,_,_,_,rfl,rfl,cY.of h,rfl,_,_,rfl,rfl,qU,fun t ht=>?_⟩;have n1:=aH ht (.tup [.int (0-p),.int 1]);have ht1:Tq (aX H t (.tup [.int (0-p),.int 1])) t (-p,1):=by
   show _=some (HO.tup [.int (-p),.int 1]);rw [aC,Int.zero_sub]
  have h1:=n1 _ _ h;have g1:=n1 _ _ g;refine ⟨_,rfl,a,_,_,_,rfl,rfl,cY.of h1,rfl,r,rfl,⟨_,cY.of g1⟩,fun D hD=>?_⟩;refine DY (xs:=ps.map V.ref) (fun u τ H'=>∃ v0 v1,τ = [v0,v1,some (.ref a),some (.ref l),some (.ref t),none,none,none]/\aR (aX H t (.tup [.int (0-p),.int 1])) H'/\H' D=some (.lst (Is ((rs.take u).map (·.1))))) ⟨none,none,rfl,aH hD _,aC⟩ ?keep ?turn ?done
  case keep =>
   rintro u τ H' hi ⟨v0,v1,rfl,hs,_⟩;exact cY.of (hs _ _ g1)
  case turn =>
   rintro u mm v τ H' hm hi hv ⟨v0,v1,rfl,hs,hD'⟩;obtain ⟨q1,y1,t1,er,rfl,e1,_,mem⟩:=Ks lp ly row sub hv;refine ⟨q1,_,rfl,cY.of (hs _ _ (n1 _ _ e1)),rfl,_,_,rfl,_,_,rfl,rfl,?_⟩;refine dG ?_;refine ⟨_,rfl,?_⟩;refine bF hm hi hD' (by rw [cF,aLo]; exact aU (aLv (aL8 _ _) (by omega))) ⟨_,_,rfl,hs.upd_new hD _,?_⟩;rw [aC,take_snoc er,aLB];show _=some (HO.lst (Is (_++[t1.1])));rw [j5]
  case done =>
  rintro τ H2 ⟨v0,v1,rfl,s2,hD2⟩;rw [hlr,aLG] at hD2;refine ⟨D,_,rfl,bK.of hD2,?_⟩;have oU:=n1.trans s2;refine ⟨_,rfl,a,_,_,_,rfl,rfl,cY.of (oU _ _ h),rfl,r,rfl,⟨_,cY.of (oU _ _ g)⟩,?_⟩;refine Ia (xs:=ps.map V.ref) (fun i σ H'=>∃ op v4 v5,σ = [some (.ref a),some (.ref l),some (.ref op),some (.int (Sd.dD rs)),v4,v5]/\aR H H'/\Tq H' op (Sd.Ig lv n0 p rs i)) ⟨t,none,none,rfl,oU,s2 _ _ ht1⟩ ?keep2 ?turn2 ?done2
  case keep2 =>
   rintro u σ H' hi ⟨op,v4,v5,rfl,hs,_⟩;exact cY.of (hs _ _ g)
  case turn2 =>
   rintro i v σ H' hv' ⟨op,v4,v5,rfl,hs,ho⟩;obtain ⟨q1,y1,t1,er,rfl,e1,to1,mem⟩:=Ks lp ly row sub hv';have hi:=(aLE.mp er).1;have z:=Z.2 t1 mem;refine ⟨q1,_,rfl,cY.of (hs _ _ e1),rfl,_,_,rfl,_,_,rfl,rfl,?_⟩;refine ⟨_,rfl,_,rfl,_,rfl,t1.1,Sd.dD rs,rfl,by omega,wz,fun r1 H3 s3 hr1=>?_⟩;have hs3:=hs.trans s3;refine ⟨_,rfl,_,rfl,y1,l,t1.2,lv,d,j t1,rfl,to1.same hs3,oks t1 mem,by omega,by omega,aLv (Sd.Pu hk t1 mem) m12,hs3 _ _ hl,hv,fun r2 H4 s4 hr2=>?_⟩;refine ⟨r1,r2,_,_,rfl,s4 _ _ hr1,hr2,z.1,z.2.1,fun r3 H5 s5 hr3=>?_⟩;refine ⟨op,r3,_,_,rfl,((s3.trans s4).trans s5) _ _ ho,hr3,Z.1 i (by omega),z.2.2,fun r4 H6 s6 hr4=>?_⟩;exact ⟨r4,_,_,rfl,((hs3.trans s4).trans s5).trans s6,by rw [Sd.pZ er]; exact hr4⟩
  case done2 =>
   rintro σ H' ⟨op,v4,v5,rfl,hs,ho⟩;rw [hlr] at ho;refine ⟨_,rfl,_,rfl,l,op,lv,(Sd.Ig lv n0 p rs rs.length),rfl,(hs _ _ hl),ho,Qx hv,Z.1 _ (aLu _),?_⟩;refine ⟨_,rfl,?_⟩
   by_cases cc:lv.1*((Sd.Ig lv n0 p rs rs.length)).2<((Sd.Ig lv n0 p rs rs.length)).1*lv.2
   ·refine uR (decide_eq_true cc) ?_;exact ⟨_,rfl,q op _ hs (by rw [Sd.uU]; unfold Sd.grt; rw [if_pos cc]; exact ho)⟩
   ·refine uP (decide_eq_false cc) ?_;exact ⟨_,rfl,q l _ hs (by rw [Sd.uU]; unfold Sd.grt; rw [if_neg cc]; exact (hs _ _ hl))⟩
theorem vV {n:Nat}{f:Addr}{fd:FuncData}(F:dW K "caps" "Stand.caps" (inClass (top 37) 4) f fd){c:Cs}(ck:CK K c)(j_:mg "list" = none):aY P w K mg base cZ (n+1) f fd ["self"] (uV c):=by
 refine F.ok iM (fun vs H Q E h=>?_) (fun cdv A outer s H vs Q E hr h=>?_)
 ·obtain ⟨x,s,d,m,xs0,rfl,_⟩:=h
  rfl
 obtain ⟨x,s,d,m,xs0,rfl,st,ct,q⟩:=h;have nd:=iM.nd;refine ⟨_,(aG (aV (cX pI rfl j_ jE (aA (j7 (pv 0) rfl) aD)))),?_⟩;cases st with
 | @en _ _ l cp v n' k' _ _ xs h vv ok =>
  cases iY.uniq ct ⟨_,_,_,_,h,rfl,vv.caps⟩;refine ⟨_,rfl,x,c.e,_,_,_,rfl,h,ck.ce,ck.e4,rfl,?_⟩;refine ⟨cp,_,rfl,.inr (cY.of vv.caps.1),fun r hr0=>?_⟩;have n1:=aH hr0 (.lst (refs xs0));exact q r _ n1 hr0 ⟨aC,fun y hy=>(vv.caps.2 y hy).same n1⟩
 | @st _ _ l cp r0 p n' k' lv _ _ j xs rs ps ys h vv g lp ly row sub p0 p9 ne l4 w hk =>
  cases iY.uniq ct ⟨_,_,_,_,h,rfl,vv.caps⟩;refine ⟨_,rfl,x,c.s,_,_,_,rfl,h,ck.cs,ck.s4,rfl,?_⟩;refine ⟨cp,_,rfl,.inr (cY.of vv.caps.1),fun r hr0=>?_⟩;have n1:=aH hr0 (.lst (refs xs0));exact q r _ n1 hr0 ⟨aC,fun y hy=>(vv.caps.2 y hy).same n1⟩
theorem yH {n:Nat}{f:Addr}{fd:FuncData}(F:dW K "by_weights" "by_weights" (top 23) f fd){aID:Addr}{aH7:FuncData}(aIE:dF P w K mg base n "share" ["top","bottom"] uQ aID aH7){q_:Addr}{m_:FuncData}(t_:dF P w K mg base n "common_multiple" ["numbers"] (QM K) q_ m_)(Q_:mg "sum" = none):aY P w K mg base cZ (n+1) f fd ["rows","weights"] Qt:=by
 refine F.ok oA (fun vs H Q E h=>?_) (fun cdv A outer s H vs Q E hr h=>?_)
 ·obtain ⟨a,xs,W,rfl,_⟩:=h
  rfl
 obtain ⟨a,xs,W,rfl,hT,hb,hW,hWz,q⟩:=h;have nd:=oA.nd;refine ⟨_,(aF (bC (i:=2) nd rfl (Or.inr rfl) (aK t_ hr (aA (cD (ls:=["worth","weight"]) (M:=["rows","weights","bottom","top"]) rfl (bM.of (by rfl)) (NL.of (by rfl)) (bL (pv 0)) (fun _ _ _ _=>⟨(fK (K:=K) (n:=2) rfl rfl (bG (aP (i:=0) (bY (by rfl)) rfl (Or.inl rfl)) (bG (aP (i:=1) (bY (by rfl)) rfl (Or.inl rfl)) dJ))),bV,(bT (jD (K:=K) rfl) (pv 0) aJ (fun _ _=>rfl))⟩)) aD))) (aF (bC (i:=3) nd rfl (Or.inl rfl) (aW (m7 rfl) rfl Q_ wJ (aA (cD (ls:=["worth","weight"]) (M:=["rows","weights","bottom","top"]) rfl (bM.of (by rfl)) (NL.of (by rfl)) (bL (pv 0)) (fun _ _ _ _=>⟨(fK (K:=K) (n:=2) rfl rfl (bG (aP (i:=0) (bY (by rfl)) rfl (Or.inl rfl)) (bG (aP (i:=1) (bY (by rfl)) rfl (Or.inl rfl)) dJ))),bV,(bA bZ (bA bZ (pv 1) (bT (jD (K:=K) rfl) (pv 0) aJ (fun _ _=>rfl))) (bA fU (pv 4) (bT (jD (K:=K) rfl) (pv 0) aJ (fun _ _=>rfl))))⟩)) aD))) (aG (aV (aK aIE hr (aA (pv 3) (aA (bA bZ (pv 2) (pv 1)) aD))))))),?_⟩;have hlr:=refs_length xs;have hlen:=hb.len;have bpos:∀ n∈xs.map Row.b,0<n:=fun n hn=>by
  obtain ⟨x,hx,rfl⟩:=aLr.mp hn;exact hb.b x hx
 obtain ⟨lp,ld⟩:=pW bpos;have b9:∀ n∈xs.map Row.b,intBits n<=9000:=fun n hn=>by
  obtain ⟨x,hx,rfl⟩:=aLr.mp hn;have:=hb.z x hx;omega
 have bz:((xs.map Row.b).map intBits).sum<=200000:=by
  have h:=lL (k:=4000) (l:=(xs.map Row.b).map intBits) fun n hn=>by
   obtain ⟨z,hz,rfl⟩:=aLr.mp hn;obtain ⟨x,hx,rfl⟩:=aLr.mp hz;exact hb.z x hx
  rw [aLo,aLo] at h;omega
 refine ⟨_,rfl,a,rfl,⟨_,bK.of hT.lst⟩,fun D hD=>?_⟩;refine bQ (xs:=refs xs) (fun i τ H'=>∃ v0 v1,τ = [v0,v1,some (.ref a),some (.int W),none,none]/\aR H H'/\H' D=some (.lst ((xs.take i).map fun x=>V.int x.b))) ⟨none,none,rfl,aH hD _,aC⟩ ?keep ?turn ?done
 case keep =>
  rintro i τ H' hi ⟨v0,v1,rfl,hs,_⟩;exact bK.of (hT.same hs).lst
 case turn =>
  rintro i m v τ H' hm hi hv ⟨v0,v1,rfl,hs,hD'⟩;obtain ⟨x,hx,rfl⟩:=jB hv;have hr:=(hT.same hs).rows x (aLx hx);refine ⟨x.p,_,rfl,cY.of hr.1,rfl,_,_,rfl,_,_,rfl,rfl,?_⟩;refine dG ?_;refine ⟨_,rfl,x.q,_,_,_,rfl,rfl,cY.of hr.2,rfl,?_⟩;refine bF hm hi hD' (by rw [aLo]; exact aU (aLv (aL8 _ _) (by omega))) ⟨_,_,rfl,hs.upd_new hD _,?_⟩;rw [aC,take_snoc hx,aLB]
  rfl
 case done =>
 rintro τ H1 ⟨v0,v1,rfl,s1,hD1⟩;rw [hlr,aLG] at hD1;refine ⟨D,xs.map Row.b,rfl,bK.of (by rw [hD1,aL1]; rfl),bpos,b9,bz,?_⟩;have hT1:=hT.same s1;refine ⟨_,rfl,a,rfl,⟨_,bK.of hT1.lst⟩,fun E2 hE=>?_⟩;refine bQ (xs:=refs xs) (fun i τ H'=>∃ v0 v1,τ = [v0,v1,some (.ref a),some (.int W),some (.int (bN xs)),none]/\aR H1 H'/\H' E2=some (.lst ((xs.take i).map fun x=>V.int (x.w*x.t*(bN xs).fdiv x.b)))) ⟨none,none,rfl,aH hE _,aC⟩ ?keep2 ?turn2 ?done2
 case keep2 =>
  rintro i τ H' hi ⟨v0,v1,rfl,hs,_⟩;exact bK.of (hT1.same hs).lst
 case turn2 =>
  rintro i m v τ H' hm hi hv ⟨v0,v1,rfl,hs,hD'⟩;obtain ⟨x,hx,rfl⟩:=jB hv;have hmem:=aLx hx;have hr:=(hT1.same hs).rows x hmem;have xb:=hb.b x hmem;have xt:=hb.t x hmem;have xw:=hb.w x hmem;have xz:=hb.z x hmem;refine ⟨x.p,_,rfl,cY.of hr.1,rfl,_,_,rfl,_,_,rfl,rfl,?_⟩;refine dG ?_;refine ⟨_,rfl,_,rfl,x.q,_,_,_,rfl,rfl,cY.of hr.2,rfl,_,_,rfl,rfl,eE xw xt (by decide),_,rfl,_,rfl,x.q,_,_,_,rfl,rfl,cY.of hr.2,rfl,_,_,rfl,rfl,⟨aLT xb,by omega⟩,_,_,rfl,rfl,eE (m:=5000) (n:=5000) (PySem.intBits_mul_le xw xt) (PySem.intBits_fdiv_le hb.lz) (by decide),?_⟩;refine bF hm hi hD' (by rw [aLo]; exact aU (aLv (aL8 _ _) (by omega))) ⟨_,_,rfl,hs.upd_new hE _,?_⟩;rw [aC,take_snoc hx,aLB]
  rfl
 case done2 =>
 rintro τ H2 ⟨v0,v1,rfl,s2,hE2⟩;rw [hlr,aLG] at hE2;refine ⟨E2,xs.map fun x=>x.w*x.t*(bN xs).fdiv x.b,rfl,bK.of (by rw [hE2,aL1]; rfl),?_⟩;have zz:=hb.lz;refine ⟨_,rfl,_,rfl,_,rfl,_,_,rfl,rfl,eE zz hWz (by decide),?_⟩;refine ⟨_,_,rfl,aLT (aLY lp hW),aLv (PySem.intBits_mul_le zz hWz) (by decide),fun p H' s' hp=>?_⟩;have e:Sd.tB (bN xs) (bO xs)=(xs.map fun x=>x.w*x.t*(bN xs).fdiv x.b).sum:=by unfold Sd.tB bO; rw [aL1]; rfl
 exact q p H' ((s1.trans s2).trans s') (by rw [e]; exact hp)
theorem Bj {n:Nat}{f:Addr}{fd:FuncData}(F:dW K "caps" "Case.caps" (inClass (top 45) 9) f fd){c:Cs}{cC:Addr}(ca:K4 K c cC)(ck:CK K c){l_:Addr}{aKn:Addr}{aJg:FuncData}(aKE:fD K cC "stand" aKn)(aKF:aY P w K mg base (uW P w) n aKn aJg ["self","box"] (Nf c cC l_))(aKG:Binds K aJg ["self","box"] []){aLc:Addr}{aKR:FuncData}(aLi:fD K cC "cap" aLc)(aLj:aY P w K mg base (uW P w) n aLc aKR ["self","box"] (Oe c cC l_))(aLk:Binds K aKR ["self","box"] []){aHp:Addr}{aHB:FuncData}(aKT:fD K c.e "caps" aHp)(aKU:fD K c.s "caps" aHp)(aIb:aY P w K mg base cZ n aHp aHB ["self"] (uV c))(aIc:Binds K aHB ["self"] []){aIe:Addr}{aHJ:FuncData}(aIf:dF P w K mg base n "capped" ["table","level"] (My Pt cT) aIe aHJ):aY P w K mg base cZ (n+1) f fd ["self","box"] (Qw c cC Pt cT):=by
 refine F.ok pY (fun vs H Q E h=>?_) (fun cdv A outer s H vs Q E hr h=>?_)
 ·obtain ⟨x,i,q,y,xs,d,m,rfl,_⟩:=h
  rfl
 obtain ⟨x,i,q,y,xs,d,m,rfl,at_,gs,d4,m12,hTb,k⟩:=h;have nd:=pY.nd;refine ⟨_,(aF (bC (i:=2) nd rfl (Or.inl rfl) (nF (eZ (eG (pv 0) ca.cl aKE aKF hr aKG .nil xD (aA (pv 1) aD)) ck.ce aKT aIb hr aIc .nil c7) (eZ (eG (pv 0) ca.cl aKE aKF hr aKG .nil xD (aA (pv 1) aD)) ck.cs aKU aIb hr aIc .nil c7))) (aF (bC (i:=3) nd rfl (Or.inl rfl) (eG (pv 0) ca.cl aLi aLj hr aLk .nil xD (aA (pv 1) aD))) (aG (aV (wQ (cQ BJ (pv 3) mV (cM _)) (pv 2) (aK aIf hr (aA (pv 2) (aA (pv 3) aD)))))))),?_⟩;have h:=at_.ca;have n6:=h.n6;have es:=h.es;have el:=h.el;have hi:i<q.ys.length:=(aLE.mp at_.yy).1;have ei:q.ss[i]? = some (q.ss[i]'(by omega)):=aLs _;have st:=(h.st i _ _ at_.yy ei).1;refine Jv (fun Q' hq=>⟨_,rfl,x,_,_,rfl,h.hx,rfl,_,rfl,x,.int (i:Int),q,true,rfl,h,uT.yes (by omega) (by omega),fun j0 y0 e1 e2=>by obtain rfl:i=j0:=(by injection e1 with e1; omega); rw [at_.yy] at e2; cases e2; exact hq,(fun z=>nomatch z)⟩) st at_.tab fun r H1 s1 hr1 hT1=>?_;have h1:=h.kt (aR.kt s1);refine ⟨_,rfl,x,_,_,rfl,h1.hx,rfl,_,rfl,x,.int (i:Int),q,true,rfl,h1,uT.yes (by omega) (by omega),fun j0 y0 e1 e2=>?_,(fun z=>nomatch z)⟩;obtain rfl:i=j0:=by injection e1 with e1; omega
 rcases k with ⟨el2,k⟩ | ⟨l,lv,el2,tq,lw,k⟩
 ·rw [el2] at e2;cases e2;refine ⟨_,rfl,rfl,_,rfl,?_⟩;refine uR (decide_eq_true rfl) ?_;exact ⟨_,rfl,k r H1 s1.toT (hTb.same s1) hr1 hT1⟩
 ·rw [el2] at e2;cases e2;refine ⟨_,rfl,rfl,_,rfl,?_⟩;refine uP (decide_eq_false (fun z=>nomatch z)) ?_;refine ⟨_,rfl,_,rfl,r,l,xs,lv,d,m,rfl,hT1,gs,d4,m12,s1 _ _ tq,lw,hTb.same s1,fun r2 H2 ys sT tb hr2 hY o=>?_⟩;exact k r2 H2 ys (s1.toT.trans sT) tb (s1.free hr2) hY o
end
end K51
namespace K51
open PySem L2 TD TG
open Builtin.Int (intBits)
section
variable {P:Program}{w:World}{K:PySem.W.Frag}{mg:Str->Option Value}{base:Heap}{Pt:Addr}
theorem GR {n:Nat}{f:Addr}{fd:FuncData}(F:dW K "product" "product" (top 28) f fd):aY P w K mg base cZ (n+1) f fd ["numbers"] (Ma K):=by
 refine F.ok vD (fun vs H Q E h=>?_) (fun cdv A outer s H vs Q E hr h=>?_)
 ·obtain ⟨a,ns,rfl,_⟩:=h
  rfl
 obtain ⟨a,ns,rfl,hS,hz,q⟩:=h;have nd:=vD.nd;refine ⟨_,(aF (bC (i:=1) nd rfl (Or.inl rfl) aJ) (aF (dB PassesOwn.never rfl (bL (pv 0)) (aP (i:=2) nd rfl (Or.inl rfl)) (aG (bC (i:=1) nd rfl (Or.inl rfl) (bA bZ (pv 1) (pv 2))))) (aG (aV (pv 1))))),?_⟩;refine ⟨_,rfl,a,rfl,⟨_,hS⟩,?_⟩;refine fH (xs:=ns.map V.int) (fun i σ H'=>∃ v2 B,σ = [some (.ref a),some (.int B),v2]/\B=Tb.qK (ns.take i)/\H'=H) ⟨none,1,rfl,rfl,rfl⟩ (fun i σ H' _ ⟨_,_,_,_,e⟩=>by rw [e]; exact hS) ?turn ?done
 case turn =>
  rintro i v σ H' hv ⟨v2,B,rfl,eB,rfl⟩;rw [aLH] at hv;cases en:ns[i]? with
  | none=>rw [en] at hv; cases hv
  | some n =>
   rw [en] at hv;cases hv;have bz:=u5 (ns.take i);have sl:=tO ns i;rw [<- eB] at bz;refine ⟨_,rfl,_,rfl,_,_,rfl,rfl,eE (m:=4300) (n:=4300) (by omega) (aLv (Gu (aLx en)) (by omega)) (by decide),?_⟩;refine ⟨_,_,rfl,?_,rfl⟩;rw [take_snoc en,Tb.Gp,eB]
 case done =>
  rintro σ H' ⟨v2,B,rfl,eB,rfl⟩;rw [aLo,aLG] at eB;subst eB;exact ⟨_,rfl,q⟩
theorem An {n:Nat}{f:Addr}{fd:FuncData}(F:dW K "worths_of" "worths_of" (top 27) f fd){aH5:Addr}{aHI:FuncData}(aH6:dF P w K mg base n "rising" ["worths"] (Fw K Pt cT) aH5 aHI)(j_:mg "list" = none):aY P w K mg base cZ (n+1) f fd ["tables"] (Du Pt cT):=by
 refine F.ok pO (fun vs H Q E h=>?_) (fun cdv A outer s H vs Q E hr h=>?_)
 ·obtain ⟨a,ts,rfl,_⟩:=h
  rfl
 obtain ⟨a,ts,rfl,hE,g,hTb,q⟩:=h;have nd:=pO.nd;have hu:=Lf hr;refine ⟨_,(aF (bC (i:=1) nd rfl (Or.inl rfl) Cd) (aF (dB PassesOwn.never rfl (bL (pv 0)) (aP (i:=2) nd rfl (Or.inl rfl)) (aG (dB PassesOwn.never rfl (bL (pv 2)) (rK rfl (bG (aP (i:=3) nd rfl (Or.inl rfl)) (bG (aP (i:=4) nd rfl (Or.inl rfl)) dJ))) (aG (Hf hu (pv 1) (pv 3) iH rfl))))) (aG (aV (aK aH6 hr (aA (cX (vO rfl) rfl j_ jE (aA (pv 1) aD)) aD)))))),?_⟩;have hlr:=pR ts;have gk:(keysOf ts).length<=63:=g.keys;intro Dd hDd;have n0:=aH hDd (.dT []);refine ⟨_,rfl,a,rfl,⟨_,bK.of (hE.same n0).lst⟩,?_⟩;refine fH (xs:=wA ts) (fun i σ H'=>∃ kvs v2 v3 v4,σ = [some (.ref a),some (.ref Dd),v2,v3,v4]/\aR H H'/\H' Dd=some (.dT kvs)/\Dw (keysOf (ts.take i)) kvs/\kvs.length<=(keysOf (ts.take i)).length) ⟨[],none,none,none,rfl,n0,aC,Dw.nil,aLu _⟩ ?keep ?turn ?done
 case keep =>
  rintro i σ H' hi ⟨kvs,v2,v3,v4,rfl,hs,_⟩;exact bK.of (hE.same hs).lst
 case turn =>
  rintro i v σ H' hv ⟨kvs,v2,v3,v4,rfl,hs,hd,dk,kl⟩;obtain ⟨t,ht,rfl⟩:=wH hv;have hmem:=aLx ht;have kt:=Jg ts (i+1);rw [take_snoc ht,mJ,aLP,aLo] at kt;refine ⟨_,rfl,t.a,rfl,⟨_,bK.of ((hE.same hs).tabs t hmem).lst⟩,?_⟩;refine fH (xs:=refs t.ys) (fun j σ H''=>∃ kvs v3 v4,σ = [some (.ref a),some (.ref Dd),some (.ref t.a),v3,v4]/\aR H H''/\H'' Dd=some (.dT kvs)/\Dw (keysOf (ts.take i)++(t.ys.take j).map fun y=>(y.t,y.b)) kvs/\kvs.length<=(keysOf (ts.take i)).length+j) ⟨kvs,v3,v4,rfl,hs,hd,by simpa using dk,by omega⟩ ?keep2 ?turn2 ?done2
  case keep2 =>
   rintro j σ H'' hj ⟨kvs,v3,v4,rfl,hs2,_⟩;exact bK.of ((hE.same hs2).tabs t hmem).lst
  case turn2 =>
   rintro j v σ H'' hv ⟨kvs,v3,v4,rfl,hs2,hd2,dk2,kl2⟩;obtain ⟨y,hy,rfl⟩:=jB hv;have hj:=(aLE.mp hy).1;have hr:=((hE.same hs2).tabs t hmem).rows y (aLx hy);have hq:H'' y.q=some (.tup (([.inl y.t,.inl y.b]:List Key).map kV)):=hr.2;refine ⟨y.p,_,rfl,cY.of hr.1,rfl,_,_,rfl,_,_,rfl,rfl,?_⟩;refine ⟨_,rfl,_,rfl,Dd,_,rfl,Jp.t hd2 hq (aU (by omega)),?_⟩;refine ⟨_,_,_,rfl,hs2.upd_new hDd _,aC,?_,?_⟩
   ·rw [take_snoc hy,aLB,<- aNC];exact dk2.put y.t y.b _
   ·have:=gK kvs [.inl y.t,.inl y.b] (.bl true);exact aLv this (by omega)
  case done2 =>
   rintro σ H'' ⟨kvs,v3,v4,rfl,hs2,hd2,dk2,kl2⟩;rw [refs_length,aLG] at dk2;rw [refs_length] at kl2;refine ⟨_,_,_,_,rfl,hs2,hd2,?_,?_⟩
   ·rw [take_snoc ht,mJ];exact dk2
   ·rw [take_snoc ht,mJ,aLP,aLo];exact kl2
 case done =>
 rintro σ H1 ⟨kvs,v2,v3,v4,rfl,s1,hd1,dk,kl⟩;rw [hlr,aLG] at dk kl;have kb:∀ kv∈kvs,∃ t b:Int,kv.1=[.inl t,.inl b]:=fun kv hkv=>by
  obtain ⟨t,b,e,_⟩:=dk.en kv hkv;exact ⟨t,b,e⟩
 refine ⟨_,rfl,Dd,kvs,rfl,.inl hd1,fun l qs hl hql hqs=>?_⟩;obtain ⟨rs0,er1,er2,er3⟩:=Ny hql kb hqs;have n3:=aH hl (.lst (qs.map V.ref));have s3:=s1.trans n3;have rl0:rs0.length=kvs.length:=by simpa using congrArg aMJ er2
 have kin0:∀ r∈rs0,(r.t,r.b)∈keysOf ts:=fun r hr=>by
  have m:jU r∈kvs.map (·.1):=by rw [<- er2]; exact aLr.mpr ⟨r,hr,rfl⟩
  obtain ⟨kv,hkv,e⟩:=aLr.mp m;obtain ⟨t,b,e2,h⟩:=dk.en kv hkv;rw [e2] at e;obtain ⟨e3,e4⟩:=nC.mp e.symm;rw [e3,e4];exact h
 have good:∀ r∈rs0,Fr.fZ r.t r.b/\intBits r.t<=4000/\intBits r.b<=4000:=fun r hr=>by
  obtain ⟨t,ht,y,hy,e⟩:=xC (kin0 r hr);injection e with e1 e2
  have gt:=g.all t ht;rw [<- e1,<- e2];exact ⟨gt.fr y hy,aLv (gt.zt y hy) (by decide),aLv (gt.zb y hy) (by decide)⟩
 have hk0:∀ k∈keysOf ts,∃ r∈rs0,(r.t,r.b)=k:=fun k hk=>by
  have m:=dk.all k hk;rw [<- er2] at m;obtain ⟨r,hr,e⟩:=aLr.mp m;obtain ⟨e1,e2⟩:=nC.mp e;exact ⟨r,hr,Prod.ext e1 e2⟩
 refine ⟨l,rs0,rfl,bK.of (by rw [er1]; exact aC),?_,by omega,fun r hr=>⟨n3 _ _ (er3 r hr),good r hr⟩,by rw [er2]; exact dk.nd,hTb.same s3,fun R H4 rs st4 tb4 hR pm so=>?_⟩
 ·rintro rfl;cases ets:ts with
  | nil=>exact g.ne ets
  | cons t us =>
   have tm:t∈ts:=by rw [ets]; exact aLq
   cases eys:t.ys with
   | nil=>exact (g.all t tm).ne eys
   | cons y ys =>
    obtain ⟨r,hr,_⟩:=hk0 _ (lK tm (y:=y) (by rw [eys]; exact aLq));cases hr
 have tb3:=hTb.same s3;refine q R H4 rs ((s3.toT).trans st4) tb4 hR (fun r hr=>st4.get tb3 (n3 _ _ (er3 r (pm.mem_iff.mp hr))) fun _ z=>nomatch z) so (by rw [pm.length_eq]; omega) (fun r hr=>kin0 r (pm.mem_iff.mp hr)) fun k hk=>?_;obtain ⟨r,hr,e⟩:=hk0 k hk;exact aLr.mpr ⟨r,pm.mem_iff.mpr hr,e⟩
theorem Dc {n:Nat}{f:Addr}{fd:FuncData}(F:dW K "greatest" "greatest" (top 29) f fd){C_:Addr}{x_:FuncData}(D_:dF P w K mg base n "in_form" ["rows"] (rE Pt cT) C_ x_){aJh:Addr}{aIT:FuncData}(aJi:dF P w K mg base n "worths_of" ["tables"] (Du Pt cT) aJh aIT){aJP:Addr}{aJA:FuncData}(aJQ:dF P w K mg base n "product" ["numbers"] (Ma K) aJP aJA)(aKo:mg "zip" = none)(aJB:mg "dict" = none):aY P w K mg base cZ (n+1) f fd ["tables"] (IV Pt cT):=by
 refine F.ok sZ (fun vs H Q E h=>?_) (fun cdv A outer s H vs Q E hr h=>?_)
 ·obtain ⟨a,ts,rfl,_⟩:=h
  rfl
 obtain ⟨a,ts,rfl,hE,g,hTb,q⟩:=h;have nd:=sZ.nd;have hu:=Lf hr;have hu2:_+2<cLine:=aNs (aN0 (by decide:2<=64) _) (fV.units hr);refine ⟨_,(aF (lR (i:=1) (ls:=["table"]) (M:=["tables","weights","reached","behind","rows","worth","together"]) rfl (bM.of (by rfl)) (NL.of (by rfl)) nd rfl (Or.inl rfl) (bL (pv 0)) (fun _ _ _ _=>⟨(aP (i:=0) (bY (by rfl)) rfl (Or.inl rfl)),bV,(cX (Ek (K:=K) rfl rfl hu2) rfl aJB QQ (aA (pv 0) aD))⟩)) (aF (lR (i:=2) (ls:=["table"]) (M:=["tables","weights","reached","behind","rows","worth","together"]) rfl (bM.of (by rfl)) (NL.of (by rfl)) nd rfl (Or.inl rfl) (bL (pv 0)) (fun _ _ _ _=>⟨(aP (i:=0) (bY (by rfl)) rfl (Or.inl rfl)),bV,aJ⟩)) (aF (bC (i:=3) nd rfl (Or.inl rfl) aJ) (aF (bC (i:=4) nd rfl (Or.inl rfl) (dM aD)) (aF (dB PassesOwn.never rfl (bL (aK aJi hr (aA (pv 0) aD))) (aP (i:=5) nd rfl (Or.inr rfl)) (aF (lR (i:=2) (ls:=["so_far","own"]) (M:=["tables","weights","reached","behind","rows","worth","together"]) rfl (bM.of (by rfl)) (NL.of (by rfl)) nd rfl (Or.inl rfl) (U0 rfl aKo (aA (pv 2) (aA (pv 1) aD))) (fun _ _ _ _=>⟨(fK (K:=K) (n:=2) rfl rfl (bG (aP (i:=0) (bY (by rfl)) rfl (Or.inl rfl)) (bG (aP (i:=1) (bY (by rfl)) rfl (Or.inl rfl)) dJ))),bV,(bA gC (pv 0) (Dg hu (pv 1) (pv 7) aJ ⟨rfl,rfl,rfl,rfl⟩))⟩)) (aF (bC (i:=6) nd rfl (Or.inl rfl) (aK aJQ hr (aA (pv 2) aD))) (aF (cL (cQ zH (pv 6) (pv 3) (cM _)) (aG (fL (lX PySem.F.plainAttrs_list PySem.F.slot_list_append PySem.F.type_list_append jH (pv 4) (aA (dN (aA (pv 5) (aA (bA mK (pv 6) (pv 3)) aD))) aD)))) bJ) (aG (bC (i:=3) nd rfl (Or.inl rfl) (pv 6))))))) (aG (aV (aK D_ hr (aA (pv 4) aD))))))))),?_⟩;have hlr:=pR ts;have glen:=g.len;have gk:(keysOf ts).length<=63:=g.keys;refine ⟨_,rfl,a,rfl,⟨_,bK.of hE.lst⟩,fun D1 hD1=>?_⟩;refine bQ (xs:=wA ts) (fun i τ H'=>∃ v0 ds,τ = [v0,some (.ref a),none,none,none,none,none,none]/\aR H H'/\H' D1=some (.lst (ds.map V.ref))/\ds.length=i/\∀ (j:Nat) (t:Tn) (d:Addr),ts[j]? = some t->ds[j]? = some d->H' d=some (.dT (gU (t.ys.map uB)))) ⟨none,[],rfl,aH hD1 _,aC,rfl,fun j t d _ h=>by simp at h⟩ ?keep1 ?turn1 ?done1
 case keep1 =>
  rintro i τ H' hi ⟨v0,ds,rfl,hs,_⟩;exact bK.of (hE.same hs).lst
 case turn1 =>
  rintro i m v τ H' hm hi hv ⟨v0,ds,rfl,hs,hD',dl,hds⟩;obtain ⟨t,ht,rfl⟩:=wH hv;have hmem:=aLx ht;have hT:=(hE.same hs).tabs t hmem;have gt:=g.all t hmem;have gl:=gt.len;unfold oO;refine dG ?_;refine ⟨_,rfl,t.a,t.ys.map uB,rfl,bK.of (by rw [PN]; exact hT.lst),aAD hT,by rw [aLo]; exact aU (by omega),fun r hr=>?_⟩;have n1:=aH hr (.dT (gU (t.ys.map uB)));have hD2:=n1 _ _ hD';refine bF hm hi hD2 (by rw [aLo]; exact aU (by omega)) ⟨_,ds++[r],rfl,(hs.trans n1).upd_new hD1 _,?_,?_,fun j u d hu1 hd1=>?_⟩
  ·rw [aC,aLB]
   rfl
  ·rw [aLP,dl]
   rfl
  ·rw [List.getElem?_append] at hd1
   split at hd1
   ·have e:=n1 _ _ (hds j u d hu1 hd1);rw [aO (cI e hD2 fun z=>nomatch z)];exact e
   ·rename_i hj;have ej:j=i:=by
     cases hk:j-ds.length with
     | zero=>omega
     | succ k=>rw [hk] at hd1; simp at hd1
    subst ej;rw [dl,aOd] at hd1;have ed:r=d:=by simpa using hd1
    subst ed;rw [ht] at hu1;cases hu1;have e:aX H' r (.dT (gU (t.ys.map uB))) r=some (.dT (gU (t.ys.map uB))):=aC;rw [aO (cI e hD2 fun z=>nomatch z)];exact e
 case done1 =>
 rintro τ H1 ⟨v0,ds,rfl,s1,hW1,dl,hds⟩;rw [hlr] at dl;refine ⟨_,rfl,a,rfl,⟨_,bK.of (hE.same s1).lst⟩,fun D2 hD2=>?_⟩;refine bQ (xs:=wA ts) (fun i τ H'=>∃ v0,τ = [v0,some (.ref a),some (.ref D1),none,none,none,none,none]/\aR H1 H'/\H' D2=some (.lst ((Am (ts.take i) []).map V.int))) ⟨none,rfl,aH hD2 _,aC⟩ ?keep2 ?turn2 ?done2
 case keep2 =>
  rintro i τ H' hi ⟨v0,rfl,hs,_⟩;exact bK.of (hE.same (s1.trans hs)).lst
 case turn2 =>
  rintro i m v τ H' hm hi hv ⟨v0,rfl,hs,hD'⟩;obtain ⟨t,ht,rfl⟩:=wH hv;unfold oO;refine dG ?_;refine bF hm hi hD' (by rw [aLo]; unfold Am; rw [aLo]; exact aU (aLv (aL8 _ _) (by omega))) ⟨_,rfl,hs.upd_new hD2 _,?_⟩;rw [aC,take_snoc ht];unfold Am;rw [aLB,aLB];show _=some (HO.lst (_++[V.int (Tb.Sm (bO t.ys) [])]));rw [Tb.Bk]
 case done2 =>
 rintro τ H2 ⟨v1,rfl,s2,hR2⟩;rw [hlr,aLG] at hR2;refine ⟨aLQ _,fun Rp hRp=>?_⟩;have oU:=s1.trans s2;have n3:=aH hRp (.lst []);have hRn:H Rp=none:=oU.free hRp;have s3:aR H (aX H2 Rp (.lst [])):=oU.trans n3;have tb3:=hTb.same s3;refine ⟨_,rfl,a,ts,rfl,hE.same s3,g,tb3,fun W Hb rs sB tbB hW rat so rl rin rall=>?_⟩;have hRb:Hb Rp=some (.lst []):=sB.get tb3 aC fun _ z=>nomatch z
 have hWne:W≠Rp:=fun z=>by
  rw [z,hRb] at hW;injection hW with hW
  injection hW with hW
  cases rs with
  | nil =>
   cases ets:ts with
   | nil=>exact g.ne ets
   | cons t us =>
    have tm:t∈ts:=by rw [ets]; exact aLq
    cases eys:t.ys with
    | nil=>exact (g.all t tm).ne eys
    | cons y ys =>
     have:=rall _ (lK tm (y:=y) (by rw [eys]; exact aLq));cases this
  | cons r rs=>cases hW
 have sd:bH Pt H2 (wo Hb Rp):=bH.wo ((n3.toT).trans sB) hRp;have tb2:=hTb.same oU;have tbd:cA Pt cT d8 (wo Hb Rp):=cA.wo tbB hRb;have wR:wo Hb Rp Rp=none:=JM _ _;have wW:wo Hb Rp W=some (.lst (jN rs)):=by rw [w5 hWne]; exact hW
 have wrat:∀ r∈rs,Ja (wo Hb Rp) r:=fun r hr=>by
  have e:=rat r hr;unfold Ja at e ⊢;rw [w5 (cI e hRb fun z=>nomatch z)];exact e
 have wD1:wo Hb Rp D1=some (.lst (ds.map V.ref)):=sd.get tb2 (s2 _ _ hW1) fun _ z=>nomatch z
 have wds:∀ (j:Nat) (t:Tn) (d:Addr),ts[j]? = some t->ds[j]? = some d->wo Hb Rp d=some (.dT (gU (t.ys.map uB))):=fun j t d h1 h2=>sd.get tb2 (s2 _ _ (hds j t d h1 h2)) fun _ z=>nomatch z
 have wD2:wo Hb Rp D2=some (.lst ((Am ts []).map V.int)):=sd.get tb2 hR2 fun _ z=>nomatch z
 have ht0:bH Pt H (wo Hb Rp):=(oU.toT).trans sd;have kso:=Kf so;have kmem:∀ t∈ts,∀ y∈t.ys,(y.t,y.b)∈qX rs:=fun t ht y hy=>rall _ (lK ht hy);have tne:pB ts≠[]:=fun z=>g.ne (aMd.mp z);have prod:∀ i,Tb.qK (Am ts ((qX rs).take i))=Tb.Sm (Tb.zF (pB ts)) ((qX rs).take i):=fun i=>by
  have e:=(Tb.Fx (Tb.yM kso i) tne (vQ kmem)).2;rw [e];unfold pB Am;rw [aL1]
  rfl
 have chw:=Hk g;generalize hHd:wo Hb Rp=Hd at *;have sHb:aR Hd Hb:=by rw [<- hHd]; exact Q3 _ _
 refine ⟨W,rfl,⟨_,bK.of hW⟩,?_⟩;refine fH (xs:=jN rs) (fun i σ H'=>∃ Rc v5 v6 xs beh,σ = [some (.ref a),some (.ref D1),some (.ref Rc),some (.int beh),some (.ref Rp),v5,v6]/\aR Hd H'/\H' Rc=some (.lst ((Am ts ((qX rs).take i)).map V.int))/\Rc≠Rp/\TabAt H' Rp xs/\bO xs=Tb.rowsOf (Tb.zF (pB ts)) ((qX rs).take i)/\PB xs/\xs.length<=i/\beh=Tb.Sm (Tb.zF (pB ts)) ((qX rs).take i)) ⟨D2,none,none,[],0,rfl,sHb,sHb _ _ wD2,bB wD2 wR,⟨hRb,fun _ h=>nomatch h⟩,rfl,(fun _ h=>nomatch h),aLu _,(Tb.Bk _).symm⟩ ?keep3 ?turn3 ?done3
 case keep3 =>
  rintro i σ H' hi ⟨Rc,v5,v6,xs,beh,rfl,hs,_⟩;exact bK.of (hs _ _ wW)
 case turn3 =>
  rintro i v σ H' hv ⟨Rc,v5,v6,xs,beh,rfl,hs,hRc,cne,hX,ex,pb,xl,eb⟩;obtain ⟨x,hx,rfl⟩:=vP hv;have hxm:=aLx hx;have hi:=(aLE.mp hx).1;have ki:(qX rs)[i]? = some (x.t,x.b):=by unfold qX; rw [aLH,hx]; rfl
  have kt:(qX rs).take (i+1)=(qX rs).take i++[(x.t,x.b)]:=take_snoc ki;have kn:=Tb.LQ kso ki;unfold oO;refine ⟨_,rfl,_,rfl,Rc,D1,_,_,rfl,bK.of hRc,bK.of (hs _ _ wD1),fun Dn hDn=>?_⟩;refine K8 (xs:=(Am ts ((qX rs).take i)).map V.int) (ys:=ds.map V.ref) (fun j τ H''=>∃ v0 v1,τ = [v0,v1,some (.ref a),some (.ref D1),some (.ref Rc),some (.int beh),some (.ref Rp),some (.ref x.q),v6]/\aR H' H''/\H'' Dn=some (.lst ((Am (ts.take j) ((qX rs).take (i+1))).map V.int))) (by unfold Am; rw [aLo,aLo,aLo,dl]) ⟨none,none,rfl,aH hDn _,aC⟩ ?keep4 ?turn4 ?done4
  case keep4 =>
   rintro j τ H'' hj ⟨v0,v1,rfl,hs4,_⟩;exact ⟨bK.of (hs4 _ _ hRc),bK.of (hs4 _ _ (hs _ _ wD1))⟩
  case turn4 =>
   rintro j m u w T τ H'' hm hj hu1 hw1 hT ⟨v0,v1,rfl,hs4,hD4⟩;unfold Am at hu1;rw [aL1,aLH] at hu1;rw [aLH] at hw1;cases et:ts[j]? with
   | none=>rw [et] at hu1; cases hu1
   | some t =>
    rw [et] at hu1;cases hu1;cases ed:ds[j]? with
    | none=>rw [ed] at hw1; cases hw1
    | some d =>
     rw [ed] at hw1;cases hw1;have gt:=g.all t (aLx et);have nT:=aH hT (.tup [.int (Tb.Sm (bO t.ys) ((qX rs).take i)),.ref d]);have hd4:=nT _ _ (hs4 _ _ (hs _ _ (wds j t d et ed)));have hq4:aX H'' T (.tup [.int (Tb.Sm (bO t.ys) ((qX rs).take i)),.ref d]) x.q=some (.tup (([.inl x.t,.inl x.b]:List Key).map kV)):=nT _ _ (hs4 _ _ (hs _ _ (wrat x hxm)));refine ⟨T,_,rfl,cY.of aC,rfl,_,_,rfl,_,_,rfl,rfl,?_⟩;refine dG ?_;refine ⟨_,rfl,_,rfl,d,rfl,.inr ⟨_,.inl hd4⟩,_,rfl,_,Bm.t hd4 hq4,Tb.Sm (bO t.ys) ((qX rs).take i),Tb.Wt (bO t.ys) x.t x.b,rfl,aE8 gt.lt x.t x.b,?_⟩;refine bF hm hj (nT _ _ hD4) (by unfold Am; rw [aLo,aLo,aLU]; exact aU (by omega)) ⟨_,_,rfl,(hs4.trans nT).upd_new hDn _,?_⟩;rw [aC,take_snoc et];unfold Am;rw [aLB,aLB,kt];show _=some (HO.lst (_++[V.int (Tb.Sm (bO t.ys) ((qX rs).take i++[(x.t,x.b)]))]));rw [Tb.Ah kn]
  case done4 =>
  rintro τ H4 ⟨v0,w0,rfl,hs4,hD4⟩;have el:((Am ts ((qX rs).take i)).map V.int).length=ts.length:=by unfold Am; rw [aLo,aLo]
  rw [el,aLG] at hD4;have sb:=Lk g ((qX rs).take (i+1));refine ⟨_,rfl,Dn,Am ts ((qX rs).take (i+1)),rfl,bK.of hD4,by omega,?_⟩;rw [prod (i+1)];have pbt:=u5 (Am ts ((qX rs).take (i+1)));rw [prod (i+1)] at pbt;have eS:Tb.Sm (Tb.zF (pB ts)) ((qX rs).take (i+1))=beh+Tb.Wt (Tb.zF (pB ts)) x.t x.b:=by rw [kt,Tb.Ah kn,eb]
  have b0:0<=beh:=by rw [eb]; exact (Cu _ chw).1
  generalize hto:Tb.Sm (Tb.zF (pB ts)) ((qX rs).take (i+1))=tog at *;have hs5:=hs.trans hs4;have hX4:=hX.same hs4;have dne:Dn≠Rp:=Ne.symm (bB hX.lst hDn);refine ⟨_,rfl,_,rfl,_,_,rfl,rfl,_,rfl,?_⟩
  by_cases hgt:beh<tog
  ·refine uR (decide_eq_true hgt) ?_;refine ⟨_,rfl,.inl ⟨rfl,_,bK.of hX4.lst⟩,_,rfl,_,rfl,_,rfl,_,_,rfl,rfl,qU,fun p hp=>?_⟩;have n5:=aH hp (.tup [.ref x.q,.int (tog-beh)]);have hX5:=hX4.same n5;refine ⟨Rp,refs xs,.ref p,rfl,rfl,hX5.lst,by rw [refs_length]; exact aU (by omega),?_⟩;refine ⟨_,rfl,Dn,_,_,xs++[⟨p,x.q,x.t,x.b,tog-beh⟩],tog,rfl,(hs5.trans n5).upd_new wR _,?_,dne,⟨?_,?_⟩,?_,?_,?_,?_⟩
   ·rw [aO dne];exact n5 _ _ hD4
   ·rw [aC,lD]
   ·intro y hy;rcases aLO.mp hy with z | z
    ·exact (hX5.rows y z).over hX5.lst
    ·rw [aLy.mp z];exact iD.over ⟨aC,n5 _ _ (hs5 _ _ (wrat x hxm))⟩ hX5.lst
   ·rw [jT,ex,kt,Tb.tH,if_pos (show 0<Tb.Wt (Tb.zF (pB ts)) x.t x.b by omega)];show _++[Tb.Rw.mk x.t x.b (tog-beh)]=_;rw [show tog-beh=Tb.Wt (Tb.zF (pB ts)) x.t x.b by omega]
   ·intro y hy;rcases aLO.mp hy with z | z
    ·exact pb y z
    ·rw [aLy.mp z];obtain ⟨t,ht,w,hw,e⟩:=xC (rin x hxm);injection e with e1 e2
     have gt:=g.all t ht;refine ⟨?_,?_,?_,?_,?_⟩
     ·show Fr.fZ x.t x.b;rw [<- e1,<- e2];exact gt.fr w hw
     ·show intBits x.t<=4000;rw [<- e1];exact aLv (gt.zt w hw) (by decide)
     ·show intBits x.b<=4000;rw [<- e2];exact aLv (gt.zb w hw) (by decide)
     ·show 1<=tog-beh;omega
     ·show tog-beh<=uZ;have:=Yi (x:=tog) (by omega) (by omega);omega
   ·rw [aLP];show xs.length+1<=_;omega
   ·rfl
  ·refine uP (decide_eq_false hgt) ?_;have w0:0<=Tb.Wt (Tb.zF (pB ts)) x.t x.b:=Tb.JC _ _ chw;refine ⟨_,rfl,Dn,_,_,xs,tog,rfl,hs5,hD4,dne,hX4,?_,pb,by omega,rfl⟩;rw [ex,kt,Tb.tH,if_neg (show ¬ 0<Tb.Wt (Tb.zF (pB ts)) x.t x.b by omega),aMN]
 case done3 =>
  rintro σ H5 ⟨Rc,v5,v6,xs,beh,rfl,hs,hRc,cne,hX,ex,pb,xl,eb⟩;have kl:(qX rs).length=rs.length:=aLo _;rw [jA,<- kl,aLG] at ex;rw [jA] at xl;have hall:=(Tb.Fx (Tb.yM kso (qX rs).length) tne (vQ kmem)).1;obtain ⟨r1,r2⟩:=Tb.Jb (Rm so) hall chw;refine ⟨_,rfl,Rp,xs,rfl,hX,?_,by omega,pb,tbd.same hs,fun r H6 ys s6 tb6 hr6 hY o ol=>?_⟩
  ·rintro rfl;have ex:([]:List Tb.Rw)=Tb.rowsOf (Tb.zF (pB ts)) (qX rs):=ex;have cn:=Rh g;cases ec:Tb.zF (pB ts) with
   | nil=>exact cn ec
   | cons c cs =>
    have z:=(r1 c.t c.b).mpr ⟨c,by rw [ec]; exact aLq,rfl,rfl⟩;rw [<- ex] at z;exact Tb.nJ z
  ·rw [ex] at o;exact q r H6 ys ((ht0.trans (hs.toT)).trans s6) tb6 ((ht0.trans (hs.toT)).free hr6 (tbd.same hs).at_) hY ⟨_,r1,r2,o⟩ (by omega)
end
end K51
namespace K51
open PySem L2 TD TP TG
open Builtin.Int (intBits)
section
variable {P:Program}{w:World}{K:PySem.W.Frag}{mg:Str->Option Value}{base:Heap}{Pt:Addr}
theorem Q7 {n:Nat}{f:Addr}{fd:FuncData}(F:dW K "mean" "mean" (top 24) f fd){aIU:Addr}{aIu:FuncData}(aIV:dF P w K mg base n "by_weights" ["rows","weights"] Qt aIU aIu){F_:Addr}{A_:FuncData}(z_:dF P w K mg base n "all_weights" ["table"] Ot F_ A_):aY P w K mg base cZ (n+1) f fd ["table"] Ii:=by
 refine F.ok Hg (fun vs H Q E h=>?_) (fun cdv A outer s H vs Q E hr h=>?_)
 ·obtain ⟨a,ys,rfl,_⟩:=h
  rfl
 obtain ⟨a,ys,rfl,hT,br,w0,wz,q⟩:=h;have nd:=Hg.nd;refine ⟨_,(aG (aV (aK aIV hr (aA (pv 0) (aA (aK z_ hr (aA (pv 0) aD)) aD))))),?_⟩;have bl:=br.len;refine ⟨_,rfl,_,rfl,a,ys,rfl,hT,by omega,fun H1 s1=>?_⟩;refine ⟨a,ys,wsum ys,rfl,hT.same s1,br,w0,wz,fun r H2 s2 hr=>?_⟩;have bp:∀ n∈ys.map Row.b,0<n:=fun n hn=>by
  obtain ⟨y,hy,rfl⟩:=aLr.mp hn;exact br.b y hy
 obtain ⟨lp,ld⟩:0<bN ys/\∀ n∈ys.map Row.b,n∣bN ys:=pW bp;have b0:0<bN ys*wsum ys:=aLY lp w0;refine q r H2 _ (s1.trans s2) hr (Fr.Kd (aLT b0)) ?_;rw [Sd.QF b0,Sd.Og lp (fun r hr=>by
  obtain ⟨y,hy,rfl⟩:=aLr.mp hr;exact ⟨br.b y hy,ld _ (aLr.mpr ⟨y,hy,rfl⟩)⟩),Sd.lV,<- jM]
 push_cast
 have n1:=Sd.eV lp;have n2:=Sd.eV w0
 grind
theorem FZ {n:Nat}{f:Addr}{fd:FuncData}(F:dW K "lets_two" "lets_two" (top 71) f fd){p:xF}(pt:SN K p){aI5:Addr}{aHS:FuncData}(aKe:fD K p.f "may" aI5)(aKf:aY P w K mg base cZ n aI5 aHS ["self","kept"] (vA p.f))(aKg:Binds K aHS ["self","kept"] []){aI6:Addr}{aHT:FuncData}(aKh:fD K p.g "may" aI6)(aKi:aY P w K mg base cZ n aI6 aHT ["self","kept"] (vN p.g))(aKj:Binds K aHT ["self","kept"] []){aI7:Addr}{aHU:FuncData}(aKk:fD K p.l "may" aI7)(aKl:aY P w K mg base cZ n aI7 aHU ["self","kept"] (vI p.l))(aKm:Binds K aHU ["self","kept"] []){aKp:Addr}{aJR:FuncData}(aIl:dF P w K mg base n "set_of" ["boxes"] Lz aKp aJR)(gV:mg "range" = none):aY P w K mg base cZ (n+1) f fd ["pattern","many"] (O8 p):=by
 refine F.ok sO (fun vs H Q E h=>?_) (fun cdv A outer s H vs Q E hr h=>?_)
 ·obtain ⟨x,S,m,rfl,_⟩:=h
  rfl
 obtain ⟨x,S,m,rfl,hX,hG,m6,k⟩:=h;have nd:=sO.nd;refine ⟨_,(aF (dB PassesOwn.never rfl (dX rfl gV (aA (pv 1) aD)) (aP (i:=2) nd rfl (Or.inl rfl)) (aG (dB PassesOwn.never rfl (dX rfl gV (aA (pv 2) aD)) (aP (i:=3) nd rfl (Or.inl rfl)) (aG (cL (bW (Ft (eG (pv 0) pt.cf aKe aKf hr aKg .nil c7 (aA (aK aIl hr (aA (dM (aA (pv 2) (aA (pv 3) aD))) aD)) aD)) (eG (pv 0) pt.cg aKh aKi hr aKj .nil c7 (aA (aK aIl hr (aA (dM (aA (pv 2) (aA (pv 3) aD))) aD)) aD)) (eG (pv 0) pt.cl aKk aKl hr aKm .nil c7 (aA (aK aIl hr (aA (dM (aA (pv 2) (aA (pv 3) aD))) aD)) aD)))) (aG (aV iH)) bJ))))) (aG (aV iH))),?_⟩;refine ⟨_,rfl,(m:Int),rfl,by omega,by omega,?_⟩;refine gM (n:=(m:Int).toNat) (fun i σ H'=>∃ v2 v3,σ = [some (.ref x),some (.int (m:Int)),v2,v3]/\aR H H'/\∀ a,a<i->∀ b,b<a->fX S (p7 [(a:Int),(b:Int)])=false) ⟨none,none,rfl,aR.refl _,fun a h=>absurd h (aMR _)⟩ ?turn ?done
 case done =>
  rintro σ H' ⟨v2,v3,rfl,hs,al⟩;have z:Mz S m=false:=by
   unfold Mz;rw [aMW];intro a ha;rw [aOh,aMW];intro b hb;rw [aOh];exact al a (by have:=aMj.mp ha; omega) b (aMj.mp hb)
  have e:=k H' hs;rw [z] at e;exact e
 case turn =>
  rintro i σ H1 hi ⟨v2,v3,rfl,hs,al⟩;refine ⟨_,rfl,0+(i:Int),rfl,by omega,by omega,?_⟩;refine gM (n:=(0+(i:Int)).toNat) (fun j σ H'=>∃ v3,σ = [some (.ref x),some (.int (m:Int)),some (.int (0+(i:Int))),v3]/\aR H H'/\∀ b,b<j->fX S (p7 [(i:Int),(b:Int)])=false) ⟨v3,rfl,hs,fun b h=>absurd h (aMR _)⟩ ?turn2 ?done2
  case done2 =>
   rintro σ H' ⟨v3,rfl,hs,bl⟩;refine ⟨_,_,rfl,hs,fun a ha b hb=>?_⟩
   by_cases e:a=i
   ·subst e;exact bl b (by omega)
   ·exact al a (by omega) b hb
  case turn2 =>
   rintro j σ H2 hj ⟨v3,rfl,hs2,bl⟩;have eb:p7 [0+(i:Int),0+(j:Int)]=p7 [(i:Int),(j:Int)]:=by rw [aM1,aM1]
   refine Uk (k:=p7 [0+(i:Int),0+(j:Int)]) (hX.same hs2) hG (fun Q' h=>⟨_,rfl,h⟩) (fun Q' h=>⟨_,rfl,_,rfl,qU,fun L hL=>⟨L,[0+(i:Int),0+(j:Int)],rfl,aC,(show 2<=100 by decide),fun z hz=>?_,fun H3 s3=>h H3 ((aH hL _).trans s3)⟩⟩) fun H4 s4=>⟨_,rfl,?_⟩
   ·rcases aLF.mp hz with e | e
    ·omega
    ·have:=aLy.mp e;omega
   rw [eb];cases e:fX S (p7 [(i:Int),(j:Int)]) with
   | true =>
    refine gA ?_;have z:Mz S m=true:=by
     unfold Mz;rw [aMh];refine ⟨i,aMj.mpr (by omega),?_⟩;rw [aMh];exact ⟨j,aMj.mpr (by omega),e⟩
    have q:=k H4 (hs2.trans s4);rw [z] at q;exact q
   | false =>
    refine dU ?_;refine ⟨_,rfl,hs2.trans s4,fun b hb=>?_⟩
    by_cases e2:b=j
    ·subst e2;exact e
    ·exact bl b (by omega)
theorem BX {n:Nat}{f:Addr}{fd:FuncData}(F:dW K "need_best" "need_best" (top 72) f fd){p:xF}{c:Cs}{cC:Addr}(ca:K4 K c cC){l_:Addr}{aIh:Addr}{aG1:FuncData}(aJv:fD K cC "how_many" aIh)(aJw:aY P w K mg base cZ n aIh aG1 ["self"] (Kr c cC))(aJx:Binds K aG1 ["self"] []){aKn:Addr}{aJg:FuncData}(aKE:fD K cC "stand" aKn)(aKF:aY P w K mg base (uW P w) n aKn aJg ["self","box"] (Nf c cC l_))(aKG:Binds K aJg ["self","box"] []){aHv:Addr}{aG4:FuncData}(aHw:dF P w K mg base n "lets_two" ["pattern","many"] (O8 p) aHv aG4){aGU:Addr}{aGT:FuncData}(aGV:dF P w K mg base n "need_few_unfoldings" ["boxes"] (fun _ _ _ _=>False) aGU aGT)(gV:mg "range" = none):aY P w K mg base cZ (n+1) f fd ["pattern","case"] (Ls p c cC):=by
 refine F.ok p8 (fun vs H Q E h=>?_) (fun cdv A outer s H vs Q E hr h=>?_)
 ·obtain ⟨x,y,S,q,s,d,m,rfl,_⟩:=h
  rfl
 obtain ⟨x,y,S,q,s,d,m,rfl,hX,hG,oc,k⟩:=h;have nd:=p8.nd;refine ⟨_,(aF (bC (i:=2) nd rfl (Or.inl rfl) (eZ (pv 1) ca.cl aJv aJw hr aJx .nil c7)) (aG (cL (bW (aK aHw hr (aA (pv 0) (aA (pv 2) aD)))) (aG (fL (aK aGV hr (aA (cD (ls:=["box"]) (M:=["pattern","case","many"]) rfl (bM.of (by rfl)) (NL.of (by rfl)) (dX rfl gV (aA (pv 2) aD)) (fun _ _ _ _=>⟨(aP (i:=0) (bY (by rfl)) rfl (Or.inl rfl)),bV,(eG (pv 2) ca.cl aKE aKF hr aKG .nil xD (aA (pv 0) aD))⟩)) aD)))) bJ))),?_⟩;have el:q.ys.length=1:=by rw [<- oc.ca.es,oc.ss]; rfl
 refine ⟨_,rfl,y,_,_,rfl,oc.ca.hx,rfl,y,q,rfl,oc.ca,?_⟩;rw [el];refine ⟨_,rfl,_,rfl,x,S,1,rfl,hX,hG,by decide,fun H1 s1=>⟨_,rfl,?_⟩⟩;refine dU ?_;exact k H1 s1
theorem Pz:Builtin.bitOr 0 (1*2^((0:Int)).toNat)=1:=by decide +kernel
theorem aGr {a p q:Addr}{H:Hp}(hq:H q=some (.tup [.int 0,.int 1]))(hp:H p=some (.tup [.ref q,.int 1]))(ha:H a=some (.lst [.ref p])):TabAt H a [⟨p,q,0,1,1⟩]:=⟨ha,fun y hy=>by rw [aLy.mp hy]; exact ⟨hp,hq⟩⟩
theorem QG (a p q:Addr):Gw ⟨a,[⟨p,q,0,1,1⟩]⟩:=by
 refine ⟨(fun z=>nomatch z),(by show 1<=12; decide),aNI _ _,fun y hy=>?_,fun y hy=>?_,fun y hy=>?_,fun y hy=>?_⟩ <;> rw [aLy.mp hy]
 ·exact (show Fr.fZ 0 1 by constructor <;> decide)
 ·show intBits 0<=4000; decide
 ·show intBits 1<=4000; decide
 ·show (1:Int)<=1; decide
theorem aAV {t:Tn}{d m:Nat}(gs:By t.ys d m)(d4:d<=4)(m12:m<=12)(so:(bO t.ys).Pairwise Tb.Lt):Gw t:=by
 have cp:=tU d4 m12 gs.2;have pb:=gs.1.pb cp;exact ⟨gs.1.ne,aLv gs.1.len cp.n,so,fun y hy=>(pb y hy).1,fun y hy=>(pb y hy).2.1,fun y hy=>(pb y hy).2.2.1,fun y hy=>(pb y hy).2.2.2.1⟩
theorem UL {t:Tn}{d m:Nat}(gs:By t.ys d m)(d4:d<=4)(m12:m<=12):0<=Tb.W (bO t.ys)/\Tb.W (bO t.ys)<=2^600:=by
 have cp:=tU d4 m12 gs.2;rw [<- jM];refine ⟨?_,aLN gs.1.ws cp.w⟩;cases e:t.ys with
 | nil=>exact absurd e gs.1.ne
 | cons x l =>
  have m:x∈t.ys:=by rw [e]; exact aLq
  rw [<- e];have:=jO gs.1.w1 m;have:=gs.1.w1 x m;omega
theorem rR {n:Nat}{f:Addr}{fd:FuncData}(F:dW K "best_with_one" "best_with_one" (top 73) f fd){p:xF}(pt:SN K p){aI5:Addr}{aHS:FuncData}(aKe:fD K p.f "may" aI5)(aKf:aY P w K mg base cZ n aI5 aHS ["self","kept"] (vA p.f))(aKg:Binds K aHS ["self","kept"] []){aI6:Addr}{aHT:FuncData}(aKh:fD K p.g "may" aI6)(aKi:aY P w K mg base cZ n aI6 aHT ["self","kept"] (vN p.g))(aKj:Binds K aHT ["self","kept"] []){aI7:Addr}{aHU:FuncData}(aKk:fD K p.l "may" aI7)(aKl:aY P w K mg base cZ n aI7 aHU ["self","kept"] (vI p.l))(aKm:Binds K aHU ["self","kept"] []){aK1:Addr}{aKH:FuncData}(aK2:dF P w K mg base n "mean" ["table"] Ii aK1 aKH){aJC:Addr}{aJj:FuncData}(aJD:dF P w K mg base n "greatest" ["tables"] (IV Pt cT) aJC aJj){aIF:Addr}{aIa:FuncData}(aH4:dF P w K mg base n "whole" ["number"] UV aIF aIa){aHs:Addr}{aG2:FuncData}(R_:dF P w K mg base n "with_box" ["kept","box"] Fl aHs aG2)(aG5:mg "enumerate" = none):aY P w K mg base cZ (n+1) f fd ["pattern","tables"] (aAb p Pt cT):=by
 refine F.ok lC (fun vs H Q E h=>?_) (fun cdv A outer s H vs Q E hr h=>?_)
 ·obtain ⟨x,a,S,t,d,m,rfl,_⟩:=h
  rfl
 obtain ⟨x,a,S,t,d,m,rfl,hX,hG,ha,hT,gs,d4,m12,so,hTb,q⟩:=h;have nd:=lC.nd;refine ⟨_,(aF (lR (i:=2) (ls:=["box","table"]) (M:=["pattern","tables","lone"]) rfl (bM.of (by rfl)) (NL.of (by rfl)) nd rfl (Or.inl rfl) (Pq rfl aG5 (aA (pv 1) aD)) (fun _ _ _ _=>⟨(fK (K:=K) (n:=2) rfl rfl (bG (aP (i:=0) (bY (by rfl)) rfl (Or.inl rfl)) (bG (aP (i:=1) (bY (by rfl)) rfl (Or.inl rfl)) dJ))),(Bl (bW (Ft (eG (pv 2) pt.cf aKe aKf hr aKg .nil c7 (aA (aK R_ hr (aA aJ (aA (pv 0) aD))) aD)) (eG (pv 2) pt.cg aKh aKi hr aKj .nil c7 (aA (aK R_ hr (aA aJ (aA (pv 0) aD))) aD)) (eG (pv 2) pt.cl aKk aKl hr aKm .nil c7 (aA (aK R_ hr (aA aJ (aA (pv 0) aD))) aD))))),(pv 1)⟩)) (aG (aV (aK aK2 hr (aA (aK aJD hr (aA (bA U6 (pv 2) (dM (aA (dM (aA (dN (aA (aK aH4 hr (aA aJ aD)) (aA aJ aD))) aD)) aD))) aD)) aD))))),?_⟩;refine ⟨_,rfl,a,_,rfl,ha,fun D hD=>?_⟩;refine KJ (xs:=[.ref t.a]) (fun i τ H'=>∃ v0 v1,τ = [v0,v1,some (.ref x),some (.ref a),none]/\aR H H'/\H' D=some (.lst (if i=0 then [] else if fX S 1=true then [.ref t.a] else []))) ⟨none,none,rfl,aH hD _,aC⟩ ?keep ?turn ?done
 case keep =>
  rintro i τ H' hi ⟨v0,v1,rfl,hs,_⟩;exact hs _ _ ha
 case turn =>
  rintro i mm v T τ H' hm hi hv hTn ⟨v0,v1,rfl,hs,hD'⟩;obtain rfl:i=0:=by have:i<1:=hi; omega
  cases hv;have hD0:H' D=some (.lst []):=hD';have nT:=aH hTn (.tup [.int ((0:Nat):Int),.ref t.a]);refine ⟨T,_,rfl,cY.of aC,rfl,_,_,rfl,_,_,rfl,rfl,?_⟩;have hs1:=hs.trans nT;refine Uk (k:=Builtin.bitOr 0 (1*2^((0:Int)).toNat)) (hX.same hs1) hG (fun Q' h=>⟨_,rfl,h⟩) (fun Q' h=>⟨_,rfl,0,0,rfl,by decide,by decide,h _ (aR.refl _)⟩) fun H2 s2=>⟨_,rfl,?_⟩
  rw [Pz];have hD2:=s2 _ _ (nT _ _ hD0);cases e:fX S 1 with
  | true =>
   refine gA ?_;refine ⟨_,rfl,?_⟩;exact bF hm hi hD2 (aU (aLQ _)) ⟨_,_,rfl,(hs1.trans s2).upd_new hD _,aC⟩
  | false =>
   refine dU ?_;exact rH hm hi ⟨_,_,rfl,hs1.trans s2,hD2⟩
 case done =>
 rintro τ H1 ⟨v0,v1,rfl,s1,hD1⟩;have hD1:H1 D=some (.lst (if fX S 1=true then [.ref t.a] else [])):=hD1;refine ⟨_,rfl,0,rfl,fun pz H2 s2 hz=>?_⟩;refine ⟨qU,fun pt0 hpt=>?_⟩;have n3:=aH hpt (.tup [.ref pz,.int 1]);refine ⟨U7,fun l1 hl1=>?_⟩;have n4:=aH hl1 (.lst [.ref pt0]);refine ⟨U7,fun l2 hl2=>?_⟩;have n5:=aH hl2 (.lst [.ref l1]);have e2:aX H2 pt0 (.tup [.ref pz,.int 1]) pt0=some (.tup [.ref pz,.int 1]):=aC;have e3:aX (aX H2 pt0 (.tup [.ref pz,.int 1])) l1 (.lst [.ref pt0]) l1=some (.lst [.ref pt0]):=aC;have e4:aX (aX (aX H2 pt0 (.tup [.ref pz,.int 1])) l1 (.lst [.ref pt0])) l2 (.lst [.ref l1]) l2=some (.lst [.ref l1]):=aC;generalize aX H2 pt0 (.tup [.ref pz,.int 1])=H3 at n3 e2 n4 e3 n5 e4 ⊢;generalize aX H3 l1 (.lst [.ref pt0])=H4 at n4 e3 n5 e4 ⊢;generalize aX H4 l2 (.lst [.ref l1])=H5 at n5 e4 ⊢;have s25:=(n3.trans n4).trans n5;have Il:=s2.trans s25;have hZ:TabAt H5 l1 [⟨pt0,pz,0,1,1⟩]:=aGr (s25 _ _ hz) ((n4.trans n5) _ _ e2) (n5 _ _ e3);have zr:bO [(⟨pt0,pz,0,1,1⟩:Row)]=[Z0]:=rfl;have gz:=QG l1 pt0 pz;have gt:=aAV gs d4 m12 so;have cp:=tU d4 m12 gs.2;have pb:=gs.1.pb cp;have wb:=UL gs d4 m12;have bitsW:intBits (Tb.W (bO t.ys))<=601:=gO (aM8 (show -(2^601:Int)<0 by decide +kernel) wb.1) (aM9 wb.2 (by decide +kernel));have tp:0<Sd.bR (bO t.ys):=Sd.Cj (Fv gs.1.ne) gt.ws;have W6:Sd.bR (bO t.ys)<=((2^600:Int):Rat):=by rw [Sd.lV]; exact_mod_cast wb.2
 have lenD:(if fX S 1=true then [V.ref t.a] else []).length<=1:=by split <;> simp
 refine ⟨D,l2,_,_,rfl,rfl,Il _ _ hD1,e4,aLZ (aU (by show (if fX S 1=true then [V.ref t.a] else []).length+1<=1000; omega)),fun A0 hA0=>?_⟩;have n6:=aH hA0 (.lst ((if fX S 1=true then [V.ref t.a] else [])++[.ref l1]));have e6:aX H5 A0 (.lst ((if fX S 1=true then [V.ref t.a] else [])++[.ref l1])) A0=some (.lst ((if fX S 1=true then [V.ref t.a] else [])++[.ref l1])):=aC;generalize aX H5 A0 (.lst ((if fX S 1=true then [V.ref t.a] else [])++[.ref l1]))=H6 at n6 e6 ⊢;have s6:=Il.trans n6;have s06:=s1.trans s6;have tb6:=hTb.same s06;obtain ⟨lp,_,ld⟩:=gs.1.lcm;obtain ⟨ts,mn,tn,kl,tat,gss,kk⟩:∃ ts:List Tn,(∀ ys,Gr ts ys->Sd.sm (bO ys)/Sd.bR (bO ys)=Uz S t.ys/\Sd.bR (bO ys)<=((2^600:Int):Rat)/\0<Sd.bR (bO ys))/\ts≠[]/\(keysOf ts).length<=13/\yV H6 A0 ts/\Gs ts/\∀ k∈keysOf ts,intBits k.1<=4000/\intBits k.2<=4000/\0<k.2/\k.2∣bN t.ys:=by
  have zk:intBits ((0:Int),(1:Int)).1<=4000/\intBits ((0:Int),(1:Int)).2<=4000/\0<((0:Int),(1:Int)).2/\((0:Int),(1:Int)).2∣bN t.ys:=⟨by decide,by decide,by decide,⟨_,(aMK _).symm⟩⟩
  have hZ6:=hZ.same n6;have hT6:=hT.same s06;have tl:=aLv gs.1.len cp.n
  by_cases e:fX S 1=true
  ·rw [if_pos e] at e6;have kz:keysOf [t,⟨l1,[⟨pt0,pz,0,1,1⟩]⟩]=(t.ys.map fun y=>(y.t,y.b))++[(0,1)]:=by unfold keysOf; simp
   have kl:(keysOf [t,⟨l1,[⟨pt0,pz,0,1,1⟩]⟩]).length<=13:=by rw [kz,aLP,aLo]; show t.ys.length+1<=13; omega
   refine ⟨[t,⟨l1,[⟨pt0,pz,0,1,1⟩]⟩],fun ys g=>?_,(fun z=>nomatch z),kl,⟨e6,fun u hu=>?_⟩,⟨(fun z=>nomatch z),(by show 2<=7; decide),aLv kl (by decide),?_,fun u hu=>?_⟩,fun k hk=>?_⟩
   ·obtain ⟨a1,a2⟩:=MP zr g (fun r hr=>by obtain ⟨y,hy,rfl⟩:=aLr.mp hr; exact (pb y hy).1.pos) tp;have e2:pB [t,⟨l1,[⟨pt0,pz,0,1,1⟩]⟩]=[bO t.ys,[Z0]]:=rfl;have h:=g.tab;rw [e2,Ir] at h;obtain ⟨_,b2⟩:=Bo (ps:=bO t.ys) fun r hr=>by obtain ⟨y,hy,rfl⟩:=aLr.mp hr; exact (pb y hy).1.pos
    exact ⟨by unfold Uz; rw [if_pos e]; exact a1,Rat.le_trans a2 W6,(pQ h (by rw [b2]; exact tp)).2.2⟩
   ·rcases aLF.mp hu with z | z
    ·rw [z]; exact hT6
    ·rw [aLy.mp z]; exact hZ6
   ·show intBits (Tb.W (bO t.ys))+(intBits (Tb.W [Z0])+0)<=3900;have:intBits (Tb.W [Z0])=1:=by decide
    omega
   ·rcases aLF.mp hu with z | z
    ·rw [z]; exact gt
    ·rw [aLy.mp z]; exact gz
   ·rw [kz] at hk;rcases aLO.mp hk with z | z
    ·obtain ⟨y,hy,rfl⟩:=aLr.mp z;exact ⟨(pb y hy).2.1,(pb y hy).2.2.1,(pb y hy).1.pos,ld y hy⟩
    ·rw [aLy.mp z]; exact zk
  ·rw [if_neg e] at e6;have kz:keysOf [⟨l1,[⟨pt0,pz,0,1,1⟩]⟩]=[(0,1)]:=by unfold keysOf; simp
   refine ⟨[⟨l1,[⟨pt0,pz,0,1,1⟩]⟩],fun ys g=>?_,(fun z=>nomatch z),by rw [kz]; decide,⟨e6,fun u hu=>?_⟩,⟨(fun z=>nomatch z),(by show 1<=7; decide),(by show (keysOf [⟨l1,[⟨pt0,pz,0,1,1⟩]⟩]).length<=63; rw [kz]; decide),?_,fun u hu=>?_⟩,fun k hk=>?_⟩
   ·obtain ⟨a1,a2⟩:=J1 zr g;have e2:pB [⟨l1,[⟨pt0,pz,0,1,1⟩]⟩]=[[Z0]]:=rfl;have h:=g.tab;rw [e2] at h;have t1:Sd.bR [Z0]=1:=by unfold Sd.bR; simp [Z0]; grind
    exact ⟨by unfold Uz; rw [if_neg e]; exact a1,Rat.le_trans a2 (by exact_mod_cast (show (1:Int)<=2^600 by decide +kernel)),(pQ (ps:=[Z0]) h (by rw [t1]; grind)).2.2⟩
   ·rw [aLy.mp hu]; exact hZ6
   ·show intBits (Tb.W [Z0])+0<=3900
    decide
   ·rw [aLy.mp hu]; exact gz
   ·rw [kz] at hk;rw [aLy.mp hk]; exact zk
 refine ⟨A0,ts,rfl,tat,gss,tb6,fun r H7 ys sT7 tb7 hr7 hY gr yl=>?_⟩;obtain ⟨m1,m2,m3⟩:=mn ys gr;obtain ⟨br,wz⟩:=WD tn gr (by omega) kk lp cp.m m2;have w0:0<wsum ys:=by
  rw [Sd.lV,<- jM] at m3
  exact_mod_cast m3
 refine ⟨r,ys,rfl,hY,br,w0,by omega,fun r2 H8 z s8 hz8 fr vz=>?_⟩;exact q r2 H8 z ((s06.toT.trans sT7).trans s8.toT) (tb7.same s8) hz8 fr (vz.trans m1)
theorem MN {H:Hp}{r D:Addr}{xs:List Row}{l l':List V}(h:TabAt H r xs)(e:H D=some (.lst l))(n:r≠D):TabAt (aX H D (.lst l')) r xs:=⟨by rw [aO n]; exact h.lst,fun x hx=>(h.rows x hx).over e⟩
theorem QR {pos:Pos}{qual:Str}{H:Hp}{a:Addr}{xs zs:List V}(t:cA Pt pos qual H)(e:H a=some (.lst xs)):cA Pt pos qual (aX H a (.lst zs)):=by
 rcases t with t | ⟨c,t,u⟩
 ·exact .inl (by rw [aO (cI t e fun z=>nomatch z)]; exact t)
 ·exact .inr ⟨c,by rw [aO (cI t e fun z=>nomatch z)]; exact t,by rw [aO (cI u e fun z=>nomatch z)]; exact u⟩
theorem Td {S:Sk}{s:Sd.Sd}{d:Nat}{lv:Int×Int}{xs:List Row}(mt:Sd.Mt s d lv (bO xs)):Uz S xs=Ag S s d:=by
 unfold Uz Ag
 split
 ·have a:=mt.a (d+1) (aNj d) 0;have t:=mt.t;have n:Sd.bR (bO xs)≠0:=by grind
  rw [<- a]
  grind
 ·rfl
theorem iJ {p:xF}{H H':Hp}{x:Addr}{S:Sk}(k:Kt H H')(h:fC p H x S):fC p H' x S:=by
 have ki:∀ {b C dx fs},H b=some (.ins C dx fs)->H' b=some (.ins C dx fs):=fun e=>k _ _ e (fun _ z=>nomatch z);have kt:∀ {b xs},H b=some (.tup xs)->H' b=some (.tup xs):=fun e=>k _ _ e (fun _ z=>nomatch z);cases S with
 | few c=>obtain ⟨dx,hx⟩:=h; exact ⟨dx,ki hx⟩
 | groups gs ms=>obtain ⟨dx,g,m,hx,hg,hm⟩:=h; exact ⟨dx,g,m,ki hx,kt hg,kt hm⟩
 | listed ks=>obtain ⟨ms,pm,so,dx,t,hx,ht⟩:=h; exact ⟨ms,pm,so,dx,t,ki hx,kt ht⟩
theorem Od {c:Cs}{cC:Addr}{H H':Hp}{y:Addr}{q:Ca}{s:Sd.Sd}{d m:Nat}(k:Kt H H')(h:Jt c cC H y q s d m):Jt c cC H' y q s d m:=⟨h.ca.kt k,h.ss,h.ls⟩
theorem Ku {c:Cs}{cC:Addr}{H3:Hp}{x dx tp tl th td y:Addr}{s:Sd.Sd}{d m:Nat}(hx3:H3 x=some (.ins cC dx (fCa tp tl th 0 td)))(htp:H3 tp=some (.tup ([y].map V.ref)))(htl:H3 tl=some (.tup ([y].map fun _=>V.non)))(hth:H3 th=some (.tup ([y].map fun _=>V.bl false)))(htd:H3 td=some (.tup []))(st:fW c H3 y s d m)(d4:d<=4)(m12:m<=12):∃ q,Jt c cC H3 x q s d m:=by
 refine ⟨⟨dx,tp,tl,th,td,[y],[(s,d,m)],[.non],[false],0,[]⟩,⟨hx3,htp,htl,hth,htd,aLu _,(by show 1<=6; decide),rfl,rfl,rfl,fun i y' s' e1 e2=>?_,fun l hl=>?_,fun i s' e1 _=>?_,(fun d hd=>nomatch hd),aLQ _⟩,rfl,rfl⟩
 ·cases i with
  | zero=>cases e1; cases e2; exact ⟨st,d4,m12⟩
  | succ i=>cases e1
 ·rw [aLy.mp hl]; exact .non
 ·cases i with
  | zero=>cases e1
  | succ i=>cases e1
theorem HR {n:Nat}{f:Addr}{fd:FuncData}(F:dW K "best_in" "best_in" (top 77) f fd){p:xF}{c:Cs}{cC:Addr}(ca:K4 K c cC){aIh:Addr}{aG1:FuncData}(aJv:fD K cC "how_many" aIh)(aJw:aY P w K mg base cZ n aIh aG1 ["self"] (Kr c cC))(aJx:Binds K aG1 ["self"] []){aLd:Addr}{aKS:FuncData}(aLl:fD K cC "caps" aLd)(aLm:aY P w K mg base cZ n aLd aKS ["self","box"] (Qw c cC Pt cT))(aLn:Binds K aKS ["self","box"] []){aH0:Addr}{aHP:FuncData}(aH1:dF P w K mg base n "best_with_one" ["pattern","tables"] (aAb p Pt cT) aH0 aHP){aHv:Addr}{aG4:FuncData}(aHw:dF P w K mg base n "lets_two" ["pattern","many"] (O8 p) aHv aG4){aHf:Addr}{aG6:FuncData}(aHg:dF P w K mg base n "best_with_several" ["pattern","tables"] (fun _ _ _ _=>False) aHf aG6)(gV:mg "range" = none):aY P w K mg base cZ (n+1) f fd ["pattern","case"] (Qz p c cC Pt cT):=by
 refine F.ok vR (fun vs H Q E h=>?_) (fun cdv A outer s H vs Q E hr h=>?_)
 ·obtain ⟨x,y,S,q,s,d,m,rfl,_⟩:=h
  rfl
 obtain ⟨x,y,S,q,s,d,m,rfl,hX,hG,oc,hTb,k⟩:=h;have nd:=vR.nd;refine ⟨_,(aF (bC (i:=2) nd rfl (Or.inl rfl) (eZ (pv 1) ca.cl aJv aJw hr aJx .nil c7)) (aF (lR (i:=3) (ls:=["box"]) (M:=["pattern","case","many","tables"]) rfl (bM.of (by rfl)) (NL.of (by rfl)) nd rfl (Or.inl rfl) (dX rfl gV (aA (pv 2) aD)) (fun _ _ _ _=>⟨(aP (i:=0) (bY (by rfl)) rfl (Or.inl rfl)),bV,(eG (pv 2) ca.cl aLl aLm hr aLn .nil c7 (aA (pv 0) aD))⟩)) (aF (cL (bW (aK aHw hr (aA (pv 0) (aA (pv 2) aD)))) (aG (aV (aK aHg hr (aA (pv 0) (aA (pv 3) aD))))) bJ) (aG (aV (aK aH1 hr (aA (pv 0) (aA (pv 3) aD)))))))),?_⟩;have el:q.ys.length=1:=by rw [<- oc.ca.es,oc.ss]; rfl
 obtain ⟨y0,hy0⟩:∃ y0,q.ys[0]? = some y0:=⟨_,aLs (by omega)⟩
 obtain ⟨st,d4,m12⟩:=oc.ca.st 0 y0 (s,d,m) hy0 (by rw [oc.ss]; rfl);obtain ⟨xs,lv,ct,gs,so,mt,lw⟩:=st.tab;refine ⟨_,rfl,y,_,_,rfl,oc.ca.hx,rfl,y,q,rfl,oc.ca,?_⟩;rw [el];refine ⟨_,rfl,((1:Nat):Int),rfl,by decide,by decide,fun D hD=>?_⟩;refine lO (n:=((1:Nat):Int).toNat) (fun i τ H'=>∃ v0,τ = [v0,some (.ref x),some (.ref y),some (.int ((1:Nat):Int)),none]/\bH Pt H H'/\cA Pt cT d8 H'/\(i=0->H' D=some (.lst []))/\(i=1->∃ r,H' D=some (.lst [.ref r])/\TabAt H' r xs))
  ⟨none,rfl,(aH hD _).toT,hTb.same (aH hD _),fun _=>aC,(fun z=>nomatch z)⟩ ?turn ?done
 case turn =>
  rintro i j τ H' hm hi ⟨v0,rfl,sT,tb,h0,_⟩;obtain rfl:i=0:=by have:i<1:=hi; omega
  have hD':=h0 rfl;have kt:=bH.kt sT hTb;refine wK ?_;refine ⟨_,rfl,y,_,_,rfl,(oc.ca.kt kt).hx,rfl,_,rfl,y,0,q,y0,xs,d,m,rfl,⟨oc.ca.kt kt,hy0,ct.kp st kt.kp⟩,gs,d4,m12,tb,.inl ⟨by rw [oc.ls]; rfl,fun r H2 sT2 tb2 hr hT=>?_⟩⟩;have hD2:=(bH.kt sT2 tb).lst hD';have nr:r≠D:=fun z=>by rw [z,hD'] at hr; cases hr
  exact bF hm hi hD2 (aU (aLQ _)) ⟨_,rfl,(sT.trans sT2).upd_new hD _,QR tb2 hD2,(fun z=>nomatch z),fun _=>⟨r,aC,MN hT hD2 nr⟩⟩
 case done =>
 rintro τ H1 ⟨v0,rfl,sT,tb,_,h1⟩;obtain ⟨r,hD1,hT⟩:=h1 rfl;have kt:=bH.kt sT hTb;have hX1:=iJ kt hX;refine ⟨_,rfl,_,rfl,x,S,1,rfl,hX1,hG,by decide,fun H2 s2=>⟨_,rfl,?_⟩⟩;refine dU ?_;refine ⟨_,rfl,_,rfl,x,D,S,⟨r,xs⟩,d,m,rfl,hX1.same s2,hG,s2 _ _ hD1,hT.same s2,gs,d4,m12,so,tb.same s2,fun r2 H3 z sT3 tb3 hz fr vz=>?_⟩;exact k r2 H3 z ((sT.trans s2.toT).trans sT3) tb3 hz fr (vz.trans (Td mt))
theorem Ay {n:Nat}{f:Addr}{fd:FuncData}(F:dW K "best_from" "best_from" (top 78) f fd){p:xF}{c:Cs}{cC:Addr}(ca:K4 K c cC){aIh:Addr}{aG1:FuncData}(aJv:fD K cC "how_many" aIh)(aJw:aY P w K mg base cZ n aIh aG1 ["self"] (Kr c cC))(aJx:Binds K aG1 ["self"] []){aJS:Addr}{aJE:FuncData}(aJT:dF P w K mg base n "best_in" ["pattern","case"] (Qz p c cC Pt cT) aJS aJE){aJk:Addr}{aIW:FuncData}(aJl:dF P w K mg base n "need_best" ["pattern","case"] (Ls p c cC) aJk aIW){aIm:Addr}{aH2:FuncData}(aIn:dF P w K mg base n "need_pattern" ["pattern","many"] (uO p) aIm aH2):aY P w K mg base cZ (n+1) f fd ["pattern","case"] (Qm p c cC Pt cT):=by
 refine F.ok qL (fun vs H Q E h=>?_) (fun cdv A outer s H vs Q E hr h=>?_)
 ·obtain ⟨x,y,S,q,s,d,m,rfl,_⟩:=h
  rfl
 obtain ⟨x,y,S,q,s,d,m,rfl,hX,hG,nf,oc,hTb,k⟩:=h;have nd:=qL.nd;refine ⟨_,(aF (fL (aK aIn hr (aA (pv 0) (aA (eZ (pv 1) ca.cl aJv aJw hr aJx .nil c7) aD)))) (aF (fL (aK aJl hr (aA (pv 0) (aA (pv 1) aD)))) (aG (aV (aK aJT hr (aA (pv 0) (aA (pv 1) aD))))))),?_⟩;have el:q.ys.length=1:=by rw [<- oc.ca.es,oc.ss]; rfl
 refine ⟨_,rfl,_,rfl,y,_,_,rfl,oc.ca.hx,rfl,y,q,rfl,oc.ca,?_⟩;rw [el];refine ⟨x,S,1,rfl,hX,hG,by decide,by decide,nf,fun H1 s1=>?_⟩;have k1:=aR.kt s1;refine ⟨_,rfl,_,rfl,x,y,S,q,s,d,m,rfl,iJ k1 hX,hG,Od k1 oc,fun H2 s2=>?_⟩;have k2:=k1.trans (aR.kt s2);refine ⟨_,rfl,_,rfl,x,y,S,q,s,d,m,rfl,iJ k2 hX,hG,Od k2 oc,(hTb.same s1).same s2,fun r H3 z sT tb hz fr vz=>?_⟩;exact k r H3 z (((s1.trans s2).toT).trans sT) tb hz fr vz
theorem QC {n:Nat}{f:Addr}{fd:FuncData}(F:dW K "best" "best" (top 79) f fd){p:xF}{c:Cs}{cC:Addr}(ca:K4 K c cC){h_:Addr}{iC:Addr}{dC:FuncData}{kC:Nat}(aK3:Mk K cC iC)(aK4:aY P w K mg base (uW P w) kC iC dC ["self","boxes"] (RT c cC K h_))(aK5:Binds K dC ["self","boxes"] [])(aJF:mg "Case" = some (.ref cC))(aKI:kC+1<=n){aJm:Addr}{aIX:FuncData}(aJn:dF P w K mg base n "best_from" ["pattern","case"] (Qm p c cC Pt cT) aJm aIX):aY P w K mg base cZ (n+1) f fd ["boxes","pattern"] (RV p c Pt cT):=by
 refine F.ok Hc (fun vs H Q E h=>?_) (fun cdv A outer s H vs Q E hr h=>?_)
 ·obtain ⟨x,a,y,S,s,d,m,rfl,_⟩:=h
  rfl
 obtain ⟨x,a,y,S,s,d,m,rfl,ha,st,d4,m12,hX,hG,nf,hTb,k⟩:=h;have nd:=Hc.nd;refine ⟨_,(aG (aV (aK aJn hr (aA (pv 1) (aA (gG aK3 aK4 (hr.mono aKI) rfl aJF aK5 .nil xD (aA (pv 0) aD)) aD))))),?_⟩;refine ⟨_,rfl,_,rfl,fun z dx hz hdz ndz=>?_⟩;have nO:=iT (o1:=.own z) (o2:=.ins cC dx []) hz hdz ndz;refine .inl ⟨z,dx,a,[y],rfl,aC,nO _ _ ha,aLu _,(by show 1<=6; decide),(fun y' hy=>by rw [aLy.mp hy]; exact ⟨s,d,m,st.kp (aR.kp nO)⟩),fun tp tl2 th td H8 kx hx8 htp htl hth htd=>⟨rfl,?_⟩⟩;have s8:aR H H8:=made hz hdz kx;obtain ⟨q,oc⟩:=Ku hx8 htp htl hth htd (st.kp (aR.kp s8)) d4 m12;refine ⟨x,z,S,q,s,d,m,rfl,iJ (aR.kt s8) hX,hG,nf,oc,hTb.same s8,fun r H3 w sT tb hw fr vw=>?_⟩;exact k r H3 w (s8.toT.trans sT) tb hw fr vw
theorem aAe:iK 1=[0]:=by decide +kernel
theorem mZ {S:Sk}{b:Bool}(h0:fX S 0=true)(h1:fX S 1=b):mO S 1:=by
 refine ⟨6,fun _=>0,fun _=>6,if b=true then 6 else 0,⟨by decide,fun _=>by decide,by split <;> decide,fun k k0 k1=>?_⟩⟩;have k2:k<2:=k1;rcases (by omega:k=0∨k=1) with rfl | rfl
 ·refine ⟨fun _=>?_,fun _=>h0⟩;unfold Nc;rw [Sh];exact ⟨(fun b hb=>nomatch hb),(fun g=>by show ((0:Nat):Int)<=6; decide),by show ((0:Nat):Int)<=_; split <;> decide⟩
 ·rw [h1];unfold Nc;rw [aAe];refine ⟨fun z=>⟨(fun b hb=>by rw [aLy.mp hb]; decide),(fun g=>?_),?_⟩,fun z=>?_⟩
  ·have:([(0:Int)].map fun _=>(0:Int)).count g<=1:=List.count_le_length;show ((([(0:Int)].map fun _=>(0:Int)).count g:Nat):Int)<=6;omega
  ·rw [if_pos z]; decide
  ·have z2:=z.2.2;cases b with
   | true=>rfl
   | false=>exact absurd z2 (by decide)
theorem aC4 (c:Int):fX (.few c) 0=decide (0<=c):=by show decide (((iK 0).length:Nat)<=c)=_; rw [Sh]; rfl
theorem aFK (c:Int):fX (.few c) 1=decide (1<=c):=by show decide (((iK 1).length:Nat)<=c)=_; rw [aAe]; rfl
def GP (p:xF)(b:Bool)(H:Hp)(v:V):Prop:=∃ x S,v=.ref x/\fC p H x S/\qP S/\mO S 1/\fX S 1=b
theorem GP.kt {p:xF}{b:Bool}{H H':Hp}{v:V}(k:Kt H H')(h:GP p b H v):GP p b H' v:=let ⟨x,S,e,a1,a2,a3,a4⟩:=h; ⟨x,S,e,iJ k a1,a2,a3,a4⟩
theorem O5 {p:xF}{H:Hp}{x:Addr}{c:Int}(c0:0<=c)(c6:c<=6)(h:fC p H x (.few c)):GP p (decide (1<=c)) H (.ref x):=⟨x,_,rfl,h,⟨c0,c6⟩,mZ (by rw [aC4]; exact decide_eq_true c0) rfl,aFK c⟩
theorem lw0:Sd.Lw (0,1):=⟨by constructor <;> decide,by decide +kernel,by decide +kernel,by decide +kernel⟩
theorem v0:Sd.V (0,1)=0:=by unfold Sd.V; grind
theorem Kg {S:Sk}{s:Sd.Sd}{z:Int×Int}{m:Nat}(ok:Sd.Ok s 4 m)(fr:Fr.fZ z.1 z.2)(vz:Sd.V z=Ag S s 4)(h:fX S 1=true):z=Sd.Fb (0,1) 5 s:=by
 refine Sd.RQ fr (Sd.Ha lw0 ok 5 (by decide)).fr ?_;rw [vz,Sd.aAw lw0 ok 5 (by decide),v0];unfold Ag;rw [if_pos h]
theorem Py {S:Sk}{s:Sd.Sd}{z:Int×Int}(fr:Fr.fZ z.1 z.2)(vz:Sd.V z=Ag S s 4)(h:fX S 1=false):z=(0,1):=by
 refine Sd.RQ fr (by constructor <;> decide) ?_;rw [vz,v0];unfold Ag;rw [if_neg (by rw [h]; decide)]
theorem sz4:4<=sizeLine:=aLZ (aU (by decide))
theorem sz6:6<=sizeLine:=aLZ (aU (by decide))
theorem gg1 {n:Int}(n1:1<=n)(n6:n<=6):Wb [n-1] [n,6,5,4,3,2]:=⟨by show 1<=1; decide,by show 1<=6; decide,fun g hg=>by rw [aLy.mp hg]; omega,rfl,fun m hm=>by simp only [aLF,aLW,or_false] at hm; omega⟩
theorem Rf {n:Int}(n1:1<=n)(n6:n<=6):fX (.groups [n-1] [n,6,5,4,3,2]) 0=true/\fX (.groups [n-1] [n,6,5,4,3,2]) 1=true:=by
 rcases (by omega:n=1∨n=2∨n=3∨n=4∨n=5∨n=6) with rfl | rfl | rfl | rfl | rfl | rfl <;> decide +kernel
theorem gg0:Wb [0] [0,6,6,6,6,6]:=⟨by decide,by decide,by decide,rfl,by decide⟩
theorem R4 {ks:List Int}(h:1<=ks.length/\ks.length<64/\ks.Nodup/\∀ k∈ks,0<=k/\k<=63):GLs ks:=⟨h.1,.inl (by omega),h.2.2.1,h.2.2.2⟩
theorem Su {n:Nat}{f:Addr}{fd:FuncData}(F:dW K "law" "law" (top 93) f fd){p:xF}(pt:SN K p){c:Cs}{iF:Addr}{iDF:FuncData}{kOF:Nat}(aKq:Mk K p.f iF)(aKr:aY P w K mg base cZ kOF iF iDF ["self","count"] (Qs p.f))(aKs:Binds K iDF ["self","count"] [])(aHV:mg "Few" = some (.ref p.f))(aJG:kOF+1<=n){iG:Addr}{iDG:FuncData}{kOG:Nat}(aJo:Mk K p.g iG)(aJp:aY P w K mg base cZ kOG iG iDG ["self","groups","most"] (R5 p.g))(aJq:Binds K iDG ["self","groups","most"] [])(S_:mg "Groups" = some (.ref p.g))(aIC:kOG+1<=n){iL:Addr}{iDL:FuncData}{kOL:Nat}(aHD:Mk K p.l iL)(aHE:aY P w K mg base cZ kOL iL iDL ["self","sets"] (Qy p.l))(aHF:Binds K iDL ["self","sets"] [])(L_:mg "Listed" = some (.ref p.l))(aHe:kOL+1<=n){aJr:Addr}{aIY:FuncData}(aG7:dF P w K mg base n "_law_same" ["_law_found","_law_due"] Zq aJr aIY){aK6:Addr}{aKJ:FuncData}(aJH:dF P w K mg base n "best" ["boxes","pattern"] (RV p c Pt cT) aK6 aKJ){aGw:Addr}{aBW:FuncData}(aGS:dF P w K mg base n "_law_mixed" ["_law_cell","_law_k"] Nq aGw aBW){aBX:Addr}{V_:FuncData}(aBY:dF P w K mg base n "_law_beside" ["_law_told","_law_level"] (Ql 5) aBX V_){aFu:Addr}{aBU:FuncData}(aFB:dF P w K mg base n "_law_stand" ["_law_told"] (Ov c Pt cT 5) aFu aBU){aHt:Addr}{aG3:FuncData}(aHu:dF P w K mg base n "_law_box" ["_law_row_here","_law_deep","_law_most","_law_scale"] (Io 5) aHt aG3){aJI:Addr}{aJs:FuncData}(aJJ:dF P w K mg base n "_law_row" ["_law_cell","_law_bit","_law_many"] Li aJI aJs){aIo:Addr}{aH3:FuncData}(aG8:dF P w K mg base n "_law_cell_at" ["_law_script","_law_k"] (RM K) aIo aH3)(gV:mg "range" = none)(aHy:mg "max" = none)(aIB:mg "min" = none)(i_:mg "len" = none):aY P w K mg base cZ (n+1) f fd ["_law_script"] (uK K Pt cT):=by
 refine F.ok N7 (fun vs H Q E h=>?_) (fun cdv A outer s H vs Q E hr h=>?_)
 ·obtain ⟨a,ns,rfl,_⟩:=h
  rfl
 obtain ⟨a,ns,rfl,hS,hlen,hT0,q⟩:=h;have nd:=N7.nd;refine ⟨_,(aF (dB PassesOwn.never rfl (dX rfl gV (aA (aW (J6 rfl) rfl aHy HY (aA aJ (aA (aW (zX rfl) rfl aIB Nz (aA (aW cH rfl i_ iI (aA (pv 0) aD)) (aA aJ aD))) aD))) aD)) (aP (i:=1) nd rfl (Or.inl rfl)) (aF (bC (i:=2) nd rfl (Or.inl rfl) (aK aG8 hr (aA (pv 0) (aA (pv 1) aD)))) (aF (bC (i:=3) nd rfl (Or.inl rfl) (aK aJJ hr (aA (pv 2) (aA (aK aG8 hr (aA (pv 0) (aA (bA gC (pv 1) aJ) aD))) (aA aJ aD))))) (aF (bC (i:=4) nd rfl (Or.inl rfl) (bT gQ (dM (aA aJ (aA aJ (aA aJ aD)))) (bA fY (lX PySem.F.plainAttrs_list PySem.F.slot_list_pop PySem.F.type_list_pop m5 (pv 3) (aA aJ aD)) aJ) (fun _ _=>rfl))) (aF (bC (i:=5) nd rfl (Or.inl rfl) (aK aHu hr (aA (pv 3) (aA aJ (aA aJ (aA (pv 4) aD)))))) (aF (bC (i:=6) nd rfl (Or.inl rfl) (dM (aA (aK aFB hr (aA (pv 5) aD)) aD))) (aF (bC (i:=7) nd rfl (Or.inl rfl) (aK aBY hr (aA (pv 5) (aA (dN (aA aJ (aA aJ aD))) aD)))) (aF (bC (i:=8) nd rfl (Or.inl rfl) (bA gC aJ (bA fY (aK aGS hr (aA (pv 2) (aA aJ aD))) aJ))) (aF (bC (i:=9) nd rfl (Or.inl rfl) (dM (aA (gG aKq aKr (hr.mono aJG) rfl aHV aKs .nil c7 (aA (pv 8) aD)) (aA (gG aJo aJp (hr.mono aIC) rfl S_ aJq .nil c7 (aA (dM (aA (bA mK (pv 8) aJ) aD)) (aA (dM (aA (pv 8) (aA aJ (aA aJ (aA aJ (aA aJ (aA aJ aD))))))) aD))) (aA (gG aHD aHE (hr.mono aHe) rfl L_ aHF .nil c7 (aA (dM (aA aJ (aA aJ aD))) aD)) (aA (gG aHD aHE (hr.mono aHe) rfl L_ aHF .nil c7 (aA (dM (aA aJ (aA aJ (aA aJ aD)))) aD)) aD)))))) (aF (dB PassesOwn.never rfl (bL (pv 9)) (aP (i:=10) nd rfl (Or.inl rfl)) (aG (cL (cW (bW (aK aG7 hr (aA (aK aJH hr (aA (pv 6) (aA (pv 10) aD))) (aA (pv 7) aD))))) (aG (aV iH)) bJ))) (aF (dB PassesOwn.never rfl (bL (dM (aA (gG aKq aKr (hr.mono aJG) rfl aHV aKs .nil c7 (aA aJ aD)) (aA (gG aJo aJp (hr.mono aIC) rfl S_ aJq .nil c7 (aA (dM (aA aJ aD)) (aA (dM (aA aJ (aA aJ (aA aJ (aA aJ (aA aJ (aA aJ aD))))))) aD))) (aA (gG aHD aHE (hr.mono aHe) rfl L_ aHF .nil c7 (aA (dM (aA aJ aD)) aD)) (aA (gG aHD aHE (hr.mono aHe) rfl L_ aHF .nil c7 (aA (dM (aA aJ (aA aJ aD))) aD)) aD)))))) (aP (i:=10) nd rfl (Or.inl rfl)) (aG (cL (cW (bW (aK aG7 hr (aA (aK aJH hr (aA (pv 6) (aA (pv 10) aD))) (aA (dN (aA aJ (aA aJ aD))) aD))))) (aG (aV iH)) bJ))) (aG (cL (cW (bW (aK aG7 hr (aA (aK aJH hr (aA (pv 6) (aA (gG aKq aKr (hr.mono aJG) rfl aHV aKs .nil c7 (aA aJ aD)) aD))) (aA (pv 7) aD))))) (aG (aV iH)) bJ))))))))))))) (aG (aV iH))),?_⟩;have hT0:cA Pt cT d8 H:=.inl hT0;have hl:(ns.map V.int).length=ns.length:=aLo _;obtain ⟨N,hN,N6⟩:∃ N:Nat,(if (if (6:Int)<(((ns.map V.int).length:Nat):Int) then 6 else (((ns.map V.int).length:Nat):Int)) > 1 then (if (6:Int)<(((ns.map V.int).length:Nat):Int) then 6 else (((ns.map V.int).length:Nat):Int)) else 1)=(N:Int)/\N<=6:=by
  refine ⟨Int.toNat (if (if (6:Int)<(((ns.map V.int).length:Nat):Int) then 6 else (((ns.map V.int).length:Nat):Int)) > 1 then (if (6:Int)<(((ns.map V.int).length:Nat):Int) then 6 else (((ns.map V.int).length:Nat):Int)) else 1),?_,?_⟩ <;> (split <;> split <;> omega)
 refine ⟨_,rfl,a,_,rfl,.inl hS,_,_,rfl,_,_,rfl,(N:Int),congrArg (fun z=>[V.int z]) hN,by omega,by omega,?_⟩;refine gM (n:=(N:Int).toNat) (fun i σ H'=>∃ v1 v2 v3 v4 v5 v6 v7 v8 v9 v10,σ = [some (.ref a),v1,v2,v3,v4,v5,v6,v7,v8,v9,v10]/\bH Pt H H'/\cA Pt cT d8 H') ⟨none,none,none,none,none,none,none,none,none,none,rfl,bH.refl _,hT0⟩ ?turn ?done
 case done =>
  rintro σ H' ⟨v1,v2,v3,v4,v5,v6,v7,v8,v9,v10,rfl,_⟩;exact q H'
 case turn =>
  rintro i σ H1 hi ⟨v1,v2,v3,v4,v5,v6,v7,v8,v9,v10,rfl,sT,tb1⟩;have hiN:i<6:=by omega
  have hS1:bK K H1 a (ns.map V.int):=sT.lst hT0 hS;refine ⟨_,rfl,_,rfl,a,ns,0+(i:Int),rfl,hS1,by omega,fun cl=>?_⟩;refine ⟨_,rfl,_,rfl,_,rfl,_,_,rfl,rfl,a,ns,0+(i:Int)+6,rfl,hS1,by omega,fun bt=>?_⟩;refine ⟨cl,bt,151,rfl,rfl,fun r H2 ms s2 hr0 hr1 ml=>?_⟩;cases ms with
  | nil=>simp at ml
  | cons m0 ms =>
  have ml2:ms.length=150:=by simpa using ml
  refine ⟨sz3,fun l hl0=>?_⟩;have n3:=aH hl0 (.lst [.int 10,.int 1000,.int 1000000001]);have nlr:l≠r:=fun e=>by rw [e,hr1] at hl0; cases hl0
  have hr2:=n3 _ _ hr1;obtain ⟨v,ev,hv⟩:=at3 (V.int 10) (V.int 1000) (V.int 1000000001) m0;obtain ⟨sc,rfl,sc1,sc9⟩:∃ u:Int,v=.int u/\1<=u/\u<=1000000001:=by
   rcases hv with e | e | e
   ·exact ⟨10,e,by decide,by decide⟩
   ·exact ⟨1000,e,by decide,by decide⟩
   ·exact ⟨1000000001,e,by decide,by decide⟩
  refine ⟨_,rfl,.inl ⟨rfl,_,bK.of hr2⟩,r,_,0,0,.int m0,rfl,rfl,hr2,by decide,by decide,Tu (by simp),rfl,_,_,rfl,rfl,(by show (0:Int)<3; decide),l,_,_,_,rfl,rfl,bK.of (by rw [aO nlr]; exact aC),ev,?_⟩;have tb3:cA Pt cT d8 (aX H2 l (.lst [.int 10,.int 1000,.int 1000000001])):=(tb1.same s2).same n3;have kL:∀ (H4:Hp),(∀ b o,b≠r->aX (aX H2 l (.lst [.int 10,.int 1000,.int 1000000001])) r (.lst (Is ms)) b=some o->H4 b=some o)->aR H1 H4/\cA Pt cT d8 H4:=fun H4 k4=>by
   have kk:∀ b o,b≠r->aX H2 l (.lst [.int 10,.int 1000,.int 1000000001]) b=some o->H4 b=some o:=fun b o nb e=>k4 b o nb (by rw [aO nb]; exact e);refine ⟨fun b o e=>kk b o (bB e hr0) (n3 _ _ (s2 _ _ e)),?_⟩;rcases tb3 with w | ⟨c',w1,w2⟩
   ·exact .inl (kk _ _ (cI w hr2 fun z=>nomatch z) w)
   ·exact .inr ⟨c',kk _ _ (cI w1 hr2 fun z=>nomatch z) w1,kk _ _ (cI w2 hr2 fun z=>by unfold sU at z; exact nomatch z) w2⟩
  refine ⟨_,rfl,_,rfl,r,ms,4,12,sc,rfl,aC,by decide,by decide,by decide,by decide,sc1,sc9,by rw [ml2]; exact Ri,by omega,fun t H4 s ms' k4 _ _ _ to ok=>?_⟩;obtain ⟨s4,tb4⟩:=kL H4 k4;refine ⟨_,rfl,t,s,4,12,rfl,to,ok,by decide,by decide,by decide,tb4,fun y H5 s5 tb5 st=>?_⟩;have to5:kJ H5 t s:=to.kp (bH.kp s5 tb4);refine ⟨U7,fun B hB=>?_⟩;have n6:=aH hB (.lst [.ref y]);have aB:aX H5 B (.lst [.ref y]) B=some (.lst [.ref y]):=aC;generalize aX H5 B (.lst [.ref y])=H6 at n6 aB ⊢;refine ⟨_,rfl,qU,fun lz hlz=>?_⟩;have n7:=aH hlz (.tup [.int 0,.int 1]);have aZ:aX H6 lz (.tup [.int 0,.int 1]) lz=some (.tup [.int 0,.int 1]):=aC;generalize aX H6 lz (.tup [.int 0,.int 1])=H7 at n7 aZ ⊢;have s57:=n6.trans n7;refine ⟨t,lz,s,(0,1),4,12,rfl,to5.same s57,ok,by decide,by decide,by decide,aZ,lw0,fun du H8 s8 hdu=>?_⟩;refine ⟨_,rfl,cl,2,rfl,by decide,by decide,fun w _ _=>?_⟩;have wb:=m9 w (show (0:Int)<6 by decide);refine ⟨_,_,rfl,rfl,(by show (0:Int)<6; decide),_,_,rfl,rfl,?_⟩;dsimp only;obtain ⟨cn,hcn,c1,c6⟩:∃ cn:Int,1+w%6=cn/\1<=cn/\cn<=6:=⟨_,rfl,by omega,by omega⟩
  rw [hcn];refine ⟨_,rfl,fun x1 dx1 hx1 hd1 nd1=>?_⟩;refine ⟨x1,dx1,cn,rfl,aC,by omega,c6,⟨rfl,?_⟩⟩;have S1:aR H8 (aX (aX (aX H8 dx1 (.own x1)) x1 (.ins p.f dx1 [])) x1 (.ins p.f dx1 [("limit",.int cn)])):=(iT (o1:=.own x1) (o2:=.ins p.f dx1 []) hx1 hd1 nd1).upd_new hx1 _;have X1:fC p (aX (aX (aX H8 dx1 (.own x1)) x1 (.ins p.f dx1 [])) x1 (.ins p.f dx1 [("limit",.int cn)])) x1 (.few cn):=⟨dx1,aC⟩
  generalize aX (aX (aX H8 dx1 (.own x1)) x1 (.ins p.f dx1 [])) x1 (.ins p.f dx1 [("limit",.int cn)])=G1 at S1 X1 ⊢;refine ⟨_,rfl,_,_,rfl,rfl,U7,fun g2 hg2=>?_⟩;refine ⟨_,rfl,sz6,fun m2 hm2=>?_⟩;have q2:=(aH hg2 (.lst [.int (cn-1)])).trans (aH hm2 (.lst [.int (cn),.int (6),.int (5),.int (4),.int (3),.int (2)]));have ag2:aX (aX G1 g2 (.lst [.int (cn-1)])) m2 (.lst [.int (cn),.int (6),.int (5),.int (4),.int (3),.int (2)]) g2=some (.lst [.int (cn-1)]):=aH hm2 _ _ _ aC;have am2:aX (aX G1 g2 (.lst [.int (cn-1)])) m2 (.lst [.int (cn),.int (6),.int (5),.int (4),.int (3),.int (2)]) m2=some (.lst [.int (cn),.int (6),.int (5),.int (4),.int (3),.int (2)]):=aC;generalize aX (aX G1 g2 (.lst [.int (cn-1)])) m2 (.lst [.int (cn),.int (6),.int (5),.int (4),.int (3),.int (2)])=F2 at q2 ag2 am2 ⊢;intro x2 dx2 hx2 hd2 nd2;have n2:=iT (o1:=.own x2) (o2:=.ins p.g dx2 []) hx2 hd2 nd2;refine ⟨x2,dx2,g2,m2,[cn-1],[cn,6,5,4,3,2],rfl,aC,n2 _ _ ag2,n2 _ _ am2,gg1 c1 c6,fun ga2 ma2 G2 k2 ha2 hb2 hc2=>⟨rfl,?_⟩⟩;have S2:aR G1 G2:=q2.trans (fun b o e=>k2 b o (bB e hx2) (n2 _ _ e));have X2:fC p G2 x2 (.groups [cn-1] [cn,6,5,4,3,2]):=⟨dx2,ga2,ma2,hc2,ha2,hb2⟩
  refine ⟨qU,fun l3 hl3=>?_⟩;have q3:=aH hl3 (.lst [.int 1,.int 0]);have a3:aX G2 l3 (.lst [.int 1,.int 0]) l3=some (.lst [.int 1,.int 0]):=aC;generalize aX G2 l3 (.lst [.int 1,.int 0])=F3 at q3 a3 ⊢;intro x3 dx3 hx3 hd3 nd3;have n3:=iT (o1:=.own x3) (o2:=.ins p.l dx3 []) hx3 hd3 nd3;refine ⟨x3,dx3,l3,[1,0],rfl,aC,n3 _ _ a3,R4 (by decide),fun k3 ms3 E3 sx3 pm3 so3 hk3=>⟨rfl,?_⟩⟩;have ne3:k3≠x3:=cI hk3 (sx3 _ _ aC) fun z=>nomatch z
  have S3:aR G2 (aX E3 x3 (.ins p.l dx3 [("sets",.ref k3)])):=((q3.trans n3).trans sx3).upd_new (q3.free hx3) _;have X3:fC p (aX E3 x3 (.ins p.l dx3 [("sets",.ref k3)])) x3 (.listed [1,0]):=⟨ms3,pm3,so3,dx3,k3,aC,by rw [aO ne3]; exact hk3⟩
  generalize aX E3 x3 (.ins p.l dx3 [("sets",.ref k3)])=G3 at S3 X3 ⊢;refine ⟨sz3,fun l4 hl4=>?_⟩;have q4:=aH hl4 (.lst [.int 0,.int 1,.int 2]);have a4:aX G3 l4 (.lst [.int 0,.int 1,.int 2]) l4=some (.lst [.int 0,.int 1,.int 2]):=aC;generalize aX G3 l4 (.lst [.int 0,.int 1,.int 2])=F4 at q4 a4 ⊢;intro x4 dx4 hx4 hd4 nd4;have n4:=iT (o1:=.own x4) (o2:=.ins p.l dx4 []) hx4 hd4 nd4;refine ⟨x4,dx4,l4,[0,1,2],rfl,aC,n4 _ _ a4,R4 (by decide),fun k4 ms4 E4 sx4 pm4 so4 hk4=>⟨rfl,?_⟩⟩;have ne4:k4≠x4:=cI hk4 (sx4 _ _ aC) fun z=>nomatch z
  have S4:aR G3 (aX E4 x4 (.ins p.l dx4 [("sets",.ref k4)])):=((q4.trans n4).trans sx4).upd_new (q4.free hx4) _;have X4:fC p (aX E4 x4 (.ins p.l dx4 [("sets",.ref k4)])) x4 (.listed [0,1,2]):=⟨ms4,pm4,so4,dx4,k4,aC,by rw [aO ne4]; exact hk4⟩
  generalize aX E4 x4 (.ins p.l dx4 [("sets",.ref k4)])=G4 at S4 X4 ⊢;refine ⟨sz4,fun L hL=>?_⟩;have n9:=aH hL (.lst [.ref x1,.ref x2,.ref x3,.ref x4]);have aL:aX G4 L (.lst [.ref x1,.ref x2,.ref x3,.ref x4]) L=some (.lst [.ref x1,.ref x2,.ref x3,.ref x4]):=aC;generalize aX G4 L (.lst [.ref x1,.ref x2,.ref x3,.ref x4])=H9 at n9 aL ⊢;have k49:=aR.kt n9;have k39:=(aR.kt S4).trans k49;have k29:=(aR.kt S3).trans k39;have k19:=(aR.kt S2).trans k29;have k89:=(aR.kt S1).trans k19;have sH:bH Pt H H9:=(((sT.trans s4.toT).trans s5).trans s57.toT).trans ((((s8.trans S1).trans S2).trans (S3.trans S4)).trans n9).toT;have tb9:cA Pt cT d8 H9:=(((((tb5.same s57).same s8).same S1).same S2).same (S3.trans S4)).same n9;have al:∀ v∈[V.ref x1,V.ref x2,V.ref x3,V.ref x4],GP p true H9 v:=fun v hv=>by
   simp only [aLF,aLW,or_false] at hv;rcases hv with e | e | e | e <;> rw [e]
   ·have g:=(O5 (by omega) c6 X1).kt k19;rw [decide_eq_true c1] at g;exact g
   ·exact ⟨x2,_,rfl,iJ k29 X2,gg1 c1 c6,mZ (Rf c1 c6).1 (Rf c1 c6).2,(Rf c1 c6).2⟩
   ·exact ⟨x3,_,rfl,iJ k39 X3,R4 (by decide),mZ (b:=true) (by decide +kernel) (by decide +kernel),by decide +kernel⟩
   ·exact ⟨x4,_,rfl,iJ k49 X4,R4 (by decide),mZ (b:=true) (by decide +kernel) (by decide +kernel),by decide +kernel⟩
  have k69:=(aR.kt n7).trans ((aR.kt s8).trans k89);have aB9:=k69.lst aB;have st9:fW c H9 y s 4 12:=(st.kp (aR.kp n6)).kp k69.kp;have du9:=k89.tup hdu;refine ⟨_,rfl,L,rfl,⟨_,bK.of aL⟩,?_⟩;refine fH (xs:=[.ref x1,.ref x2,.ref x3,.ref x4]) (fun u σ H'=>∃ v10,σ = [some (.ref a),some (.int (0+(i:Int))),some (.int cl),some (.ref r),some (.int sc),some (.ref t),some (.ref B),some (.ref du),some (.int cn),some (.ref L),v10]/\bH Pt H9 H'/\cA Pt cT d8 H') ⟨v10,rfl,bH.refl _,tb9⟩ (fun u σ H' _ ⟨_,_,e,_⟩=>bK.of ((bH.kt e tb9).lst aL)) ?turn2 ?done2
  case turn2 =>
   rintro u v σ HA hv ⟨v10,rfl,sA,tbA⟩;obtain ⟨x,S,rfl,hX,hG,nf,hm⟩:=al v (aLx hv);have kA:=bH.kt sA tb9;refine ⟨_,rfl,_,rfl,x,B,y,S,s,4,12,rfl,kA.lst aB9,st9.kp kA.kp,by decide,by decide,iJ kA hX,hG,nf,tbA,fun r1 HB z sB tbB hz fr vz=>?_⟩;have kB:=kA.trans (bH.kt sB tbA);rw [Kg ok fr vz hm] at hz;refine ⟨_,rfl,r1,du,_,rfl,hz,kB.tup du9,fun HC sC=>?_⟩;refine ⟨_,rfl,?_⟩;refine dU ?_;exact ⟨_,rfl,(sA.trans sB).trans sC.toT,tbB.same sC⟩
  case done2 =>
  rintro σ HA ⟨w10,rfl,sA,tbA⟩;have kA:=bH.kt sA tb9;intro x5 dx5 hx5 hd5 nd5;refine ⟨x5,dx5,0,rfl,aC,by decide,by decide,⟨rfl,?_⟩⟩;have S5:aR HA (aX (aX (aX HA dx5 (.own x5)) x5 (.ins p.f dx5 [])) x5 (.ins p.f dx5 [("limit",.int 0)])):=(iT (o1:=.own x5) (o2:=.ins p.f dx5 []) hx5 hd5 nd5).upd_new hx5 _;have X5:fC p (aX (aX (aX HA dx5 (.own x5)) x5 (.ins p.f dx5 [])) x5 (.ins p.f dx5 [("limit",.int 0)])) x5 (.few 0):=⟨dx5,aC⟩
  generalize aX (aX (aX HA dx5 (.own x5)) x5 (.ins p.f dx5 [])) x5 (.ins p.f dx5 [("limit",.int 0)])=G5 at S5 X5 ⊢;refine ⟨U7,fun g6 hg6=>?_⟩;refine ⟨sz6,fun m6 hm6=>?_⟩;have q6:=(aH hg6 (.lst [.int (0)])).trans (aH hm6 (.lst [.int (0),.int (6),.int (6),.int (6),.int (6),.int (6)]));have ag6:aX (aX G5 g6 (.lst [.int (0)])) m6 (.lst [.int (0),.int (6),.int (6),.int (6),.int (6),.int (6)]) g6=some (.lst [.int (0)]):=aH hm6 _ _ _ aC;have am6:aX (aX G5 g6 (.lst [.int (0)])) m6 (.lst [.int (0),.int (6),.int (6),.int (6),.int (6),.int (6)]) m6=some (.lst [.int (0),.int (6),.int (6),.int (6),.int (6),.int (6)]):=aC;generalize aX (aX G5 g6 (.lst [.int (0)])) m6 (.lst [.int (0),.int (6),.int (6),.int (6),.int (6),.int (6)])=F6 at q6 ag6 am6 ⊢;intro x6 dx6 hx6 hd6 nd6;have n6:=iT (o1:=.own x6) (o2:=.ins p.g dx6 []) hx6 hd6 nd6;refine ⟨x6,dx6,g6,m6,[0],[0,6,6,6,6,6],rfl,aC,n6 _ _ ag6,n6 _ _ am6,gg0,fun ga6 ma6 G6 k6 ha6 hb6 hc6=>⟨rfl,?_⟩⟩;have S6:aR G5 G6:=q6.trans (fun b o e=>k6 b o (bB e hx6) (n6 _ _ e));have X6:fC p G6 x6 (.groups [0] [0,6,6,6,6,6]):=⟨dx6,ga6,ma6,hc6,ha6,hb6⟩
  refine ⟨U7,fun l7 hl7=>?_⟩;have q7:=aH hl7 (.lst [.int 0]);have a7:aX G6 l7 (.lst [.int 0]) l7=some (.lst [.int 0]):=aC;generalize aX G6 l7 (.lst [.int 0])=F7 at q7 a7 ⊢;intro x7 dx7 hx7 hd7 nd7;have n7:=iT (o1:=.own x7) (o2:=.ins p.l dx7 []) hx7 hd7 nd7;refine ⟨x7,dx7,l7,[0],rfl,aC,n7 _ _ a7,R4 (by decide),fun k7 ms7 E7 sx7 pm7 so7 hk7=>⟨rfl,?_⟩⟩;have ne7:k7≠x7:=cI hk7 (sx7 _ _ aC) fun z=>nomatch z
  have S7:aR G6 (aX E7 x7 (.ins p.l dx7 [("sets",.ref k7)])):=((q7.trans n7).trans sx7).upd_new (q7.free hx7) _;have X7:fC p (aX E7 x7 (.ins p.l dx7 [("sets",.ref k7)])) x7 (.listed [0]):=⟨ms7,pm7,so7,dx7,k7,aC,by rw [aO ne7]; exact hk7⟩
  generalize aX E7 x7 (.ins p.l dx7 [("sets",.ref k7)])=G7 at S7 X7 ⊢;refine ⟨qU,fun l8 hl8=>?_⟩;have q8:=aH hl8 (.lst [.int 2,.int 0]);have a8:aX G7 l8 (.lst [.int 2,.int 0]) l8=some (.lst [.int 2,.int 0]):=aC;generalize aX G7 l8 (.lst [.int 2,.int 0])=F8 at q8 a8 ⊢;intro x8 dx8 hx8 hd8 nd8;have n8:=iT (o1:=.own x8) (o2:=.ins p.l dx8 []) hx8 hd8 nd8;refine ⟨x8,dx8,l8,[2,0],rfl,aC,n8 _ _ a8,R4 (by decide),fun k8 ms8 E8 sx8 pm8 so8 hk8=>⟨rfl,?_⟩⟩;have ne8:k8≠x8:=cI hk8 (sx8 _ _ aC) fun z=>nomatch z
  have S8:aR G7 (aX E8 x8 (.ins p.l dx8 [("sets",.ref k8)])):=((q8.trans n8).trans sx8).upd_new (q8.free hx8) _;have X8:fC p (aX E8 x8 (.ins p.l dx8 [("sets",.ref k8)])) x8 (.listed [2,0]):=⟨ms8,pm8,so8,dx8,k8,aC,by rw [aO ne8]; exact hk8⟩
  generalize aX E8 x8 (.ins p.l dx8 [("sets",.ref k8)])=G8 at S8 X8 ⊢;refine ⟨sz4,fun M hM=>?_⟩;have nM:=aH hM (.lst [.ref x5,.ref x6,.ref x7,.ref x8]);have aM:aX G8 M (.lst [.ref x5,.ref x6,.ref x7,.ref x8]) M=some (.lst [.ref x5,.ref x6,.ref x7,.ref x8]):=aC;generalize aX G8 M (.lst [.ref x5,.ref x6,.ref x7,.ref x8])=HD at nM aM ⊢;have k8D:=aR.kt nM;have k7D:=(aR.kt S8).trans k8D;have k6D:=(aR.kt S7).trans k7D;have k5D:=(aR.kt S6).trans k6D;have sAD:aR HA HD:=((S5.trans S6).trans (S7.trans S8)).trans nM;have tbD:=tbA.same sAD;have kD:=kA.trans (aR.kt sAD);have ao:∀ v∈[V.ref x5,V.ref x6,V.ref x7,V.ref x8],GP p false HD v:=fun v hv=>by
   simp only [aLF,aLW,or_false] at hv;rcases hv with e | e | e | e <;> rw [e]
   ·exact (O5 (by decide) (by decide) X5).kt k5D
   ·exact ⟨x6,_,rfl,iJ k6D X6,gg0,mZ (b:=false) (by decide +kernel) (by decide +kernel),by decide +kernel⟩
   ·exact ⟨x7,_,rfl,iJ k7D X7,R4 (by decide),mZ (b:=false) (by decide +kernel) (by decide +kernel),by decide +kernel⟩
   ·exact ⟨x8,_,rfl,iJ k8D X8,R4 (by decide),mZ (b:=false) (by decide +kernel) (by decide +kernel),by decide +kernel⟩
  refine ⟨M,rfl,⟨_,bK.of aM⟩,?_⟩;refine fH (xs:=[.ref x5,.ref x6,.ref x7,.ref x8]) (fun u σ H'=>∃ v10,σ = [some (.ref a),some (.int (0+(i:Int))),some (.int cl),some (.ref r),some (.int sc),some (.ref t),some (.ref B),some (.ref du),some (.int cn),some (.ref L),v10]/\bH Pt HD H'/\cA Pt cT d8 H') ⟨w10,rfl,bH.refl _,tbD⟩ (fun u σ H' _ ⟨_,_,e,_⟩=>bK.of ((bH.kt e tbD).lst aM)) ?turn3 ?done3
  case turn3 =>
   rintro u v σ HE hv ⟨v10,rfl,sE,tbE⟩;obtain ⟨x,S,rfl,hX,hG,nf,hm⟩:=ao v (aLx hv);have kE:=bH.kt sE tbD;have kDE:=kD.trans kE;refine ⟨_,rfl,_,rfl,x,B,y,S,s,4,12,rfl,kDE.lst aB9,st9.kp kDE.kp,by decide,by decide,iJ kE hX,hG,nf,tbE,fun r1 HF z sF tbF hz fr vz=>?_⟩;rw [Py fr vz hm] at hz;refine ⟨qU,fun t0 ht0=>?_⟩;have nt:=aH ht0 (.tup [.int 0,.int 1]);refine ⟨r1,t0,(0,1),rfl,nt _ _ hz,aC,fun HG sG=>?_⟩;refine ⟨_,rfl,?_⟩;refine dU ?_;exact ⟨_,rfl,(sE.trans sF).trans (nt.trans sG).toT,(tbF.same nt).same sG⟩
  case done3 =>
  rintro σ HE ⟨u10,rfl,sE,tbE⟩;have kE:=kD.trans (bH.kt sE tbD);refine ⟨_,rfl,fun x9 dx9 hx9 hd9 nd9=>?_⟩;refine ⟨x9,dx9,1,rfl,aC,by decide,by decide,⟨rfl,?_⟩⟩;have S9:aR HE (aX (aX (aX HE dx9 (.own x9)) x9 (.ins p.f dx9 [])) x9 (.ins p.f dx9 [("limit",.int 1)])):=(iT (o1:=.own x9) (o2:=.ins p.f dx9 []) hx9 hd9 nd9).upd_new hx9 _;have X9:fC p (aX (aX (aX HE dx9 (.own x9)) x9 (.ins p.f dx9 [])) x9 (.ins p.f dx9 [("limit",.int 1)])) x9 (.few 1):=⟨dx9,aC⟩
  generalize aX (aX (aX HE dx9 (.own x9)) x9 (.ins p.f dx9 [])) x9 (.ins p.f dx9 [("limit",.int 1)])=HF at S9 X9 ⊢;have kF:=kE.trans (aR.kt S9);refine ⟨x9,B,y,.few 1,s,4,12,rfl,kF.lst aB9,st9.kp kF.kp,by decide,by decide,X9,⟨by decide,by decide⟩,mZ (b:=true) (by decide +kernel) (by decide +kernel),tbE.same S9,fun r1 HG z sG tbG hz fr vz=>?_⟩;have kG:=kF.trans (bH.kt sG (tbE.same S9));rw [Kg ok fr vz (by decide +kernel)] at hz;refine ⟨_,rfl,r1,du,_,rfl,hz,kG.tup du9,fun HI sI=>?_⟩;refine ⟨_,rfl,?_⟩;refine dU ?_;exact ⟨_,_,_,_,_,_,_,_,_,_,rfl,((sH.trans sA).trans (sAD.toT.trans sE)).trans ((S9.toT.trans sG).trans sI.toT),tbG.same sI⟩
theorem Ly {f:Addr}{fd:FuncData}{ps:List Str}(m:Nat):aY P w K mg base cZ m f fd ps (fun _ _ _ _=>False):=⟨fun vs H Q E z=>z.elim,fun A outer s H args us vs Q E _ _ _ _ z=>z.elim⟩
theorem Iw {f:Addr}{fd:FuncData}{ps:List Str}{m:Nat}(F:aY P w K mg base cZ m f fd ps rO):aY P w K mg base cZ m f fd ps O1:=F.imp fun vs H Q E ⟨i,lo,hi,e,h1,h2,q⟩=>⟨_,lo,hi,_,e,.int i,by rw [decide_eq_true h1,decide_eq_true h2]; exact q⟩
end
end K51
namespace L2
open PySem PySem.Spec PyProof.Rows
structure TF (K:PySem.W.Frag)(x:Str)(st:Stmt)(f:Addr)(fd:FuncData):Prop where
 a:PySem.W.nsIn K mainGlobals x=some (some (.ref f))
 F:dW K x x st f fd
structure MF (K:PySem.W.Frag)(C:Addr)(m q:Str)(st:Stmt)(f:Addr)(fd:FuncData):Prop where
 a:PySem.W.findIn K (.ref C) m=some (some (.ref f))
 i:PySem.W.isFn K (.ref f)=true
 F:dW K m q st f fd
structure TD (K:PySem.W.Frag)(x:Str)(st:Stmt)(dT f:Addr)(fd:FuncData):Prop where
 a:PySem.W.nsIn K mainGlobals x=some (some (.ref f))
 F:aDL K dT x x st f fd
def Ua (K:PySem.W.Frag)(l:List Str):Bool:=l.all fun x=>match PySem.W.nsIn K mainGlobals x with | some none=>true | _=>false
def VD (mg:Str->Option Value):List Str->Prop
 | []=>True
 | x::r=>mg x=none/\VD mg r
section
variable {P:Program}{w:World}{K:PySem.W.Frag}{mg:Str->Option Value}{base h:Heap}{x m q:Str}{st:Stmt}{f C:Addr}{fd:FuncData}{ps:List Str}{sp:Sp}{n:Nat}
theorem Vw (X:K.In h)(G:h.Ns mainGlobals mg):∀ {l:List Str},Ua K l=true->VD mg l
 | [],_=>trivial
 | y::r,e=>by
  have e':((match PySem.W.nsIn K mainGlobals y with | some none=>true | _=>false)&&Ua K r)=true:=e;rw [aLV] at e';refine ⟨PySem.W.mg_none_of X G ?_,Vw X G e'.2⟩;have e1:=e'.1;revert e1;cases PySem.W.nsIn K mainGlobals y with
  | none=>intro z; cases z
  | some o=>cases o with
   | none=>intro _; rfl
   | some v=>intro z; cases z
theorem MF.mt (T:MF K C m q st f fd):fD K C m f:=⟨T.a,T.i,T.F.kp⟩
theorem TF.cal (T:TF K x st f fd)(X:K.In h)(G:h.Ns mainGlobals mg)(g:aY P w K mg base cZ n f fd ps sp)(b:Binds K fd ps []):dF P w K mg base n x ps sp f fd:=⟨g,b,T.F.kp,PySem.W.mg_of X G T.a⟩
theorem TF.calX (T:TF K x st f fd)(X:K.In h)(G:h.Ns mainGlobals mg)(g:aY P w K mg base (uW P w) n f fd ps sp)(b:Binds K fd ps []):Ab P w K mg base n x ps sp f fd:=⟨g,b,T.F.kp,PySem.W.mg_of X G T.a⟩
theorem dF.u {m:Nat}(c:dF P w K mg base n x ps sp f fd)(h:n<=m:=by omega):dF P w K mg base m x ps sp f fd:=c.up h
theorem Ab.u {m:Nat}(c:Ab P w K mg base n x ps sp f fd)(h:n<=m:=by omega):Ab P w K mg base m x ps sp f fd:=c.up h
theorem aY.u {CX:Bg}{m:Nat}(g:aY P w K mg base CX n f fd ps sp)(h:n<=m:=by omega):aY P w K mg base CX m f fd ps sp:=g.mono h
theorem Bx {CX:Bg}(_:aY P w K mg base CX n f fd ps sp)(b:Binds K fd ps []):Binds K fd ps []:=b
abbrev XR (x q:Str)(st:Stmt)(us:List Value)(r:List (Str×Value)):Prop:=∀ (kV doc pm:Value) (an:Option Addr) (cdv ct:Value),bindArgs (PySem.W.fnOf x q (jW st) (gY st) (aN st) .none kV doc pm an cdv ct) ⟨us,[]⟩=pure r
theorem dW.bd1 {a:Str}(F:dW K x q st f fd)(h:∀ u,XR x q st [u] [(a,u)]:=by intros; exact fun _ _ _ _ _ _=>rfl):Binds K fd [a] []:=F.binds fun _ _ _ _ _ _ us hl=>match us,hl with | [_],_=>h _ _ _ _ _ _ _
theorem dW.bd2 {a b:Str}(F:dW K x q st f fd)(h:∀ u v,XR x q st [u,v] [(a,u),(b,v)]:=by intros; exact fun _ _ _ _ _ _=>rfl):Binds K fd [a,b] []:=F.binds fun _ _ _ _ _ _ us hl=>match us,hl with | [_,_],_=>h _ _ _ _ _ _ _ _
theorem dW.bd3 {a b c:Str}(F:dW K x q st f fd)(h:∀ u v y,XR x q st [u,v,y] [(a,u),(b,v),(c,y)]:=by intros; exact fun _ _ _ _ _ _=>rfl):Binds K fd [a,b,c] []:=F.binds fun _ _ _ _ _ _ us hl=>match us,hl with | [_,_,_],_=>h _ _ _ _ _ _ _ _ _
theorem dW.bd4 {a b c d:Str}(F:dW K x q st f fd)(h:∀ u v y z,XR x q st [u,v,y,z] [(a,u),(b,v),(c,y),(d,z)]:=by intros; exact fun _ _ _ _ _ _=>rfl):Binds K fd [a,b,c,d] []:=F.binds fun _ _ _ _ _ _ us hl=>match us,hl with | [_,_,_,_],_=>h _ _ _ _ _ _ _ _ _ _
theorem dW.bd5 {a b c d e:Str}(F:dW K x q st f fd)(h:∀ u v y z t,XR x q st [u,v,y,z,t] [(a,u),(b,v),(c,y),(d,z),(e,t)]:=by intros; exact fun _ _ _ _ _ _=>rfl):Binds K fd [a,b,c,d,e] []:=F.binds fun _ _ _ _ _ _ us hl=>match us,hl with | [_,_,_,_,_],_=>h _ _ _ _ _ _ _ _ _ _ _
theorem rcF {CX:Bg}{b:Nat}{sp:Nat->Sp}(z:∀ vs H Q E,¬ sp 0 vs H Q E)(s:∀ d,aY P w K mg base CX (b+d) f fd ps (sp d)->aY P w K mg base CX (b+d+1) f fd ps (sp (d+1))):∀ d,aY P w K mg base CX (b+d) f fd ps (sp d)
 | 0=>⟨fun vs H Q E y=>absurd y (z vs H Q E),fun A outer s H args us vs Q E _ _ _ _ y=>absurd y (z vs H Q E)⟩
 | d+1=>s d (rcF z s d)
end
end L2
namespace K51
open PySem L2 TD TP TG PyProof.Rows
theorem Sv {l:W.OpenLaw}{w:World}{K:W.Frag}{h:Heap}{mg:Str->Option Value}{fa cR Pt f1 f2 f3 f4 f5 f6 f7 f8 f9 f10 f11 f12 f13 f14 f15 f16 f17 f18 f19 f20 f21 f22 f23 f24 f25 f26 f27 f28 f29 f30 f31 f32 f33 f34 f35 f36 f37 f38 f39 f40 f41 f42 f43 f44 f45 f46 f47 f48 f49 f50 f51 f52 f53 f54 f55 f56 f57 f58 f59 f60 f61 f62 f63 f64 f65 f66 f67 f68 f69 f70 f71 f72 f73 f74 cSt cE cS cC l_ h_ cFw cGr cLi:Addr}{g1 g2 g3 g4 g5 g6 g7 g8 g9 g10 g11 g12 g13 g14 g15 g16 g17 g18 g19 g20 g21 g22 g23 g24 g25 g26 g27 g28 g29 g30 g31 g32 g33 g34 g35 g36 g37 g38 g39 g40 g41 g42 g43 g44 g45 g46 g47 g48 g49 g50 g51 g52 g53 g54 g55 g56 g57 g58 g59 g60 g61 g62 g63 g64 g65 g66 g67 g68 g69 g70 g71 g72 g73 g74:FuncData}(X:K.In h)(G:h.Ns mainGlobals mg)(hfa:mg "law" = some (.ref fa))
  (aKt:W.nsIn K mainGlobals "Stand" = some (some (.ref cSt)))
  (aK7:W.nsIn K mainGlobals "End" = some (some (.ref cE)))
  (aKu:W.nsIn K mainGlobals "Stage" = some (some (.ref cS)))
  (aKK:W.nsIn K mainGlobals "Case" = some (some (.ref cC)))
  (aJU:W.nsIn K mainGlobals "NoDeed" = some (some (.ref l_)))
  (aKv:W.nsIn K mainGlobals "NoBox" = some (some (.ref h_)))
  (aK8:W.nsIn K mainGlobals "Few" = some (some (.ref cFw)))
  (aJV:W.nsIn K mainGlobals "Groups" = some (some (.ref cGr)))
  (aJW:W.nsIn K mainGlobals "Listed" = some (some (.ref cLi)))
  (T1:TF K "is_whole" (top 9) f1 g1)
  (T2:TF K "common_divisor" (top 10) f2 g2)
  (T3:TF K "common_multiple" (top 11) f3 g3)
  (T4:TF K "share" (top 12) f4 g4)
  (T5:TF K "whole" (top 13) f5 g5)
  (T6:TF K "below" (top 15) f6 g6)
  (T7:TF K "lesser" (top 16) f7 g7)
  (T8:TF K "rising" (top 20) f8 g8)
  (T9:TF K "in_form" (top 21) f9 g9)
  (T10:TF K "all_weights" (top 22) f10 g10)
  (T11:TF K "by_weights" (top 23) f11 g11)
  (T12:TF K "mean" (top 24) f12 g12)
  (T13:TF K "capped" (top 25) f13 g13)
  (T14:TF K "mixed" (top 26) f14 g14)
  (T15:TF K "worths_of" (top 27) f15 g15)
  (T16:TF K "product" (top 28) f16 g16)
  (T17:TF K "greatest" (top 29) f17 g17)
  (T18:TF K "level_for" (top 30) f18 g18)
  (T19:TF K "is_stand" (top 40) f19 g19)
  (T20:TF K "is_stage_row" (top 41) f20 g20)
  (T21:TF K "is_stage_rows" (top 42) f21 g21)
  (T22:TF K "need_boxes" (top 43) f22 g22)
  (T23:TF K "has_box" (top 48) f23 g23)
  (T24:TF K "boxes_of" (top 49) f24 g24)
  (T25:TF K "size_of" (top 50) f25 g25)
  (T26:TF K "with_box" (top 51) f26 g26)
  (T27:TF K "set_of" (top 52) f27 g27)
  (T28:TF K "is_numbers" (top 53) f28 g28)
  (T29:TF K "is_pattern" (top 58) f29 g29)
  (T30:TF K "less_flaw" (top 59) f30 g30)
  (T31:TF K "can_grow" (top 60) f31 g31)
  (T32:TF K "sets_by_size" (top 61) f32 g32)
  (T33:TF K "more_flaw" (top 62) f33 g33)
  (T34:TF K "flaw" (top 63) f34 g34)
  (T35:TF K "need_pattern" (top 66) f35 g35)
  (T36:TF K "need_few_unfoldings" (top 70) f36 g36)
  (T37:TF K "lets_two" (top 71) f37 g37)
  (T38:TF K "need_best" (top 72) f38 g38)
  (T39:TF K "best_with_one" (top 73) f39 g39)
  (T40:TF K "best_with_several" (top 76) f40 g40)
  (T41:TF K "best_in" (top 77) f41 g41)
  (T42:TF K "best_from" (top 78) f42 g42)
  (T43:TF K "best" (top 79) f43 g43)
  (T44:TF K "_law_cell_at" (top 81) f44 g44)
  (T45:TF K "_law_mixed" (top 82) f45 g45)
  (T46:TF K "_law_plain" (top 83) f46 g46)
  (T47:TF K "_law_same" (top 84) f47 g47)
  (T48:TF K "_law_low" (top 85) f48 g48)
  (T49:TF K "_law_plus" (top 86) f49 g49)
  (T50:TF K "_law_times" (top 87) f50 g50)
  (T51:TF K "_law_less" (top 88) f51 g51)
  (T52:TF K "_law_row" (top 89) f52 g52)
  (T53:TF K "_law_box" (top 90) f53 g53)
  (T54:TF K "_law_stand" (top 91) f54 g54)
  (T55:TF K "_law_beside" (top 92) f55 g55)
  (T56:TF K "law" (top 93) f56 g56)
  (T57:MF K cSt "__init__" "Stand.__init__" (inClass (top 37) 0) f57 g57)
  (T58:MF K cSt "ends" "Stand.ends" (inClass (top 37) 1) f58 g58)
  (T59:MF K cSt "stages" "Stand.stages" (inClass (top 37) 2) f59 g59)
  (T60:MF K cSt "caps" "Stand.caps" (inClass (top 37) 4) f60 g60)
  (T61:MF K cE "__init__" "End.__init__" (inClass (top 38) 0) f61 g61)
  (T62:MF K cS "__init__" "Stage.__init__" (inClass (top 39) 0) f62 g62)
  (T63:MF K cC "__init__" "Case.__init__" (inClass (top 45) 0) f63 g63)
  (T64:MF K cC "how_many" "Case.how_many" (inClass (top 45) 1) f64 g64)
  (T65:MF K cC "need_box" "Case.need_box" (inClass (top 45) 2) f65 g65)
  (T66:MF K cC "stand" "Case.stand" (inClass (top 45) 3) f66 g66)
  (T67:MF K cC "cap" "Case.cap" (inClass (top 45) 4) f67 g67)
  (T68:MF K cC "caps" "Case.caps" (inClass (top 45) 9) f68 g68)
  (T69:MF K cFw "__init__" "Few.__init__" (inClass (top 55) 0) f69 g69)
  (T70:MF K cFw "may" "Few.may" (inClass (top 55) 1) f70 g70)
  (T71:MF K cGr "__init__" "Groups.__init__" (inClass (top 56) 0) f71 g71)
  (T72:MF K cGr "may" "Groups.may" (inClass (top 56) 1) f72 g72)
  (T73:MF K cLi "__init__" "Listed.__init__" (inClass (top 57) 0) f73 g73)
  (T74:MF K cLi "may" "Listed.may" (inClass (top 57) 1) f74 g74)
  (ck:CK K ⟨cE,cS⟩)
  (ct:CT K ⟨cE,cS⟩)
  (mkE:W.makesIn K cE=true)
  (kcE:W.keepIn K (.ref cE)=true)
  (aKL:W.findIn K (.ref cE) "ends" = some (some (.ref f58)))
  (aJX:W.findIn K (.ref cE) "stages" = some (some (.ref f59)))
  (aKM:W.findIn K (.ref cE) "caps" = some (some (.ref f60)))
  (mkS:W.makesIn K cS=true)
  (kcS:W.keepIn K (.ref cS)=true)
  (aKN:W.findIn K (.ref cS) "ends" = some (some (.ref f58)))
  (aJY:W.findIn K (.ref cS) "stages" = some (some (.ref f59)))
  (aKO:W.findIn K (.ref cS) "caps" = some (some (.ref f60)))
  (aJO:QV K cSt "__init__" f57)
  (xclD:xU K l_)
  (xcl:xU K h_)
  (cn:CN K ⟨cE,cS⟩)
  (ca:K4 K ⟨cE,cS⟩ cC)
  (mkC:W.makesIn K cC=true)
  (kcC:W.keepIn K (.ref cC)=true)
  (pt:SN K ⟨cFw,cGr,cLi⟩)
  (mkFw:W.makesIn K cFw=true)
  (kcFw:W.keepIn K (.ref cFw)=true)
  (mkGr:W.makesIn K cGr=true)
  (kcGr:W.keepIn K (.ref cGr)=true)
  (mkLi:W.makesIn K cLi=true)
  (kcLi:W.keepIn K (.ref cLi)=true)
  (nkF:W.findIn K (.ref cFw) "limit" = some none)
  (nkG:W.findIn K (.ref cGr) "groups" = some none)
  (nkM:W.findIn K (.ref cGr) "most" = some none)
  (nkS:W.findIn K (.ref cLi) "sets" = some none)
  (y_:Ua K ["abs","all","any","bool","dict","enumerate","int","isinstance","len","list","max","min","range","reversed","set","sorted","str","sum","tuple","zip"]=true)
  {aG9:Tok} (aIp:W.nsIn K mainGlobals "MOST_WEIGHT" = some (some (.int 1000 aG9)))
  {W_:Tok} (aHx:W.nsIn K mainGlobals "MOST_STAGE_ROWS" = some (some (.int 4 W_)))
  {aHj:Tok} (aIv:W.nsIn K mainGlobals "MOST_BOXES" = some (some (.int 6 aHj)))
  {aHk:Tok} (aIw:W.nsIn K mainGlobals "MOST_WORTH" = some (some (.int 1000000000 aHk)))
  {aHa:Tok} (aIq:W.nsIn K mainGlobals "MOST_STAGES" = some (some (.int 4 aHa)))
  {aHG:Tok} (aIZ:W.nsIn K mainGlobals "MOST_ENDS" = some (some (.int 12 aHG)))
  {aHl:Tok} (aIx:W.nsIn K mainGlobals "MOST_PRICE" = some (some (.int 1000000000 aHl)))
  {aHH:Tok} (aI0:W.nsIn K mainGlobals "MOST_SETS" = some (some (.int 64 aHH)))
  (gcR:g8.code=.ref cR)
  (tb:W.tabIn K "rising" = some (cR,Pt)) (ch:W.codeHdIn K cR Pt=true) (np:K.lookup Pt=none)
  : ∃ (fd:FuncData) (c P:Addr),(∀ (s:Shared) (v:Value),BindsTo s fd ⟨[v],[]⟩ [("_law_script",v)])/\W.tabIn K "rising" = some (c,P)/\W.codeHdIn K c P=true/\K.lookup P=none/\∀ base:Heap,K.In base->base.Ns mainGlobals mg->W.CodeHd base c P->base.BuiltinsAt mg P->aY l.prog w K mg base cZ 13 fa fd ["_law_script"] (uK K P cT):=by
 obtain ⟨c,rfl,rfl⟩:∃ c:Cs,c.e=cE/\c.s=cS:=⟨⟨cE,cS⟩,rfl,rfl⟩
 replace ck:CK K c:=ck;replace ct:CT K c:=ct;replace cn:CN K c:=cn;replace ca:K4 K c cC:=ca;obtain ⟨p,rfl,rfl,rfl⟩:∃ p:xF,p.f=cFw/\p.g=cGr/\p.l=cLi:=⟨⟨cFw,cGr,cLi⟩,rfl,rfl,rfl⟩
 replace pt:SN K p:=pt;cases hfa.symm.trans (W.mg_of X G T56.a);have ⟨aIy,aCr,aKd,aCQ,aJB,aG5,aHz,a_,i_,j_,aHy,aIB,gV,aHm,aKc,aBZ,aIA,Q_,g_,aKo,_⟩:=Vw X G y_;have aHc:=W.mg_of X G aKt;have aIz:=W.mg_of X G aK7;have aHb:=W.mg_of X G aKu;have aJF:=W.mg_of X G aKK;have aIg:=W.mg_of X G aJU;have E_:=W.mg_of X G aKv;have aHV:=W.mg_of X G aK8;have S_:=W.mg_of X G aJV;have L_:=W.mg_of X G aJW;have aBy:=W.mg_of X G aIp;have aBR:RelV (.int 1000) (.int 1000 aG9):=⟨_,rfl⟩
 have J_:=W.mg_of X G aHx;have K_:RelV (.int 4) (.int 4 W_):=⟨_,rfl⟩
 have b_:=W.mg_of X G aIv;have d_:RelV (.int 6) (.int 6 aHj):=⟨_,rfl⟩
 have aDk:=W.mg_of X G aIw;have aDv:RelV (.int 1000000000) (.int 1000000000 aHk):=⟨_,rfl⟩
 have aBS:=W.mg_of X G aIq;have aBT:RelV (.int 4) (.int 4 aHa):=⟨_,rfl⟩
 have aGZ:=W.mg_of X G aIZ;have aG0:RelV (.int 12) (.int 12 aHG):=⟨_,rfl⟩
 have aEI:=W.mg_of X G aIx;have aE2:RelV (.int 1000000000) (.int 1000000000 aHl):=⟨_,rfl⟩
 have Z_:=W.mg_of X G aI0;have aAy:RelV (.int 64) (.int 64 aHH):=⟨_,rfl⟩
 refine ⟨g56,cR,Pt,fun s v=>?_,tb,ch,np,fun base _ _ hC hB=>?_⟩
 ·obtain ⟨_,_,_,_,_,_,_,_,_,rfl,_⟩:=T56.F.ex;exact .of_eq rfl
 have R {CX n f g ps sp} (z:aY l.prog w K mg base CX n f g ps sp):=z;have ME:Mk K c.e f61:=⟨mkE,T61.a,T61.i,kcE⟩
 have MS:Mk K c.s f62:=⟨mkS,T62.a,T62.i,kcS⟩
 have aKP:fD K c.e "ends" f58:=⟨aKL,T58.i,T58.F.kp⟩
 have aKQ:fD K c.s "ends" f58:=⟨aKN,T58.i,T58.F.kp⟩
 have aJZ:fD K c.e "stages" f59:=⟨aJX,T59.i,T59.F.kp⟩
 have aJ0:fD K c.s "stages" f59:=⟨aJY,T59.i,T59.F.kp⟩
 have aJM:fD K c.e "caps" f60:=⟨aKM,T60.i,T60.F.kp⟩
 have aJN:fD K c.s "caps" f60:=⟨aKO,T60.i,T60.F.kp⟩
 have mt64:=T64.mt;have mt65:=T65.mt;have mt66:=T66.mt;have mt67:=T67.mt;have mt68:=T68.mt;have mt70:=T70.mt;have mt72:=T72.mt;have mt74:=T74.mt;have MCa:Mk K cC f63:=⟨mkC,T63.a,T63.i,kcC⟩
 have MFw:Mk K p.f f69:=⟨mkFw,T69.a,T69.i,kcFw⟩
 have MGr:Mk K p.g f71:=⟨mkGr,T71.a,T71.i,kcGr⟩
 have MLi:Mk K p.l f73:=⟨mkLi,T73.a,T73.i,kcLi⟩
 have G1:=R (Ce (n:=0) T1.F a_ aCQ aHz);have C1:=T1.cal X G G1 T1.F.bd3;have G2:=R (pK (n:=0) T2.F aIy);have C2:=T2.cal X G G2 T2.F.bd2;have G3:=R (oX (n:=1) T3.F C2.u);have C3:=T3.cal X G G3 T3.F.bd1;have G4:=R (O7 (n:=1) T4.F C2.u);have C4:=T4.cal X G G4 T4.F.bd2;have G5:=R (Ln (n:=0) T5.F );have C5:=T5.cal X G G5 T5.F.bd1;have G6:=R (O2 (n:=0) T6.F );have C6:=T6.cal X G G6 T6.F.bd2;have G7:=R (Jc (n:=1) T7.F C6.u);have C7:=T7.cal X G G7 T7.F.bd2;have G8:=R (Ji (n:=0) T8.F gcR hC hB aBZ aHy);have C8:=T8.cal X G G8 T8.F.bd1;have G9:=R (Gy (n:=1) T9.F C8.u C2.u j_);have C9:=T9.cal X G G9 T9.F.bd1;have G10:=R (wM (n:=0) T10.F Q_);have C10:=T10.cal X G G10 T10.F.bd1;have G11:=R (yH (n:=2) T11.F C4.u C3.u Q_);have C11:=T11.cal X G G11 T11.F.bd2;have G12:=R (Q7 (n:=3) T12.F C11.u C10.u);have C12:=T12.cal X G G12 T12.F.bd1;have G13:=R (KZ (n:=2) T13.F C9.u C7.u);have C13:=T13.cal X G G13 T13.F.bd2;have G14:=R (M7 (n:=2) T14.F C9.u C10.u C3.u);have C14:=T14.cal X G G14 T14.F.bd1;have G15:=R (An (n:=1) T15.F C8.u j_);have C15:=T15.cal X G G15 T15.F.bd1;have G16:=R (GR (n:=0) T16.F );have C16:=T16.cal X G G16 T16.F.bd1;have G17:=R (Dc (n:=2) T17.F C9.u C15.u C16.u aKo aJB);have C17:=T17.cal X G G17 T17.F.bd1;have G18:=R (Aw (n:=2) T18.F C4.u C10.u C3.u aHm);have C18:=T18.cal X G G18 T18.F.bd2;have G19:=R (Ea (n:=0) T19.F ck ct cn aIz aHb a_);have C19:=T19.cal X G G19 T19.F.bd1;have G20:=R (uC (n:=1) T20.F (c:=c) C19.u C1.u i_ a_ g_ aBy aBR);have C20:=T20.cal X G G20 T20.F.bd1;have G21:=R (rQ (n:=2) T21.F (c:=c) C20.u aCr i_ a_ j_ J_ K_);have C21:=T21.cal X G G21 T21.F.bd1;have G22:=R (yG (n:=1) T22.F (c:=c) E_ xcl C19.u aCr i_ a_ j_ b_ d_);have C22:=T22.calX X G G22 T22.F.bd1;have G23:=R (Fz (n:=0) T23.F );have C23:=T23.cal X G G23 T23.F.bd2;have G24:=R (Cv (n:=1) T24.F C23.u gV b_ d_);have C24:=T24.cal X G G24 T24.F.bd1;have G25:=R (Ga (n:=2) T25.F C24.u i_);have C25:=T25.cal X G G25 T25.F.bd1;have G26:=R (EY (n:=0) T26.F );have C26:=T26.cal X G G26 T26.F.bd2;have G27:=R (Jx (n:=0) T27.F Q_);have C27:=T27.cal X G G27 T27.F.bd1;have G28:=R (yC (n:=1) T28.F (T1.cal X G (Iw G1) T1.F.bd3).u aCr i_ a_ j_);have C28:=T28.cal X G G28 T28.F.bd4;have G29:=R (xO (n:=0) T29.F pt aHV S_ L_ a_);have C29:=T29.cal X G G29 T29.F.bd1;have G30:=R (Ak (n:=2) T30.F C24.u gV i_);have C30:=T30.cal X G G30 T30.F.bd1;have G31:=R (Ed (n:=2) T31.F C24.u C23.u C26.u aKd);have C31:=T31.cal X G G31 T31.F.bd3;have G32:=R (uD (n:=3) T32.F C25.u gV i_ b_ d_);have C32:=T32.cal X G G32 T32.F.bd1;have G33:=R (Ai (n:=4) T33.F C31.u C32.u gV b_ d_);have C33:=T33.cal X G G33 T33.F.bd1;have G70:=R (GX (n:=3) T70.F pt.cf nkF C25.u);have b70:=Bx G70 T70.F.bd2;have G72:=R (xK (n:=2) T72.F pt.cg nkG nkM C24.u aCr i_);have b72:=Bx G72 T72.F.bd2;have G74:=R (xG (n:=0) T74.F pt.cl nkS);have b74:=Bx G74 T74.F.bd2;have G34:=R (Q6 (n:=5) T34.F pt mt70 G70.u b70 mt72 G72.u b72 mt74 G74.u b74 C33.u C30.u gV);have C34:=T34.cal X G G34 T34.F.bd2;have G35:=R (uI (n:=6) T35.F (p:=p) C34.u C29.u);have C35:=T35.cal X G G35 T35.F.bd2;have C36:=T36.cal X G (R (Ly (ps:=["boxes"]) 0)) T36.F.bd1;have G37:=R (FZ (n:=4) T37.F pt mt70 G70.u b70 mt72 G72.u b72 mt74 G74.u b74 C27.u gV);have C37:=T37.cal X G G37 T37.F.bd2;have G64:=R (rZ (n:=0) T64.F ca i_);have b64:=Bx G64 T64.F.bd1;have G65:=R (rA (n:=1) T65.F ca aIg xclD mt64 G64.u b64 C1.u);have b65:=Bx G65 T65.F.bd2;have G66:=R (xV (n:=2) T66.F ca mt65 G65.u b65);have b66:=Bx G66 T66.F.bd2;have G38:=R (BX (n:=5) T38.F (p:=p) ca mt64 G64.u b64 mt66 G66.u b66 C37.u C36.u gV);have C38:=T38.cal X G G38 T38.F.bd2;have G39:=R (rR (n:=4) T39.F pt mt70 G70.u b70 mt72 G72.u b72 mt74 G74.u b74 C12.u C17.u C5.u C26.u aG5);have C39:=T39.cal X G G39 T39.F.bd2;have C40:=T40.cal X G (R (Ly (ps:=["pattern","tables"]) 0)) T40.F.bd2;have G67:=R (CV (n:=2) T67.F ca mt65 G65.u b65);have b67:=Bx G67 T67.F.bd2;have G60:=R (xR (n:=0) T60.F ck j_);have b60:=Bx G60 T60.F.bd1;have G68:=R (Bj (n:=3) T68.F ca ck mt66 G66.u b66 mt67 G67.u b67 aJM aJN (R (vV (n:=0) T60.F ck j_)).u b60 (T13.cal X G (R (Fp (n:=2) T13.F C9.u C7.u)) T13.F.bd2).u);have b68:=Bx G68 T68.F.bd2;have G41:=R (HR (n:=5) T41.F (p:=p) ca mt64 G64.u b64 mt68 G68.u b68 C39.u C37.u C40.u gV);have C41:=T41.cal X G G41 T41.F.bd2;have G42:=R (Ay (n:=7) T42.F (p:=p) ca mt64 G64.u b64 C41.u C38.u C35.u);have C42:=T42.cal X G G42 T42.F.bd2;have G63:=R (rF (n:=2) T63.F ca E_ xcl C22.u g_);have b63:=Bx G63 T63.F.bd2;have G43:=R (QC (n:=9) T43.F (p:=p) ca MCa G63 b63 aJF (by omega) C42.u);have C43:=T43.cal X G G43 T43.F.bd2;have G44:=R (uF (n:=0) T44.F i_);have C44:=T44.cal X G G44 T44.F.bd2;have G45:=R (xX (n:=0) T45.F );have C45:=T45.cal X G G45 T45.F.bd2;have b46:Binds K g46 ["_law_thing"] []:=T46.F.bd1;have G46:=R (xQ (n:=1) T46.F (T46.cal X G (R (wL (n:=0) T46.F (T46.cal X G (aAu (fun _ _ _ _ z=>z) 0) b46) a_ aCQ aHz aIA j_ g_)) b46) a_ aCQ aHz aIA j_ g_);have C46:=T46.cal X G G46 b46;have G47:=R (Bd (n:=2) T47.F C46.u);have C47:=T47.cal X G G47 T47.F.bd2;have G48:=R (Dv (n:=0) T48.F aIy);have C48:=T48.cal X G G48 T48.F.bd2;have G49:=R (Bw (n:=1) T49.F C48.u);have C49:=T49.cal X G G49 T49.F.bd2;have G50:=R (xY (n:=1) T50.F C48.u);have C50:=T50.cal X G G50 T50.F.bd2;have G51:=R (Ba (n:=0) T51.F );have C51:=T51.cal X G G51 T51.F.bd2;have G52:=R (DX (n:=1) T52.F C45.u gV);have C52:=T52.cal X G G52 T52.F.bd3;have b53:Binds K g53 ["_law_row_here","_law_deep","_law_most","_law_scale"] []:=T53.F.bd4;have G53:=rcF (b:=1) (sp:=Io) (fun vs H Q E ⟨_,_,_,_,_,_,_,h,_⟩=>absurd h (aMR _)) (fun d z=>R (FJ (n:=1+d) T53.F (T53.cal X G z b53) g_ gV aIB)) 5;have C53:=T53.cal X G G53 b53;have G57:=R (qM (n:=0) T57.F ck g_);have b57:=Bx G57 T57.F.bd5;have G61:=R (uG (n:=1) T61.F ck aHc aJO G57.u b57 E_ xcl C5.u C1.u aDk aDv);have b61:=Bx G61 T61.F.bd2;have G58:=R (xM (n:=0) T58.F ck);have b58:=Bx G58 T58.F.bd1;have G59:=R (uA (n:=0) T59.F ck);have b59:=Bx G59 T59.F.bd1;have G62:=R (pJ (n:=3) T62.F ck aHc aJO G57.u b57 ck.ce ck.cs aKP aKQ G58.u b58 aJZ aJ0 G59.u b59 aJM aJN G60.u b60 E_ xcl C13.u C18.u C14.u C21.u C1.u g_ aHy Q_ aBS aBT aGZ aG0 aEI aE2);have b62:=Bx G62 T62.F.bd3;have b54:Binds K g54 ["_law_told"] []:=T54.F.bd1;have G54:=rcF (b:=6) (sp:=Ov c Pt cT) (fun vs H Q E ⟨_,_,_,_,_,_,_,h,_⟩=>absurd h (aMR _)) (fun d z=>R (yF (n:=6+d) T54.F ME G61 b61 aIz (by omega) MS G62 b62 aHb (by omega) (T54.cal X G z b54))) 5;have C54:=T54.cal X G G54 b54;have b55:Binds K g55 ["_law_told","_law_level"] []:=T55.F.bd2;have G55:=rcF (b:=3) (sp:=Ql) (fun vs H Q E ⟨_,_,_,_,_,_,_,_,_,h,_⟩=>absurd h (aMR _)) (fun d z=>R (wX (n:=3+d) T55.F C51.u C49.u C50.u (T55.cal X G z b55) C48.u Q_)) 5;have C55:=T55.cal X G G55 b55;have G69:=R (uE (n:=1) T69.F pt.cf nkF (T1.cal X G (Iw G1) T1.F.bd3).u b_ d_);have b69:=Bx G69 T69.F.bd2;have G71:=R (pA (n:=2) T71.F pt.cg nkG nkM C28.u g_ b_ d_);have b71:=Bx G71 T71.F.bd3;have G73:=R (pC (n:=2) T73.F pt.cl nkS C28.u g_ aBZ i_ aKc Z_ aAy);have b73:=Bx G73 T73.F.bd2;exact Su (n:=12) T56.F pt (c:=c) MFw G69 b69 aHV (by omega) MGr G71 b71 S_ (by omega) MLi G73 b73 L_ (by omega) C47.u C43.u C45.u C55.u C54.u C53.u C52.u C44.u gV aHy aIB i_
theorem walk {l:W.OpenLaw}{q:Program}{loose:List Str}{XP:(Str->Option Value)->Heap->Prop}{YP:World->Heap->Prop}{d d0:DefRec}{K:Params->W.Frag}(hn:l.most=some 63)(hdf:d.params.defaults=[])
  (h0:(recsOf q).find? (fun e=>e.name==("rising" : Str))=some d0)
  (hY:∀ (w:World) (h:Heap),YP w h->(K w.params).In h)
  (F:∀ (w:World) (mg:Str->Option Value) (fa:Addr) (h:Heap),(K w.params).In h->h.Ns mainGlobals mg->mg d.name=some (.ref fa) ->
   ∃ (fd:FuncData) (c P:Addr),(∀ (s:Shared) (u:Value),BindsTo s fd ⟨[u],[]⟩ [("_law_script",u)])/\W.tabIn (K w.params) "rising" = some (c,P)/\W.codeHdIn (K w.params) c P=true/\(K w.params).lookup P=none/\∀ base:Heap,(K w.params).In base->base.Ns mainGlobals mg->W.CodeHd base c P->base.BuiltinsAt mg P->aY l.prog w (K w.params) mg base cZ 13 fa fd ["_law_script"] (uK (K w.params) P cT)) :
  W.WalkO q loose XP YP l.row.toRowW d [] (fun f vs=>PySem.call f vs) :=
 L2.Lq (n:=63) (k:=13) (x:="_law_script") (x0:="rising") (CX:=fun _=>cZ) (sp:=fun w P=>uK (K w.params) P cT) hn (by decide) hdf ⟨rfl,by decide,by decide⟩ h0 hY F (fun _ _ a P ns hl hP hS=>⟨a,ns,rfl,hS,hl,hP,fun _=>rfl⟩) fun _ _ _ _ _ z=>z
end K51
open PySem PySem.W PyProof.Rows
set_option maxRecDepth 100000 in
set_option maxHeartbeats 0 in
theorem PySem.Challenge.cw_lidprice_k51_best_of_one_box_holds : PySem.Challenge.rw_lidprice_k51_best_of_one_box.Holds := by
 w_on
 refine PySem.W.holds_law K51.VV fun said=>?_;refine PySem.W.holds_open (N:=13170) (q:=K51K.vw) (loose:=[]) (Xt:=K51K.xtK) (XP:=PySem.W.XL K51K.vw [])
  (Yf:=PySem.W.Hook.obs (PySem.W.kHook K51K.yI K51K.VB K51K.Dy)) (Ya:=PySem.W.Hook.val (PySem.W.kHook K51K.yI K51K.VB K51K.Dy))
  (YP:=PySem.W.Hook.says (PySem.W.kHook K51K.yI K51K.VB K51K.Dy)) K51K.aAo
  (PySem.W.Hook.of _) (PySem.W.Hook.keeps _) (fun s e=>PySem.W.xl_of s (aNZ.mp e).1) PySem.W.XL.keeps
  (by rfl) (by rfl) (by rfl) (fun s e=>PySem.W.recFacts_of (aNZ.mp e).2)
  (by rfl) (by first | assumption | decide +kernel) (by decide +kernel)
  ⟨rfl,rfl,rfl,rfl,rfl,by decide +kernel⟩ ?hw ?hc
 case hw=>w_witness2
 k_fill
 refine K51.walk (l:=PySem.Challenge.rw_lidprice_k51_best_of_one_box) rfl rfl rfl (fun w h Y=>by first | exact PySem.W.kIn_of Y | exact PySem.W.km_in_of Y) ?F
 case F =>
  intro w mg fa h KX G hmg;apply K51.Sv (cR:=166) (Pt:=164) KX G hmg
  all_goals first | k_is | kit_is | exact ⟨by k_is,L2.La (by k_is) (by k_is) (by k_is)⟩ | exact ⟨by k_is,by k_is,L2.La (by k_is) (by k_is) (by k_is)⟩ | (refine ⟨⟨?_,?_,?_,?_⟩,⟨?_,?_,?_,?_⟩,?_,?_,?_,?_,?_,?_,?_,?_,?_,?_,?_⟩ <;> first | k_is | kit_is | kernel_rfl | (unfold L2.cB; kernel_rfl) | decide) | (refine ⟨?_,?_,?_,?_,?_,?_,?_,?_,?_⟩ <;> first | k_is | kit_is | kernel_rfl | (unfold L2.cB; kernel_rfl) | decide) | (refine ⟨?_,?_,?_,?_,?_⟩ <;> first | k_is | kit_is | kernel_rfl | (unfold L2.cB; kernel_rfl) | decide) | (refine ⟨?_⟩ <;> first | k_is | kit_is | kernel_rfl | (unfold L2.cB; kernel_rfl) | decide) | (refine TD.CN.of ?_ ?_ <;> first | k_is | kit_is | kernel_rfl | (unfold L2.cB; kernel_rfl) | decide) | (refine ⟨?_,?_,⟨?_,?_,?_,?_⟩,?_,?_,?_,?_,?_⟩ <;> first | k_is | kit_is | kernel_rfl | (unfold L2.cB; kernel_rfl) | decide) | (refine ⟨?_,?_,⟨?_,?_,?_,?_⟩,⟨?_,?_,?_,?_⟩,⟨?_,?_,?_,?_⟩,?_,?_,?_,?_,?_,?_,?_,?_,?_,?_,?_,?_⟩ <;> first | k_is | kit_is | kernel_rfl | (unfold L2.cB; kernel_rfl) | decide) | kernel_rfl | exact rfl | decide
