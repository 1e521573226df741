import PyProof.Rows.All
import Wide.All
import OpenK.AllK
import Wide.FinOn
import Lean
import PyProof.EqAt
import PyProof.EqKinds
import PyProof.TupleCall
import PyProof.NeKinds
import KE.IntBitsLaws
import KE.KRevIter
import PyProof.ConsumeWalk
import KE.KSortKey
import KE.KLam
import KE.KNestM
import KE.KDictList
import PyProof.ZipIter
import PyProof.Rows.Range3
import PyProof.CollectWalk
import PyProof.ListNew
import KE.KDictOf
import PyProof.AttrMissHeap
import PyProof.Rows.SetFrom
import PyProof.Rows.TupIter
import PyProof.Draws
import PyProof.EnumFor
import KE.KxAdd
import PyProof.Rows.StrJoin2
import PyProof.CallStr
import PyProof.FactsAll.str_5
import KE.KIntText
import PyProof.SliceStr2
import PyProof.StrLaws
import PyProof.StrBlockI
import KE.KUnpack
import PyProof.Rows.StrSplitJoin
import PyProof.Rows.StrDigitsNeg
import PyProof.Rows.StrJoinMade
import PyProof.Rows.ReprOcc
import PyProof.IsRules
import KE.KxField
import PyProof.ReprText
import PySem.Challenge.RW_lidprice_k86_whole_written_and_read
set_option compiler.extract_closed false
open List renaming length_map → aFJ, mem_cons_of_mem → aFK, mem_cons_self → aFL, getElem?_eq_getElem → aFM, map_cons → aFP, map_append → aFQ, length_append → aFR, size_toArray → aFS, mem_map → aFT, getElem?_eq_some_iff → aFU, append_assoc → aFW, lookup_cons → aFX, mem_of_getElem? → aFY, mem_singleton → aF2, mem_append_right → aF4, take_length → aF5, sum_cons → aF7, length_cons → aF8, getElem?_map → aF9, getElem?_append_right → aGa, mem_append → aGc, getElem?_append_left → aGd, length_take → aGh, mem_cons → aGi, getElem_toArray → aGk, cons_append → aGn, nil_append → aGo, length_singleton → aGp, map_map → aGr, cons → aGs, replicate → aGw, drop_left → aGy, getElem_mem → aGB, map_nil → aGD, drop_eq_getElem_cons → aGG, map_congr_left → aGH, singleton_append → aGI, append_nil → aGJ, mem_append_left → aGL, flatMap_cons → aGR, map_eq_nil_iff → aGS, length_take_le → aGT, flatMap_nil → aGV, length_replicate → aGX, take_append_drop → aGZ, length → aG1, flatMap_append → aG4, all_eq_true → aG5, drop_length → aG7, pairwise_cons → aG9, nodup_cons → aHa, find?_cons → aHb, range → aHd, lookup → aHe, mem_of_mem_drop → aHh, filterMap_cons → aHm, length_nil → aHr, length_eq_zero_iff → aHw, mem_range → aHx, pairwise_map → aHy, take_zero → aHC, eraseIdxIfInBounds_toArray → aHD, any_eq_true → aHF, length_pos_iff → aHJ, mem_filterMap → aHL, drop_zero → aHQ, pairwise_iff_getElem → aHS, take_add_one → aHT, getElem?_replicate → aHW, prefix_iff_eq_take → aHY, pairwise_singleton → aH0, getElem?_set_self → aH1, take_of_length_le → aH4, of_mem_zip → aH8, sum_append → aH9, lookup_cons_self → aIb, getElem?_set_ne → aIe, nodup_nil → aIf, mem_iff_getElem → aIg, any_cons → aIk, map_take → aIl, map_drop → aIm, any_eq_false → aIr, drop_sublist → aIw, foldl_append → aIx, nodup_append → aIy, mem_flatMap → aIC, length_drop → aID, mem_filter → aIH, foldl_cons → aII
open Nat renaming le_trans → aFN, le_refl → aFV, zero_le → aGe, lt_of_lt_of_le → aGf, ne_of_lt → aGg, mul_le_mul_left → aGm, le_of_lt → aGt, mul_le_mul_right → aGM, lt_irrefl → aG2, add_le_add_left → aG3, div_le_self → aHc, le_succ → aHf, pow_le_pow_right → aHj, zero_add → aHk, not_lt_zero → aHs, mul_add → aHu, add_mul → aHv, toDigits → aHA, lt_or_ge → aHB, lt_succ_self → aHE, lt_of_le_of_lt → aHN, eq_zero_or_pos → aHO, ne_of_gt → aH2, le_of_eq → aH3, le_div_iff_mul_le → aIc, mul_le_mul → aIh, lt_succ_of_lt → aIt, succ_mul → aIz, succ_le_succ → aIB
open PySem.Heap renaming get?_push_of_some → aFO, lt_size → aF3, get?_push_size → aF6, SameBut → aGC, size_push → aHM
open Int renaming le_of_lt → aFZ, mul_le_mul_of_nonneg_right → aF0, mul_le_mul_of_nonneg_left → aF1, le_trans → aGj, emod_lt_of_pos → aGl, mul_nonpos_of_nonneg_of_nonpos → aGu, ne_of_gt → aGv, emod_nonneg → aGx, gcd → aGz, le_refl → aGE, gcd_pos_of_ne_zero_right → aGK, eq_ofNat_of_zero_le → aGN, mul_pos → aGP, mul_nonneg → aGQ, fdiv_eq_ediv_of_nonneg → aGW, eq_of_mul_eq_mul_right → aHg, pow_add → aHi, pow_succ → aHl, dvd_trans → aHo, mul_fdiv_cancel_left → aHp, mul_nonpos_of_nonpos_of_nonneg → aHt, mul_comm → aHz, le_of_dvd → aHG, le_of_mul_le_mul_right → aHP, le_of_mul_le_mul_left → aHR, gcd_dvd_right → aHU, gcd_dvd_left → aHX, gcd_le_natAbs_right → aHZ, fmod_nonneg_of_pos → aH5, dvd_refl → aH6, natAbs_dvd_natAbs → aIa, fdiv_mul_cancel → aIj, lt_or_gt_of_ne → aIp, fmod_lt_of_pos → aIq, toNat_natCast → aIu, fmod_def → aIv, lt_trans → aIA, natCast_ediv → aIF
open Bool renaming false_ne_true → aGb, and_eq_true → aGA, false_eq_true → aGO, eq_iff_iff → aHq, or_eq_true → aHI, and_eq_true_iff → aIi, not_eq_true' → aIs
open Array renaming length_toList → aGq, getElem?_toList → aGY, getElem?_eq_getElem → aG0, toList_append → aHn, toArray_toList → aHH, mk → aHV, append_assoc → aIn, empty_append → aIo, toList_inj → aIE, Perm → aIJ
open Option renaming map_eq_some_iff → aGF, some → aGU, none → aIG
open Rat renaming mul_le_mul_of_nonneg_right → aG6, mul_le_mul_of_nonneg_left → aG8, mul_lt_mul_of_pos_right → aHK, not_lt → aH7
set_option Elab.async false
set_option linter.all false
set_option maxRecDepth 100000
namespace K86
open PySem PySem.W
noncomputable abbrev sdr:=PySem.Challenge.rw_lidprice_k86_whole_written_and_read
noncomputable abbrev JL:Program:=sdr.row.toRowW.prog
theorem sdA:sreFenced JL.main=true:=by kernel_rfl
theorem sdB:((moduleNames JL.main.body).isEmpty||lookedIntoSs (moduleNames JL.main.body) JL.main.body)=true:=by kernel_rfl
theorem sdC:namesResolve JL=true:=by kernel_rfl
theorem sdD:(JL.boundNames.all fun n=>!worldNames.contains n)=true:=by kernel_rfl
theorem sdE:noRoadLSs { strict:=!(importedModules JL.main.body).all cThrough.contains,foot:=none,bare:=(["vars","dir","locals"]:List Str).filter (readsOut JL JL.main.body) } JL.main.body=true:=by kernel_rfl
theorem sdF:(namesMeet JL JL.main.body fun _ n=>attrL n)=true:=by kernel_rfl
theorem sdG:looksOpen JL=true:=by
 unfold looksOpen;exact look_both (look_both (look_both (look_both (look_both sdA sdB) sdC) sdD) sdE) sdF
theorem sdH:sdr.row.wellSaid=true:=by
 unfold OpenRow.wellSaid OpenRow.partSaid;rw[sdG]
 kernel_rfl
theorem Zc:sdr.wellSaid=true:=by
 unfold OpenLaw.wellSaid;rw[sdH]
 kernel_rfl
end K86
namespace L2
open PySem
def inClass (s:Stmt)(j:Nat):Stmt:=match s with
 | .ClassDef _ _ _ body _ _ _ _ _ _ _=>body.getD j (.Pass ⟨0,0,0,0⟩)
 |_=>.Pass ⟨0,0,0,0⟩
def jX (s:Stmt):Arguments:=match s with
 | .FunctionDef _ a _ _ _ _ _ _ _ _=>a
 |_=>{ posonlyargs:=[],args:=[],vararg:=none,kwonlyargs:=[],kw_defaults:=[],kwarg:=none,defaults:=[] }
def iC (s:Stmt):List Stmt:=match s with
 | .FunctionDef _ _ b _ _ _ _ _ _ _=>b
 |_=>[]
def aH (s:Stmt):Scope:=match s with
 | .FunctionDef _ _ _ _ _ _ sc _ _ _=>sc
 |_=>{ kind:=.function,names:=[],isGenerator:=false,isCoroutine:=false }
end L2
namespace L2
open PySem PySem.W
noncomputable def ev {α:Type}:List α->List α
 | []=>[]
 | [a]=>[a]
 |a::_::r=>a::ev r
noncomputable def od {α:Type}:List α->List α
 | []=>[]
 | [_]=>[]
 |_::b::r=>b::od r
noncomputable def bt:Nat->List Obj->BT
 | 0,_=>.nil
 |_+1,[]=>.nil
 |n+1,o::r=>.node o (bt n (ev r)) (bt n (od r))
noncomputable def sets (l:List Obj):List (Nat×Obj)->List Obj
 | []=>l
 |p::r=>sets (l.set p.1 p.2) r
noncomputable def tL (T:BT)(n k:Nat)(os:OsState):SharedT:=⟨T,n,{},aHV [],boot_drawn,k,os⟩
variable{p:Program}{ann:Option Value}
theorem eX{tb:String->Option Builtin}{w:World}{m0:Nat}{env:Env}{q:Pos}{n N:Nat}{s s':SharedT}{r:Shared}{l rest:List Stmt}{c:Code}{pos p':Pos}
  (h:segRunT tb p w m0 ann 1 n s (piecesOf l env c pos [topFrame q])=some (.next,s',c,p')) (k:topRun tb p w m0 ann N s'.abs (restOf rest env c p' [topFrame q])=some r):topRun tb p w m0 ann (n+N) s.abs (restOf (l++rest) env c pos [topFrame q])=some r :=
 piece_app (segRun_of h) k
theorem My{q:Program}{loose:List Str}{Xt:Shared->Bool}{α:Type}{Yf:Shared->α}{Ya:World->α}{N:Nat}{Tb Tf:Params->BT}{nb nf ka kf:Nat}{env:Env}{C:Code}{gs:List Stmt}{posA posB qp:Pos}{m0:Nat}{a b c:Nat}
  (e1:opening p=plainProg p.main.scope.names) (h6:Nat.ble 600 N=true) (e2:∀s,fenceModules? p s=some s)
  (size:∀w:World,((boot_heap w.params).isNs mainGlobals&&(aHV []:Array GenState).size==0,(boot_heap w.params).objs.size,(boot_heap w.params).nsMap mainGlobals "__annotations__")=(true,m0,ann))
  (pre:∀(w:World) (os:OsState),topGo treeTable p w m0 ann a ⟨boot_heap w.params,aHV [],boot_drawn,boot_toks,os⟩ (topStub p)=some ((tL (Tb w.params) nb ka os).abs,⟨denote treeTable (.body gs env),C,posA,[topFrame qp]⟩))
  (blk:∀(w:World) (os:OsState),segRun treeTable p w m0 ann 1 b (tL (Tb w.params) nb ka os).abs (blockOf gs env C posA [topFrame qp])=some (.next,(tL (Tb w.params) nb ka os).abs,C,posB))
  (run:∀(w:World) (os:OsState),topRun treeTable p w m0 ann c (tL (Tb w.params) nb ka os).abs (restOf gs env C posB [topFrame qp])=some (tL (Tf w.params) nf kf os).abs)
  (le:Nat.ble (a+(b+c)) N=true)
  (looks:∀w:World,(fun os=>((staticsOk (importedModules p.main.body) (boot_heap w.params) (absHeap (Tf w.params) nf {})&&namesBound p (absHeap (Tf w.params) nf {})&&gensDone ⟨absHeap (Tf w.params) nf {},aHV [],boot_drawn,kf,os⟩&&laidKept (boot_heap w.params) (absHeap (Tf w.params) nf {})),
    openSeen q loose (importedModules p.main.body) Xt true ⟨absHeap (Tf w.params) nf {},aHV [],boot_drawn,kf,os⟩,Yf ⟨absHeap (Tf w.params) nf {},aHV [],boot_drawn,kf,os⟩))=fun _=>(true,openGood q loose,Ya w)):LeftO p q loose Xt Yf Ya N :=
 LeftO.of_pieces (H₁:=fun P=>absHeap (Tf P) nf {}) (boot_open e1 h6 e2) size (fun w os=>go_top (pre w os) (piece_block (blk w os) (run w os))) le looks
end L2
namespace K86
open PySem
def top (i:Nat):Stmt:=PySem.Challenge.pw_lidprice_k86_whole_written_and_read.main.body.getD i (.Pass ⟨0,0,0,0⟩)
end K86
namespace K86K
open PySem L2 K86
noncomputable section
abbrev OO:=Params->Obj
def E (P:Params)(x:Str)(t:Tok)(v:Value):DictEntry:=⟨PyData.keyHash P x,.str x t,v⟩
abbrev fnO (n q:Str)(st:Stmt)(dV kV doc pm:Value)(an:Option Addr)(cdv ct:Value):FuncData:=W.fnOf n q (jX st) (iC st) (aH st) dV kV doc pm an cdv ct
noncomputable def fnT (n q:Str)(st:Stmt):FuncData:={ name:=n,qualname:=q,params:=jX st,body:=.stmts (iC st),scope:=aH st,globals:=0,closure:=[],defaults:=.none,kwdefaults:=.none }
structure FP where
 st:Stmt
 q:Str
 l:Int
 a:Nat
 t:Nat
 m:Value
def S7:Stmt->Str
 | .FunctionDef n _ _ _ _ _ _ _ _ _=>n
 |_ => ""
def nmT:List (Str×NameKind)->Nat->List Value
 | (x,.local)::r,t=>.str x t::nmT r (t+1)
 |_::r,t=>nmT r t
 | [],_=>[]
noncomputable def qN:Obj:=⟨(.type "tuple"),none,(.seq #[] 0),#[]⟩
noncomputable def Qg:Obj:=⟨.none,none,(.fields #[]),#[]⟩
def fV (p:FP):List Value:=nmT (aH p.st).names (p.t+3)
noncomputable def fN (p:FP):Obj:=⟨(.type "tuple"),none,(.seq (fV p).toArray 0),#[]⟩
noncomputable def fT (p:FP):Obj:=⟨.none,none,(.func (fnT (S7 p.st) p.q p.st)),#[]⟩
def fc (p:FP)(n:Nat)(x y z:Value):Obj:=⟨(.type "code"),none,(.fields #[(.str (S7 p.st) p.t),(.str p.q (p.t+1)),(.str "/claim/cut.py" (p.t+2)),(.int p.l 0),(.int (jX p.st).args.length 0),(.int 0 0),(.int 0 0),(.int 3 0),(.ref p.a),(.bool true),(.int 181 0),(.ref (p.a+1)),.none,x,y,z,(.int (p.t+3+n) 0),(.int p.l 0),(.str "/claim/cut.py" (p.t+4+n))]),#[]⟩
def fC (p:FP):Obj:=fc p (fV p).length (.ref (p.a+2)) (.ref (p.a+3)) (.ref (p.a+4))
def fD (p:FP):Obj:=fc p 0 .none .none (.ref (p.a+2))
def ff (p:FP)(c:Nat):Obj:=⟨(.type "function"),none,(.func (fnO (S7 p.st) p.q p.st .none .none .none p.m none (.ref c) .none)),#[]⟩
def fF (p:FP):Obj:=ff p (p.a+5)
def fG (p:FP):Obj:=ff p (p.a+3)
noncomputable def fL (p:FP)(r:List Obj):List Obj:=qN::Qg::fN p::qN::fT p::fC p::fF p::r
noncomputable def fM (p:FP)(r:List Obj):List Obj:=qN::Qg::fT p::fD p::fG p::r
def mo0:Value:=(.str "__main__" 164)
def XQ:Value:=(.str "lidprice.shares" 262)
def X6:Value:=(.str "lidprice.tables" 323)
def yX:Value:=(.str "lidprice.stands" 365)
def O7:Value:=(.str "lidprice.patterns" 582)
def Yz:Value:=(.str "lidprice.plans" 734)
def vD:Value:=(.str "lidprice.texts" 846)
def Fi:Value:=(.str "law_lidprice_k86_whole_written_and_read" 1086)
def p15:FP:=⟨top 0,"_wall",1,15,187,mo0⟩
def p71:FP:=⟨top 7,"is_whole",14,71,264,XQ⟩
def p78:FP:=⟨top 8,"common_divisor",16,78,273,XQ⟩
def p85:FP:=⟨top 9,"common_multiple",22,85,282,XQ⟩
def p92:FP:=⟨top 10,"share",27,92,291,XQ⟩
def p99:FP:=⟨top 11,"whole",32,99,300,XQ⟩
def Uj:FP:=⟨top 12,"below",34,106,307,XQ⟩
def W5:FP:=⟨top 13,"lesser",36,113,315,XQ⟩
def W7:FP:=⟨top 17,"rising",41,120,329,X6⟩
def Wc:FP:=⟨top 18,"in_form",45,125,335,X6⟩
def V8:FP:=⟨top 19,"all_weights",53,130,341,X6⟩
def Wo:FP:=⟨top 20,"capped",55,135,347,X6⟩
def WM:FP:=⟨top 21,"mixed",57,140,353,X6⟩
def Ug:FP:=⟨top 22,"level_for",64,145,359,X6⟩
def W4:FP:=⟨inClass (top 29) 0,"Stand.__init__",83,157,389,yX⟩
def Th:FP:=⟨inClass (top 29) 1,"Stand.ends",89,164,400,yX⟩
def Sq:FP:=⟨inClass (top 29) 2,"Stand.stages",92,171,407,yX⟩
def VM:FP:=⟨inClass (top 29) 3,"Stand.reserve",95,178,414,yX⟩
def UV:FP:=⟨inClass (top 29) 4,"Stand.caps",98,185,421,yX⟩
def WX:FP:=⟨inClass (top 30) 0,"End.__init__",102,206,452,yX⟩
def Uw:FP:=⟨inClass (top 30) 1,"End.is_end",108,213,460,yX⟩
def Um:FP:=⟨inClass (top 30) 2,"End.ways",111,220,467,yX⟩
def VD:FP:=⟨inClass (top 30) 3,"End.beside",114,227,474,yX⟩
def Uz:FP:=⟨inClass (top 30) 4,"End.told",117,234,482,yX⟩
def V9:FP:=⟨inClass (top 31) 0,"Stage.__init__",121,253,506,yX⟩
def Vs:FP:=⟨inClass (top 31) 1,"Stage.is_end",134,258,512,yX⟩
def Vo:FP:=⟨inClass (top 31) 2,"Stage.row_share",137,265,519,yX⟩
def U3:FP:=⟨inClass (top 31) 3,"Stage.after",140,272,527,yX⟩
def U6:FP:=⟨inClass (top 31) 4,"Stage.ways",143,279,535,yX⟩
def Wh:FP:=⟨inClass (top 31) 5,"Stage.beside",146,286,542,yX⟩
def Sg:FP:=⟨inClass (top 31) 6,"Stage.told",149,293,550,yX⟩
def Te:FP:=⟨top 32,"is_stand",151,303,562,yX⟩
def XD:FP:=⟨top 33,"is_stage_row",153,310,569,yX⟩
def Wz:FP:=⟨top 34,"is_stage_rows",157,317,576,yX⟩
def WN:FP:=⟨top 37,"is_numbers",163,322,586,O7⟩
def Sh:FP:=⟨inClass (top 39) 0,"Few.__init__",171,348,624,O7⟩
def S5:FP:=⟨inClass (top 39) 1,"Few.may",176,355,632,O7⟩
def Tj:FP:=⟨inClass (top 39) 2,"Few.told",179,362,640,O7⟩
def UT:FP:=⟨inClass (top 40) 0,"Groups.__init__",183,381,664,O7⟩
def Ru:FP:=⟨inClass (top 40) 1,"Groups.may",191,388,673,O7⟩
def WR:FP:=⟨inClass (top 40) 2,"Groups.told",194,395,681,O7⟩
def W9:FP:=⟨inClass (top 41) 0,"Listed.__init__",198,414,706,O7⟩
def SN:FP:=⟨inClass (top 41) 1,"Listed.may",203,421,714,O7⟩
def W3:FP:=⟨inClass (top 41) 2,"Listed.told",206,428,722,O7⟩
def Wn:FP:=⟨inClass (top 44) 0,"Stop.told",213,461,768,Yz⟩
def Vx:FP:=⟨inClass (top 45) 0,"Take.__init__",217,480,791,Yz⟩
def Rz:FP:=⟨inClass (top 45) 1,"Take.told",221,487,800,Yz⟩
def Wm:FP:=⟨inClass (top 46) 0,"Open.__init__",225,506,825,Yz⟩
def U0:FP:=⟨inClass (top 46) 1,"Open.told",229,513,834,Yz⟩
def VV:FP:=⟨top 51,"write_whole",235,523,854,vD⟩
def Vb:FP:=⟨top 52,"write_wholes",244,530,865,vD⟩
def Vn:FP:=⟨top 53,"write_box",246,535,871,vD⟩
def Ui:FP:=⟨top 54,"write_boxes",251,540,877,vD⟩
def Wk:FP:=⟨top 55,"write_pattern",253,545,883,vD⟩
def Vy:FP:=⟨top 56,"write_plan",260,552,891,vD⟩
def V3:FP:=⟨inClass (top 57) 0,"Reader.__init__",269,564,909,vD⟩
def Ti:FP:=⟨inClass (top 57) 1,"Reader.comes",275,571,917,vD⟩
def XJ:FP:=⟨inClass (top 57) 2,"Reader.passes",278,578,925,vD⟩
def Uy:FP:=⟨inClass (top 57) 3,"Reader.need",284,585,933,vD⟩
def WK:FP:=⟨inClass (top 57) 4,"Reader.at_end",288,592,941,vD⟩
def Vl:FP:=⟨inClass (top 57) 5,"Reader.need_end",291,599,948,vD⟩
def Su:FP:=⟨inClass (top 57) 6,"Reader.number",295,606,955,vD⟩
def Vw:FP:=⟨inClass (top 57) 7,"Reader.numbers",304,613,964,vD⟩
def Tw:FP:=⟨top 58,"read_row",310,627,982,vD⟩
def Ss:FP:=⟨top 59,"read_stand",314,634,991,vD⟩
def Ve:FP:=⟨top 60,"read_boxes",325,641,1001,vD⟩
def Sy:FP:=⟨top 61,"read_box",335,648,1010,vD⟩
def Vc:FP:=⟨top 62,"read_listed",340,655,1018,vD⟩
def TJ:FP:=⟨top 63,"read_groups",345,662,1026,vD⟩
def VP:FP:=⟨top 64,"read_sort",349,669,1034,vD⟩
def W2:FP:=⟨top 65,"read_pattern",356,676,1041,vD⟩
def Tg:FP:=⟨top 66,"read_number_of_box",364,683,1050,vD⟩
def Uq:FP:=⟨top 67,"read_plans",370,690,1058,vD⟩
def Rx:FP:=⟨top 68,"read_knot",375,697,1067,vD⟩
def V1:FP:=⟨top 69,"read_plan",389,704,1077,vD⟩
def S8:FP:=⟨top 71,"_law_cell_at",395,711,1088,Fi⟩
def WW:FP:=⟨top 72,"_law_mixed",399,718,1096,Fi⟩
def Ul:FP:=⟨top 73,"_law_plain",403,725,1105,Fi⟩
def TQ:FP:=⟨top 74,"_law_same",412,732,1113,Fi⟩
def VF:FP:=⟨top 75,"_law_row",414,739,1121,Fi⟩
def Wa:FP:=⟨top 76,"_law_box",423,746,1132,Fi⟩
def SJ:FP:=⟨top 77,"_law_plan",434,753,1148,Fi⟩
def Ux:FP:=⟨top 78,"_law_plan_written",443,758,1154,Fi⟩
def Vh:FP:=⟨top 79,"_law_sort",449,763,1160,Fi⟩
def V0:FP:=⟨top 80,"_law_sort_written",457,768,1166,Fi⟩
def SX:FP:=⟨top 81,"_law_numbers",463,775,1173,Fi⟩
def Vr:FP:=⟨top 82,"_law_written",465,780,1179,Fi⟩
def WD:FP:=⟨top 83,"_law_boxes_good",470,785,1185,Fi⟩
def VH:FP:=⟨top 84,"_law_good",483,790,1191,Fi⟩
def W8:FP:=⟨top 85,"law",498,795,1197,Fi⟩
def gT (P:Params):List DictEntry:=[E P "__doc__" 166 .none,E P "__package__" 167 .none,E P "__loader__" 168 (.builtin "__main__.__loader__#opaque"),E P "__spec__" 169 .none,E P "__annotations__" 170 (.ref 6),E P "__builtins__" 171 (.ref 4),E P "__file__" 173 (.str "/claim/cut.py" 172),E P "__cached__" 174 .none,E P "_wall" 193 (.ref 21),E P "LidError" 213 (.ref 31),E P "NoBox" 229 (.ref 44),E P "NoSets" 245 (.ref 56),E P "NoText" 261 (.ref 68),E P "is_whole" 272 (.ref 77),E P "common_divisor" 281 (.ref 84),E P "common_multiple" 290 (.ref 91),E P "share" 299 (.ref 98),E P "whole" 306 (.ref 105),E P "below" 314 (.ref 112),E P "lesser" 322 (.ref 119),E P "MOST_WORTH" 326 (.int 1000000000 325),E P "MOST_WEIGHT" 328 (.int 1000 327),E P "rising" 334 (.ref 124),E P "in_form" 340 (.ref 129),E P "all_weights" 346 (.ref 134),E P "capped" 352 (.ref 139),E P "mixed" 358 (.ref 144),E P "level_for" 364 (.ref 149),E P "MOST_PRICE" 368 (.int 1000000000 367),E P "MOST_STAGE_ROWS" 370 (.int 4 369),E P "MOST_STAGES" 372 (.int 4 371),E P "MOST_ENDS" 374 (.int 12 373),E P "MOST_BOXES" 376 (.int 6 375),E P "Stand" 439 (.ref 194),E P "End" 493 (.ref 243),E P "Stage" 561 (.ref 300),E P "is_stand" 568 (.ref 309),E P "is_stage_row" 575 (.ref 316),E P "is_stage_rows" 581 (.ref 321),E P "MOST_SETS" 585 (.int 64 584),E P "is_numbers" 591 (.ref 326),E P "Pattern" 611 (.ref 336),E P "Few" 651 (.ref 371),E P "Groups" 693 (.ref 404),E P "Listed" 733 (.ref 437),E P "Plan" 755 (.ref 449),E P "Stop" 778 (.ref 470),E P "Take" 812 (.ref 496),E P "Open" 845 (.ref 520),E P "FIGURES" 849 (.str "0123456789" 848),E P "MOST_FIGURES" 851 (.int 10 850),E P "MOST_KNOTS" 853 (.int 40 852),E P "write_whole" 864 (.ref 529),E P "write_wholes" 870 (.ref 534),E P "write_box" 876 (.ref 539),E P "write_boxes" 882 (.ref 544),E P "write_pattern" 890 (.ref 551),E P "write_plan" 896 (.ref 556),E P "Reader" 981 (.ref 622),E P "read_row" 990 (.ref 633),E P "read_stand" 1000 (.ref 640),E P "read_boxes" 1009 (.ref 647),E P "read_box" 1017 (.ref 654),E P "read_listed" 1025 (.ref 661),E P "read_groups" 1033 (.ref 668),E P "read_sort" 1040 (.ref 675),E P "read_pattern" 1049 (.ref 682),E P "read_number_of_box" 1057 (.ref 689),E P "read_plans" 1066 (.ref 696),E P "read_knot" 1076 (.ref 703),E P "read_plan" 1085 (.ref 710),E P "_law_cell_at" 1095 (.ref 717),E P "_law_mixed" 1104 (.ref 724),E P "_law_plain" 1112 (.ref 731),E P "_law_same" 1120 (.ref 738),E P "_law_row" 1131 (.ref 745),E P "_law_box" 1147 (.ref 752),E P "_law_plan" 1153 (.ref 757),E P "_law_plan_written" 1159 (.ref 762),E P "_law_sort" 1165 (.ref 767),E P "_law_sort_written" 1172 (.ref 774),E P "_law_numbers" 1178 (.ref 779),E P "_law_written" 1184 (.ref 784),E P "_law_boxes_good" 1190 (.ref 789),E P "_law_good" 1196 (.ref 794),E P "law" 1204 (.ref 801)]
def gD (P:Params)(m:Value)(n:Nat):Obj:=⟨(.type "dict"),none,(.dict (E P "__name__" 165 m::(gT P).take n).toArray (n+1)),#[]⟩
noncomputable def cT:List (Int×Nat):=[(1,20),(5,27),(7,40),(9,52),(11,64),(14,76),(16,83),(22,90),(27,97),(32,104),(34,111),(36,118),(41,123),(45,128),(53,133),(55,138),(57,143),(64,148),(81,155),(100,204),(119,251),(151,308),(153,315),(157,320),(163,325),(167,332),(169,346),(181,379),(196,412),(209,445),(211,459),(215,478),(223,504),(235,528),(244,533),(246,538),(251,543),(253,550),(260,555),(267,562),(310,632),(314,639),(325,646),(335,653),(340,660),(345,667),(349,674),(356,681),(364,688),(370,695),(375,702),(389,709),(395,716),(399,723),(403,730),(412,737),(414,744),(423,751),(434,756),(443,761),(449,766),(457,773),(463,778),(465,783),(470,788),(483,793),(498,800)]
noncomputable def cD (n:Nat):Obj:=⟨.none,none,(.fields ((cT.take n).flatMap fun x=>[.int x.1 0,.int 0 0,.ref x.2]).toArray),#[]⟩
noncomputable def s0 (x0:Str)(x1:Nat)(x3:Nat)(x5:Nat)(x6:Int)(x16:Nat)(x19:Nat)(x20:Int)(x25:Nat):Obj:=⟨(.type "code"),none,(.fields #[(.str x0 x1),(.str x0 x3),(.str "/claim/cut.py" x5),(.int x6 0),(.int 0 0),(.int 0 0),(.int 0 0),(.int 0 0),(.ref x16),(.bool false),(.int 181 0),(.ref x19),.none,.none,.none,.none,(.int x20 0),(.int x6 0),(.str "/claim/cut.py" x25)]),#[]⟩
noncomputable def s1 (x0:Nat)(x2:Nat)(x3:Str)(x4:Nat):Obj:=⟨(.type "frame"),none,.plain,#[(some (.ref x0)),(some (.ref 3)),(some (.ref x2)),none,(some (.str x3 x4)),none,(some (.ref 0))]⟩
noncomputable def s2  : Obj:=⟨(.type "builtin_function_or_method"),none,(.fields #[(.builtin "type.__prepare__"),(.type "type")]),#[]⟩
noncomputable def s3 (P:Params)(x1:Nat)(x2:Str)(x3:Nat)(x5:Nat)(x6:Str)(x7:Nat)(x9:Nat)(x10:Int)(x11:Nat)(x13:Nat)(x14:Nat):Obj:=⟨(.type "dict"),none,(.dict #[E P "__module__" x1 (.str x2 x3),E P "__qualname__" x5 (.str x6 x7),E P "__firstlineno__" x9 (.int x10 x11),E P "__static_attributes__" x13 (.ref x14)] 4),#[]⟩
def s4 (x1:Nat)(x2:Nat):Obj:=⟨(.type "getset_descriptor"),none,(.fields #[(.str "__weakref__" x1),(.ref x2),(.builtin "ExceptionGroup.__weakref__"),.none]),#[]⟩
noncomputable def s5 (x0:Nat):Obj:=⟨(.type "super"),none,(.fields #[(.ref x0),(.ref x0),(.ref x0)]),#[]⟩
noncomputable def s6 (x0:Nat):Obj:=⟨(.type "builtin_function_or_method"),none,(.fields #[(.builtin "object.__init_subclass__"),(.ref x0)]),#[]⟩
noncomputable def s7 (x0:Nat):Obj:=⟨(.type "tuple"),none,(.seq #[(.ref x0)] 0),#[]⟩
def s8 (x1:Nat)(x2:Nat):Obj:=⟨(.type "getset_descriptor"),none,(.fields #[(.str "__dict__" x1),(.ref x2),(.builtin "function.__dict__"),(.builtin "function.__dict__#set")]),#[]⟩
def s9 (x0:Str)(x1:Nat)(x2:Nat)(x4:Nat)(x6:Nat)(x8:Nat)(x10:Nat):Obj:=⟨(.type "type"),none,(.cls ⟨x0,[(.ref x1)],[(.ref x2),(.ref x1),(.type "object")],x4,x0,true,[],[],false,none,false⟩),#[(some (.ref x6)),none,(some (.str x0 x8)),(some (.str x0 x10)),(some (.builtin "object.__new__")),(some (.bool true))]⟩
noncomputable def Xw (x0:Str)(x1:Nat)(x2:Str)(x3:Nat):Obj:=⟨(.type "tuple"),none,(.seq #[(.str x0 x1),(.str x2 x3)] 0),#[]⟩
def Zf (P:Params)(x1:Nat)(x2:Str)(x3:Nat)(x5:Nat)(x6:Int)(x7:Nat)(x8:Str)(x9:Nat)(x10:Nat)(x11:Str)(x12:Nat)(x13:Nat)(x14:Str)(x15:Nat)(x16:Nat)(x18:Nat)(x19:Nat):Obj:=⟨(.type "dict"),none,(.dict #[E P "__module__" x1 (.str x2 x3),E P "__firstlineno__" x5 (.int x6 x7),E P x8 x9 (.ref x10),E P x11 x12 (.ref x13),E P x14 x15 (.ref x16),E P "__doc__" x18 .none] x19),#[]⟩
noncomputable def o13:OO:=fun _=>s0 "<module>" 182 183 184 1 11 12 185 186
noncomputable def o22:OO:=fun _=>⟨(.type "tuple"),none,(.seq #[(.type "ValueError")] 0),#[]⟩
noncomputable def o24:OO:=fun P=>s3 P 203 "lidprice.errors" 194 205 "LidError" 204 207 5 206 208 29
noncomputable def o27:OO:=fun _=>s0 "LidError" 198 199 200 5 25 26 201 202
def o30:OO:=fun P=>⟨(.type "dict"),none,(.dict #[E P "__module__" 203 (.str "lidprice.errors" 194),E P "__firstlineno__" 207 (.int 5 206),E P "__static_attributes__" 208 (.ref 29),E P "__weakref__" 210 (.ref 32),E P "__doc__" 211 .none] 3),#[]⟩
noncomputable def o31:OO:=fun _=>⟨(.type "type"),none,(.cls ⟨"LidError",[(.type "ValueError")],[(.ref 31),(.type "ValueError"),(.type "Exception"),(.type "BaseException"),(.type "object")],30,"LidError",true,[],[(.ref 44)],false,none,false⟩),#[(some (.ref 22)),none,(some (.str "LidError" 196)),(some (.str "LidError" 204)),(some (.builtin "ValueError.__new__")),(some (.bool true))]⟩
noncomputable def o37:OO:=fun P=>s3 P 221 "lidprice.errors" 194 223 "NoBox" 222 225 7 224 226 42
noncomputable def o40:OO:=fun _=>s0 "NoBox" 216 217 218 7 38 39 219 220
def o43:OO:=fun P=>⟨(.type "dict"),none,(.dict #[E P "__module__" 221 (.str "lidprice.errors" 194),E P "__firstlineno__" 225 (.int 7 224),E P "__static_attributes__" 226 (.ref 42),E P "__doc__" 227 .none] 2),#[]⟩
def o44:OO:=fun _=>⟨(.type "type"),none,(.cls ⟨"NoBox",[(.ref 31)],[(.ref 44),(.ref 31),(.type "ValueError"),(.type "Exception"),(.type "BaseException"),(.type "object")],43,"NoBox",true,[],[],false,none,false⟩),#[(some (.ref 35)),none,(some (.str "NoBox" 214)),(some (.str "NoBox" 222)),(some (.builtin "ValueError.__new__")),(some (.bool true))]⟩
def RP:OO:=fun _=>⟨(.type "type"),none,(.cls ⟨"LidError",[(.type "ValueError")],[(.ref 31),(.type "ValueError"),(.type "Exception"),(.type "BaseException"),(.type "object")],30,"LidError",true,[],[(.ref 44),(.ref 56),(.ref 68)],false,none,false⟩),#[(some (.ref 22)),none,(some (.str "LidError" 196)),(some (.str "LidError" 204)),(some (.builtin "ValueError.__new__")),(some (.bool true))]⟩
noncomputable def o49:OO:=fun P=>s3 P 237 "lidprice.errors" 194 239 "NoSets" 238 241 9 240 242 54
noncomputable def o52:OO:=fun _=>s0 "NoSets" 232 233 234 9 50 51 235 236
def o55:OO:=fun P=>⟨(.type "dict"),none,(.dict #[E P "__module__" 237 (.str "lidprice.errors" 194),E P "__firstlineno__" 241 (.int 9 240),E P "__static_attributes__" 242 (.ref 54),E P "__doc__" 243 .none] 2),#[]⟩
def o56:OO:=fun _=>⟨(.type "type"),none,(.cls ⟨"NoSets",[(.ref 31)],[(.ref 56),(.ref 31),(.type "ValueError"),(.type "Exception"),(.type "BaseException"),(.type "object")],55,"NoSets",true,[],[],false,none,false⟩),#[(some (.ref 47)),none,(some (.str "NoSets" 230)),(some (.str "NoSets" 238)),(some (.builtin "ValueError.__new__")),(some (.bool true))]⟩
noncomputable def o61:OO:=fun P=>s3 P 253 "lidprice.errors" 194 255 "NoText" 254 257 11 256 258 66
noncomputable def o64:OO:=fun _=>s0 "NoText" 248 249 250 11 62 63 251 252
def o67:OO:=fun P=>⟨(.type "dict"),none,(.dict #[E P "__module__" 253 (.str "lidprice.errors" 194),E P "__firstlineno__" 257 (.int 11 256),E P "__static_attributes__" 258 (.ref 66),E P "__doc__" 259 .none] 2),#[]⟩
def o68:OO:=fun _=>⟨(.type "type"),none,(.cls ⟨"NoText",[(.ref 31)],[(.ref 68),(.ref 31),(.type "ValueError"),(.type "Exception"),(.type "BaseException"),(.type "object")],67,"NoText",true,[],[],false,none,false⟩),#[(some (.ref 59)),none,(some (.str "NoText" 246)),(some (.str "NoText" 254)),(some (.builtin "ValueError.__new__")),(some (.bool true))]⟩
noncomputable def aAw:OO:=fun P=>⟨(.type "dict"),none,(.dict #[E P "__module__" 384 (.str "lidprice.stands" 365),E P "__qualname__" 386 (.str "Stand" 385),E P "__firstlineno__" 388 (.int 81 387),E P "__init__" 399 (.ref 163),E P "ends" 406 (.ref 170),E P "stages" 413 (.ref 177),E P "reserve" 420 (.ref 184),E P "caps" 427 (.ref 191),E P "__static_attributes__" 432 (.ref 192)] 9),#[]⟩
noncomputable def aAe:OO:=fun _=>⟨.none,none,(.fields #[(.int 83 0),(.int 4 0),(.ref 162),(.int 89 0),(.int 4 0),(.ref 169),(.int 92 0),(.int 4 0),(.ref 176),(.int 95 0),(.int 4 0),(.ref 183),(.int 98 0),(.int 4 0),(.ref 190)]),#[]⟩
noncomputable def aBt:OO:=fun _=>s0 "Stand" 379 380 381 81 153 154 382 383
noncomputable def aBO:OO:=fun _=>⟨(.type "tuple"),none,(.seq #[(.str "cap_rows" 428),(.str "end_count" 429),(.str "level" 430),(.str "stage_count" 431)] 0),#[]⟩
def YW:OO:=fun P=>⟨(.type "dict"),none,(.dict #[E P "__module__" 384 (.str "lidprice.stands" 365),E P "__firstlineno__" 388 (.int 81 387),E P "__init__" 399 (.ref 163),E P "ends" 406 (.ref 170),E P "stages" 413 (.ref 177),E P "reserve" 420 (.ref 184),E P "caps" 427 (.ref 191),E P "__static_attributes__" 432 (.ref 192),E P "__dict__" 434 (.ref 195),E P "__weakref__" 436 (.ref 196),E P "__doc__" 437 .none] 4),#[]⟩
noncomputable def aBw:OO:=fun _=>⟨(.type "type"),none,(.cls ⟨"Stand",[(.type "object")],[(.ref 194),(.type "object")],193,"Stand",true,[],[],false,none,false⟩),#[none,none,(some (.str "Stand" 377)),(some (.str "Stand" 385)),(some (.builtin "object.__new__")),(some (.bool true))]⟩
noncomputable def W6:OO:=fun _=>⟨(.type "type"),none,(.cls ⟨"Stand",[(.type "object")],[(.ref 194),(.type "object")],193,"Stand",true,[],[(.ref 243)],false,none,false⟩),#[none,none,(some (.str "Stand" 377)),(some (.str "Stand" 385)),(some (.builtin "object.__new__")),(some (.bool true))]⟩
noncomputable def aBg:OO:=fun P=>⟨(.type "dict"),none,(.dict #[E P "__module__" 447 (.str "lidprice.stands" 365),E P "__qualname__" 449 (.str "End" 448),E P "__firstlineno__" 451 (.int 100 450),E P "__init__" 459 (.ref 212),E P "is_end" 466 (.ref 219),E P "ways" 473 (.ref 226),E P "beside" 481 (.ref 233),E P "told" 488 (.ref 240),E P "__static_attributes__" 490 (.ref 241)] 9),#[]⟩
noncomputable def aAY:OO:=fun _=>⟨.none,none,(.fields #[(.int 102 0),(.int 4 0),(.ref 211),(.int 108 0),(.int 4 0),(.ref 218),(.int 111 0),(.int 4 0),(.ref 225),(.int 114 0),(.int 4 0),(.ref 232),(.int 117 0),(.int 4 0),(.ref 239)]),#[]⟩
noncomputable def aBA:OO:=fun _=>s0 "End" 442 443 444 100 202 203 445 446
noncomputable def aAp:OO:=fun _=>⟨(.type "tuple"),none,(.seq #[(.str "worth" 489)] 0),#[]⟩
def Xu:OO:=fun P=>⟨(.type "dict"),none,(.dict #[E P "__module__" 447 (.str "lidprice.stands" 365),E P "__firstlineno__" 451 (.int 100 450),E P "__init__" 459 (.ref 212),E P "is_end" 466 (.ref 219),E P "ways" 473 (.ref 226),E P "beside" 481 (.ref 233),E P "told" 488 (.ref 240),E P "__static_attributes__" 490 (.ref 241),E P "__doc__" 491 .none] 2),#[]⟩
def Lf:OO:=fun _=>⟨(.type "type"),none,(.cls ⟨"Stand",[(.type "object")],[(.ref 194),(.type "object")],193,"Stand",true,[],[(.ref 243),(.ref 300)],false,none,false⟩),#[none,none,(some (.str "Stand" 377)),(some (.str "Stand" 385)),(some (.builtin "object.__new__")),(some (.bool true))]⟩
noncomputable def aBj:OO:=fun P=>⟨(.type "dict"),none,(.dict #[E P "__module__" 501 (.str "lidprice.stands" 365),E P "__qualname__" 503 (.str "Stage" 502),E P "__firstlineno__" 505 (.int 119 504),E P "__init__" 511 (.ref 257),E P "is_end" 518 (.ref 264),E P "row_share" 526 (.ref 271),E P "after" 534 (.ref 278),E P "ways" 541 (.ref 285),E P "beside" 549 (.ref 292),E P "told" 555 (.ref 297),E P "__static_attributes__" 558 (.ref 298)] 11),#[]⟩
noncomputable def aAo:OO:=fun _=>⟨.none,none,(.fields #[(.int 121 0),(.int 4 0),(.ref 256),(.int 134 0),(.int 4 0),(.ref 263),(.int 137 0),(.int 4 0),(.ref 270),(.int 140 0),(.int 4 0),(.ref 277),(.int 143 0),(.int 4 0),(.ref 284),(.int 146 0),(.int 4 0),(.ref 291),(.int 149 0),(.int 4 0),(.ref 296)]),#[]⟩
noncomputable def aBD:OO:=fun _=>s0 "Stage" 496 497 498 119 249 250 499 500
def YS:OO:=fun P=>⟨(.type "dict"),none,(.dict #[E P "__module__" 501 (.str "lidprice.stands" 365),E P "__firstlineno__" 505 (.int 119 504),E P "__init__" 511 (.ref 257),E P "is_end" 518 (.ref 264),E P "row_share" 526 (.ref 271),E P "after" 534 (.ref 278),E P "ways" 541 (.ref 285),E P "beside" 549 (.ref 292),E P "told" 555 (.ref 297),E P "__static_attributes__" 558 (.ref 298),E P "__doc__" 559 .none] 2),#[]⟩
noncomputable def aAL:OO:=fun P=>s3 P 599 "lidprice.patterns" 582 601 "Pattern" 600 603 167 602 604 334
noncomputable def aBC:OO:=fun _=>s0 "Pattern" 594 595 596 167 330 331 597 598
def Yv:OO:=fun P=>Zf P 599 "lidprice.patterns" 582 603 167 602 "__static_attributes__" 604 334 "__dict__" 606 337 "__weakref__" 608 338 609 4
noncomputable def aAW:OO:=fun _=>⟨(.type "type"),none,(.cls ⟨"Pattern",[(.type "object")],[(.ref 336),(.type "object")],335,"Pattern",true,[],[],false,none,false⟩),#[none,none,(some (.str "Pattern" 592)),(some (.str "Pattern" 600)),(some (.builtin "object.__new__")),(some (.bool true))]⟩
noncomputable def Wv:OO:=fun _=>⟨(.type "type"),none,(.cls ⟨"Pattern",[(.type "object")],[(.ref 336),(.type "object")],335,"Pattern",true,[],[(.ref 371)],false,none,false⟩),#[none,none,(some (.str "Pattern" 592)),(some (.str "Pattern" 600)),(some (.builtin "object.__new__")),(some (.bool true))]⟩
noncomputable def aBc:OO:=fun P=>⟨(.type "dict"),none,(.dict #[E P "__module__" 619 (.str "lidprice.patterns" 582),E P "__qualname__" 621 (.str "Few" 620),E P "__firstlineno__" 623 (.int 169 622),E P "__init__" 631 (.ref 354),E P "may" 639 (.ref 361),E P "told" 646 (.ref 368),E P "__static_attributes__" 648 (.ref 369)] 7),#[]⟩
noncomputable def aA6:OO:=fun _=>⟨.none,none,(.fields #[(.int 171 0),(.int 4 0),(.ref 353),(.int 176 0),(.int 4 0),(.ref 360),(.int 179 0),(.int 4 0),(.ref 367)]),#[]⟩
noncomputable def aBi:OO:=fun _=>s0 "Few" 614 615 616 169 344 345 617 618
noncomputable def aAf:OO:=fun _=>⟨(.type "tuple"),none,(.seq #[(.str "limit" 647)] 0),#[]⟩
def Z7:OO:=fun P=>⟨(.type "dict"),none,(.dict #[E P "__module__" 619 (.str "lidprice.patterns" 582),E P "__firstlineno__" 623 (.int 169 622),E P "__init__" 631 (.ref 354),E P "may" 639 (.ref 361),E P "told" 646 (.ref 368),E P "__static_attributes__" 648 (.ref 369),E P "__doc__" 649 .none] 2),#[]⟩
noncomputable def We:OO:=fun _=>⟨(.type "type"),none,(.cls ⟨"Pattern",[(.type "object")],[(.ref 336),(.type "object")],335,"Pattern",true,[],[(.ref 371),(.ref 404)],false,none,false⟩),#[none,none,(some (.str "Pattern" 592)),(some (.str "Pattern" 600)),(some (.builtin "object.__new__")),(some (.bool true))]⟩
noncomputable def aAz:OO:=fun P=>⟨(.type "dict"),none,(.dict #[E P "__module__" 659 (.str "lidprice.patterns" 582),E P "__qualname__" 661 (.str "Groups" 660),E P "__firstlineno__" 663 (.int 181 662),E P "__init__" 672 (.ref 387),E P "may" 680 (.ref 394),E P "told" 687 (.ref 401),E P "__static_attributes__" 690 (.ref 402)] 7),#[]⟩
noncomputable def aAH:OO:=fun _=>⟨.none,none,(.fields #[(.int 183 0),(.int 4 0),(.ref 386),(.int 191 0),(.int 4 0),(.ref 393),(.int 194 0),(.int 4 0),(.ref 400)]),#[]⟩
noncomputable def aBk:OO:=fun _=>s0 "Groups" 654 655 656 181 377 378 657 658
def YH:OO:=fun P=>⟨(.type "dict"),none,(.dict #[E P "__module__" 659 (.str "lidprice.patterns" 582),E P "__firstlineno__" 663 (.int 181 662),E P "__init__" 672 (.ref 387),E P "may" 680 (.ref 394),E P "told" 687 (.ref 401),E P "__static_attributes__" 690 (.ref 402),E P "__doc__" 691 .none] 2),#[]⟩
def Kf:OO:=fun _=>⟨(.type "type"),none,(.cls ⟨"Pattern",[(.type "object")],[(.ref 336),(.type "object")],335,"Pattern",true,[],[(.ref 371),(.ref 404),(.ref 437)],false,none,false⟩),#[none,none,(some (.str "Pattern" 592)),(some (.str "Pattern" 600)),(some (.builtin "object.__new__")),(some (.bool true))]⟩
noncomputable def aBe:OO:=fun P=>⟨(.type "dict"),none,(.dict #[E P "__module__" 701 (.str "lidprice.patterns" 582),E P "__qualname__" 703 (.str "Listed" 702),E P "__firstlineno__" 705 (.int 196 704),E P "__init__" 713 (.ref 420),E P "may" 721 (.ref 427),E P "told" 728 (.ref 434),E P "__static_attributes__" 730 (.ref 435)] 7),#[]⟩
noncomputable def aBI:OO:=fun _=>⟨.none,none,(.fields #[(.int 198 0),(.int 4 0),(.ref 419),(.int 203 0),(.int 4 0),(.ref 426),(.int 206 0),(.int 4 0),(.ref 433)]),#[]⟩
noncomputable def aBz:OO:=fun _=>s0 "Listed" 696 697 698 196 410 411 699 700
noncomputable def aAE:OO:=fun _=>⟨(.type "tuple"),none,(.seq #[(.str "sets" 729)] 0),#[]⟩
def Z3:OO:=fun P=>⟨(.type "dict"),none,(.dict #[E P "__module__" 701 (.str "lidprice.patterns" 582),E P "__firstlineno__" 705 (.int 196 704),E P "__init__" 713 (.ref 420),E P "may" 721 (.ref 427),E P "told" 728 (.ref 434),E P "__static_attributes__" 730 (.ref 435),E P "__doc__" 731 .none] 2),#[]⟩
noncomputable def aA7:OO:=fun P=>s3 P 743 "lidprice.plans" 734 745 "Plan" 744 747 209 746 748 447
noncomputable def aBG:OO:=fun _=>s0 "Plan" 738 739 740 209 443 444 741 742
def Z2:OO:=fun P=>Zf P 743 "lidprice.plans" 734 747 209 746 "__static_attributes__" 748 447 "__dict__" 750 450 "__weakref__" 752 451 753 4
noncomputable def aA5:OO:=fun _=>⟨(.type "type"),none,(.cls ⟨"Plan",[(.type "object")],[(.ref 449),(.type "object")],448,"Plan",true,[],[(.ref 470)],false,none,false⟩),#[none,none,(some (.str "Plan" 736)),(some (.str "Plan" 744)),(some (.builtin "object.__new__")),(some (.bool true))]⟩
noncomputable def aAu:OO:=fun P=>⟨(.type "dict"),none,(.dict #[E P "__module__" 763 (.str "lidprice.plans" 734),E P "__qualname__" 765 (.str "Stop" 764),E P "__firstlineno__" 767 (.int 211 766),E P "told" 774 (.ref 467),E P "__static_attributes__" 775 (.ref 468)] 5),#[]⟩
noncomputable def aBy:OO:=fun _=>⟨.none,none,(.fields #[(.int 213 0),(.int 4 0),(.ref 466)]),#[]⟩
noncomputable def aAF:OO:=fun _=>s0 "Stop" 758 759 760 211 457 458 761 762
def Yd:OO:=fun P=>⟨(.type "dict"),none,(.dict #[E P "__module__" 763 (.str "lidprice.plans" 734),E P "__firstlineno__" 767 (.int 211 766),E P "told" 774 (.ref 467),E P "__static_attributes__" 775 (.ref 468),E P "__doc__" 776 .none] 2),#[]⟩
noncomputable def Wy:OO:=fun _=>⟨(.type "type"),none,(.cls ⟨"Plan",[(.type "object")],[(.ref 449),(.type "object")],448,"Plan",true,[],[(.ref 470),(.ref 496)],false,none,false⟩),#[none,none,(some (.str "Plan" 736)),(some (.str "Plan" 744)),(some (.builtin "object.__new__")),(some (.bool true))]⟩
noncomputable def aAR:OO:=fun P=>⟨(.type "dict"),none,(.dict #[E P "__module__" 786 (.str "lidprice.plans" 734),E P "__qualname__" 788 (.str "Take" 787),E P "__firstlineno__" 790 (.int 215 789),E P "__init__" 799 (.ref 486),E P "told" 806 (.ref 493),E P "__static_attributes__" 809 (.ref 494)] 6),#[]⟩
noncomputable def aBn:OO:=fun _=>⟨.none,none,(.fields #[(.int 217 0),(.int 4 0),(.ref 485),(.int 221 0),(.int 4 0),(.ref 492)]),#[]⟩
noncomputable def aAd:OO:=fun _=>s0 "Take" 781 782 783 215 476 477 784 785
def Yu:OO:=fun P=>Zf P 786 "lidprice.plans" 734 790 215 789 "__init__" 799 486 "told" 806 493 "__static_attributes__" 809 494 810 2
def M7:OO:=fun _=>⟨(.type "type"),none,(.cls ⟨"Plan",[(.type "object")],[(.ref 449),(.type "object")],448,"Plan",true,[],[(.ref 470),(.ref 496),(.ref 520)],false,none,false⟩),#[none,none,(some (.str "Plan" 736)),(some (.str "Plan" 744)),(some (.builtin "object.__new__")),(some (.bool true))]⟩
noncomputable def aAQ:OO:=fun P=>⟨(.type "dict"),none,(.dict #[E P "__module__" 820 (.str "lidprice.plans" 734),E P "__qualname__" 822 (.str "Open" 821),E P "__firstlineno__" 824 (.int 223 823),E P "__init__" 833 (.ref 512),E P "told" 839 (.ref 517),E P "__static_attributes__" 842 (.ref 518)] 6),#[]⟩
noncomputable def aBE:OO:=fun _=>⟨.none,none,(.fields #[(.int 225 0),(.int 4 0),(.ref 511),(.int 229 0),(.int 4 0),(.ref 516)]),#[]⟩
noncomputable def aAS:OO:=fun _=>s0 "Open" 815 816 817 223 502 503 818 819
def Yc:OO:=fun P=>Zf P 820 "lidprice.plans" 734 824 223 823 "__init__" 833 512 "told" 839 517 "__static_attributes__" 842 518 843 2
noncomputable def aAT:OO:=fun P=>⟨(.type "dict"),none,(.dict #[E P "__module__" 904 (.str "lidprice.texts" 846),E P "__qualname__" 906 (.str "Reader" 905),E P "__firstlineno__" 908 (.int 267 907),E P "__init__" 916 (.ref 570),E P "comes" 924 (.ref 577),E P "passes" 932 (.ref 584),E P "need" 940 (.ref 591),E P "at_end" 947 (.ref 598),E P "need_end" 954 (.ref 605),E P "number" 963 (.ref 612),E P "numbers" 971 (.ref 619),E P "__static_attributes__" 974 (.ref 620)] 12),#[]⟩
noncomputable def aAV:OO:=fun _=>⟨.none,none,(.fields #[(.int 269 0),(.int 4 0),(.ref 569),(.int 275 0),(.int 4 0),(.ref 576),(.int 278 0),(.int 4 0),(.ref 583),(.int 284 0),(.int 4 0),(.ref 590),(.int 288 0),(.int 4 0),(.ref 597),(.int 291 0),(.int 4 0),(.ref 604),(.int 295 0),(.int 4 0),(.ref 611),(.int 304 0),(.int 4 0),(.ref 618)]),#[]⟩
noncomputable def aBK:OO:=fun _=>s0 "Reader" 899 900 901 267 560 561 902 903
def ZC:OO:=fun P=>⟨(.type "dict"),none,(.dict #[E P "__module__" 904 (.str "lidprice.texts" 846),E P "__firstlineno__" 908 (.int 267 907),E P "__init__" 916 (.ref 570),E P "comes" 924 (.ref 577),E P "passes" 932 (.ref 584),E P "need" 940 (.ref 591),E P "at_end" 947 (.ref 598),E P "need_end" 954 (.ref 605),E P "number" 963 (.ref 612),E P "numbers" 971 (.ref 619),E P "__static_attributes__" 974 (.ref 620),E P "__dict__" 976 (.ref 623),E P "__weakref__" 978 (.ref 624),E P "__doc__" 979 .none] 4),#[]⟩
def Yj:OO:=fun _=>⟨(.type "type"),none,(.cls ⟨"Reader",[(.type "object")],[(.ref 622),(.type "object")],621,"Reader",true,[],[],false,none,false⟩),#[none,none,(some (.str "Reader" 897)),(some (.str "Reader" 905)),(some (.builtin "object.__new__")),(some (.bool true))]⟩
noncomputable def l0 (P:Params):List Obj:=W.boot_o_0 P::W.boot_o_1 P::W.boot_o_2 P::W.boot_o_3 P::W.boot_o_4 P::W.boot_o_5 P::W.boot_o_6 P::W.boot_o_7 P::W.boot_o_8 P::W.boot_o_9 P::W.boot_o_10 P::qN::Qg::o13 P::s1 13 3 "__main__" 164::[]
noncomputable def t0 (P:Params):W.BT:=L2.bt 14 (l0 P)
noncomputable def l1 (P:Params):List Obj:=L2.sets (l0 P) [(3,gD P (.str "lidprice.errors" 194) 11),(12,cD 3)]++(fL p15 (o22 P::s2::o24 P::qN::Qg::o27 P::s1 27 24 "lidprice.errors" 194::qN::o30 P::o31 P::s4 209 31::s5 31::s6 31::s7 31::s2::o37 P::qN::Qg::o40 P::s1 40 37 "lidprice.errors" 194::qN::o43 P::o44 P::s5 44::s6 44::[]))
noncomputable def t1 (P:Params):W.BT:=L2.bt 14 (l1 P)
noncomputable def l2 (P:Params):List Obj:=L2.sets (l1 P) [(3,gD P (.str "lidprice.errors" 194) 13),(12,cD 5),(31,RP P)]++(s7 31::s2::o49 P::qN::Qg::o52 P::s1 52 49 "lidprice.errors" 194::qN::o55 P::o56 P::s5 56::s6 56::s7 31::s2::o61 P::qN::Qg::o64 P::s1 64 61 "lidprice.errors" 194::qN::o67 P::o68 P::s5 68::s6 68::[])
noncomputable def t2 (P:Params):W.BT:=L2.bt 14 (l2 P)
noncomputable def l3 (P:Params):List Obj:=L2.sets (l2 P) [(3,gD P (.str "lidprice.tables" 323) 23),(12,cD 13)]++(fL p71 (fL p78 (fL p85 (fL p92 (fL p99 (fL Uj (fL W5 (fM W7 ([])))))))))
noncomputable def t3 (P:Params):W.BT:=L2.bt 14 (l3 P)
noncomputable def l4 (P:Params):List Obj:=L2.sets (l3 P) [(3,gD P (.str "lidprice.stands" 365) 34),(12,cD 19)]++(fM Wc (fM V8 (fM Wo (fM WM (fM Ug (qN::s2::aAw P::qN::aAe P::aBt P::s1 155 152 "lidprice.stands" 365::fL W4 (fL Th (fL Sq (fL VM (fL UV (aBO P::YW P::aBw P::s8 433 194::s4 435 194::s5 194::s6 194::[])))))))))))
noncomputable def t4 (P:Params):W.BT:=L2.bt 14 (l4 P)
noncomputable def l5 (P:Params):List Obj:=L2.sets (l4 P) [(3,gD P (.str "lidprice.stands" 365) 35),(12,cD 20),(194,W6 P)]++(s7 194::s2::aBg P::qN::aAY P::aBA P::s1 204 201 "lidprice.stands" 365::fL WX (fL Uw (fL Um (fL VD (fL Uz (aAp P::Xu P::s9 "End" 194 243 242 199 440 448::s5 243::s6 243::[]))))))
noncomputable def t5 (P:Params):W.BT:=L2.bt 14 (l5 P)
noncomputable def l6 (P:Params):List Obj:=L2.sets (l5 P) [(3,gD P (.str "lidprice.stands" 365) 36),(12,cD 21),(194,Lf P)]++(s7 194::s2::aBj P::qN::aAo P::aBD P::s1 251 248 "lidprice.stands" 365::fM V9 (fL Vs (fL Vo (fL U3 (fL U6 (fL Wh (fM Sg (Xw "price" 556 "rows" 557::YS P::s9 "Stage" 194 300 299 246 494 502::s5 300::s6 300::[]))))))))
noncomputable def t6 (P:Params):W.BT:=L2.bt 14 (l6 P)
noncomputable def l7 (P:Params):List Obj:=L2.sets (l6 P) [(3,gD P (.str "lidprice.patterns" 582) 42),(12,cD 26)]++(fL Te (fL XD (fM Wz (fM WN (qN::s2::aAL P::qN::Qg::aBC P::s1 332 329 "lidprice.patterns" 582::qN::Yv P::aAW P::s8 605 336::s4 607 336::s5 336::s6 336::[])))))
noncomputable def t7 (P:Params):W.BT:=L2.bt 14 (l7 P)
noncomputable def l8 (P:Params):List Obj:=L2.sets (l7 P) [(3,gD P (.str "lidprice.patterns" 582) 43),(12,cD 27),(336,Wv P)]++(s7 336::s2::aBc P::qN::aA6 P::aBi P::s1 346 343 "lidprice.patterns" 582::fL Sh (fL S5 (fL Tj (aAf P::Z7 P::s9 "Few" 336 371 370 341 612 620::s5 371::s6 371::[]))))
noncomputable def t8 (P:Params):W.BT:=L2.bt 14 (l8 P)
noncomputable def l9 (P:Params):List Obj:=L2.sets (l8 P) [(3,gD P (.str "lidprice.patterns" 582) 44),(12,cD 28),(336,We P)]++(s7 336::s2::aAz P::qN::aAH P::aBk P::s1 379 376 "lidprice.patterns" 582::fL UT (fL Ru (fL WR (Xw "groups" 688 "most" 689::YH P::s9 "Groups" 336 404 403 374 652 660::s5 404::s6 404::[]))))
noncomputable def t9 (P:Params):W.BT:=L2.bt 14 (l9 P)
noncomputable def l10 (P:Params):List Obj:=L2.sets (l9 P) [(3,gD P (.str "lidprice.patterns" 582) 45),(12,cD 29),(336,Kf P)]++(s7 336::s2::aBe P::qN::aBI P::aBz P::s1 412 409 "lidprice.patterns" 582::fL W9 (fL SN (fL W3 (aAE P::Z3 P::s9 "Listed" 336 437 436 407 694 702::s5 437::s6 437::[]))))
noncomputable def t10 (P:Params):W.BT:=L2.bt 14 (l10 P)
noncomputable def l11 (P:Params):List Obj:=L2.sets (l10 P) [(3,gD P (.str "lidprice.plans" 734) 47),(12,cD 31)]++(qN::s2::aA7 P::qN::Qg::aBG P::s1 445 442 "lidprice.plans" 734::qN::Z2 P::aA5 P::s8 749 449::s4 751 449::s5 449::s6 449::s7 449::s2::aAu P::qN::aBy P::aAF P::s1 459 456 "lidprice.plans" 734::fL Wn (qN::Yd P::s9 "Stop" 449 470 469 454 756 764::s5 470::s6 470::[]))
noncomputable def t11 (P:Params):W.BT:=L2.bt 14 (l11 P)
noncomputable def Zz (P:Params):List Obj:=L2.sets (l11 P) [(3,gD P (.str "lidprice.plans" 734) 48),(12,cD 32),(449,Wy P)]++(s7 449::s2::aAR P::qN::aBn P::aAd P::s1 478 475 "lidprice.plans" 734::fL Vx (fL Rz (Xw "box" 807 "then" 808::Yu P::s9 "Take" 449 496 495 473 779 787::s5 496::s6 496::[])))
noncomputable def t12 (P:Params):W.BT:=L2.bt 14 (Zz P)
noncomputable def l13 (P:Params):List Obj:=L2.sets (Zz P) [(3,gD P (.str "lidprice.plans" 734) 49),(12,cD 33),(449,M7 P)]++(s7 449::s2::aAQ P::qN::aBE P::aAS P::s1 504 501 "lidprice.plans" 734::fL Wm (fM U0 (Xw "box" 840 "plans" 841::Yc P::s9 "Open" 449 520 519 499 813 821::s5 520::s6 520::[])))
noncomputable def t13 (P:Params):W.BT:=L2.bt 14 (l13 P)
noncomputable def l14 (P:Params):List Obj:=L2.sets (l13 P) [(3,gD P (.str "lidprice.texts" 846) 59),(12,cD 40)]++(fL VV (fM Vb (fM Vn (fM Ui (fL Wk (fM Vy (qN::s2::aAT P::qN::aAV P::aBK P::s1 562 559 "lidprice.texts" 846::fL V3 (fL Ti (fL XJ (fL Uy (fL WK (fL Vl (fL Su (fL Vw (Xw "place" 972 "text" 973::ZC P::Yj P::s8 975 622::s4 977 622::s5 622::s6 622::[])))))))))))))))
noncomputable def t14 (P:Params):W.BT:=L2.bt 14 (l14 P)
noncomputable def l15 (P:Params):List Obj:=L2.sets (l14 P) [(3,gD P (.str "lidprice.texts" 846) 68),(12,cD 49)]++(fL Tw (fL Ss (fL Ve (fL Sy (fL Vc (fL TJ (fL VP (fL W2 (fL Tg ([]))))))))))
noncomputable def t15 (P:Params):W.BT:=L2.bt 14 (l15 P)
noncomputable def l16 (P:Params):List Obj:=L2.sets (l15 P) [(3,gD P (.str "law_lidprice_k86_whole_written_and_read" 1086) 76),(12,cD 57)]++(fL Uq (fL Rx (fL V1 (fL S8 (fL WW (fL Ul (fL TQ (fL VF ([])))))))))
noncomputable def t16 (P:Params):W.BT:=L2.bt 14 (l16 P)
noncomputable def l17 (P:Params):List Obj:=L2.sets (l16 P) [(3,gD P (.str "law_lidprice_k86_whole_written_and_read" 1086) 86),(12,cD 67)]++(fL Wa (fM SJ (fM Ux (fM Vh (fL V0 (fM SX (fM Vr (fM WD (fM VH (fL W8 ([])))))))))))
noncomputable def t17 (P:Params):W.BT:=L2.bt 14 (l17 P)
noncomputable abbrev zp:Program:=PySem.Challenge.pw_lidprice_k86_whole_written_and_read
noncomputable def JW:Env:={ scope:=zp.main.scope,locals:=mainNs,globals:=mainNs,cells:=[],code:=(.ref 13),frame:=some 14 }
noncomputable def g1:List Stmt:=[top 0,top 1,top 2,top 3]
noncomputable def g2:List Stmt:=[top 4,top 5]
noncomputable def g3:List Stmt:=[top 6,top 7,top 8,top 9,top 10,top 11,top 12,top 13,top 14,top 15,top 16,top 17]
noncomputable def g4:List Stmt:=[top 18,top 19,top 20,top 21,top 22,top 23,top 24,top 25,top 26,top 27,top 28,top 29]
noncomputable def g5:List Stmt:=[top 30]
noncomputable def g6:List Stmt:=[top 31]
noncomputable def g7:List Stmt:=[top 32,top 33,top 34,top 35,top 36,top 37,top 38]
noncomputable def g8:List Stmt:=[top 39]
noncomputable def g9:List Stmt:=[top 40]
noncomputable def Zo:List Stmt:=[top 41]
noncomputable def Zj:List Stmt:=[top 42,top 43,top 44]
noncomputable def Zt:List Stmt:=[top 45]
noncomputable def Zy:List Stmt:=[top 46]
noncomputable def Zu:List Stmt:=[top 47,top 48,top 49,top 50,top 51,top 52,top 53,top 54,top 55,top 56,top 57]
noncomputable def Zh:List Stmt:=[top 58,top 59,top 60,top 61,top 62,top 63,top 64,top 65,top 66]
noncomputable def g16:List Stmt:=[top 67,top 68,top 69,top 70,top 71,top 72,top 73,top 74,top 75]
noncomputable def Zx:List Stmt:=[top 76,top 77,top 78,top 79,top 80,top 81,top 82,top 83,top 84,top 85]
noncomputable def gs:List Stmt:=g1++(g2++(g3++(g4++(g5++(g6++(g7++(g8++(g9++(Zo++(Zj++(Zt++(Zy++(Zu++(Zh++(g16++(Zx++[]))))))))))))))))
noncomputable def gR:Code:=.body gs JW
noncomputable abbrev rn (w:World)(os:OsState)(n:Nat)(t:W.BT)(a b:Nat)(g:List Stmt)(p:Pos):=W.segRunT PySem.treeTable zp w 11 (some (.ref 6)) 1 n (tL t a b os) (W.piecesOf g JW gR p [W.topFrame ⟨0,0,0,0⟩])
theorem aAl(w:World)(os:OsState):rn w os 438 (t0 w.params) 15 187 g1 ⟨0,0,0,0⟩=some (.next,tL (t1 w.params) 47 230 os,gR,⟨7,0,8,8⟩):=by kernel_rfl
theorem aA8(w:World)(os:OsState):rn w os 427 (t1 w.params) 47 230 g2 ⟨7,0,8,8⟩=some (.next,tL (t2 w.params) 71 262 os,gR,⟨11,0,12,8⟩):=by kernel_rfl
theorem aAv(w:World)(os:OsState):rn w os 276 (t2 w.params) 71 262 g3 ⟨11,0,12,8⟩=some (.next,tL (t3 w.params) 125 335 os,gR,⟨41,0,44,73⟩):=by kernel_rfl
theorem aBa(w:World)(os:OsState):rn w os 537 (t3 w.params) 125 335 g4 ⟨41,0,44,73⟩=some (.next,tL (t4 w.params) 199 440 os,gR,⟨81,0,99,34⟩):=by kernel_rfl
theorem aAD(w:World)(os:OsState):rn w os 371 (t4 w.params) 199 440 g5 ⟨81,0,99,34⟩=some (.next,tL (t5 w.params) 246 494 os,gR,⟨100,0,118,34⟩):=by kernel_rfl
theorem aBN(w:World)(os:OsState):rn w os 429 (t5 w.params) 246 494 g6 ⟨100,0,118,34⟩=some (.next,tL (t6 w.params) 303 562 os,gR,⟨119,0,150,100⟩):=by kernel_rfl
theorem aBb(w:World)(os:OsState):rn w os 319 (t6 w.params) 303 562 g7 ⟨119,0,150,100⟩=some (.next,tL (t7 w.params) 341 612 os,gR,⟨167,0,168,8⟩):=by kernel_rfl
theorem aA0(w:World)(os:OsState):rn w os 309 (t7 w.params) 341 612 g8 ⟨167,0,168,8⟩=some (.next,tL (t8 w.params) 374 652 os,gR,⟨169,0,180,34⟩):=by kernel_rfl
theorem aAO(w:World)(os:OsState):rn w os 311 (t8 w.params) 374 652 g9 ⟨169,0,180,34⟩=some (.next,tL (t9 w.params) 407 694 os,gR,⟨181,0,195,49⟩):=by kernel_rfl
theorem Y7(w:World)(os:OsState):rn w os 309 (t9 w.params) 407 694 Zo ⟨181,0,195,49⟩=some (.next,tL (t10 w.params) 440 734 os,gR,⟨196,0,207,36⟩):=by kernel_rfl
theorem ZG(w:World)(os:OsState):rn w os 443 (t10 w.params) 440 734 Zj ⟨196,0,207,36⟩=some (.next,tL (t11 w.params) 473 779 os,gR,⟨211,0,214,24⟩):=by kernel_rfl
theorem Ym(w:World)(os:OsState):rn w os 279 (t11 w.params) 473 779 Zt ⟨211,0,214,24⟩=some (.next,tL (t12 w.params) 499 813 os,gR,⟨215,0,222,51⟩):=by kernel_rfl
theorem ZZ(w:World)(os:OsState):rn w os 276 (t12 w.params) 499 813 Zy ⟨215,0,222,51⟩=some (.next,tL (t13 w.params) 523 846 os,gR,⟨223,0,230,78⟩):=by kernel_rfl
theorem YD(w:World)(os:OsState):rn w os 650 (t13 w.params) 523 846 Zu ⟨223,0,230,78⟩=some (.next,tL (t14 w.params) 627 982 os,gR,⟨267,0,309,20⟩):=by kernel_rfl
theorem ZV(w:World)(os:OsState):rn w os 275 (t14 w.params) 627 982 Zh ⟨267,0,309,20⟩=some (.next,tL (t15 w.params) 690 1058 os,gR,⟨364,0,369,14⟩):=by kernel_rfl
theorem Xh(w:World)(os:OsState):rn w os 258 (t15 w.params) 690 1058 g16 ⟨364,0,369,14⟩=some (.next,tL (t16 w.params) 746 1132 os,gR,⟨414,0,422,24⟩):=by kernel_rfl
theorem Yi(w:World)(os:OsState):rn w os 280 (t16 w.params) 746 1132 Zx ⟨414,0,422,24⟩=some (.next,tL (t17 w.params) 802 1205 os,gR,⟨498,0,502,15⟩):=by kernel_rfl
theorem aBf(w:World)(os:OsState):W.topRun PySem.treeTable zp w 11 (some (.ref 6)) 2 (tL (t17 w.params) 802 1205 os).abs (W.restOf [] JW gR ⟨498,0,502,15⟩ [W.topFrame ⟨0,0,0,0⟩])=some (tL (t17 w.params) 802 1205 os).abs:=by kernel_rfl
theorem aBv(w:World)(os:OsState):W.topGo PySem.treeTable zp w 11 (some (.ref 6)) 12 ⟨W.boot_heap w.params,aHV [],W.boot_drawn,W.boot_toks,os⟩ (W.topStub zp)=some ((tL (t0 w.params) 15 187 os).abs,⟨denote PySem.treeTable (.body gs JW),gR,⟨0,0,0,0⟩,[W.topFrame ⟨0,0,0,0⟩]⟩):=by kernel_rfl
theorem aAq(w:World)(os:OsState):W.segRun PySem.treeTable zp w 11 (some (.ref 6)) 1 1 (tL (t0 w.params) 15 187 os).abs (W.blockOf gs JW gR ⟨0,0,0,0⟩ [W.topFrame ⟨0,0,0,0⟩])=some (.next,(tL (t0 w.params) 15 187 os).abs,gR,⟨0,0,0,0⟩):=by kernel_rfl
def zT (P:Params):W.Frag :=
(nat_lit 2,W.boot_o_2 P) ::
(nat_lit 3,gD P (.str "law_lidprice_k86_whole_written_and_read" 1086) 86) ::
(nat_lit 20,fC p15) ::
(nat_lit 21,fF p15) ::
(nat_lit 30,o30 P) ::
(nat_lit 31,RP P) ::
(nat_lit 32,s4 209 31) ::
(nat_lit 43,o43 P) ::
(nat_lit 44,o44 P) ::
(nat_lit 55,o55 P) ::
(nat_lit 56,o56 P) ::
(nat_lit 67,o67 P) ::
(nat_lit 68,o68 P) ::
(nat_lit 76,fC p71) ::
(nat_lit 77,fF p71) ::
(nat_lit 83,fC p78) ::
(nat_lit 84,fF p78) ::
(nat_lit 90,fC p85) ::
(nat_lit 91,fF p85) ::
(nat_lit 97,fC p92) ::
(nat_lit 98,fF p92) ::
(nat_lit 104,fC p99) ::
(nat_lit 105,fF p99) ::
(nat_lit 111,fC Uj) ::
(nat_lit 112,fF Uj) ::
(nat_lit 118,fC W5) ::
(nat_lit 119,fF W5) ::
(nat_lit 123,fD W7) ::
(nat_lit 124,fG W7) ::
(nat_lit 128,fD Wc) ::
(nat_lit 129,fG Wc) ::
(nat_lit 133,fD V8) ::
(nat_lit 134,fG V8) ::
(nat_lit 138,fD Wo) ::
(nat_lit 139,fG Wo) ::
(nat_lit 143,fD WM) ::
(nat_lit 144,fG WM) ::
(nat_lit 148,fD Ug) ::
(nat_lit 149,fG Ug) ::
(nat_lit 162,fC W4) ::
(nat_lit 163,fF W4) ::
(nat_lit 169,fC Th) ::
(nat_lit 170,fF Th) ::
(nat_lit 176,fC Sq) ::
(nat_lit 177,fF Sq) ::
(nat_lit 183,fC VM) ::
(nat_lit 184,fF VM) ::
(nat_lit 190,fC UV) ::
(nat_lit 191,fF UV) ::
(nat_lit 193,YW P) ::
(nat_lit 194,Lf P) ::
(nat_lit 195,s8 433 194) ::
(nat_lit 196,s4 435 194) ::
(nat_lit 211,fC WX) ::
(nat_lit 212,fF WX) ::
(nat_lit 218,fC Uw) ::
(nat_lit 219,fF Uw) ::
(nat_lit 225,fC Um) ::
(nat_lit 226,fF Um) ::
(nat_lit 232,fC VD) ::
(nat_lit 233,fF VD) ::
(nat_lit 239,fC Uz) ::
(nat_lit 240,fF Uz) ::
(nat_lit 242,Xu P) ::
(nat_lit 243,s9 "End" 194 243 242 199 440 448) ::
(nat_lit 256,fD V9) ::
(nat_lit 257,fG V9) ::
(nat_lit 263,fC Vs) ::
(nat_lit 264,fF Vs) ::
(nat_lit 270,fC Vo) ::
(nat_lit 271,fF Vo) ::
(nat_lit 277,fC U3) ::
(nat_lit 278,fF U3) ::
(nat_lit 284,fC U6) ::
(nat_lit 285,fF U6) ::
(nat_lit 291,fC Wh) ::
(nat_lit 292,fF Wh) ::
(nat_lit 296,fD Sg) ::
(nat_lit 297,fG Sg) ::
(nat_lit 299,YS P) ::
(nat_lit 300,s9 "Stage" 194 300 299 246 494 502) ::
(nat_lit 308,fC Te) ::
(nat_lit 309,fF Te) ::
(nat_lit 315,fC XD) ::
(nat_lit 316,fF XD) ::
(nat_lit 320,fD Wz) ::
(nat_lit 321,fG Wz) ::
(nat_lit 325,fD WN) ::
(nat_lit 326,fG WN) ::
(nat_lit 335,Yv P) ::
(nat_lit 336,Kf P) ::
(nat_lit 337,s8 605 336) ::
(nat_lit 338,s4 607 336) ::
(nat_lit 353,fC Sh) ::
(nat_lit 354,fF Sh) ::
(nat_lit 360,fC S5) ::
(nat_lit 361,fF S5) ::
(nat_lit 367,fC Tj) ::
(nat_lit 368,fF Tj) ::
(nat_lit 370,Z7 P) ::
(nat_lit 371,s9 "Few" 336 371 370 341 612 620) ::
(nat_lit 386,fC UT) ::
(nat_lit 387,fF UT) ::
(nat_lit 393,fC Ru) ::
(nat_lit 394,fF Ru) ::
(nat_lit 400,fC WR) ::
(nat_lit 401,fF WR) ::
(nat_lit 403,YH P) ::
(nat_lit 404,s9 "Groups" 336 404 403 374 652 660) ::
(nat_lit 419,fC W9) ::
(nat_lit 420,fF W9) ::
(nat_lit 426,fC SN) ::
(nat_lit 427,fF SN) ::
(nat_lit 433,fC W3) ::
(nat_lit 434,fF W3) ::
(nat_lit 436,Z3 P) ::
(nat_lit 437,s9 "Listed" 336 437 436 407 694 702) ::
(nat_lit 448,Z2 P) ::
(nat_lit 449,M7 P) ::
(nat_lit 450,s8 749 449) ::
(nat_lit 451,s4 751 449) ::
(nat_lit 466,fC Wn) ::
(nat_lit 467,fF Wn) ::
(nat_lit 469,Yd P) ::
(nat_lit 470,s9 "Stop" 449 470 469 454 756 764) ::
(nat_lit 485,fC Vx) ::
(nat_lit 486,fF Vx) ::
(nat_lit 492,fC Rz) ::
(nat_lit 493,fF Rz) ::
(nat_lit 495,Yu P) ::
(nat_lit 496,s9 "Take" 449 496 495 473 779 787) ::
(nat_lit 511,fC Wm) ::
(nat_lit 512,fF Wm) ::
(nat_lit 516,fD U0) ::
(nat_lit 517,fG U0) ::
(nat_lit 519,Yc P) ::
(nat_lit 520,s9 "Open" 449 520 519 499 813 821) ::
(nat_lit 528,fC VV) ::
(nat_lit 529,fF VV) ::
(nat_lit 533,fD Vb) ::
(nat_lit 534,fG Vb) ::
(nat_lit 538,fD Vn) ::
(nat_lit 539,fG Vn) ::
(nat_lit 543,fD Ui) ::
(nat_lit 544,fG Ui) ::
(nat_lit 550,fC Wk) ::
(nat_lit 551,fF Wk) ::
(nat_lit 555,fD Vy) ::
(nat_lit 556,fG Vy) ::
(nat_lit 569,fC V3) ::
(nat_lit 570,fF V3) ::
(nat_lit 576,fC Ti) ::
(nat_lit 577,fF Ti) ::
(nat_lit 583,fC XJ) ::
(nat_lit 584,fF XJ) ::
(nat_lit 590,fC Uy) ::
(nat_lit 591,fF Uy) ::
(nat_lit 597,fC WK) ::
(nat_lit 598,fF WK) ::
(nat_lit 604,fC Vl) ::
(nat_lit 605,fF Vl) ::
(nat_lit 611,fC Su) ::
(nat_lit 612,fF Su) ::
(nat_lit 618,fC Vw) ::
(nat_lit 619,fF Vw) ::
(nat_lit 621,ZC P) ::
(nat_lit 622,Yj P) ::
(nat_lit 623,s8 975 622) ::
(nat_lit 624,s4 977 622) ::
(nat_lit 632,fC Tw) ::
(nat_lit 633,fF Tw) ::
(nat_lit 639,fC Ss) ::
(nat_lit 640,fF Ss) ::
(nat_lit 646,fC Ve) ::
(nat_lit 647,fF Ve) ::
(nat_lit 653,fC Sy) ::
(nat_lit 654,fF Sy) ::
(nat_lit 660,fC Vc) ::
(nat_lit 661,fF Vc) ::
(nat_lit 667,fC TJ) ::
(nat_lit 668,fF TJ) ::
(nat_lit 674,fC VP) ::
(nat_lit 675,fF VP) ::
(nat_lit 681,fC W2) ::
(nat_lit 682,fF W2) ::
(nat_lit 688,fC Tg) ::
(nat_lit 689,fF Tg) ::
(nat_lit 695,fC Uq) ::
(nat_lit 696,fF Uq) ::
(nat_lit 702,fC Rx) ::
(nat_lit 703,fF Rx) ::
(nat_lit 709,fC V1) ::
(nat_lit 710,fF V1) ::
(nat_lit 716,fC S8) ::
(nat_lit 717,fF S8) ::
(nat_lit 723,fC WW) ::
(nat_lit 724,fF WW) ::
(nat_lit 730,fC Ul) ::
(nat_lit 731,fF Ul) ::
(nat_lit 737,fC TQ) ::
(nat_lit 738,fF TQ) ::
(nat_lit 744,fC VF) ::
(nat_lit 745,fF VF) ::
(nat_lit 751,fC Wa) ::
(nat_lit 752,fF Wa) ::
(nat_lit 756,fD SJ) ::
(nat_lit 757,fG SJ) ::
(nat_lit 761,fD Ux) ::
(nat_lit 762,fG Ux) ::
(nat_lit 766,fD Vh) ::
(nat_lit 767,fG Vh) ::
(nat_lit 773,fC V0) ::
(nat_lit 774,fF V0) ::
(nat_lit 778,fD SX) ::
(nat_lit 779,fG SX) ::
(nat_lit 783,fD Vr) ::
(nat_lit 784,fG Vr) ::
(nat_lit 788,fD WD) ::
(nat_lit 789,fG WD) ::
(nat_lit 793,fD VH) ::
(nat_lit 794,fG VH) ::
(nat_lit 800,fC W8) ::
(nat_lit 801,fF W8)::[]
noncomputable def XX:List Addr:=2::3::20::21::30::31::32::43::44::55::56::67::68::76::77::83::84::90::91::97::98::104::105::111::112::118::119::123::124::128::129::133::134::138::139::143::144::148::149::162::163::169::170::176::177::183::184::190::191::193::194::195::196::211::212::218::219::225::226::232::233::239::240::242::243::256::257::263::264::270::271::277::278::284::285::291::292::296::297::299::300::308::309::315::316::320::321::325::326::335::336::337::338::353::354::360::361::367::368::370::371::386::387::393::394::400::401::403::404::419::420::426::427::433::434::436::437::448::449::450::451::466::467::469::470::485::486::492::493::495::496::511::512::516::517::519::520::528::529::533::534::538::539::543::544::550::551::555::556::569::570::576::577::583::584::590::591::597::598::604::605::611::612::618::619::621::622::623::624::632::633::639::640::646::647::653::654::660::661::667::668::674::675::681::682::688::689::695::696::702::703::709::710::716::717::723::724::730::731::737::738::744::745::751::752::756::757::761::762::766::767::773::774::778::779::783::784::788::789::793::794::800::801::[]
theorem Dz:∀P,XX=(zT P).map (·.1):=fun _=>by kernel_rfl
noncomputable def vw:Program:={ zp with main:={ (zp).main with body:=[top 0,top 2,top 3,top 4,top 5,top 7,top 8,top 9,top 10,top 11,top 12,top 13,top 15,top 16,top 17,top 18,top 19,top 20,top 21,top 22,top 24,top 25,top 26,top 27,top 28,top 29,top 30,top 31,top 32,top 33,top 34,top 36,top 37,top 38,top 39,top 40,top 41,top 43,top 44,top 45,top 46,top 48,top 49,top 50,top 51,top 52,top 53,top 54,top 55,top 56,top 57,top 58,top 59,top 60,top 61,top 62,top 63,top 64,top 65,top 66,top 67,top 68,top 69,top 71,top 72,top 73,top 74,top 75,top 76,top 77,top 78,top 79,top 80,top 81,top 82,top 83,top 84,top 85] } }
noncomputable def xtK (s:Shared):Bool:=W.xlAt vw [] s&&W.recOk (W.RowW.records (W.OpenRow.toRowW (W.OpenLaw.row PySem.Challenge.rw_lidprice_k86_whole_written_and_read))) s
theorem looks_of{σ α:Type}{A B D:Bool}{C:OsState->Bool}{E:OsState->σ}{F:OsState->α}{g:σ}{k:α}(a:A=true)(b:B=true)(c:∀os,C os=true)(d:D=true)(e:∀os,E os=g)(f:∀os,F os=k):(fun os=>((A&&B&&C os&&D),E os,F os))=fun _=>(true,g,k):=funext fun os=>by rw [a,b,c os,d,e os,f os]; rfl
theorem lkA(w:World):W.staticsOk (importedModules (zp).main.body) (W.boot_heap w.params) (W.absHeap (t17 w.params) 802 {})=true:=by kernel_rfl
theorem lkB(w:World):W.namesBound zp (W.absHeap (t17 w.params) 802 {})=true:=by kernel_rfl
theorem lkC(w:World)(os:OsState):W.gensDone ⟨W.absHeap (t17 w.params) 802 {},Array.mk [],W.boot_drawn,1205,os⟩=true:=by kernel_rfl
theorem lkD(w:World):W.laidKept (W.boot_heap w.params) (W.absHeap (t17 w.params) 802 {})=true:=by kernel_rfl
theorem lkE(w:World)(os:OsState):W.openSeen vw [] (importedModules (zp).main.body) xtK true ⟨W.absHeap (t17 w.params) 802 {},Array.mk [],W.boot_drawn,1205,os⟩=W.openGood vw []:=by kernel_rfl
theorem lkF(w:World)(os:OsState):W.Hook.obs (W.kHook zT XX Dz) ⟨W.absHeap (t17 w.params) 802 {},Array.mk [],W.boot_drawn,1205,os⟩=W.Hook.val (W.kHook zT XX Dz) w:=by kernel_rfl
theorem Yk:W.LeftO zp vw [] xtK (W.Hook.obs (W.kHook zT XX Dz)) (W.Hook.val (W.kHook zT XX Dz)) 13066 :=
 L2.My (Tb:=t0) (Tf:=t17) (nf:=802) (kf:=1205) (env:=JW) (C:=gR) (gs:=gs) (m0:=11) (ann:=(some (.ref 6))) (by kernel_rfl) (by decide) (fun _=>by kernel_rfl) (fun _=>by kernel_rfl) aBv aAq (c:=438+(427+(276+(537+(371+(429+(319+(309+(311+(309+(443+(279+(276+(650+(275+(258+(280+(2)))))))))))))))))) (fun w os=>L2.eX (aAl w os) (L2.eX (aA8 w os) (L2.eX (aAv w os) (L2.eX (aBa w os) (L2.eX (aAD w os) (L2.eX (aBN w os) (L2.eX (aBb w os) (L2.eX (aA0 w os) (L2.eX (aAO w os) (L2.eX (Y7 w os) (L2.eX (ZG w os) (L2.eX (Ym w os) (L2.eX (ZZ w os) (L2.eX (YD w os) (L2.eX (ZV w os) (L2.eX (Xh w os) (L2.eX (Yi w os) (aBf w os)))))))))))))))))) (by decide) (fun w=>looks_of (lkA w) (lkB w) (lkC w) (lkD w) (lkE w) (lkF w))
end
end K86K
namespace L2
open PySem PySem.Spec PyProof.Rows
abbrev Key:=Sum Int Str
noncomputable def z8:Key->Value->Bool
 | .inl k,v=>Value.isInt k v
 | .inr x,v=>Value.isStrOf x v
noncomputable def aBJ (w:World):Key->Int
 | .inl k=>hashInt k
 | .inr x=>hashStr w x
theorem eV:∀{k:Key}{v:Value},z8 k v=true->(∃i t,k=Sum.inl i/\v=Value.int i t)∨(∃x t,k=Sum.inr x/\v=Value.str x t)
 | .inl i,v,h=>by
  obtain⟨t,e⟩:=Value.isInt_shape (k:=i) (v:=v) h;exact .inl ⟨i,t,rfl,e⟩
 | .inr x,v,h=>by
  obtain⟨t,e⟩:=Value.isStrOf_shape (x:=x) (v:=v) h;exact .inr ⟨x,t,rfl,e⟩
theorem J6(i:Int)(t:Tok):z8 (.inl i) (.int i t)=true:=by simp[z8,Value.isInt]
theorem Jr(x:Str)(t:Tok):z8 (.inr x) (.str x t)=true:=by simp[z8,Value.isStrOf]
theorem XF(a b:Int):decide ((Sum.inl a:Key)=Sum.inl b)=(a==b):=by
 by_cases e:a=b
 ·subst e;simp
 ·have h:¬ (Sum.inl a:Key)=Sum.inl b:=fun q=>e (Sum.inl.inj q);rw[decide_eq_false h];exact(beq_eq_false_iff_ne.mpr e).symm
theorem Vm(a b:Str):decide ((Sum.inr a:Key)=Sum.inr b)=decide (a=b):=by
 by_cases e:a=b
 ·subst e;simp
 ·have h:¬ (Sum.inr a:Key)=Sum.inr b:=fun q=>e (Sum.inr.inj q);rw[decide_eq_false h,decide_eq_false e]
theorem Wd(a:Int)(b:Str):decide ((Sum.inl a:Key)=Sum.inr b)=false:=decide_eq_false (fun q=>nomatch q)
theorem V5(a:Str)(b:Int):decide ((Sum.inr a:Key)=Sum.inl b)=false:=decide_eq_false (fun q=>nomatch q)
noncomputable def eZ (prog:Program)(w:World):PySem.KeyKind prog w Key where
 is:=z8
 hash:=aBJ w
 inj:=fun v a b ha hb=>by
  rcases eV ha with⟨i,t,rfl,rfl⟩ | ⟨x,t,rfl,rfl⟩
  ·rcases eV hb with⟨j,u,rfl,e⟩ | ⟨y,u,rfl,e⟩
   ·injection e with e1 _;rw[e1]
   ·exact nomatch e
  ·rcases eV hb with⟨j,u,rfl,e⟩ | ⟨y,u,rfl,e⟩
   ·exact nomatch e
   ·injection e with e1 _;rw[e1]
 byValue:=fun k v h=>by
  rcases eV h with⟨i,t,rfl,rfl⟩ | ⟨x,t,rfl,rfl⟩ <;> rfl
 pyHash:=fun hv h=>by
  rcases eV hv with⟨i,t,rfl,rfl⟩ | ⟨x,t,rfl,rfl⟩
  ·exact wpAny_pyHash_int h
  ·exact wpAny_pyHash_str h
 eqBool:=fun hu hv h=>by
  rcases eV hu with⟨i,t,rfl,rfl⟩ | ⟨x,t,rfl,rfl⟩
  ·rcases eV hv with⟨j,u,rfl,rfl⟩ | ⟨y,u,rfl,rfl⟩
   ·rw[XF]at h;exact wpAny_eqBool_int h
   ·rw[Wd]at h;exact SeqAt.EqAt.int_str i t y u _ _ _ _ h
  ·rcases eV hv with⟨j,u,rfl,rfl⟩ | ⟨y,u,rfl,rfl⟩
   ·rw[V5]at h;exact SeqAt.EqAt.str_int x t j u _ _ _ _ h
   ·rw[Vm]at h;exact wpAny_eqBool_str h
 «strs»:=fun k x t v h=>by
  rcases eV h with⟨i,u,rfl,e⟩ | ⟨y,u,rfl,e⟩
  ·exact nomatch e
  ·injection e with e1 _
   subst e1;cases v <;> rfl
theorem Ei(prog:Program)(w:World)(i:Int)(t:Tok):(eZ prog w).is (.inl i) (.int i t)=true:=J6 i t
theorem Ek(prog:Program)(w:World)(x:Str)(t:Tok):(eZ prog w).is (.inr x) (.str x t)=true:=Jr x t
inductive V where
 |non |bl (b:Bool) |int (i:Int) |str (x:Str) |byt (b:Array UInt8) |flt (b:UInt64) |ref (a:Addr) |ty (n:String)
 deriving DecidableEq
def RelV:V->Value->Prop
 | .non,u=>u=Value.none
 | .bl b,u=>u=Value.bool b
 | .int i,u=>∃t,u=Value.int i t
 | .str x,u=>∃t,u=Value.str x t
 | .byt b,u=>∃t,u=Value.bytes b t
 | .flt b,u=>∃t,u=Value.float b t
 | .ref a,u=>u=Value.ref a
 | .ty n,u=>u=Value.type n
abbrev cL:List V->List Value->Prop:=Paired RelV
variable{xs:List V}{us:List Value}
theorem cL.length(r:cL xs us):xs.length=us.length:=Paired.length r
theorem cL.get:∀{xs:List V}{us:List Value}{i:Nat}{x:V},cL xs us->xs[i]? = some x->∃u,us[i]? = some u/\RelV x u
 |_,_,_,_,.nil,e=>by simp at e
 |_,_,0,_,.cons r _,e=>by simp at e;subst e;exact⟨_,rfl,r⟩
 |_,_,i+1,x,.cons _ t,e=>by
  obtain⟨u,h1,h2⟩:=cL.get (i:=i) (x:=x) t (by simpa using e);exact⟨u,by simpa using h1,h2⟩
theorem cL.set{x:V}{u:Value}(r:RelV x u):∀{xs:List V}{us:List Value} (i:Nat),cL xs us->cL (xs.set i x) (us.set i u)
 |_,_,_,.nil=>.nil
 |_,_,0,.cons _ t=>.cons r t
 |_,_,i+1,.cons q t=>.cons q (cL.set r i t)
theorem cL.append:∀{xs ys:List V}{us ws:List Value},cL xs us->cL ys ws->cL (xs++ys) (us++ws)
 |_,_,_,_,.nil,s=>s
 |_,_,_,_,.cons r t,s=>.cons r (cL.append t s)
def oJ:Option V->Option Value->Prop
 |some v,some u=>RelV v u
 |none,none=>True
 |_,_=>False
def KV {κ:Type}:List (κ×V)->List (κ×Value)->Prop:=Paired fun(p:κ×V) (q:κ×Value)=>p.1=q.1/\RelV p.2 q.2
def kV:Key->V
 | .inl i=>.int i
 | .inr x=>.str x
inductive HO where
 |lst (xs:List V)
 |tup (xs:List V)
 |dK (kvs:List (Key×V)) |dT (kvs:List (List Key×V))
 |set (S:Int->Bool) (n:Nat)
 |ins (C dx:Addr) (fs:List (Str×V))
 |own (x:Addr)
 |xd (fs:List (Str×V))
 |met (f x:Addr)
 |rng (lo hi:Int)
 |frz (o:Obj) (u:HO)
 |tbl (ps:Array Value)
 |ext (φ:Heap->Prop)
noncomputable abbrev Hp:=Addr->Option HO
noncomputable def bH (H:Hp)(a:Addr)(o:HO):Hp:=fun b=>if b=a then some o else H b
variable{H:Hp}{a:Addr}{o:HO}
theorem aB:bH H a o a=some o:=by unfold bH;rw[if_pos rfl]
theorem aK{b:Addr}(h:b≠a):bH H a o b=H b:=by unfold bH;rw[if_neg h]
theorem dG{b:Addr}{u:HO}(h:H a=some o)(h':H b=some u)(d:o≠u):a≠b:=by
 intro e;subst e;rw[h]at h';exact d (aGU.inj h')
theorem aR{b:Addr}(h:H a=some o)(h':H b=none):a≠b:=by
 intro e;subst e;rw[h]at h';cases h'
section
variable(P:Program)(w:World)
def cX (H:Hp)(h:Heap)(a:Addr):HO->Prop
 | .lst xs=>xs.length<=sizeLine/\∃(its:List Value) (n:Nat),cL xs its/\h.get? a=some { cls:=.type "list",data:=.seq its.toArray n }
 | .tup xs=>xs.length<=sizeLine/\∃its:List Value,cL xs its/\IsTup h a its.toArray
 | .dK kvs=>kvs.length<=sizeLine/\(a==sysModules)=false/\∃vs,KV kvs vs/\h.DictOf (eZ P w) a vs
 | .dT kvs=>kvs.length<=sizeLine/\(a==sysModules)=false/\∃xs:List (List Key×Addr×Value),
   Paired (fun(p:List Key×V) (q:List Key×Addr×Value)=>p.1=q.1/\H q.2.1=some (.tup (p.1.map kV))/\RelV p.2 q.2.2) kvs xs ∧
   ∃o es ep,h.get? a=some o/\o.ExactDict/\o.data=.dict es ep/\es.toList=xs.map (entryOfKey (tupleKind (eZ P w)))/\(xs.map (·.1)).Nodup
 | .set S n=>h.SetOf (intKind P w) a S n
 | .ins C dx fs=>H dx=some (.own a)/\fs.length<=1000/\dx≠a/\h.get? a=some (PySem.W.instObj C dx) ∧
   ∃mA,h.Ns1 dx mA/\(∀f,oJ (fs.lookup f) (mA f))/\PySem.Within mA (fs.map (·.1))
 | .own _=>∃o,h.get? a=some o
 | .xd fs=>∃mA,h.Ns1 a mA/\∀f,oJ (fs.lookup f) (mA f)
 | .rng lo hi=>∃t u v,h.get? a=some { cls:=.type "range",data:=.fields #[.int lo t,.int hi u,.int 1 v] }
 | .frz o u=>h.get? a=some o/\cX H h a u
 | .tbl ps=>h.get? a=some { cls:=.none,data:=.fields ps }
 | .met f x=>h.get? a=some (PySem.W.methodObj (.ref f) (.ref x))
 | .ext φ=>φ h/\(∃o,h.get? a=some o)/\∀h1 h2:Heap,φ h1->(∀o,h1.get? a=some o->h2.get? a=some o)->φ h2
def pK (H:Hp)(h:Heap):Prop:=∀a o,H a=some o->cX P w H h a o
end
section
variable{P:Program}{w:World}{H H':Hp}{h h':Heap}{a:Addr}{o:HO}
theorem cX.lt(x:cX P w H h a o):a<h.objs.size:=by
 cases o with
 |lst xs=>obtain⟨_,_,_,_,e⟩:=x;exact aF3 e
 |tup xs=>obtain⟨_,_,_,p⟩:=x;exact p.lt
 |dK kvs=>obtain⟨_,_,_,_,o,_,_,e,_⟩:=x;exact aF3 e
 |dT kvs=>obtain⟨_,_,_,_,o,_,_,e,_⟩:=x;exact aF3 e
 |set S n=>obtain⟨o,_,_,_,e,_⟩:=x;exact aF3 e
 |ins C dx fs=>obtain⟨_,_,_,e,_⟩:=x;exact aF3 e
 |own y=>obtain⟨_,e⟩:=x;exact aF3 e
 |xd fs=>obtain⟨_,⟨_,_,_,e,_⟩,_⟩:=x;exact aF3 e
 |rng lo hi=>obtain⟨_,_,_,e⟩:=x;exact aF3 e
 |frz ob u=>obtain⟨e,_⟩:=x;exact aF3 e
 |tbl ps=>exact aF3 (show h.get? a=some _ from x)
 |met f y=>exact aF3 (show h.get? a=some _ from x)
 |ext φ=>obtain⟨_,⟨_,e⟩,_⟩:=x;exact aF3 e
theorem Paired.mapP{α β:Type}{F G:α->β->Prop}:∀{l₁:List α}{l₂:List β},Paired F l₁ l₂->(∀a b,F a b->G a b)->Paired G l₁ l₂
 |_,_,.nil,_=>.nil
 |_,_,.cons r t,f=>.cons (f _ _ r) (Paired.mapP t f)
theorem cX.stay(x:cX P w H h a o)(k:∀b u,(b=a∨H b=some (.own a))->h.get? b=some u->h'.get? b=some u)
  (ho:∀b,H b=some (.own a)->H' b=some (.own a)) (ht:∀b xs,H b=some (.tup xs)->H' b=some (.tup xs)):cX P w H' h' a o:=by
 induction o with
 |lst xs=>obtain⟨z,its,n,r,e⟩:=x;exact⟨z,its,n,r,k _ _ (.inl rfl) e⟩
 |tup xs=>obtain⟨z,its,r,ob,e,c⟩:=x;exact⟨z,its,r,ob,k _ _ (.inl rfl) e,c⟩
 |dK kvs=>obtain⟨z,y,vs,r,ob,es,ep,e,c⟩:=x;exact⟨z,y,vs,r,ob,es,ep,k _ _ (.inl rfl) e,c⟩
 |dT kvs =>
  obtain⟨z,y,xs,r,ob,es,ep,e,c⟩:=x;exact⟨z,y,xs,Paired.mapP r fun p q z=>⟨z.1,ht _ _ z.2.1,z.2.2⟩,ob,es,ep,k _ _ (.inl rfl) e,c⟩
 |set S n=>obtain⟨ob,es,ep,t,e,c⟩:=x;exact⟨ob,es,ep,t,k _ _ (.inl rfl) e,c⟩
 |ins C dx fs =>
  obtain⟨d,z,ne,e,mA,⟨od,es,ep,e2,c⟩,r⟩:=x;exact⟨ho _ d,z,ne,k _ _ (.inl rfl) e,mA,⟨od,es,ep,k _ _ (.inr d) e2,c⟩,r⟩
 |own y=>obtain⟨ob,e⟩:=x;exact⟨ob,k _ _ (.inl rfl) e⟩
 |xd fs=>obtain⟨mA,⟨od,es,ep,e,c⟩,r⟩:=x;exact⟨mA,⟨od,es,ep,k _ _ (.inl rfl) e,c⟩,r⟩
 |rng lo hi=>obtain⟨t,u,v,e⟩:=x;exact⟨t,u,v,k _ _ (.inl rfl) e⟩
 |frz ob u ih=>obtain⟨e,q⟩:=x;exact⟨k _ _ (.inl rfl) e,ih q⟩
 |tbl ps =>
  have e:h.get? a=some { cls:=.none,data:=.fields ps }:=x;show h'.get? a=some { cls:=.none,data:=.fields ps };exact k a _ (.inl rfl) e
 |met f y =>
  have e:h.get? a=some (PySem.W.methodObj (.ref f) (.ref y)):=x;show h'.get? a=some (PySem.W.methodObj (.ref f) (.ref y));exact k a _ (.inl rfl) e
 |ext φ=>obtain⟨p,⟨o,e⟩,st⟩:=x;exact⟨st _ _ p fun o q=>k _ _ (.inl rfl) q,⟨o,k _ _ (.inl rfl) e⟩,st⟩
theorem pK.lt(x:pK P w H h)(e:H a=some o):a<h.objs.size:=(x a o e).lt
theorem pK.fresh(x:pK P w H h)(e:h.objs.size<=a):H a=none:=by
 cases q:H a with
 |none=>rfl
 |some u=>exact absurd (aGf (x.lt q) e) (aG2 _)
theorem pK.kept(x:pK P w H h)(k:∀b u,h.get? b=some u->h'.get? b=some u):pK P w H h':=fun a o e =>
 (x a o e).stay (fun b u _ q=>k b u q) (fun _ q=>q) fun _ _ q=>q
theorem pK.laid(x:pK P w H h)(k:∀b u,h.get? b=some u->h'.get? b=some u)(hp:h.objs.size<=a)(new:cX P w (bH H a o) h' a o):pK P w (bH H a o) h':=fun b u e=>by
 have hn:=x.fresh hp
 by_cases hb:b=a
 ·subst hb;rw[aB]at e;cases e;exact new
 ·rw[aK hb]at e;exact(x b u e).stay (fun c v _ q=>k c v q) (fun c q=>by rw[aK (aR q hn)];exact q) fun c xs q=>by rw[aK (aR q hn)];exact q
end
def Rd (H:Hp)(a:Addr)(u:HO):Prop:=H a=some u∨∃o,H a=some (.frz o u)
variable{P:Program}{w:World}{h:Heap}
theorem Rd.ok{u:HO}(r:Rd H a u)(x:pK P w H h):cX P w H h a u:=by
 rcases r with r | ⟨o,r⟩
 ·exact x a u r
 ·obtain⟨_,q⟩:=x a _ r;exact q
def Yh:Option HO->Prop
 |some (.lst _)=>True
 |some (.dK _)=>True
 |some (.dT _)=>True
 |some (.set _ _)=>True
 |some (.ins _ _ _)=>True
 |some (.ext _)=>True
 |_=>False
section
variable{P:Program}{w:World}{H:Hp}{h h':Heap}{x e:Addr}{o':HO}
theorem pK.write(ok:pK P w H h)(mu:Yh (H x))(he:e=x∨H e=some (.own x))(k:∀b u,b≠e->h.get? b=some u->h'.get? b=some u)(heo:∃u,h'.get? e=some u)
  (new:cX P w (bH H x o') h' x o'):pK P w (bH H x o') h':=fun b u q=>by
 have nown:∀c y,H c=some (.own y)->c≠x:=fun c y r z=>by subst z;rw[r]at mu;exact mu
 have ntup:∀c xs,H c=some (.tup xs)->c≠x:=fun c xs r z=>by subst z;rw[r]at mu;exact mu
 by_cases hb:b=x
 ·subst hb;rw[aB]at q;cases q;exact new
 ·rw[aK hb]at q
  by_cases hbe:b=e
  ·have q':H b=some (.own x):=by
    rcases he with z |z
    ·exact absurd (hbe.trans z) hb
    ·rw[hbe];exact z
   rw[q]at q';cases q';obtain⟨v,hv⟩:=heo;exact⟨v,by rw[hbe];exact hv⟩
  ·refine(ok b u q).stay (fun c v hc r=>k c v ?_ r) (fun c r=>by rw[aK (nown c b r)];exact r) fun c xs r=>by rw[aK (ntup c xs r)];exact r
   rcases hc with rfl |hc
   ·exact hbe
   ·rintro rfl;rcases he with z |z
    ·exact nown c b hc z
    ·rw[hc]at z;cases z;exact hb rfl
end
structure Un (fs ex:List Addr)(H H':Hp)(h h':Heap):Prop where
 keep:∀b o,h.get? b=some o->H b=none->b∉fs->b∉ex->h'.get? b=some o
 slot:∀b o,h.get? b=some o->H b=none->b∈fs->b∉ex->∃sl,h'.get? b=some { o with slots:=sl }
 free:∀b o,h.get? b=some o->H b=none->b∉ex->H' b=none
 there:∀b o,h.get? b=some o->b∉ex->∃o',h'.get? b=some o'
 tups:∀b xs,H b=some (.tup xs)->H' b=some (.tup xs)
 frzs:∀b o u,H b=some (.frz o u)->H' b=some (.frz o u)
 tbls:∀b ps,H b=some (.tbl ps)->∃more,H' b=some (.tbl (ps++more))
section
variable{fs fs' ex ex':List Addr}{H H1 H2:Hp}{h h1 h2 h':Heap}{a x e:Addr}{o:HO}
theorem Un.any(u:Un fs ex H H1 h h1){b:Addr}{ob:Obj}(q:h.get? b=some ob)(n:H b=none)(hx:b∉ex):∃sl,h1.get? b=some { ob with slots:=sl }:=by
 by_cases hb:b∈fs
 ·exact u.slot b ob q n hb hx
 ·exact⟨ob.slots,u.keep b ob q n hb hx⟩
theorem Un.trans(a:Un fs ex H H1 h h1)(b:Un fs ex H1 H2 h1 h2):Un fs ex H H2 h h2 where
 keep:=fun c ob q n hc hx=>b.keep c ob (a.keep c ob q n hc hx) (a.free c ob q n hx) hc hx
 slot:=fun c ob q n hc hx=>by
  obtain⟨sl,e1⟩:=a.slot c ob q n hc hx;obtain⟨sl',e2⟩:=b.slot c _ e1 (a.free c ob q n hx) hc hx;exact⟨sl',e2⟩
 free:=fun c ob q n hx=>by
  obtain⟨o',e1⟩:=a.there c ob q hx;exact b.free c o' e1 (a.free c ob q n hx) hx
 there:=fun c ob q hx=>by
  obtain⟨o',e1⟩:=a.there c ob q hx;exact b.there c o' e1 hx
 tups:=fun c xs q=>b.tups c xs (a.tups c xs q)
 frzs:=fun c ob xs q=>b.frzs c ob xs (a.frzs c ob xs q)
 tbls:=fun c ps q=>by
  obtain⟨m1,e1⟩:=a.tbls c ps q;obtain⟨m2,e2⟩:=b.tbls c _ e1;exact⟨m1++m2,by rw[e2,aIn]⟩
theorem Un.kept(k:∀b u,h.get? b=some u->h'.get? b=some u):Un fs ex H H h h' :=
 ⟨fun b ob q _ _ _=>k b ob q,fun b ob q _ _ _=>⟨ob.slots,k b ob q⟩,fun _ _ _ n _=>n,fun b ob q _=>⟨ob,k b ob q⟩,fun _ _ q=>q,fun _ _ _ q=>q,fun _ ps q=>⟨#[],by rw[q];simp⟩⟩
theorem Un.refl:Un fs ex H H h h:=Un.kept fun _ _ q=>q
theorem Un.laid(k:∀b u,h.get? b=some u->h'.get? b=some u)(hp:h.objs.size<=a)(hn:H a=none):Un fs ex H (bH H a o) h h' where
 keep:=fun b u q _ _ _=>k b u q
 slot:=fun b u q _ _ _=>⟨u.slots,k b u q⟩
 free:=fun b u q n _=>by rw[aK (aGg (aGf (aF3 q) hp))];exact n
 there:=fun b u q _=>⟨u,k b u q⟩
 tups:=fun b xs q=>by rw[aK (aR q hn)];exact q
 frzs:=fun b u xs q=>by rw[aK (aR q hn)];exact q
 tbls:=fun b ps q=>⟨#[],by rw[aK (aR q hn),q];simp⟩
theorem Un.write(mu:Yh (H x))(he:e=x∨H e=some (.own x))(k:∀b u,b≠e->h.get? b=some u->h'.get? b=some u)(heo:∃u,h'.get? e=some u):Un fs ex H (bH H x o) h h':=by
 have hx:∀b,H b=none->b≠x:=fun b n z=>by subst z;rw[n]at mu;exact mu
 have hb:∀b,H b=none->b≠e:=fun b n z=>by
  subst z;rcases he with r |r
  ·exact hx b n r
  ·rw[n]at r;cases r
 have hm:∀b u,H b=some u->¬ Yh (some u)->b≠x:=fun b u q nm z=>by subst z;rw[q]at mu;exact nm mu
 refine⟨fun b u q n _ _=>k b u (hb b n) q,fun b u q n _ _=>⟨u.slots,k b u (hb b n) q⟩,fun b u q n _=>by rw[aK (hx b n)];exact n,fun b u q _=>?_,
  fun b xs q=>by rw[aK (hm b _ q fun z=>z)];exact q,fun b u xs q=>by rw[aK (hm b _ q fun z=>z)];exact q,fun b ps q=>⟨#[],by rw[aK (hm b _ q fun z=>z),q];simp⟩⟩
 by_cases hbe:b=e
 ·subst hbe;exact heo
 ·exact⟨u,k b u hbe q⟩
end
noncomputable def Zw (h:Heap)(H:Hp):List Addr:=(aHd h.objs.size).filter fun a=>(H a).isSome
noncomputable def yE (h:Heap)(H:Hp):Heap:=PySem.W.hideAll h (Zw h H)
theorem JM(h:Heap)(H:Hp):(yE h H).objs.size=h.objs.size:=PySem.W.hideAll_size _ _
theorem Jw{b:Addr}{o:Obj}(e:h.get? b=some o)(n:H b=none):(yE h H).get? b=some o :=
 PySem.W.hideAll_get _ e fun hm=>by
  have q:(H b).isSome=true:=(aIH.mp hm).2;rw[n]at q;simp at q
theorem QB{b:Addr}{o:Obj}(e:(yE h H).get? b=some o):h.get? b=some o/\H b=none:=by
 have e':h.get? b=some o:=PySem.W.of_hideAll (Zw h H) e;refine⟨e',?_⟩;cases q:H b with
 |none=>rfl
 |some x =>
  have hm:b∈Zw h H:=aIH.mpr ⟨aHx.mpr (aF3 e'),by simp[q]⟩;have z:(yE h H).get? b=none:=PySem.W.hideAll_none (Zw h H) hm;rw[z]at e;cases e
structure Mod (K:PySem.W.Frag)(mg:Str->Option Value)(base:Heap):Prop where
 kin:K.In base
 glob:base.Ns mainGlobals mg
 blt:∃mb,base.Ns builtinsNs mb/\∀x:Str,x≠"__name__" -> mb x=bootBuiltins x
 nolimit:base.NoLimit
structure Cx where
 prog:Program
 w:World
 K:PySem.W.Frag
 mg:Str->Option Value
 base:Heap
 A:Around
 N:List Str
 s₀:Shared
 H₀:Hp
 env:Env
 outer:List Env
 stack:List Env
 ex:List Addr
 fn:Str->Bool
 calm:Bool
 pn:List (Addr×Obj)
 xe:Value->Shared->Prop
noncomputable def vQ (l:List Env):List Addr:=l.filterMap (·.frame)
noncomputable abbrev Cx.fs (X:Cx):List Addr:=vQ X.outer
def Zq (sc:Scope)(x:Str):Prop:=sc.names.lookup x=some .local∨sc.names.lookup x=some .cell∨sc.names.lookup x=some .free
def Loc (sc:Scope)(x:Str):Prop:=sc.names.lookup x=some .local∨sc.names.lookup x=some .cell
def Look (env:Env)(h:Heap)(m:Str->Option Value)(x:Str)(u:Value):Prop :=
 (env.kindOf x=some .local/\m x=some u)∨((env.kindOf x=some .cell∨env.kindOf x=some .free)/\∃c,env.cells.lookup x=some c/\h.IsCell c (some u))
structure Cx.Ok (X:Cx):Prop where
 mod:Mod X.K X.mg X.base
 kind:X.env.scope.kind=.function
 glob:X.env.globals=mainGlobals
 blt:X.env.builtins=builtinsNs
 above:X.s₀.heap.objs.size<=X.env.locals
 inj:∀x y c,X.env.cells.lookup x=some c->X.env.cells.lookup y=some c->x=y
 has:∀x,(X.env.kindOf x=some .cell∨X.env.kindOf x=some .free)->∃c,X.env.cells.lookup x=some c
 cab:∀x c,X.fn x=true->X.env.cells.lookup x=some c->X.s₀.heap.objs.size<=c
 hd:X.calm=true->X.A.handled=none
 frames:X.A.frames=some X.stack
 stk:X.stack=X.outer∨(X.stack=X.env::X.outer/\X.env.frame=some X.env.locals)
 exf:∀b∈X.ex,b≠X.env.locals/\∀x c,X.env.cells.lookup x=some c->c≠b
 bs:∀b o,X.base.get? b=some o->X.s₀.heap.get? b=some o/\X.H₀ b=none
 bsz:X.base.objs.size<=X.s₀.heap.objs.size
 noex:∀b o,X.base.get? b=some o->b∉X.ex
 exfs:∀b∈X.ex,b∉X.fs
 funs:X.s₀.heap.FunFrames X.base X.outer
 frf:∀b∈X.fs,X.H₀ b=none
structure bB (X:Cx)(pins:List (Addr×Obj))(σ:List (Option V))(H:Hp)(s:Shared):Prop where
 ok:X.Ok
 os:s.os=X.s₀.os
 bare:AllBare s.gens
 base:Un X.fs X.ex X.H₀ H X.s₀.heap s.heap
 loc:∃m,s.heap.Ns X.env.locals m/\∀(i:Nat) (x:Str) (v:V),X.N[i]? = some x->σ[i]? = some (some v)->Zq X.env.scope x->∃u,RelV v u/\Look X.env s.heap m x u
 cell:∀x c,X.env.cells.lookup x=some c->∃v,s.heap.IsCell c v
 free:H X.env.locals=none
 freeC:∀x c,X.env.cells.lookup x=some c->H c=none
 pin:∀p∈X.pn++pins,s.heap.get? p.1=some p.2/\H p.1=none/\p.1≠X.env.locals/\p.1∉X.fs/\∀v,p.2.data≠.cell v
 hok:pK X.prog X.w H s.heap
 len:σ.length=X.N.length
section
variable{X:Cx}{pins:List (Addr×Obj)}{σ:List (Option V)}{H H':Hp}{s:Shared}{h':Heap}
theorem Cx.Ok.nofr(ok:X.Ok){b:Addr}{o:Obj}(e:X.base.get? b=some o):b∉X.fs:=fun hb=>by
 have:=(ok.funs.mem hb).1;rw[e]at this;cases this
theorem bB.bs(I:bB X pins σ H s):∀b o,X.base.get? b=some o->s.heap.get? b=some o/\H b=none:=fun b o e =>
 ⟨I.base.keep b o (I.ok.bs b o e).1 (I.ok.bs b o e).2 (I.ok.nofr e) (I.ok.noex b o e),I.base.free b o (I.ok.bs b o e).1 (I.ok.bs b o e).2 (I.ok.noex b o e)⟩
theorem bB.bk(I:bB X pins σ H s):∀b o,X.base.get? b=some o->s.heap.get? b=some o:=fun b o e=>(I.bs b o e).1
theorem bB.mod(I:bB X pins σ H s):Mod X.K X.mg X.base:=I.ok.mod
theorem bB.kIn(I:bB X pins σ H s):X.K.In s.heap:=I.ok.mod.kin.keeps I.bk
theorem bB.nolimit(I:bB X pins σ H s):s.heap.NoLimit:=I.ok.mod.nolimit.keeps I.bk
theorem bB.lt(I:bB X pins σ H s):X.env.locals<s.heap.objs.size:=let⟨_,hn,_⟩:=I.loc;hn.lt
theorem bB.sz(I:bB X pins σ H s):X.s₀.heap.objs.size<=s.heap.objs.size:=aFN I.ok.above (aGt I.lt)
theorem bB.nofs(I:bB X pins σ H s){a:Addr}(h:s.heap.objs.size<=a):a∉X.fs:=fun hb=>by
 obtain⟨_,o,ho,_⟩:=I.ok.funs.mem hb;exact absurd (aGf (aF3 ho) (aFN I.sz h)) (aG2 _)
theorem bB.cne(I:bB X pins σ H s):∀x c,X.env.cells.lookup x=some c->c≠X.env.locals:=fun x c e z=>by
 obtain⟨v,o,ho,hd⟩:=I.cell x c e;obtain⟨m,⟨o',es,ep,ho',hd',_⟩,_⟩:=I.loc;rw[z,ho']at ho;cases ho;rw[hd']at hd;cases hd
theorem bB.funs(I:bB X pins σ H s):s.heap.FunFrames X.base X.outer:=by
 have all:∀(l:List Env),(∀b∈vQ l,b∈X.fs)->X.s₀.heap.FunFrames X.base l->s.heap.FunFrames X.base l:=by
  intro l
  induction l with
  |nil=>intro _ _;trivial
  |cons env r ih =>
   intro hs hl;obtain⟨hk,⟨L,o,hf,hn,ho,hd⟩,hr⟩:=hl;have hL:L∈X.fs:=hs L (by unfold vQ;rw[aHm,hf];exact aFL);obtain⟨sl,e⟩:=I.base.slot L o ho (I.ok.frf L hL) hL fun z=>I.ok.exfs L z hL;exact⟨hk,⟨L,_,hf,hn,e,hd⟩,ih (fun b hb=>hs b (by unfold vQ;rw[aHm,hf];exact aFK _ hb)) hr⟩
 exact all X.outer (fun _ hb=>hb) I.ok.funs
theorem bB.stack(I:bB X pins σ H s):s.heap.FunFrames X.base X.stack:=by
 rcases I.ok.stk with e | ⟨e,hf⟩
 ·rw[e];exact I.funs
 ·rw[e];obtain⟨m,hn,_⟩:=I.loc;refine .cons (by rw[I.ok.kind];decide) hf hn ?_ I.funs;exact Heap.get?_none_of_le (aFN I.ok.bsz I.ok.above)
theorem bB.stkSub(I:bB X pins σ H s):∀b∈vQ X.stack,b∈X.env.locals::X.fs:=fun b hb=>by
 rcases I.ok.stk with e | ⟨e,hf⟩
 ·rw[e]at hb;exact aFK _ hb
 ·rw[e]at hb;unfold vQ at hb;rw[aHm,hf]at hb;exact hb
theorem bB.stkFree(I:bB X pins σ H s):∀b∈vQ X.stack,H b=none:=fun b hb=>by
 rcases aGi.mp (I.stkSub b hb)with e |hb
 ·rw[e];exact I.free
 ·obtain⟨_,o,ho,_⟩:=I.ok.funs.mem hb;exact I.base.free b o ho (I.ok.frf b hb) fun z=>I.ok.exfs b z hb
variable{g':Array GenState}{ch:List Addr}
theorem bB.step{t':Nat}{d':Drawn}(I:bB X pins σ H s)
  (hch:∀b∈ch,(b∈X.ex∨X.s₀.heap.objs.size<=b)/\b≠X.env.locals/\(∀x c,X.env.cells.lookup x=some c->c≠b)/\∀p∈X.pn++pins,p.1≠b)
  (keep:∀b o,b≠X.env.locals->b∉X.fs->b∉ch->s.heap.get? b=some o->H b=none->h'.get? b=some o)
  (slot:∀b o,b≠X.env.locals->b∈X.fs->b∉ch->s.heap.get? b=some o->H b=none->∃sl,h'.get? b=some { o with slots:=sl }) (free:∀b o,b∉ch->s.heap.get? b=some o->H b=none->H' b=none)
  (there:∀b o,b∉ch->s.heap.get? b=some o->∃o',h'.get? b=some o')
  (tups:∀b xs,H b=some (.tup xs)->H' b=some (.tup xs)) (frzs:∀b o u,H b=some (.frz o u)->H' b=some (.frz o u)) (tbls:∀b ps,H b=some (.tbl ps)->∃more,H' b=some (.tbl (ps++more)))
  (ns:∀m,s.heap.Ns X.env.locals m->h'.Ns X.env.locals m) (hok:pK X.prog X.w H' h') (hg:AllBare g') :
  bB X pins σ H' { s with heap:=h',gens:=g',drawn:=d',toks:=t' }:=by
 have neL:∀b o,X.s₀.heap.get? b=some o->b≠X.env.locals:=fun b o e=>aGg (aGf (aF3 e) I.ok.above);have neC:∀b o,X.s₀.heap.get? b=some o->b∉X.ex->b∉ch:=fun b o e hx hb=>by
  rcases(hch b hb).1 with z |z
  ·exact hx z
  ·exact absurd (aGf (aF3 e) z) (aG2 _)
 have cellK:∀x c,X.env.cells.lookup x=some c->∀v,s.heap.IsCell c v->h'.IsCell c v:=fun x c e v ⟨o,ho,hd⟩=>by
  have nch:c∉ch:=fun z=>(hch c z).2.2.1 x c e rfl
  by_cases hc:c∈X.fs
  ·obtain⟨sl,q⟩:=slot c o (I.cne x c e) hc nch ho (I.freeC x c e);exact⟨_,q,hd⟩
  ·exact⟨o,keep c o (I.cne x c e) hc nch ho (I.freeC x c e),hd⟩
 refine⟨I.ok,I.os,hg,⟨fun b o e n hb hx=>?_,fun b o e n hb hx=>?_,fun b o e n hx=>?_,fun b o e hx=>?_,fun b xs e=>tups b xs (I.base.tups b xs e),fun b o xs e=>frzs b o xs (I.base.frzs b o xs e),fun b ps e=>?_⟩,?_,fun x c e=>?_,?_,fun x c e=>?_,fun p hp=>?_,hok,I.len⟩
 ·exact keep b o (neL b o e) hb (neC b o e hx) (I.base.keep b o e n hb hx) (I.base.free b o e n hx)
 ·obtain⟨sl,e1⟩:=I.base.slot b o e n hb hx;obtain⟨sl',e2⟩:=slot b _ (neL b o e) hb (neC b o e hx) e1 (I.base.free b o e n hx);exact⟨sl',e2⟩
 ·obtain⟨o',e1⟩:=I.base.there b o e hx;exact free b o' (neC b o e hx) e1 (I.base.free b o e n hx)
 ·obtain⟨o',e1⟩:=I.base.there b o e hx;exact there b o' (neC b o e hx) e1
 ·obtain⟨m1,e1⟩:=I.base.tbls b ps e;obtain⟨m2,e2⟩:=tbls b _ e1;exact⟨m1++m2,by rw[e2,aIn]⟩
 ·obtain⟨m,hn,hl⟩:=I.loc;refine⟨m,ns m hn,fun i x v e1 e2 e3=>?_⟩;obtain⟨u,r,l⟩:=hl i x v e1 e2 e3;refine⟨u,r,?_⟩;rcases l with l | ⟨k,c,e,z⟩
  ·exact .inl l
  ·exact .inr ⟨k,c,e,cellK x c e _ z⟩
 ·obtain⟨v,z⟩:=I.cell x c e;exact⟨v,cellK x c e v z⟩
 ·obtain⟨m,⟨o,_,_,ho,_⟩,_⟩:=I.loc;exact free _ o (fun z=>(hch _ z).2.1 rfl) ho I.free
 ·obtain⟨v,o,ho,hd⟩:=I.cell x c e;exact free c o (fun z=>(hch c z).2.2.1 x c e rfl) ho (I.freeC x c e)
 ·obtain⟨e,n,ne,nf,d⟩:=I.pin p hp;have nch:p.1∉ch:=fun z=>(hch p.1 z).2.2.2 p hp rfl;exact⟨keep p.1 p.2 ne nf nch e n,free p.1 p.2 nch e n,ne,nf,d⟩
theorem bB.un{t':Nat}(I:bB X pins σ H s)(u:Un X.fs [] H H' s.heap h')(hok:pK X.prog X.w H' h'):bB X pins σ H' { s with heap:=h',toks:=t' }:=by
 obtain⟨m,⟨o,es,ep,ho,r⟩,_⟩:=id I.loc;obtain⟨sl,hL⟩:=u.any ho I.free (by simp);exact I.step (g':=s.gens) (d':=s.drawn) (ch:=[]) (fun _ z=>nomatch z) (fun b o _ hb _ e n=>u.keep b o e n hb (by simp)) (fun b o _ hb _ e n=>u.slot b o e n hb (by simp)) (fun b o _ e n=>u.free b o e n (by simp)) (fun b o _ e=>u.there b o e (by simp)) u.tups u.frzs u.tbls (fun m' hm=>by
  obtain⟨o',es',ep',ho',r'⟩:=hm;rw[ho]at ho';cases ho';exact⟨_,es',ep',hL,r'⟩) hok I.bare
theorem bB.call{t':Nat}{d':Drawn}(I:bB X pins σ H s)(u:Un (vQ X.stack) ch H H' s.heap h')(hok:pK X.prog X.w H' h')(hg:AllBare g')
  (hch:∀b∈ch,(b∈X.ex∨X.s₀.heap.objs.size<=b)/\b≠X.env.locals/\(∀x c,X.env.cells.lookup x=some c->c≠b)/\∀p∈X.pn++pins,p.1≠b) :
  bB X pins σ H' { s with heap:=h',gens:=g',drawn:=d',toks:=t' }:=by
 obtain⟨m,⟨o,es,ep,ho,r⟩,_⟩:=id I.loc;obtain⟨sl,hL⟩:=u.any ho I.free fun z=>(hch _ z).2.1 rfl;exact I.step (ch:=ch) hch (fun b o hL hb hc e n=>u.keep b o e n (fun z=>(aGi.mp (I.stkSub b z)).elim hL hb) hc) (fun b o _ _ hc e n=>u.any e n hc) (fun b o hc e n=>u.free b o e n hc) (fun b o hc e=>u.there b o e hc) u.tups u.frzs u.tbls (fun m' hm=>by
  obtain⟨o',es',ep',ho',r'⟩:=hm;rw[ho]at ho';cases ho';exact⟨_,es',ep',hL,r'⟩) hok hg
theorem bB.turned{t':Nat}{it:Addr}(I:bB X pins σ H s)(k:∀b o,b≠it->s.heap.get? b=some o->h'.get? b=some o)(hn:H it=none)(hL:it≠X.env.locals)
  (h1:it∈X.ex∨X.s₀.heap.objs.size<=it) (h2:∀x c,X.env.cells.lookup x=some c->c≠it) (h3:∀p∈X.pn++pins,p.1≠it):bB X pins σ H { s with heap:=h',toks:=t' }:=by
 have nit:∀b u,H b=some u->b≠it:=fun b u e z=>by rw[z,hn]at e;cases e
 refine I.step (g':=s.gens) (d':=s.drawn) (ch:=[it]) (fun b hb=>?_) (fun b o _ _ hc e _=>k b o (fun z=>hc (by simp[z])) e) (fun b o _ _ hc e _=>⟨o.slots,k b o (fun z=>hc (by simp[z])) e⟩) (fun _ _ _ _ n=>n)
  (fun b o hc e=>⟨o,k b o (fun z=>hc (by simp[z])) e⟩) (fun _ _ e=>e) (fun _ _ _ e=>e) (fun b ps e=>⟨#[],by rw[e];simp⟩) (fun m hm=>?_) (fun b u e=>?_) I.bare
 ·have e:b=it:=by simpa using hb
  subst e;exact⟨h1,hL,h2,h3⟩
 ·obtain⟨o,es,ep,ho,r⟩:=hm;exact⟨o,es,ep,k _ o (Ne.symm hL) ho,r⟩
 ·refine(I.hok b u e).stay (fun c v hc q=>k c v ?_ q) (fun _ q=>q) fun _ _ q=>q;rcases hc with z |z
  ·rw[z];exact nit b u e
  ·exact nit c _ z
theorem bB.tok(I:bB X pins σ H s)(t:Nat):bB X pins σ H { s with toks:=t }:=I.un (h':=s.heap) (t':=t) Un.refl I.hok
theorem bB.kept{t':Nat}(I:bB X pins σ H s)(k:∀b u,s.heap.get? b=some u->h'.get? b=some u):bB X pins σ H { s with heap:=h',toks:=t' }:=I.un (Un.kept k) (I.hok.kept k)
theorem bB.laid{a:Addr}{o:HO}{t':Nat}(I:bB X pins σ H s)(k:∀b u,s.heap.get? b=some u->h'.get? b=some u)(hp:s.heap.objs.size<=a)(new:cX X.prog X.w (bH H a o) h' a o) :
  bB X pins σ (bH H a o) { s with heap:=h',toks:=t' }:=I.un (Un.laid k hp (I.hok.fresh hp)) (I.hok.laid k hp new)
theorem bB.write{x e:Addr}{o:HO}{t':Nat}(I:bB X pins σ H s)(mu:Yh (H x))(he:e=x∨H e=some (.own x))(k:∀b u,b≠e->s.heap.get? b=some u->h'.get? b=some u)(heo:∃u,h'.get? e=some u)
  (new:cX X.prog X.w (bH H x o) h' x o):bB X pins σ (bH H x o) { s with heap:=h',toks:=t' }:=I.un (Un.write mu he k heo) (I.hok.write mu he k heo new)
theorem bB.pins_of{pins':List (Addr×Obj)}(I:bB X pins σ H s)(h:∀p∈pins',s.heap.get? p.1=some p.2/\H p.1=none/\p.1≠X.env.locals/\p.1∉X.fs/\∀v,p.2.data≠.cell v):bB X pins' σ H s :=
 ⟨I.ok,I.os,I.bare,I.base,I.loc,I.cell,I.free,I.freeC,fun p hp=>(aGc.mp hp).elim (fun z=>I.pin p (aGL _ z)) (h p),I.hok,I.len⟩
variable{i:Nat}{x:Str}
theorem Cv{N:List Str}(hN:N.Nodup){j:Nat}(a:N[i]? = some x)(b:N[j]? = some x):i=j:=by
 obtain⟨h1,e1⟩:=aFU.mp a;obtain⟨h2,e2⟩:=aFU.mp b;exact(List.getElem_inj hN).mp (e1.trans e2.symm)
theorem yW{M:Model}{A:Around}{E:Value->Shared->Prop}{v:V}{u:Value}{Q:Unit->Shared->Prop}(I:bB X pins σ H s)(hN:X.N.Nodup)(hi:X.N[i]? = some x)(hx:Loc X.env.scope x)(r:RelV v u)
  (h:∀s',bB X pins (σ.set i (some v)) H s'->(∃a,aGC a s.heap s'.heap/\(a=X.env.locals∨X.env.cells.lookup x=some a))->Q () s') (hf:X.fn x=true∨X.env.scope.names.lookup x=some .local:=by first |exact .inl rfl |exact .inr rfl |assumption):wpAny M A (storeName X.env x u) Q E s:=by
 obtain⟨m,hn,hl⟩:=id I.loc;have hcls:(X.env.scope.kind==.class||(X.env.scope.kind==.module&&X.env.locals != X.env.globals))=false:=by rw[I.ok.kind];rfl
 have hiσ:i < σ.length:=by rw[I.len];exact(aFU.mp hi).1
 have cne:=I.cne;have tracked:∀{a:Addr}{h':Heap},(∃o,s.heap.get? a=some o/\H a=none)->aGC a s.heap h'->pK X.prog X.w H h':=fun{a h'} ha hs b ob e=>by
  obtain⟨_,_,hfree⟩:=ha;refine(I.hok b ob e).stay (fun c w' hc q=>(hs.2 c ?_).trans q) (fun _ q=>q) fun _ _ q=>q;rintro rfl;rcases hc with rfl |hc
  ·rw[hfree]at e;cases e
  ·rw[hfree]at hc;cases hc
 rcases hx with hk |hk
 ·refine wpAny_storeName_local hk hn (fun h' hn' hs=>?_) hcls;obtain⟨oL,_,_,hoL,_⟩:=id hn;refine h _ ⟨I.ok,I.os,I.bare,⟨fun b o e n hb hx=>?_,fun b o e n hb hx=>?_,I.base.free,fun b o e hx=>?_,I.base.tups,I.base.frzs,I.base.tbls⟩,⟨_,hn',fun j y v' e1 e2 e3=>?_⟩,fun y c e=>?_,I.free,I.freeC,fun p hp=>?_,tracked ⟨oL,hoL,I.free⟩ hs,by simpa using I.len⟩ ⟨_,hs,.inl rfl⟩
  ·exact(hs.2 b (aGg (aGf (aF3 e) I.ok.above))).trans (I.base.keep b o e n hb hx)
  ·obtain⟨sl,e1⟩:=I.base.slot b o e n hb hx;exact⟨sl,(hs.2 b (aGg (aGf (aF3 e) I.ok.above))).trans e1⟩
  ·obtain⟨o',e1⟩:=I.base.there b o e hx;exact⟨o',(hs.2 b (aGg (aGf (aF3 e) I.ok.above))).trans e1⟩
  ·by_cases hj:j=i
   ·subst hj;rw[hi]at e1;cases e1;rw[aH1 hiσ]at e2;cases e2;exact⟨u,r,.inl ⟨hk,by simp⟩⟩
   ·rw[aIe (Ne.symm hj)]at e2;obtain⟨u',r',q⟩:=hl j y v' e1 e2 e3;refine⟨u',r',?_⟩;rcases q with⟨k,e⟩ | ⟨k,c,e,z⟩
    ·refine .inl ⟨k,?_⟩;have:y≠x:=fun e=>hj (Cv hN e1 (e ▸ hi));simp[this,e]
    ·exact .inr ⟨k,c,e,z.sameBut hs (cne y c e)⟩
  ·obtain⟨w',z⟩:=I.cell y c e;exact⟨w',z.sameBut hs (cne y c e)⟩
  ·obtain⟨e,n,ne,nf,d⟩:=I.pin p hp;exact⟨(hs.2 p.1 ne).trans e,n,ne,nf,d⟩
 ·have hfn:X.fn x=true:=by
   rcases hf with z |z
   ·exact z
   ·rw[z]at hk;cases hk
  obtain⟨c,hc⟩:=I.ok.has x (.inl hk);obtain⟨w',z⟩:=I.cell x c hc;refine wpAny_storeName_cell I.ok.kind hk hc z (fun h' hc' hs=>?_);obtain⟨oc,hoc,hocd⟩:=id z;refine h { s with heap:=h' } ⟨I.ok,I.os,I.bare,⟨fun b o e n hb hx=>?_,fun b o e n hb hx=>?_,I.base.free,fun b o e hx=>?_,I.base.tups,I.base.frzs,I.base.tbls⟩,⟨m,hn.sameBut hs (Ne.symm (cne x c hc)),fun j y v' e1 e2 e3=>?_⟩,fun y c' e=>?_,I.free,I.freeC,fun p hp=>?_,tracked ⟨oc,hoc,I.freeC x c hc⟩ hs,by simpa using I.len⟩ ⟨c,hs,.inr hc⟩
  ·exact(hs.2 b (aGg (aGf (aF3 e) (I.ok.cab x c hfn hc)))).trans (I.base.keep b o e n hb hx)
  ·obtain⟨sl,e1⟩:=I.base.slot b o e n hb hx;exact⟨sl,(hs.2 b (aGg (aGf (aF3 e) (I.ok.cab x c hfn hc)))).trans e1⟩
  ·obtain⟨o',e1⟩:=I.base.there b o e hx;exact⟨o',(hs.2 b (aGg (aGf (aF3 e) (I.ok.cab x c hfn hc)))).trans e1⟩
  ·by_cases hj:j=i
   ·subst hj;rw[hi]at e1;cases e1;rw[aH1 hiσ]at e2;cases e2;exact⟨u,r,.inr ⟨.inl hk,c,hc,hc'⟩⟩
   ·rw[aIe (Ne.symm hj)]at e2;obtain⟨u',r',q⟩:=hl j y v' e1 e2 e3;refine⟨u',r',?_⟩;rcases q with q | ⟨k,c',e,z'⟩
    ·exact .inl q
    ·refine .inr ⟨k,c',e,z'.sameBut hs ?_⟩;rintro rfl;exact hj (Cv hN e1 (I.ok.inj _ _ _ e hc ▸ hi))
  ·by_cases hcc:c'=c
   ·subst hcc;exact⟨_,hc'⟩
   ·obtain⟨w2,z2⟩:=I.cell y c' e;exact⟨w2,z2.sameBut hs hcc⟩
  ·obtain⟨e,n,ne,nf,d⟩:=I.pin p hp;refine⟨(hs.2 p.1 ?_).trans e,n,ne,nf,d⟩;intro q;rw[q,hoc]at e;have q':oc=p.2:=aGU.inj e;exact d w' (by rw[<-q'];exact hocd)
theorem Em{M:Model}{A:Around}{E:Value->Shared->Prop}{v:V}{u:Value}{Q:Unit->Shared->Prop}(I:bB X pins σ H s)(hN:X.N.Nodup)(hi:X.N[i]? = some x)(hx:Loc X.env.scope x)(r:RelV v u)
  (h:∀s',bB X pins (σ.set i (some v)) H s'->Q () s') (hf:X.fn x=true∨X.env.scope.names.lookup x=some .local:=by first |exact .inl rfl |exact .inr rfl |assumption):wpAny M A (storeName X.env x u) Q E s :=
 yW I hN hi hx r (fun s' I' _=>h s' I') hf
theorem bB.call'{s':Shared}(I:bB X pins σ H s)(ho:s'.os=s.os)(u:Un (vQ X.stack) ch H H' s.heap s'.heap)(hok:pK X.prog X.w H' s'.heap)(hg:AllBare s'.gens)
  (hch:∀b∈ch,(b∈X.ex∨X.s₀.heap.objs.size<=b)/\b≠X.env.locals/\(∀x c,X.env.cells.lookup x=some c->c≠b)/\∀p∈X.pn++pins,p.1≠b):bB X pins σ H' s':=by
 obtain⟨h',g',d',t',o'⟩:=s';have e:o'=s.os:=ho;subst e;exact I.call (g':=g') (t':=t') (d':=d') u hok hg hch
end
noncomputable abbrev XK:=Value->Option Addr->Hp->Prop
noncomputable abbrev St:=List (Option V)
noncomputable abbrev VK:=V->Hp->Prop
noncomputable abbrev TE:=St->Hp->VK->Prop
noncomputable abbrev TT:=St->Hp->(Bool->Hp->Prop)->Prop
noncomputable abbrev TA:=St->Hp->(List V->Hp->Prop)->Prop
structure Ends where
 nx:St->Hp->Prop
 rt:VK
 bk:St->Hp->Prop:=fun _ _=>False
 ct:St->Hp->Prop:=fun _ _=>False
noncomputable abbrev TS:=Ends->St->Hp->Prop
def EP (X:Cx)(pins:List (Addr×Obj))(σ:St)(Q:VK)(u:Value)(s':Shared):Prop:=∃v H',bB X pins σ H' s'/\RelV v u/\Q v H'
def TP (X:Cx)(pins:List (Addr×Obj))(σ:St)(Q:Bool->Hp->Prop)(b:Bool)(s':Shared):Prop:=∃H',bB X pins σ H' s'/\Q b H'
def AP (X:Cx)(pins:List (Addr×Obj))(σ:St)(Q:List V->Hp->Prop)(us:List Value)(s':Shared):Prop:=∃vs H',bB X pins σ H' s'/\cL vs us/\Q vs H'
def SP (X:Cx)(pins:List (Addr×Obj))(D:Ends)(f:Flow)(s':Shared):Prop :=
 match f with
 | .next=>∃σ' H',bB X pins σ' H' s'/\D.nx σ' H'
 | .brk=>∃σ' H',bB X pins σ' H' s'/\D.bk σ' H'
 | .cont=>∃σ' H',bB X pins σ' H' s'/\D.ct σ' H'
 | .ret u=>∃v σ' H',bB X pins σ' H' s'/\RelV v u/\D.rt v H'
def PE (X:Cx)(e:Expr)(t:TE):Prop :=
 ∀(pins:List (Addr×Obj)) (s:Shared) (σ:St) (H:Hp) (Q:VK),bB X pins σ H s->t σ H Q->wpAny (model X.prog X.w) X.A (eval e X.env) (EP X pins σ Q) X.xe s
def PT (X:Cx)(e:Expr)(t:TT):Prop :=
 ∀(pins:List (Addr×Obj)) (s:Shared) (σ:St) (H:Hp) (Q:Bool->Hp->Prop),bB X pins σ H s->t σ H Q->wpAny (model X.prog X.w) X.A (isTrue e X.env (eval e X.env)) (TP X pins σ Q) X.xe s
def PW (X:Cx)(e:Expr)(t:TT):Prop :=
 ∀(whole:Sem Value) (pins:List (Addr×Obj)) (s:Shared) (σ:St) (H:Hp) (Q:Bool->Hp->Prop),bB X pins σ H s->t σ H Q->wpAny (model X.prog X.w) X.A (isTrue e X.env whole) (TP X pins σ Q) X.xe s
variable{X:Cx}
theorem PW.pt{e:Expr}{t:TT}(h:PW X e t):PT X e t:=h _
def PA (X:Cx)(es:List Expr)(t:TA):Prop :=
 ∀(pos:Pos) (pins:List (Addr×Obj)) (s:Shared) (σ:St) (H:Hp) (Q:List V->Hp->Prop),bB X pins σ H s->t σ H Q->wpAny (model X.prog X.w) X.A (spliced (backTo pos (starEach es X.env))) (AP X pins σ Q) X.xe s
def PS (X:Cx)(st:Stmt)(t:TS):Prop :=
 ∀(pins:List (Addr×Obj)) (s:Shared) (σ:St) (H:Hp) (D:Ends),bB X pins σ H s->t D σ H->wpAny (model X.prog X.w) X.A (exec st X.env) (SP X pins D) X.xe s
def yC (X:Cx)(st:List Stmt)(t:TS):Prop :=
 ∀(pins:List (Addr×Obj)) (s:Shared) (σ:St) (H:Hp) (D:Ends),bB X pins σ H s->t D σ H->wpAny (model X.prog X.w) X.A (execs st X.env) (SP X pins D) X.xe s
variable{A:Around}{s:Shared}
theorem eO{α:Type}{t:Sem α}{Q Q':α->Shared->Prop}{M:Model}{E:Value->Shared->Prop}(h:wpAny M A t Q E s)(hQ:∀a s,Q a s->Q' a s):wpAny M A t Q' E s:=wpAny_mono h hQ fun _ _ x=>x
section
variable{X:Cx}
variable{s:Shared}{σ:St}{H:Hp}
theorem bin{a b:Expr}{ta tb:TE}(ha:PE X a ta)(hb:PE X b tb){pins:List (Addr×Obj)}{R:V->V->Hp->Prop}(I:bB X pins σ H s)(h:ta σ H fun x H1=>tb σ H1 fun y H2=>R x y H2)
  {α:Type}{Q:α->Shared->Prop}{f:Value->Value->Sem α}
  (hf:∀v u s2 x y H2,bB X pins σ H2 s2->RelV x v->RelV y u->R x y H2->wpAny (model X.prog X.w) X.A (f v u) Q X.xe s2) :
  wpAny (model X.prog X.w) X.A (eval a X.env) (fun v s₁=>wpAny (model X.prog X.w) X.A (eval b X.env) (fun u s₂=>wpAny (model X.prog X.w) X.A (f v u) Q X.xe s₂) X.xe s₁) X.xe s:=by
 refine eO (ha pins s σ H _ I h) fun v s1 ⟨x,H1,I1,r1,q1⟩=>?_;refine eO (hb pins s1 σ H1 _ I1 q1) fun u s2 ⟨y,H2,I2,r2,q2⟩=>?_;exact hf v u s2 x y H2 I2 r1 r2 q2
inductive VN (i:Nat)(σ:St)(H:Hp)(Q:VK):Prop
 |mk (v:_) (_:σ[i]? = some (some v)) (_:Q v H)
noncomputable def vV (i:Nat):TE:=fun σ H Q=>VN i σ H Q
noncomputable def tC (v:V):TE:=fun _ H Q=>Q v H
variable{x:Str}
theorem Lr{i:Nat}{pos:Pos}(hN:X.N[i]? = some x)(hv:Zq X.env.scope x)(hd:(x==("__debug__" : Str))=false:=by decide)(hcd:(x==("__classdict__" : Str))=false:=by decide):PE X (.Name x pos) (vV i):=by
 intro pins s σ H Q I h;obtain⟨v,e,h⟩:=h;obtain⟨m,hn,hl⟩:=I.loc;obtain⟨u,r,l⟩:=hl i x v hN e hv;have fin:EP X pins σ Q u s:=⟨v,H,I,r,h⟩
 rcases l with⟨hk,hm⟩ | ⟨hk,c,hc,hcell⟩
 ·exact wpAny_Name (wpAny_loadName_local I.ok.kind hk hn hm fin) hd
 ·rcases hk with hk |hk
  ·exact wpAny_Name (wpAny_loadName_cell I.ok.kind hk hc hcell fin) hd
  ·exact wpAny_Name (wpAny_loadName_free I.ok.kind hk hc hcell fin hcd) hd
theorem aL{i j pos}:PE X (.Constant (.int i) j pos) (tC (.int i)):=fun _ _ _ H _ I h=>wpAny_Constant_int ⟨.int i,H,I.tok _,⟨_,rfl⟩,h⟩
theorem mR{b j pos}:PE X (.Constant (.bool b) j pos) (tC (.bl b)):=fun _ _ _ H _ I h=>Constant_bool ⟨.bl b,H,I,rfl,h⟩
theorem Mr{j pos}:PE X (.Constant .none j pos) (tC .non):=fun _ _ _ H _ I h=>Constant_none ⟨.non,H,I,rfl,h⟩
theorem cI{x j pos}:PE X (.Constant (.str x) j pos) (tC (.str x)):=fun _ _ _ H _ I h=>Calls.Constant_str ⟨.str x,H,I.tok _,⟨_,rfl⟩,h⟩
def Gl (X:Cx)(x:Str):Prop:=X.env.kindOf x=some .globalImplicit
theorem pL{E:Value->Shared->Prop}{pins:List (Addr×Obj)}{u:Value}{pos:Pos}{Q:Value->Shared->Prop}(I:bB X pins σ H s)(hg:Gl X x)(hm:X.mg x=some u)(h:Q u s)
  (hd:(x==("__debug__" : Str))=false:=by decide):wpAny (model X.prog X.w) X.A (eval (.Name x pos) X.env) Q E s :=
 Calls.Name_function_global I.ok.kind hg (Calls.loadGlobal_global (by rw[I.ok.glob];exact I.mod.glob.keeps I.bk) hm h) hd
theorem tW{E:Value->Shared->Prop}{pins:List (Addr×Obj)}{u:Value}{pos:Pos}{Q:Value->Shared->Prop}(I:bB X pins σ H s)(hg:Gl X x)(hm:X.mg x=none)(hv:bootBuiltins x=some u)(h:Q u s)
  (hn:x≠"__name__":=by decide) (hd:(x==("__debug__" : Str))=false:=by decide):wpAny (model X.prog X.w) X.A (eval (.Name x pos) X.env) Q E s:=by
 obtain⟨mb,h1,h2⟩:=I.mod.blt;exact Calls.Name_function_global I.ok.kind hg (Calls.loadGlobal_builtin (by rw[I.ok.glob];exact I.mod.glob.keeps I.bk) hm (by rw[I.ok.blt];exact h1.keeps I.bk) ((h2 x hn).trans hv) h) hd
theorem bU{v:V}{u:Value}{pos:Pos}(hg:Gl X x)(hm:X.mg x=some u)(r:RelV v u)(hd:(x==("__debug__" : Str))=false:=by decide):PE X (.Name x pos) (tC v) :=
 fun _ _ _ H _ I h=>pL I hg hm ⟨v,H,I,r,h⟩ hd
theorem eY{v:V}{u:Value}{pos:Pos}(hg:Gl X x)(hm:X.mg x=none)(hv:bootBuiltins x=some u)(r:RelV v u)(hn:x≠"__name__":=by decide)(hd:(x==("__debug__" : Str))=false:=by decide):PE X (.Name x pos) (tC v) :=
 fun _ _ _ H _ I h=>tW I hg hm hv ⟨v,H,I,r,h⟩ hn hd
variable{a b:Expr}{ta tb:TE}{pos:Pos}
def PC (X:Cx)(op:CmpOp)(a b:Expr)(t:TE):Prop :=
 ∀(pins:List (Addr×Obj)) (s:Shared) (σ:St) (H:Hp) (Q:VK),bB X pins σ H s->t σ H Q ->
  wpAny (model X.prog X.w) X.A (eval a X.env) (fun v s₁=>wpAny (model X.prog X.w) X.A (eval b X.env) (fun u s₂=>wpAny (model X.prog X.w) X.A (compareOp op v u) (EP X pins σ Q) X.xe s₂) X.xe s₁) X.xe s
theorem Ls(b:Expr){op:CmpOp}(h:op≠.In)(h2:op≠.NotIn):behindInMarks op b=false:=by
 have e1:(op==CmpOp.In)=false:=by cases op <;> first |rfl |exact absurd rfl h
 have e2:(op==CmpOp.NotIn)=false:=by cases op <;> first |rfl |exact absurd rfl h2
 cases b <;> simp[behindInMarks,e1,e2]
inductive aA4 (Q:Bool->Hp->Prop)(x:V)(H1:Hp):Prop
 |mk (c:_) (_:x=.bl c) (_:Q c H1)
noncomputable def tB (t:TE):TT:=fun σ H Q=>t σ H fun x H1=>aA4 Q x H1
theorem aAK{op:CmpOp}{t:TE}(h:PC X op a b t)(h1:behindInMarks op b=false:=by first |exact Ls _ (by decide) (by decide) |rfl):PT X (.Compare a [op] [b] pos) (tB t):=by
 intro pins s σ H Q I hw;refine wpAny_isTrue_Compare1 (eO (h pins s σ H _ I hw) fun v s1 h1=>eO h1 fun u s2 h2=>eO h2 fun c s3 ⟨x,H1,I1,r1,q1⟩=>?_) h1;obtain⟨d,rfl,q⟩:=q1;cases r1;exact wpAny_truthy_bool ⟨H1,I1,q⟩
theorem bQ{e:Expr}{t:TE}(h:PE X e t)(he:∀whole,isTrue e X.env whole=(do let v <-whole;standAt e.pos;holding [v] (truthy v)):=by intro _;rfl):PT X e (tB t):=by
 intro pins s σ H Q I hw;refine isTrue_plain (eO (h pins s σ H _ I hw) fun v s1 ⟨x,H1,I1,r1,q1⟩=>?_) (he _);obtain⟨d,rfl,q⟩:=q1;cases r1;exact wpAny_truthy_bool ⟨H1,I1,q⟩
variable{tA tB':TT}{rest:List Expr}
noncomputable def aAI (t u:TT):TT:=fun σ H Q=>t σ H fun c H1=>if c=true then u σ H1 Q else Q false H1
noncomputable def tOr (t u:TT):TT:=fun σ H Q=>t σ H fun c H1=>if c=true then Q true H1 else u σ H1 Q
noncomputable def Xi (t:TT):TT:=fun σ H Q=>t σ H fun c H1=>Q (!c) H1
theorem jW(ha:PT X a tA):PW X (.BoolOp .And [a] pos) tA:=by
 intro wh pins s σ H Q I h;refine isTrue_and (eO (ha pins s σ H Q I h) fun c s1 e=>?_);cases c with
 |true=>exact isTrue_and_nil e
 |false=>exact e
theorem gM(ha:PT X a tA):PW X (.BoolOp .Or [a] pos) tA:=by
 intro wh pins s σ H Q I h;refine isTrue_or (eO (ha pins s σ H Q I h) fun c s1 e=>?_);cases c with
 |false=>exact isTrue_or_nil e
 |true=>exact e
theorem m5(ha:PT X a tA)(hb:PW X (.BoolOp .And (b::rest) pos) tB'):PW X (.BoolOp .And (a::b::rest) pos) (aAI tA tB'):=by
 intro wh pins s σ H Q I h;refine isTrue_and (eO (ha pins s σ H _ I h) fun c s1 ⟨H1,I1,q1⟩=>?_);cases c with
 |true=>exact hb wh pins s1 σ H1 Q I1 q1
 |false=>exact⟨H1,I1,q1⟩
theorem iU(ha:PT X a tA)(hb:PW X (.BoolOp .Or (b::rest) pos) tB'):PW X (.BoolOp .Or (a::b::rest) pos) (tOr tA tB'):=by
 intro wh pins s σ H Q I h;refine isTrue_or (eO (ha pins s σ H _ I h) fun c s1 ⟨H1,I1,q1⟩=>?_);cases c with
 |true=>exact⟨H1,I1,q1⟩
 |false=>exact hb wh pins s1 σ H1 Q I1 q1
theorem cF(ha:PT X a tA):PT X (.UnaryOp .Not a pos) (Xi tA):=by
 intro pins s σ H Q I h;exact isTrue_not (ha pins s σ H (fun c H1=>Q (!c) H1) I h)
inductive Qd (tb:TE)(σ:St)(Q:VK)(x:V)(H1:Hp):Prop
 |mk (c:_) (_:x=.bl c) (_:if c=true then tb σ H1 Q else Q (.bl false) H1)
noncomputable def Qz (ta tb:TE):TE:=fun σ H Q=>ta σ H fun x H1=>Qd tb σ Q x H1
inductive TY (tb:TE)(σ:St)(Q:VK)(x:V)(H1:Hp):Prop
 |mk (c:_) (_:x=.bl c) (_:if c=true then Q (.bl true) H1 else tb σ H1 Q)
noncomputable def aA9 (ta tb:TE):TE:=fun σ H Q=>ta σ H fun x H1=>TY tb σ Q x H1
inductive Q7 (Q:VK)(x:V)(H1:Hp):Prop
 |mk (c:_) (_:x=.bl c) (_:Q (.bl (!c)) H1)
noncomputable def ZP (ta:TE):TE:=fun σ H Q=>ta σ H fun x H1=>Q7 Q x H1
theorem w5{op}{t:TE}(h:PE X a t):PE X (.BoolOp op [a] pos) t:=fun pins s σ H Q I hw=>BoolOp_one (h pins s σ H Q I hw)
theorem xC(ha:PE X a ta)(hb:PE X (.BoolOp .And (b::rest) pos) tb):PE X (.BoolOp .And (a::b::rest) pos) (Qz ta tb):=by
 intro pins s σ H Q I h;refine BoolOp_and (eO (ha pins s σ H _ I h) fun v s1 ⟨x,H1,I1,r1,q1⟩=>?_);obtain⟨c,rfl,q1⟩:=q1;cases r1;refine wpAny_truthy_bool ?_;cases c with
 |true=>exact hb pins s1 σ H1 Q I1 q1
 |false=>exact⟨.bl false,H1,I1,rfl,q1⟩
theorem Xq(ha:PE X a ta)(hb:PE X (.BoolOp .Or (b::rest) pos) tb):PE X (.BoolOp .Or (a::b::rest) pos) (aA9 ta tb):=by
 intro pins s σ H Q I h;refine BoolOp_or (eO (ha pins s σ H _ I h) fun v s1 ⟨x,H1,I1,r1,q1⟩=>?_);obtain⟨c,rfl,q1⟩:=q1;cases r1;refine wpAny_truthy_bool ?_;cases c with
 |false=>exact hb pins s1 σ H1 Q I1 q1
 |true=>exact⟨.bl true,H1,I1,rfl,q1⟩
theorem Fp(ha:PE X a ta):PE X (.UnaryOp .Not a pos) (ZP ta):=by
 intro pins s σ H Q I h;refine UnaryOp_ (eO (ha pins s σ H _ I h) fun v s1 ⟨x,H1,I1,r1,q1⟩=>?_);obtain⟨c,rfl,q1⟩:=q1;cases r1;exact not_of (wpAny_truthy_bool ⟨.bl (!c),H1,I1,rfl,q1⟩)
noncomputable def tIf (t:TT)(ta tb:TE):TE:=fun σ H Q=>t σ H fun c H1=>if c=true then ta σ H1 Q else tb σ H1 Q
theorem FZ{c:Expr}(hc:PT X c tA)(ha:PE X a ta)(hb:PE X b tb):PE X (.IfExp c a b pos) (tIf tA ta tb):=by
 intro pins s σ H Q I h;refine wpAny_IfExp (eO (hc pins s σ H _ I h) fun d s1 ⟨H1,I1,q1⟩=>?_);cases d with
 |true=>exact ha pins s1 σ H1 Q I1 q1
 |false=>exact hb pins s1 σ H1 Q I1 q1
end
def bV (K:PySem.W.Frag)(H:Hp)(a:Addr)(xs:List V):Prop :=
 Rd H a (.lst xs) ∨
  ∃(o:Obj) (its:Array Value) (n:Nat),K.lookup a=some o/\o.cls=.type "list"/\o.dict=none/\o.data=.seq its n/\its.size<=sizeLine/\cL xs its.toList
def dN (K:PySem.W.Frag)(H:Hp)(a:Addr)(xs:List V):Prop :=
 Rd H a (.tup xs) ∨
  ∃(o:Obj) (its:Array Value) (n:Nat),K.lookup a=some o/\o.cls=.type "tuple"/\o.data=.seq its n/\its.size<=sizeLine/\cL xs its.toList
noncomputable def aAi:Value->Option V
 | .none=>some .non
 | .bool b=>some (.bl b)
 | .int i _=>some (.int i)
 | .str x _=>some (.str x)
 | .bytes b _=>some (.byt b)
 | .float b _=>some (.flt b)
 | .ref a=>some (.ref a)
 | .type n=>some (.ty n)
 |_=>none
theorem RelV.abs{x:V}{u:Value}(r:RelV x u):aAi u=some x:=by
 cases x with
 |non=>cases r;rfl
 |bl _=>cases r;rfl
 |int _=>obtain⟨t,rfl⟩:=r;rfl
 |str _=>obtain⟨t,rfl⟩:=r;rfl
 |byt _=>obtain⟨t,rfl⟩:=r;rfl
 |flt _=>obtain⟨t,rfl⟩:=r;rfl
 |ref _=>cases r;rfl
 |ty _=>cases r;rfl
theorem RelV.inj{x y:V}{u:Value}(r:RelV x u)(q:RelV y u):x=y:=aGU.inj (r.abs.symm.trans q.abs)
theorem cL.inj:∀{xs ys:List V}{us:List Value},cL xs us->cL ys us->xs=ys
 |_,_,_,.nil,.nil=>rfl
 |_,_,_,.cons r t,.cons r' t'=>by rw[r.inj r',cL.inj t t']
section
variable{X:Cx}{pins:List (Addr×Obj)}{σ:St}{H:Hp}{s:Shared}{a:Addr}{xs ys:List V}
variable{K:PySem.W.Frag}
theorem bV.of(h:H a=some (.lst xs)):bV K H a xs:=.inl (.inl h)
theorem dN.of(h:H a=some (.tup xs)):dN K H a xs:=.inl (.inl h)
theorem bB.list(I:bB X pins σ H s)(h:bV X.K H a xs):∃its:List Value,cL xs its/\PlainL s.heap a its.toArray/\xs.length<=sizeLine:=by
 rcases h with h | ⟨o,its,n,hk,hc,hd,hs,hz,r⟩
 ·obtain⟨z,its,n,r,e⟩:=h.ok I.hok;exact⟨its,r,⟨_,n,e,rfl,rfl,rfl⟩,z⟩
 ·refine⟨its.toList,r,⟨o,n,I.kIn a o hk,hc,hd,by simpa using hs⟩,?_⟩;have e:=r.length;simp only[aGq]at e;omega
theorem bB.tuple(I:bB X pins σ H s)(h:dN X.K H a xs):∃its:List Value,cL xs its/\IsTup s.heap a its.toArray/\xs.length<=sizeLine:=by
 rcases h with h | ⟨o,its,n,hk,hc,hs,hz,r⟩
 ·obtain⟨z,its,r,p⟩:=h.ok I.hok;exact⟨its,r,p,z⟩
 ·refine⟨its.toList,r,⟨o,I.kIn a o hk,hc,n,by simpa using hs⟩,?_⟩;have e:=r.length;simp only[aGq]at e;omega
theorem bB.list_inj(I:bB X pins σ H s)(h:bV X.K H a xs)(h':bV X.K H a ys):xs=ys:=by
 obtain⟨its,r,⟨o,n,e,_,_,d⟩,_⟩:=I.list h;obtain⟨its',r',⟨o',n',e',_,_,d'⟩,_⟩:=I.list h';rw[e]at e';cases e';rw[d]at d';injection d' with d1 _
 have:its=its':=by simpa using congrArg Array.toList d1
 subst this;exact r.inj r'
theorem bB.tuple_inj(I:bB X pins σ H s)(h:dN X.K H a xs)(h':dN X.K H a ys):xs=ys:=by
 obtain⟨its,r,⟨o,e,_,n,d⟩,_⟩:=I.tuple h;obtain⟨its',r',⟨o',e',_,n',d'⟩,_⟩:=I.tuple h';rw[e]at e';cases e';rw[d]at d';injection d' with d1 _
 have:its=its':=by simpa using congrArg Array.toList d1
 subst this;exact r.inj r'
end
noncomputable abbrev Cx.wish (X:Cx)(E:Value->Shared->Prop):Cx:={ X with xe:=E }
noncomputable abbrev Cx.nox (X:Cx):Cx:=X.wish fun _ _=>False
theorem Cx.Ok.wish(ok:X.Ok)(E:Value->Shared->Prop):(X.wish E).Ok :=
 ⟨ok.mod,ok.kind,ok.glob,ok.blt,ok.above,ok.inj,ok.has,ok.cab,ok.hd,ok.frames,ok.stk,ok.exf,ok.bs,ok.bsz,ok.noex,ok.exfs,ok.funs,ok.frf⟩
theorem Cx.Ok.unwish{E:Value->Shared->Prop}(ok:(X.wish E).Ok):X.Ok :=
 ⟨ok.mod,ok.kind,ok.glob,ok.blt,ok.above,ok.inj,ok.has,ok.cab,ok.hd,ok.frames,ok.stk,ok.exf,ok.bs,ok.bsz,ok.noex,ok.exfs,ok.funs,ok.frf⟩
section
variable{X:Cx}{pins:List (Addr×Obj)}{σ:St}{H:Hp}{s:Shared}{E:Value->Shared->Prop}
theorem bB.wish(I:bB X pins σ H s)(E:Value->Shared->Prop):bB (X.wish E) pins σ H s:=⟨I.ok.wish E,I.os,I.bare,I.base,I.loc,I.cell,I.free,I.freeC,I.pin,I.hok,I.len⟩
theorem bB.unwish(I:bB (X.wish E) pins σ H s):bB X pins σ H s:=⟨I.ok.unwish,I.os,I.bare,I.base,I.loc,I.cell,I.free,I.freeC,I.pin,I.hok,I.len⟩
theorem SP.unwish{D:Ends}{f:Flow}{s':Shared}(h:SP (X.wish E) pins D f s'):SP X pins D f s':=by
 cases f with
 |next=>obtain⟨σ',H',I,q⟩:=h;exact⟨σ',H',I.unwish,q⟩
 |brk=>obtain⟨σ',H',I,q⟩:=h;exact⟨σ',H',I.unwish,q⟩
 |cont=>obtain⟨σ',H',I,q⟩:=h;exact⟨σ',H',I.unwish,q⟩
 |ret u=>obtain⟨v,σ',H',I,r,q⟩:=h;exact⟨v,σ',H',I.unwish,r,q⟩
theorem PT.nox{e:Expr}{t:TT}(h:PT X.nox e t):PT X e t:=fun pins s σ H Q I hw =>
 wpAny_mono (h pins s σ H Q (I.wish _) hw) (fun _ _ ⟨H',I',q⟩=>⟨H',I'.unwish,q⟩) fun _ _ z=>False.elim z
theorem yC.nox{st:List Stmt}{t:TS}(h:yC X.nox st t):yC X st t:=fun pins s σ H D I hw =>
 wpAny_mono (h pins s σ H D (I.wish _) hw) (fun _ _ q=>q.unwish) fun _ _ z=>False.elim z
end
section
variable{X:Cx}{st:Stmt}{rest:List Stmt}{t u:TS}{e:Expr}{te:TE}{pos:Pos}
noncomputable def Qp:TS:=fun D σ H=>D.nx σ H
noncomputable def Xd (t u:TS):TS:=fun D σ H=>t { D with nx:=u D } σ H
theorem bM:yC X [] Qp:=fun _ _ σ H _ I h=>wpAny_execs_nil ⟨σ,H,I,h⟩
theorem aG(h1:PS X st t)(h2:yC X rest u):yC X (st::rest) (Xd t u):=by
 intro pins s σ H D I h;refine wpAny_execs_cons (eO (h1 pins s σ H { D with nx:=u D } I h) fun f s1 q=>?_);cases f with
 |next =>
  obtain⟨σ',H',I',q⟩:=q;exact h2 pins s1 σ' H' D I' q
 |ret v=>exact q
 |brk=>exact q
 |cont=>exact q
theorem aJ(h1:PS X st t):yC X [st] t:=by
 intro pins s σ H D I h;refine wpAny_execs_cons (eO (h1 pins s σ H D I h) fun f s1 q=>?_);cases f with
 |next=>exact wpAny_execs_nil q
 |ret v=>exact q
 |brk=>exact q
 |cont=>exact q
noncomputable def Uk:TS:=fun D σ H=>D.bk σ H
theorem Mz:PS X (.Break pos) Uk:=fun _ _ σ H _ I h=>wpAny_Break ⟨σ,H,I,h⟩
theorem bB.quiet{pins:List (Addr×Obj)}{σ:St}{H:Hp}{s:Shared}(I:bB X pins σ H s):interactive X.env=false:=by simp[interactive,I.ok.kind]
noncomputable def RD (te:TE):TS:=fun D σ H=>te σ H fun _ H1=>D.nx σ H1
theorem cZ(he:PE X e te)(hs:swapsWith e none pos.line X.env=pure false:=by rfl):PS X (.Expr e pos) (RD te):=by
 intro pins s σ H D I h;exact wpAny_Expr_any (eO (he pins s σ H _ I h) fun v s1 ⟨x,H1,I1,r1,q1⟩=>⟨σ,H1,I1,q1⟩) I.quiet hs
noncomputable def K7 (te:TE):TS:=fun D σ H=>te σ H D.rt
theorem aW(he:PE X e te):PS X (.Return (some e) pos) (K7 te):=by
 intro pins s σ H D I h;exact wpAny_Return_some (eO (he pins s σ H _ I h) fun v s1 ⟨x,H1,I1,r1,q1⟩=>⟨x,σ,H1,I1,r1,q1⟩)
noncomputable def Z9 (c:TT)(t u:TS):TS:=fun D σ H=>c σ H fun b H1=>if b=true then t D σ H1 else u D σ H1
theorem dI{c:Expr}{a b:List Stmt}{tc:TT}(hc:PT X c tc)(ha:yC X a t)(hb:yC X b u):PS X (.If c a b pos) (Z9 tc t u):=by
 intro pins s σ H D I h;refine wpAny_If (eO (hc pins s σ H _ I h) fun d s1 ⟨H1,I1,q1⟩=>?_);cases d with
 |true=>exact ha pins s1 σ H1 D I1 q1
 |false=>exact hb pins s1 σ H1 D I1 q1
noncomputable def Jx:TS:=fun _ _ _=>False
theorem fW:PS X st Jx:=fun _ _ _ _ _ _ h=>h.elim
theorem J3{sts:List Stmt}:yC X sts Jx:=fun _ _ _ _ _ _ h=>h.elim
end
noncomputable abbrev TG:=V->St->Hp->(St->Hp->Prop)->Prop
noncomputable abbrev Ol:=List V->St->Hp->(St->Hp->Prop)->Prop
def PG (X:Cx)(target:Expr)(t:TG):Prop :=
 ∀(pins:List (Addr×Obj)) (s:Shared) (σ:St) (H:Hp) (v:V) (u:Value) (Q:St->Hp->Prop),bB X pins σ H s->RelV v u->t v σ H Q ->
  wpAny (model X.prog X.w) X.A (assign target X.env u) (fun _ s'=>∃σ' H',bB X pins σ' H' s'/\Q σ' H') X.xe s
def Y0 (X:Cx)(ts:List Expr)(t:Ol):Prop :=
 ∀(pins:List (Addr×Obj)) (s:Shared) (σ:St) (H:Hp) (vs:List V) (us:List Value) (Q:St->Hp->Prop),bB X pins σ H s->cL vs us->t vs σ H Q ->
  wpAny (model X.prog X.w) X.A (assignInOrder ((assignEach ts X.env).map (·.2)) us) (fun _ s'=>∃σ' H',bB X pins σ' H' s'/\Q σ' H') X.xe s
section
variable{X:Cx}{pos:Pos}
noncomputable def kY (i:Nat):TG:=fun v σ H Q=>Q (σ.set i (some v)) H
theorem Q9{i:Nat}{x:Str}(hN:X.N.Nodup)(hi:X.N[i]? = some x)(hx:Loc X.env.scope x)(hf:X.fn x=true∨X.env.scope.names.lookup x=some .local:=by first |exact .inl rfl |exact .inr rfl |assumption):PG X (.Name x pos) (kY i):=by
 intro pins s σ H v u Q I r h;exact wpAny_assign_Name (Em I hN hi hx r (fun s' I'=>⟨_,H,I',h⟩) hf)
noncomputable def aAB:Ol:=fun vs σ H Q=>vs=[]/\Q σ H
noncomputable def Xz (t:TG)(u:Ol):Ol:=fun vs σ H Q=>∃v r,vs=v::r/\t v σ H fun σ' H'=>u r σ' H' Q
theorem gK:Y0 X [] aAB:=by
 intro pins s σ H vs us Q I r h;obtain⟨e,h⟩:=h;subst e;cases r;exact assignInOrder_nil ⟨σ,H,I,h⟩
variable{es:List Expr}
theorem bO{e:Expr}{t:TG}{u:Ol}(h1:PG X e t)(h2:Y0 X es u)
  (hs:(assignEach (e::es) X.env).map (·.2)=assign e X.env::(assignEach es X.env).map (·.2):=by rfl):Y0 X (e::es) (Xz t u):=by
 intro pins s σ H vs us Q I r h;obtain⟨v,vr,e1,h⟩:=h;subst e1;cases r with
 |cons r rr =>
  rw[hs];refine assignInOrder_cons (eO (h1 pins s σ H _ _ _ I r h) fun _ s1 ⟨σ1,H1,I1,q1⟩=>?_);exact h2 pins s1 σ1 H1 _ _ Q I1 rr q1
inductive WP (K:PySem.W.Frag)(n:Nat)(t:Ol)(v:V)(σ:St)(H:Hp)(Q:St->Hp->Prop):Prop
 |mk (a:_) (xs:_) (_:v=.ref a) (_:dN K H a xs) (_:xs.length=n) (_:t xs σ H Q)
noncomputable def Yn (K:PySem.W.Frag)(n:Nat)(t:Ol):TG:=fun v σ H Q=>WP K n t v σ H Q
theorem Ck{k:Nat}{t:Ol}{n:Nat}(hc:X.calm=true)(h:Y0 X es t)
  (hn:(assignEach es X.env).length=n:=by rfl) (hst:(assignEach es X.env).findIdx? (·.1)=none:=by rfl):PG X (.Tuple es k pos) (Yn X.K n t):=by
 intro pins s σ H v u Q I r hw;obtain⟨a,xs,e1,hq,hl,hw⟩:=hw;subst e1;cases r;obtain⟨its,rv,ht,hz⟩:=I.tuple hq;refine assign_Tuple_tuple (I.ok.hd hc) ht (by simp[hn,<-hl,rv.length]) hst fun h' hx=>?_;have I1:bB X pins σ H { s with heap:=h' }:=I.kept (t':=s.toks) fun b o e=>hx b o (aGg (aF3 e)) e;exact h pins _ σ H xs _ Q I1 (by simpa using rv) hw
noncomputable def La (te:TE)(g:TG):TS:=fun D σ H=>te σ H fun x H1=>g x σ H1 D.nx
theorem Li{i:Nat}{x:Str}{e:Expr}{te:TE}{pos':Pos}(hN:X.N.Nodup)(hi:X.N[i]? = some x)(hx:Loc X.env.scope x)(he:PE X e te)(hs:swapsWith e (some (.Name x pos')) pos.line X.env=pure false:=by rfl)(hf:X.fn x=true∨X.env.scope.names.lookup x=some .local:=by first |exact .inl rfl |exact .inr rfl |assumption) :
  PS X (.Assign [.Name x pos'] e pos) (La te (kY i)):=by
 intro pins s σ H D I h;refine wpAny_Assign_Name (eO (he pins s σ H _ I h) fun v s1 ⟨y,H1,I1,r1,q1⟩=>?_) hs;exact Em I1 hN hi hx r1 (fun s2 I2=>⟨_,H1,I2,q1⟩) hf
noncomputable def Nz (c:TT)(tb:TS):TS:=fun D σ H=>∃W:Nat->St->Hp->Prop,(∃m,W m σ H)/\∀m σ H,W m σ H ->
 c σ H fun b H1=>if b=true then ∃N:St->Hp->Prop,(∀σ' H',N σ' H'->∃m',m'<m/\W m' σ' H')/\tb { D with nx:=N,ct:=N,bk:=D.nx } σ H1 else D.nx σ H1
theorem kI{c:Expr}{body:List Stmt}{tc:TT}{tb:TS}(hp:PassesOwn (model X.prog X.w) X.A X.env X.xe)(hc:PT X c tc)(hb:yC X body tb):PS X (.While c body [] pos) (Nz tc tb):=by
 intro pins s σ H D I h;obtain⟨W,⟨m0,w0⟩,turn⟩:=h;refine wpAny_While (codeAny_whileLoop (fun n s'=>∃σ' H',bB X pins σ' H' s'/\W n σ' H') ?_ m0 ⟨σ,H,I,w0⟩);rintro n s1 ⟨σ1,H1,I1,w1⟩;refine wpAny_passesOwn hp (eO (hc pins s1 σ1 H1 _ I1 (turn n σ1 H1 w1)) fun b s2 ⟨H2,I2,q2⟩=>?_);cases b with
 |true =>
  obtain⟨N,hN,q2⟩:=q2;rw[if_pos rfl];refine wpAny_passesOwn hp (eO (hb pins s2 σ1 H2 _ I2 q2) fun f s3 q3=>?_);cases f with
  |next =>
   obtain⟨σ3,H3,I3,n3⟩:=q3;obtain⟨m',hm,w3⟩:=hN σ3 H3 n3;exact⟨m',hm,σ3,H3,I3,w3⟩
  |cont =>
   obtain⟨σ3,H3,I3,n3⟩:=q3;obtain⟨m',hm,w3⟩:=hN σ3 H3 n3;exact⟨m',hm,σ3,H3,I3,w3⟩
  |brk=>exact q3
  |ret v=>exact q3
 |false =>
  rw[if_neg aGb];exact wpAny_execs_nil ⟨σ1,H2,I2,q2⟩
end
structure It where
 go:Nat->Hp->Prop
 yld:Nat->Hp->V->Hp->Prop
 stop:Nat->Hp->Prop
def mO (X:Cx)(pins:List (Addr×Obj))(H:Hp)(b:Addr):Prop :=
 H b=none/\b≠X.env.locals/\b∉X.fs/\(b∈X.ex∨X.s₀.heap.objs.size<=b)/\(∀x c,X.env.cells.lookup x=some c->c≠b)/\∀p∈X.pn++pins,p.1≠b
variable{σ:St}
theorem bB.fpOk{pins:List (Addr×Obj)}{H':Hp}{b:Addr}(I:bB X pins σ H s)(hb:s.heap.objs.size<=b)(hn:H' b=none):mO X pins H' b:=by
 refine⟨hn,aH2 (aGf I.lt hb),I.nofs hb,.inr (aFN I.sz hb),fun x c e z=>?_,fun p hp z=>?_⟩
 ·obtain⟨v,q⟩:=I.cell x c e;exact absurd (aGf q.lt (by rw[z];exact hb)) (aG2 _)
 ·exact absurd (aGf (aF3 (I.pin p hp).1) (by rw[z];exact hb)) (aG2 _)
structure Turn (P:Program)(w:World)(K:PySem.W.Frag)(tg:Expr)(J:It)(fp:List Addr)(it:Addr)(tn:Nat->Heap->Prop):Prop where
 mem:it∈fp
 obj:∀i h,tn i h->∀b∈fp,∃o,h.get? b=some o/\∀v,o.data≠.cell v
 keep:∀i h h',tn i h->(∀b∈fp,∀o,h.get? b=some o->h'.get? b=some o)->tn i h'
 item:∀(X:Cx),X.prog=P->X.w=w->X.K=K->X.calm=true->∀(i:Nat) (pins:List (Addr×Obj)) (s:Shared) (σ:St) (H:Hp) (E:Value->Shared->Prop),bB X pins σ H s->(∀b∈fp,mO X pins H b)->tn i s.heap->J.go i H ->
  wpAny (model P w) X.A (pyNext (.ref it)) (fun r s1=>∃u,r=some u ∧
   wpAny (model P w) X.A (letOwnedTupleGo tg (.ref it) u) (fun _ s2=>∃x H',bB X pins σ H' s2/\RelV x u/\J.yld i H x H'/\tn (i+1) s2.heap/\∀b∈fp,H' b=none) E s1) E s
 done:∀(X:Cx),X.prog=P->X.w=w->X.K=K->X.calm=true->∀(i:Nat) (pins:List (Addr×Obj)) (s:Shared) (σ:St) (H:Hp) (E:Value->Shared->Prop),bB X pins σ H s->(∀b∈fp,mO X pins H b)->tn i s.heap->J.stop i H ->
  wpAny (model P w) X.A (pyNext (.ref it)) (fun r s1=>r=none/\bB X pins σ H s1) E s
 self:∀(A:Around) (i:Nat) (s:Shared) (Q:Value->Shared->Prop) (E:Value->Shared->Prop),tn i s.heap->Q (.ref it) s->wpAny (model P w) A (pyIter (.ref it)) Q E s
noncomputable abbrev TI:=St->Hp->(It->Hp->Prop)->Prop
def PIE (X:Cx)(pins:List (Addr×Obj))(σ:St)(tg:Expr)(R:It->Hp->Prop)(itv:Value)(s2:Shared):Prop :=
 ∃(it:Addr) (fp:List Addr) (tn:Nat->Heap->Prop) (J:It) (H':Hp),itv=.ref it/\bB X pins σ H' s2/\Turn X.prog X.w X.K tg J fp it tn/\tn 0 s2.heap/\(∀b∈fp,mO X pins H' b)/\R J H'
def PI (X:Cx)(tg iter:Expr)(wi:TI):Prop :=
 ∀(pins:List (Addr×Obj)) (s:Shared) (σ:St) (H:Hp) (R:It->Hp->Prop),bB X pins σ H s->wi σ H R ->
  wpAny (model X.prog X.w) X.A (eval iter X.env) (fun v s1=>wpAny (model X.prog X.w) X.A (pyIter v) (PIE X pins σ tg R) X.xe s1) X.xe s
variable{tg:Expr}
theorem Cq{M:Model}{E:Value->Shared->Prop}{it:Addr}{u:Value}{o:Obj}{n:String}{vs:Array Value}{Q:Unit->Shared->Prop}(ho:s.heap.get? it=some o)(hc:o.cls=.type n)(hd:o.data=.fields vs)
  (hn:["enumerate","zip","dict_itemiterator","dict_reverseitemiterator","odict_iterator","itertools.zip_longest","itertools.pairwise"].contains n=false) (hQ:Q () s):wpAny M A (letOwnedTupleGo tg (.ref it) u) Q E s:=by
 unfold letOwnedTupleGo;cases tg <;> first
  |exact wpAny_pure hQ
  | (cases u <;> first
    |exact wpAny_pure hQ
    | (refine wpAny_bind (wpAny_load ho ?_);rw[hc,hd];show wpAny M A (if(["enumerate","zip","dict_itemiterator","dict_reverseitemiterator","odict_iterator","itertools.zip_longest","itertools.pairwise"].contains n&&vs[0]?==some (rawInt _))=true then _ else _) Q E s;rw[if_neg (by intro h;rw[hn,Bool.false_and]at h;cases h)];exact wpAny_pure hQ))
noncomputable def X4 (K:PySem.W.Frag)(a:Addr):It :=
 ⟨fun i H=>∃xs x,bV K H a xs/\xs[i]? = some x,fun i H x H'=>H'=H/\∀xs,bV K H a xs->xs[i]? = some x,fun i H=>∃xs,bV K H a xs/\xs.length<=i⟩
noncomputable def XS (K:PySem.W.Frag)(a:Addr):It :=
 ⟨fun i H=>∃xs x,dN K H a xs/\xs[i]? = some x,fun i H x H'=>H'=H/\∀xs,dN K H a xs->xs[i]? = some x,fun i H=>∃xs,dN K H a xs/\xs.length<=i⟩
noncomputable def Tu (lo:Int)(n:Nat):It:=⟨fun i _=>i<n,fun i H x H'=>H'=H/\x=.int (lo+i),fun i _=>n<=i⟩
variable{K:PySem.W.Frag}
theorem JT(a it:Addr):Turn P w K tg (X4 K a) [it] it (fun i h=>h.IsListIter it a i) where
 mem:=by simp
 obj:=fun i h st b hb=>by
  have e:b=it:=by simpa using hb
  subst e;obtain⟨o,e,c,d⟩:=st;exact⟨o,e,fun v z=>by rw[d]at z;cases z⟩
 keep:=fun i h h' st k=>st.at fun o e=>k it (by simp) o e
 item:=by
  intro X hP hw hK hc i pins s σ H E I hf st hg;subst hP hw hK;obtain⟨xs,x,hq,hx⟩:=hg;obtain⟨its,rv,p,hz⟩:=I.list hq;obtain⟨u,hu,ru⟩:=rv.get hx;obtain⟨f0,f1,f2,f3,f4,f5⟩:=hf it (by simp);refine wpAny_pyNext_list_item st p.isList (x:=u) (by simpa using hu) fun h' st' sb=>?_;have I1:bB X pins σ H { s with heap:=h' }:=I.turned (t':=s.toks) (fun b o hb e=>(sb.2 b hb).trans e) f0 f1 f3 f4 f5;obtain⟨o,e,c,d⟩:=id st';exact⟨u,rfl,Cq (s:={ s with heap:=h' }) e c d (by decide) ⟨x,H,I1,ru,⟨rfl,fun ys hy=>by rw[I.list_inj hy hq];exact hx⟩,st',fun b hb=>(hf b hb).1⟩⟩
 done:=by
  intro X hP hw hK hc i pins s σ H E I hf st hg;subst hP hw hK;obtain⟨xs,hq,hx⟩:=hg;obtain⟨its,rv,p,hz⟩:=I.list hq;obtain⟨f0,f1,f2,f3,f4,f5⟩:=hf it (by simp);have hl:=rv.length;exact wpAny_pyNext_list_end (I.ok.hd hc) st p.isList (by simp;omega) fun h' eb=>⟨rfl,I.turned (t':=s.toks) (fun b o hb e=>eb b o hb e) f0 f1 f3 f4 f5⟩
 self:=fun _ _ _ _ _ st h=>wpAny_pyIter_listiter st h
theorem Fo(a it:Addr):Turn P w K tg (XS K a) [it] it (fun i h=>h.IsTupleIter it a i) where
 mem:=by simp
 obj:=fun i h st b hb=>by
  have e:b=it:=by simpa using hb
  subst e;obtain⟨o,e,c,d⟩:=st;exact⟨o,e,fun v z=>by rw[d]at z;cases z⟩
 keep:=fun i h h' st k=>st.at fun o e=>k it (by simp) o e
 item:=by
  intro X hP hw hK hc i pins s σ H E I hf st hg;subst hP hw hK;obtain⟨xs,x,hq,hx⟩:=hg;obtain⟨its,rv,p,hz⟩:=I.tuple hq;obtain⟨u,hu,ru⟩:=rv.get hx;obtain⟨f0,f1,f2,f3,f4,f5⟩:=hf it (by simp);refine wpAny_pyNext_tuple_item st (show s.heap.IsTuple a its.toArray from p) (x:=u) (by simpa using hu) fun h' st' sb=>?_;have I1:bB X pins σ H { s with heap:=h' }:=I.turned (t':=s.toks) (fun b o hb e=>(sb.2 b hb).trans e) f0 f1 f3 f4 f5;obtain⟨o,e,c,d⟩:=id st';exact⟨u,rfl,Cq (s:={ s with heap:=h' }) e c d (by decide) ⟨x,H,I1,ru,⟨rfl,fun ys hy=>by rw[I.tuple_inj hy hq];exact hx⟩,st',fun b hb=>(hf b hb).1⟩⟩
 done:=by
  intro X hP hw hK hc i pins s σ H E I hf st hg;subst hP hw hK;obtain⟨xs,hq,hx⟩:=hg;obtain⟨its,rv,p,hz⟩:=I.tuple hq;obtain⟨f0,f1,f2,f3,f4,f5⟩:=hf it (by simp);have hl:=rv.length;exact wpAny_pyNext_tuple_end (I.ok.hd hc) st (show s.heap.IsTuple a its.toArray from p) (by simp;omega) fun h' eb=>⟨rfl,I.turned (t':=s.toks) (fun b o hb e=>eb b o hb e) f0 f1 f3 f4 f5⟩
 self:=fun _ _ _ _ _ st h=>wpAny_pyIter_tupleiter st h
theorem GC(it:Addr)(lo:Int)(n:Nat):Turn P w K tg (Tu lo n) [it] it (fun i h=>IsRangeIter h it (lo+(i:Nat)*1) ((n:Int)-(i:Nat)) 1) where
 mem:=by simp
 obj:=fun i h st b hb=>by
  have e:b=it:=by simpa using hb
  subst e;exact⟨_,st,fun v z=>by
   have z':Data.fields _=Data.cell v:=z;cases z'⟩
 keep:=fun i h h' st k=>k it (by simp) _ st
 item:=by
  intro X hP hw hK hc i pins s σ H E I hf st hg;subst hP hw hK;obtain⟨f0,f1,f2,f3,f4,f5⟩:=hf it (by simp);have W:=Walks.range (prog:=X.prog) (w:=X.w) (I.ok.hd hc) it lo 1 n;refine W.item i s _ _ hg st fun v h' tk hv st' kk=>?_;obtain⟨t,rfl⟩:=hv;have I1:bB X pins σ H { s with heap:=h',toks:=tk }:=I.turned (fun b o hb e=>kk b o (by simpa using hb) e) f0 f1 f3 f4 f5;refine⟨_,rfl,Cq (s:={ s with heap:=h',toks:=tk }) (n:="range_iterator") st' rfl rfl (by decide) ⟨.int (lo+i),H,I1,⟨t,?_⟩,⟨rfl,rfl⟩,st',fun b hb=>(hf b hb).1⟩⟩;rw[Int.mul_one]
 done:=by
  intro X hP hw hK hc i pins s σ H E I hf st hg;subst hP hw hK;obtain⟨f0,f1,f2,f3,f4,f5⟩:=hf it (by simp);exact wpAny_pyNext_range_end (I.ok.hd hc) st (by have:n<=i:=hg;omega) fun h' eb=>⟨rfl,I.turned (t':=s.toks) (fun b o hb e=>eb b o hb e) f0 f1 f3 f4 f5⟩
 self:=fun _ _ _ _ _ st h=>wpAny_pyIter_rangeiter st h
section
variable{X:Cx}{tg:Expr}
inductive Oc (K:PySem.W.Frag)(R:It->Hp->Prop)(x:V)(H1:Hp):Prop
 |mk (a:_) (_:x=.ref a) (_:(∃xs,bV K H1 a xs)) (_:R (X4 K a) H1)
noncomputable def Xj (K:PySem.W.Frag)(tl:TE):TI:=fun σ H R=>tl σ H fun x H1=>Oc K R x H1
inductive UG (K:PySem.W.Frag)(R:It->Hp->Prop)(x:V)(H1:Hp):Prop
 |mk (a:_) (_:x=.ref a) (_:(∃xs,dN K H1 a xs)) (_:R (XS K a) H1)
noncomputable def aAN (K:PySem.W.Frag)(tl:TE):TI:=fun σ H R=>tl σ H fun x H1=>UG K R x H1
theorem dU{l:Expr}{tl:TE}(hl:PE X l tl):PI X tg l (Xj X.K tl):=by
 intro pins s σ H R I h;refine eO (hl pins s σ H _ I h) fun v s1 ⟨x,H1,I1,r1,q1⟩=>?_;obtain⟨a,e,⟨xs,hq⟩,q⟩:=q1;subst e;cases r1;obtain⟨its,rv,p,hz⟩:=I1.list hq;refine wpAny_pyIter_list p.isList ?_;refine⟨s1.heap.objs.size,[s1.heap.objs.size],_,_,H1,rfl,I1.kept (t':=s1.toks) fun b o e=>aFO _ e,JT a _,⟨_,aF6 _ rfl,rfl,rfl⟩,fun b hb=>?_,q⟩;have e:b=s1.heap.objs.size:=by simpa using hb
 subst e;exact I1.fpOk (aFV _) (I1.hok.fresh (aFV _))
theorem lV{l:Expr}{tl:TE}(hl:PE X l tl):PI X tg l (aAN X.K tl):=by
 intro pins s σ H R I h;refine eO (hl pins s σ H _ I h) fun v s1 ⟨x,H1,I1,r1,q1⟩=>?_;obtain⟨a,e,⟨xs,hq⟩,q⟩:=q1;subst e;cases r1;obtain⟨its,rv,p,hz⟩:=I1.tuple hq;refine wpAny_pyIter_tuple (show s1.heap.IsTuple a its.toArray from p) ?_;refine⟨s1.heap.objs.size,[s1.heap.objs.size],_,_,H1,rfl,I1.kept (t':=s1.toks) fun b o e=>aFO _ e,Fo a _,⟨_,aF6 _ rfl,rfl,rfl⟩,fun b hb=>?_,q⟩;have e:b=s1.heap.objs.size:=by simpa using hb
 subst e;exact I1.fpOk (aFV _) (I1.hok.fresh (aFV _))
variable{σ:St}{H:Hp}{s:Shared}
theorem Mv{pins:List (Addr×Obj)}{R:It->Hp->Prop}{E:Value->Shared->Prop}{lo hi:Int}{t u v:Tok}{tk:Nat}(I:bB X pins σ H s)(h1:-(2^62)<=lo)(h2:lo<2^62)(h3:-(2^62)<=hi)(h4:hi<2^62)
  (q:R (Tu lo (hi-lo).toNat) H):wpAny (model X.prog X.w) X.A (pyIter (.ref s.heap.objs.size)) (PIE X pins σ tg R) E { s with heap:=s.heap.push { cls:=.type "range",data:=.fields #[.int lo t,.int hi u,.int 1 v] },toks:=tk }:=by
 refine wpAny_pyIter_range (IsRange.new ..) (small_one h1 h2 h3 h4) ?_;have I1:bB X pins σ H { s with heap:=s.heap.push { cls:=.type "range",data:=.fields #[.int lo t,.int hi u,.int 1 v] },toks:=tk }:=I.kept fun b o e=>aFO _ e;refine⟨(s.heap.push { cls:=.type "range",data:=.fields #[.int lo t,.int hi u,.int 1 v] }).objs.size,[(s.heap.push { cls:=.type "range",data:=.fields #[.int lo t,.int hi u,.int 1 v] }).objs.size],_,_,H,rfl,
  I1.kept (t':=tk) fun b o e=>aFO _ e,GC _ lo (hi-lo).toNat,?_,fun b hb=>?_,q⟩
 ·have e1:lo+((0:Nat):Int)*1=lo:=by simp
  have e2:(((hi-lo).toNat:Nat):Int)-((0:Nat):Int)=Builtin.Range.rangeSize lo hi 1:=by rw[rangeSize_one];split <;> omega
  show IsRangeIter _ _ (lo+((0:Nat):Int)*1) ((((hi-lo).toNat:Nat):Int)-((0:Nat):Int)) 1;rw[e1,e2];exact aF6 _ rfl
 ·have e:b=(s.heap.push { cls:=.type "range",data:=.fields #[.int lo t,.int hi u,.int 1 v] }).objs.size:=by simpa using hb
  subst e;exact I1.fpOk (aFV _) (I1.hok.fresh (aFV _))
inductive Ph (R:It->Hp->Prop)(vs:List V)(H1:Hp):Prop
 |mk (j:Int) (_:vs=[.int j]) (_:-(2^62)<=j) (_:j<2^62) (_:R (Tu 0 j.toNat) H1)
noncomputable def Y8 (ta:TA):TI:=fun σ H R=>ta σ H fun vs H1=>Ph R vs H1
theorem iH{a:Expr}{ta:TA}{p pos:Pos}(hg:Gl X "range")(hm:X.mg "range" = none)(ha:PA X [a] ta)(hs:starEach [a] X.env=[(false,eval a X.env)]:=by rfl):PI X tg (.Call (.Name "range" p) [a] [] pos) (Y8 ta):=by
 intro pins s σ H R I h;refine Call_ (tW I hg hm boot_range (PyProof.Rows.callWith_type1 (eO (ha pos pins s σ H _ I h) fun us s1 ⟨vs,H1,I1,r1,q1⟩=>?_) hs rfl));obtain⟨j,e,q1,q2,q⟩:=q1;subst e;cases r1 with
 |cons r rr =>
  cases rr;obtain⟨t,rfl⟩:=r;exact call_range_1 (Mv I1 (by omega) (by omega) q1 q2 (by simpa using q))
noncomputable def aAx (wi:TI)(g:TG)(tb:TS):TS:=fun D σ H=>wi σ H fun J H1=>∃W:Nat->Nat->St->Hp->Prop,(∃m,W 0 m σ H1)/\∀i m σ H,W i m σ H ->
 (J.stop i H/\D.nx σ H)∨(J.go i H/\∃N:St->Hp->Prop,(∀σ' H',N σ' H'->∃m',m'<m/\W (i+1) m' σ' H')/\∀x H',J.yld i H x H'->g x σ H' fun σ2 H2=>tb { D with nx:=N,ct:=N,bk:=D.nx } σ2 H2)
noncomputable def wZ (fp:List Addr)(h:Heap):List (Addr×Obj):=fp.filterMap fun b=>(h.get? b).map fun o=>(b,o)
variable{fp:List Addr}
theorem mZ{h:Heap}{b:Addr}{o:Obj}(hb:b∈fp)(e:h.get? b=some o):(b,o)∈wZ fp h:=aHL.mpr ⟨b,hb,by rw[e];rfl⟩
theorem J8{h:Heap}{p:Addr×Obj}(hp:p∈wZ fp h):p.1∈fp/\h.get? p.1=some p.2:=by
 obtain⟨b,hb,e⟩:=aHL.mp hp;cases q:h.get? b with
 |none=>rw[q]at e;cases e
 |some o =>
  rw[q]at e;have e':(b,o)=p:=aGU.inj e;subst e';exact⟨hb,q⟩
theorem bB.pinned{pins:List (Addr×Obj)}(I:bB X pins σ H s)(hf:∀b∈fp,mO X pins H b)(ho:∀b∈fp,∃o,s.heap.get? b=some o/\∀v,o.data≠.cell v):bB X (pins++wZ fp s.heap) σ H s :=
 I.pins_of fun p hp=>(aGc.mp hp).elim (fun z=>I.pin p (aF4 _ z)) fun z=>by
  obtain⟨hb,e⟩:=J8 z;obtain⟨f0,f1,f2,_⟩:=hf p.1 hb;obtain⟨o,e',d⟩:=ho p.1 hb;rw[e]at e';cases e';exact⟨e,f0,f1,f2,d⟩
theorem bB.unpinned{pins pl:List (Addr×Obj)}(I:bB X (pins++pl) σ H s):bB X pins σ H s:=I.pins_of fun p hp=>I.pin p (aF4 _ (aGL _ hp))
theorem jQ{iter:Expr}{body:List Stmt}{wi:TI}{g:TG}{tb:TS}{pos:Pos}(hp:PassesOwn (model X.prog X.w) X.A X.env X.xe)(hc:X.calm=true)(hi:PI X tg iter wi)(hg:PG X tg g)(hb:yC X body tb)
  (hs:∀x,foldedSetIterable iter X.env x=pure x:=by intro _;rfl):PS X (.For tg iter body [] pos) (aAx wi g tb):=by
 intro pins s σ H D I h;refine wpAny_For (eO (hi pins s σ H _ I h) fun v s1 h1=>eO h1 fun itv s2 h2=>?_) hs;obtain⟨it,fp,tn,J,H2,e,I2,T,st2,f2,W,⟨m0,w0⟩,turn⟩:=h2;subst e;have stat:∀{H':Hp},(∀b∈fp,H' b=none)->∀b∈fp,mO X pins H' b:=fun hn b hb=>⟨hn b hb,(f2 b hb).2⟩
 refine codeAny_forLoop_any (fun n s'=>∃i σ' H',bB X pins σ' H' s'/\tn i s'.heap/\(∀b∈fp,H' b=none)/\W i n σ' H') ?_ m0 ⟨0,σ,H2,I2,st2,fun b hb=>(f2 b hb).1,w0⟩;rintro n s3 ⟨i,σ3,H3,I3,st3,fr3,w3⟩;rcases turn i n σ3 H3 w3 with⟨stop,qn⟩ | ⟨go,N,hN,step⟩
 ·refine wpAny_passesOwn hp (eO (T.done X rfl rfl rfl hc i pins s3 σ3 H3 X.xe I3 (stat fr3) st3 stop) fun r s4 ⟨hr,I4⟩=>?_);subst hr;exact wpAny_execs_nil ⟨σ3,H3,I4,qn⟩
 ·refine wpAny_passesOwn hp (eO (T.item X rfl rfl rfl hc i pins s3 σ3 H3 X.xe I3 (stat fr3) st3 go) fun r s4 ⟨u,hr,h4⟩=>?_);subst hr;refine wpAny_passesOwn hp (eO h4 fun _ s5 ⟨x,H5,I5,r5,y5,st5,fr5⟩=>?_);have I5':=I5.pinned (stat fr5) (T.obj _ _ st5);refine wpAny_passesOwn hp (eO (hg _ s5 σ3 H5 x u _ I5' r5 (step x H5 y5)) fun _ s6 ⟨σ6,H6,I6,q6⟩=>?_);refine wpAny_passesOwn hp (eO (hb _ s6 σ6 H6 _ I6 q6) fun f s7 q7=>?_);have again:∀{σ7:St}{H7:Hp},bB X (pins++wZ fp s5.heap) σ7 H7 s7->N σ7 H7->∃m,m<n/\∃i σ' H',bB X pins σ' H' s7/\tn i s7.heap/\(∀b∈fp,H' b=none)/\W i m σ' H':=fun{σ7 H7} I7 n7=>by
   obtain⟨m',hm,w7⟩:=hN σ7 H7 n7;refine⟨m',hm,i+1,σ7,H7,I7.unpinned,T.keep _ _ _ st5 fun b hb o e=>(I7.pin (b,o) (aF4 _ (aF4 _ (mZ hb e)))).1,fun b hb=>?_,w7⟩;obtain⟨o,e,d⟩:=T.obj _ _ st5 b hb;exact(I7.pin (b,o) (aF4 _ (aF4 _ (mZ hb e)))).2.1
  cases f with
  |next=>obtain⟨σ7,H7,I7,n7⟩:=q7;exact again I7 n7
  |cont=>obtain⟨σ7,H7,I7,n7⟩:=q7;exact again I7 n7
  |brk=>obtain⟨σ7,H7,I7,q7⟩:=q7;exact⟨σ7,H7,I7.unpinned,q7⟩
  |ret v=>obtain⟨x7,σ7,H7,I7,r7,q7⟩:=q7;exact⟨x7,σ7,H7,I7.unpinned,r7,q7⟩
end
variable{g:TG}{D:Ends}
theorem sY{tb:TS}(Pv:Nat->St->Hp->Prop)(h0:Pv 0 σ H)(hl:∀i σ H,i<=xs.length->Pv i σ H->bV K H a xs)
  (hs:∀i x σ H,xs[i]? = some x->Pv i σ H->g x σ H fun σ2 H2=>tb { D with nx:=Pv (i+1),ct:=Pv (i+1),bk:=D.nx } σ2 H2) (hd:∀σ H,Pv xs.length σ H->D.nx σ H) :
  ∃W:Nat->Nat->St->Hp->Prop,(∃m,W 0 m σ H)/\∀i m σ H,W i m σ H ->
   ((X4 K a).stop i H/\D.nx σ H)∨((X4 K a).go i H/\∃N:St->Hp->Prop,(∀σ' H',N σ' H'->∃m',m'<m/\W (i+1) m' σ' H')/\∀x H',(X4 K a).yld i H x H'->g x σ H' fun σ2 H2=>tb { D with nx:=N,ct:=N,bk:=D.nx } σ2 H2):=by
 refine⟨fun i m σ H=>m=xs.length-i/\i<=xs.length/\Pv i σ H,⟨xs.length,by simp,aGe _,h0⟩,?_⟩;rintro i m σ H ⟨rfl,hi,p⟩;have q:=hl i σ H hi p
 by_cases hlt:i<xs.length
 ·refine .inr ⟨⟨xs,xs[i],q,by simp[hlt]⟩,Pv (i+1),fun σ' H' p'=>⟨xs.length-(i+1),by omega,rfl,hlt,p'⟩,fun x H' y=>?_⟩;obtain⟨e,y⟩:=y;subst e;exact hs i x σ _ (y xs q) p
 ·have e:i=xs.length:=by omega
  subst e;exact .inl ⟨⟨xs,q,aFV _⟩,hd σ H p⟩
theorem Ow{tb:TS}(Pv:Nat->St->Hp->Prop)(h0:Pv 0 σ H)(hl:∀i σ H,i<=xs.length->Pv i σ H->dN K H a xs)
  (hs:∀i x σ H,xs[i]? = some x->Pv i σ H->g x σ H fun σ2 H2=>tb { D with nx:=Pv (i+1),ct:=Pv (i+1),bk:=D.nx } σ2 H2) (hd:∀σ H,Pv xs.length σ H->D.nx σ H) :
  ∃W:Nat->Nat->St->Hp->Prop,(∃m,W 0 m σ H)/\∀i m σ H,W i m σ H ->
   ((XS K a).stop i H/\D.nx σ H)∨((XS K a).go i H/\∃N:St->Hp->Prop,(∀σ' H',N σ' H'->∃m',m'<m/\W (i+1) m' σ' H')/\∀x H',(XS K a).yld i H x H'->g x σ H' fun σ2 H2=>tb { D with nx:=N,ct:=N,bk:=D.nx } σ2 H2):=by
 refine⟨fun i m σ H=>m=xs.length-i/\i<=xs.length/\Pv i σ H,⟨xs.length,by simp,aGe _,h0⟩,?_⟩;rintro i m σ H ⟨rfl,hi,p⟩;have q:=hl i σ H hi p
 by_cases hlt:i<xs.length
 ·refine .inr ⟨⟨xs,xs[i],q,by simp[hlt]⟩,Pv (i+1),fun σ' H' p'=>⟨xs.length-(i+1),by omega,rfl,hlt,p'⟩,fun x H' y=>?_⟩;obtain⟨e,y⟩:=y;subst e;exact hs i x σ _ (y xs q) p
 ·have e:i=xs.length:=by omega
  subst e;exact .inl ⟨⟨xs,q,aFV _⟩,hd σ H p⟩
variable{n:Nat}
theorem uB{lo:Int}{tb:TS}(Pv:Nat->St->Hp->Prop)(h0:Pv 0 σ H)
  (hs:∀i σ H,i<n->Pv i σ H->g (.int (lo+i)) σ H fun σ2 H2=>tb { D with nx:=Pv (i+1),ct:=Pv (i+1),bk:=D.nx } σ2 H2) (hd:∀σ H,Pv n σ H->D.nx σ H) :
  ∃W:Nat->Nat->St->Hp->Prop,(∃m,W 0 m σ H)/\∀i m σ H,W i m σ H ->
   ((Tu lo n).stop i H/\D.nx σ H)∨((Tu lo n).go i H/\∃N:St->Hp->Prop,(∀σ' H',N σ' H'->∃m',m'<m/\W (i+1) m' σ' H')/\∀x H',(Tu lo n).yld i H x H'->g x σ H' fun σ2 H2=>tb { D with nx:=N,ct:=N,bk:=D.nx } σ2 H2):=by
 refine⟨fun i m σ H=>m=n-i/\i<=n/\Pv i σ H,⟨n,by simp,aGe _,h0⟩,?_⟩;rintro i m σ H ⟨rfl,hi,p⟩
 by_cases hlt:i<n
 ·refine .inr ⟨hlt,Pv (i+1),fun σ' H' p'=>⟨n-(i+1),by omega,rfl,hlt,p'⟩,fun x H' y=>?_⟩;obtain⟨e,y⟩:=y;subst e y;exact hs i σ _ hlt p
 ·have e:i=n:=by omega
  subst e;exact .inl ⟨aFV _,hd σ H p⟩
theorem Ka{c:TT}{tb:TS}(Pv:St->Hp->Prop)(μ:St->Hp->Nat)(h0:Pv σ H)
  (hs:∀σ H,Pv σ H->c σ H fun b H1=>if b=true then tb { D with nx:=fun σ' H'=>Pv σ' H'/\μ σ' H' < μ σ H,ct:=fun σ' H'=>Pv σ' H'/\μ σ' H' < μ σ H,bk:=D.nx } σ H1 else D.nx σ H1)
  (mono:∀σ H Q Q',(∀b H1,Q b H1->Q' b H1)->c σ H Q->c σ H Q'):Nz c tb D σ H:=by
 refine⟨fun m σ H=>m = μ σ H/\Pv σ H,⟨_,rfl,h0⟩,?_⟩;rintro m σ H ⟨rfl,p⟩;refine mono σ H _ _ (fun b H1 q=>?_) (hs σ H p);cases b with
 |true=>exact⟨_,fun σ' H' ⟨p',l⟩=>⟨_,l,rfl,p'⟩,q⟩
 |false=>exact q
noncomputable abbrev R2:=V->V->Hp->VK->Prop
def pU (X:Cx)(f:Value->Value->Sem Value)(r:R2):Prop :=
 ∀(pins:List (Addr×Obj)) (s:Shared) (σ:St) (H:Hp) (x y:V) (v u:Value) (Q:VK),bB X pins σ H s->RelV x v->RelV y u->r x y H Q ->
  wpAny (model X.prog X.w) X.A (f v u) (EP X pins σ Q) X.xe s
def UnR (X:Cx)(f:Value->Sem Value)(r:V->Hp->VK->Prop):Prop :=
 ∀(pins:List (Addr×Obj)) (s:Shared) (σ:St) (H:Hp) (x:V) (v:Value) (Q:VK),bB X pins σ H s->RelV x v->r x H Q ->
  wpAny (model X.prog X.w) X.A (f v) (EP X pins σ Q) X.xe s
def fY (X:Cx)(f:Value)(r:List V->Hp->VK->Prop):Prop :=
 ∀(pins:List (Addr×Obj)) (s:Shared) (σ:St) (H:Hp) (xs:List V) (us:List Value) (Q:VK),bB X pins σ H s->cL xs us->r xs H Q ->
  wpAny (model X.prog X.w) X.A (call f us) (EP X pins σ Q) X.xe s
noncomputable def Ju (r:R2)(ta tb:TE):TE:=fun σ H Q=>ta σ H fun x H1=>tb σ H1 fun y H2=>r x y H2 Q
noncomputable def tUn (r:V->Hp->VK->Prop)(ta:TE):TE:=fun σ H Q=>ta σ H fun x H1=>r x H1 Q
inductive aBq (C:Int->Int->Prop)(g:Int->Int->V)(x:V)(y:V)(H:Hp)(Q:VK):Prop
 |mk (i:_) (j:_) (_:x=.int i) (_:y=.int j) (_:C i j) (_:Q (g i j) H)
noncomputable def rI (C:Int->Int->Prop)(g:Int->Int->V):R2:=fun x y H Q=>aBq C g x y H Q
inductive Yb (g:Int->Int->V)(x:V)(y:V)(H:Hp)(Q:VK):Prop
 |mk (i:_) (j:_) (_:x=.int i) (_:y=.int j) (_:Q (g i j) H)
noncomputable def O6 (g:Int->Int->V):R2:=fun x y H Q=>Yb g x y H Q
inductive aBl (g:Int->V)(x:V)(H:Hp)(Q:VK):Prop
 |mk (i:_) (_:x=.int i) (_:Q (g i) H)
def rU (g:Int->V):V->Hp->VK->Prop:=fun x H Q=>aBl g x H Q
section
variable{X:Cx}{a b c:Expr}{ta tb tc:TE}{pos:Pos}
theorem UL(ha:PE X a ta)(hb:PE X b tb){pins:List (Addr×Obj)}{s:Shared}{σ:St}{H:Hp}{R:V->V->Hp->Prop}(I:bB X pins σ H s)
  (h:ta σ H fun x H1=>tb σ H1 fun y H2=>R x y H2) {Q:Value->Shared->Prop}{f:Value->Value->Sem Value}
  (hf:∀v u s2 x y H2,bB X pins σ H2 s2->RelV x v->RelV y u->R x y H2->wpAny (model X.prog X.w) X.A (f v u) Q X.xe s2) :
  wpAny (model X.prog X.w) X.A (eval a X.env) (fun v s₁=>wpAny (model X.prog X.w) X.A (eval b X.env) (fun u s₂=>wpAny (model X.prog X.w) X.A (f v u) Q X.xe s₂) X.xe s₁) X.xe s:=by
 refine eO (ha pins s σ H _ I h) fun v s1 ⟨x,H1,I1,r1,q1⟩=>?_;refine eO (hb pins s1 σ H1 _ I1 q1) fun u s2 ⟨y,H2,I2,r2,q2⟩=>?_;exact hf v u s2 x y H2 I2 r1 r2 q2
theorem aV{op:Operator}{r:R2}(ho:pU X (binaryOp op) r)(ha:PE X a ta)(hb:PE X b tb):PE X (.BinOp a op b pos) (Ju r ta tb):=by
 intro pins s σ H Q I h;exact wpAny_BinOp (UL ha hb I h fun v u s2 x y H2 I2 rx ry q=>ho pins s2 σ H2 x y v u Q I2 rx ry q)
theorem Qk{op:UnaryOp}{r:V->Hp->VK->Prop}(ho:UnR X (unaryOp op) r)(ha:PE X a ta):PE X (.UnaryOp op a pos) (tUn r ta):=by
 intro pins s σ H Q I h;exact UnaryOp_ (eO (ha pins s σ H _ I h) fun v s1 ⟨x,H1,I1,r1,q1⟩=>ho pins s1 σ H1 x v Q I1 r1 q1)
theorem WY{f:Value->Value->Sem Value}{C:Int->Int->Prop}{g:Int->Int->Int}
  (rule:∀(i j:Int) (t u:Tok) (s:Shared) (Q:Value->Shared->Prop) (E:Value->Shared->Prop),C i j->Q (.int (g i j) s.toks) { s with toks:=s.toks+1 }->wpAny (model X.prog X.w) X.A (f (.int i t) (.int j u)) Q E s) :
  pU X f (rI C fun i j=>.int (g i j)):=by
 intro pins s σ H x y v u Q I rx ry h;obtain⟨i,j,rfl,rfl,hc,q⟩:=h;obtain⟨t,rfl⟩:=rx;obtain⟨t',rfl⟩:=ry;exact rule i j t t' s _ _ hc ⟨.int (g i j),H,I.tok _,⟨_,rfl⟩,q⟩
theorem Ys{f:Value->Value->Sem Value}{g:Int->Int->Int}
  (rule:∀(i j:Int) (t u:Tok) (s:Shared) (Q:Value->Shared->Prop) (E:Value->Shared->Prop),Q (.int (g i j) s.toks) { s with toks:=s.toks+1 }->wpAny (model X.prog X.w) X.A (f (.int i t) (.int j u)) Q E s) :
  pU X f (O6 fun i j=>.int (g i j)):=by
 intro pins s σ H x y v u Q I rx ry h;obtain⟨i,j,rfl,rfl,q⟩:=h;obtain⟨t,rfl⟩:=rx;obtain⟨t',rfl⟩:=ry;exact rule i j t t' s _ _ ⟨.int (g i j),H,I.tok _,⟨_,rfl⟩,q⟩
theorem Od{f:Value->Value->Sem Value}{g:Int->Int->Bool}
  (rule:∀(i j:Int) (t u:Tok) (s:Shared) (Q:Value->Shared->Prop) (E:Value->Shared->Prop),Q (.bool (g i j)) s->wpAny (model X.prog X.w) X.A (f (.int i t) (.int j u)) Q E s) :
  pU X f (O6 fun i j=>.bl (g i j)):=by
 intro pins s σ H x y v u Q I rx ry h;obtain⟨i,j,rfl,rfl,q⟩:=h;obtain⟨t,rfl⟩:=rx;obtain⟨t',rfl⟩:=ry;exact rule i j t t' s _ _ ⟨.bl (g i j),H,I,rfl,q⟩
def aBB (i j:Int):Prop:=0<j/\j<1073741824
def Za (i j:Int):Prop:=0<=j/\j<=1000000/\i.natAbs<2^64
def Og (i j:Int):Prop:=(-(2^64)<i/\i<2^64)∨(-(2^64)<j/\j<2^64)
theorem Og.ok{i j:Int}(h:Og i j):IntMulOk i j:=by
 rcases h with⟨h1,h2⟩ | ⟨h1,h2⟩
 ·exact .of_left (intBits_le_64 h1 h2)
 ·exact .of_right (intBits_le_64 h1 h2)
theorem dM:pU X (binaryOp .Add) (O6 fun i j=>.int (i+j)):=Ys fun _ _ _ _ _ _ _ q=>add_int q
theorem nF:pU X (binaryOp .Sub) (O6 fun i j=>.int (i-j)):=Ys fun _ _ _ _ _ _ _ q=>sub_int q
theorem CZ:pU X (binaryOp .Mult) (rI Og fun i j=>.int (i*j)):=WY fun _ _ _ _ _ _ _ hc q=>mul_int q hc.ok
theorem j0:pU X (binaryOp .FloorDiv) (rI aBB fun i j=>.int (i/j)):=WY fun i j _ _ _ _ _ hc q=>by
 have h1:(0:Int)<j:=hc.1;have h2:j<1073741824:=hc.2;exact floordiv_int (by omega) (by rw[aGW i (by omega)];exact q) (.inl (PyProof.noPylong_small (by omega)))
theorem c7:pU X (binaryOp .Mod) (rI (fun _ j=>0<j) fun i j=>.int (i%j)):=WY fun i j _ _ _ _ _ hc q=>by
 have h1:(0:Int)<j:=hc;exact mod_int' (by omega) (by rw[Int.fmod_eq_emod_of_nonneg i (by omega)];exact q)
theorem QD:pU X (binaryOp .Mod) (rI (fun _ j=>j≠0) fun i j=>.int (i.fmod j)):=WY fun _ _ _ _ _ _ _ hc q=>mod_int' hc q
theorem WQ:pU X (binaryOp .Pow) (rI Za fun i j=>.int (i^j.toNat)):=WY fun _ _ _ _ _ _ _ hc q=>pow_int_small hc.1 hc.2.1 hc.2.2 q
theorem unI{f:Value->Sem Value}{g:Int->Int}
  (rule:∀(i:Int) (t:Tok) (s:Shared) (Q:Value->Shared->Prop) (E:Value->Shared->Prop),Q (.int (g i) s.toks) { s with toks:=s.toks+1 }->wpAny (model X.prog X.w) X.A (f (.int i t)) Q E s) :
  UnR X f (rU fun i=>.int (g i)):=by
 intro pins s σ H x v Q I rx h;obtain⟨i,rfl,q⟩:=h;obtain⟨t,rfl⟩:=rx;exact rule i t s _ _ ⟨.int (g i),H,I.tok _,⟨_,rfl⟩,q⟩
theorem KY:UnR X (unaryOp .USub) (rU fun i=>.int (-i)):=unI fun _ _ _ _ _ q=>neg_int q
end
noncomputable def Z5:V->V->Bool
 | .non,.non=>true | .non,.int _=>true | .int _,.non=>true | .non,.bl _=>true | .bl _,.non=>true | .non,.str _=>true | .str _,.non=>true
 | .int _,.int _=>true | .bl _,.bl _=>true | .str _,.str _=>true | .byt _,.byt _=>true
 | .int _,.str _=>true | .str _,.int _=>true | .bl _,.str _=>true | .str _,.bl _=>true
 |_,_=>false
noncomputable def rEq:R2:=fun x y H Q=>Z5 x y=true/\Q (.bl (decide (x=y))) H
noncomputable def rNe:R2:=fun x y H Q=>Z5 x y=true/\Q (.bl (!decide (x=y))) H
variable{i:Int}
theorem Il{j:Int}:decide (V.int i=V.int j)=(i==j):=by
 rw[aHq];simp
theorem NT{i j:Bool}:decide (V.bl i=V.bl j)=(i==j):=by
 rw[aHq];simp
theorem Hj{i j:Str}:decide (V.str i=V.str j)=(i==j):=by
 rw[aHq];simp
theorem Ha{i j:Array UInt8}:decide (V.byt i=V.byt j)=(i.toList==j.toList):=by
 rw[aHq];cases i;cases j;simp
section
variable{X:Cx}{a b c:Expr}{ta tb tc:TE}{pos:Pos}
theorem cM{pins:List (Addr×Obj)}{σ:St}{H:Hp}{s:Shared}{Q:VK}{k k':Bool}(I:bB X pins σ H s)(q:Q (.bl k) H)(e:k=k'):EP X pins σ Q (.bool k') s:=by
 subst e;exact⟨.bl k,H,I,rfl,q⟩
theorem fQ:pU X (compareOp .Eq) rEq:=by
 intro pins s σ H x y v u Q I rx ry h;obtain⟨hs,q⟩:=h;cases x with
 |non =>
  cases rx;cases y with
  |non=>cases ry;exact PySem.EqNone.eq_none_none (cM I q (by simp))
  |bl j=>cases ry;exact PySem.EqNone.eq_none_bool (cM I q (by simp))
  |int j=>obtain⟨t',rfl⟩:=ry;exact PySem.EqNone.eq_none_int (cM I q (by simp))
  |str j=>obtain⟨t',rfl⟩:=ry;exact PySem.EqNone.eq_none_str (cM I q (by simp))
  |_=>exact absurd (show false=true from hs) aGb
 |bl i =>
  cases rx;cases y with
  |non=>cases ry;exact PySem.EqNone.eq_bool_none (cM I q (by simp))
  |bl j=>cases ry;exact eq_bool (cM I q NT)
  |str j=>obtain⟨t',rfl⟩:=ry;exact PySem.EqMixed.eq_bool_str (cM I q (by simp))
  |_=>exact absurd (show false=true from hs) aGb
 |int i =>
  obtain⟨t,rfl⟩:=rx;cases y with
  |non=>cases ry;exact PySem.EqNone.eq_int_none (cM I q (by simp))
  |int j=>obtain⟨t',rfl⟩:=ry;exact eq_int (cM I q Il)
  |str j=>obtain⟨t',rfl⟩:=ry;exact PySem.EqMixed.eq_int_str (cM I q (by simp))
  |_=>exact absurd (show false=true from hs) aGb
 |str i =>
  obtain⟨t,rfl⟩:=rx;cases y with
  |non=>cases ry;exact PySem.EqNone.eq_str_none (cM I q (by simp))
  |bl j=>cases ry;exact PySem.EqMixed.eq_str_bool (cM I q (by simp))
  |int j=>obtain⟨t',rfl⟩:=ry;exact PySem.EqMixed.eq_str_int (cM I q (by simp))
  |str j=>obtain⟨t',rfl⟩:=ry;exact eq_str (cM I q Hj)
  |_=>exact absurd (show false=true from hs) aGb
 |byt i =>
  obtain⟨t,rfl⟩:=rx;cases y with
  |byt j=>obtain⟨t',rfl⟩:=ry;exact PySem.W.eq_bytes (cM I q Ha)
  |_=>exact absurd (show false=true from hs) aGb
 |_=>cases y <;> exact absurd (show false=true from hs) aGb
theorem zL:pU X (compareOp .NotEq) rNe:=by
 intro pins s σ H x y v u Q I rx ry h;obtain⟨hs,q⟩:=h;cases x with
 |non =>
  cases rx;cases y with
  |non=>cases ry;exact PySem.EqNone.ne_none_none (cM I q (by simp))
  |bl j=>cases ry;exact PySem.EqNone.ne_none_bool (cM I q (by simp))
  |int j=>obtain⟨t',rfl⟩:=ry;exact PySem.EqNone.ne_none_int (cM I q (by simp))
  |str j=>obtain⟨t',rfl⟩:=ry;exact PySem.EqNone.ne_none_str (cM I q (by simp))
  |_=>exact absurd (show false=true from hs) aGb
 |bl i =>
  cases rx;cases y with
  |non=>cases ry;exact PySem.EqNone.ne_bool_none (cM I q (by simp))
  |bl j=>cases ry;exact ne_bool (cM I q (congrArg not NT))
  |str j=>obtain⟨t',rfl⟩:=ry;exact PySem.EqMixed.ne_bool_str (cM I q (by simp))
  |_=>exact absurd (show false=true from hs) aGb
 |int i =>
  obtain⟨t,rfl⟩:=rx;cases y with
  |non=>cases ry;exact PySem.EqNone.ne_int_none (cM I q (by simp))
  |int j=>obtain⟨t',rfl⟩:=ry;exact ne_int (cM I q (congrArg not Il))
  |str j=>obtain⟨t',rfl⟩:=ry;exact PySem.EqMixed.ne_int_str (cM I q (by simp))
  |_=>exact absurd (show false=true from hs) aGb
 |str i =>
  obtain⟨t,rfl⟩:=rx;cases y with
  |non=>cases ry;exact PySem.EqNone.ne_str_none (cM I q (by simp))
  |bl j=>cases ry;exact PySem.EqMixed.ne_str_bool (cM I q (by simp))
  |int j=>obtain⟨t',rfl⟩:=ry;exact PySem.EqMixed.ne_str_int (cM I q (by simp))
  |str j=>obtain⟨t',rfl⟩:=ry;exact ne_str (cM I q (congrArg not Hj))
  |_=>exact absurd (show false=true from hs) aGb
 |byt i =>
  obtain⟨t,rfl⟩:=rx;cases y with
  |byt j=>obtain⟨t',rfl⟩:=ry;exact PySem.W.ne_bytes (cM I q (congrArg not Ha))
  |_=>exact absurd (show false=true from hs) aGb
 |_=>cases y <;> exact absurd (show false=true from hs) aGb
theorem uU:pU X (compareOp .Lt) (O6 fun i j=>.bl (decide (i<j))):=Od fun _ _ _ _ _ _ _ q=>lt_int q
theorem rW:pU X (compareOp .LtE) (O6 fun i j=>.bl (decide (i<=j))):=Od fun _ _ _ _ _ _ _ q=>le_int q
theorem zA:pU X (compareOp .Gt) (O6 fun i j=>.bl (decide (j<i))):=Od fun _ _ _ _ _ _ _ q=>gt_int q
theorem Rh:pU X (compareOp .GtE) (O6 fun i j=>.bl (decide (j<=i))):=Od fun _ _ _ _ _ _ _ q=>ge_int q
theorem JR:pU X (compareOp .In) (fun x y H Q=>∃i j,x=.str i/\y=.str j/\Q (.bl (!(Builtin.Str.occurrences j i 0 j.length 1).isEmpty)) H):=by
 intro pins s σ H x y v u Q I rx ry h;obtain⟨i,j,rfl,rfl,q⟩:=h;obtain⟨t,rfl⟩:=rx;obtain⟨t',rfl⟩:=ry;exact in_str (cM I q rfl)
theorem K9:pU X (compareOp .Is) (fun x y H Q=>y=.non/\Q (.bl (decide (x=.non))) H):=by
 intro pins s σ H x y v u Q I rx ry h;obtain⟨rfl,q⟩:=h;cases ry;refine is_none_gen (cM I q ?_);cases x <;> first
  | (cases rx;rfl)
  | (obtain⟨t,rfl⟩:=rx;rfl)
variable{op:CmpOp}
theorem bD(b:Expr)(h:op≠.In:=by decide)(h2:op≠.NotIn:=by decide):behindInMarks op b=false:=by
 have e1:(op==CmpOp.In)=false:=by cases op <;> first |rfl |exact absurd rfl h
 have e2:(op==CmpOp.NotIn)=false:=by cases op <;> first |rfl |exact absurd rfl h2
 cases b <;> simp[behindInMarks,e1,e2]
theorem pM{r:R2}(ho:pU X (compareOp op) r)(ha:PE X a ta)(hb:PE X b tb)(hm:behindInMarks op b=false):PE X (.Compare a [op] [b] pos) (Ju r ta tb):=by
 intro pins s σ H Q I h;exact wpAny_Compare1 (UL ha hb I h fun v u s2 x y H2 I2 rx ry q=>ho pins s2 σ H2 x y v u Q I2 rx ry q) hm
inductive QH (Q:Bool->Hp->Prop)(x:V)(H':Hp):Prop
 |mk (k:_) (_:x=.bl k) (_:Q k H')
noncomputable def NP (t:TE):TT:=fun σ H Q=>t σ H fun x H'=>QH Q x H'
theorem bJ{r:R2}(ho:pU X (compareOp op) r)(ha:PE X a ta)(hb:PE X b tb)(hm:behindInMarks op b=false):PT X (.Compare a [op] [b] pos) (NP (Ju r ta tb)):=by
 intro pins s σ H Q I h;refine wpAny_isTrue_Compare1 (eO (ha pins s σ H _ I h) fun v s1 ⟨x,H1,I1,r1,q1⟩=>eO (hb pins s1 σ H1 _ I1 q1) fun u s2 ⟨y,H2,I2,r2,q2⟩ =>
  eO (ho pins s2 σ H2 x y v u _ I2 r1 r2 q2) fun c s3 ⟨z,H3,I3,r3,k,e,q3⟩=>?_) hm
 subst e;cases r3;exact wpAny_truthy_bool ⟨H3,I3,q3⟩
inductive K8 (r':R2)(tc:TE)(σ:St)(Q:VK)(y:V)(z:V)(H3:Hp):Prop
 |mk (k:_) (_:z=.bl k) (_:(if k=true then tc σ H3 fun w' H4=>r' y w' H4 Q else Q (.bl false) H3))
noncomputable def Lj (r r':R2)(ta tb tc:TE):TE:=fun σ H Q=>ta σ H fun x H1=>tb σ H1 fun y H2=>r x y H2 fun z H3=>K8 r' tc σ Q y z H3
variable{op':CmpOp}
theorem KN{r r':R2}(ho:pU X (compareOp op) r)(ho':pU X (compareOp op') r')(ha:PE X a ta)(hb:PE X b tb)(hc:PE X c tc)
  (hm:lastMarks [op,op'] [b,c]=false:=by with_unfolding_all rfl):PE X (.Compare a [op,op'] [b,c] pos) (Lj r r' ta tb tc):=by
 intro pins s σ H Q I h;refine Compare_chain (eO (ha pins s σ H _ I h) fun v s1 ⟨x,H1,I1,r1,q1⟩=>chain_link (eO (hb pins s1 σ H1 _ I1 q1) fun u s2 ⟨y,H2,I2,r2,q2⟩ =>
  eO (ho pins s2 σ H2 x y v u _ I2 r1 r2 q2) fun d s3 ⟨z,H3,I3,r3,k,e,q3⟩=>?_)) hm
 subst e;cases r3;refine wpAny_truthy_bool ?_;cases k with
 |false=>exact ite_ff ⟨.bl false,H3,I3,rfl,q3⟩
 |true=>exact ite_tt (chain_last (eO (hc pins s3 σ H3 _ I3 q3) fun w' s4 ⟨z',H4,I4,r4,q4⟩=>ho' pins s4 σ H4 y z' u w' Q I4 r2 r4 q4))
theorem xT{r r':R2}(ho:pU X (compareOp op) r)(ho':pU X (compareOp op') r')(ha:PE X a ta)(hb:PE X b tb)(hc:PE X c tc)
  (hm:lastMarks [op,op'] [b,c]=false:=by with_unfolding_all rfl):PT X (.Compare a [op,op'] [b,c] pos) (NP (Lj r r' ta tb tc)):=by
 intro pins s σ H Q I h;refine isTrue_chain (eO (ha pins s σ H _ I h) fun v s1 ⟨x,H1,I1,r1,q1⟩=>test_link (eO (hb pins s1 σ H1 _ I1 q1) fun u s2 ⟨y,H2,I2,r2,q2⟩ =>
  eO (ho pins s2 σ H2 x y v u _ I2 r1 r2 q2) fun d s3 ⟨z,H3,I3,r3,k,e,q3⟩=>?_)) hm
 subst e;cases r3;refine wpAny_truthy_bool ?_;cases k with
 |false =>
  obtain⟨k',e',q'⟩:=q3;cases e';exact ite_ff ⟨H3,I3,q'⟩
 |true =>
  refine ite_tt (test_last (eO (hc pins s3 σ H3 _ I3 q3) fun w' s4 ⟨z',H4,I4,r4,q4⟩=>eO (ho' pins s4 σ H4 y z' u w' _ I4 r2 r4 q4) fun d' s5 ⟨z2,H5,I5,r5,k2,e2,q5⟩=>?_));subst e2;cases r5;exact wpAny_truthy_bool ⟨H5,I5,q5⟩
theorem wU:(sizeLine:Nat)<2^63:=by rw[sizeLine_eq];decide
variable{us:List Value}
theorem vals1{x:V}(r:cL [x] us):∃u,us=[u]/\RelV x u:=by
 cases r with
 |cons r1 r2=>cases r2;exact⟨_,rfl,r1⟩
theorem vals2{x y:V}(r:cL [x,y] us):∃u w',us=[u,w']/\RelV x u/\RelV y w':=by
 cases r with
 |cons r1 r2 =>
  cases r2 with
  |cons r3 r4=>cases r4;exact⟨_,_,rfl,r1,r3⟩
theorem Fb:fY X (.builtin "abs") (fun xs H Q=>∃i,xs=[.int i]/\Q (.int (if i<0 then -i else i)) H):=by
 intro pins s σ H xs us Q I r h;obtain⟨i,rfl,q⟩:=h;obtain⟨u,rfl,t,rfl⟩:=vals1 r;exact call_abs_int fun u tk=>⟨.int (if i<0 then -i else i),H,I.tok _,⟨_,rfl⟩,q⟩
theorem JN(hc:X.calm=true):fY X (.builtin "max") (fun xs H Q=>∃i j,xs=[.int i,.int j]/\Q (.int (if j > i then j else i)) H):=by
 intro pins s σ H xs us Q I r h;obtain⟨i,j,rfl,q⟩:=h;obtain⟨u,w',rfl,⟨t,rfl⟩,⟨t',rfl⟩⟩:=vals2 r;refine max_two_ints (I.ok.hd hc) fun h' tk k=>⟨_,H,I.kept k,?_,q⟩
 by_cases hj:j > i
 ·rw[if_pos hj,if_pos hj];exact⟨_,rfl⟩
 ·rw[if_neg hj,if_neg hj];exact⟨_,rfl⟩
theorem zW(hc:X.calm=true):fY X (.builtin "min") (fun xs H Q=>∃i j,xs=[.int i,.int j]/\Q (.int (if j<i then j else i)) H):=by
 intro pins s σ H xs us Q I r h;obtain⟨i,j,rfl,q⟩:=h;obtain⟨u,w',rfl,⟨t,rfl⟩,⟨t',rfl⟩⟩:=vals2 r;refine min_two_ints (I.ok.hd hc) fun h' tk k=>⟨_,H,I.kept k,?_,q⟩
 by_cases hj:j<i
 ·rw[if_pos hj,if_pos hj];exact⟨_,rfl⟩
 ·rw[if_neg hj,if_neg hj];exact⟨_,rfl⟩
end
structure Gw (h:Heap)(x dx C:Addr)(mA:Str->Option Value):Prop where
 obj:h.get? x=some (PySem.W.instObj C dx)
 ns:h.Ns1 dx mA
 ne:dx≠x
theorem Jm{dx:Addr}{mA:Str->Option Value}(n:h.Ns1 dx mA):∃od,h.get? dx=some od/\∀name,PySem.W.lookIn name od=some (mA name):=by
 obtain⟨o,es,ep,ho,hd,hk,_,hm⟩:=n;refine⟨o,ho,fun name=>?_⟩;have e:=hm name;unfold nsFind findBy at e;rw[<-Array.find?_toList]at e;unfold PySem.W.lookIn;rw[hd];dsimp only
 split
 ·rename_i y q;rw[q]at e;exact congrArg some e
 ·rename_i q;rw[q]at e;have a:es.toList.any (·.refKey)=false:=by
   rw[aIr];intro y hy;obtain⟨z,t,hkey⟩:=hk y (Array.mem_toList_iff.mp hy);simp[DictEntry.refKey,hkey]
  have a':¬ es.toList.any (·.refKey)=true:=by rw[a];exact aGb
  rw[if_neg a'];exact congrArg some e
variable{C:Addr}
theorem Gw.look{x dx:Addr}{mA:Str->Option Value}(I:Gw h x dx C mA):∃od,PySem.W.InstAt h x (PySem.W.instObj C dx) C (some od)/\∀name,PySem.W.lookIn name od=some (mA name) :=
 let⟨od,ho,hl⟩:=Jm I.ns
 ⟨od,⟨I.obj,rfl,rfl,ho⟩,hl⟩
section
variable{prog:Program}{w:World}{A:Around}{E:Value->Shared->Prop}{s:Shared}{K:PySem.W.Frag}{x dx C f:Addr}{mA:Str->Option Value}{name:Str}{v:Value}
theorem Ob{expr:Bool}{Q:Value->Shared->Prop}(X:K.In s.heap)(I:Gw s.heap x dx C mA)(hg:PySem.W.plainGet K C name=true)(hh:PySem.W.hasDictIn K C=true)
  (ha:PySem.W.findIn K (.ref C) name=some none) (hv:mA name=some v) (hv':PySem.W.handedIn v=true) (h:Q v { s with toks:=s.toks+1 }) :
  wpAny (model prog w) A (getAttr (.ref x) name expr) Q E s:=by
 obtain⟨od,J,hl⟩:=I.look;exact PySem.W.get_value X J (PySem.W.plainGet_of hg).1 (PySem.W.findObj_own hh ha rfl (by rw[hl,hv])) hv' h
theorem Nu{pl:Sem Bool}{Q:Value×List Value->Shared->Prop}(X:K.In s.heap)(I:Gw s.heap x dx C mA)(hg:PySem.W.plainGet K C name=true)
  (hf:PySem.W.findIn K (.ref C) name=some (some (.ref f))) (ht:PySem.W.isFn K (.ref f)=true) (hv:mA name=none) (h:Q (.ref f,[.ref x]) s) :
  wpAny (model prog w) A (getMethod (.ref x) name pl) Q E s:=by
 obtain⟨od,J,hl⟩:=I.look;exact PySem.W.method_fn X J (PySem.W.plainGet_of hg).1 (PySem.W.plainGet_of hg).2 hf (beq_iff_eq.mp ht) (by show(PySem.W.lookIn name od).map (·.isSome)=some false;rw[hl,hv];rfl) h
theorem Om{ns:List Str}{Q:Unit->Shared->Prop}(X:K.In s.heap)(I:Gw s.heap x dx C mA)
  (hs:PySem.W.findIn K (.ref C) "__setattr__" = some (some (.builtin "object.__setattr__"))) (hp:PySem.W.plainOver K C=true) (ht:PySem.W.takerIn K C name=some none) (hh:PySem.W.hasDictIn K C=true)
  (hw:PySem.Within mA ns) (hsz:ns.length<=sizeLine)
  (h:∀h',Gw h' x dx C (fun y=>if y=name then some v else mA y)->aGC dx s.heap h'->Q () { s with heap:=h',toks:=s.toks+2 }) :
  wpAny (model prog w) A (setAttr (.ref x) name v) Q E s:=by
 obtain⟨od,J,hl⟩:=I.look;refine PySem.W.set_plain X J hs (PySem.W.osa_open (s:={ s with toks:=s.toks+1 }) (r:=none) X J hp ht fun b=>?_);obtain⟨cd,hc,hd'⟩:=PySem.W.any_some hh;have hx:s.heap.get? x=some ⟨.ref C,some dx,.plain,#[]⟩:=I.obj;refine wpAny_bind (wpAny_pure (wpAny_bind (wpAny_bind (wpAny_loadPart hx (wpAny_bind (PySem.W.Looks.here (s:={ s with toks:=s.toks+1 }) (PySem.W.looks_clsIn X hc) ?_))))));rw[hd'];refine wpAny_pure (a:=some dx) (wpAny_bind (wpAny_pure (wpAny_bind ?_)));refine wpAny_nsSet1 (s:={ s with toks:=s.toks+1 }) I.ns fun h' hn2 hs2=>?_;obtain⟨oD,esD,epD,hoD,hdD,hcD⟩:=hn2.count (PySem.Within.cons name v hw);refine wpAny_bind (wpAny_lookBehind hoD (by rw[hdD];exact pastItsLine_dict (aFN hcD (by rw[aF8];omega))) ?_);exact wpAny_pure (h _ ⟨(hs2.2 _ (Ne.symm I.ne)).trans I.obj,hn2,I.ne⟩ hs2)
theorem Jy{R:Result->Shared->Prop}{vs:List Value}{kw:List (Str×Value)}(X:K.In s.heap)(hm:PySem.W.makesIn K C=true)
  (hi:PySem.W.findIn K (.ref C) "__init__" = some (some (.ref f))) (hf:PySem.W.typeIn K (.ref f)=some (.type "function"))
  (h:codeAny (model prog w) (A.under (.builtin "type.__call__" ⟨.ref C::vs,kw⟩)) (.call (.ref f) ⟨.ref (s.heap.objs.size+1)::vs,kw⟩) (PySem.W.InitBack (s.heap.objs.size+1) R)
   { s with heap:=(s.heap.push PySem.W.emptyDict).push (PySem.W.instObj C s.heap.objs.size) }) :
  codeAny (model prog w) A (.call (.ref C) ⟨vs,kw⟩) R s:=by
 obtain⟨hh,g,d,t,os⟩:=s;exact PySem.W.make_core (PySem.W.makes_of X hm) (PySem.W.looks_findIn X hi) (fun self=>PySem.W.bind_fn X self hf) (.inl rfl) h
theorem Jc{R:Result->Shared->Prop}(X:K.In s.heap)(hm:PySem.W.makesIn K C=true)
  (hi:PySem.W.findIn K (.ref C) "__init__" = some (some (.builtin "object.__init__")))
  (hb:∀self,PySem.W.Looks (model prog w) s.heap (bindSpecial (.builtin "object.__init__") self) (.builtin "object.__init__",[self]))
  (h:codeAny (model prog w) (A.under (.builtin "type.__call__" ⟨[.ref C],[]⟩)) (.call (.builtin "object.__init__") ⟨[.ref (s.heap.objs.size+1)],[]⟩) (PySem.W.InitBack (s.heap.objs.size+1) R)
   { s with heap:=(s.heap.push PySem.W.emptyDict).push (PySem.W.instObj C s.heap.objs.size) }) :
  codeAny (model prog w) A (.call (.ref C) ⟨[],[]⟩) R s:=by
 obtain⟨hh,g,d,t,os⟩:=s;exact PySem.W.make_core (PySem.W.makes_of X hm) (PySem.W.looks_findIn X hi) hb (.inr ⟨rfl,rfl⟩) h
end
noncomputable def iY (f:Str)(v:V):List (Str×V)->List (Str×V)
 | []=>[(f,v)]
 | (g,x)::r=>if g=f then(g,v)::r else(g,x)::iY f v r
theorem fX(f g:Str)(v:V):∀fs:List (Str×V),(iY f v fs).lookup g=if g=f then some v else fs.lookup g
 | []=>by
  show aHe g [(f,v)]=_
  by_cases h:g=f
  ·have hb:(g==f)=true:=beq_iff_eq.mpr h;simp only[aHe,hb,if_pos h]
  ·have hb:(g==f)=false:=beq_eq_false_iff_ne.mpr h;simp only[aHe,hb,if_neg h]
 | (k,x)::r=>by
  have ih:=fX f g v r;rw[show iY f v ((k,x)::r)=(if k=f then(k,v)::r else(k,x)::iY f v r)from rfl]
  by_cases hk:k=f
  ·rw[if_pos hk]
   by_cases h:g=k
   ·have hb:(g==k)=true:=beq_iff_eq.mpr h;simp only[aHe,hb,if_pos (h.trans hk)]
   ·have hb:(g==k)=false:=beq_eq_false_iff_ne.mpr h;simp only[aHe,hb,if_neg (fun e:g=f=>h (e.trans hk.symm))]
  ·rw[if_neg hk]
   by_cases h:g=k
   ·have hb:(g==k)=true:=beq_iff_eq.mpr h;simp only[aHe,hb,if_neg (fun e:g=f=>hk (h.symm.trans e))]
   ·have hb:(g==k)=false:=beq_eq_false_iff_ne.mpr h;simp only[aHe,hb];exact ih
theorem tZ(f:Str)(v:V):∀fs:List (Str×V),f∈(iY f v fs).map (·.1)/\∀g,g∈fs.map (·.1)->g∈(iY f v fs).map (·.1)
 | []=>⟨by simp[iY],fun g h=>by simp at h⟩
 | (k,x)::r=>by
  obtain⟨i1,i2⟩:=tZ f v r;rw[show iY f v ((k,x)::r)=(if k=f then(k,v)::r else(k,x)::iY f v r)from rfl]
  by_cases hk:k=f
  ·rw[if_pos hk];subst hk;exact⟨by simp,fun g h=>by simpa using h⟩
  ·rw[if_neg hk];refine⟨?_,fun g h=>?_⟩
   ·rw[aFP];exact aFK _ i1
   ·rw[aFP]at h ⊢;rcases aGi.mp h with e |e
    ·exact aGi.mpr (.inl e)
    ·exact aFK _ (i2 g e)
theorem uX(f:Str)(v:V):∀fs:List (Str×V),(iY f v fs).length<=fs.length+1
 | []=>by simp[iY]
 | (k,x)::r=>by
  have ih:=uX f v r;rw[show iY f v ((k,x)::r)=(if k=f then(k,v)::r else(k,x)::iY f v r)from rfl]
  by_cases hk:k=f
  ·rw[if_pos hk,aF8,aF8];omega
  ·rw[if_neg hk,aF8,aF8];omega
theorem oJ.some_of{v:V}{o:Option Value}(r:oJ (some v) o):∃u,o=some u/\RelV v u:=by
 cases o with
 |none=>exact(show False from r).elim
 |some u=>exact⟨u,rfl,r⟩
theorem oJ.none_of{o:Option Value}(r:oJ none o):o=none:=by
 cases o with
 |none=>rfl
 |some u=>exact(show False from r).elim
theorem JZ{v:V}{u:Value}(r:RelV v u):PySem.W.handedIn u=true:=by
 cases v with
 |non=>cases(show u=Value.none from r);rfl
 |bl b=>cases(show u=Value.bool b from r);rfl
 |int i=>obtain⟨t,e⟩:=(show ∃t,u=Value.int i t from r);cases e;rfl
 |str x=>obtain⟨t,e⟩:=(show ∃t,u=Value.str x t from r);cases e;rfl
 |byt b=>obtain⟨t,e⟩:=(show ∃t,u=Value.bytes b t from r);cases e;rfl
 |flt b=>obtain⟨t,e⟩:=(show ∃t,u=Value.float b t from r);cases e;rfl
 |ref a=>cases(show u=Value.ref a from r);rfl
 |ty n=>cases(show u=Value.type n from r);rfl
section
variable{P:Program}{w:World}{H H':Hp}{h h':Heap}{a C dx:Addr}{fs fs':List (Str×V)}
theorem sE(hok:pK P w H h)(e:H a=some (.ins C dx fs)):∃mA,Gw h a dx C mA/\(∀f,oJ (fs.lookup f) (mA f))/\PySem.Within mA (fs.map (·.1))/\fs.length<=1000/\H dx=some (.own a):=by
 obtain⟨d,z,ne,ob,mA,n,r,q⟩:=(show cX P w H h a (.ins C dx fs)from hok a _ e)
 exact⟨mA,⟨ob,n,ne⟩,r,q,z,d⟩
end
structure rZ (K:PySem.W.Frag)(C:Addr):Prop where
 pg:PySem.W.plainGet K C Str.empty=true
 hd:PySem.W.hasDictIn K C=true
 po:PySem.W.plainOver K C=true
 sa:PySem.W.findIn K (.ref C) "__setattr__" = some (some (.builtin "object.__setattr__"))
theorem rZ.get(c:rZ K C)(f:Str):PySem.W.plainGet K C f=true:=c.pg
def b8 (K:PySem.W.Frag)(C:Addr)(f:Str):Prop:=PySem.W.findIn K (.ref C) f=some none
theorem b8.taker{f:Str}(n:b8 K C f):PySem.W.takerIn K C f=some none:=by
 unfold PySem.W.takerIn;rw[show PySem.W.findIn K (.ref C) f=some none from n]
 rfl
structure cJ (K:PySem.W.Frag)(C:Addr)(m:Str)(f:Addr):Prop where
 at_:PySem.W.findIn K (.ref C) m=some (some (.ref f))
 fn:PySem.W.isFn K (.ref f)=true
 kp:PySem.W.keepIn K (.ref f)=true
section
variable{X:Cx}{pins:List (Addr×Obj)}{σ:St}{H:Hp}{s:Shared}{a C dx:Addr}{fs:List (Str×V)}{f:Str}{v:V}{A:Around}{E:Value->Shared->Prop}
theorem Gx{b:Bool}{Q:Value->Shared->Prop}(I:bB X pins σ H s)(e:H a=some (.ins C dx fs))(c:rZ X.K C)(n:b8 X.K C f)(l:fs.lookup f=some v)
  (h:∀u s',bB X pins σ H s'->RelV v u->Q u s'):wpAny (model X.prog X.w) A (getAttr (.ref a) f b) Q E s:=by
 obtain⟨mA,O,r,_,_,_⟩:=sE I.hok e;obtain⟨u,hu,ru⟩:=oJ.some_of (v:=v) (o:=mA f) (by rw[<-l];exact r f);exact Ob I.kIn O (c.get f) c.hd n hu (JZ ru) (h u _ (I.tok _) ru)
theorem qP{m:Str}{g:Addr}{pl:Sem Bool}{Q:Value×List Value->Shared->Prop}(I:bB X pins σ H s)(e:H a=some (.ins C dx fs))(c:rZ X.K C)(k:cJ X.K C m g)(l:fs.lookup m=none)
  (h:Q (.ref g,[.ref a]) s):wpAny (model X.prog X.w) A (getMethod (.ref a) m pl) Q E s:=by
 obtain⟨mA,O,r,_,_,_⟩:=sE I.hok e;have hn:mA m=none:=oJ.none_of (by rw[<-l];exact r m);exact Nu I.kIn O (c.get m) k.at_ k.fn hn h
theorem Fj{y:V}{u:Value}{Q:Unit->Shared->Prop}(I:bB X pins σ H s)(e:H a=some (.ins C dx fs))(c:rZ X.K C)(n:b8 X.K C f)(hl:fs.length<1000)(ry:RelV y u)
  (h:∀s',bB X pins σ (bH H a (.ins C dx (iY f y fs))) s'->Q () s'):wpAny (model X.prog X.w) A (setAttr (.ref a) f u) Q E s:=by
 obtain⟨mA,O,r,wi,_,ho⟩:=sE I.hok e;have hz:(fs.map (·.1)).length<=sizeLine:=by rw[aFJ,sizeLine_eq];omega
 refine Om I.kIn O c.sa c.po n.taker c.hd wi hz fun h' O' sb=>h _ ?_;have hd:∃o,h'.get? dx=some o:=let⟨o,_,_,e',_⟩:=O'.ns; ⟨o,e'⟩;refine I.write (x:=a) (e:=dx) (by rw[e];exact True.intro) (.inr ho) (fun b q hb z=>(sb.2 b hb).trans z) hd ?_;refine⟨by rw[aK O.ne];exact ho,?_,O.ne,O'.obj,_,O'.ns,fun g=>?_,fun g hg=>?_⟩
 ·have:=uX f y fs;omega
 ·show oJ ((iY f y fs).lookup g) (if g=f then some u else mA g);rw[fX]
  by_cases q:g=f
  ·rw[if_pos q,if_pos q];exact ry
  ·rw[if_neg q,if_neg q];exact r g
 ·by_cases q:g=f
  ·rw[q];exact(tZ f y fs).1
  ·refine(tZ f y fs).2 g (wi g fun z=>hg ?_);show(if g=f then some u else mA g)=none;rw[if_neg q];exact z
theorem bB.made(I:bB X pins σ H s):bB X pins σ (bH (bH H s.heap.objs.size (.own (s.heap.objs.size+1))) (s.heap.objs.size+1) (.ins C s.heap.objs.size []))
  { s with heap:=(s.heap.push PySem.W.emptyDict).push (PySem.W.instObj C s.heap.objs.size) }:=by
 have e1:(s.heap.push PySem.W.emptyDict).get? s.heap.objs.size=some PySem.W.emptyDict:=aF6 s.heap rfl;have e2:((s.heap.push PySem.W.emptyDict).push (PySem.W.instObj C s.heap.objs.size)).get? (s.heap.objs.size+1)=some (PySem.W.instObj C s.heap.objs.size):=by
  have:=aF6 (s.heap.push PySem.W.emptyDict) (o:=PySem.W.instObj C s.heap.objs.size) rfl
  rwa[aHM]at this
 have e3:(s.heap.push PySem.W.emptyDict).Ns s.heap.objs.size (fun _=>none):=⟨PySem.W.emptyDict,#[],_,e1,rfl,(fun e he=>absurd he (by simp)),fun _=>rfl⟩
 have I1:=I.laid (a:=s.heap.objs.size) (o:=.own (s.heap.objs.size+1)) (h':=s.heap.push PySem.W.emptyDict) (t':=s.toks) (fun b u q=>aFO _ q) (aFV _) ⟨_,e1⟩;refine I1.laid (a:=s.heap.objs.size+1) (o:=.ins C s.heap.objs.size []) (t':=s.toks) (fun b u q=>aFO _ q) (aH3 (aHM _ _)) ?_;have ne:s.heap.objs.size≠s.heap.objs.size+1:=aGg (aHE _);refine⟨by rw[aK ne,aB],aGe _,ne,e2,fun _=>none,(Heap.Ns1.of_empty e3).at fun o q=>aFO _ q,fun _=>True.intro,fun y hy=>absurd rfl hy⟩
theorem Oj{prog:Program}{w:World}{env:Env}{e:Expr}{f:Str}{pos:Pos}{s:Shared}{Q:Value->Shared->Prop}(hb:attributeBase e f env (eval e env)=eval e env)
  (h:wpAny (model prog w) A (eval e env) (fun o s₁=>wpAny (model prog w) A (getAttr o f true) Q E s₁) E s):wpAny (model prog w) A (eval (.Attribute e f pos) env) Q E s :=
 Attribute_any_ h (by rw[arm_eval_Attribute,hb])
end
inductive Td (K:PySem.W.Frag)(f:Str)(Q:VK)(x:V)(H1:Hp):Prop
 |mk (a:_) (C:_) (dx:_) (fs:_) (v:_) (_:x=.ref a) (_:H1 a=some (.ins C dx fs)) (_:rZ K C) (_:b8 K C f) (_:fs.lookup f=some v) (_:Q v H1)
noncomputable def aBo (K:PySem.W.Frag)(ta:TE)(f:Str):TE:=fun σ H Q=>ta σ H fun x H1=>Td K f Q x H1
inductive Rr (K:PySem.W.Frag)(f:Str)(D:Ends)(σ:St)(y:V)(x:V)(H2:Hp):Prop
 |mk (a:_) (C:_) (dx:_) (fs:_) (_:x=.ref a) (_:H2 a=some (.ins C dx fs)) (_:rZ K C) (_:b8 K C f) (_:fs.length<1000) (_:D.nx σ (bH H2 a (.ins C dx (iY f y fs))))
noncomputable def aBP (K:PySem.W.Frag)(ta tv:TE)(f:Str):TS:=fun D σ H=>tv σ H fun y H1=>ta σ H1 fun x H2=>Rr K f D σ y x H2
section
variable{X:Cx}{o e value:Expr}{f:Str}{pos pos' tpos:Pos}{ta tv:TE}
theorem cH(he:PE X e ta)(hb:attributeBase e f X.env (eval e X.env)=eval e X.env):PE X (.Attribute e f pos) (aBo X.K ta f):=by
 intro pins s σ H Q I h;refine Oj hb (eO (he pins s σ H _ I h) fun u s1 ⟨x,H1,I1,rx,a,C,dx,fs,v,ex,ea,c,n,l,q⟩=>?_);subst ex;obtain rfl:u=Value.ref a:=rx;exact Gx I1 ea c n l fun u' s2 I2 ru=>⟨v,H1,I2,ru,q⟩
theorem gB(ha:PE X o ta)(hv:PE X value tv)(hs:swapsWith value (some (.Attribute o f pos')) pos.line X.env=pure false):PS X (.Assign [.Attribute o f pos'] value pos) (aBP X.K ta tv f):=by
 intro pins s σ H D I h;refine plainObj_wpAny_Assign_Attribute (eO (hv pins s σ H _ I h) fun u s1 ⟨y,H1,I1,ry,q⟩=>eO (ha pins s1 σ H1 _ I1 q) fun ov s2 ⟨x,H2,I2,rx,a,C,dx,fs,ex,ea,c,n,l,q2⟩=>?_) hs;subst ex;obtain rfl:ov=Value.ref a:=rx;exact Fj I2 ea c n l ry fun s3 I3=>⟨σ,_,I3,q2⟩
theorem RJ{pl:Sem Bool}{m:Str}{apos:Pos}{args:List Expr}{pins:List (Addr×Obj)}{s:Shared}{σ:St}{H:Hp}{Q:Value->Shared->Prop}{te:TE}(he:PE X e te)(I:bB X pins σ H s)
  (h:te σ H fun x H1=>∃a C dx fs g,x=.ref a/\H1 a=some (.ins C dx fs)/\rZ X.K C/\cJ X.K C m g/\fs.lookup m=none ∧
   ∀s1,bB X pins σ H1 s1->wpAny (model X.prog X.w) X.A (callWith pos (.ref g) [.ref a] (backTo pos (starEach args X.env)) (backToKw pos (keywordEach [] X.env))) Q X.xe s1)
  (ht:eval (.Call (.Attribute e m apos) args [] pos) X.env=(do
   let ov <-eval e X.env
   standAt apos.atName
   let(f,first) <-holding [ov] (getMethod ov m pl)
   callWith pos f first (backTo pos (starEach args X.env)) (backToKw pos (keywordEach [] X.env)))) :
  wpAny (model X.prog X.w) X.A (eval (.Call (.Attribute e m apos) args [] pos) X.env) Q X.xe s:=by
 refine PySem.W.methodCall_KW (pl:=pl) (eO (he pins s σ H _ I h) fun u s1 ⟨x,H1,I1,rx,a,C,dx,fs,g,ex,ea,c,k,l,q⟩=>?_) ht;subst ex;obtain rfl:u=Value.ref a:=rx;exact qP I1 ea c k l (q s1 I1)
end
section
variable{X:Cx}{pins:List (Addr×Obj)}{σ:St}{H:Hp}{s:Shared}{A:Around}{E:Value->Shared->Prop}{Q:Value->Shared->Prop}{c:Value}{b:Bool}
inductive iB (K:PySem.W.Frag)(H:Hp):V->Value->Prop where
 |non:iB K H .non (.type "NoneType")
 |bl (x:Bool):iB K H (.bl x) (.type "bool")
 |int (i:Int):iB K H (.int i) (.type "int")
 |str (x:Str):iB K H (.str x) (.type "str")
 |flt (x:UInt64):iB K H (.flt x) (.type "float")
 |lst {a:Addr}{xs:List V} (e:H a=some (.lst xs)):iB K H (.ref a) (.type "list")
 |frz {a:Addr}{o:Obj}{xs:List V} (e:H a=some (.frz o (.lst xs))):iB K H (.ref a) (.type "list")
 |tup {a:Addr}{xs:List V} (e:H a=some (.tup xs)):iB K H (.ref a) (.type "tuple")
 |dK {a:Addr}{kvs:List (Key×V)} (e:H a=some (.dK kvs)):iB K H (.ref a) (.type "dict")
 |dT {a:Addr}{kvs:List (List Key×V)} (e:H a=some (.dT kvs)):iB K H (.ref a) (.type "dict")
 |ins {a C dx:Addr}{fs:List (Str×V)} (e:H a=some (.ins C dx fs)) (cl:rZ K C) (ha:PySem.W.findIn K (.ref C) "__class__" = some (some (.builtin "object.__class__")))
   (hn:PySem.W.specialIn K (.builtin "object.__class__") "__get__" = some (some (.builtin "getset_descriptor.__get__"))) (htk:PySem.W.takesIn K (.builtin "object.__class__")=some true)
   (hm:PySem.W.mroIn K C (.type "object")=some true):iB K H (.ref a) (.ref C)
theorem Ag{x:V}{u t:Value}(I:bB X pins σ H s)(rx:RelV x u)(ty:iB X.K H x t)(e:PySem.W.kitOne X.K t c=some b)(h:∀tk,Q (.bool b) { s with toks:=tk }) :
  wpAny (model X.prog X.w) A (call (.builtin "isinstance") [u,c]) Q E s:=by
 cases ty with
 |non=>cases(show u=Value.none from rx);exact PySem.W.kia_one PySem.W.kitx_none I.kIn True.intro e (fun z=>nomatch z) h
 |bl y=>cases(show u=Value.bool y from rx);exact PySem.W.kia_one PySem.W.kitx_bool I.kIn True.intro e (fun z=>nomatch z) h
 |int i=>obtain⟨t,q⟩:=(show ∃t,u=Value.int i t from rx);cases q;exact PySem.W.kia_one PySem.W.kitx_int I.kIn True.intro e (fun z=>nomatch z) h
 |str y=>obtain⟨t,q⟩:=(show ∃t,u=Value.str y t from rx);cases q;exact PySem.W.kia_one PySem.W.kitx_str I.kIn True.intro e (fun z=>nomatch z) h
 |flt y=>obtain⟨t,q⟩:=(show ∃t,u=Value.float y t from rx);cases q;exact PySem.W.kia_one PySem.W.kitx_float I.kIn True.intro e (fun z=>nomatch z) h
 | @lst a xs ea =>
  cases(show u=Value.ref a from rx);obtain⟨_,_,n,_,h1⟩:=(show cX X.prog X.w H s.heap a (.lst xs)from I.hok a _ ea)
  exact PySem.W.kia_one PySem.W.kitx_list I.kIn ⟨_,h1,rfl⟩ e (fun z=>nomatch z) h
 | @frz a ob xs ea =>
  cases(show u=Value.ref a from rx);obtain⟨_,_,_,n,_,h1⟩:=(show cX X.prog X.w H s.heap a (.frz ob (.lst xs))from I.hok a _ ea)
  exact PySem.W.kia_one PySem.W.kitx_list I.kIn ⟨_,h1,rfl⟩ e (fun z=>nomatch z) h
 | @tup a xs ea =>
  cases(show u=Value.ref a from rx);obtain⟨_,_,_,p⟩:=(show cX X.prog X.w H s.heap a (.tup xs)from I.hok a _ ea)
  obtain⟨o,h1,h2,_⟩:=p;exact PySem.W.kia_one PySem.W.kitx_tuple I.kIn ⟨o,h1,h2⟩ e (fun z=>nomatch z) h
 | @dK a kvs ea =>
  cases(show u=Value.ref a from rx);obtain⟨_,_,vs,_,p⟩:=(show cX X.prog X.w H s.heap a (.dK kvs)from I.hok a _ ea)
  obtain⟨o,es,ep,h1,h2,_⟩:=p;exact PySem.W.kia_one PySem.W.kitx_dict I.kIn ⟨o,h1,h2.1⟩ e (fun z=>nomatch z) h
 | @dT a kvs ea =>
  cases(show u=Value.ref a from rx);obtain⟨_,_,xs,_,o,es,ep,h1,h2,_⟩:=(show cX X.prog X.w H s.heap a (.dT kvs)from I.hok a _ ea)
  exact PySem.W.kia_one PySem.W.kitx_dict I.kIn ⟨o,h1,h2.1⟩ e (fun z=>nomatch z) h
 | @ins a C dx fs ea cl ha hn htk hm =>
  cases(show u=Value.ref a from rx);obtain⟨mA,O,_⟩:=sE I.hok ea;obtain⟨od,J,_⟩:=O.look;exact PySem.W.kia_one (PySem.W.kitx_own (cl.get _) cl.hd ha hn htk hm) I.kIn J e (fun z=>nomatch z) h
end
structure Room (k:Nat)(A:Around):Prop where
 hd:A.handled=none
 dp:A.depth+3*k+5<recursionLimit
 un:A.units+16*k+200<cLine
 gd:A.guards=some []
variable{j k:Nat}
theorem Room.mono(r:Room k A)(h:j<=k):Room j A:=⟨r.hd,by have:=r.dp;omega,by have:=r.un;omega,r.gd⟩
theorem Room.deeper(r:Room (k+1) A)(env:Env):Room k (A.deeper env) :=
 ⟨r.hd,by have:=r.dp;show A.depth+1+3*k+5<_;omega,by have:=r.un;show A.units+3+16*k+200<_;omega,r.gd⟩
theorem GF{kw:List (Str×Value)}:(A.under (.builtin "type.__call__" ⟨.ref C::us,kw⟩)).depth=A.depth+1:=by
 first |rfl |simp[Around.under,Code.weight,Code.isCreation,Code.isGuard,Code.isCaller,Code.frames,Code.isFrame,guardIds]
theorem Gm{kw:List (Str×Value)}:(A.under (.builtin "type.__call__" ⟨.ref C::us,kw⟩)).units=A.units+1:=by
 first |rfl |simp[Around.under,Code.cUnits,Code.frames,Code.isFrame]
theorem Room.make(r:Room (k+1) A)(C:Addr)(us:List Value)(kw:List (Str×Value)):Room k (A.under (.builtin "type.__call__" ⟨.ref C::us,kw⟩)) :=
 ⟨r.hd,by have:=r.dp;rw[GF];omega,by have:=r.un;rw[Gm];omega,r.gd⟩
theorem Room.depth(r:Room k A):A.depth<recursionLimit:=by have:=r.dp;omega
theorem Room.units(r:Room k A):A.units+64<cLine:=by have:=r.un;omega
noncomputable def nC:TA:=fun _ H Q=>Q [] H
noncomputable def oG (ta:TE)(tr:TA):TA:=fun σ H Q=>ta σ H fun x H1=>tr σ H1 fun xs H2=>Q (x::xs) H2
section
variable{X:Cx}{e:Expr}{es:List Expr}{te:TE}{t:TA}{pos:Pos}
theorem aC:PA X [] nC:=fun _ _ _ _ H Q I h=>Calls.spliced_nil ⟨[],H,I,.nil,h⟩
theorem aA(ha:PE X e te)(hr:PA X es t)(hs:starEach (e::es) X.env=(false,eval e X.env)::starEach es X.env:=by rfl):PA X (e::es) (oG te t):=by
 intro pos pins s σ H Q I h;rw[hs];show wpAny _ _ (spliced ((false,eval e X.env)::backTo pos (starEach es X.env))) _ _ s;refine Calls.spliced_cons (eO (ha pins s σ H _ I h) fun u s1 ⟨x,H1,I1,r1,q1⟩=>?_);exact eO (hr pos pins s1 σ H1 _ I1 q1) fun us s2 ⟨xs,H2,I2,r2,q2⟩=>⟨x::xs,H2,I2,.cons r1 r2,q2⟩
noncomputable def VG (t:TA):TE:=fun σ H Q=>t σ H fun xs H1=>xs.length<=sizeLine/\∀p,H1 p=none->Q (.ref p) (bH H1 p (.tup xs))
noncomputable def Yq (t:TA):TE:=fun σ H Q=>t σ H fun xs H1=>xs.length<=sizeLine/\∀p,H1 p=none->Q (.ref p) (bH H1 p (.lst xs))
theorem fH{x1}(h:PA X es t):PE X (.Tuple es x1 pos) (VG t):=by
 intro pins s σ H Q I hq;refine wpAny_Tuple_spliced (eO (h pos pins s σ H _ I hq) fun us s1 ⟨xs,H1,I1,r,z,q⟩=>⟨by rw[<-r.length];exact z,?_⟩);have hf:H1 s1.heap.objs.size=none:=I1.hok.fresh (aFV _);refine⟨.ref s1.heap.objs.size,bH H1 s1.heap.objs.size (.tup xs),I1.laid (t':=s1.toks) (fun b u e=>aFO _ e) (aFV _) ?_,rfl,q _ hf⟩;exact⟨z,us,r,⟨_,aF6 _ rfl,rfl,_,rfl⟩⟩
theorem m9(h:PA X es t):PE X (.List es pos) (Yq t):=by
 intro pins s σ H Q I hq;refine wpAny_List_spliced (eO (h pos pins s σ H _ I hq) fun us s1 ⟨xs,H1,I1,r,z,q⟩=>⟨by rw[<-r.length];exact z,?_⟩);have hf:H1 s1.heap.objs.size=none:=I1.hok.fresh (aFV _);refine⟨.ref s1.heap.objs.size,bH H1 s1.heap.objs.size (.lst xs),I1.laid (t':=s1.toks) (fun b u e=>aFO _ e) (aFV _) ?_,rfl,q _ hf⟩;exact⟨z,us,0,r,aF6 _ rfl⟩
end
noncomputable abbrev Sp:=List V->Hp->VK->XK->Prop
noncomputable abbrev Av:=List Env->Hp->Shared->XK->Value->Shared->Prop
structure Ga (P:Program)(w:World)(K:PySem.W.Frag)(mg:Str->Option Value)(base:Heap)(A:Around)(outer:List Env)(s:Shared)(H:Hp):Prop where
 frames:A.frames=some outer
 mod:Mod K mg base
 bs:∀b o,base.get? b=some o->s.heap.get? b=some o/\H b=none
 bsz:base.objs.size<=s.heap.objs.size
 funs:s.heap.FunFrames base outer
 frf:∀b∈vQ outer,H b=none
 hok:pK P w H s.heap
 bare:AllBare s.gens
def CE (outer:List Env)(P:Program)(w:World)(H:Hp)(s:Shared)(Q:VK)(u:Value)(s':Shared):Prop :=
 ∃v H',s'.os=s.os/\AllBare s'.gens/\Un (vQ outer) [] H H' s.heap s'.heap/\pK P w H' s'.heap/\RelV v u/\Q v H'
def CR (CX:Av)(outer:List Env)(P:Program)(w:World)(H:Hp)(s:Shared)(Q:VK)(E:XK)(r:Result)(s':Shared):Prop :=
 match r with
 | .ok (.ret u)=>CE outer P w H s Q u s'
 | .ok _=>False
 | .error e=>CX outer H s E e s'
structure aN (P:Program)(w:World)(K:PySem.W.Frag)(mg:Str->Option Value)(base:Heap)(CX:Av)(k:Nat)(f:Addr)(fd:FuncData)(ps:List Str)(sp:Sp):Prop where
 len:∀vs H Q E,sp vs H Q E->vs.length=ps.length
 run:∀(A:Around) (outer:List Env) (s:Shared) (H:Hp) (args:Args) (us:List Value) (vs:List V) (Q:VK) (E:XK),Room k A->Ga P w K mg base A outer s H->BindsTo s fd args (ps.zip us)->cL vs us->sp vs H Q E ->
  codeAny (model P w) A (.call (.ref f) args) (CR CX outer P w H s Q E) s
variable{base:Heap}{CX:Av}{f:Addr}{fd:FuncData}{sp:Sp}
theorem aN.mono{mg:Str->Option Value}{ps:List Str}(F:aN P w K mg base CX j f fd ps sp)(h:j<=k) :
  aN P w K mg base CX k f fd ps sp:=⟨F.len,fun A outer s H args us vs Q E hr=>F.run A outer s H args us vs Q E (hr.mono h)⟩
theorem aN.imp{mg:Str->Option Value}{ps:List Str}{sp':Sp}(F:aN P w K mg base CX k f fd ps sp)
  (h:∀vs H Q E,sp' vs H Q E->sp vs H Q E):aN P w K mg base CX k f fd ps sp' :=
 ⟨fun vs H Q E q=>F.len vs H Q E (h _ _ _ _ q),fun A outer s H args us vs Q E hr he hb hv hs=>F.run A outer s H args us vs Q E hr he hb hv (h _ _ _ _ hs)⟩
variable{outer:List Env}
theorem Ga.make{mg:Str->Option Value}(e:Ga P w K mg base A outer s H)(C:Addr)(us:List Value)(kw:List (Str×Value)) :
  Ga P w K mg base (A.under (.builtin "type.__call__" ⟨.ref C::us,kw⟩)) outer s H:=⟨by first |exact e.frames | (simpa[Around.under,Code.envs,Code.isFrame,pushEnvs] using e.frames),e.mod,e.bs,e.bsz,e.funs,e.frf,e.hok,e.bare⟩
section
variable{X:Cx}{pins:List (Addr×Obj)}{σ:St}{H:Hp}{s s':Shared}
theorem bB.env0(I:bB X pins σ H s):Ga X.prog X.w X.K X.mg X.base X.A X.stack s H :=
 ⟨I.ok.frames,I.ok.mod,I.bs,aFN I.ok.bsz I.sz,I.stack,I.stkFree,I.hok,I.bare⟩
theorem bB.after{Q:VK}{u:Value}(I:bB X pins σ H s)(h:CE X.stack X.prog X.w H s Q u s'):EP X pins σ Q u s':=by
 obtain⟨v,H',os,bare,un,hok,r,q⟩:=h;obtain⟨hh,g,d,t,os'⟩:=s';obtain rfl:os'=s.os:=os;exact⟨v,H',I.call (h':=hh) (g':=g) (d':=d) (t':=t) (ch:=[]) un hok bare (fun b z=>absurd z (by simp)),r,q⟩
end
noncomputable def Ad (sp:Sp)(dvs:List V)(E:XK)(t:TA):TE:=fun σ H Q=>t σ H fun vs H1=>sp (vs++dvs) H1 Q E
noncomputable def lO (C:Addr)(m:Str)(sp:Sp)(dvs:List V)(E:XK)(ta:TE)(t:TA):TE:=fun σ H Q=>ta σ H fun x H1=>∃a dx fs,x=.ref a/\H1 a=some (.ins C dx fs)/\fs.lookup m=none ∧
 t σ H1 fun vs H2=>sp (x::(vs++dvs)) H2 Q E
noncomputable def YM (C:Addr)(sp:Sp)(dvs:List V)(E:XK)(t:TA):TE:=fun σ H Q=>t σ H fun vs H1=>∀x dx,H1 x=none->H1 dx=none->dx≠x ->
 sp (.ref x::(vs++dvs)) (bH (bH H1 dx (.own x)) x (.ins C dx [])) (fun v H2=>v=.non/\Q (.ref x) H2) E
def Binds (K:PySem.W.Frag)(fd:FuncData)(ps:List Str)(ds:List Value):Prop :=
 ∀(s:Shared) (us:List Value),K.In s.heap->(us++ds).length=ps.length->BindsTo s fd ⟨us,[]⟩ (ps.zip (us++ds))
theorem Binds.all{K:PySem.W.Frag}{fd:FuncData}{ps:List Str}(h:∀us:List Value,us.length=ps.length->bindArgs fd ⟨us,[]⟩=pure (ps.zip us)):Binds K fd ps []:=fun s us _ hl=>by
 rw[aGJ]at hl ⊢;exact .of_eq (h us hl)
def mU (CX:Av)(X:Cx)(E:XK):Prop:=∀(pins:List (Addr×Obj)) (σ:St) (H:Hp) (s:Shared) (e:Value) (s':Shared),bB X pins σ H s->CX X.stack H s E e s'->X.xe e s'
section
variable{X:Cx}{CX:Av}{k:Nat}{f C:Addr}{fd:FuncData}{ps:List Str}{sp:Sp}{dvs:List V}{ds:List Value}{E:XK}{x m:Str}{p pos apos:Pos}{e o:Expr}{es:List Expr}{ta:TE}{t:TA}
variable{us:List Value}{vs:List V}
theorem CV{pins:List (Addr×Obj)}{σ:St}{H:Hp}{s:Shared}{Q:VK}(F:aN X.prog X.w X.K X.mg X.base CX k f fd ps sp)(hr:Room k X.A)(hb:Binds X.K fd ps ds)(hd:cL dvs ds)(hx:mU CX X E)
  (I:bB X pins σ H s) (r:cL vs us) (h:sp (vs++dvs) H Q E):wpAny (model X.prog X.w) X.A (call (.ref f) us) (EP X pins σ Q) X.xe s:=by
 have r2:cL (vs++dvs) (us++ds):=r.append hd;have hl:(us++ds).length=ps.length:=by rw[<-r2.length];exact F.len _ _ _ _ h
 refine wpAny_call (codeAny_mono (F.run X.A X.stack s H ⟨us,[]⟩ (us++ds) (vs++dvs) Q E hr I.env0 (hb s us I.kIn hl) r2 h) fun r s' hq=>?_);cases r with
 |error e=>exact hx pins σ H s e s' I hq
 |ok fl =>
  cases fl with
  |ret u=>exact I.after hq
  |next=>exact False.elim hq
  |brk=>exact False.elim hq
  |cont=>exact False.elim hq
theorem Pz(F:aN X.prog X.w X.K X.mg X.base CX k f fd ps sp)(hr:Room k X.A)(hg:Gl X x)(hm:X.mg x=some (.ref f))(hk:PySem.W.keepIn X.K (.ref f)=true)(hb:Binds X.K fd ps ds)(hd:cL dvs ds)(hx:mU CX X E)
  (ha:PA X (e::es) t) (hdb:(x==("__debug__" : Str))=false:=by decide) (he:starEach (e::es) X.env=(false,eval e X.env)::starEach es X.env:=by rfl) (hpl:(backTo pos (starEach es X.env)).any (·.1)=false:=by rfl) :
  PE X (.Call (.Name x p) (e::es) [] pos) (Ad sp dvs E t):=by
 intro pins s σ H Q I h;refine wpAny_Call_Name_kw (pL I hg hm ?_ hdb);refine PySem.W.callWith_K (h₀:=X.base) I.ok.mod.kin hk (eO (ha pos pins s σ H _ I h) fun us s1 ⟨vs,H1,I1,r,q⟩=>⟨I1.kIn,?_⟩) he hpl;exact CV F hr hb hd hx I1 r q
variable{pl:Sem Bool}
theorem dH(he:PE X o ta)(c:rZ X.K C)(hm:cJ X.K C m f)(F:aN X.prog X.w X.K X.mg X.base CX k f fd ps sp)(hr:Room k X.A)(hb:Binds X.K fd ps ds)(hd:cL dvs ds)(hx:mU CX X E)(ha:PA X (e::es) t)
  (hst:starEach (e::es) X.env=(false,eval e X.env)::starEach es X.env:=by rfl) (hpl:(backTo pos (starEach es X.env)).any (·.1)=false:=by rfl)
  (ht:eval (.Call (.Attribute o m apos) (e::es) [] pos) X.env=(do
   let ov <-eval o X.env
   standAt apos.atName
   let(f,first) <-holding [ov] (getMethod ov m pl)
   callWith pos f first (backTo pos (starEach (e::es) X.env)) (backToKw pos (keywordEach [] X.env))):=by rfl) :
  PE X (.Call (.Attribute o m apos) (e::es) [] pos) (lO C m sp dvs E ta t):=by
 intro pins s σ H Q I h;refine PySem.W.methodCall_KW (pl:=pl) (eO (he pins s σ H _ I h) fun u s1 ⟨x,H1,I1,rx,a,dx,fs,ex,ea,l,q⟩=>?_) ht;subst ex;obtain rfl:u=Value.ref a:=rx;refine qP I1 ea c hm l ?_;refine PySem.W.callWith_K (first:=[.ref a]) (h₀:=X.base) I.ok.mod.kin hm.kp (eO (ha pos pins s1 σ H1 _ I1 q) fun us s2 ⟨vs,H2,I2,r,q2⟩=>⟨I2.kIn,?_⟩) hst hpl;exact CV (us:=.ref a::us) (vs:=.ref a::vs) F hr hb hd hx I2 (.cons rfl r) q2
theorem aX(he:PE X o ta)(c:rZ X.K C)(hm:cJ X.K C m f)(F:aN X.prog X.w X.K X.mg X.base CX k f fd ps sp)(hr:Room k X.A)(hb:Binds X.K fd ps ds)(hd:cL dvs ds)(hx:mU CX X E)
  (ht:eval (.Call (.Attribute o m apos) [] [] pos) X.env=(do
   let ov <-eval o X.env
   standAt apos.atName
   let(f,first) <-holding [ov] (getMethod ov m pl)
   callWith pos f first (backTo pos (starEach [] X.env)) (backToKw pos (keywordEach [] X.env))):=by rfl) :
  PE X (.Call (.Attribute o m apos) [] [] pos) (lO C m sp dvs E ta nC):=by
 intro pins s σ H Q I h;refine PySem.W.methodCall_KW (pl:=pl) (eO (he pins s σ H _ I h) fun u s1 ⟨x,H1,I1,rx,a,dx,fs,ex,ea,l,q⟩=>?_) ht;subst ex;obtain rfl:u=Value.ref a:=rx;refine qP I1 ea c hm l ?_;exact PySem.W.callWith_K0 (first:=[.ref a]) I1.kIn hm.kp (CV (us:=[.ref a]) (vs:=[.ref a]) F hr hb hd hx I1 (.cons rfl .nil) q)
structure Mk (K:PySem.W.Frag)(C f:Addr):Prop where
 makes:PySem.W.makesIn K C=true
 init:PySem.W.findIn K (.ref C) "__init__" = some (some (.ref f))
 fn:PySem.W.isFn K (.ref f)=true
 kp:PySem.W.keepIn K (.ref C)=true
theorem Ny{pins:List (Addr×Obj)}{σ:St}{H:Hp}{s:Shared}{Q:VK}(M:Mk X.K C f)(F:aN X.prog X.w X.K X.mg X.base CX k f fd ps sp)(hr:Room (k+1) X.A)(hb:Binds X.K fd ps ds)(hd:cL dvs ds)
  (hx:mU CX X E) (I:bB X pins σ H s) (r:cL vs us)
  (h:∀x dx,H x=none->H dx=none->dx≠x->sp (.ref x::(vs++dvs)) (bH (bH H dx (.own x)) x (.ins C dx [])) (fun v H2=>v=.non/\Q (.ref x) H2) E) :
  wpAny (model X.prog X.w) X.A (call (.ref C) us) (EP X pins σ Q) X.xe s:=by
 have hq:=h (s.heap.objs.size+1) s.heap.objs.size (I.hok.fresh (aHf _)) (I.hok.fresh (aFV _)) (aGg (aHE _));have I2:=bB.made (C:=C) I;have r2:cL (V.ref (s.heap.objs.size+1)::(vs++dvs)) (Value.ref (s.heap.objs.size+1)::(us++ds)):=.cons rfl (r.append hd);have hl:(Value.ref (s.heap.objs.size+1)::us++ds).length=ps.length:=by
  have e:=r2.length;rw[F.len _ _ _ _ hq]at e;exact e.symm
 refine wpAny_call (Jy (f:=f) I.kIn M.makes M.init (beq_iff_eq.mp M.fn) (codeAny_mono (F.run _ X.stack _ _ ⟨Value.ref (s.heap.objs.size+1)::us,[]⟩ (Value.ref (s.heap.objs.size+1)::(us++ds)) _ _ E (hr.make C us [])
  (I2.env0.make C us []) (hb _ (Value.ref (s.heap.objs.size+1)::us) I2.kIn hl) r2 hq) fun r s' hq'=>?_))
 cases r with
 |error e=>exact hx pins σ _ _ e s' I2 hq'
 |ok fl =>
  cases fl with
  |ret u =>
   obtain⟨v,H',I3,rv,ev,q3⟩:=I2.after hq';subst ev;exact⟨rv,⟨V.ref (s.heap.objs.size+1),H',I3,rfl,q3⟩⟩
  |next=>exact False.elim hq'
  |brk=>exact False.elim hq'
  |cont=>exact False.elim hq'
theorem jH(M:Mk X.K C f)(F:aN X.prog X.w X.K X.mg X.base CX k f fd ps sp)(hr:Room (k+1) X.A)(hg:Gl X x)(hm:X.mg x=some (.ref C))(hb:Binds X.K fd ps ds)(hd:cL dvs ds)(hx:mU CX X E)
  (ha:PA X (e::es) t) (hdb:(x==("__debug__" : Str))=false:=by decide) (he:starEach (e::es) X.env=(false,eval e X.env)::starEach es X.env:=by rfl) (hpl:(backTo pos (starEach es X.env)).any (·.1)=false:=by rfl) :
  PE X (.Call (.Name x p) (e::es) [] pos) (YM C sp dvs E t):=by
 intro pins s σ H Q I h;refine wpAny_Call_Name_kw (pL I hg hm ?_ hdb);refine PySem.W.callWith_K (h₀:=X.base) I.ok.mod.kin M.kp (eO (ha pos pins s σ H _ I h) fun us s1 ⟨vs,H1,I1,r,q⟩=>⟨I1.kIn,?_⟩) he hpl;exact Ny M F hr hb hd hx I1 r q
end
structure aM (N P:List Str)(sc:Scope):Prop where
 kind:sc.kind=.function
 co:sc.isCoroutine=false
 gen:sc.isGenerator=false
 nd:N.Nodup
 pre:N.take P.length=P
 par:∀x∈P,sc.names.lookup x=some .local∨sc.names.lookup x=some .cell
 nofree:∀y∈sc.names,y.2≠.free
theorem zN{kindOf:Str->Option NameKind}{x:Str}:∀{binds:List (Str×Value)}{m:Str->Option Value},(∀v,(x,v)∉binds)->bindL kindOf binds m x=m x
 | [],_,_=>rfl
 | (n,v)::r,m,h=>by
  unfold bindL;rw[zN fun w hw=>h w (aFK _ hw)]
  split
  ·have:x≠n:=by rintro rfl;exact h v aFL
   simp[this]
  ·rfl
theorem Af{kindOf:Str->Option NameKind}{x:Str}:∀{binds:List (Str×Value)}{m:Str->Option Value},(∀v,(x,v)∉binds)->bindC kindOf binds m x=m x
 | [],_,_=>rfl
 | (n,v)::r,m,h=>by
  unfold bindC;rw[Af fun w hw=>h w (aFK _ hw)]
  split
  ·rfl
  ·have:x≠n:=by rintro rfl;exact h v aFL
   simp[this]
theorem Ak{kindOf:Str->Option NameKind}{x:Str}{v:Value}:∀{P:List Str}{vs:List Value}{i:Nat}{m:Str->Option Value},P.Nodup->P[i]? = some x->vs[i]? = some v->kindOf x=some .local ->
  bindL kindOf (P.zip vs) m x=some v
 | [],_,_,_,_,h,_,_=>by simp at h
 |_::_,[],_,_,_,_,h,_=>by simp at h
 |p::P,w::vs,0,m,nd,h1,h2,hk=>by
  simp at h1 h2;subst h1;subst h2;show bindL kindOf ((p,w)::P.zip vs) m p=_;unfold bindL;rw[zN fun v hv=>(aHa.mp nd).1 (aH8 hv).1,if_pos hk];simp
 |p::P,w::vs,i+1,m,nd,h1,h2,hk=>by
  show bindL kindOf ((p,w)::P.zip vs) m x=_;unfold bindL;exact Ak (i:=i) (aHa.mp nd).2 (by simpa using h1) (by simpa using h2) hk
theorem zB{kindOf:Str->Option NameKind}{x:Str}{v:Value}:∀{P:List Str}{vs:List Value}{i:Nat}{m:Str->Option Value},P.Nodup->P[i]? = some x->vs[i]? = some v->kindOf x≠some .local ->
  bindC kindOf (P.zip vs) m x=some v
 | [],_,_,_,_,h,_,_=>by simp at h
 |_::_,[],_,_,_,_,h,_=>by simp at h
 |p::P,w::vs,0,m,nd,h1,h2,hk=>by
  simp at h1 h2;subst h1;subst h2;show bindC kindOf ((p,w)::P.zip vs) m p=_;unfold bindC;rw[Af fun v hv=>(aHa.mp nd).1 (aH8 hv).1,if_neg hk];simp
 |p::P,w::vs,i+1,m,nd,h1,h2,hk=>by
  show bindC kindOf ((p,w)::P.zip vs) m x=_;unfold bindC;exact zB (i:=i) (aHa.mp nd).2 (by simpa using h1) (by simpa using h2) hk
noncomputable def start (N:List Str)(vs:List V):St:=vs.map some++aGw (N.length-vs.length) none
noncomputable def yD (CX:Av)(P:Program)(w:World)(K:PySem.W.Frag)(mg:Str->Option Value)(base:Heap)(N:List Str)(qual:Str)(scope:Scope)(f:Addr)(cd:Value)(A:Around)(outer:List Env)(s:Shared)(H:Hp)(E:XK):Cx where
 prog:=P
 w:=w
 K:=K
 mg:=mg
 base:=base
 A:=A.deeper (envOfC qual scope s.heap.objs.size f cd)
 N:=N
 s₀:=s
 H₀:=H
 env:=envOfC qual scope s.heap.objs.size f cd
 outer:=outer
 stack:=envOfC qual scope s.heap.objs.size f cd::outer
 ex:=[]
 calm:=true
 fn:=fun _=>true
 pn:=[]
 xe:=fun e s'=>wpAny (model P w) (A.deeper (envOfC qual scope s.heap.objs.size f cd)) (leaving (envOfC qual scope s.heap.objs.size f cd) e) (fun _ s''=>CX outer H s E e s'') (fun e' s''=>CX outer H s E e' s'') s'
theorem Ey{sc:Scope}{x:Str}(h:sc.names.lookup x=some .cell):∃c,(cellsFrom n sc.names []).lookup x=some c:=by
 have q:=PySem.W.cellsFrom_some sc.names n [] (.inl h);exact Option.isSome_iff_exists.mp q
variable{N:List Str}{scope:Scope}
theorem JP{mg:Str->Option Value}{ps:List Str}{qual:Str}{cd:Value}{s1:Shared}{E:XK}{vs:List V}
  (S:aM N ps scope) (hd:A.handled=none) (e0:Ga P w K mg base A outer s H) (hl:vs.length=ps.length) (r:cL vs us)
  (x:InCallC s s.heap.objs.size (bindL (envOfC qual scope s.heap.objs.size f cd).kindOf (ps.zip us) fun _=>none) (cellsFrom (s.heap.objs.size+1) scope.names []) (bindC (envOfC qual scope s.heap.objs.size f cd).kindOf (ps.zip us) fun _=>none) s1) :
  bB (yD CX P w K mg base N qual scope f cd A outer s H E) [] (start N vs) H s1:=by
 have hpl:ps.length<=N.length:=by have:=congrArg aG1 S.pre;rw[aGh]at this;omega
 obtain⟨h1,tk,rfl,hk⟩:=x.done;have noA:∀b:Addr,b∉(yD CX P w K mg base N qual scope f cd A outer s H E).ex:=fun b z=>absurd (show b∈([]:List Addr)from z) (by simp);refine⟨⟨e0.mod,S.kind,rfl,rfl,aFV _,fun y z c h1 h2=>?_,fun y hy=>?_,fun y c _ h=>?_,fun _=>hd,Around.frames_deeper e0.frames,.inr ⟨rfl,rfl⟩,fun b z=>absurd z (noA b),e0.bs,e0.bsz,fun b _ _=>noA b,fun b z=>absurd z (noA b),e0.funs,e0.frf⟩,
  rfl,e0.bare,Un.kept hk,⟨_,x.toInCall.ns,fun i y v h1 h2 h3=>?_⟩,fun y c h=>⟨_,x.cell y c h⟩,e0.hok.fresh (aFV _),fun y c h=>?_,fun p hp=>absurd (show p∈([]:List (Addr×Obj))from hp) (by simp),e0.hok.kept hk,?_⟩
 ·exact name_of_addr x.apart (PySem.mem_of_lookup h1) (PySem.mem_of_lookup h2)
 ·have hy:scope.names.lookup y=some .cell∨scope.names.lookup y=some .free:=hy;rcases hy with hy |hy
  ·exact Ey hy
  ·exact absurd rfl (S.nofree _ (PySem.mem_of_lookup hy))
 ·exact aGt (x.above y c (PySem.mem_of_lookup h))
 ·have hi:i<vs.length:=by
   unfold start at h2
   by_cases hi:i<vs.length
   ·exact hi
   ·rw[aGa (by simpa using hi)]at h2;rw[aHW]at h2
    split at h2 <;> cases h2
  have ha:vs[i]? = some v:=by
   unfold start at h2;rw[aGd (by simpa using hi),aF9]at h2;cases e:vs[i]? with
   |none=>rw[e]at h2;cases h2
   |some a=>rw[e]at h2;cases h2;rfl
  obtain⟨u,hu,rv⟩:=r.get ha;have hp:ps[i]? = some y:=by
   rw[<-S.pre,List.getElem?_take_of_lt (by omega)];exact h1
  have ndP:ps.Nodup:=by rw[<-S.pre];exact S.nd.sublist (List.take_sublist _ _)
  refine⟨u,rv,?_⟩;rcases S.par y (aFY hp)with k |k
  ·exact .inl ⟨k,Ak ndP hp hu k⟩
  ·obtain⟨c,e⟩:=Ey (n:=s.heap.objs.size+1) k;refine .inr ⟨.inl k,c,e,?_⟩;have q:=x.cell y c e;rw[zB ndP hp hu (by show scope.names.lookup y≠_;rw[k];decide)]at q;exact q
 ·exact e0.hok.fresh (aGt (x.above y c (PySem.mem_of_lookup h)))
 ·unfold start;show _=N.length;rw[aFR,aFJ,aGX];omega
theorem N7{mg:Str->Option Value}{name qual:Str}{params:Arguments}{body:List Stmt}{dV kV doc pm cdv ct oc:Value}{an od:Option Addr}
  {osl:Array (Option Value)}{ps:List Str} (lk:K.lookup f=some ⟨oc,od,.func (PySem.W.fnOf name qual params body scope dV kV doc pm an cdv ct),osl⟩) (hcd:PySem.W.codeIn K cdv qual=true) (S:aM N ps scope)
  (len:∀vs H Q E,sp vs H Q E->vs.length=ps.length)
  (hbody:∀(A:Around) (outer:List Env) (s:Shared) (H:Hp) (vs:List V) (Q:VK) (E:XK),Room k (A.deeper (envOfC qual scope s.heap.objs.size f cdv))->sp vs H Q E ->
   ∃t,yC (yD CX P w K mg base N qual scope f cdv A outer s H E) body t/\t { nx:=fun _ H'=>Q .non H',rt:=Q } (start N vs) H) :
  aN P w K mg base CX (k+1) f (PySem.W.fnOf name qual params body scope dV kV doc pm an cdv ct) ps sp:=by
 refine⟨len,fun A outer s H args us vs Q E hr e0 hb r hsp=>?_⟩;have hl:=len _ _ _ _ hsp;have KX:K.In s.heap:=e0.mod.kin.keeps fun b o e=>(e0.bs b o e).1;have lim:s.heap.NoLimit:=e0.mod.nolimit.keeps fun b o e=>(e0.bs b o e).1;have hkind:∀y∈ps.zip us,scope.names.lookup y.1=some .local∨(scope.names.lookup y.1=some .cell/\((cellsFrom (s.heap.objs.size+1) scope.names []).lookup y.1).isSome=true):=fun⟨n,v⟩ hy=>by
  rcases S.par n (aH8 hy).1 with q |q
  ·exact .inl q
  ·exact .inr ⟨q,PySem.W.cellsFrom_some _ _ _ (.inl q)⟩
 refine codeAny_call_function hr.depth (KX _ _ lk) rfl S.co S.gen rfl (PySem.W.codeRec_of KX hcd) (hb _ _ _ _ ?_);refine wpAny_newFunctionEnv_cells S.kind hkind fun env he s1 x=>?_;subst he;refine⟨lim.keeps x.toInCall.keep,codeAny_func ?_⟩;obtain⟨t,ht,hq⟩:=hbody A outer s H vs Q E (hr.deeper _) hsp;have I:bB (yD CX P w K mg base N qual scope f cdv A outer s H E) [] (start N vs) H s1:=JP S hr.hd e0 hl r x;refine wpAny_mono (ht [] s1 (start N vs) H _ I hq) (fun fl s' hs=>?_) fun e s' hs=>hs;have fin:∀{σ':St}{H':Hp}{v:V}{u:Value},bB (yD CX P w K mg base N qual scope f cdv A outer s H E) [] σ' H' s'->RelV v u->Q v H'->CE outer P w H s Q u s' :=
  fun{σ' H' v u} J rv q=>⟨v,H',J.os,J.bare,J.base,J.hok,rv,q⟩
 cases fl with
 |ret u =>
  obtain⟨v,σ',H',J,rv,q⟩:=hs;exact fin J rv q
 |next =>
  obtain⟨σ',H',J,q⟩:=hs;exact fin (v:=V.non) (u:=Value.none) J rfl q
 |brk =>
  obtain⟨_,_,_,q⟩:=hs;exact False.elim q
 |cont =>
  obtain⟨_,_,_,q⟩:=hs;exact False.elim q
section
variable{X:Cx}{x:Str}{p pos:Pos}{e:Expr}{es:List Expr}{t:TA}{id T:String}{r:List V->Hp->VK->Prop}
noncomputable def YF (r:List V->Hp->VK->Prop)(t:TA):TE:=fun σ H Q=>t σ H fun vs H1=>r vs H1 Q
theorem aQ(hc:fY X (.builtin id) r)(hg:Gl X x)(hm:X.mg x=none)(hv:bootBuiltins x=some (.builtin id))(ha:PA X (e::es) t)(hn:x≠"__name__":=by decide)(hdb:(x==("__debug__" : Str))=false:=by decide)
  (he:starEach (e::es) X.env=(false,eval e X.env)::starEach es X.env:=by rfl) (hpl:(backTo pos (starEach es X.env)).any (·.1)=false:=by rfl):PE X (.Call (.Name x p) (e::es) [] pos) (YF r t):=by
 intro pins s σ H Q I h;refine wpAny_Call_Name_kw (tW I hg hm hv ?_ hn hdb);exact PyProof.Rows.callWith_builtin1 (eO (ha pos pins s σ H _ I h) fun us s1 ⟨vs,H1,I1,r1,q1⟩=>hc pins s1 σ H1 vs us Q I1 r1 q1) he hpl
theorem dD(hc:fY X (.type T) r)(hg:Gl X x)(hm:X.mg x=none)(hv:bootBuiltins x=some (.type T))(ha:PA X (e::es) t)(hn:x≠"__name__":=by decide)(hdb:(x==("__debug__" : Str))=false:=by decide)
  (he:starEach (e::es) X.env=(false,eval e X.env)::starEach es X.env:=by rfl) (hpl:(backTo pos (starEach es X.env)).any (·.1)=false:=by rfl):PE X (.Call (.Name x p) (e::es) [] pos) (YF r t):=by
 intro pins s σ H Q I h;refine wpAny_Call_Name_kw (tW I hg hm hv ?_ hn hdb);exact PyProof.Rows.callWith_type1 (eO (ha pos pins s σ H _ I h) fun us s1 ⟨vs,H1,I1,r1,q1⟩=>hc pins s1 σ H1 vs us Q I1 r1 q1) he hpl
end
noncomputable abbrev TO:=St->Hp->(Option Int->Hp->Prop)->Prop
def PO (X:Cx)(e:Option Expr)(t:TO):Prop :=
 ∀(pins:List (Addr×Obj)) (s:Shared) (σ:St) (H:Hp) (Q:Option Int->Hp->Prop),bB X pins σ H s->t σ H Q ->
  wpAny (model X.prog X.w) X.A (evalPart e X.env) (fun u s'=>∃o H',bB X pins σ H' s'/\IsPart u o/\Q o H') X.xe s
noncomputable def Xk (t:TE):TO:=fun σ H Q=>t σ H fun x H1=>∃i,x=.int i/\Q (some i) H1
theorem intsAre_of{ns:List Int}:∀{us:List Value},cL (ns.map V.int) us->IntsAre us ns:=by
 induction ns with
 |nil=>intro us r;rw[aGD]at r;cases r;exact .nil
 |cons n ns ih =>
  intro us r;rw[aFP]at r;cases r with
  |cons r1 r2 =>
   obtain⟨t,e⟩:=r1;subst e;exact .cons n t (ih r2)
section
variable{X:Cx}{e:Expr}{te:TE}{lo hi:Option Expr}{tl th:TO}{pos p2:Pos}
theorem wL(h:PE X e te):PO X (some e) (Xk te):=by
 intro pins s σ H Q I hw;rw[evalPart_some];refine eO (h pins s σ H _ I hw) fun u s1 ⟨x,H1,I1,r1,q1⟩=>?_;obtain⟨i,rfl,q⟩:=q1;obtain⟨t,rfl⟩:=r1;exact⟨some i,H1,I1,.int i t,q⟩
def SlR (X:Cx)(r:V->Option Int->Option Int->Hp->VK->Prop):Prop :=
 ∀(pins:List (Addr×Obj)) (s:Shared) (σ:St) (H:Hp) (x:V) (v vl vu:Value) (lo hi:Option Int) (sl:Addr) (Q:VK),bB X pins σ H s->RelV x v->s.heap.IsSliceOf sl vl vu .none->IsPart vl lo->IsPart vu hi->r x lo hi H Q ->
  ∃T id,typeLookup (.type T) "__getitem__" = pure (some (.builtin id))/\s.TypeIs v T/\wpAny (model X.prog X.w) X.A (getItem v (.ref sl)) (EP X pins σ Q) X.xe s
noncomputable def tSl (r:V->Option Int->Option Int->Hp->VK->Prop)(te:TE)(tl th:TO):TE:=fun σ H Q=>te σ H fun x H1=>tl σ H1 fun l H2=>th σ H2 fun u H3=>r x l u H3 Q
theorem Df{r:V->Option Int->Option Int->Hp->VK->Prop}(hr:SlR X r)(he:PE X e te)(hl:PO X lo tl)(hu:PO X hi th):PE X (.Subscript e (.Slice lo hi none p2) pos) (tSl r te tl th):=by
 intro pins s σ H Q I h;refine Subscript_ (eO (he pins s σ H _ I h) fun v s1 ⟨x,H1,I1,r1,q1⟩=>?_);refine wpAny_Slice (eO (hl pins s1 σ H1 _ I1 q1) fun vl s2 ⟨l,H2,I2,pl,q2⟩=>eO (hu pins s2 σ H2 _ I2 q2) fun vu s3 ⟨u,H3,I3,pu,q3⟩=>?_);rw[evalPart_none];refine wpAny_pure ?_;have I4:bB X pins σ H3 { s3 with heap:=s3.heap.push { cls:=.type "slice",data:=.fields #[vl,vu,.none] } }:=I3.kept (t':=s3.toks) fun b ob q=>aFO _ q;obtain⟨T,id,hT,ht,hg⟩:=hr pins { s3 with heap:=s3.heap.push { cls:=.type "slice",data:=.fields #[vl,vu,.none] } } σ H3 x v vl vu l u s3.heap.objs.size Q I4 r1 (Heap.IsSliceOf.new ..) pl pu q3;show wpAny (model X.prog X.w) X.A (subscriptTail e (.Slice lo hi none p2) v (.ref s3.heap.objs.size)) (EP X pins σ Q) X.xe { s3 with heap:=s3.heap.push { cls:=.type "slice",data:=.fields #[vl,vu,.none] } };exact tail_any (ops:=[.ref s3.heap.objs.size,v]) ht hT hg (by with_unfolding_all rfl)
end
noncomputable def Qt (n:Nat)(i:Int):Option Nat:=if 0<=i then(if i<n then some i.toNat else none)else if -(n:Int)<=i then some (i+n).toNat else none
noncomputable def Gh {α:Type}(xs:List α)(i:Int):Option α:=(Qt xs.length i).bind fun j=>xs[j]?
theorem Hx(h:Qt n i=some j):seqIndex? i n=some j/\j<n/\-(n:Int)<=i/\i<n:=by
 unfold Qt at h
 by_cases h0:0<=i
 ·rw[if_pos h0]at h
  by_cases h1:i<n
  ·rw[if_pos h1]at h;have e:i.toNat=j:=aGU.inj h;exact⟨by rw[seqIndex_of h0 h1,e],by omega,by omega,h1⟩
  ·rw[if_neg h1]at h;cases h
 ·rw[if_neg h0]at h
  by_cases h1:-(n:Int)<=i
  ·rw[if_pos h1]at h;have e:(i+n).toNat=j:=aGU.inj h;exact⟨by rw[seqIndex_neg (by omega) h1,e],by omega,h1,by omega⟩
  ·rw[if_neg h1]at h;cases h
theorem Bo{α:Type}{xs:List α}{v:α}(h:Gh xs i=some v):∃j,seqIndex? i xs.length=some j/\xs[j]? = some v/\j<xs.length/\-(xs.length:Int)<=i/\i<xs.length:=by
 unfold Gh at h;cases e:Qt xs.length i with
 |none=>rw[e]at h;cases h
 |some j =>
  rw[e]at h;obtain⟨h1,h2,h3,h4⟩:=Hx e;exact⟨j,h1,h,h2,h3,h4⟩
theorem m7{α:Type}{xs:List α}{v:α}(h:xs[j]? = some v):Gh xs (j:Int)=some v:=by
 have hj:j<xs.length:=(aFU.mp h).1;have e:Qt xs.length (j:Int)=some j:=by
  unfold Qt;rw[if_pos (by omega),if_pos (by omega)];simp
 unfold Gh;rw[e];exact h
def Hr (b:Expr):Prop:=∀o i,subscripted b false o i=operate [o,i] (getItem o i)
def XH (X:Cx)(r:R2):Prop :=
 ∀(value slice:Expr) (pins:List (Addr×Obj)) (s:Shared) (σ:St) (H:Hp) (x y:V) (v u:Value) (Q:VK),bB X pins σ H s->RelV x v->RelV y u->r x y H Q ->
  subscripted slice false v u=operate [v,u] (getItem v u)->wpAny (model X.prog X.w) X.A (subscriptTail value slice v u) (EP X pins σ Q) X.xe s
def Ze (X:Cx)(id:String)(r:V->List V->Hp->VK->Prop):Prop :=
 ∀(pins:List (Addr×Obj)) (s:Shared) (σ:St) (H:Hp) (x:V) (xs:List V) (v:Value) (us:List Value) (Q:VK),bB X pins σ H s->RelV x v->cL xs us->r x xs H Q ->
  wpAny (model X.prog X.w) X.A (call (.builtin id) (v::us)) (EP X pins σ Q) X.xe s
section
variable{X:Cx}{a b:Expr}{ta tb:TE}{pos:Pos}
theorem eE{r:R2}(hr:XH X r)(ha:PE X a ta)(hb:PE X b tb)(hs:Hr b):PE X (.Subscript a b pos) (Ju r ta tb):=by
 intro pins s σ H Q I h;exact Subscript_ (UL ha hb I h fun v u s2 x y H2 I2 rx ry q=>hr a b pins s2 σ H2 x y v u Q I2 rx ry q (hs _ _))
inductive Wb (K:PySem.W.Frag)(x:V)(y:V)(H:Hp)(Q:VK):Prop
 |mk (p:_) (xs:_) (i:_) (v:_) (_:x=.ref p) (_:y=.int i) (_:bV K H p xs) (_:Gh xs i=some v) (_:Q v H)
noncomputable def Xc (K:PySem.W.Frag):R2:=fun x y H Q=>Wb K x y H Q
inductive Wi (K:PySem.W.Frag)(x:V)(y:V)(H:Hp)(Q:VK):Prop
 |mk (p:_) (xs:_) (i:_) (v:_) (_:x=.ref p) (_:y=.int i) (_:dN K H p xs) (_:Gh xs i=some v) (_:Q v H)
noncomputable def Ye (K:PySem.W.Frag):R2:=fun x y H Q=>Wi K x y H Q
inductive Tt (x:V)(y:V)(H:Hp)(Q:VK):Prop
 |mk (z:_) (i:_) (c:_) (_:x=.str z) (_:y=.int i) (_:z.length<=sizeLine) (_:Gh z.cps.toList i=some c) (_:Q (.str ⟨#[c]⟩) H)
noncomputable def aA1:R2:=fun x y H Q=>Tt x y H Q
theorem lR:XH X (Xc X.K):=by
 intro value slice pins s σ H x y v u Q I rx ry h hs;obtain⟨p,xs,i,z,rfl,rfl,hq,he,q⟩:=h;cases rx;obtain⟨t,rfl⟩:=ry;obtain⟨its,r,pl,hz⟩:=I.list hq;obtain⟨j,h1,h2,h3,h4,h5⟩:=Bo he;obtain⟨w,ew,rw'⟩:=r.get h2;have hl:=r.length;have hn:=wU;have fin:EP X pins σ Q w s:=⟨z,H,I,rw',q⟩
 by_cases h0:0<=i
 ·have hj:i.toNat=j:=by
   rw[seqIndex_of h0 h5]at h1;exact aGU.inj h1
  exact item_listR pl.isList h0 (by omega) (by rw[hj];simpa using ew) fin hs
 ·have hj:(i+(its.toArray.size:Int)).toNat=j:=by
   rw[seqIndex_neg (by omega) h4]at h1;rw[aFS,<-hl];exact aGU.inj h1
  exact subscriptTail_builtinR (x:=w) pl.isList.typeIs slot_list_getitem.lookup
   (wpAny_getItem_list_neg (Q:=fun r s'=>r=w/\EP X pins σ Q r s') pl.isList (by omega) (by rw[aFS] <;> omega) (by omega) (by rw[hj];simpa using ew) ⟨rfl,fin⟩) hs
theorem cU:XH X (Ye X.K):=by
 intro value slice pins s σ H x y v u Q I rx ry h hs;obtain⟨p,xs,i,z,rfl,rfl,hq,he,q⟩:=h;cases rx;obtain⟨t,rfl⟩:=ry;obtain⟨its,r,pl,hz⟩:=I.tuple hq;obtain⟨j,h1,h2,h3,h4,h5⟩:=Bo he;obtain⟨w,ew,rw'⟩:=r.get h2;have hl:=r.length;have hn:=wU;have fin:EP X pins σ Q w s:=⟨z,H,I,rw',q⟩
 exact subscriptTail_builtinR (x:=w) pl.typeIs slot_tuple_getitem.lookup
  (getItem_tuple (j:=j) (Q:=fun r s'=>r=w/\EP X pins σ Q r s') pl (by omega) (by omega) (by rw[aFS,<-hl];exact h1) (by simpa using ew) ⟨rfl,fin⟩) hs
theorem Kr:XH X aA1:=by
 intro value slice pins s σ H x y v u Q I rx ry h hs;obtain⟨z,i,c,rfl,rfl,hz,he,q⟩:=h;obtain⟨t,rfl⟩:=rx;obtain⟨t',rfl⟩:=ry;obtain⟨j,h1,h2,h3,h4,h5⟩:=Bo he;have hl:z.cps.toList.length=z.length:=by simp[Str.length]
 rw[hl]at h1 h4 h5;have hn:=wU;exact tail_any (typeIs_str s z t) slot_str_getitem.lookup (getItem_str (c:=c) (by
  have e1:decide (i < -(2^63:Int))=false:=decide_eq_false (by omega);have e2:decide (i ≥ 2^63)=false:=decide_eq_false (by omega);rw[e1,e2,Bool.or_false]) (by rw[h1];simpa using h2) ⟨.str ⟨#[c]⟩,H,I.tok _,⟨_,rfl⟩,q⟩) hs
noncomputable def eqV:V->V->Bool
 | .non,.non=>true
 | .bl a,.bl b=>a==b
 | .bl a,.int b=>(if a then 1 else 0)==b
 | .int a,.bl b=>a==(if b then 1 else 0)
 | .int a,.int b=>a==b
 | .str a,.str b=>a==b
 |_,_=>false
noncomputable def inV (x:V)(xs:List V):Bool:=xs.any fun y=>eqV y x
theorem cQ:fY X (.builtin "len") (fun xs H Q=>∃p ys,xs=[.ref p]/\(bV X.K H p ys∨dN X.K H p ys)/\Q (.int ys.length) H):=by
 intro pins s σ H xs us Q I r h;obtain⟨p,ys,rfl,hq,q⟩:=h;obtain⟨u,rfl,rx⟩:=vals1 r;cases rx;have hn:=wU;rcases hq with hq |hq
 ·obtain⟨its,r',pl,hz⟩:=I.list hq;have hlen:=r'.length;exact Calls.call_len_list pl.isList (by simp only[aFS] <;> omega) ⟨.int ys.length,H,I.tok _,⟨s.toks+1,by rw[aFS,hlen]⟩,q⟩
 ·obtain⟨its,r',pl,hz⟩:=I.tuple hq;have hlen:=r'.length;exact len_tuple pl (by simp only[aFS] <;> omega) ⟨.int ys.length,H,I.tok _,⟨s.toks+1,by rw[aFS,hlen]⟩,q⟩
theorem j6:fY X (.builtin "len") (fun xs H Q=>∃z,xs=[.str z]/\z.length<=sizeLine/\Q (.int z.length) H):=by
 intro pins s σ H xs us Q I r h;obtain⟨z,rfl,hz,q⟩:=h;obtain⟨u,rfl,t,rfl⟩:=vals1 r;have hn:=wU;exact len_str (by omega) ⟨.int z.length,H,I.tok _,⟨_,rfl⟩,q⟩
theorem Bs:fY X (.type "list") (fun xs H Q=>∃p ys,xs=[.ref p]/\(bV X.K H p ys∨dN X.K H p ys)/\∀l,H l=none->Q (.ref l) (bH H l (.lst ys))):=by
 intro pins s σ H xs us Q I r h;obtain⟨p,ys,rfl,hq,q⟩:=h;obtain⟨u,rfl,rx⟩:=vals1 r;cases rx;have fin:∀(its:List Value),cL ys its->ys.length<=sizeLine->∀(h':Heap) (c':Nat),(∀b o',s.heap.get? b=some o'->h'.get? b=some o') ->
   h'.get? s.heap.objs.size=some { cls:=.type "list",dict:=none,data:=.seq its.toArray c',slots:=#[] }->EP X pins σ Q (.ref s.heap.objs.size) { s with heap:=h' }:=fun its r' hz h' c' kp e =>
  ⟨.ref s.heap.objs.size,_,I.laid (t':=s.toks) kp (aFV _) (show cX X.prog X.w _ h' _ (.lst ys)from⟨hz,its,c',r',e⟩),rfl,q _ (I.hok.fresh (aFV _))⟩
 rcases hq with hq |hq
 ·obtain⟨its,r',pl,hz⟩:=I.list hq;have hlen:=r'.length;obtain⟨o,ho,hc,n,hd⟩:=pl.isList;exact call_list_seq p (.inl rfl) ho hc hd (fun h' c' kp e=>fin its r' hz h' c' kp e) (by simp only[aFS] <;> omega)
 ·obtain⟨its,r',pl,hz⟩:=I.tuple hq;have hlen:=r'.length;obtain⟨o,ho,hc,n,hd⟩:=pl;exact call_list_seq p (.inr rfl) ho hc hd (fun h' c' kp e=>fin its r' hz h' c' kp e) (by simp only[aFS] <;> omega)
theorem yV:fY X (.type "tuple") (fun xs H Q=>∃p ys,xs=[.ref p]/\((bV X.K H p ys/\∀l,H l=none->Q (.ref l) (bH H l (.tup ys)))∨(dN X.K H p ys/\Q (.ref p) H))):=by
 intro pins s σ H xs us Q I r h;obtain⟨p,ys,rfl,h⟩:=h;obtain⟨u,rfl,rx⟩:=vals1 r;cases rx;rcases h with⟨hq,q⟩ | ⟨hq,q⟩
 ·obtain⟨its,r',pl,hz⟩:=I.list hq;have hlen:=r'.length;refine call_tuple_list pl.isList (fun h' kp=>?_) (by simp only[aFS] <;> omega);have I1:bB X pins σ H { s with heap:=h' }:=I.kept (t':=s.toks) kp;have I2:bB X pins σ (bH H h'.objs.size (.tup ys)) { s with heap:=h'.push { cls:=.type "tuple",data:=.seq its.toArray } } :=
   I1.laid (t':=s.toks) (fun b o e=>aFO _ e) (aFV _) (show cX X.prog X.w _ _ _ (.tup ys)from⟨hz,its,r',IsTup.new _ _⟩)
  exact⟨.ref h'.objs.size,_,I2,rfl,q _ (I1.hok.fresh (aFV _))⟩
 ·obtain⟨its,r',pl,hz⟩:=I.tuple hq;exact call_tuple_same pl ⟨.ref p,H,I,rfl,q⟩
def tyV (K:PySem.W.Frag)(T:String)(x:V)(H:Hp):Prop:=match x with
 | .str _=>T = "str"
 | .int _=>T = "int"
 | .ref p=>(T = "list"/\∃xs,bV K H p xs)∨(T = "tuple"/\∃o,K.lookup p=some o/\o.cls=.type "tuple"/\o.dict=none) ∨
   (T = "dict"/\((∃kvs,H p=some (.dK kvs))∨∃kvs,H p=some (.dT kvs)))∨(T = "set"/\∃S n,H p=some (.set S n))
 |_=>False
theorem Km{pins:List (Addr×Obj)}{σ:St}{H:Hp}{s:Shared}{T:String}{x:V}{v:Value}(I:bB X pins σ H s)(r:RelV x v)(ty:tyV X.K T x H) :
  s.TypeIs v T/\∀a,v=.ref a->∃ob,s.heap.get? a=some ob/\ob.dict=none:=by
 cases x with
 |str z =>
  obtain⟨t,rfl⟩:=r;cases(show T = "str" from ty);exact⟨typeIs_str s z t,fun _ e=>nomatch e⟩
 |int i =>
  obtain⟨t,rfl⟩:=r;cases(show T = "int" from ty);exact⟨typeIs_int s i t,fun _ e=>nomatch e⟩
 |ref p =>
  cases r;rcases ty with⟨rfl,xs,hq⟩ | ⟨rfl,o,hk,hc,hd⟩ | ⟨rfl,hk⟩ | ⟨rfl,S,n,hk⟩
  ·obtain⟨its,_,pl,_⟩:=I.list hq;refine⟨pl.isList.typeIs,fun a e=>?_⟩;cases e;obtain⟨o,n,e,c,hd,_⟩:=pl;exact⟨o,e,hd⟩
  ·refine⟨⟨o,I.kIn p o hk,hc⟩,fun a e=>?_⟩;cases e;exact⟨o,I.kIn _ o hk,hd⟩
  ·have z:∃o,s.heap.get? p=some o/\o.ExactDict:=by
    rcases hk with⟨kvs,hk⟩ | ⟨kvs,hk⟩
    ·obtain⟨_,_,_,_,o,_,_,e,ex,_⟩:=I.hok p _ hk;exact⟨o,e,ex⟩
    ·obtain⟨_,_,_,_,o,_,_,e,ex,_⟩:=I.hok p _ hk;exact⟨o,e,ex⟩
   obtain⟨o,e,ex⟩:=z;refine⟨⟨o,e,ex.1⟩,fun a e2=>?_⟩;cases e2;exact⟨o,e,ex.2.1⟩
  ·obtain⟨o,_,_,_,e,ex,_⟩:=I.hok p _ hk;refine⟨⟨o,e,ex.1⟩,fun a e2=>?_⟩;cases e2;exact⟨o,e,ex.2.1⟩
 |_=>exact False.elim ty
noncomputable def YX (K:PySem.W.Frag)(T:String)(r:V->List V->Hp->VK->Prop)(to:TE):TE:=fun σ H Q=>to σ H fun x H1=>tyV K T x H1/\r x [] H1 Q
noncomputable def tBM (K:PySem.W.Frag)(T:String)(r:V->List V->Hp->VK->Prop)(to:TE)(t:TA):TE:=fun σ H Q=>to σ H fun x H1=>tyV K T x H1/\t σ H1 fun xs H2=>r x xs H2 Q
variable{o e:Expr}{es:List Expr}{to:TE}{t:TA}{name:Str}{apos cpos:Pos}{T id:String}{r:V->List V->Hp->VK->Prop}
theorem VL(pa:PlainAttrs T)(slot:Slot T name id)(hty:typeOf (.builtin id)=pure (.type "method_descriptor"))(hm:Ze X id r)(ho:PE X o to)
  (hbase:attributeBase o name X.env (eval o X.env)=eval o X.env:=by rfl) (hline:(apos.endLine==cpos.line)=true:=by rfl):PE X (.Call (.Attribute o name apos) [] [] cpos) (YX X.K T r to):=by
 intro pins s σ H Q I h;refine wpAny_Call_method0_late hbase hline (eO (ho pins s σ H _ I h) fun v s1 ⟨x,H1,I1,r1,ty,q1⟩=>?_);obtain⟨h1,h2⟩:=Km I1 r1 ty;exact⟨T,id,pa,slot,hty,h1,h2,Calls.callWith_builtin rfl (PySem.evalArgs_none (hm pins s1 σ H1 x [] v [] Q I1 r1 .nil q1))⟩
theorem pY(pa:PlainAttrs T)(slot:Slot T name id)(hty:typeOf (.builtin id)=pure (.type "method_descriptor"))(hm:Ze X id r)(ho:PE X o to)(ha:PA X (e::es) t)
  (hbase:attributeBase o name X.env (eval o X.env)=eval o X.env:=by rfl)
  (hfew:((backTo cpos (starEach (e::es) X.env)).all (fun x=>!x.1)&&(backToKw cpos (keywordEach [] X.env)).all (fun x=>x.1.isSome)
  &&decide ((e::es).length+([]:List Keyword).length+(if([]:List Keyword).isEmpty then 0 else 1)<30))=true:=by rfl)
  (hline:(apos.endLine==cpos.line)=true:=by rfl) (hs:starEach (e::es) X.env=(false,eval e X.env)::starEach es X.env:=by rfl) (hplain:(backTo cpos (starEach es X.env)).any (·.1)=false:=by rfl) :
  PE X (.Call (.Attribute o name apos) (e::es) [] cpos) (tBM X.K T r to t):=by
 intro pins s σ H Q I h;refine wpAny_Call_method_late hbase hfew hline rfl (eO (ho pins s σ H _ I h) fun v s1 ⟨x,H1,I1,r1,ty,q1⟩=>?_);obtain⟨h1,h2⟩:=Km I1 r1 ty;refine⟨T,id,pa,slot,hty,h1,h2,?_⟩;have hA:=ha cpos pins s1 σ H1 _ I1 q1;rw[hs]at hA ⊢;refine Calls.callWith_builtin (by show(false||(backTo cpos (starEach es X.env)).any (·.1))=false;rw[hplain] <;> rfl) (Calls.evalArgs_plain ?_);exact eO hA fun us s2 ⟨vs,H2,I2,r2,q2⟩=>hm pins s2 σ H2 x vs v us Q I2 r1 r2 q2
end
def Zg (X:Cx)(id:String)(r:V->List V->Hp->VK->Prop):Prop :=
 ∀(pins:List (Addr×Obj)) (s:Shared) (σ:St) (H:Hp) (x:V) (xs:List V) (v:Value) (us:List Value) (Q:VK),bB X pins σ H s->RelV x v->cL xs us->r x xs H Q ->
  wpAny (model X.prog X.w) X.A (call (.builtin id) (v::us)) (EP X pins σ Q) X.xe s
theorem cL.one:∀{x:V}{us:List Value},cL [x] us->∃u,us=[u]/\RelV x u
 |_,_,.cons r .nil=>⟨_,rfl,r⟩
theorem cL.zero:∀{us:List Value},cL [] us->us=[]
 |_,.nil=>rfl
theorem cL.dropLast(h:cL xs us):cL xs.dropLast us.dropLast:=by
 induction h with
 |nil=>exact .nil
 |cons r t ih =>
  cases t with
  |nil=>exact .nil
  |cons q t'=>exact .cons r ih
theorem cL.eraseIdx:∀{xs:List V}{us:List Value} (i:Nat),cL xs us->cL (xs.eraseIdx i) (us.eraseIdx i)
 |_,_,_,.nil=>.nil
 |_,_,0,.cons _ t=>t
 |_,_,i+1,.cons r t=>.cons r (cL.eraseIdx i t)
theorem Gn{α:Type}(l:List α):l.eraseIdx (l.length-1)=l.dropLast:=by
 induction l with
 |nil=>rfl
 |cons a r ih =>
  cases r with
  |nil=>rfl
  |cons b r =>
   have e:(a::b::r).length-1=((b::r).length-1)+1:=by
    have h1:(a::b::r).length=r.length+2:=rfl;have h2:(b::r).length=r.length+1:=rfl;omega
   rw[e,List.eraseIdx_cons_succ,ih]
   all_goals rfl
theorem zE{α:Type}:∀(l:List α) (i:Nat),(l.eraseIdx i).length<=l.length
 | [],_=>aFV _
 |_::_,0=>aHf _
 |_::r,i+1=>aIB (zE r i)
section
variable{X:Cx}{pins:List (Addr×Obj)}{σ:St}{H:Hp}{s:Shared}{l b:Addr}{xs ys zs:List V}
theorem bB.lset{its its':List Value}{n:Nat}{f:Array Value->Array Value}{t':Nat}(I:bB X pins σ H s)(hH:H l=some (.lst xs))
  (e:s.heap.get? l=some { cls:=.type "list",data:=.seq its.toArray n }) (hf:f its.toArray=its'.toArray) (hv:cL ys its') (hz:ys.length<=sizeLine) :
  bB X pins σ (bH H l (.lst ys)) { s with heap:=s.heap.update l (Obj.mapSeq f),toks:=t' }:=by
 have q:=PySem.IsL.update e f;rw[hf]at q;refine I.write (x:=l) (e:=l) (by rw[hH];exact trivial) (.inl rfl) (fun b' u hb hu=>(Heap.get?_update_other s.heap (Obj.mapSeq f) (Ne.symm hb)).trans hu) ⟨_,q⟩ ?_;exact⟨hz,its',_,hv,q⟩
theorem bB.lstM(I:bB X pins σ H s)(hH:H l=some (.lst xs)):xs.length<=sizeLine/\∃(its:List Value) (n:Nat),cL xs its/\xs.length=its.length/\s.heap.get? l=some { cls:=.type "list",data:=.seq its.toArray n }:=by
 obtain⟨z,its,n,r,e⟩:=I.hok l _ hH;exact⟨z,its,n,r,r.length,e⟩
theorem MN{n:Nat}(h:n<=sizeLine):Builtin.List.listTooLong n=false:=by
 unfold Builtin.List.listTooLong;exact decide_eq_false (by omega)
end
section
variable{X:Cx}
inductive Jo (x:V)(vs:List V)(H:Hp)(Q:VK):Prop
 |mk (l:_) (xs:_) (y:_) (_:x=.ref l) (_:vs=[y]) (_:H l=some (.lst xs)) (_:xs.length<sizeLine) (_:Q .non (bH H l (.lst (xs++[y]))))
def Pq:V->List V->Hp->VK->Prop:=fun x vs H Q=>Jo x vs H Q
theorem iI:Zg X "list.append" Pq:=by
 intro pins s σ H x vs v us Q I rx rv h;obtain⟨l,xs,y,rfl,rfl,hH,hz,q⟩:=h;cases rx;obtain⟨u,rfl,ru⟩:=rv.one;obtain⟨z,its,n,r,hl,e⟩:=I.lstM hH;refine call_meets F.slot_list_append ⟨_,e,rfl⟩ F.entry_list_append (F.args_list_append_2 _ _) (PySem.list_append l its.toArray n u (by rw[aFS];omega)) ⟨e,?_⟩;refine⟨.non,_,I.lset (its':=its++[u]) hH e (by simp) (r.append (.cons ru .nil)) ?_,rfl,q⟩;rw[aFR,aGp];omega
inductive Jt (x:V)(vs:List V)(H:Hp)(Q:VK):Prop
 |mk (l:_) (b:_) (xs:_) (zs:_) (_:x=.ref l) (_:vs=[.ref b]) (_:H l=some (.lst xs)) (_:H b=some (.lst zs)) (_:xs.length+zs.length<=sizeLine) (_:Q .non (bH H l (.lst (xs++zs))))
def Q0:V->List V->Hp->VK->Prop:=fun x vs H Q=>Jt x vs H Q
theorem Jg:Zg X "list.extend" Q0:=by
 intro pins s σ H x vs v us Q I rx rv h;obtain⟨l,b,xs,zs,rfl,rfl,hH,hB,hz,q⟩:=h;cases rx;obtain⟨u,rfl,ru⟩:=rv.one;cases ru;obtain⟨z,its,n,r,hl,e⟩:=I.lstM hH;obtain⟨z2,its2,n2,r2,hl2,e2⟩:=I.lstM hB;have hsz:its.toArray.size+its2.toArray.size<=sizeLine:=by rw[aFS,aFS];omega
 have hlong:¬ (!its.toArray.isEmpty&&Builtin.List.listTooLong (its.toArray.size+its2.toArray.size))=true:=by
  rw[MN hsz,Bool.and_false];exact aGb
 refine call_meets F.slot_list_extend ⟨_,e,rfl⟩ F.entry_list_extend (F.args_list_extend_2 _ _)
  (AutoSeq1.list_extend_list_list_0 l its.toArray n b its2.toArray n2 hlong (by rw[aFS];omega) (by omega)) ⟨e,e2,?_⟩
 refine⟨.non,_,I.lset (its':=its++its2) hH e (by simp) (r.append r2) ?_,rfl,q⟩;rw[aFR];omega
inductive Ur (x:V)(vs:List V)(H:Hp)(Q:VK):Prop
 |mk (l:_) (xs:_) (y:_) (_:x=.ref l) (_:vs=[]) (_:H l=some (.lst xs)) (_:xs[xs.length-1]? = some y) (_:Q y (bH H l (.lst xs.dropLast)))
def aAJ:V->List V->Hp->VK->Prop:=fun x vs H Q=>Ur x vs H Q
theorem Sx:Zg X "list.pop" aAJ:=by
 intro pins s σ H x vs v us Q I rx rv h;obtain⟨l,xs,y,rfl,rfl,hH,hy,q⟩:=h;cases rx;have hus:=rv.zero;subst hus;obtain⟨z,its,n,r,hl,e⟩:=I.lstM hH;obtain⟨u,hu,ru⟩:=r.get hy;have hy':its.toArray[its.toArray.size-1]? = some u:=by
  show its.toArray[its.length-1]? = some u;rw[<-aGY,<-hl];exact hu
 refine call_meets F.slot_list_pop ⟨_,e,rfl⟩ F.entry_list_pop (F.args_list_pop_1 _) (MeetsSeq.list_pop_last l its.toArray n u hy' (by rw[aFS];omega)) ⟨e,?_⟩;refine⟨y,_,I.lset (its':=its.dropLast) hH e ?_ r.dropLast ?_,ru,q⟩
 ·show its.toArray.eraseIdxIfInBounds (its.toArray.size-1)=its.dropLast.toArray;rw[aFS,aHD,Gn]
 ·rw[List.length_dropLast];omega
inductive Ke (x:V)(vs:List V)(H:Hp)(Q:VK):Prop
 |mk (l:_) (xs:_) (i:_) (k:_) (y:_) (_:x=.ref l) (_:vs=[.int i]) (_:H l=some (.lst xs)) (_:-(2^63)<=i) (_:i<2^63) (_:seqIndex? i xs.length=some k) (_:xs[k]? = some y) (_:Q y (bH H l (.lst (xs.eraseIdx k))))
def Vv:V->List V->Hp->VK->Prop:=fun x vs H Q=>Ke x vs H Q
theorem oX:Zg X "list.pop" Vv:=by
 intro pins s σ H x vs v us Q I rx rv h;obtain⟨l,xs,i,k,y,rfl,rfl,hH,h1,h2,hk,hy,q⟩:=h;cases rx;obtain⟨u,rfl,ru⟩:=rv.one;obtain⟨t,rfl⟩:=ru;obtain⟨z,its,n,r,hl,e⟩:=I.lstM hH;obtain⟨w,hw,rw'⟩:=r.get hy;refine call_meets F.slot_list_pop ⟨_,e,rfl⟩ F.entry_list_pop (F.args_list_pop_2 _ _)
  (MeetsSeq.list_pop_at l its.toArray n i t k w (fitsIndex_both h1 h2) (by rw[aFS,<-hl];exact hk) (by rw[<-aGY];exact hw) (by rw[aFS];omega)) ⟨e,?_⟩
 refine⟨y,_,I.lset (its':=its.eraseIdx k) hH e ?_ (r.eraseIdx k) ?_,rw',q⟩
 ·show its.toArray.eraseIdxIfInBounds k=(its.eraseIdx k).toArray;rw[aHD]
 ·have:=zE xs k;omega
end
end L2
namespace Att
open PySem PySem.W PySem.Calls PyProof.Rows
theorem vK{P:Params}{h:Heap}:∀(ns:List Int) (vs:List Value),WellAll P h vs (ns.map WData.int)->IntsAre vs ns:=by
 intro ns
 induction ns with
 |nil =>
  intro vs w;rw[aGD]at w;cases w;exact .nil
 |cons n ns ih =>
  intro vs w;rw[aFP]at w;cases w with
  |cons a b =>
   cases a;exact .cons _ _ (ih _ b)
theorem JX{l:OpenLaw}{n:Nat}(hn:l.most=some n){P:Params}{h:Heap}{args:List WData}{vals:List Value}
  (hpre:l.row.toRowW.claim.pre args=true) (hwl:WellAll P h vals args) :
  ∃a vs ns,vals=[Value.ref a]/\args=[WData.list (ns.map WData.int)]/\h.get? a=some { cls:=.type "list",data:=.seq vs.toArray }/\IntsAre vs ns/\ns.length<=n:=by
 have hsh:WShape.hasAll [] args [.list .int]=true:=(pre_splitW hpre).1;have hc:l.pre.holds [] { args:=args }=true:=(pre_splitW hpre).2;obtain⟨d,r,rfl,h1,h2⟩:=hasAllW_cons hsh;obtain rfl:=hasAllW_nil h2;obtain⟨xs,rfl,h3⟩:=hasW_list h1;obtain⟨ns,rfl⟩:=items_int h3;have hlen:ns.length<=n:=by
  unfold OpenLaw.pre at hc;have h4:(WTm.not (.lt (.lit (.int (n:Int))) (.len (.arg 0)))).holds [] { args:=[.list (ns.map .int)] }=true:=by
   have h4:=(holds_andW hc).1;rw[hn]at h4;exact h4
  have h5:=condW_of h4 (w_not (w_lt w_lit (w_len_list (w_arg rfl))));rw[aFJ]at h5;refine Nat.le_of_not_lt fun q=>?_;have q':(n:Int)<((ns.length:Nat):Int):=by omega
  first
   | (rw[decide_eq_true q']at h5;exact absurd h5 (by decide))
   | (simp at h5;omega)
 cases hwl with
 |cons w1 w2 =>
  cases w2;cases w1 with
  |list ho hall=>exact⟨_,_,ns,rfl,rfl,ho,vK ns _ hall,hlen⟩
theorem J5(l:OpenLaw)(args:List WData):l.row.toRowW.claim.post args (.bool true) args=true :=
 postW_of (r:=l.row.toRowW) (X:=(true==true))
  (show WShape.has [] (.bool true) .bool=true by first |rfl |decide |simp[WShape.has,WShape.arms,WShape.armsAll])
  (show(WTm.eq .res (.lit (.bool true))).value [] { args:=args,res:=some (.bool true),after:=args }=some (.bool (true==true))from w_eq_bool (w_res rfl) w_lit) rfl
theorem Fd{l:OpenLaw}{n:Nat}{q:Program}{loose:List Str}{XP:(Str->Option Value)->Heap->Prop}{YP:World->Heap->Prop}{d:DefRec}
  (hn:l.most=some n) (hdf:d.params.defaults=[])
  (call:∀(w:World) (s₀ s₁:Shared) (mg mb:Str->Option Value) (fa:Addr) (o:Obj) (pm cd doc:Value) (a:Addr) (vs:List Value) (ns:List Int),
   Ground q loose [] XP w s₀ mg mb s₁.heap->YP w s₁.heap ->
   s₁.heap.get? fa=some o->o.data=.func (docDef d.name d.params d.body d.scope pm cd doc)->s₁.heap.CodeRec cd d.name->mg d.name=some (.ref fa) ->
   s₁.heap.get? a=some { cls:=.type "list",data:=.seq vs.toArray }->IntsAre vs ns->ns.length<=n->s₁.gens = #[] ->
   codeAny (model l.prog w) callerA (.call (.ref fa) ⟨[.ref a],[]⟩) (fun r s'=>r=.ok (.ret (.bool true))/\OldK s₁.heap s'.heap/\s'.os=s₁.os/\AllBare s'.gens) s₁) :
  WalkO q loose XP YP l.row.toRowW d [] (fun f vs=>PySem.call f vs):=by
 intro w s₀ s₁ mg mb G Y fa o pm cd doc dV kV ho hd hcd hD hmg hg args vals as hpre hlay hrd hwl hlo;obtain rfl:dV=.none:=Dflts.none hD hdf;obtain rfl:kV=.none:=Dflts.noKw hD;obtain⟨a,vs,ns,rfl,rfl,hobj,hints,hlen⟩:=JX hn hpre hwl;refine enter_call (codeAny_mono (call w s₀ s₁ mg mb fa o pm cd doc a vs ns G Y ho (fd_plain hd) hcd hmg hobj hints hlen hg) fun r s' hq=>?_);obtain⟨rfl,h2,h3,h4⟩:=hq;exact⟨.inl ⟨.bool true,.bool true,[],rfl,fun _=>rfl,.bool true,J5 l _,fun _=>⟨List.Pairwise.nil,fun _ hm=>(nomatch hm)⟩⟩,h2,h3,h4⟩
end Att
namespace L2
open PySem PySem.Spec PyProof.Rows
theorem uC:∀{vs:List Value}{ns:List Int},IntsAre vs ns->cL (ns.map V.int) vs
 |_,_,.nil=>.nil
 |_,_,.cons n t h=>.cons ⟨t,rfl⟩ (uC h)
noncomputable abbrev bT:Av:=fun _ _ _ _ _ _=>False
noncomputable abbrev E0:XK:=fun _ _ _=>False
variable{X:Cx}
theorem bC:mU bT X E0:=fun _ _ _ _ _ _ _ h=>h.elim
structure dJ (K:PySem.W.Frag)(x qual:Str)(st:Stmt)(f:Addr)(fd:FuncData):Prop where
 ex:∃(oc:Value) (od:Option Addr) (kV doc pm:Value) (an:Option Addr) (cdv ct:Value) (osl:Array (Option Value)),
  fd=PySem.W.fnOf x qual (jX st) (iC st) (aH st) .none kV doc pm an cdv ct/\K.lookup f=some ⟨oc,od,.func fd,osl⟩/\PySem.W.codeIn K cdv qual=true
 kp:PySem.W.keepIn K (.ref f)=true
section
variable{P:Program}{w:World}{K:PySem.W.Frag}{mg:Str->Option Value}{base:Heap}
variable{x qual:Str}{st:Stmt}{f:Addr}{fd:FuncData}
theorem dJ.ok{N ps:List Str}{k:Nat}{sp:Sp}(F:dJ K x qual st f fd)(S:aM N ps (aH st))(len:∀vs H Q E,sp vs H Q E->vs.length=ps.length)
  (hbody:∀(cdv:Value) (A:Around) (outer:List Env) (s:Shared) (H:Hp) (vs:List V) (Q:VK) (E:XK),Room k (A.deeper (envOfC qual (aH st) s.heap.objs.size f cdv))->sp vs H Q E ->
   ∃t,yC (yD bT P w K mg base N qual (aH st) f cdv A outer s H E).nox (iC st) t/\t { nx:=fun _ H'=>Q .non H',rt:=Q } (start N vs) H):aN P w K mg base bT (k+1) f fd ps sp:=by
 obtain⟨oc,od,kV,doc,pm,an,cdv,ct,osl,rfl,lk,hcd⟩:=F.ex;refine N7 lk hcd S len fun A outer s H vs Q E hr hsp=>?_;obtain⟨t,h,q⟩:=hbody cdv A outer s H vs Q E hr hsp;exact⟨t,h.nox,q⟩
theorem dJ.binds{ps:List Str}(F:dJ K x qual st f fd)
  (h:∀(kV doc pm:Value) (an:Option Addr) (cdv ct:Value) (us:List Value),us.length=ps.length->bindArgs (PySem.W.fnOf x qual (jX st) (iC st) (aH st) .none kV doc pm an cdv ct) ⟨us,[]⟩=pure (ps.zip us)):Binds K fd ps []:=by
 obtain⟨oc,od,kV,doc,pm,an,cdv,ct,osl,rfl,lk,hcd⟩:=F.ex;exact .all (h kV doc pm an cdv ct)
theorem Ln{oc:Value}{od an:Option Addr}{osl:Array (Option Value)}{kV doc pm cdv ct:Value}(l:K.lookup f=some ⟨oc,od,.func (PySem.W.fnOf x qual (jX st) (iC st) (aH st) .none kV doc pm an cdv ct),osl⟩)
  (c:PySem.W.codeIn K cdv qual=true) (k:PySem.W.keepIn K (.ref f)=true):dJ K x qual st f (PySem.W.fnOf x qual (jX st) (iC st) (aH st) .none kV doc pm an cdv ct):=⟨⟨oc,od,kV,doc,pm,an,cdv,ct,osl,rfl,l,c⟩,k⟩
end
theorem Yg{A:Around}{k:Nat}(hr:Room k A):A.units+1<cLine:=aHN (aG3 (by decide:1<=64) _) hr.units
theorem aU{n:Nat}(h:n<=1000):n<sizeLine:=aHN h (by decide)
section
variable{X:Cx}
theorem pv(i:Nat){x:Str}{pos:Pos}(hN:X.N[i]? = some x:=by rfl)(hv:Zq X.env.scope x:=by first |exact Or.inl rfl |exact Or.inr (Or.inl rfl) |exact Or.inr (Or.inr rfl))(hd:(x==("__debug__" : Str))=false:=by decide)
  (hcd:(x==("__classdict__" : Str))=false:=by decide):PE X (.Name x pos) (vV i):=Lr hN hv hd hcd
end
theorem dW{A B:Prop}(h:B):if false=true then A else B:=by
 rw[if_neg aGb];exact h
theorem iZ{A B:Prop}(h:A):if true=true then A else B:=by
 rw[if_pos rfl];exact h
theorem qZ{c A B:Prop}[Decidable c](h1:c->A)(h2:¬ c->B):if c then A else B:=by
 by_cases h:c
 ·rw[if_pos h];exact h1 h
 ·rw[if_neg h];exact h2 h
def aP (H H':Hp):Prop:=∀b o,H b=some o->H' b=some o
theorem aP.refl(H:Hp):aP H H:=fun _ _ h=>h
variable{H:Hp}
theorem aP.trans{H1 H2:Hp}(a:aP H H1)(b:aP H1 H2):aP H H2:=fun c o h=>b c o (a c o h)
variable{H':Hp}
theorem aP.free(e:aP H H'){l:Addr}(h:H' l=aIG):H l=aIG:=by
 cases q:H l with
 |none=>rfl
 |some o =>
  rw[e l o q]at h;cases h
variable{a:Addr}
theorem aP.seq{K:PySem.W.Frag}{xs:List V}(e:aP H H')(h:bV K H a xs):bV K H' a xs:=by
 rcases h with(h | ⟨o,h⟩) |h
 ·exact .inl (.inl (e _ _ h))
 ·exact .inl (.inr ⟨o,e _ _ h⟩)
 ·exact .inr h
section
variable{κ:Type}[DecidableEq κ]
noncomputable def oH (kvs:List (κ×V))(k:κ):Option V:=(kvs.find? fun kv=>decide (kv.1=k)).map (·.2)
noncomputable def putK (kvs:List (κ×V))(k:κ)(v:V):List (κ×V) :=
 if(kvs.any fun kv=>decide (kv.1=k))=true then kvs.map (fun kv=>if kv.1=k then(kv.1,v)else kv)else kvs++[(k,v)]
theorem xK{p:κ×V}{r:List (κ×V)}{k:κ}(e:p.1=k):oH (p::r) k=some p.2:=by simp[oH,aHb,e]
theorem wR{p:κ×V}{r:List (κ×V)}{k:κ}(e:¬ p.1=k):oH (p::r) k=oH r k:=by simp[oH,aHb,e]
theorem wQ(k:κ):∀kvs:List (κ×V),(kvs.any fun kv=>decide (kv.1=k))=(oH kvs k).isSome
 | []=>rfl
 |p::r=>by
  rw[aIk]
  by_cases e:p.1=k
  ·simp only[xK e,decide_eq_true e,Bool.true_or,Option.isSome_some]
  ·rw[wR e,decide_eq_false e,Bool.false_or];exact wQ k r
theorem pH(kvs:List (κ×V))(k:κ)(v:V):(putK kvs k v).length<=kvs.length+1:=by
 unfold putK
 split
 ·rw[aFJ];omega
 ·rw[aFR,aF8,aHr];omega
variable{o:Option V}
theorem oJ.isSome_eq{u:Option Value}(r:oJ o u):o.isSome=u.isSome:=by
 cases o with
 |none=>cases u with
  |none=>rfl
  |some _=>exact(show False from r).elim
 |some _=>cases u with
  |none=>exact(show False from r).elim
  |some _=>rfl
theorem oJ.getD{u:Option Value}{d:V}{d':Value}(r:oJ o u)(rd:RelV d d'):RelV (o.getD d) (u.getD d'):=by
 cases o with
 |none=>cases u with
  |none=>exact rd
  |some _=>exact(show False from r).elim
 |some _=>cases u with
  |none=>exact(show False from r).elim
  |some _=>exact r
theorem KV.val{kvs:List (κ×V)}{vs:List (κ×Value)}(r:KV kvs vs)(k:κ):oJ (oH kvs k) (valueAt vs k):=by
 unfold KV at r
 induction r with
 |nil=>exact True.intro
 | @cons p q ps qs h t ih =>
  obtain⟨h1,h2⟩:=h
  by_cases e:p.1=k
  ·have e':q.1=k:=h1.symm.trans e;have b:valueAt (q::qs) k=some q.2:=by simp[valueAt,aHb,e']
   rw[xK e,b];exact h2
  ·have e':¬ q.1=k:=fun z=>e (h1.trans z);have b:valueAt (q::qs) k=valueAt qs k:=by simp[valueAt,aHb,e']
   rw[wR e,b];exact ih
theorem KV.any{kvs:List (κ×V)}{vs:List (κ×Value)}(r:KV kvs vs)(k:κ):(kvs.any fun kv=>decide (kv.1=k))=vs.any fun kv=>decide (kv.1=k):=by
 unfold KV at r
 induction r with
 |nil=>rfl
 |cons h t ih=>rw[aIk,aIk,ih,h.1]
theorem KV.repl{kvs:List (κ×V)}{vs:List (κ×Value)}(r:KV kvs vs)(k:κ){y:V}{u:Value}(ry:RelV y u) :
  KV (kvs.map fun kv=>if kv.1=k then(kv.1,y)else kv) (vs.map fun kv=>if kv.1=k then(kv.1,u)else kv):=by
 unfold KV at r ⊢
 induction r with
 |nil=>exact .nil
 | @cons p q ps qs h t ih =>
  rw[aFP,aFP];refine .cons ?_ ih;obtain⟨h1,h2⟩:=h
  by_cases e:p.1=k
  ·rw[if_pos e,if_pos (h1.symm.trans e)];exact⟨h1,ry⟩
  ·rw[if_neg e,if_neg (fun z=>e (h1.trans z))];exact⟨h1,h2⟩
theorem KV.put{kvs:List (κ×V)}{vs:List (κ×Value)}(r:KV kvs vs)(k:κ){y:V}{u:Value}(ry:RelV y u):KV (putK kvs k y) (stored vs k u):=by
 unfold putK stored;rw[r.any k]
 by_cases e:(vs.any fun kv=>decide (kv.1=k))=true
 ·rw[if_pos e,if_pos e];exact r.repl k ry
 ·rw[if_neg e,if_neg e];exact Paired.snoc r ⟨rfl,ry⟩
theorem KV.length{kvs:List (κ×V)}{vs:List (κ×Value)}(r:KV kvs vs):kvs.length=vs.length:=Paired.length r
end
variable{P:Program}{w:World}
theorem HS{k:Key}{u:Value}(r:RelV (kV k) u):(eZ P w).is k u=true:=by
 cases k with
 |inl i=>obtain⟨t,e⟩:=(show ∃t,u=Value.int i t from r);subst e;exact Ei P w i t
 |inr x=>obtain⟨t,e⟩:=(show ∃t,u=Value.str x t from r);subst e;exact Ek P w x t
theorem Aj{P:Program}{w:World}:∀{ks:List Key}{us:List Value},cL (ks.map kV) us->ItemsAre (eZ P w) ks us
 | [],_,r=>by rw[aGD]at r;cases r;exact .nil
 |k::ks,_,r=>by
  rw[aFP]at r;cases r with
  |cons h t=>exact .cons (HS h) (Aj t)
abbrev KT (H:Hp):List (List Key×V)->List (List Key×Addr×Value)->Prop:=Paired fun p q=>p.1=q.1/\H q.2.1=some (.tup (p.1.map kV))/\RelV p.2 q.2.2
theorem KT.val{kvs:List (List Key×V)}{xs:List (List Key×Addr×Value)}(r:KT H kvs xs)(k:List Key):oJ (oH kvs k) ((atKey xs k).map (·.2)):=by
 induction r with
 |nil=>exact True.intro
 | @cons p q ps qs h t ih =>
  obtain⟨h1,_,h2⟩:=h
  by_cases e:p.1=k
  ·have e':q.1=k:=h1.symm.trans e;have b:atKey (q::qs) k=some q.2:=by simp[atKey,aHb,e']
   rw[xK e,b];exact h2
  ·have e':¬ q.1=k:=fun z=>e (h1.trans z);have b:atKey (q::qs) k=atKey qs k:=by simp[atKey,aHb,e']
   rw[wR e,b];exact ih
theorem KT.repl{kvs:List (List Key×V)}{xs:List (List Key×Addr×Value)}(r:KT H kvs xs)(k:List Key){y:V}{u:Value}(ry:RelV y u) :
  KT H (kvs.map fun kv=>if kv.1=k then(kv.1,y)else kv) (xs.map (putAt k u)):=by
 induction r with
 |nil=>exact .nil
 | @cons p q ps qs h t ih =>
  rw[aFP,aFP];refine .cons ?_ ih;obtain⟨h1,h2,h3⟩:=h;unfold putAt
  by_cases e:p.1=k
  ·rw[if_pos e,if_pos (h1.symm.trans e)];exact⟨h1,h2,ry⟩
  ·rw[if_neg e,if_neg (fun z=>e (h1.trans z))];exact⟨h1,h2,h3⟩
theorem KT.put{kvs:List (List Key×V)}{xs:List (List Key×Addr×Value)}(r:KT H kvs xs)(k:List Key){b:Addr}{y:V}{u:Value}(hb:H b=some (.tup (k.map kV)))(ry:RelV y u) :
  KT H (putK kvs k y) (storedH xs k b u):=by
 have e:(kvs.any fun kv=>decide (kv.1=k))=(atKey xs k).isSome:=by
  rw[wQ,(r.val k).isSome_eq,Option.isSome_map]
 unfold putK storedH;rw[e]
 by_cases q:(atKey xs k).isSome=true
 ·rw[if_pos q,if_pos q];exact r.repl k ry
 ·rw[if_neg q,if_neg q];exact Paired.snoc r ⟨rfl,hb,ry⟩
theorem KT.keeps{kvs:List (List Key×V)}{xs:List (List Key×Addr×Value)}(r:KT H kvs xs)(ht:∀b ys,H b=some (.tup ys)->H' b=some (.tup ys)):KT H' kvs xs :=
 Paired.mapP r fun _ _ z=>⟨z.1,ht _ _ z.2.1,z.2.2⟩
section
variable{P:Program}{w:World}{H:Hp}{h:Heap}{a:Addr}
theorem Qv{u:HO}(ok:pK P w H h)(e:Rd H a u):cX P w H h a u:=e.ok ok
theorem Dt{kvs:List (Key×V)}(ok:pK P w H h)(e:Rd H a (.dK kvs)):kvs.length<=sizeLine/\(a==sysModules)=false/\∃vs,KV kvs vs/\h.DictOf (eZ P w) a vs :=
 show cX P w H h a (.dK kvs)from Qv ok e
theorem Y9{kvs:List (Key×V)}(ok:pK P w H h)(e:H a=some (.dK kvs)):kvs.length<=sizeLine/\(a==sysModules)=false/\∃vs,KV kvs vs/\h.DictOf (eZ P w) a vs:=Dt ok (.inl e)
theorem BX{ks:List Key}(ok:pK P w H h)(e:H a=some (.tup (ks.map kV))):(tupleKind (eZ P w)).is h ks a:=by
 obtain⟨_,its,r,o,h1,h2,n,h3⟩:=(show cX P w H h a (.tup (ks.map kV))from ok a _ e)
 exact⟨o,its.toArray,n,h1,h2,h3,by simpa using Aj r⟩
theorem DW{kvs:List (List Key×V)}(ok:pK P w H h)(e:Rd H a (.dT kvs)):kvs.length<=sizeLine/\(a==sysModules)=false ∧
  ∃xs,KT H kvs xs/\h.DictOfH (tupleKind (eZ P w)) a xs:=by
 obtain⟨z,y,xs,r,o,es,ep,h1,h2,h3,h4,h5⟩:=(show cX P w H h a (.dT kvs)from Qv ok e)
 refine⟨z,y,xs,r,o,es,ep,h1,h2,h3,h4,fun x hx=>?_,h5⟩;have all:∀{l:List (List Key×V)}{m:List (List Key×Addr×Value)},KT H l m->∀x∈m,(tupleKind (eZ P w)).is h x.1 x.2.1:=by
  intro l m q
  induction q with
  |nil=>intro x hx;exact nomatch hx
  | @cons p q ps qs hq t ih =>
   intro x hx;rcases aGi.mp hx with e |hx
   ·subst e;exact BX ok (by rw[<-hq.1];exact hq.2.1)
   ·exact ih x hx
 exact all r x hx
theorem ZX{kvs:List (List Key×V)}(ok:pK P w H h)(e:H a=some (.dT kvs)):kvs.length<=sizeLine/\(a==sysModules)=false ∧
  ∃xs,KT H kvs xs/\h.DictOfH (tupleKind (eZ P w)) a xs:=DW ok (.inl e)
end
def En (H:Hp)(a:Addr)(y:V)(r:Option V):Prop :=
 (∃kvs k,Rd H a (.dK kvs)/\y=kV k/\r=oH kvs k)∨∃kvs k b,Rd H a (.dT kvs)/\y=.ref b/\H b=some (.tup (k.map kV))/\r=oH kvs k
def Mw (H:Hp)(a:Addr)(y v:V)(H':Hp):Prop :=
 (∃kvs k,H a=some (.dK kvs)/\y=kV k/\kvs.length<sizeLine/\H'=bH H a (.dK (putK kvs k v))) ∨
 ∃kvs k b,H a=some (.dT kvs)/\y=.ref b/\H b=some (.tup (k.map kV))/\kvs.length<sizeLine/\H'=bH H a (.dT (putK kvs k v))
variable{k:List Key}
theorem En.t{b:Addr}{kvs:List (List Key×V)}(e:H a=some (.dT kvs))(eb:H b=some (.tup (k.map kV))):En H a (.ref b) (oH kvs k):=.inr ⟨kvs,k,b,.inl e,rfl,eb,rfl⟩
theorem Mw.t{b:Addr}{kvs:List (List Key×V)}{v:V}(e:H a=some (.dT kvs))(eb:H b=some (.tup (k.map kV)))(hl:kvs.length<sizeLine) :
  Mw H a (.ref b) v (bH H a (.dT (putK kvs k v))):=.inr ⟨kvs,k,b,e,rfl,eb,hl,rfl⟩
section
variable{X:Cx}{pins:List (Addr×Obj)}{σ:St}{H:Hp}{s:Shared}{a:Addr}{y v:V}{u r:Value}{o:Option V}{A:Around}{E:Value->Shared->Prop}
theorem bB.big(I:bB X pins σ H s):sysModules<s.heap.objs.size:=by
 have h:mainGlobals<s.heap.objs.size:=(I.mod.glob.keeps I.bk).lt;exact Nat.lt_trans (by decide) h
theorem Jp{Q:Value->Shared->Prop}(hu:A.units+1<cLine)(I:bB X pins σ H s)(g:En H a y (some v))(ry:RelV y u)(h:∀w' s',bB X pins σ H s'->RelV v w'->Q w' s') :
  wpAny (model X.prog X.w) A (getItem (.ref a) u) Q E s:=by
 rcases g with⟨kvs,k,e,ey,l⟩ | ⟨kvs,k,b,e,ey,eb,l⟩
 ·subst ey;obtain⟨z,hd,vs,rel,dd⟩:=Dt I.hok e;obtain⟨w',hw,rw'⟩:=oJ.some_of (v:=v) (o:=valueAt vs k) (by rw[l];exact rel.val k);exact wpAny_getItem_of (HS ry) dd.mapOf hw (h w' _ (I.tok _) rw')
 ·subst ey;cases(show u=Value.ref b from ry);obtain⟨z,hd,xs,rel,dd⟩:=DW I.hok e;obtain⟨w',hw,rw'⟩:=oJ.some_of (v:=v) (o:=(atKey xs k).map (·.2)) (by rw[l];exact rel.val k);obtain⟨p,hp,hp2⟩:=aGF.mp hw;refine wpAny_getItem_heap (tupleKind_room_in1 hu) (BX I.hok eb) dd hp ?_;rw[hp2];exact h w' _ (I.tok _) rw'
theorem Ii{h':Heap}{t':Nat}{ob:HO}(I:bB X pins σ H s)(mu:Yh (H a))(hs:aGC a s.heap h')(he:∃q,h'.get? a=some q)(new:cX X.prog X.w (bH H a ob) h' a ob) :
  bB X pins σ (bH H a ob) { s with heap:=h',toks:=t' } :=
 I.write (x:=a) (e:=a) mu (.inl rfl) (fun b q hb z=>(hs.2 b hb).trans z) he new
theorem TV{P:Program}{w:World}{H':Hp}{h':Heap}{kvs:List (Key×V)}{vs:List (Key×Value)}(z:kvs.length<=sizeLine)(hd:(a==sysModules)=false)(rel:KV kvs vs)(dd:h'.DictOf (eZ P w) a vs) :
  cX P w H' h' a (.dK kvs):=⟨z,hd,vs,rel,dd⟩
theorem Jf{H':Hp}{Q:Unit->Shared->Prop}(hu:A.units+1<cLine)(I:bB X pins σ H s)(g:Mw H a y v H')(ry:RelV y u)(rv:RelV v r)(h:∀s',bB X pins σ H' s'->Q () s') :
  wpAny (model X.prog X.w) A (setItem (.ref a) u r) Q E s:=by
 rcases g with⟨kvs,k,e,ey,l,eH⟩ | ⟨kvs,k,b,e,ey,eb,l,eH⟩
 ·subst ey eH;obtain⟨z,hd,vs,rel,dd⟩:=Y9 I.hok e;have hz:vs.length<=sizeLine:=by rw[<-rel.length];exact z
  have hl:(putK kvs k v).length<=sizeLine:=by have:=pH kvs k v;omega
  refine wpAny_setItem_pairs (hsz:=hz) (HS ry) dd fun h' dd' hs=>h _ ?_;have he:∃q,h'.get? a=some q:=let⟨q,_,_,hq,_⟩:=dd'; ⟨q,hq⟩;exact Ii I (by rw[e];exact True.intro) hs he (TV hl hd (rel.put k rv) dd')
 ·subst ey eH;cases(show u=Value.ref b from ry);obtain⟨z,hd,xs,rel,dd⟩:=ZX I.hok e;have hz:xs.length<=sizeLine:=by rw[<-Paired.length rel];exact z
  have hl:(putK kvs k v).length<=sizeLine:=by have:=pH kvs k v;omega
  refine wpAny_setItem_heap (hsz:=hz) (tupleKind_room_in1 hu) (BX I.hok eb) dd fun h' dd' hs=>h _ ?_;obtain⟨q,es,ep,hq,h2,h3,h4,_,h5⟩:=dd';refine Ii I (by rw[e];exact True.intro) hs ⟨q,hq⟩ ⟨hl,hd,_,(rel.put k eb rv).keeps fun c ys ec=>?_,q,es,ep,hq,h2,h3,h4,h5⟩;rw[aK (dG ec e (fun z=>nomatch z))];exact ec
end
def Xr (i:Expr):Prop:=∀ov iv,subscripted i false ov iv=operate [ov,iv] (getItem ov iv)
variable{s:Shared}
theorem Oh{prog:Program}{A:Around}{E:Value->Shared->Prop}{env:Env}{value slice:Expr}{pos:Pos}{T id:String}{Q:Value->Shared->Prop}
  (hl:typeLookup (.type T) "__getitem__" = pure (some (.builtin id))) (hs:Xr slice)
  (h:wpAny (model prog w) A (eval value env) (fun o s₁=>wpAny (model prog w) A (eval slice env) (fun i s₂=>s₂.TypeIs o T/\wpAny (model prog w) A (getItem o i) Q E s₂) E s₁) E s) :
  wpAny (model prog w) A (eval (.Subscript value slice pos) env) Q E s:=by
 refine Subscript_ (wpAny_mono h (fun o s₁ h₁=>wpAny_mono h₁ (fun i s₂ h₂=>?_) fun _ _ x=>x) fun _ _ x=>x);obtain⟨hT,h₂⟩:=h₂;unfold subscriptTail;refine wpAny_bind ?_;rw[getitemInPython_of_ne hT.not_modules];refine wpAny_bind (wpAny_specialOf hT hl ?_);have fin:wpAny (model prog w) A (subscripted slice false o i) (fun r s₃=>wpAny (model prog w) A (letTemporaryGo value o r >>= fun _=>pure r) Q E s₃) E s₂:=by
  rw[hs o i];exact wpAny_operating (wpAny_mono h₂ (fun r s₃ h₃=>wpAny_bind (wpAny_letTemporaryGo (wpAny_pure h₃))) fun _ _ x=>x)
 first
  |exact wpAny_pure (wpAny_bind fin)
  |exact wpAny_bind (wpAny_pure (wpAny_bind fin))
  |exact wpAny_bind fin
theorem DX{pins:List (Addr×Obj)}{σ:St}{y:V}{o:Option V}(I:bB X pins σ H s)(g:En H a y o):s.TypeIs (.ref a) "dict":=by
 rcases g with⟨kvs,k,e,_,_⟩ | ⟨kvs,k,b,e,_,_,_⟩
 ·obtain⟨_,_,vs,_,dd⟩:=Dt I.hok e;exact dd.typeIs
 ·obtain⟨_,_,xs,_,dd⟩:=DW I.hok e;exact dd.typeIs
inductive QV (Q:VK)(x:V)(y:V)(H2:Hp):Prop
 |mk (a:_) (v:_) (_:x=.ref a) (_:En H2 a y (some v)) (_:Q v H2)
noncomputable def Z0 (td ty:TE):TE:=fun σ H Q=>td σ H fun x H1=>ty σ H1 fun y H2=>QV Q x y H2
inductive Ot (D:Ends)(σ:St)(v:V)(x:V)(y:V)(H3:Hp):Prop
 |mk (a:_) (H4:_) (_:x=.ref a) (_:Mw H3 a y v H4) (_:D.nx σ H4)
noncomputable def Xp (td ty tv:TE):TS:=fun D σ H=>tv σ H fun v H1=>td σ H1 fun x H2=>ty σ H2 fun y H3=>Ot D σ v x y H3
section
variable{X:Cx}{o i e value:Expr}{pos pos' tpos:Pos}{td ty tv:TE}
theorem HW(hu:X.A.units+1<cLine)(ho:PE X o td)(hi:PE X i ty)(hs:Xr i):PE X (.Subscript o i pos) (Z0 td ty):=by
 intro pins s σ H Q I h;refine Oh PySem.F.slot_dict_getitem.lookup hs (eO (ho pins s σ H _ I h) fun u s1 ⟨x,H1,I1,rx,q1⟩=>eO (hi pins s1 σ H1 _ I1 q1) fun iv s2 ⟨y,H2,I2,ry,a,v,ex,g,q2⟩=>?_);subst ex;obtain rfl:u=Value.ref a:=rx;exact⟨DX I2 g,Jp hu I2 g ry fun w' s3 I3 rw'=>⟨v,H2,I3,rw',q2⟩⟩
theorem Pj(hu:X.A.units+1<cLine)(ho:PE X o td)(hi:PE X i ty)(hv:PE X value tv)(hs:swapsWith value (some (.Subscript o i pos')) pos.line X.env=pure false) :
  PS X (.Assign [.Subscript o i pos'] value pos) (Xp td ty tv):=by
 intro pins s σ H D I h;refine wpAny_Assign_Subscript (eO (hv pins s σ H _ I h) fun r s1 ⟨v,H1,I1,rv,q1⟩=>eO (ho pins s1 σ H1 _ I1 q1) fun u s2 ⟨x,H2,I2,rx,q2⟩=>eO (hi pins s2 σ H2 _ I2 q2) fun iv s3 ⟨y,H3,I3,ry,a,H4,ex,g,q3⟩=>?_) hs;subst ex;obtain rfl:u=Value.ref a:=rx;exact Jf hu I3 g ry rv fun s4 I4=>⟨σ,H4,I4,q3⟩
end
theorem M3(h:Heap)(hb:sysModules<h.objs.size):cX P w H (h.push { cls:=.type "dict",data:=.dict #[] }) h.objs.size (.dT []) :=
 ⟨aGe _,beq_eq_false_iff_ne.mpr (Ne.symm (aGg hb)),[],.nil,_,#[],0,aF6 _ rfl,⟨rfl,rfl,rfl⟩,rfl,rfl,aIf⟩
noncomputable def Ua:TE:=fun _ H Q=>∀p,H p=none->Q (.ref p) (bH H p (.dT []))
section
variable{X:Cx}{pos:Pos}
theorem Mu:PE X (.Dict [] [] pos) Ua:=fun pins s σ H Q I h =>
 wpAny_Dict_empty ⟨.ref s.heap.objs.size,_,I.laid (a:=s.heap.objs.size) (o:=.dT []) (t':=s.toks) (fun _ _ q=>aFO _ q) (aFV _) (M3 s.heap I.big),rfl,h _ (I.hok.fresh (aFV _))⟩
end
structure M1 (X:Cx)(o:Expr)(m:Str)(apos:Pos)(e:Expr)(cpos:Pos):Prop where
 base:attributeBase o m X.env (eval o X.env)=eval o X.env
 few:((backTo cpos (starEach [e] X.env)).all (fun x=>!x.1)&&(backToKw cpos (keywordEach [] X.env)).all (fun x=>x.1.isSome)
 &&decide (([e]:List Expr).length+([]:List Keyword).length+(if([]:List Keyword).isEmpty then 0 else 1)<30))=true
 line:(apos.endLine==cpos.line)=true
 trees:backTo cpos (starEach [e] X.env)=[(false,eval e X.env)]
structure M2 (X:Cx)(o:Expr)(m:Str)(apos:Pos)(e f:Expr)(cpos:Pos):Prop where
 base:attributeBase o m X.env (eval o X.env)=eval o X.env
 few:((backTo cpos (starEach [e,f] X.env)).all (fun x=>!x.1)&&(backToKw cpos (keywordEach [] X.env)).all (fun x=>x.1.isSome)
 &&decide (([e,f]:List Expr).length+([]:List Keyword).length+(if([]:List Keyword).isEmpty then 0 else 1)<30))=true
 line:(apos.endLine==cpos.line)=true
 trees:backTo cpos (starEach [e,f] X.env)=[(false,eval e X.env),(false,eval f X.env)]
def IsD (H:Hp)(a:Addr):Prop:=(∃kvs,Rd H a (.dK kvs))∨∃kvs,Rd H a (.dT kvs)
theorem Ww{pins:List (Addr×Obj)}{σ:St}(I:bB X pins σ H s)(d:IsD H a) :
  s.TypeIs (.ref a) "dict"/\(∀b,Value.ref a=.ref b->∃ob,s.heap.get? b=some ob/\ob.dict=none)/\(a==sysModules)=false:=by
 rcases d with⟨kvs,e⟩ | ⟨kvs,e⟩
 ·obtain⟨_,hd,vs,_,dd⟩:=Dt I.hok e;refine⟨dd.typeIs,fun b q=>?_,hd⟩;cases q;obtain⟨ob,_,_,h1,h2,_⟩:=dd;exact⟨ob,h1,h2.2.1⟩
 ·obtain⟨_,hd,xs,_,dd⟩:=DW I.hok e;refine⟨dd.typeIs,fun b q=>?_,hd⟩;cases q;obtain⟨ob,_,_,h1,h2,_⟩:=dd;exact⟨ob,h1,h2.2.1⟩
section
variable{X:Cx}{pins:List (Addr×Obj)}{σ:St}{H:Hp}{s:Shared}{a:Addr}{y d:V}{u r:Value}{o:Option V}{A:Around}{E:Value->Shared->Prop}
theorem Wl{Q:Value->Shared->Prop}(hu:A.units+1<cLine)(I:bB X pins σ H s)(g:En H a y o)(ry:RelV y u)(rd:RelV d r)(h:∀w' s',bB X pins σ H s'->RelV (o.getD d) w'->Q w' s') :
  wpAny (model X.prog X.w) A (call (.builtin "dict.get") [.ref a,u,r]) Q E s:=by
 rcases g with⟨kvs,k,e,ey,l⟩ | ⟨kvs,k,b,e,ey,eb,l⟩
 ·subst ey;obtain⟨z,hd,vs,rel,dd⟩:=Dt I.hok e;refine call_meetsIn PySem.F.slot_dict_get dd.typeIs PySem.F.entry_dict_get (PySem.F.args_dict_get_3 _ _ _) (meets_dict_get_default (eZ X.prog X.w) a (HS ry) hd r) ⟨_,dd.mapOf,h _ _ (I.tok _) ?_⟩;rw[l];exact(rel.val k).getD rd
 ·subst ey;cases(show u=Value.ref b from ry);obtain⟨z,hd,xs,rel,dd⟩:=DW I.hok e;refine call_meetsIn PySem.F.slot_dict_get dd.typeIs PySem.F.entry_dict_get (PySem.F.args_dict_get_3 _ _ _) (meetsH_dict_get_default (tupleKind (eZ X.prog X.w)) a b hd r) ⟨tupleKind_room_in1 hu,k,xs,BX I.hok eb,dd,h _ _ (I.tok _) ?_⟩;rw[l];exact(rel.val k).getD rd
end
noncomputable def Uv (td ty tx:TE):TE:=fun σ H Q=>td σ H fun x H1=>∃a,x=.ref a/\IsD H1 a/\ty σ H1 fun y H2=>tx σ H2 fun z H3=>∃o,En H3 a y o/\Q (o.getD z) H3
section
variable{X:Cx}{o e f:Expr}{apos cpos:Pos}{td ty tx:TE}
theorem Mj(hu:X.A.units+1<cLine)(ho:PE X o td)(he:PE X e ty)(hf:PE X f tx)(m:M2 X o "get" apos e f cpos):PE X (.Call (.Attribute o "get" apos) [e,f] [] cpos) (Uv td ty tx):=by
 intro pins s σ H Q I h;refine wpAny_Call_method m.base m.few m.line PySem.F.plainAttrs_dict PySem.F.slot_dict_get PySem.F.type_dict_get (eO (ho pins s σ H _ I h) fun u s1 ⟨x,H1,I1,rx,a,ex,d,q1⟩=>?_);subst ex;obtain rfl:u=Value.ref a:=rx;obtain⟨t1,t2,_⟩:=Ww I1 d;refine⟨t1,t2,?_⟩;rw[m.trees];refine Calls.callWith_builtin rfl (Calls.evalArgs_plain (Calls.spliced_cons (eO (he pins s1 σ H1 _ I1 q1) fun iv s2 ⟨y,H2,I2,ry,q2⟩ =>
  Calls.spliced_cons (eO (hf pins s2 σ H2 _ I2 q2) fun fv s3 ⟨z,H3,I3,rz,ov,g,q3⟩=>Calls.spliced_nil ?_))))
 exact Wl hu I3 g ry rz fun w' s4 I4 rw'=>⟨_,H3,I4,rw',q3⟩
end
section
variable{κ:Type}[DecidableEq κ]
theorem LK{kvs:List (κ×V)}{k:κ}(h:oH kvs k=none):¬ k∈kvs.map (·.1):=by
 intro m;obtain⟨p,hp,e⟩:=aFT.mp m;have q:(kvs.any fun kv=>decide (kv.1=k))=true:=aHF.mpr ⟨p,hp,decide_eq_true e⟩;rw[wQ,h]at q;exact absurd q (by simp)
end
end L2
namespace PySem
section
variable{prog:Program}{w:World}{A:Around}{E:Value->Shared->Prop}{R:Result->Shared->Prop}{s:Shared}
theorem Bt{elt target iter:Expr}{ifs:List Expr}{scope:Scope}{pos:Pos}{it acc:Value}{env:Env}(I:Nat->Shared->Prop)
  (turn:∀n s,I n s->∀E':Value->Shared->Prop,wpAny (model prog w) A (pyNext it) (fun r s₁=>match r with
   |none=>R (.ok .next) s₁
   |some v=>wpAny (model prog w) A (letOwnedTupleGo target it v) (fun _ s₁'=>wpAny (model prog w) A (assign target env v) (fun _ s₂ =>
     wpAny (model prog w) A (forIn ifs true fun c r=>if r=true then do let ok <-isTrue c env (eval c env);pure (ForInStep.yield ok)else pure (ForInStep.yield r)) (fun ok s₃ =>
      if ok=true then wpAny (model prog w) A (eval elt env) (fun x s₄ =>
       wpAny (model prog w) A (call (.builtin "list.append") [acc,x]) (fun _ s₅=>∃m,m<n/\I m s₅) E' s₄) E' s₃
      else ∃m,m<n/\I m s₃) E' s₂) E' s₁') E' s₁) E' s)
  (n:Nat) (h:I n s) :
  codeAny (model prog w) A (.compLoop (.ListComp elt [⟨target,iter,ifs,0⟩] scope pos) 0 it acc env) R s:=by
 refine codeAny_loop rfl I (fun n s hI=>?_) n h;show wpAny _ A ((compTurn (.ListComp elt [⟨target,iter,ifs,0⟩] scope pos) 0 it acc env).onRaise (fun x=>do noteFrame x env;theTreesLotGoes x)) _ _ s;refine wpAny_noted ?_;rw[compTurn_list];refine wpAny_bind (wpAny_standAt (wpAny_bind (wpAny_mono (turn n s hI _) (fun r s₁ h₁=>?_) fun _ _ h'=>h')));cases r with
 |none=>exact wpAny_pure h₁
 |some v =>
  refine wpAny_bind (wpAny_mono h₁ (fun _ s₁' h₁'=>?_) fun _ _ h'=>h');refine wpAny_bind (wpAny_mono h₁' (fun _ s₂ h₂=>wpAny_bind (wpAny_mono h₂ (fun ok s₃ h₃=>?_) fun _ _ h'=>h')) fun _ _ h'=>h');cases ok with
  |false=>exact wpAny_pure ⟨rfl,h₃⟩
  |true =>
   exact wpAny_bind (wpAny_bind (wpAny_mono h₃ (fun x s₄ h₄=>wpAny_bind (wpAny_mono h₄ (fun _ s₅ h₅=>wpAny_pure (wpAny_pure ⟨rfl,h₅⟩)) fun _ _ h'=>h')) fun _ _ h'=>h'))
end
noncomputable def gF (env:Env):List (Str×NameKind)->List (Str×Addr)->List (Str×Addr)
 | [],cs=>cs
 | (n,k)::r,cs=>gF env r (if k==.free then(match env.cells.lookup n with |some a=>(n,a)::cs |none=>cs)else cs)
theorem uN{scope:Scope}{env:Env}(h:∀y∈scope.names,y.2=.free->∃c,env.cells.lookup y.1=some c):closureFor scope env=pure (gF env scope.names []):=by
 unfold closureFor;have key:∀(l:List (Str×NameKind)) (cs:List (Str×Addr)),(∀y∈l,y.2=.free->∃c,env.cells.lookup y.1=some c) ->
   (forIn l cs fun x r=>(match x with
    | (name,kind)=>if(kind==NameKind.free)=true then(do let a <-cellOf env name;pure (ForInStep.yield ((name,a)::r)))else pure (ForInStep.yield r):Sem (ForInStep (List (Str×Addr)))))=(pure (gF env l cs):Sem _):=by
  intro l
  induction l with
  |nil=>intro cs _;rfl
  |cons y r ih =>
   intro cs hy;obtain⟨n,k⟩:=y;rw[List.forIn_cons]
   by_cases hk:(k==NameKind.free)=true
   ·obtain⟨c,hc⟩:=hy (n,k) aFL (by simpa using hk);have e:cellOf env n=pure c:=by unfold cellOf;rw[hc]
    simp only[hk,if_true,e,pure_bind];rw[ih _ fun z hz=>hy z (aFK _ hz)];show _=pure (gF env r (if(k==NameKind.free)=true then(match env.cells.lookup n with |some a=>(n,a)::cs |none=>cs)else cs));rw[if_pos hk,hc]
   ·have hk2:(k==NameKind.free)=false:=by simpa using hk
    simp only[hk2,aGO,if_false,pure_bind];rw[ih _ fun z hz=>hy z (aFK _ hz)];show _=pure (gF env r (if(k==NameKind.free)=true then(match env.cells.lookup n with |some a=>(n,a)::cs |none=>cs)else cs));rw[if_neg hk]
 have k2:=key scope.names [] h;simp only[bind_pure]
 first
  |exact k2
  | (rw[<-k2];rfl)
theorem tY{env:Env}:∀(l:List (Str×NameKind)) (cs:List (Str×Addr)) (p:Str×Addr),p∈gF env l cs->p∈cs∨env.cells.lookup p.1=some p.2
 | [],_,_,h=>.inl h
 | (n,k)::r,cs,p,h=>by
  rcases tY r _ p h with q |q
  ·by_cases hk:(k==NameKind.free)=true
   ·rw[if_pos hk]at q;cases e:env.cells.lookup n with
    |none=>rw[e]at q;exact .inl q
    |some a =>
     rw[e]at q;rcases aGi.mp q with z |z
     ·subst z;exact .inr e
     ·exact .inl z
   ·rw[if_neg hk]at q;exact .inl q
  ·exact .inr q
theorem zZ{env:Env}:∀(l:List (Str×NameKind)) (cs:List (Str×Addr)) (p:Str×Addr),p∈cs->p∈gF env l cs
 | [],_,_,h=>h
 | (n,k)::r,cs,p,h=>by
  refine zZ r _ p ?_
  by_cases hk:(k==NameKind.free)=true
  ·rw[if_pos hk];cases e:env.cells.lookup n with
   |none=>exact h
   |some a=>exact aFK _ h
  ·rw[if_neg hk];exact h
theorem uK{env:Env}{n:Str}{c:Addr}(e:env.cells.lookup n=some c):∀(l:List (Str×NameKind)) (cs:List (Str×Addr)),(n,NameKind.free)∈l->(n,c)∈gF env l cs
 | [],_,h=>nomatch h
 | (m,k)::r,cs,h=>by
  rcases aGi.mp h with z |z
  ·cases z;refine zZ r _ _ ?_;rw[if_pos (by rfl),e];exact aFL
  ·exact uK e r _ z
theorem lW{β:Type}{n:Str}{c:β}:∀{l:List (Str×β)},(n,c)∈l->∃d,l.lookup n=some d
 | [],h=>nomatch h
 | (m,d)::r,h=>by
  cases q:n==m with
  |true=>exact⟨d,by simp only[aFX,q]⟩
  |false =>
   rcases aGi.mp h with z |z
   ·cases z;simp at q
   ·obtain⟨d',e⟩:=lW z;exact⟨d',by simp only[aFX,q,e]⟩
theorem jM{env:Env}:∀{names:List (Str×NameKind)}{x:Str}{k:NameKind},
  (names.map fun(n,k)=>if(k==NameKind.free&&env.scope.kind==.function&&env.kindOf n==some .cell)then(n,NameKind.cell)else(n,k)).lookup x=some k ->
  ∃k',names.lookup x=some k'/\(k'=k∨(k'=.free/\k=.cell))
 | [],_,_,h=>by simp at h
 | (n,j)::r,x,k,h=>by
  cases hx:x==n with
  |true =>
   refine⟨j,by simp only[aFX,hx],?_⟩
   by_cases hc:(j==NameKind.free&&env.scope.kind==.function&&env.kindOf n==some .cell)=true
   ·simp only[aFP,if_pos hc,aFX,hx]at h;cases h;refine .inr ⟨?_,rfl⟩;simp only[aGA,beq_iff_eq]at hc;exact hc.1.1
   ·simp only[aFP,if_neg hc,aFX,hx]at h;cases h;exact .inl rfl
  |false =>
   by_cases hc:(j==NameKind.free&&env.scope.kind==.function&&env.kindOf n==some .cell)=true
   ·simp only[aFP,if_pos hc,aFX,hx]at h;obtain⟨k',e1,e2⟩:=jM h;exact⟨k',by simp only[aFX,hx,e1],e2⟩
   ·simp only[aFP,if_neg hc,aFX,hx]at h;obtain⟨k',e1,e2⟩:=jM h;exact⟨k',by simp only[aFX,hx,e1],e2⟩
end PySem
namespace L2
open PySem PySem.Spec PyProof.Rows
open Builtin.Int (intBits)
section
variable{X:Cx}
def O4 (i j:Int):Prop:=intBits i+intBits j<=134217728
def Y5 (i j:Int):Prop:=j≠0/\intBits j<=9000
theorem fJ:pU X (binaryOp .Mult) (rI O4 fun i j=>.int (i*j)):=WY fun _ _ _ _ _ _ _ hc q=>mul_int q (IntMulOk.of_le (aFV _) (aFV _) hc)
theorem Bq{j:Int}(h0:j≠0)(h:intBits j<=9000):j.natAbs.log2<9000:=by
 unfold Builtin.Int.intBits at h;have e:(j==0)=false:=by simpa using h0
 rw[e]at h;simp only[aGO,if_false]at h
 lia
theorem jL:pU X (binaryOp .FloorDiv) (rI Y5 fun i j=>.int (i.fdiv j)):=WY fun _ _ _ _ _ _ _ hc q=>floordiv_int hc.1 q (.inl (PyProof.noPylong_of_log2 (Bq hc.1 hc.2)))
theorem cV{T:String}:fY X (.builtin "isinstance") (fun xs H Q=>∃x t b,xs=[x,.ty T]/\iB X.K H x t/\PySem.W.kitOne X.K t (.type T)=some b/\Q (.bl b) H):=by
 intro pins s σ H xs us Q I r h;obtain⟨x,t,b,rfl,ty,e,q⟩:=h;obtain⟨u,w',rfl,rx,rt⟩:=vals2 r;cases(show w'=Value.type T from rt);exact Ag I rx ty e fun tk=>⟨.bl b,H,I.tok _,rfl,q⟩
theorem getD_at{α:Type}{l:List α}{d:α}{i:Nat}(h:i<l.length):l.getD i d=l[i]:=by simp[h]
end
structure gQ (sc scope:Scope):Prop where
 kind:scope.kind=.function
 nocell:∀y∈scope.names,y.2≠.cell
 loc:∀y∈scope.names,y.2=.local->scope.names.lookup y.1=some .local
 free:∀y∈scope.names,y.2=.free->sc.names.lookup y.1=some .cell∨sc.names.lookup y.1=some .free
noncomputable def Io (sc scope:Scope):Bool:=(scope.kind==.function)&&scope.names.all fun y=>(y.2 != .cell)&&((y.2 != .local)||(scope.names.lookup y.1==some .local))&&((y.2 != .free)||(sc.names.lookup y.1==some .cell)||(sc.names.lookup y.1==some .free))
theorem gQ.of{sc scope:Scope}(h:Io sc scope=true):gQ sc scope:=by
 unfold Io at h;rw[aGA,aG5]at h;obtain⟨hk,h⟩:=h;refine⟨eq_of_beq hk,fun y hy=>?_,fun y hy e=>?_,fun y hy e=>?_⟩
 ·have q:=h y hy;simp only[aGA,bne_iff_ne]at q;exact q.1.1
 ·have q:=h y hy;simp only[aGA,aHI,bne_iff_ne,beq_iff_eq]at q;exact q.1.2.resolve_left fun z=>z e
 ·have q:=h y hy;simp only[aGA,aHI,bne_iff_ne,beq_iff_eq]at q;rcases q.2 with(z |z) |z
  ·exact absurd e z
  ·exact .inl z
  ·exact .inr z
structure NL (N M:List Str)(scope:Scope):Prop where
 len:M.length=N.length
 loc:∀(j:Nat) x,M[j]? = some x->scope.names.lookup x≠some .local
 free:∀(j:Nat) x,M[j]? = some x->scope.names.lookup x=some .free->N[j]? = some x
noncomputable def nlB (scope:Scope):List Str->List Str->Bool
 | [],[]=>true
 |x::M,y::N=>(scope.names.lookup x != some .local)&&((scope.names.lookup x != some .free)||x==y)&&nlB scope M N
 |_,_=>false
theorem NL.of{scope:Scope}:∀{N M:List Str},nlB scope M N=true->NL N M scope
 | [],[],_=>⟨rfl,fun j x h=>by simp at h,fun j x h=>by simp at h⟩
 | [],_::_,h=>by cases h
 |_::_,[],h=>by cases h
 |y::N,x::M,h=>by
  have h':((scope.names.lookup x != some .local)&&((scope.names.lookup x != some .free)||x==y)&&nlB scope M N)=true:=h;simp only[aGA,aHI,bne_iff_ne,beq_iff_eq]at h';obtain⟨⟨h1,h2⟩,h3⟩:=h';have q:=NL.of h3;refine⟨by simp[q.len],fun j z e=>?_,fun j z e f=>?_⟩
  ·cases j with
   |zero=>simp at e;subst e;exact h1
   |succ j=>exact q.loc j z (by simpa using e)
  ·cases j with
   |zero =>
    simp at e;subst e;rcases h2 with w |w
    ·exact absurd f w
    ·simp[w]
   |succ j=>simpa using q.free j z (by simpa using e) f
noncomputable def dX (X:Cx)(ls M:List Str)(scope:Scope)(C:Addr)(fp:List Addr)(s:Shared)(H:Hp):Cx where
 prog:=X.prog
 w:=X.w
 K:=X.K
 mg:=X.mg
 base:=X.base
 A:=X.A
 N:=ls++M
 s₀:=s
 H₀:=H
 env:=compEnvC scope (gF X.env scope.names []) C X.env
 outer:=X.stack
 stack:=X.stack
 ex:=fp
 fn:=fun _=>false
 calm:=X.calm
 pn:=[]
 xe:=fun _ _=>False
def S9 (Y:Cx)(ifs:List Expr)(c:TT):Prop :=
 ∀(pins:List (Addr×Obj)) (s:Shared) (σ:St) (H:Hp) (Q:Bool->Hp->Prop),bB Y pins σ H s->c σ H Q ->
  wpAny (model Y.prog Y.w) Y.A (forIn ifs true fun c r=>if r=true then do let ok <-isTrue c Y.env (eval c Y.env);pure (ForInStep.yield ok)else pure (ForInStep.yield r)) (TP Y pins σ Q) Y.xe s
noncomputable def WL:TT:=fun _ H Q=>Q true H
theorem cG{Y:Cx}:S9 Y [] WL:=fun _ _ _ H _ I h=>wpAny_tests_nil ⟨H,I,h⟩
variable{c:TT}
theorem O9{Y:Cx}{e:Expr}(h:PT Y e c):S9 Y [e] c:=fun pins s σ H Q I hw=>wpAny_tests_one (h pins s σ H Q I hw)
def Eu (k:Nat)(J:It)(g:TG)(c:TT)(te:TE)(σ:St)(H1:Hp)(D:Addr)(Q:VK):Prop :=
 ∃W:Nat->Nat->St->Hp->Prop,(∃m,W 0 m (aGw k none++σ) (bH H1 D (.lst [])))/\∀i m τ H,W i m τ H ->
  (J.stop i H/\Q (.ref D) H)∨(J.go i H/\∀x H',J.yld i H x H'->g x τ H' fun τ2 H2=>c τ2 H2 fun b H3=>if b=true then te τ2 H3 fun y H4=>∃ys m',m'<m/\H4 D=some (.lst ys)/\ys.length<sizeLine/\W (i+1) m' τ2 (bH H4 D (.lst (ys++[y])))else ∃m',m'<m/\W (i+1) m' τ2 H3)
noncomputable def Ij (k:Nat)(wi:TI)(g:TG)(c:TT)(te:TE):TE:=fun σ H Q=>wi σ H fun J H1=>∀D,H1 D=none->Eu k J g c te σ H1 D Q
structure PQ (X:Cx)(pins:List (Addr×Obj))(H:Hp)(C:Addr)(s:Shared):Prop where
 ns:∃m,s.heap.Ns C m
 none:H C=none
 ne:C≠X.env.locals
 young:X.s₀.heap.objs.size<=C
 cells:∀x c,X.env.cells.lookup x=some c->c≠C
 pins:∀p∈X.pn++pins,p.1≠C
variable{σ:St}{H:Hp}
theorem bB.gone{X:Cx}{pins:List (Addr×Obj)}{C:Addr}{s:Shared}{h':Heap}(I:bB X pins σ H s)(o:PQ X pins H C s)(hs:aGC C s.heap h'):bB X pins σ H { s with heap:=h' } :=
 I.turned (t':=s.toks) (it:=C) (fun b ob hb e=>(hs.2 b hb).trans e) o.none o.ne (.inr o.young) o.cells o.pins
section
variable{X:Cx}{elt tg iter:Expr}{ifs:List Expr}{scope:Scope}{pos:Pos}{ls M:List Str}{g:TG}{c:TT}{te:TE}
theorem zG{J:It}{fp:List Addr}{tn:Nat->Heap->Prop}{it:Addr}{pins:List (Addr×Obj)}{σ:St}{H2:Hp}{s2:Shared}{Qe:VK}{RR:Value->Addr->Result->Shared->Prop}{E:Value->Shared->Prop}
  (hc:X.calm=true) (S:gQ X.env.scope scope) (nl:NL X.N M scope)
  (hb:∀C fp s H,PG (dX X ls M scope C fp s H) tg g/\S9 (dX X ls M scope C fp s H) ifs c/\PE (dX X ls M scope C fp s H) elt te)
  (I2:bB X pins σ H2 s2) (T:Turn X.prog X.w X.K tg J fp it tn) (st2:tn 0 s2.heap) (f2:∀b∈fp,mO X pins H2 b)
  (hW:∀D,H2 D=none->Eu ls.length J g c te σ H2 D Qe)
  (hRR:∀D C H' s',bB X pins σ H' s'->PQ X pins H' C s'->Qe (.ref D) H'->RR (.ref D) C (.ok .next) s') :
  wpAny (model X.prog X.w) X.A (newList []) (fun acc s₃=>wpAny (model X.prog X.w) X.A (newFunctionEnv scope X.env.globals (gF X.env scope.names []) [] X.env.qual none .none (some X.env)) (fun cenv s₄ =>
   codeAny (model X.prog X.w) X.A (.compStart (.ListComp elt [⟨tg,iter,ifs,0⟩] scope pos) 0 (.ref it) acc { cenv with scope:=relabel scope X.env }) (RR acc cenv.locals) s₄) E s₃) E s2:=by
 refine wpAny_newObj_type (wpAny_newFunctionEnv S.nocell (by intro y hy;simp at hy) (fun h₁ hns₁ hsb₁=>?_) S.kind);dsimp only at hns₁ hsb₁ ⊢;have I3:bB X pins σ (bH H2 s2.heap.objs.size (.lst [])) { s2 with heap:=s2.heap.push { cls:=.type "list",dict:=none,data:=.seq ([]:List Value).toArray },toks:=s2.toks } :=
  I2.laid (fun _ _ q=>aFO _ q) (aFV _) ⟨aGe _,[],0,.nil,aF6 _ rfl⟩
 have hfreshD:H2 s2.heap.objs.size=none:=I2.hok.fresh (aFV _);generalize hHH:s2.heap.push { cls:=.type "list",dict:=none,data:=.seq ([]:List Value).toArray }=HH at hns₁ hsb₁ I3 ⊢;have up:∀b o,s2.heap.get? b=some o->HH.get? b=some o:=fun b o e=>by rw[<-hHH];exact aFO _ e
 have old:∀b o,HH.get? b=some o->h₁.get? b=some o:=fun b o e=>hsb₁.extBut b o (aGg (aF3 e)) (aFO _ e);generalize hH3:bH H2 s2.heap.objs.size (.lst [])=H3 at I3;have f3:∀b∈fp,mO X pins H3 b:=fun b hb=>by
  obtain⟨f0,fr⟩:=f2 b hb;refine⟨?_,fr⟩;obtain⟨o,e,_⟩:=T.obj 0 _ st2 b hb;rw[<-hH3,aK (aGg (aF3 e))];exact f0
 have fplt:∀b∈fp,b<HH.objs.size:=fun b hb=>by
  obtain⟨o,e,_⟩:=T.obj 0 _ st2 b hb;exact aF3 (up b o e)
 have sub:∀x a,(gF X.env scope.names []).lookup x=some a->X.env.cells.lookup x=some a:=fun x a e=>by
  rcases tY _ _ _ (PySem.mem_of_lookup e)with z |z
  ·exact absurd z (by simp)
  ·exact z
 have kin:∀x,scope.names.lookup x=some .free->X.env.kindOf x=some .cell∨X.env.kindOf x=some .free:=fun x e=>S.free (x,.free) (PySem.mem_of_lookup e) rfl;have has:∀x a,scope.names.lookup x=some .free->X.env.cells.lookup x=some a->(gF X.env scope.names []).lookup x=some a:=fun x a e ec=>by
  obtain⟨d,hd⟩:=lW (uK ec scope.names [] (PySem.mem_of_lookup e));have:=sub x d hd;rw[ec]at this;cases this;exact hd
 have rel:∀x k,(relabel scope X.env).names.lookup x=some k->(k=.cell∨k=.free)->scope.names.lookup x=some .free:=fun x k e hk=>by
  obtain⟨k',e1,e2⟩:=jM (show(scope.names.map fun(n,k)=>if(k==NameKind.free&&X.env.scope.kind==.function&&X.env.kindOf n==some .cell)then(n,NameKind.cell)else(n,k)).lookup x=some k from e);rcases e2 with e2 | ⟨e2,_⟩
  ·subst e2;rcases hk with hk |hk
   ·subst hk;exact absurd rfl (S.nocell _ (PySem.mem_of_lookup e1))
   ·subst hk;exact e1
  ·subst e2;exact e1
 have okY:(dX X ls M scope HH.objs.size fp { s2 with heap:=HH,toks:=s2.toks } H3).Ok:=by
  refine⟨I3.ok.mod,S.kind,I3.ok.glob,I3.ok.blt,aFV _,fun x y a h1 h2=>I3.ok.inj x y a (sub x a h1) (sub y a h2),fun x hx=>?_,(fun x a h=>nomatch h),I3.ok.hd,I3.ok.frames,.inl rfl,fun b hb'=>⟨aGg (fplt b hb'),fun x a e=>(f3 b hb').2.2.2.2.1 x a (sub x a e)⟩,
   I3.bs,aFN I3.ok.bsz I3.sz,fun b o e hb'=>?_,fun b hb' hs=>?_,I3.stack,I3.stkFree⟩
  ·have hf:scope.names.lookup x=some .free:=by
    rcases hx with hx |hx
    ·exact rel x _ hx (.inl rfl)
    ·exact rel x _ hx (.inr rfl)
   obtain⟨a,ea⟩:=I3.ok.has x (kin x hf);exact⟨a,has x a hf ea⟩
  ·rcases(f3 b hb').2.2.2.1 with z |z
   ·exact I3.ok.noex b o e z
   ·exact absurd (aGf (aF3 e) (aFN I3.ok.bsz z)) (aG2 _)
  ·rcases aGi.mp (I3.stkSub b hs)with z |z
   ·exact(f3 b hb').2.1 z
   ·exact(f3 b hb').2.2.1 z
 have IY:bB (dX X ls M scope HH.objs.size fp { s2 with heap:=HH,toks:=s2.toks } H3) [] (aGw ls.length none++σ) H3 { s2 with heap:=h₁,toks:=s2.toks+([]:List (Str×Value)).length }:=by
  refine⟨okY,rfl,I2.bare,Un.kept old,⟨_,hns₁,fun i x v e1 e2 e3=>?_⟩,fun x a e=>?_,I3.hok.fresh (aFV _),fun x a e=>I3.freeC x a (sub x a e),fun p hp=>absurd (show p∈([]:List (Addr×Obj))from hp) (by simp),I3.hok.kept old,?_⟩
  ·have hi:ls.length<=i:=by
    by_cases hi:ls.length<=i
    ·exact hi
    ·rw[aGd (by simp;lia),aHW]at e2
     split at e2 <;> cases e2
   rw[aGa (by simpa using hi),aGX]at e2;have e0:M[i-ls.length]? = some x:=by
    have z:(ls++M)[i]? = some x:=e1;rw[aGa hi]at z;exact z
   have hnl:=nl.loc _ x e0;have hf:scope.names.lookup x=some .free:=by
    rcases e3 with e3 |e3 |e3
    ·obtain⟨k',q1,q2⟩:=jM (show(scope.names.map fun(n,k)=>if(k==NameKind.free&&X.env.scope.kind==.function&&X.env.kindOf n==some .cell)then(n,NameKind.cell)else(n,k)).lookup x=some .local from e3);rcases q2 with q2 | ⟨_,q2⟩
     ·subst q2;exact absurd q1 hnl
     ·cases q2
    ·exact rel x _ e3 (.inl rfl)
    ·exact rel x _ e3 (.inr rfl)
   have e1':=nl.free _ x e0 hf;have hk:=kin x hf;obtain⟨m,hn,hl⟩:=I3.loc;obtain⟨u,ru,lk⟩:=hl (i-ls.length) x v e1' e2 (hk.elim (fun z=>.inr (.inl z)) fun z=>.inr (.inr z));refine⟨u,ru,?_⟩;rcases lk with⟨z,_⟩ | ⟨_,a,ea,hcell⟩
   ·rcases hk with hk |hk <;> (rw[hk]at z;cases z)
   ·obtain⟨o,eo,hd⟩:=hcell;refine .inr ⟨?_,a,has x a hf ea,⟨o,old a o eo,hd⟩⟩;rcases e3 with e3 |e3 |e3
    ·obtain⟨k',q1,q2⟩:=jM (show(scope.names.map fun(n,k)=>if(k==NameKind.free&&X.env.scope.kind==.function&&X.env.kindOf n==some .cell)then(n,NameKind.cell)else(n,k)).lookup x=some .local from e3);rcases q2 with q2 | ⟨_,q2⟩
     ·subst q2;exact absurd q1 hnl
     ·cases q2
    ·exact .inl e3
    ·exact .inr e3
  ·obtain⟨v,o,eo,hd⟩:=I3.cell x a (sub x a e);exact⟨v,o,old a o eo,hd⟩
  ·show(aGw ls.length none++σ).length=(ls++M).length;rw[aFR,aFR,aGX,I3.len,nl.len]
 have st1:tn 0 h₁:=T.keep 0 _ _ st2 fun b _ o e=>old b o (up b o e);obtain⟨hPG,hPT,hPE⟩:=hb HH.objs.size fp { s2 with heap:=HH,toks:=s2.toks } H3;obtain⟨W,⟨m0,w0⟩,turn⟩:=hW s2.heap.objs.size hfreshD;rw[hH3]at w0;have back:∀{τ:St}{H':Hp}{s':Shared},bB (dX X ls M scope HH.objs.size fp { s2 with heap:=HH,toks:=s2.toks } H3) [] τ H' s'->bB X pins σ H' s'/\PQ X pins H' HH.objs.size s':=fun{τ H' s'} J=>by
  refine⟨I3.call' (ch:=fp) J.os J.base J.hok J.bare fun b hb'=>?_,?_⟩
  ·obtain⟨_,g1,g2,g3,g4,g5⟩:=f3 b hb';exact⟨g3,g1,g4,g5⟩
  ·obtain⟨m,hn,_⟩:=J.loc;refine⟨⟨m,hn⟩,J.free,Ne.symm (aGg I3.lt),I3.sz,fun x a e=>?_,fun p hp=>aGg (aF3 (I3.pin p hp).1)⟩;obtain⟨v,q⟩:=I3.cell x a e;exact aGg q.lt
 have stat:∀{H':Hp},(∀b∈fp,H' b=none)->∀b∈fp,mO (dX X ls M scope HH.objs.size fp { s2 with heap:=HH,toks:=s2.toks } H3) [] H' b:=fun{H'} hn b hb'=>by
  obtain⟨_,g1,g2,g3,g4,g5⟩:=f3 b hb';refine⟨hn b hb',aGg (fplt b hb'),fun hs=>?_,.inl hb',fun x a e=>g4 x a (sub x a e),fun p hp=>absurd (show p∈([]:List (Addr×Obj))from hp) (by simp)⟩;rcases aGi.mp (I3.stkSub b hs)with z |z
  ·exact g1 z
  ·exact g2 z
 have loop:∀s₃:Shared,s₃ = { s2 with heap:=h₁,toks:=s2.toks+([]:List (Str×Value)).length } ->
   codeAny (model X.prog X.w) X.A (.compLoop (.ListComp elt [⟨tg,iter,ifs,0⟩] scope pos) 0 (.ref it) (.ref s2.heap.objs.size) (compEnvC scope (gF X.env scope.names []) HH.objs.size X.env)) (RR (.ref s2.heap.objs.size) HH.objs.size) s₃:=by
  rintro s₃ rfl;refine Bt (fun n s'=>∃i τ H',bB (dX X ls M scope HH.objs.size fp { s2 with heap:=HH,toks:=s2.toks } H3) [] τ H' s'/\tn i s'.heap/\(∀b∈fp,H' b=none)/\W i n τ H') ?_ m0 ⟨0,_,H3,IY,st1,fun b hb'=>(f3 b hb').1,w0⟩;rintro n s3 ⟨i,τ,H',I4,st4,fr4,w4⟩ E';rcases turn i n τ H' w4 with⟨stop,qn⟩ | ⟨go,step⟩
  ·refine eO (T.done (dX X ls M scope HH.objs.size fp { s2 with heap:=HH,toks:=s2.toks } H3) rfl rfl rfl hc i [] s3 τ H' E' I4 (stat fr4) st4 stop) fun r s4 ⟨hr,I5⟩=>?_;subst hr;obtain⟨b1,b2⟩:=back I5;exact hRR _ _ H' s4 b1 b2 qn
  ·refine eO (T.item (dX X ls M scope HH.objs.size fp { s2 with heap:=HH,toks:=s2.toks } H3) rfl rfl rfl hc i [] s3 τ H' E' I4 (stat fr4) st4 go) fun r s4 ⟨u,hr,h4⟩=>?_;subst hr;refine eO h4 fun _ s5 ⟨x,H5,I5,r5,y5,st5,fr5⟩=>?_;have I5':=I5.pinned (stat fr5) (T.obj _ _ st5);refine wpAny_mono (hPG _ s5 τ H5 x u _ I5' r5 (step x H5 y5)) (fun _ s6 ⟨σ6,H6,I6,q6⟩=>?_) fun _ _ z=>z.elim;refine wpAny_mono (hPT _ s6 σ6 H6 _ I6 q6) (fun ok s7 ⟨H7,I7,q7⟩=>?_) fun _ _ z=>z.elim;have again:∀{σ8:St}{H8:Hp}{s8:Shared}{m':Nat},bB (dX X ls M scope HH.objs.size fp { s2 with heap:=HH,toks:=s2.toks } H3) ([]++wZ fp s5.heap) σ8 H8 s8->m'<n->W (i+1) m' σ8 H8 ->
     ∃m,m<n/\∃i τ H',bB (dX X ls M scope HH.objs.size fp { s2 with heap:=HH,toks:=s2.toks } H3) [] τ H' s8/\tn i s8.heap/\(∀b∈fp,H' b=none)/\W i m τ H':=fun{σ8 H8 s8 m'} I8 hm w8=>by
    refine⟨m',hm,i+1,σ8,H8,I8.unpinned,T.keep _ _ _ st5 fun b hb' o e=>(I8.pin (b,o) (aF4 _ (aF4 _ (mZ hb' e)))).1,fun b hb'=>?_,w8⟩;obtain⟨o,e,d⟩:=T.obj _ _ st5 b hb';exact(I8.pin (b,o) (aF4 _ (aF4 _ (mZ hb' e)))).2.1
   cases ok with
   |false =>
    rw[if_neg aGb]at q7 ⊢;obtain⟨m',hm,w7⟩:=q7;exact again I7 hm w7
   |true =>
    rw[if_pos rfl]at q7 ⊢;refine wpAny_mono (hPE _ s7 σ6 H7 _ I7 q7) (fun yv s8 ⟨y,H8,I8,r8,ys,m',hm,hD,hz,w8⟩=>?_) fun _ _ z=>z.elim;refine wpAny_mono (iI (X:=(dX X ls M scope HH.objs.size fp { s2 with heap:=HH,toks:=s2.toks } H3)) _ s8 σ6 H8 (.ref s2.heap.objs.size) [y] (.ref s2.heap.objs.size) [yv] (fun _ H9=>W (i+1) m' σ6 H9) I8 rfl (.cons r8 .nil) ⟨_,ys,y,rfl,rfl,hD,hz,w8⟩) (fun _ s9 ⟨_,H9,I9,_,w9⟩=>?_) fun _ _ z=>z.elim;exact again I9 hm w9
 exact codeAny_compStart_list (loop _ rfl) (T.self _ 0 _ _ _ st1 (loop _ rfl))
theorem Gk(S:gQ X.env.scope scope)(ok:X.Ok):closureFor scope X.env=pure (gF X.env scope.names []) :=
 uN fun y hy e=>ok.has y.1 (S.free y hy e)
theorem vZ{wi:TI}(hc:X.calm=true)(S:gQ X.env.scope scope)(nl:NL X.N M scope)(hi:PI X tg iter wi)
  (hb:∀C fp s H,PG (dX X ls M scope C fp s H) tg g/\S9 (dX X ls M scope C fp s H) ifs c/\PE (dX X ls M scope C fp s H) elt te)
  (hs:∀x,foldedSetIterable iter X.env x=pure x:=by intro _;rfl):PE X (.ListComp elt [⟨tg,iter,ifs,0⟩] scope pos) (Ij ls.length wi g c te):=by
 intro pins s σ H Q I h;rw[eval_ListComp];refine wpAny_comprehension_free (use:=none) rfl hs (Gk S I.ok) S.kind S.loc (eO (hi pins s σ H _ I h) fun xv s1 h1=>eO h1 fun itv s2 h2=>?_);obtain⟨it,fp,tn,J,H2,e,I2,T,st2,f2,hW⟩:=h2;subst e;refine zG (RR:=fun acc C=>compPost (model X.prog X.w) X.A X.xe none (EP X pins σ Q) acc C) (Qe:=Q) hc S nl hb I2 T st2 f2 hW fun D C H' s' I' o q=>?_;exact⟨o.ns.choose,o.ns.choose_spec,fun h' hs'=>⟨.ref D,H',I'.gone o hs',rfl,q⟩⟩
theorem Py{wi:TI}{i:Nat}{y:Str}{py spos:Pos}(hc:X.calm=true)(S:gQ X.env.scope scope)(nl:NL X.N M scope)(hN:X.N.Nodup)(hiy:X.N[i]? = some y)(hy:Loc X.env.scope y)
  (hi:PI X tg iter wi) (hb:∀C fp s H,PG (dX X ls M scope C fp s H) tg g/\S9 (dX X ls M scope C fp s H) ifs c/\PE (dX X ls M scope C fp s H) elt te)
  (hsw:swapsWith (.ListComp elt [⟨tg,iter,ifs,0⟩] scope pos) (some (.Name y py)) spos.line X.env=pure true:=by rfl)
  (hs:∀x,foldedSetIterable iter X.env x=pure x:=by intro _;rfl) (hf:X.fn y=true∨X.env.scope.names.lookup y=some .local:=by first |exact .inl rfl |exact .inr rfl) :
  PS X (.Assign [.Name y py] (.ListComp elt [⟨tg,iter,ifs,0⟩] scope pos) spos) (La (Ij ls.length wi g c te) (kY i)):=by
 intro pins s σ H D I h;rw[exec_Assign_Name_used _ _ _ _ hsw];refine wpAny_bind (wpAny_standAt (wpAny_bind ?_));show wpAny _ X.A (do let _ <-comprehension (.ListComp elt [⟨tg,iter,ifs,0⟩] scope pos) scope X.env _ (newList []) false (eval iter X.env) (some (assign (.Name y py) X.env))) _ _ s;refine wpAny_bind (wpAny_mono (wpAny_comprehension_free (use:=some (assign (.Name y py) X.env)) (Q:=fun _ s'=>SP X pins D .next s') rfl hs (Gk S I.ok) S.kind S.loc (eO (hi pins s σ H _ I h) fun xv s1 h1=>eO h1 fun itv s2 h2=>?_)) (fun _ s' hq=>wpAny_pure (wpAny_pure hq)) fun _ _ e=>e);obtain⟨it,fp,tn,J,H2,e,I2,T,st2,f2,hW⟩:=h2;subst e;refine zG (RR:=fun acc C=>compPost (model X.prog X.w) X.A X.xe (some (assign (.Name y py) X.env)) (fun _ s'=>SP X pins D .next s') acc C) hc S nl hb I2 T st2 f2 hW fun Dl C H' s' I' o q=>?_;show wpAny _ X.A (assign (.Name y py) X.env (.ref Dl)) _ _ _;refine wpAny_assign_Name (yW I' hN hiy hy (v:=.ref Dl) rfl (fun s'' I'' ⟨a,hsa,ha⟩=>?_) hf);have hCa:C≠a:=by
  rcases ha with z |z
  ·rw[z];exact o.ne
  ·exact Ne.symm (o.cells y a z)
 obtain⟨m,hm⟩:=o.ns;have o2:PQ X pins H' C s'':=⟨⟨m,hm.sameBut hsa hCa⟩,o.none,o.ne,o.young,o.cells,o.pins⟩
 exact⟨m,hm.sameBut hsa hCa,fun h' hs'=>⟨_,H',I''.gone o2 hs',q⟩⟩
end
def CW (n:Nat)(Pv:Nat->St->Hp->Prop)(i m:Nat)(τ:St)(H:Hp):Prop:=m=n-i/\i<=n/\Pv i τ H
variable{n m:Nat}{τ:St}{D:Addr}
theorem bG{i:Nat}{Pv:Nat->St->Hp->Prop}{H4:Hp}{ys:List V}{y:V}(hm:m=n-i)(hi:i<n)(e1:H4 D=some (.lst ys))(e2:ys.length<sizeLine)(p:Pv (i+1) τ (bH H4 D (.lst (ys++[y])))) :
  ∃ys m',m'<m/\H4 D=some (.lst ys)/\ys.length<sizeLine/\CW n Pv (i+1) m' τ (bH H4 D (.lst (ys++[y]))):=⟨ys,n-(i+1),by lia,e1,e2,rfl,hi,p⟩
theorem Jd{i:Nat}{Pv:Nat->St->Hp->Prop}{H3:Hp}(hm:m=n-i)(hi:i<n)(p:Pv (i+1) τ H3):∃m',m'<m/\CW n Pv (i+1) m' τ H3:=⟨n-(i+1),by lia,rfl,hi,p⟩
theorem lE{k:Nat}{lo:Int}{g:TG}{te:TE}{H1:Hp}{Q:VK}(Pv:Nat->St->Hp->Prop)(h0:Pv 0 (aGw k none++σ) (bH H1 D (.lst [])))
  (hs:∀i m τ H,m=n-i->i<n->Pv i τ H->g (.int (lo+i)) τ H fun τ2 H2=>c τ2 H2 fun b H3=>if b=true then te τ2 H3 fun y H4=>∃ys m',m'<m/\H4 D=some (.lst ys)/\ys.length<sizeLine/\CW n Pv (i+1) m' τ2 (bH H4 D (.lst (ys++[y])))else ∃m',m'<m/\CW n Pv (i+1) m' τ2 H3)
  (hd:∀τ H,Pv n τ H->Q (.ref D) H):Eu k (Tu lo n) g c te σ H1 D Q:=by
 refine⟨CW n Pv,⟨n,rfl,aGe _,h0⟩,?_⟩;rintro i m τ H ⟨hm,hi,p⟩
 by_cases hlt:i<n
 ·refine .inr ⟨hlt,fun x H' y=>?_⟩;obtain⟨e,y⟩:=y;subst e y;exact hs i m τ _ hm hlt p
 ·have e:i=n:=by lia
  subst e;exact .inl ⟨aFV _,hd τ H p⟩
variable{K:PySem.W.Frag}
theorem dF{a:Addr}{xs:List V}{k:Nat}{g:TG}{te:TE}{H1:Hp}{Q:VK}(Pv:Nat->St->Hp->Prop)(h0:Pv 0 (aGw k none++σ) (bH H1 D (.lst [])))
  (hl:∀i τ H,i<=xs.length->Pv i τ H->bV K H a xs)
  (hs:∀i m x τ H,m=xs.length-i->i<xs.length->xs[i]? = some x->Pv i τ H->g x τ H fun τ2 H2=>c τ2 H2 fun b H3=>if b=true then te τ2 H3 fun y H4=>∃ys m',m'<m/\H4 D=some (.lst ys)/\ys.length<sizeLine/\CW xs.length Pv (i+1) m' τ2 (bH H4 D (.lst (ys++[y])))else ∃m',m'<m/\CW xs.length Pv (i+1) m' τ2 H3)
  (hd:∀τ H,Pv xs.length τ H->Q (.ref D) H):Eu k (X4 K a) g c te σ H1 D Q:=by
 refine⟨CW xs.length Pv,⟨xs.length,rfl,aGe _,h0⟩,?_⟩;rintro i m τ H ⟨hm,hi,p⟩;have q:=hl i τ H hi p
 by_cases hlt:i<xs.length
 ·refine .inr ⟨⟨xs,xs[i],q,by simp[hlt]⟩,fun x H' y=>?_⟩;obtain⟨e,y⟩:=y;subst e;exact hs i m x τ _ hm hlt (y xs q) p
 ·have e:i=xs.length:=by lia
  subst e;exact .inl ⟨⟨xs,q,aFV _⟩,hd τ H p⟩
theorem eG{A B:Hp->Prop}(h:A H):WL τ H (fun b H3=>if b=true then A H3 else B H3):=by
 show(if true=true then A H else B H);rw[if_pos rfl];exact h
theorem nQ{c:Bool}{A B:Prop}(h:c=true)(a:A):if c=true then A else B:=by
 rw[if_pos h];exact a
theorem iW{c:Bool}{A B:Prop}(h:c=false)(b:B):if c=true then A else B:=by
 rw[if_neg (by rw[h];exact aGb)];exact b
theorem Bv:bootBuiltins "int" = some (.type "int"):=by decide +kernel
theorem Br:bootBuiltins "bool" = some (.type "bool"):=by decide +kernel
theorem j8:bootBuiltins "str" = some (.type "str"):=by decide +kernel
theorem mV:bootBuiltins "list" = some (.type "list"):=by decide +kernel
theorem dZ:bootBuiltins "tuple" = some (.type "tuple"):=by decide +kernel
theorem gP:bootBuiltins "len" = some (.builtin "len"):=by decide +kernel
theorem Ks:bootBuiltins "abs" = some (.builtin "abs"):=by decide +kernel
theorem aZ:bootBuiltins "isinstance" = some (.builtin "isinstance"):=by decide +kernel
theorem KD:bootBuiltins "sum" = some (.builtin "sum"):=by decide +kernel
theorem GD:bootBuiltins "max" = some (.builtin "max"):=by decide +kernel
theorem K4:bootBuiltins "min" = some (.builtin "min"):=by decide +kernel
theorem tV:bootBuiltins "sorted" = some (.builtin "sorted"):=by decide +kernel
theorem MK:bootBuiltins "all" = some (.builtin "all"):=by decide +kernel
noncomputable def Gq:List Str->Bool
 | []=>true
 |x::r=>(r.all fun y=>x != y)&&Gq r
theorem Im:∀{l:List Str},Gq l=true->l.Nodup
 | [],_=>.nil
 |x::r,h=>by
  have h':((r.all fun y=>x != y)&&Gq r)=true:=h;rw[aGA,aG5]at h';refine aHa.mpr ⟨fun z=>?_,Im h'.2⟩;have:=h'.1 x z;simp at this
structure Rc (P:Program)(w:World)(K:PySem.W.Frag)(mg:Str->Option Value)(base:Heap)(n:Nat)(x:Str)(ps:List Str)(sp:Sp)(g:Addr)(gd:FuncData):Prop where
 ok:aN P w K mg base bT n g gd ps sp
 bi:Binds K gd ps []
 kp:PySem.W.keepIn K (.ref g)=true
 at_:mg x=some (.ref g)
variable{gd:FuncData}
theorem Rc.up{P:Program}{w:World}{mg:Str->Option Value}{base:Heap}{x:Str}{ps:List Str}{sp:Sp}{g:Addr}(c:Rc P w K mg base n x ps sp g gd)(h:n<=m):Rc P w K mg base m x ps sp g gd:=⟨c.ok.mono h,c.bi,c.kp,c.at_⟩
theorem LQ{X:Cx}{x:Str}{ps:List Str}{sp:Sp}{g:Addr}{p pos:Pos}{e:Expr}{es:List Expr}{t:TA}(c:Rc X.prog X.w X.K X.mg X.base n x ps sp g gd)(hr:Room n X.A)(ha:PA X (e::es) t)(hg:Gl X x:=by rfl)
  (hd:(x==("__debug__" : Str))=false:=by decide) (he:starEach (e::es) X.env=(false,eval e X.env)::starEach es X.env:=by rfl) (hpl:(backTo pos (starEach es X.env)).any (·.1)=false:=by rfl) :
  PE X (.Call (.Name x p) (e::es) [] pos) (Ad sp [] E0 t):=Pz c.ok hr hg c.at_ c.kp c.bi .nil bC ha hd he hpl
theorem aD{p:Addr}(h:H p=none)(o:HO):aP H (bH H p o):=fun b u q=>by rw[aK (aR q h)];exact q
theorem aP.upd_new{H':Hp}{p:Addr}(s:aP H H')(h:H p=none)(o:HO):aP H (bH H' p o):=fun b u q=>by rw[aK (aR q h)];exact s b u q
theorem OD{L:List Int}{i:Int}(h0:0<=i)(h1:i<(L.length:Int)):Gh (L.map V.int) i=some (.int (L.getD i.toNat 0)):=by
 have hi:i.toNat<L.length:=by lia
 have e:i=((i.toNat:Nat):Int):=by lia
 have q:Gh (L.map V.int) ((i.toNat:Nat):Int)=some (.int (L.getD i.toNat 0)):=m7 (by rw[aF9,aFM hi,getD_at hi] <;> rfl);rw[<-e]at q;exact q
end L2
namespace L2
open PySem PySem.Spec PyProof.Rows
def dk (od:Option Addr)(a:Addr)(h:Heap):Prop:=∀d,od=some d->∃o,h.get? a=some o/\o.dict=some d
variable{a:Addr}{h:Heap}
theorem dk.none:dk none a h:=fun _ z=>nomatch z
noncomputable def RV (P:Program)(w:World):Av:=fun outer H s E e s' =>
 ∃(a:Addr) (cls a0:Value) (H':Hp) (B:Heap) (od:Option Addr),e=.ref a/\s'.os=s.os/\AllBare s'.gens/\Un (vQ outer) [] H H' s.heap s'.heap/\pK P w H' s'.heap/\Heap.FlyingW B outer a cls a0 s'.heap ∧
  (∀b o,s.heap.get? b=some o->b∉vQ outer->∃o',B.get? b=some o')/\(∀b u,H' b=some u->∃o',B.get? b=some o')/\dk od a s'.heap/\E cls od H'
section
variable{P:Program}{w:World}{H H':Hp}{B h0 h1 h2:Heap}{fs:List Addr}
theorem Gz(b1:B.StaysIn h1)(b2:B.StaysIn h2){b:Addr}{o:Obj}(q:h1.get? b=some o)(x:∃o',B.get? b=some o'):h2.get? b=some o:=by
 obtain⟨o',e⟩:=x;have:=b1 b o' e;rw[q]at this;cases this;exact b2 b _ e
theorem Rt(u:Un fs [] H H' h0 h1)(b1:B.StaysIn h1)(b2:B.StaysIn h2)(up:h1.UpToSlots h2)(nf:∀b∈fs,∃o,h1.get? b=some o/\∀vs,o.data≠.fields vs)
  (hB:∀b o,h0.get? b=some o->b∉fs->∃o',B.get? b=some o'):Un fs [] H H' h0 h2:=by
 refine⟨fun b o q n hb hx=>Gz b1 b2 (u.keep b o q n hb hx) (hB b o q hb),fun b o q n hb hx=>?_,u.free,fun b o q hx=>?_,u.tups,u.frzs,u.tbls⟩
 ·obtain⟨sl,e⟩:=u.slot b o q n hb hx;obtain⟨o1,e1,d1⟩:=nf b hb;rw[e]at e1;cases e1;obtain⟨sl2,e2⟩:=up b _ e d1;exact⟨sl2,e2⟩
 ·by_cases hb:b∈fs
  ·obtain⟨o1,e1,d1⟩:=nf b hb;obtain⟨sl2,e2⟩:=up b _ e1 d1;exact⟨_,e2⟩
  ·obtain⟨o1,e1⟩:=hB b o q hb;exact⟨_,b2 b _ e1⟩
theorem QC(x:pK P w H h1)(b1:B.StaysIn h1)(b2:B.StaysIn h2)(hH:∀b u,H b=some u->∃o',B.get? b=some o'):pK P w H h2:=fun a o e =>
 (x a o e).stay (fun b u hb q=>Gz b1 b2 q (by
  rcases hb with rfl |hb
  ·exact hH _ _ e
  ·exact hH _ _ hb)) (fun _ q=>q) fun _ _ q=>q
end
variable{w:World}{H:Hp}
theorem obj_some{P:Program}{b:Addr}{u:HO}(x:cX P w H h b u)(z:h.get? b=none):False:=by
 cases u with
 |lst xs=>obtain⟨_,_,_,_,e⟩:=x;rw[z]at e;cases e
 |tup xs=>obtain⟨_,_,_,_,e,_⟩:=x;rw[z]at e;cases e
 |dK kvs=>obtain⟨_,_,_,_,o,_,_,e,_⟩:=x;rw[z]at e;cases e
 |dT kvs=>obtain⟨_,_,_,_,o,_,_,e,_⟩:=x;rw[z]at e;cases e
 |set S n=>obtain⟨o,_,_,_,e,_⟩:=x;rw[z]at e;cases e
 |ins C dx fs=>obtain⟨_,_,_,e,_⟩:=x;rw[z]at e;cases e
 |own y=>obtain⟨_,e⟩:=x;rw[z]at e;cases e
 |xd fs=>obtain⟨_,⟨_,_,_,e,_⟩,_⟩:=x;rw[z]at e;cases e
 |rng lo hi=>obtain⟨_,_,_,e⟩:=x;rw[z]at e;cases e
 |frz ob v=>obtain⟨e,_⟩:=x;rw[z]at e;cases e
 |tbl ps=>have e:=(show h.get? b=some _ from x);rw[z]at e;cases e
 |met f y=>have e:=(show h.get? b=some _ from x);rw[z]at e;cases e
 |ext φ=>obtain⟨_,⟨_,e⟩,_⟩:=x;rw[z]at e;cases e
theorem Oe{env:Env}{outer:List Env}{L b:Addr}(hf:env.frame=some L):b∈vQ (env::outer)↔b=L∨b∈vQ outer:=by
 unfold vQ;rw[aHm,hf];exact aGi
structure JG (K:PySem.W.Frag)(C:Addr):Prop where
 isx:PySem.W.excIn K C ([.type "ValueError",.type "Exception",.type "BaseException",.type "object"]) "ValueError.__new__" = true
section
variable{X:Cx}
def Throws (X:Cx)(E:XK):Prop:=∀(pins:List (Addr×Obj)) (σ:St) (H:Hp) (s:Shared) (h':Heap) (e:Addr) (cls:Value) (args:List Value),bB X pins σ H s->Heap.MadeExcOf s.heap h' e cls args->E cls none H ->
 X.xe (.ref e) { s with heap:=h' }
end
section
variable{P:Program}{w:World}{K:PySem.W.Frag}{mg:Str->Option Value}{base:Heap}{N:List Str}{qual:Str}{scope:Scope}{f:Addr}{cd:Value}{A:Around}{outer:List Env}{s:Shared}{H:Hp}{E:XK}
theorem uJ:Throws (yD (RV P w) P w K mg base N qual scope f cd A outer s H E) E:=by
 intro pins σ H1 s1 h' e cls args I mk hE;have hfr:=I.ok.frames;have hst:=I.stack;have nsz:∀b o,s.heap.get? b=some o->b≠s.heap.objs.size:=fun b o q z=>absurd (aF3 q) (by rw[z];exact aG2 _);have hide:∀b o,s1.heap.get? b=some o->b∉vQ (envOfC qual scope s.heap.objs.size f cd::outer)->(PySem.W.hideAll s1.heap (vQ (envOfC qual scope s.heap.objs.size f cd::outer))).get? b=some o:=fun b o q hb=>PySem.W.hideAll_get _ q hb;have inS:∀b o,s.heap.get? b=some o->b∉vQ outer->∃o',(PySem.W.hideAll s1.heap (vQ (envOfC qual scope s.heap.objs.size f cd::outer))).get? b=some o':=fun b o q hb=>by
  obtain⟨o',e'⟩:=I.base.there b o q (by show b∉([]:List Addr);simp);exact⟨o',hide b o' e' fun z=>((Oe rfl).mp z).elim (nsz b o q) hb⟩
 have inH:∀b u,H1 b=some u->∃o',(PySem.W.hideAll s1.heap (vQ (envOfC qual scope s.heap.objs.size f cd::outer))).get? b=some o':=fun b u q=>by
  have lt:=I.hok.lt q;obtain⟨o',e'⟩:∃o',s1.heap.get? b=some o':=by
   have:=I.hok b u q;cases z:s1.heap.get? b with
   |some o'=>exact⟨o',rfl⟩
   |none=>exact(obj_some this z).elim
  refine⟨o',hide b o' e' fun z=>?_⟩;have:=I.stkFree b z;rw[q]at this;cases this
 show wpAny (model P w) (A.deeper (envOfC qual scope s.heap.objs.size f cd)) (leaving (envOfC qual scope s.heap.objs.size f cd) (.ref e)) _ _ _;refine wpAny_leaves_madeW (h:=s1.heap) (base:=PySem.W.hideAll s1.heap (vQ (envOfC qual scope s.heap.objs.size f cd::outer))) hfr rfl (fun b o q=>PySem.W.of_hideAll _ q)
  (PySem.W.funFrames_hide hst fun env he b hb=>aHL.mpr ⟨env,he,hb⟩) mk fun h'' t fl _ _ up=>?_
 have b1:Heap.StaysIn (PySem.W.hideAll s1.heap (vQ (envOfC qual scope s.heap.objs.size f cd::outer))) h':=fun b o q=>mk.keeps _ _ (PySem.W.of_hideAll _ q);refine⟨e,cls,.ref t,H1,_,none,rfl,I.os,I.bare,?_,QC (I.hok.kept mk.keeps) b1 fl.1 inH,fl,inS,inH,dk.none,hE⟩;have u1:Un (vQ outer) [] H H1 s.heap h':=Un.trans (show Un (vQ outer) [] H H1 s.heap s1.heap from I.base) (Un.kept mk.keeps);refine Rt u1 b1 fl.1 up (fun b hb=>?_) inS;obtain⟨_,o,ho,hd⟩:=I.funs.mem hb;exact⟨o,mk.keeps _ _ ho,hd⟩
end
noncomputable abbrev Z4:List Value:=[.type "ValueError",.type "Exception",.type "BaseException",.type "object"]
variable{K:PySem.W.Frag}
theorem JG.obj{C:Addr}(x:JG K C)(k:K.In h):∃(bm:List Value) (N:Addr) (nm q:Str) (bs:List Value) (hdct:Bool) (sn:List Str) (sub:List Value) (ab:Bool) (col:Option Bool) (dd:Option Addr) (k0 k1 k2 k3 k5:Option Value) (mN:Str->Option Value),
  h.get? C=some (excClassObj nm q C N bs bm hdct sn sub ab col dd k0 k1 k2 k3 k5 "ValueError.__new__")/\h.Ns N mN/\mN "__init__" = none/\OwnTail h Z4 bm:=by
 have z:=x.isx;unfold PySem.W.excIn at z
 split at z
 case h_2=>cases z
 case h_1 dd cd sl ho =>
  split at z
  case h_2=>cases z
  case h_1 C' bm k0 k1 k2 k3 n k5 hm hs =>
   simp only[aGA,beq_iff_eq,aIs]at z;obtain⟨⟨⟨⟨⟨e1,e2⟩,hdel⟩,ht⟩,hok⟩,hni⟩:=z;subst e1;subst e2;obtain⟨nm,bs,mro,ns,qn,hd,sn,sub,ab,col,del⟩:=cd;dsimp only at hm hdel hok hni;subst hm;subst hdel;obtain⟨l⟩:=sl;obtain rfl:l=[k0,k1,k2,k3,some (.builtin "ValueError.__new__"),k5]:=hs;have g:=k _ _ ho;have nn:=PySem.W.isNs_of_in k hok;exact⟨bm,ns,nm,qn,bs,hd,sn,sub,ab,col,dd,k0,k1,k2,k3,k5,_,g,.of_isNs nn,PySem.W.nsMap_none_of_in k hok hni,PySem.W.tail_of_in k ht⟩
variable{X:Cx}{x:Str}{pos:Pos}
theorem xM{C:Addr}{E:XK}{np cpos:Pos}(T:Throws X E)(hc:X.calm=true)(hg:Gl X x)(hm:X.mg x=some (.ref C))(xc:JG X.K C)(hd:(x==("__debug__" : Str))=false:=by decide) :
  PS X (.Raise (some (.Call (.Name x np) [] [] cpos)) none pos) (fun _ _ H=>E (.ref C) none H):=by
 intro pins s σ H D I h;obtain⟨bm,N,nm,q,bs,hdct,sn,sub,ab,col,dd,k0,k1,k2,k3,k5,mN,hC,hN,hni,TL⟩:=xc.obj I.kIn;refine wpAny_Raise_call_subT (C:=C) (nm:=nm) (q:=q) (N:=N) (bs:=bs) (bm:=bm) (hdct:=hdct) (sn:=sn) (sub:=sub) (ab:=ab) (col:=col) (dd:=dd) (k0:=k0) (k1:=k1) (k2:=k2) (k3:=k3) (k5:=k5) PySem.F.excBase_ValueError (mN:=mN)
  (TL.hasType PySem.F.excBase_ValueError.hasBase) (I.ok.hd hc) rfl hni (pL I hg hm ⟨rfl,?_⟩ hd)
 exact evalArgs_empty ⟨rfl,aGe _,hC,hN,TL,fun h' e mk=>T pins σ H s h' e _ _ I mk h⟩
section
variable{P:Program}{w:World}{K:PySem.W.Frag}{mg:Str->Option Value}{base:Heap}
theorem dJ.okX{x qual:Str}{st:Stmt}{f:Addr}{fd:FuncData}{N ps:List Str}{k:Nat}{sp:Sp}(F:dJ K x qual st f fd)(S:aM N ps (aH st))(len:∀vs H Q E,sp vs H Q E->vs.length=ps.length)
  (hbody:∀(cdv:Value) (A:Around) (outer:List Env) (s:Shared) (H:Hp) (vs:List V) (Q:VK) (E:XK),Room k (A.deeper (envOfC qual (aH st) s.heap.objs.size f cdv))->sp vs H Q E ->
   ∃t,yC (yD (RV P w) P w K mg base N qual (aH st) f cdv A outer s H E) (iC st) t/\t { nx:=fun _ H'=>Q .non H',rt:=Q } (start N vs) H):aN P w K mg base (RV P w) (k+1) f fd ps sp:=by
 obtain⟨oc,od,kV,doc,pm,an,cdv,ct,osl,rfl,lk,hcd⟩:=F.ex;exact N7 lk hcd S len fun A outer s H vs Q E hr hsp=>hbody cdv A outer s H vs Q E hr hsp
end
theorem Qj:mU (RV X.prog X.w) X E0:=fun _ _ _ _ _ _ _ ⟨_,_,_,_,_,_,_,_,_,_,_,_,_,_,_,h⟩=>False.elim h
variable{st:Stmt}
theorem PS.nox{t:TS}(h:PS X.nox st t):PS X st t:=fun pins s σ H D I hw =>
 wpAny_mono (h pins s σ H D (I.wish _) hw) (fun _ _ q=>q.unwish) fun _ _ z=>False.elim z
structure aAG (K:PySem.W.Frag)(dT:Addr)(x qual:Str)(st:Stmt)(f:Addr)(fd:FuncData):Prop where
 ex:∃(oc:Value) (od:Option Addr) (kV doc pm:Value) (an:Option Addr) (cdv ct:Value) (osl:Array (Option Value)),
  fd=PySem.W.fnOf x qual (jX st) (iC st) (aH st) (.ref dT) kV doc pm an cdv ct/\K.lookup f=some ⟨oc,od,.func fd,osl⟩/\PySem.W.codeIn K cdv qual=true
 kp:PySem.W.keepIn K (.ref f)=true
theorem range_all(bs:List Bool):(aHd bs.length).all (fun i=>bs.getD i false)=bs.all id:=by
 rw[aHq];simp only[aG5,aHx];constructor
 ·intro h b hb;obtain⟨i,hi,e⟩:=aIg.mp hb;have q:=h i hi;rw[getD_at hi,e]at q;exact q
 ·intro h i hi;rw[getD_at hi];exact h _ (aGB hi)
section
variable{X:Cx}{K:PySem.W.Frag}
theorem XM{us:List Value}{bs:List Bool}(h:cL (bs.map V.bl) us){i:Nat}{v:Value}(e:us[i]? = some v):v=.bool (bs.getD i false):=by
 have hl:=h.length;rw[aFJ]at hl;have hi:i<us.length:=(aFU.mp e).1;have e2:(bs.map V.bl)[i]? = some (.bl (bs.getD i false)):=by
  rw[aF9,aFM (by lia),getD_at (by lia)]
  rfl
 obtain⟨u,hu,r⟩:=h.get e2;rw[e]at hu;cases hu;exact r
theorem Ac(hK:X.K=K)(hc:X.calm=true):fY X (.builtin "all") (fun xs H Q=>∃(a:Addr) (bs:List Bool),xs=[.ref a]/\bV K H a (bs.map V.bl)/\Q (.bl (bs.all id)) H):=by
 subst hK;intro pins s σ H xs us Q I r h;obtain⟨a,bs,rfl,hS,q⟩:=h;obtain⟨u,rfl,ru⟩:=vals1 r;cases(show u=Value.ref a from ru);obtain⟨its,rv,pl,hz⟩:=I.list hS;have lt:a<s.heap.objs.size:=by obtain⟨o,e,_⟩:=pl.isList;exact aF3 e
 have hl:=rv.length;rw[aFJ]at hl;refine call_all_walk (wpAny_pyIter_list pl.isList ⟨s.heap.objs.size,_,_,_,_,_,fun i=>bs.getD i false,rfl,Walks.list (A:=X.A.in1) (I.ok.hd hc) s.heap.objs.size a (aGg lt) its.toArray,⟨⟨_,aF6 _ rfl,rfl,rfl⟩,pl.isList.push _⟩,?_,fun h' tk hk=>?_⟩)
 ·intro i v s' Q' E' hv hQ;have e:=XM rv (i:=i) (v:=v) (by simpa using hv);rw[e];exact wpAny_truthy_bool hQ
 ·refine⟨.bl (bs.all id),H,I.kept (t':=tk) fun b o e=>hk b o (fun z=>?_) (aFO _ e),?_,q⟩
  ·rw[aF2.mp z]at e;exact absurd (aF3 e) (aG2 _)
  ·show Value.bool _=Value.bool _;rw[aFS,<-hl,range_all]
end
structure Qf (K:PySem.W.Frag)(C:Addr)(m:Str)(f:Addr):Prop where
 ga:PySem.W.specialIn K (.ref C) "__getattribute__" = some (some (.builtin "type.__getattribute__"))
 rd:PySem.W.readsIn K C (.type "type")=true
 at_:PySem.W.findCls K (.ref C) (.type "type") m=some (.val (.ref f))
 hd:PySem.W.handedIn (.ref f)=true
 kp:PySem.W.keepIn K (.ref f)=true
section
variable{X:Cx}{CX:Av}{C f:Addr}{fd:FuncData}{k:Nat}{x m:Str}{ps:List Str}{ds:List Value}{dvs:List V}{sp:Sp}{E:XK}{e:Expr}{es:List Expr}{t:TA}{p apos pos:Pos}
theorem Hn{pl:Sem Bool}(hg:Gl X x)(hm:X.mg x=some (.ref C))(c:Qf X.K C m f)(F:aN X.prog X.w X.K X.mg X.base CX k f fd ps sp)(hr:Room k X.A)(hb:Binds X.K fd ps ds)(hd:cL dvs ds)(hx:mU CX X E)(ha:PA X (e::es) t)
  (hdb:(x==("__debug__" : Str))=false:=by decide)
  (hst:starEach (e::es) X.env=(false,eval e X.env)::starEach es X.env:=by rfl) (hpl:(backTo pos (starEach es X.env)).any (·.1)=false:=by rfl)
  (ht:eval (.Call (.Attribute (.Name x p) m apos) (e::es) [] pos) X.env=(do
   let ov <-eval (.Name x p) X.env
   standAt apos.atName
   let(f,first) <-holding [ov] (getMethod ov m pl)
   callWith pos f first (backTo pos (starEach (e::es) X.env)) (backToKw pos (keywordEach [] X.env))):=by rfl) :
  PE X (.Call (.Attribute (.Name x p) m apos) (e::es) [] pos) (Ad sp dvs E t):=by
 intro pins s σ H Q I h;refine PySem.W.methodCall_KW (pl:=pl) (pL I hg hm ?_ hdb) ht;refine PySem.W.method_cls I.kIn c.ga (PySem.W.cls_value I.kIn c.rd c.at_ c.hd ?_);have I2:=I.tok (s.toks+1);refine PySem.W.callWith_K (first:=[]) (h₀:=X.base) I.ok.mod.kin c.kp (eO (ha pos pins _ σ H _ I2 h) fun us s1 ⟨vs,H1,I1,r,q⟩=>⟨I1.kIn,?_⟩) hst hpl;exact CV F hr hb hd hx I1 r q
theorem dR{e:Expr}{t u:TE}(h1:PE X e t)(h2:PE X e u):PE X e (fun σ H Q=>t σ H Q∨u σ H Q):=fun pins s σ H Q I h=>h.elim (h1 pins s σ H Q I) (h2 pins s σ H Q I)
theorem gC{K:PySem.W.Frag}(hK:X.K=K):fY X (.builtin "isinstance") (fun xs H Q=>∃(x:V) (C:Addr) (t:Value) (b:Bool),xs=[x,.ref C]/\iB K H x t/\PySem.W.kitOne K t (.ref C)=some b/\Q (.bl b) H):=by
 subst hK;intro pins s σ H xs us Q I r h;obtain⟨x,C,t,b,rfl,ty,e,q⟩:=h;obtain⟨u,w',rfl,rx,rt⟩:=vals2 r;cases(show w'=Value.ref C from rt);exact Ag I rx ty e fun tk=>⟨.bl b,H,I.tok _,rfl,q⟩
end
def Cl (P:Program)(w:World)(K:PySem.W.Frag)(mg:Str->Option Value)(base:Heap)(n:Nat)(x:Str)(sp:Sp):Prop:=∃ps g gd,Rc P w K mg base n x ps sp g gd
variable{base:Heap}{n:Nat}{sp:Sp}
theorem Rc.l{P:Program}{mg:Str->Option Value}{m:Nat}{ps:List Str}{g:Addr}{gd:FuncData}(c:Rc P w K mg base n x ps sp g gd)(h:n<=m:=by omega):Cl P w K mg base m x sp:=⟨_,_,_,c.up h⟩
variable{es:List Expr}
theorem aF{p:Pos}{e:Expr}{t:TA}(c:Cl X.prog X.w X.K X.mg X.base n x sp)(hr:Room n X.A)(ha:PA X (e::es) t)(hg:Gl X x:=by rfl)
  (hd:(x==("__debug__" : Str))=false:=by decide) (he:starEach (e::es) X.env=(false,eval e X.env)::starEach es X.env:=by rfl) (hpl:(backTo pos (starEach es X.env)).any (·.1)=false:=by rfl) :
  PE X (.Call (.Name x p) (e::es) [] pos) (Ad sp [] E0 t):=let⟨_,_,_,c⟩:=c;LQ c hr ha hg hd he hpl
section
variable{X:Cx}{pos:Pos}
theorem jG(i:Nat){x:Str}(hi:X.N[i]? = some x:=by rfl)(hx:Loc X.env.scope x:=by first |exact Or.inl rfl |exact Or.inr rfl)(hN:X.N.Nodup:=by first |assumption |exact Im (by rfl))(hf:X.fn x=true∨X.env.scope.names.lookup x=some .local:=by first |exact .inl rfl |exact .inr rfl |assumption):PG X (.Name x pos) (kY i):=Q9 hN hi hx hf
theorem d7(i:Nat){x:Str}{e:Expr}{te:TE}{pos':Pos}(he:PE X e te)(hi:X.N[i]? = some x:=by rfl)(hx:Loc X.env.scope x:=by first |exact Or.inl rfl |exact Or.inr rfl)(hN:X.N.Nodup:=by first |assumption |exact Im (by rfl))(hs:swapsWith e (some (.Name x pos')) pos.line X.env=pure false:=by rfl)(hf:X.fn x=true∨X.env.scope.names.lookup x=some .local:=by first |exact .inl rfl |exact .inr rfl |assumption) :
  PS X (.Assign [.Name x pos'] e pos) (La te (kY i)):=Li hN hi hx he hs hf
end
section
variable{X:Cx}{scope:Scope}{tg iter elt:Expr}{ifs:List Expr}{pos:Pos}{g:TG}{c:TT}{te:TE}
theorem gY(ls:List Str){wi:TI}(hi:PI X tg iter wi)
  (hb:∀C fp s H,PG (dX X ls X.N scope C fp s H) tg g/\S9 (dX X ls X.N scope C fp s H) ifs c/\PE (dX X ls X.N scope C fp s H) elt te)
  (hc:X.calm=true:=by rfl) (S:gQ X.env.scope scope:=by exact gQ.of (by rfl)) (nl:NL X.N X.N scope:=by exact NL.of (by rfl)) (hs:∀x,foldedSetIterable iter X.env x=pure x:=by intro _;rfl):PE X (.ListComp elt [⟨tg,iter,ifs,0⟩] scope pos) (Ij ls.length wi g c te):=vZ hc S nl hi hb hs
theorem KJ(i:Nat)(ls:List Str){wi:TI}{y:Str}{py spos:Pos}(hi:PI X tg iter wi)(hb:∀C fp s H,PG (dX X ls X.N scope C fp s H) tg g/\S9 (dX X ls X.N scope C fp s H) ifs c/\PE (dX X ls X.N scope C fp s H) elt te)
  (hiy:X.N[i]? = some y:=by rfl) (hy:Loc X.env.scope y:=by first |exact Or.inl rfl |exact Or.inr rfl) (hN:X.N.Nodup:=by first |assumption |exact Im (by rfl)) (hc:X.calm=true:=by rfl) (S:gQ X.env.scope scope:=by exact gQ.of (by rfl)) (nl:NL X.N X.N scope:=by exact NL.of (by rfl))
  (hsw:swapsWith (.ListComp elt [⟨tg,iter,ifs,0⟩] scope pos) (some (.Name y py)) spos.line X.env=pure true:=by rfl)
  (hs:∀x,foldedSetIterable iter X.env x=pure x:=by intro _;rfl) (hf:X.fn y=true∨X.env.scope.names.lookup y=some .local:=by first |exact .inl rfl |exact .inr rfl) :
  PS X (.Assign [.Name y py] (.ListComp elt [⟨tg,iter,ifs,0⟩] scope pos) spos) (La (Ij ls.length wi g c te) (kY i)):=Py hc S nl hN hiy hy hi hb hsw hs hf
end
variable{N:List Str}
theorem bA{P:List Str}{sc:Scope}(h:(decide (sc.kind=.function)&&!sc.isCoroutine&&!sc.isGenerator&&decide N.Nodup&&decide (N.take P.length=P)&&(P.all fun x=>decide (sc.names.lookup x=some .local)||decide (sc.names.lookup x=some .cell))&&sc.names.all fun y=>decide (y.2≠.free))=true):aM N P sc:=by
 simp only[aGA,decide_eq_true_eq,aIs,aG5,aHI]at h;exact⟨h.1.1.1.1.1.1,h.1.1.1.1.1.2,h.1.1.1.1.2,h.1.1.1.2,h.1.1.2,h.1.2,h.2⟩
variable{qual:Str}{fd:FuncData}{k:Nat}
theorem dJ.go{P:Program}{mg:Str->Option Value}{f:Addr}{ps:List Str}(F:dJ K x qual st f fd)(S:aM N ps (aH st))
  (hbody:∀(cdv:Value) (A:Around) (outer:List Env) (s:Shared) (H:Hp) (vs:List V) (Q:VK) (E:XK),Room k (A.deeper (envOfC qual (aH st) s.heap.objs.size f cdv))->sp vs H Q E ->
   ∃t,yC (yD bT P w K mg base N qual (aH st) f cdv A outer s H E).nox (iC st) t/\t { nx:=fun _ H'=>Q .non H',rt:=Q } (start N vs) H)
  (len:∀vs H Q E,sp vs H Q E->vs.length=ps.length:=by intro vs H Q E h;first | (cases h;subst_vars;rfl) |repeat (first | (obtain⟨rfl,_⟩:=h;rfl) | (obtain⟨_,h⟩:=h))):aN P w K mg base bT (k+1) f fd ps sp:=F.ok S len hbody
section
variable{X:Cx}{pins:List (Addr×Obj)}{σ:St}{H:Hp}{s:Shared}
theorem bB.track{a:Addr}{o:HO}(I:bB X pins σ H s)(f:mO X pins H a)(hy:X.s₀.heap.objs.size<=a)(new:cX X.prog X.w (bH H a o) s.heap a o):bB X pins σ (bH H a o) s:=by
 obtain⟨f0,f1,f2,f3,f4,f5⟩:=f;have ne:∀b u,H b=some u->b≠a:=fun b u e=>aR e f0;refine⟨I.ok,I.os,I.bare,⟨I.base.keep,I.base.slot,fun b ob e n hx=>?_,I.base.there,fun b xs e=>?_,fun b ob u e=>?_,fun b ps e=>?_⟩,I.loc,I.cell,?_,fun x c e=>?_,fun p hp=>?_,fun b u e=>?_,I.len⟩
 ·rw[aK (aGg (aGf (aF3 e) hy))];exact I.base.free b ob e n hx
 ·have q:=I.base.tups b xs e;rw[aK (ne _ _ q)];exact q
 ·have q:=I.base.frzs b ob u e;rw[aK (ne _ _ q)];exact q
 ·obtain⟨m,q⟩:=I.base.tbls b ps e;exact⟨m,by rw[aK (ne _ _ q)];exact q⟩
 ·rw[aK (Ne.symm f1)];exact I.free
 ·rw[aK (f4 x c e)];exact I.freeC x c e
 ·obtain⟨g1,g2,g3,g4,g5⟩:=I.pin p hp;exact⟨g1,by rw[aK (f5 p hp)];exact g2,g3,g4,g5⟩
 ·by_cases hb:b=a
  ·subst hb;rw[aB]at e;cases e;exact new
  ·rw[aK hb]at e;exact(I.hok b u e).stay (fun _ _ _ q=>q) (fun c q=>by rw[aK (ne _ _ q)];exact q) fun c xs q=>by rw[aK (ne _ _ q)];exact q
theorem mO.pin{b:Addr}{o:Obj}(f:mO X pins H b)(e:s.heap.get? b=some o)(d:∀v,o.data≠.cell v):s.heap.get? b=some o/\H b=none/\b≠X.env.locals/\b∉X.fs/\∀v,o.data≠.cell v:=⟨e,f.1,f.2.1,f.2.2.1,d⟩
def QM (X:Cx)(pins:List (Addr×Obj))(σ:St)(H:Hp)(A:Around)(f v:Value)(k:Int):Prop :=
 ∀(more:List (Addr×Obj)) (s:Shared),bB X (pins++more) σ H s->wpAny (model X.prog X.w) A (call f [v]) (fun r s'=>(∃t,r=Value.int k t)/\bB X (pins++more) σ H s') (fun _ _=>False) s
variable{A:Around}{E:Value->Shared->Prop}{P:PySem.Fin->Shared->Prop}{a kS:Addr}{b:Bool}{vs:List Value}{kz:List Int}{keys:Array Value}{e e1:Nat}{f:Value}
theorem FJ{st:SortSt}(I:bB X pins σ H s)(fk:mO X pins H kS)(fa:mO X pins H a)(hka:kS≠a)(ek:s.heap.get? kS=some (seqObj "list" keys e))(ea:s.heap.get? a=some (seqObj "list" #[] e1))
  (hk:IntsAre keys.toList kz) (hlen:kz.length=vs.length) (h64:vs.length<64) (hp:(arrOf st).Perm (keys.zip vs.toArray)) (hs:SortedTo (arrOf st) (arrOf st).size) (hfl:failedOf st=none)
  (done:∀s' out c,bB X pins σ H s'->s'.heap.get? a=some (seqObj "list" out c)->KskOut b kz vs out.toList->P (.done (.ret .none)) s') :
  wpAny (model X.prog X.w) A (ksk_tail a b e1 (.ref kS) st) P E s:=by
 have hsz:keys.size=vs.length:=by
  have h1:=hk.length;rw[aGq]at h1
  lia
 have hsz2:(arrOf st).size=vs.length:=by
  have z:(arrOf st).size=(keys.zip vs.toArray).size:=hp.size_eq;have z2:(keys.zip vs.toArray).size=vs.length:=by rw[Array.size_zip,hsz];simp
  exact z.trans z2
 have ko:=ksk_out (b:=b) hk hp hs;have hout:(if b=true then((arrOf st).map (·.2)).reverse else(arrOf st).map (·.2)).size=vs.length:=by
  cases b <;> simp[hsz2]
 generalize hO:(if b=true then((arrOf st).map (·.2)).reverse else(arrOf st).map (·.2))=out at ko hout;have I1:bB X pins σ H { s with heap:=s.heap.update kS (Obj.mapSeq fun _=>(#[]:Array Value)) } :=
  I.turned (t':=s.toks) (fun b o hb q=>((aGC.update s.heap kS _).2 b hb).trans q) fk.1 fk.2.1 fk.2.2.2.1 fk.2.2.2.2.1 fk.2.2.2.2.2
 have ea1:(s.heap.update kS (Obj.mapSeq fun _=>(#[]:Array Value))).get? a=some (seqObj "list" #[] e1):=((aGC.update s.heap kS _).2 a (Ne.symm hka)).trans ea;have I2:bB X pins σ H { s with heap:=(s.heap.update kS (Obj.mapSeq fun _=>(#[]:Array Value))).update a (Obj.mapSeq fun _=>out) } :=
  I1.turned (t':=s.toks) (fun b o hb q=>((aGC.update _ a _).2 b hb).trans q) fa.1 fa.2.1 fa.2.2.2.1 fa.2.2.2.2.1 fa.2.2.2.2.2
 unfold ksk_tail;dsimp only;refine wpAny_bind (listUpdate_at ek rfl ?_ (by rw[hsz];exact aFN (aGt h64) (by decide)) (aGe _));refine wpAny_bind (wpAny_letGo ?_);refine wpAny_bind (seqEpoch_at ea1 rfl ?_);rw[hO];refine wpAny_bind (listUpdate_at ea1 rfl ?_ (aGe _) (by rw[hout];exact aFN (aGt h64) (by decide)));rw[hfl];simp only[bne_self_eq_false,aGO,if_false];exact wpAny_pure (done _ out _ I2 (get?_update_seq ea1 fun _=>out) ko)
theorem Q4(I:bB X pins σ H s)(fk:mO X pins H kS)(fa:mO X pins H a)(hka:kS≠a)(ek:s.heap.get? kS=some (seqObj "list" keys e))(ea:s.heap.get? a=some (seqObj "list" #[] e1))
  (hk:IntsAre keys.toList kz) (hlen:kz.length=vs.length) (h64:vs.length<64)
  (done:∀s' out c,bB X pins σ H s'->s'.heap.get? a=some (seqObj "list" out c)->KskOut false kz vs out.toList->P (.done (.ret .none)) s') :
  wpAny (model X.prog X.w) A (ksk_end a false vs.toArray e1 (.ref kS) keys) P E s:=by
 have hsz:keys.size=vs.length:=by
  have h1:=hk.length;rw[aGq]at h1
  lia
 have hzs:(keys.zip vs.toArray).size=vs.length:=by rw[Array.size_zip,hsz,aFS];lia
 unfold ksk_end;dsimp only;simp only[aGO,if_false]
 by_cases h2:vs.toArray.size<2
 ·rw[if_pos h2,if_pos h2];refine wpAny_bind (wpAny_pure ?_);rw[StateT.run_pure];refine wpAny_bind (wpAny_pure ?_);refine FJ (st:=SortSt.mk' general' (keys.zip vs.toArray) #[] 7 none) I fk fa hka ek ea hk hlen h64 (aIJ.refl _) (fun i j hij hj=>?_) rfl done;have hj':j<(keys.zip vs.toArray).size:=hj;rw[hzs]at hj';rw[aFS]at h2;have z:i=j:=by lia
  rw[z];exact aGE _
 ·rw[if_neg h2,if_neg h2];rw[aFS]at h2;rw[ksk_kind hk (by lia)];refine wpAny_bind (wpAny_pure ?_);refine wpAny_bind (wpAny_mono (wpS_sortRuns (a₀:=keys.zip vs.toArray) (st:=SortSt.mk' oneType' (keys.zip vs.toArray) #[] 7 none)
   (Q:=fun _ t=>(arrOf t).Perm (keys.zip vs.toArray)/\failedOf t=none/\SortedTo (arrOf t) (keys.zip vs.toArray).size)
   (ksk_intKeys hk) ⟨aIJ.refl _,rfl,rfl,rfl⟩ (by lia) (by lia) fun t z1 z2 z3=>⟨z1,z2,z3⟩) ?_ fun _ _ z=>z)
  rintro⟨⟨⟩,t⟩ s2 ⟨rfl,p1,p2,p3⟩;exact FJ I fk fa hka ek ea hk hlen h64 p1 (by rw[p1.size_eq];exact p3) p2 done
theorem Lq(I:bB X pins σ H s)(fk:mO X pins H kS)(fa:mO X pins H a)(hka:kS≠a)(ek:s.heap.get? kS=some (seqObj "list" #[] 0))(ea:s.heap.get? a=some (seqObj "list" #[] e1))
  (hlen:kz.length=vs.length) (h64:vs.length<64) (turn:∀(i:Nat) v k,vs[i]? = some v->kz[i]? = some k->QM X pins σ H A f v k)
  (done:∀s' out c,bB X pins σ H s'->s'.heap.get? a=some (seqObj "list" out c)->KskOut false kz vs out.toList->P (.done (.ret .none)) s') :
  wpAny (model X.prog X.w) A (ksk_rest a f false vs.toArray e1 (.ref kS)) P E s:=by
 unfold ksk_rest;refine wpAny_bind (wpAny_rule ?_);rw[List.forIn_toArray];refine wpAny_bind (ksk_fold (fun i s'=>bB X pins σ H s'/\s'.heap.get? a=some (seqObj "list" #[] e1)/\∃kA e,s'.heap.get? kS=some (seqObj "list" kA e)/\IntsAre kA.toList (kz.take i)) vs 0 s ⟨I,ea,#[],0,ek,by simpa using IntsAre.nil⟩ ?step ?fin)
 case step =>
  rintro j x s1 hx ⟨I1,ea1,kA,e,ek1,hk⟩;rw[aHk]at hk ⊢;have hj:j<vs.length:=(aFU.mp hx).1;have hkj:kz[j]? = some kz[j]:=aFM (by lia);have hz:kA.size<=vs.length:=by
   have h1:=hk.length;rw[aGq,aGh]at h1
   lia
  have I2:bB X (pins++[(kS,seqObj "list" kA e),(a,seqObj "list" #[] e1)]) σ H s1:=I1.pins_of fun p hp=>by
   rcases aGc.mp hp with z |z
   ·exact I1.pin p (aF4 _ z)
   ·rcases aGi.mp z with z |z
    ·subst z;exact fk.pin ek1 fun v q=>nomatch q
    ·rw[aF2.mp z];exact fa.pin ea1 fun v q=>nomatch q
  refine wpAny_bind (wpAny_attempt (wpAny_mono (turn j x _ hx hkj _ s1 I2) (fun v s2 h2=>?_) fun _ _ z=>z.elim));obtain⟨⟨t,rfl⟩,I3⟩:=h2;have ek2:=(I3.pin (kS,seqObj "list" kA e) (aF4 _ (aF4 _ (.head _)))).1;have ea2:=(I3.pin (a,seqObj "list" #[] e1) (aF4 _ (aF4 _ (.tail _ (.head _))))).1;have I4:=I3.unpinned;refine wpAny_bind (listUpdate_at ek2 rfl ?_ (aFN hz (aFN (aGt h64) (by decide))) (aFN (aH3 (Array.size_push ..)) (aIB (aFN hz (aFN (aGt h64) (by decide))))));refine wpAny_pure ⟨rfl,I4.turned (t':=s2.toks) (fun b o hb q=>((aGC.update s2.heap kS _).2 b hb).trans q) fk.1 fk.2.1 fk.2.2.2.1 fk.2.2.2.2.1 fk.2.2.2.2.2,((aGC.update s2.heap kS _).2 a (Ne.symm hka)).trans ea2,kA.push (.int kz[j] t),_,get?_update_seq ek2 (·.push (.int kz[j] t)),?_⟩;have q1:kz.take (j+1)=kz.take j++[kz[j]]:=by rw[aHT,hkj];rfl
  rw[q1,Array.toList_push];exact ksk_snoc hk
 case fin =>
  rintro s1 ⟨I1,ea1,kA,e,ek1,hk⟩;have hk':IntsAre kA.toList kz:=by
   rw[aHk,<-hlen,aF5]at hk;exact hk
  exact wpAny_bind (listItems_at ek1 rfl (Q4 I1 fk fa hka ek1 ea1 hk' hlen h64 done))
end
section
variable{X:Cx}{pins:List (Addr×Obj)}{σ:St}{H:Hp}{s:Shared}{A:Around}{E:Value->Shared->Prop}{P:PySem.Fin->Shared->Prop}{a:Addr}{vs:List Value}{kz:List Int}{n:Nat}{f:Value}
theorem Nq(I:bB X pins σ H s)(fa:mO X pins H a)(ea:s.heap.get? a=some (seqObj "list" vs.toArray n))(hlen:kz.length=vs.length)(h64:vs.length<64)
  (turn:∀(i:Nat) v k,vs[i]? = some v->kz[i]? = some k->QM X pins σ H A f v k)
  (done:∀s' out c,bB X pins σ H s'->s'.heap.get? a=some (seqObj "list" out c)->KskOut false kz vs out.toList->P (.done (.ret .none)) s') :
  wpAny (model X.prog X.w) A (ksk_tree a f false) P E s:=by
 have I1:bB X pins σ H { s with heap:=s.heap.update a (Obj.mapSeq fun _=>(#[]:Array Value)) } :=
  I.turned (t':=s.toks) (fun b o hb q=>((aGC.update s.heap a _).2 b hb).trans q) fa.1 fa.2.1 fa.2.2.2.1 fa.2.2.2.2.1 fa.2.2.2.2.2
 have ea1:=get?_update_seq ea fun _=>(#[]:Array Value)
 generalize hh:s.heap.update a (Obj.mapSeq fun _=>(#[]:Array Value))=h1 at I1 ea1;have I2:bB X pins σ H { s with heap:=(h1.push (seqObj "tuple" vs.toArray 0)).push (seqObj "list" #[] 0) } :=
  I1.kept (t':=s.toks) fun b o q=>aFO _ (aFO _ q)
 have hlt:a<h1.objs.size:=aF3 ea1;have hsz:(h1.push (seqObj "tuple" vs.toArray 0)).objs.size=h1.objs.size+1:=size_push' _ _;have h64':vs.length<=sizeLine:=aFN (aGt h64) (by decide);unfold ksk_tree;refine wpAny_bind (listItems_at ea rfl ?_);refine wpAny_bind (listUpdate_at ea rfl ?_ (by rw[aFS];exact h64') (aGe _));rw[hh];refine wpAny_bind (seqEpoch_at (s:={ s with heap:=h1 }) ea1 rfl ?_);refine wpAny_bind (wpAny_newTuple ?_ (by simpa using h64'));refine wpAny_bind (wpAny_newList ?_ (aGe _));refine wpAny_holding ?_;refine Lq (s:={ s with heap:=(h1.push (seqObj "tuple" vs.toArray 0)).push (seqObj "list" #[] 0) }) (kS:=(h1.push (seqObj "tuple" vs.toArray 0)).objs.size) I2 ?_ fa ?_ (aF6 _ rfl) (aFO _ (aFO _ ea1)) hlen h64 turn done
 ·exact I1.fpOk (by rw[hsz];exact aHf _) (I1.hok.fresh (by rw[hsz];exact aHf _))
 ·rw[hsz];exact aH2 (aIt hlt)
noncomputable def Qo:Value->Addr
 | .ref a=>a
 |_=>0
theorem Aa:∀{qs:List Addr}{vs:List Value},cL (qs.map V.ref) vs->vs=qs.map Value.ref
 | [],_,h=>by cases h;rfl
 |q::qs,_,h=>by
  cases h with
  |cons r t=>rw[Aa t,show _=Value.ref q from r];rfl
theorem uD:∀(qs:List Addr),cL (qs.map V.ref) (qs.map Value.ref)
 | []=>.nil
 |q::qs=>.cons rfl (uD qs)
variable{qs:List Addr}
theorem JQ{kz:List Int}{out:List Value}(h:KskOut false kz (qs.map Value.ref) out):∃ps:List (Int×Addr),ps.Perm (kz.zip qs)/\out=ps.map (fun p=>Value.ref p.2)/\ps.Pairwise (fun p q=>p.1<=q.1):=by
 obtain⟨ps,hp,ho,hs⟩:=h;have e0:kz.zip (qs.map Value.ref)=(kz.zip qs).map fun p=>(p.1,Value.ref p.2):=by rw[List.zip_map_right];exact aGH fun⟨x,y⟩ _=>rfl
 rw[e0]at hp;have mem:∀p∈ps,p.2=Value.ref (Qo p.2):=fun p hm=>by
  obtain⟨q,_,rfl⟩:=aFT.mp (hp.mem_iff.mp hm)
  rfl
 refine⟨ps.map fun p=>(p.1,Qo p.2),?_,?_,?_⟩
 ·have z:=hp.map fun p=>(p.1,Qo p.2)
  rw[aGr]at z;have e1:(kz.zip qs).map ((fun p=>(p.1,Qo p.2)) ∘ fun p=>(p.1,Value.ref p.2))=kz.zip qs:=by
   conv=>rhs;rw[<-List.map_id (kz.zip qs)]
   exact aGH fun⟨x,y⟩ _=>rfl
  rw[e1]at z;exact z
 ·rw[ho,aGr];exact aGH fun p hm=>mem p hm
 ·rw[aHy];exact hs
theorem Ma{l fa:Addr}{Q:VK}(I:bB X pins σ H s)(hS:bV X.K H l (qs.map V.ref))(hlen:kz.length=qs.length)(h64:qs.length<64)
  (turn:∀(i:Nat) q k,qs[i]? = some q->kz[i]? = some k->QM X pins σ H X.A.in1.in1 (.ref fa) (.ref q) k)
  (done:∀D (ps:List (Int×Addr)),H D=none->ps.Perm (kz.zip qs)->ps.Pairwise (fun p q=>p.1<=q.1)->Q (.ref D) (bH H D (.lst (ps.map fun p=>V.ref p.2)))) :
  wpAny (model X.prog X.w) X.A (call (.builtin "sorted") [.ref l] [(Str.ofString "key",.ref fa)]) (EP X pins σ Q) E s:=by
 obtain⟨its,rv,pl,hz⟩:=I.list hS;have ei:=Aa rv;subst ei;have hl64:(qs.map Value.ref).length<64:=by rw[aFJ];exact h64
 have h64':(qs.map Value.ref).length<=sizeLine:=aFN (aGt hl64) (by decide);refine call_function_entry_kw kind_sorted plain_sorted entry_sorted (ksk_s1 _ _) ?_;unfold Builtin.«sorted»;refine wpAny_bind (m:=checkCount "sorted" 1 1 _) (wpAny_pure ?_);refine wpAny_bind (collect_list pl.isList ?_ h64');refine wpAny_bind (wpAny_newList ?_ h64');have up:∀b o,s.heap.get? b=some o->((s.heap.push (seqObj "list" #[] 0)).update s.heap.objs.size (Obj.mapSeq (·++(qs.map Value.ref).toArray))).get? b=some o:=fun b o q =>
  ((aGC.update (s.heap.push (seqObj "list" #[] 0)) s.heap.objs.size _).2 b (aGg (aF3 q))).trans (aFO _ q)
 have hsz:((s.heap.push (seqObj "list" #[] 0)).update s.heap.objs.size (Obj.mapSeq (·++(qs.map Value.ref).toArray))).objs.size=s.heap.objs.size+1:=by rw[Heap.size_update,size_push']
 generalize (s.heap.push (seqObj "list" #[] 0)).update s.heap.objs.size (Obj.mapSeq (·++(qs.map Value.ref).toArray))=h1 at up hsz;have I1:bB X pins σ H { s with heap:=h1.push (seqObj "list" (qs.map Value.ref).toArray 0) }:=I.kept (t':=s.toks) fun b o q=>aFO _ (up b o q);have fr:H h1.objs.size=none:=I.hok.fresh (by rw[hsz];exact aHf _);have fp:mO X pins H h1.objs.size:=I.fpOk (by rw[hsz];exact aHf _) fr;have yo:X.s₀.heap.objs.size<=h1.objs.size:=aFN I.sz (by rw[hsz];exact aHf _);have ea:(h1.push (seqObj "list" (qs.map Value.ref).toArray 0)).get? h1.objs.size=some (seqObj "list" (qs.map Value.ref).toArray 0):=aF6 _ rfl;refine wpAny_bind (wpAny_holding (wpAny_call_entry_kw PyProof.Rows.slot_list_sort ⟨_,ea,rfl⟩ PyProof.Rows.entry_list_sort ?body (ksk_l1 _ _)))
 case body =>
  show wpAny (model X.prog X.w) X.A.in1.in1 (Builtin.«list.sort» ⟨[.ref h1.objs.size],[(Str.ofString "key",.ref fa)]⟩) _ _ _;rw[ksk_t1];refine Nq (kz:=kz) (s:={ s with heap:=h1.push (seqObj "list" (qs.map Value.ref).toArray 0) }) I1 fp ea (by rw[aFJ];exact hlen) hl64 (fun i v k hv hk=>?_) fun s2 out c I2 e2 ko=>⟨_,rfl,?_⟩
  ·rw[aF9]at hv;cases eq:qs[i]? with
   |none=>rw[eq]at hv;cases hv
   |some q =>
    rw[eq]at hv;cases hv;exact turn i q k eq hk
  ·obtain⟨ps,hp,ho,hs⟩:=JQ ko;have hpl:ps.length=qs.length:=by
    rw[hp.length_eq,List.length_zip,hlen,Nat.min_self]
   refine wpAny_pure ⟨_,rfl,.ref h1.objs.size,_,I2.track (o:=.lst (ps.map fun p=>V.ref p.2)) fp yo ⟨?_,out.toList,c,?_,?_⟩,rfl,done _ ps fr hp hs⟩
   ·rw[aFJ,hpl];exact aFN (aGt h64) (by decide)
   ·rw[ho];have z:=uD (ps.map Prod.snd);rw[aGr,aGr]at z;exact z
   ·rw[aHH];exact e2
end
noncomputable def Ho (X:Cx)(A:Around)(p:Str)(M:List Str)(scope:Scope)(qual:Str)(f c':Addr)(s:Shared)(H:Hp):Cx where
 prog:=X.prog
 w:=X.w
 K:=X.K
 mg:=X.mg
 base:=X.base
 A:=A.deeper (PySem.W.envX qual scope s.heap.objs.size f (.ref c') (gF X.env scope.names []))
 N:=p::M
 s₀:=s
 H₀:=H
 env:=PySem.W.envX qual scope s.heap.objs.size f (.ref c') (gF X.env scope.names [])
 outer:=X.stack
 stack:=PySem.W.envX qual scope s.heap.objs.size f (.ref c') (gF X.env scope.names [])::X.stack
 ex:=[]
 fn:=fun _=>false
 calm:=true
 pn:=[]
 xe:=fun _ _=>False
noncomputable abbrev vB (c':Addr)(qual:Str):HO:=.ext fun h=>h.CodeRec (.ref c') qual
section
variable{X:Cx}{pins:List (Addr×Obj)}{σ:St}{H:Hp}{A:Around}{p qual:Str}{M:List Str}{scope:Scope}{params:Arguments}{body:Expr}{pm ctv:Value}{c' f:Addr}{te:TE}
theorem Oo(hA:A.frames=some X.stack)(hd:A.handled=none)(hdep:A.depth<recursionLimit)(S:gQ X.env.scope scope)(nl:NL X.N M scope)(hp:scope.names.lookup p=some .local)
  (hco:scope.isCoroutine=false) (hgen:scope.isGenerator=false) (hbind:∀(cl:List (Str×Addr)) (pm cdv ctv u:Value),bindArgs (PySem.W.kla_fn "<lambda>" qual params body scope cl pm cdv ctv) ⟨[u],[]⟩=pure [(p,u)])
  (hb:∀f c' s H,PE (Ho X A p M scope qual f c' s H) body te) {x:V}{u:Value}{k:Int} (rx:RelV x u) (hf:(f,PySem.W.kla_obj "<lambda>" qual params body scope (gF X.env scope.names []) pm c' ctv)∈pins)
  (hcr:H c'=some (vB c' qual)) (h:te (some x::σ) H fun r H'=>r=.int k/\H'=H):QM X pins σ H A (.ref f) u k:=by
 intro more s I;have hcd:s.heap.CodeRec (.ref c') qual:=(I.hok c' _ hcr).1;have ho:=(I.pin _ (aF4 _ (aGL _ hf))).1;have sub:∀x a,(gF X.env scope.names []).lookup x=some a->X.env.cells.lookup x=some a:=fun x a e=>by
  rcases tY _ _ _ (PySem.mem_of_lookup e)with z |z
  ·exact absurd z (by simp)
  ·exact z
 have kin:∀x,scope.names.lookup x=some .free->X.env.kindOf x=some .cell∨X.env.kindOf x=some .free:=fun x e=>S.free (x,.free) (PySem.mem_of_lookup e) rfl;have has:∀x a,scope.names.lookup x=some .free->X.env.cells.lookup x=some a->(gF X.env scope.names []).lookup x=some a:=fun x a e ec=>by
  obtain⟨d,hd⟩:=lW (uK ec scope.names [] (PySem.mem_of_lookup e));have:=sub x d hd;rw[ec]at this;cases this;exact hd
 have nocell:∀x,scope.names.lookup x≠some .cell:=fun x e=>S.nocell _ (PySem.mem_of_lookup e) rfl;refine wpAny_call (PySem.W.kla_callFunE hdep ho rfl hco hgen rfl hcd ?_);rw[hbind];refine wpAny_pure (wpAny_newFunctionEnv S.nocell (fun y hy=>?_) (fun h₁ hns hsb=>⟨?_,?_⟩) S.kind)
 ·rw[aF2.mp hy];exact hp
 ·exact I.nolimit.keeps fun b o e=>hsb.extBut b o (aGg (aF3 e)) (aFO _ e)
 have old:∀b o,s.heap.get? b=some o->h₁.get? b=some o:=fun b o e=>hsb.extBut b o (aGg (aF3 e)) (aFO _ e);have okY:(Ho X A p M scope qual f c' s H).Ok:=by
  refine⟨I.ok.mod,S.kind,rfl,rfl,aFV _,fun x y a h1 h2=>I.ok.inj x y a (sub x a h1) (sub y a h2),fun x hx=>?_,(fun x a h=>nomatch h),fun _=>hd,Around.frames_deeper hA,.inr ⟨rfl,rfl⟩,(fun b hb'=>nomatch hb'),
   I.bs,aFN I.ok.bsz I.sz,(fun b o e hb'=>nomatch hb'),(fun b hb'=>nomatch hb'),I.stack,I.stkFree⟩
  have hf:scope.names.lookup x=some .free:=by
   rcases hx with hx |hx
   ·exact absurd hx (nocell x)
   ·exact hx
  obtain⟨a,ea⟩:=I.ok.has x (kin x hf);exact⟨a,has x a hf ea⟩
 have IY:bB (Ho X A p M scope qual f c' s H) [] (some x::σ) H { s with heap:=h₁,toks:=s.toks+[(p,u)].length }:=by
  refine⟨okY,rfl,I.bare,Un.kept old,⟨_,hns,fun i y v e1 e2 e3=>?_⟩,fun y a e=>?_,I.hok.fresh (aFV _),fun y a e=>I.freeC y a (sub y a e),(fun q hq=>nomatch hq),I.hok.kept old,?_⟩
  ·cases i with
   |zero =>
    have e1':some p=some y:=e1;have e2':some (some x)=some (some v):=e2;cases e1';cases e2';refine⟨u,rx,.inl ⟨hp,?_⟩⟩;show aHe p [(p,u)]=some u;simp
   |succ i =>
    have e0:M[i]? = some y:=e1;have e2':σ[i]? = some (some v):=e2;have hf:scope.names.lookup y=some .free:=by
     rcases e3 with e3 |e3 |e3
     ·exact absurd e3 (nl.loc _ y e0)
     ·exact absurd e3 (nocell y)
     ·exact e3
    have hk:=kin y hf;obtain⟨m,hn,hl⟩:=I.loc;obtain⟨z,rz,lk⟩:=hl i y v (nl.free _ y e0 hf) e2' (hk.elim (fun z=>.inr (.inl z)) fun z=>.inr (.inr z));refine⟨z,rz,.inr ⟨.inr hf,?_⟩⟩;rcases lk with⟨q,_⟩ | ⟨_,a,ea,o,eo,hdd⟩
    ·rcases hk with hk |hk <;> (rw[hk]at q;cases q)
    ·exact⟨a,has y a hf ea,o,old a o eo,hdd⟩
  ·obtain⟨v,o,eo,hdd⟩:=I.cell y a (sub y a e);exact⟨v,o,old a o eo,hdd⟩
  ·show σ.length+1=M.length+1;rw[I.len,nl.len]
 refine PySem.W.kla_codeExpr (wpAny_mono (hb f c' s H [] _ (some x::σ) H _ IY h) (fun r s2 h2=>?_) fun _ _ z=>z.elim);obtain⟨v,H2,J,rv,hv,hH⟩:=h2;subst hv hH;exact⟨rv,I.call' (ch:=[]) J.os J.base J.hok J.bare (fun b hb'=>nomatch hb')⟩
end
noncomputable def UW (pos:Pos)(c':Addr):Array Value:=#[rawInt pos.line,rawInt pos.col,.ref c']
def X7 (P:Addr)(pos:Pos)(qual:Str)(c':Addr)(H:Hp):Prop:=H P=some (.tbl (UW pos c'))/\H c'=some (vB c' qual)
def cA (P:Addr)(pos:Pos)(qual:Str)(H:Hp):Prop:=H P=some (.tbl #[])∨∃c',X7 P pos qual c' H
def cW (P:Addr)(H H':Hp):Prop:=∀b o,b≠P->H b=some o->H' b=some o
variable{P:Addr}
theorem cW.refl(H:Hp):cW P H H:=fun _ _ _ e=>e
theorem cW.trans{H1 H2:Hp}(a:cW P H H1)(b:cW P H1 H2):cW P H H2:=fun c o n e=>b c o n (a c o n e)
variable{H':Hp}
theorem aP.toT(a:aP H H'):cW P H H':=fun b o _ e=>a b o e
theorem cW.free(a:cW P H H'){l:Addr}(h:H' l=none)(hP:∃ps,H' P=some (.tbl ps)):H l=none:=by
 cases q:H l with
 |none=>rfl
 |some o =>
  by_cases e:l=P
  ·obtain⟨ps,z⟩:=hP;rw[e,z]at h;cases h
  ·rw[a l o e q]at h;cases h
theorem cA.at_(t:cA P pos qual H):∃ps,H P=some (.tbl ps):=by
 rcases t with t | ⟨c,t,_⟩
 ·exact⟨_,t⟩
 ·exact⟨_,t⟩
theorem cW.get(a:cW P H H')(t:cA P pos qual H){b:Addr}{o:HO}(e:H b=some o)(n:∀ps,o≠.tbl ps):H' b=some o:=by
 obtain⟨ps,z⟩:=t.at_;exact a b o (dG e z (n ps)) e
theorem cA.same(t:cA P pos qual H)(s:aP H H'):cA P pos qual H':=by
 rcases t with t | ⟨c,t,u⟩
 ·exact .inl (s _ _ t)
 ·exact .inr ⟨c,s _ _ t,s _ _ u⟩
theorem cW.lst{K:PySem.W.Frag}{P:Addr}{pos:Pos}{qual:Str}{H H':Hp}(a:cW P H H')(t:cA P pos qual H){b:Addr}{xs:List V}(h:bV K H b xs):bV K H' b xs:=by
 rcases h with(h | ⟨o,h⟩) |h
 ·exact .inl (.inl (a.get t h fun _ z=>nomatch z))
 ·exact .inl (.inr ⟨o,a.get t h fun _ z=>nomatch z⟩)
 ·exact .inr h
theorem Ji{h':Heap}{mg:Str->Option Value}(b:h.BuiltinsAt mg P)(k:∀a o,h.get? a=some o->h'.get? a=some o):h'.BuiltinsAt mg P:=by
 obtain⟨bm,o,b1,b2,b3,b4,b5,b6⟩:=b;exact⟨bm,o,b1,b2,b3,b4,k _ _ b5,b6⟩
theorem BJ{c':Addr}:∀h1 h2:Heap,h1.CodeRec (.ref c') qual->(∀o,h1.get? c'=some o->h2.get? c'=some o)->h2.CodeRec (.ref c') qual:=fun h1 h2 ⟨c,oc,vs,t,e,g,r⟩ k=>by
 cases e;exact⟨_,oc,vs,t,rfl,k _ g,r⟩
section
variable{X:Cx}{pins:List (Addr×Obj)}{σ:St}{H:Hp}{s:Shared}{E:Value->Shared->Prop}{c P:Addr}{pos:Pos}{params:Arguments}{body:Expr}{scope:Scope}{Q:Value->Shared->Prop}
theorem M5(I:bB X pins σ H s)(hcode:X.env.code=.ref c)(C:PySem.W.CodeHd X.base c P)(B:X.base.BuiltinsAt X.mg P)(T:cA P pos (X.env.qual++"<lambda>") H)(S:gQ X.env.scope scope)(hdef:defaultsOf params X.env=([],[]))
  (q:∀f c' pm ctv H' s',cW P H H'->X7 P pos (X.env.qual++"<lambda>") c' H'->bB X (pins++[(f,PySem.W.kla_obj "<lambda>" (X.env.qual++"<lambda>") params body scope (gF X.env scope.names []) pm c' ctv)]) σ H' s'->Q (.ref f) s') :
  wpAny (model X.prog X.w) X.A (eval (.Lambda params body scope pos) X.env) Q E s:=by
 have hcl:=Gk S I.ok;have hg:=I.ok.mod.glob.keeps I.bk;have hB:=Ji B I.bk;obtain⟨ps0,hP0⟩:=T.at_;have hgP:mainGlobals≠P:=fun z=>by
  obtain⟨o,es,ep,e,_⟩:=I.ok.mod.glob;have:=(I.bs _ o e).2;rw[z,hP0]at this;cases this
 refine PySem.W.kla_eval hdef ?_;rcases T with T | ⟨c',T,U⟩
 ·have hP:s.heap.get? P=some (PySem.W.tabObj #[]):=I.hok P _ T;refine PySem.W.kla_makeFunction (mg:=X.mg) hcl I.ok.glob hg hcode (C.keeps I.bk) hP trivial rfl hgP hB fun c' ctv h' tk hx hge hlt hrec htb=>?_;have cn:H c'=none:=I.hok.fresh hge;have cP:c'≠P:=Ne.symm (aR T cn);have new1:∀b o,b≠P->s.heap.get? b=some o->(h'.push (PySem.W.kla_obj "<lambda>" (X.env.qual++"<lambda>") params body scope (gF X.env scope.names []) ((X.mg "__name__").getD .none) c' ctv)).get? b=some o:=fun b o hb e=>aFO _ (hx b o hb e);have nP:∀b,H b=none->b≠P:=fun b n z=>by rw[z,T]at n;cases n
  have ups:∀b u,H b=some u->(∀ps,u≠.tbl ps)->bH (bH H P (.tbl (UW pos c'))) c' (vB c' (X.env.qual++"<lambda>")) b=some u:=fun b u e nt=>by
   rw[aK (aR e cn),aK (dG e T (nt _))];exact e
  have hfresh:H h'.objs.size=none:=I.hok.fresh (aFN hge (aGt hlt));have I1:bB X pins σ (bH (bH H P (.tbl (UW pos c'))) c' (vB c' (X.env.qual++"<lambda>"))) { s with heap:=h'.push (PySem.W.kla_obj "<lambda>" (X.env.qual++"<lambda>") params body scope (gF X.env scope.names []) ((X.mg "__name__").getD .none) c' ctv),toks:=tk }:=by
   refine I.un (t':=tk) ⟨fun b o e n _ _=>new1 b o (nP b n) e,fun b o e n _ _=>⟨o.slots,new1 b o (nP b n) e⟩,fun b o e n _=>?_,fun b o e _=>?_,fun b xs e=>ups b _ e (fun _ z=>nomatch z),fun b o u e=>ups b _ e (fun _ z=>nomatch z),fun b ps e=>?_⟩ fun b u e=>?_
   ·rw[aK (aGg (aGf (aF3 e) hge)),aK (nP b n)];exact n
   ·by_cases z:b=P
    ·rw[z];exact⟨_,aFO _ htb⟩
    ·exact⟨o,new1 b o z e⟩
   ·by_cases z:b=P
    ·rw[z,T]at e;cases e;refine⟨UW pos c',?_⟩;rw[z,aK (Ne.symm cP),aB];simp
    ·exact⟨#[],by rw[aK (aR e cn),aK z,e];simp⟩
   ·by_cases z:b=c'
    ·subst z;rw[aB]at e;cases e;obtain⟨c2,oc,vs,t,e2,g2,r2⟩:=hrec;cases e2;exact⟨⟨_,oc,vs,t,rfl,aFO _ g2,r2⟩,⟨oc,aFO _ g2⟩,BJ⟩
    ·rw[aK z]at e
     by_cases z2:b=P
     ·subst z2;rw[aB]at e;cases e;have q2:=aFO (PySem.W.kla_obj "<lambda>" (X.env.qual++"<lambda>") params body scope (gF X.env scope.names []) ((X.mg "__name__").getD .none) c' ctv) htb;rw[aIo]at q2;exact q2
     ·rw[aK z2]at e;refine(I.hok b u e).stay (fun d v hd r=>new1 d v ?_ r) (fun d r=>ups d _ r fun _ z=>nomatch z) fun d xs r=>ups d _ r fun _ z=>nomatch z
      rcases hd with z3 |z3
      ·rw[z3];exact z2
      ·exact dG z3 T fun z=>nomatch z
  refine q _ c' ((X.mg "__name__").getD .none) ctv _ _ (fun b o n e=>?_) ⟨?_,aB⟩ (I1.pins_of fun p hp=>?_)
  ·rw[aK (aR e cn),aK n];exact e
  ·rw[aK (Ne.symm cP),aB]
  ·rcases aGc.mp hp with z |z
   ·exact I1.pin p (aF4 _ z)
   ·rw[aF2.mp z];have fp:=I.fpOk (H':=bH (bH H P (.tbl (UW pos c'))) c' (vB c' (X.env.qual++"<lambda>"))) (b:=h'.objs.size) (aFN hge (aGt hlt)) (by rw[aK (aH2 hlt),aK (nP _ hfresh)];exact hfresh);exact⟨aF6 _ rfl,fp.1,fp.2.1,fp.2.2.1,fun v z=>nomatch z⟩
 ·have hP:s.heap.get? P=some (PySem.W.tabObj (UW pos c')):=I.hok P _ T;have am:codeAmong pos (UW pos c').toList=some (.ref c'):=by
   show codeAmong pos [rawInt pos.line,rawInt pos.col,.ref c']=some (.ref c');simp[codeAmong,rawInt]
  refine PySem.W.kla_makeFunctionHit (mg:=X.mg) hcl I.ok.glob hg hcode (C.keeps I.bk) hP trivial am hB fun ctv h' tk hk hsz=>?_;have I1:bB X pins σ H { s with heap:=h'.push (PySem.W.kla_obj "<lambda>" (X.env.qual++"<lambda>") params body scope (gF X.env scope.names []) ((X.mg "__name__").getD .none) c' ctv),toks:=tk }:=I.kept (t':=tk) fun b o e=>aFO _ (hk b o e);refine q _ c' ((X.mg "__name__").getD .none) ctv H _ (cW.refl H) ⟨T,U⟩ (I1.pins_of fun p hp=>?_);rcases aGc.mp hp with z |z
  ·exact I1.pin p (aF4 _ z)
  ·rw[aF2.mp z];have fp:=I.fpOk (H':=H) (b:=h'.objs.size) hsz (I.hok.fresh hsz);exact⟨aF6 _ rfl,fp.1,fp.2.1,fp.2.2.1,fun v z=>nomatch z⟩
end
noncomputable def Uo (K:PySem.W.Frag)(P:Addr)(pos:Pos)(qual:Str)(tl tb:TE):TE:=fun σ H Q=>tl σ H fun x H1=>∃(l:Addr) (qs:List Addr) (kz:List Int),x=.ref l/\bV K H1 l (qs.map V.ref)/\kz.length=qs.length/\qs.length<64/\cA P pos qual H1 ∧
 ∀H2 c',cW P H1 H2->X7 P pos qual c' H2->(∀(i:Nat) q k,qs[i]? = some q->kz[i]? = some k->tb (some (.ref q)::σ) H2 fun r H'=>r=.int k/\H'=H2) ∧
  ∀D (ps:List (Int×Addr)),H2 D=none->ps.Perm (kz.zip qs)->ps.Pairwise (fun p q=>p.1<=q.1)->Q (.ref D) (bH H2 D (.lst (ps.map fun p=>V.ref p.2)))
variable{c:Addr}
theorem O5{p:Str}{M:List Str}{scope:Scope}{params:Arguments}{body e:Expr}{p0 lpos kpos:Pos}{tl tb:TE}(hr:Room k X.A)(hc:X.calm=true)(hg:Gl X "sorted")(hm:X.mg "sorted" = none)
  (hcode:X.env.code=.ref c) (C:PySem.W.CodeHd X.base c P) (B:X.base.BuiltinsAt X.mg P) (S:gQ X.env.scope scope) (nl:NL X.N M scope) (hp:scope.names.lookup p=some .local) (hco:scope.isCoroutine=false) (hgen:scope.isGenerator=false)
  (he:PE X e tl) (hb:∀A f c' s H,PE (Ho X A p M scope (X.env.qual++"<lambda>") f c' s H) body tb)
  (hdef:defaultsOf params X.env=([],[]):=by rfl)
  (hbind:∀(cl:List (Str×Addr)) (pm cdv ctv u:Value),bindArgs (PySem.W.kla_fn "<lambda>" (X.env.qual++"<lambda>") params body scope cl pm cdv ctv) ⟨[u],[]⟩=pure [(p,u)]:=by intro _ _ _ _ _;rfl)
  (hs:starEach [e] X.env=[(false,eval e X.env)]:=by rfl) :
  PE X (.Call (.Name "sorted" p0) [e] [⟨some "key",.Lambda params body scope lpos,kpos⟩] pos) (Uo X.K P lpos (X.env.qual++"<lambda>") tl tb):=by
 intro pins s σ H Q I h;refine wpAny_Call_Name_kw (tW I hg hm tV ?_ (by decide) (by decide));refine callWith_kw (eO (aA he aC hs pos pins s σ H (fun vs H1=>∃x,vs=[x]/\∃(l:Addr) (qs:List Addr) (kz:List Int),x=.ref l/\bV X.K H1 l (qs.map V.ref)/\kz.length=qs.length/\qs.length<64/\cA P lpos (X.env.qual++"<lambda>") H1 ∧
  ∀H2 c',cW P H1 H2->X7 P lpos (X.env.qual++"<lambda>") c' H2->(∀(i:Nat) q k,qs[i]? = some q->kz[i]? = some k->tb (some (.ref q)::σ) H2 fun r H'=>r=.int k/\H'=H2) ∧
   ∀D (ps:List (Int×Addr)),H2 D=none->ps.Perm (kz.zip qs)->ps.Pairwise (fun p q=>p.1<=q.1)->Q (.ref D) (bH H2 D (.lst (ps.map fun p=>V.ref p.2)))) I ?_) fun us s1 ⟨vs,H1,I1,r1,x,ev,l,qs,kz,ex,hS,hlen,h64,hT,q1⟩=>?_) ?_ ?_ rfl rfl
 ·show tl σ H fun x H1=>_;have mono:=h;exact(show tl σ H fun x H1=>∃x',[x]=[x']/\_ from by
   have e1:(fun(x:V) (H1:Hp)=>∃x',[x]=[x']/\∃(l:Addr) (qs:List Addr) (kz:List Int),x'=.ref l/\bV X.K H1 l (qs.map V.ref)/\kz.length=qs.length/\qs.length<64/\cA P lpos (X.env.qual++"<lambda>") H1 ∧
  ∀H2 c',cW P H1 H2->X7 P lpos (X.env.qual++"<lambda>") c' H2->(∀(i:Nat) q k,qs[i]? = some q->kz[i]? = some k->tb (some (.ref q)::σ) H2 fun r H'=>r=.int k/\H'=H2) ∧
   ∀D (ps:List (Int×Addr)),H2 D=none->ps.Perm (kz.zip qs)->ps.Pairwise (fun p q=>p.1<=q.1)->Q (.ref D) (bH H2 D (.lst (ps.map fun p=>V.ref p.2))))=fun x H1=>∃(l:Addr) (qs:List Addr) (kz:List Int),x=.ref l/\bV X.K H1 l (qs.map V.ref)/\kz.length=qs.length/\qs.length<64/\cA P lpos (X.env.qual++"<lambda>") H1 ∧
  ∀H2 c',cW P H1 H2->X7 P lpos (X.env.qual++"<lambda>") c' H2->(∀(i:Nat) q k,qs[i]? = some q->kz[i]? = some k->tb (some (.ref q)::σ) H2 fun r H'=>r=.int k/\H'=H2) ∧
   ∀D (ps:List (Int×Addr)),H2 D=none->ps.Perm (kz.zip qs)->ps.Pairwise (fun p q=>p.1<=q.1)->Q (.ref D) (bH H2 D (.lst (ps.map fun p=>V.ref p.2))):=by
    funext x H1
    refine propext ⟨?_,?_⟩
    ·rintro⟨x',z,r⟩;injection z with z
     subst z;exact r
    ·intro r;exact⟨x,rfl,r⟩
   rw[e1];exact mono)
 ·subst ev ex;obtain⟨u,rfl,ru⟩:=vals1 r1;cases(show u=Value.ref l from ru);show wpAny _ _ (evalAll [do let v <-eval (.Lambda params body scope lpos) X.env;standAt pos;pure v]) _ _ s1;refine wpAny_evalAll_cons (wpAny_bind (M5 I1 hcode C B hT S hdef fun f c' pm ctv H2 s2 st hit I2=>wpAny_bind (wpAny_standAt (wpAny_pure (wpAny_evalAll_nil ?_)))));obtain⟨q2,q3⟩:=q1 H2 c' st hit;have fin:=Ma (E:=X.xe) (Q:=Q) (fa:=f) (kz:=kz) I2 (cW.lst st hT hS) hlen h64 (fun i q k eq ek=>Oo (A:=X.A.in1.in1) I2.ok.frames (I2.ok.hd hc) hr.depth S nl hp hco hgen hbind (hb X.A.in1.in1) (x:=.ref q) rfl (aF4 _ (.head _)) hit.2 (q2 i q k eq ek)) fun D ps hD hp hs=>q3 D ps hD hp hs;exact eO fin fun r s3 ⟨v,H3,I3,rv,qv⟩=>⟨v,H3,I3.unpinned,rv,qv⟩
 ·show backTo pos (starEach [e] X.env)=(false,eval e X.env)::_;rw[hs]
  rfl
 ·rw[hs]
  rfl
theorem dJ.okc{P:Program}{mg:Str->Option Value}{f:Addr}{ps:List Str}(F:dJ K x qual st f fd)(hc:fd.code=.ref c)(S:aM N ps (aH st))(len:∀vs H Q E,sp vs H Q E->vs.length=ps.length)
  (hbody:∀(A:Around) (outer:List Env) (s:Shared) (H:Hp) (vs:List V) (Q:VK) (E:XK),Room k (A.deeper (envOfC qual (aH st) s.heap.objs.size f (.ref c)))->sp vs H Q E ->
   ∃t,yC (yD bT P w K mg base N qual (aH st) f (.ref c) A outer s H E).nox (iC st) t/\t { nx:=fun _ H'=>Q .non H',rt:=Q } (start N vs) H):aN P w K mg base bT (k+1) f fd ps sp:=by
 obtain⟨oc,od,kV,doc,pm,an,cdv,ct,osl,rfl,lk,hcd⟩:=F.ex;cases(show cdv=Value.ref c from hc);refine N7 lk hcd S len fun A outer s H vs Q E hr hsp=>?_;obtain⟨t,h,q⟩:=hbody A outer s H vs Q E hr hsp;exact⟨t,h.nox,q⟩
inductive DE (K:PySem.W.Frag)(H:Hp):Nat->V->V->Bool->Prop
 |int (n:Nat) (i j:Int):DE K H n (.int i) (.int j) (i==j)
 |bl (n:Nat) (i j:Bool):DE K H n (.bl i) (.bl j) (i==j)
 |str (n:Nat) (i j:Str):DE K H n (.str i) (.str j) (i==j)
 |tup {n:Nat}{a b:Addr}{xs ys:List V} (e:Nat->Bool) (ha:dN K H a xs) (hb:dN K H b ys) (h:∀(j:Nat) x y,xs[j]? = some x->ys[j]? = some y->DE K H n x y (e j)) :
   DE K H (n+1) (.ref a) (.ref b) ((aHd (min xs.length ys.length)).all e&&xs.length==ys.length)
 |lst {n:Nat}{a b:Addr}{xs ys:List V} (e:Nat->Bool) (ha:bV K H a xs) (hb:bV K H b ys) (hl:xs.length=ys.length) (h:∀(j:Nat) x y,xs[j]? = some x->ys[j]? = some y->DE K H n x y (e j)) :
   DE K H (n+1) (.ref a) (.ref b) ((aHd xs.length).all e)
 |lstN {n:Nat}{a b:Addr}{xs ys:List V} (ha:bV K H a xs) (hb:bV K H b ys) (hl:xs.length≠ys.length):DE K H (n+1) (.ref a) (.ref b) false
section
variable{X:Cx}{pins:List (Addr×Obj)}{σ:St}{H:Hp}{s:Shared}
variable{n:Nat}
theorem DE.self(I:bB X pins σ H s){x y:V}{k:Bool}(d:DE X.K H n x y k):x=y->k=true:=by
 induction d with
 |int n i j=>intro e;cases e;simp
 |bl n i j=>intro e;cases e;simp
 |str n i j=>intro e;cases e;simp
 | @tup n a b xs ys e ha hb h ih =>
  intro z;cases z;have q:=I.tuple_inj ha hb;subst q;rw[aGA];refine⟨aG5.mpr fun j hj=>?_,by simp⟩;rw[aHx,Nat.min_self]at hj;exact ih j _ _ (aFM hj) (aFM hj) rfl
 | @lst n a b xs ys e ha hb hl h ih =>
  intro z;cases z;have q:=I.list_inj ha hb;subst q;refine aG5.mpr fun j hj=>?_;rw[aHx]at hj;exact ih j _ _ (aFM hj) (aFM hj) rfl
 | @lstN n a b xs ys ha hb hl =>
  intro z;cases z;exact absurd (congrArg aG1 (I.list_inj ha hb)) hl
theorem iD{xs:List V}{its:List Value}(r:cL xs its){j:Nat}(hj:j<its.length):∃x,xs[j]? = some x/\RelV x its[j]:=by
 have hl:=r.length;obtain⟨u,hu,ru⟩:=r.get (aFM (l:=xs) (i:=j) (by lia));rw[aFM hj]at hu;cases hu;exact⟨_,aFM (by lia),ru⟩
theorem in1_units(A:Around):A.in1.units=A.units+1:=rfl
theorem DE.eqAt(I:bB X pins σ H s){x y:V}{k:Bool}(d:DE X.K H n x y k):∀(A:Around) (u v:Value),A.units+n<cLine->RelV x u->RelV y v->PySem.SeqAt.EqAt A s u v k:=by
 induction d with
 |int n i j =>
  intro A u v _ ru rv;obtain⟨t,rfl⟩:=ru;obtain⟨t',rfl⟩:=rv;exact PySem.SeqAt.EqAt.int_int _ _ _ _
 |bl n i j =>
  intro A u v _ ru rv;cases(show u=Value.bool i from ru);cases(show v=Value.bool j from rv);exact PySem.SeqAt.EqAt.bool_bool _ _
 |str n i j =>
  intro A u v _ ru rv;obtain⟨t,rfl⟩:=ru;obtain⟨t',rfl⟩:=rv;exact PySem.SeqAt.EqAt.str_str _ _ _ _
 | @tup n a b xs ys e ha hb h ih =>
  intro A u v hu ru rv;cases(show u=Value.ref a from ru);cases(show v=Value.ref b from rv)
  by_cases hab:a=b
  ·have q:=(DE.tup e ha hb h).self I (by rw[hab]);rw[q];subst hab;exact PySem.SeqAt.EqAt.same _
  ·obtain⟨its,r1,p1,_⟩:=I.tuple ha;obtain⟨its2,r2,p2,_⟩:=I.tuple hb;refine PySem.SeqAt.EqAt.of_refs hab ?_;have q:=PySem.SeqAt.RcAt.tuples (A:=A) (e:=e) (show s.heap.IsTuple a its.toArray from p1) (show s.heap.IsTuple b its2.toArray from p2) (by lia) (fun j h1 h2=>by
    obtain⟨x,ex,rx⟩:=iD r1 (j:=j) (by simpa using h1);obtain⟨y,ey,ry⟩:=iD r2 (j:=j) (by simpa using h2);rw[aGk,aGk];exact ih j x y ex ey A.in1 _ _ (by rw[in1_units];lia) rx ry)
   rw[aFS,aFS,<-r1.length,<-r2.length]at q;exact q
 | @lst n a b xs ys e ha hb hl h ih =>
  intro A u v hu ru rv;cases(show u=Value.ref a from ru);cases(show v=Value.ref b from rv)
  by_cases hab:a=b
  ·have q:=(DE.lst e ha hb hl h).self I (by rw[hab]);rw[q];subst hab;exact PySem.SeqAt.EqAt.same _
  ·obtain⟨its,r1,p1,_⟩:=I.list ha;obtain⟨its2,r2,p2,_⟩:=I.list hb;refine PySem.SeqAt.EqAt.of_refs hab ?_;have q:=PySem.SeqAt.RcAt.lists (A:=A) (e:=e) p1.isList p2.isList (by rw[aFS,aFS,<-r1.length,<-r2.length];exact hl) (by lia) (fun j h1 h2=>by
    obtain⟨x,ex,rx⟩:=iD r1 (j:=j) (by simpa using h1);obtain⟨y,ey,ry⟩:=iD r2 (j:=j) (by simpa using h2);rw[aGk,aGk];exact ih j x y ex ey A.in1 _ _ (by rw[in1_units];lia) rx ry)
   rw[aFS,<-r1.length]at q;exact q
 | @lstN n a b xs ys ha hb hl =>
  intro A u v hu ru rv;cases(show u=Value.ref a from ru);cases(show v=Value.ref b from rv);have hab:a≠b:=fun z=>by subst z;exact hl (congrArg aG1 (I.list_inj ha hb))
  obtain⟨its,r1,p1,_⟩:=I.list ha;obtain⟨its2,r2,p2,_⟩:=I.list hb;refine PySem.SeqAt.EqAt.of_refs hab (PySem.SeqAt.RcAt.lists_lengths p1.isList p2.isList ?_ (by lia));rw[aFS,aFS,<-r1.length,<-r2.length]
  simpa using hl
inductive Va (K:PySem.W.Frag)(n:Nat)(x:V)(y:V)(H:Hp)(Q:VK):Prop
 |mk (a:_) (b:_) (k:_) (_:x=.ref a) (_:y=.ref b) (_:DE K H (n+1) x y k) (_:Q (.bl k) H)
noncomputable def aAm (K:PySem.W.Frag)(n:Nat):R2:=fun x y H Q=>Va K n x y H Q
inductive S6 (K:PySem.W.Frag)(n:Nat)(x:V)(y:V)(H:Hp)(Q:VK):Prop
 |mk (a:_) (b:_) (k:_) (_:x=.ref a) (_:y=.ref b) (_:DE K H (n+1) x y k) (_:Q (.bl (!k)) H)
noncomputable def aAs (K:PySem.W.Frag)(n:Nat):R2:=fun x y H Q=>S6 K n x y H Q
theorem V4(hu:X.A.units+n+1<cLine):pU X (compareOp .Eq) (aAm X.K n):=by
 intro pins s σ H x y v u Q I rx ry h;obtain⟨a,b,k,rfl,rfl,d,q⟩:=h;cases(show v=Value.ref a from rx);cases(show u=Value.ref b from ry);cases d with
 | @tup n a b xs ys e ha hb h =>
  obtain⟨its,r1,p1,_⟩:=I.tuple ha;obtain⟨its2,r2,p2,_⟩:=I.tuple hb;refine PySem.SeqAt.eq_tupleAt (e:=e) (show s.heap.IsTuple a its.toArray from p1) (show s.heap.IsTuple b its2.toArray from p2) (by lia) (fun j h1 h2=>by
    obtain⟨x,ex,rx⟩:=iD r1 (j:=j) (by simpa using h1);obtain⟨y,ey,ry⟩:=iD r2 (j:=j) (by simpa using h2);rw[aGk,aGk];exact(h j x y ex ey).eqAt I X.A.in1 _ _ (by rw[in1_units];lia) rx ry) ?_
  rw[aFS,aFS,<-r1.length,<-r2.length];exact⟨.bl _,H,I,rfl,q⟩
 | @lst n a b xs ys e ha hb hl h =>
  obtain⟨its,r1,p1,_⟩:=I.list ha;obtain⟨its2,r2,p2,_⟩:=I.list hb;refine PySem.SeqAt.eq_listAt (e:=e) p1.isList p2.isList (by rw[aFS,aFS,<-r1.length,<-r2.length];exact hl) (by lia) (fun j h1 h2=>by
    obtain⟨x,ex,rx⟩:=iD r1 (j:=j) (by simpa using h1);obtain⟨y,ey,ry⟩:=iD r2 (j:=j) (by simpa using h2);rw[aGk,aGk];exact(h j x y ex ey).eqAt I X.A.in1 _ _ (by rw[in1_units];lia) rx ry) ?_
  rw[aFS,<-r1.length];exact⟨.bl _,H,I,rfl,q⟩
 | @lstN n a b xs ys ha hb hl =>
  obtain⟨its,r1,p1,_⟩:=I.list ha;obtain⟨its2,r2,p2,_⟩:=I.list hb;exact PySem.SeqAt.eq_list_lengthsAt p1.isList p2.isList (by rw[aFS,aFS,<-r1.length,<-r2.length];simpa using hl) (by lia) ⟨.bl _,H,I,rfl,q⟩
theorem U9(hu:X.A.units+n+1<cLine):pU X (compareOp .NotEq) (aAs X.K n):=by
 intro pins s σ H x y v u Q I rx ry h;obtain⟨a,b,k,rfl,rfl,d,q⟩:=h;cases(show v=Value.ref a from rx);cases(show u=Value.ref b from ry);cases d with
 | @tup n a b xs ys e ha hb h =>
  obtain⟨its,r1,p1,_⟩:=I.tuple ha;obtain⟨its2,r2,p2,_⟩:=I.tuple hb;refine PySem.SeqAt.RcNeAt.tuples (e:=e) (show s.heap.IsTuple a its.toArray from p1) (show s.heap.IsTuple b its2.toArray from p2) (by lia) (fun j h1 h2=>by
    obtain⟨x,ex,rx⟩:=iD r1 (j:=j) (by simpa using h1);obtain⟨y,ey,ry⟩:=iD r2 (j:=j) (by simpa using h2);rw[aGk,aGk];exact(h j x y ex ey).eqAt I X.A.in1 _ _ (by rw[in1_units];lia) rx ry) X.prog X.w _ _ ?_
  rw[aFS,aFS,<-r1.length,<-r2.length];exact⟨.bl _,H,I,rfl,q⟩
 | @lst n a b xs ys e ha hb hl h =>
  obtain⟨its,r1,p1,_⟩:=I.list ha;obtain⟨its2,r2,p2,_⟩:=I.list hb;refine PySem.SeqAt.RcNeAt.lists (e:=e) p1.isList p2.isList (by rw[aFS,aFS,<-r1.length,<-r2.length];exact hl) (by lia) (fun j h1 h2=>by
    obtain⟨x,ex,rx⟩:=iD r1 (j:=j) (by simpa using h1);obtain⟨y,ey,ry⟩:=iD r2 (j:=j) (by simpa using h2);rw[aGk,aGk];exact(h j x y ex ey).eqAt I X.A.in1 _ _ (by rw[in1_units];lia) rx ry) X.prog X.w _ _ ?_
  rw[aFS,<-r1.length];exact⟨.bl _,H,I,rfl,q⟩
 | @lstN n a b xs ys ha hb hl =>
  obtain⟨its,r1,p1,_⟩:=I.list ha;obtain⟨its2,r2,p2,_⟩:=I.list hb;exact PySem.SeqAt.RcNeAt.lists_lengths p1.isList p2.isList (by rw[aFS,aFS,<-r1.length,<-r2.length];simpa using hl) (by lia) X.prog X.w _ _ ⟨.bl _,H,I,rfl,q⟩
end
section
variable{X:Cx}
theorem Do(hc:X.calm=true):fY X (.builtin "sum") (fun xs H Q=>∃(a:Addr) (ns:List Int),xs=[.ref a]/\bV X.K H a (ns.map V.int)/\Q (.int ns.sum) H):=by
 intro pins s σ H xs us Q I r h;obtain⟨a,ns,rfl,hS,q⟩:=h;obtain⟨u,rfl,ru⟩:=vals1 r;cases(show u=Value.ref a from ru);obtain⟨its,rv,p,hz⟩:=I.list hS;have hi:=intsAre_of rv;obtain⟨zs,e⟩:=(IntsAre.allInts hi).items;have hl:=p.isList;rw[e]at hl;refine sum_intListG (I.ok.hd hc) hl fun h' tk t' hk=>⟨.int ns.sum,H,I.kept hk,⟨t',?_⟩,q⟩
 have n1:=nums_intItems (xs:=zs);rw[<-e,show its.toArray.toList=its from rfl,IntsAre.numsOf hi]at n1;rw[preSum_eq,aH4 (by simp),<-n1]
section
variable{prog:Program}{w:World}{A:Around}{E:Value->Shared->Prop}{s:Shared}{d it:Addr}{od:Obj}{es:Array DictEntry}{ep i:Nat}
theorem Ah{Q:Value->Shared->Prop}(hd:(d==sysModules)=false)(ho:s.heap.get? d=some od)(hx:od.ExactDict)(hdat:od.data=.dict es ep)
  (hQ:Q (.ref s.heap.objs.size) { s with heap:=s.heap.push { cls:=.type "dict_keyiterator",data:=.fields #[.ref d,.int 0 0,.int es.size 0,.int ep 0] } }) :
  wpAny (model prog w) A (pyIter (.ref d)) Q E s:=by
 have ty:s.TypeIs (.ref d) "dict":=⟨od,ho,hx.1⟩
 apply wpAny_pyIter_slot ty F.slot_dict_iter;refine wpAny_call_entry F.slot_dict_iter ty F.entry_dict_iter ?body (F.args_dict_iter_1 _)
 case body =>
  unfold Builtin.«dict.__iter__»;apply wpAny_bind;unfold Builtin.Dict.dictSlotNone;refine wpAny_bind (wpAny_notOrdered_dict ty (wpAny_pure (a:=Value.ref d) ?_));show wpAny _ _ (Builtin.Dict.showsAll d >>= fun _=>_) _ _ s;unfold Builtin.Dict.showsAll;rw[hd,if_neg aGb];refine wpAny_bind (wpAny_pure (wpAny_bind (wpAny_dictEntries ho hdat (wpAny_bind (wpAny_dictEpoch ho hdat ?_)))));refine wpAny_bind (wpAny_newObj_type (wpAny_pure ⟨_,rfl,"dict_keyiterator",_,⟨_,aF6 _ rfl,rfl⟩,F.slot_dict_keyiterator_next.lookup,?_⟩))
  simpa only[rawInt] using hQ
theorem zR{e:DictEntry}{Q:Option Value->Shared->Prop}(hit:s.heap.IsKeyIter it d i es.size ep)(ho:s.heap.get? d=some od)(hdat:od.data=.dict es ep)(hx:es[i]? = some e)
  (hQ:∀h',h'.IsKeyIter it d (i+1) es.size ep->aGC it s.heap h'->Q (some e.key) { s with heap:=h' }):wpAny (model prog w) A (pyNext (.ref it)) Q E s:=by
 obtain⟨oi,hoi,hci,hdi⟩:=id hit;have ty:=hit.typeIs;have own:Builtin.Dict_items.ownsTuple "dict_keyiterator" = false:=by decide
 unfold pyNext;apply wpAny_bind;apply wpAny_attempt;refine wpAny_callSpecial?_slot (name:=Str.ofString "__next__") ty F.slot_dict_keyiterator_next ?call
 case call =>
  refine wpAny_call_entry F.slot_dict_keyiterator_next ty F.entry_dict_keyiterator_next ?body (F.args_dict_keyiterator_next_1 _)
  case body =>
   refine wpAny_bind (wpAny_pure (wpAny_bind (wpAny_bind ?_)));refine wpAny_bind (wpAny_typeNameOfWhole_keyiter ty (wpAny_pure (wpAny_bind (wpAny_fieldsOf hoi hdi ?_))));simp only[own,aGO,if_false];show wpAny _ _ (if(Value.ref d==Value.none)=true then _ else _) _ _ s;rw[if_neg (fun z:(Value.ref d==Value.none)=true=>aGb z)];refine wpAny_bind (wpAny_pure (wpAny_bind (wpAny_dictEntries ho hdat ?_)));rw[if_neg (by simp)];refine wpAny_bind (wpAny_pure (wpAny_bind (wpAny_dictEpoch ho hdat ?_)));rw[if_neg (by simp)];apply wpAny_pure;have neg:¬ ((i:Int)<0):=by lia
   simp only[neg,if_false,aIu,hx];refine wpAny_bind (wpAny_bind (wpAny_typeNameOfWhole_keyiter ty (wpAny_pure (wpAny_bind (wpAny_isOneOf_keyiter ty ?_)))));show wpAny _ _ (setField (.ref it) 1 (rawInt ((i:Int)+1)) >>= fun _=>_) _ _ s;refine wpAny_bind (wpAny_setField hoi hdi (by simp) ?_);have nx:(s.heap.update it (Obj.mapFields (·.setIfInBounds 1 (rawInt ((i:Int)+1))))).IsKeyIter it d (i+1) es.size ep :=
    ⟨_,Heap.get?_update_self _ hoi (Obj.isFreed_of_fields (Obj.data_mapFields hdi _)),(Obj.cls_mapFields ..).trans hci,by rw[Obj.data_mapFields hdi];simp[rawInt]⟩
   refine wpAny_bind (wpAny_holding (wpAny_bind (wpAny_isOneOf_keyiter (s:={ s with heap:=s.heap.update it (Obj.mapFields (·.setIfInBounds 1 (rawInt ((i:Int)+1)))) }) nx.typeIs ?_)));show wpAny _ _ (pure e.key) _ _ _;exact wpAny_pure (wpAny_pure ⟨_,rfl,wpAny_pure (hQ _ nx (aGC.update ..))⟩)
theorem Cr{Q:Option Value->Shared->Prop}(hh:A.handled=none)(hit:s.heap.IsKeyIter it d i es.size ep)(ho:s.heap.get? d=some od)(hdat:od.data=.dict es ep)(hx:es.size<=i)
  (hQ:∀h',Heap.ExtBut it s.heap h'->Q none { s with heap:=h' }):wpAny (model prog w) A (pyNext (.ref it)) Q E s:=by
 obtain⟨oi,hoi,hci,hdi⟩:=id hit;have ty:=hit.typeIs;have own:Builtin.Dict_items.ownsTuple "dict_keyiterator" = false:=by decide
 unfold pyNext;apply wpAny_bind;apply wpAny_attempt;refine wpAny_callSpecial?_slot (name:=Str.ofString "__next__") ty F.slot_dict_keyiterator_next ?call
 case call =>
  refine wpAny_call_entry F.slot_dict_keyiterator_next ty F.entry_dict_keyiterator_next ?body (F.args_dict_keyiterator_next_1 _)
  case body =>
   refine wpAny_bind (wpAny_pure (wpAny_bind (wpAny_bind ?_)));refine wpAny_bind (wpAny_typeNameOfWhole_keyiter ty (wpAny_pure (wpAny_bind (wpAny_fieldsOf hoi hdi ?_))));simp only[own,aGO,if_false];show wpAny _ _ (if(Value.ref d==Value.none)=true then _ else _) _ _ s;rw[if_neg (fun z:(Value.ref d==Value.none)=true=>aGb z)];refine wpAny_bind (wpAny_pure (wpAny_bind (wpAny_dictEntries ho hdat ?_)));rw[if_neg (by simp)];refine wpAny_bind (wpAny_pure (wpAny_bind (wpAny_dictEpoch ho hdat ?_)));rw[if_neg (by simp)];apply wpAny_pure;have neg:¬ ((i:Int)<0):=by lia
   simp only[neg,if_false,aIu,Array.getElem?_eq_none hx];refine wpAny_bind (wpAny_bind (wpAny_typeNameOfWhole_keyiter ty (wpAny_pure ?_)));show wpAny _ _ (setField (.ref it) 0 .none >>= fun _=>_) _ _ s;refine wpAny_bind (wpAny_setField hoi hdi (by simp) ?_);show wpAny _ _ (newExc (.type "StopIteration") [] >>= fun _=>_) _ _ _;apply wpAny_bind;simp only[newExc,newTuple];refine wpAny_bind (wpAny_newObj_type (wpAny_bind (m:=firstArgMember _ _) (wpAny_of_eq (a:=Value.none) (by first |rfl | (simp only[firstArgMember];rfl)) (wpAny_newObj_type ?_ (by size_fits)))) (by size_fits));simp only[raiseNew];refine wpAny_bind (wpAny_handled ?_);rw[show A.in1.handled=aIG from hh];refine wpAny_bind (wpAny_pure (wpAny_throw ?thr));apply wpAny_bind;refine wpAny_isInstance (T:="StopIteration") (b:=true) ⟨_,aF6 _ rfl,rfl⟩ isSubtype_stop ?ends;exact wpAny_pure (hQ _ (((aGC.update ..).extBut.push _).push _))
end
noncomputable def Rv (a:Addr)(o:Obj)(kvs:List (List Key×V)):It :=
 ⟨fun i H=>H a=some (.frz o (.dT kvs))/\i<kvs.length,fun i H x H'=>H'=H/\∃k v q,kvs[i]? = some (k,v)/\x=.ref q/\H q=some (.tup (k.map kV)),fun i H=>H a=some (.frz o (.dT kvs))/\kvs.length<=i⟩
variable{P:Program}{w:World}{H:Hp}{a:Addr}
theorem Fg{h:Heap}{o:Obj}{kvs:List (List Key×V)}(ok:pK P w H h)(e:H a=some (.frz o (.dT kvs))) :
  h.get? a=some o/\o.ExactDict/\∃es ep,o.data=.dict es ep/\es.size=kvs.length/\∀(i:Nat) k v,kvs[i]? = some (k,v)->∃q ent,es[i]? = some ent/\ent.key=.ref q/\H q=some (.tup (k.map kV)):=by
 obtain⟨e1,z,y,xs,r,ob,es,ep,e2,ex,hd,he,nd⟩:=ok a _ e;rw[e1]at e2;cases e2;have hl:kvs.length=xs.length:=Paired.length r;refine⟨e1,ex,es,ep,hd,?_,fun i k v hk=>?_⟩
 ·rw[<-aGq,he,aFJ,hl]
 ·have get:∀{l1:List (List Key×V)}{l2:List (List Key×Addr×Value)}{i:Nat}{k:List Key}{v:V},Paired (fun(p:List Key×V) (q:List Key×Addr×Value)=>p.1=q.1/\H q.2.1=some (.tup (p.1.map kV))/\RelV p.2 q.2.2) l1 l2->l1[i]? = some (k,v) ->
    ∃q:List Key×Addr×Value,l2[i]? = some q/\H q.2.1=some (.tup (k.map kV)):=by
   intro l1 l2 i k v r
   induction r generalizing i with
   |nil=>intro z;simp at z
   |cons h t ih =>
    intro z;cases i with
    |zero=>simp at z;subst z;exact⟨_,rfl,h.2.1⟩
    |succ j=>exact ih (by simpa using z)
  obtain⟨q,hq,ht⟩:=get r hk;refine⟨q.2.1,entryOfKey (tupleKind (eZ P w)) q,?_,rfl,ht⟩;rw[<-aGY,he,aF9,hq]
  rfl
variable{K:PySem.W.Frag}{tg:Expr}
theorem Js(a it:Addr)(o:Obj)(kvs:List (List Key×V))(es:Array DictEntry)(ep:Nat)(hd:o.data=.dict es ep) :
  Turn P w K tg (Rv a o kvs) [it] it (fun i h=>h.IsKeyIter it a i es.size ep) where
 mem:=by simp
 obj:=fun i h st b hb=>by
  have e:b=it:=by simpa using hb
  subst e;obtain⟨o,e,c,d⟩:=st;exact⟨o,e,fun v z=>by rw[d]at z;cases z⟩
 keep:=fun i h h' st k=>st.at fun o e=>k it (by simp) o e
 item:=by
  intro X hP hw hK hc i pins s σ H E I hf st hg;subst hP hw hK;obtain⟨hH,hi⟩:=hg;obtain⟨e1,ex,es',ep',hd',hsz,get⟩:=Fg I.hok hH;rw[hd]at hd';cases hd';obtain⟨q,ent,hent,hkey,ht⟩:=get i _ _ (aFM hi);obtain⟨f0,f1,f2,f3,f4,f5⟩:=hf it (by simp);refine zR st e1 hd hent fun h' st' sb=>?_;have I1:bB X pins σ H { s with heap:=h' }:=I.turned (t':=s.toks) (fun b o hb e=>(sb.2 b hb).trans e) f0 f1 f3 f4 f5;obtain⟨oo,e,c,d⟩:=id st';exact⟨_,rfl,Cq (s:={ s with heap:=h' }) e c d (by decide) ⟨.ref q,H,I1,hkey,⟨rfl,_,_,q,aFM hi,rfl,ht⟩,st',fun b hb=>(hf b hb).1⟩⟩
 done:=by
  intro X hP hw hK hc i pins s σ H E I hf st hg;subst hP hw hK;obtain⟨hH,hi⟩:=hg;obtain⟨e1,ex,es',ep',hd',hsz,get⟩:=Fg I.hok hH;rw[hd]at hd';cases hd';obtain⟨f0,f1,f2,f3,f4,f5⟩:=hf it (by simp);exact Cr (I.ok.hd hc) st e1 hd (by lia) fun h' eb=>⟨rfl,I.turned (t':=s.toks) (fun b o hb e=>eb b o hb e) f0 f1 f3 f4 f5⟩
 self:=fun _ _ _ _ _ st h=>wpAny_pyIter_keyiter st h
theorem bB.freeze{pins:List (Addr×Obj)}{σ:St}{s:Shared}{kvs:List (List Key×V)}(I:bB X pins σ H s)(e:H a=some (.dT kvs)):∃o,s.heap.get? a=some o/\bB X pins σ (bH H a (.frz o (.dT kvs))) s:=by
 have ok:=I.hok a _ e;obtain⟨z,y,xs,r,ob,es,ep,e2,c⟩:=id ok;refine⟨ob,e2,?_⟩;refine I.write (x:=a) (e:=a) (h':=s.heap) (t':=s.toks) (by rw[e];exact trivial) (.inl rfl) (fun _ _ _ q=>q) ⟨_,e2⟩ ⟨e2,?_⟩;refine ok.stay (fun _ _ _ q=>q) (fun b q=>?_) fun b ys q=>?_
 ·rw[aK (fun w=>by rw[w,e]at q;cases q)];exact q
 ·rw[aK (fun w=>by rw[w,e]at q;cases q)];exact q
inductive Q6 (R:It->Hp->Prop)(x:V)(H1:Hp):Prop
 |mk (a:_) (kvs:_) (_:x=.ref a) (_:((H1 a=some (.dT kvs)/\∀o,R (Rv a o kvs) (bH H1 a (.frz o (.dT kvs))))∨∃o,H1 a=some (.frz o (.dT kvs))/\R (Rv a o kvs) H1))
noncomputable def Yp (tl:TE):TI:=fun σ H R=>tl σ H fun x H1=>Q6 R x H1
theorem Hb{pins:List (Addr×Obj)}{σ:St}{s:Shared}{o:Obj}{kvs:List (List Key×V)}{R:It->Hp->Prop}(I:bB X pins σ H s)(e:H a=some (.frz o (.dT kvs)))(q:R (Rv a o kvs) H) :
  wpAny (model X.prog X.w) X.A (pyIter (.ref a)) (PIE X pins σ tg R) X.xe s:=by
 obtain⟨e1,ex,es,ep,hd,hsz,get⟩:=Fg I.hok e;obtain⟨_,_,y,_⟩:=I.hok a _ e;refine Ah y e1 ex hd ?_;refine⟨s.heap.objs.size,[s.heap.objs.size],_,_,H,rfl,I.kept (t':=s.toks) fun b o e=>aFO _ e,Js a _ o kvs es ep hd,⟨_,aF6 _ rfl,rfl,rfl⟩,fun b hb=>?_,q⟩;have e:b=s.heap.objs.size:=by simpa using hb
 subst e;exact I.fpOk (aFV _) (I.hok.fresh (aFV _))
theorem Ou{l:Expr}{tl:TE}(hl:PE X l tl):PI X tg l (Yp tl):=by
 intro pins s σ H R I h;refine eO (hl pins s σ H _ I h) fun v s1 ⟨x,H1,I1,r1,q1⟩=>?_;obtain⟨a,kvs,rfl,q1⟩:=q1;cases(show v=Value.ref a from r1);rcases q1 with⟨e,q⟩ | ⟨o,e,q⟩
 ·obtain⟨o,_,I2⟩:=I1.freeze e;exact Hb I2 aB (q o)
 ·exact Hb I1 e q
noncomputable def Yl (K:PySem.W.Frag)(a:Addr)(xs:List V):It :=
 ⟨fun i H=>i<xs.length/\bV K H a xs,fun i H x H'=>H'=H/\xs[xs.length-1-i]? = some x,fun i H=>xs.length<=i⟩
theorem KQ(a it:Addr)(xs:List V):Turn P w K tg (Yl K a xs) [it] it (fun i h=>i<=xs.length/\h.IsRevIter it a ((xs.length:Int)-1-(i:Int))) where
 mem:=by simp
 obj:=fun i h st b hb=>by
  have e:b=it:=by simpa using hb
  subst e;obtain⟨_,o,e,c,d⟩:=st;exact⟨o,e,fun v z=>by rw[d]at z;cases z⟩
 keep:=fun i h h' st k=>⟨st.1,st.2.at fun o e=>k it (by simp) o e⟩
 item:=by
  intro X hP hw hK hc i pins s σ H E I hf st hg;subst hP hw hK;obtain⟨hi,hS⟩:=hg;obtain⟨_,st⟩:=st;obtain⟨its,rv,p,hz⟩:=I.list hS;have hix:xs.length-1-i<xs.length:=by lia
  obtain⟨u,hu,ru⟩:=rv.get (aFM hix);have ei:(xs.length:Int)-1-(i:Int)=((xs.length-1-i:Nat):Int):=by lia
  rw[ei]at st;obtain⟨f0,f1,f2,f3,f4,f5⟩:=hf it (by simp);refine wpAny_pyNext_rev_item st p.isList (x:=u) (by simpa using hu) fun h' st' sb=>?_;have I1:bB X pins σ H { s with heap:=h' }:=I.turned (t':=s.toks) (fun b o hb e=>(sb.2 b hb).trans e) f0 f1 f3 f4 f5;obtain⟨o,e,c,d⟩:=id st';refine⟨u,rfl,Cq (s:={ s with heap:=h' }) e c d (by decide) ⟨_,H,I1,ru,⟨rfl,aFM hix⟩,⟨hi,?_⟩,fun b hb=>(hf b hb).1⟩⟩;have ej:(xs.length:Int)-1-((i+1:Nat):Int)=((xs.length-1-i:Nat):Int)-1:=by lia
  rw[ej];exact st'
 done:=by
  intro X hP hw hK hc i pins s σ H E I hf st hg;subst hP hw hK;obtain⟨hi,st⟩:=st;have hg:xs.length<=i:=hg;have ei:(xs.length:Int)-1-(i:Int) = -1:=by lia
  rw[ei]at st;obtain⟨f0,f1,f2,f3,f4,f5⟩:=hf it (by simp);exact wpAny_pyNext_rev_end (I.ok.hd hc) st fun h' eb=>⟨rfl,I.turned (t':=s.toks) (fun b o hb e=>eb b o hb e) f0 f1 f3 f4 f5⟩
 self:=fun _ _ _ _ _ st h=>wpAny_pyIter_revIter st.2 h
inductive WF (K:PySem.W.Frag)(R:It->Hp->Prop)(vs:List V)(H1:Hp):Prop
 |mk (a:_) (xs:_) (_:vs=[.ref a]) (_:bV K H1 a xs) (_:R (Yl K a xs) H1)
noncomputable def aAA (K:PySem.W.Frag)(ta:TA):TI:=fun σ H R=>ta σ H fun vs H1=>WF K R vs H1
theorem DG:bootBuiltins "reversed" = some (.type "reversed"):=by decide +kernel
theorem Vd{a:Expr}{ta:TA}{p pos:Pos}(hg:Gl X "reversed")(hm:X.mg "reversed" = none)(ha:PA X [a] ta)(hs:starEach [a] X.env=[(false,eval a X.env)]:=by rfl):PI X tg (.Call (.Name "reversed" p) [a] [] pos) (aAA X.K ta):=by
 intro pins s σ H R I h;refine Call_ (tW I hg hm DG (PyProof.Rows.callWith_type1 (eO (ha pos pins s σ H _ I h) fun us s1 ⟨vs,H1,I1,r1,q1⟩=>?_) hs rfl));obtain⟨b,xs,e,hS,q⟩:=q1;subst e;obtain⟨u,rfl,ru⟩:=vals1 r1;cases(show u=Value.ref b from ru);obtain⟨its,rv,pl,hz⟩:=I1.list hS;refine call_reversed_list pl.isList ?_;have hsz:its.toArray.size=xs.length:=by rw[aFS];exact rv.length.symm
 rw[hsz];have st:Heap.IsRevIter (s1.heap.push (revObj b ((xs.length:Int)-1))) s1.heap.objs.size b ((xs.length:Int)-1-((0:Nat):Int)):=by
  rw[show(xs.length:Int)-1-((0:Nat):Int)=(xs.length:Int)-1 by lia];exact⟨_,aF6 _ rfl,rfl,rfl⟩
 have I2:bB X pins σ H1 { s1 with heap:=s1.heap.push (revObj b ((xs.length:Int)-1)) }:=I1.kept (t':=s1.toks) fun b o e=>aFO _ e;refine wpAny_pyIter_revIter (s:={ s1 with heap:=s1.heap.push (revObj b ((xs.length:Int)-1)) }) st ?_;refine⟨s1.heap.objs.size,[s1.heap.objs.size],_,_,H1,rfl,I2,KQ b _ xs,⟨aGe _,st⟩,fun c hc=>?_,q⟩;have e:c=s1.heap.objs.size:=by simpa using hc
 subst e;exact I1.fpOk (aFV _) (I1.hok.fresh (aFV _))
end
theorem wJ(h:X.K=K):XH X (Ye K):=by subst h;exact cU
theorem Nk(h:X.K=K):XH X (Xc K):=by subst h;exact lR
theorem iV(hK:X.K=K){t:Ol}(hc:X.calm=true)(h:Y0 X es t)
  (hn:(assignEach es X.env).length=n:=by rfl) (hst:(assignEach es X.env).findIdx? (·.1)=none:=by rfl):PG X (.Tuple es k pos) (Yn K n t):=by
 subst hK;exact Ck hc h hn hst
theorem K3{o:Obj}{kvs:List (List Key×V)}{g:TG}{tb:TS}{D:Ends}{σ:St}(Pv:Nat->St->Hp->Prop)(h0:Pv 0 σ H)(hl:∀i σ H,i<=kvs.length->Pv i σ H->H a=some (.frz o (.dT kvs)))
  (hs:∀i k v q σ H,kvs[i]? = some (k,v)->H q=some (.tup (k.map kV))->Pv i σ H->g (.ref q) σ H fun σ2 H2=>tb { D with nx:=Pv (i+1),ct:=Pv (i+1),bk:=D.nx } σ2 H2) (hd:∀σ H,Pv kvs.length σ H->D.nx σ H) :
  ∃W:Nat->Nat->St->Hp->Prop,(∃m,W 0 m σ H)/\∀i m σ H,W i m σ H ->
   ((Rv a o kvs).stop i H/\D.nx σ H)∨((Rv a o kvs).go i H/\∃N:St->Hp->Prop,(∀σ' H',N σ' H'->∃m',m'<m/\W (i+1) m' σ' H')/\∀x H',(Rv a o kvs).yld i H x H'->g x σ H' fun σ2 H2=>tb { D with nx:=N,ct:=N,bk:=D.nx } σ2 H2):=by
 refine⟨fun i m σ H=>m=kvs.length-i/\i<=kvs.length/\Pv i σ H,⟨kvs.length,by simp,aGe _,h0⟩,?_⟩;rintro i m σ H ⟨rfl,hi,p⟩;have q:=hl i σ H hi p
 by_cases hlt:i<kvs.length
 ·refine .inr ⟨⟨q,hlt⟩,Pv (i+1),fun σ' H' p'=>⟨kvs.length-(i+1),by lia,rfl,hlt,p'⟩,fun x H' y=>?_⟩;obtain⟨e,k,v,z,hk,ex,ht⟩:=y;subst e ex;exact hs i k v z σ _ hk ht p
 ·have e:i=kvs.length:=by lia
  subst e;exact .inl ⟨⟨q,aFV _⟩,hd σ H p⟩
theorem Jh{Pg:Program}{mg mb:Str->Option Value}{CX:Av}{fa:Addr}{s₁:Shared}{vs:List Value}{ns:List Int}
  (KX:K.In s₁.heap) (hns:s₁.heap.Ns mainGlobals mg) (hb:s₁.heap.Ns builtinsNs mb) (hbb:∀x:Str,x≠"__name__" -> mb x=bootBuiltins x) (hlim:s₁.heap.NoLimit) (hg:s₁.gens = #[])
  (ha:s₁.heap.get? a=some { cls:=.type "list",data:=.seq vs.toArray }) (hi:IntsAre vs ns) (hl:ns.length<=sizeLine) (hr:Room k callerA)
  (hP:s₁.heap.get? P=some (PySem.W.tabObj #[])) (hC:PySem.W.CodeHd s₁.heap c P) (hB:∃bm ob,mg "__builtins__" = some (.ref bm)/\bm≠builtinsNs/\s₁.heap.get? bm=some ob/\ob.cls=.type "module"/\ob.dict=some builtinsNs/\ob.data=.plain)
  (hKP:K.lookup P=none) (hCK:∀h,K.In h->PySem.W.CodeHd h c P)
  (F:∀base:Heap,K.In base->base.Ns mainGlobals mg->PySem.W.CodeHd base c P->base.BuiltinsAt mg P->aN Pg w K mg base CX k fa fd [x] sp) (hbind:∀(s:Shared) (u:Value),BindsTo s fd ⟨[u],[]⟩ [(x,u)])
  (hsp:∀H:Hp,H P=some (.tbl #[])->bV K H a (ns.map V.int)->sp [.ref a] H (fun v _=>v=.bl true) fun _ _ _=>False)
  (hCX:∀H e s',CX [] H s₁ (fun _ _ _=>False) e s'->False) :
  codeAny (model Pg w) callerA (.call (.ref fa) ⟨[.ref a],[]⟩) (fun r s'=>r=.ok (.ret (.bool true))/\OldK s₁.heap s'.heap/\s'.os=s₁.os/\AllBare s'.gens) s₁:=by
 have rv:=uC hi;have lenV:=hi.length;have haP:a≠P:=fun z=>by rw[z,hP]at ha;cases ha
 have core:∀H:Hp,H P=some (.tbl #[])->(∀b,b≠P->H b=none∨∃xs,b=a/\H b=some (.frz { cls:=.type "list",data:=.seq vs.toArray } (.lst xs)))->bV K H a (ns.map V.int)->pK Pg w H s₁.heap->(H a≠none->K.lookup a=none) ->
   codeAny (model Pg w) callerA (.call (.ref fa) ⟨[.ref a],[]⟩) (fun r s'=>r=.ok (.ret (.bool true))/\OldK s₁.heap s'.heap/\s'.os=s₁.os/\AllBare s'.gens) s₁:=by
  intro H hHP hO hS hok hK;have base_of:∀{b:Addr}{o:Obj},s₁.heap.get? b=some o->H b=none->(yE s₁.heap H).get? b=some o:=fun e n=>Jw e n;have free:∀{b:Addr}{o:Obj},s₁.heap.get? b=some o->(∀xs n,o.data≠.seq xs n)->b≠P->H b=none:=fun{b o} e d nP=>by
   rcases hO b nP with z | ⟨xs,z,_⟩
   ·exact z
   ·rw[z,ha]at e;cases e;exact absurd rfl (d _ _)
  have ndP:∀{b:Addr}{o:Obj}{es:Array DictEntry}{ep:Nat},s₁.heap.get? b=some o->o.data=.dict es ep->b≠P:=fun{b o es ep} e d z=>by
   rw[z,hP]at e;cases e;have d':Data.fields #[]=Data.dict es ep:=d;cases d'
  have nsK:∀{b:Addr}{m:Str->Option Value},s₁.heap.Ns b m->(yE s₁.heap H).Ns b m:=fun{b m} ⟨o,es,ep,e,d,r⟩=>⟨o,es,ep,base_of e (free e (fun xs n z=>by rw[d]at z;cases z) (ndP e d)),d,r⟩
  have hKb:K.In (yE s₁.heap H):=fun b o e=>base_of (KX b o e) (by
   by_cases z:b=P
   ·rw[z,hKP]at e;cases e
   ·rcases hO b z with q | ⟨xs,q,r⟩
    ·exact q
    ·subst q;rw[hK (by rw[r];simp)]at e;cases e)
  have hM:Mod K mg (yE s₁.heap H):=⟨hKb,nsK hns,⟨mb,nsK hb,hbb⟩,let⟨mc,h1,h2⟩:=hlim; ⟨mc,nsK h1,h2⟩⟩
  have e0:Ga Pg w K mg (yE s₁.heap H) callerA [] s₁ H:=⟨rfl,hM,fun b o e=>QB e,aH3 (JM _ _),trivial,fun b hb=>absurd (show b∈([]:List Addr)from hb) (by simp),hok,.of_eq hg⟩
  have hBA:(yE s₁.heap H).BuiltinsAt mg P:=by
   obtain⟨bm,ob,b1,b2,b3,b4,b5,b6⟩:=hB;have nP:bm≠P:=fun z=>by rw[z,hP]at b3;cases b3;cases b4
   have nG:bm≠mainGlobals:=fun z=>by
    obtain⟨o,es,ep,e,d,_⟩:=hns;rw[z,e]at b3;cases b3;rw[d]at b6;cases b6
   exact⟨bm,ob,b1,b2,nG,nP,base_of b3 (free b3 (fun xs n z=>by rw[b6]at z;cases z) nP),b4,b5,b6⟩
  refine codeAny_mono ((F _ hKb (nsK hns) (hCK _ hKb) hBA).run callerA [] s₁ H ⟨[.ref a],[]⟩ [.ref a] [.ref a] _ _ hr e0 (hbind s₁ (.ref a)) (.cons rfl .nil) (hsp H hHP hS)) fun r s' h=>?_;cases r with
  |error e=>exact(hCX H e s' h).elim
  |ok fl =>
   cases fl with
   |next=>exact False.elim h
   |brk=>exact False.elim h
   |cont=>exact False.elim h
   |ret u =>
    obtain⟨v,H',os,bare,un,hok',r',q⟩:=h;have q':v=.bl true:=q;subst q';obtain rfl:u=Value.bool true:=r';have keep:∀b o,b≠P->s₁.heap.get? b=some o->s'.heap.get? b=some o:=fun b o nP e=>by
     rcases hO b nP with z | ⟨xs,z1,z⟩
     ·exact un.keep b o e z (by intro z;exact absurd (show b∈([]:List Addr)from z) (by simp)) (by simp)
     ·obtain⟨e1,_⟩:=hok b _ z;obtain⟨e2,_⟩:=hok' b _ (un.frzs b _ _ z);rw[e]at e1;cases e1;exact e2
    obtain⟨more,hm⟩:=un.tbls P #[] hHP;have hP':s'.heap.get? P=some { cls:=.none,data:=.fields (#[]++more) }:=hok' P _ hm;refine⟨rfl,⟨fun b o e=>?_,fun b o e=>?_⟩,os,bare⟩
    ·by_cases z:b=P
     ·subst z;rw[hP]at e;cases e;exact .inr (.inl ⟨(hC.tab hP).isCodeTable,rfl,#[],more,rfl,hP'⟩)
     ·exact .inl (keep b o z e)
    ·by_cases z:b=P
     ·subst z;exact⟨_,hP'⟩
     ·exact⟨o,keep b o z e⟩
 cases hk:K.lookup a with
 |some o =>
  have e:=KX a o hk;rw[ha]at e;cases e;refine core (fun b=>if b=P then some (.tbl #[])else none) (if_pos rfl) (fun b z=>.inl (if_neg z)) (.inr ⟨_,vs.toArray,_,hk,rfl,rfl,rfl,by rw[aFS,lenV];exact hl,by simpa using rv⟩) (fun b u z=>?_) fun z=>absurd (if_neg haP) z
  by_cases hb:b=P
  ·have z':=(if_pos hb).symm.trans z;cases z';subst hb;exact hP
  ·have z':=(if_neg hb).symm.trans z;cases z'
 |none =>
  refine core (fun b=>if b=P then some (.tbl #[])else if b=a then some (.frz { cls:=.type "list",data:=.seq vs.toArray } (.lst (ns.map V.int)))else none) (if_pos rfl) (fun b z=>?_) (.inl (.inr ⟨{ cls:=.type "list",data:=.seq vs.toArray },(if_neg haP).trans (if_pos rfl)⟩)) (fun b u z=>?_) fun _=>hk
  ·by_cases hb:b=a
   ·exact .inr ⟨_,hb,(if_neg z).trans (if_pos hb)⟩
   ·exact .inl ((if_neg z).trans (if_neg hb))
  ·by_cases hb:b=P
   ·have z':=(if_pos hb).symm.trans z;cases z';subst hb;exact hP
   ·have z1:=(if_neg hb).symm.trans z
    by_cases hb2:b=a
    ·have z':=(if_pos hb2).symm.trans z1;cases z';subst hb2;exact⟨ha,by rw[aFJ];exact hl,vs,_,rv,ha⟩
    ·have z':=(if_neg hb2).symm.trans z1;cases z'
theorem Nx{l:PySem.W.OpenLaw}{q:Program}{loose:List Str}{XP:(Str->Option Value)->Heap->Prop}{YP:World->Heap->Prop}{d d0:DefRec}{K:Params->PySem.W.Frag}{CX:World->Av}{sp:World->Addr->Sp}{x0:Str}
  (hn:l.most=some n) (hn2:n<=sizeLine) (hdf:d.params.defaults=[]) (hr:Room k callerA)
  (h0:(recsOf q).find? (fun e=>e.name==x0)=some d0)
  (hY:∀(w:World) (h:Heap),YP w h->(K w.params).In h)
  (F:∀(w:World) (mg:Str->Option Value) (fa:Addr) (h:Heap),(K w.params).In h->h.Ns mainGlobals mg->mg d.name=some (.ref fa) ->
   ∃(fd:FuncData) (c P:Addr),(∀(s:Shared) (u:Value),BindsTo s fd ⟨[u],[]⟩ [(x,u)])/\PySem.W.tabIn (K w.params) x0=some (c,P)/\PySem.W.codeHdIn (K w.params) c P=true/\(K w.params).lookup P=none ∧
    ∀base:Heap,(K w.params).In base->base.Ns mainGlobals mg->PySem.W.CodeHd base c P->base.BuiltinsAt mg P->aN l.prog w (K w.params) mg base (CX w) k fa fd [x] (sp w P))
  (hsp:∀(w:World) (H:Hp) (a P:Addr) (ns:List Int),ns.length<=n->H P=some (.tbl #[])->bV (K w.params) H a (ns.map V.int)->sp w P [.ref a] H (fun v _=>v=.bl true) fun _ _ _=>False)
  (hCX:∀(w:World) (H:Hp) (s:Shared) (e:Value) (s':Shared),CX w [] H s (fun _ _ _=>False) e s'->False) :
  PySem.W.WalkO q loose XP YP l.row.toRowW d [] (fun f vs=>PySem.call f vs):=by
 refine Att.Fd hn hdf fun w s₀ s₁ mg mb fa o pm cd doc a vs ns G Y ho hd hcd hmg hobj hints hlen hg=>?_;have KX:=hY w _ Y;obtain⟨fd,c,P,hb,ht,hcd,hkp,hF⟩:=F w mg fa _ KX G.T.g hmg;obtain⟨hC,hP⟩:=PySem.W.tab_of G.T KX h0 ht;exact Jh KX G.T.g G.T.b G.T.builtins G.T.nolimit hg hobj hints (aFN hlen hn2) hr hP hC G.T.bmain hkp (fun h X=>PySem.W.codeHd_of_K X hcd) hF hb (fun H hO hS=>hsp w H a P ns hlen hO hS) fun H e s'=>hCX w H s₁ e s'
theorem zP(hc:X.calm=true):fY X (.builtin "max") (fun xs H Q=>∃(a:Addr) (ns:List Int),xs=[.ref a]/\bV X.K H a (ns.map V.int)/\ns≠[]/\∀M,M∈ns->(∀n∈ns,n<=M)->Q (.int M) H):=by
 intro pins s σ H xs us Q I r h;obtain⟨a,ns,rfl,hS,hne,q⟩:=h;obtain⟨u,rfl,ru⟩:=vals1 r;cases(show u=Value.ref a from ru);obtain⟨its,rv,p,hz⟩:=I.list hS;have hi:=intsAre_of rv;obtain⟨zs,e⟩:=(IntsAre.allInts hi).items;have hl:=p.isList;rw[e]at hl;have hns:ns=zs.toList.map (·.1):=by
  have n1:=nums_intItems (xs:=zs);rw[<-e,show its.toArray.toList=its from rfl,IntsAre.numsOf hi]at n1;exact n1
 have hsz:0<zs.size:=by
  rcases aHO zs.size with z |z
  ·exfalso;apply hne;rw[hns];have:zs = #[]:=Array.eq_empty_of_size_eq_zero z;rw[this]
   rfl
  ·exact z
 refine max_intList (I.ok.hd hc) hl hsz fun v h' tk hv hk=>?_;obtain⟨t,rfl⟩:=intItems_at hv;obtain⟨h1,h2⟩:=argBest_gt (numAt zs) (zs.size-1);refine⟨.int _,H,I.kept hk,⟨t,rfl⟩,q _ ?_ fun n hn=>?_⟩
 ·rw[hns,numAt_eq];exact getD_mem (by rw[aFJ,aGq];omega)
 ·rw[hns]at hn;obtain⟨j,hj,rfl⟩:=mem_getD hn;rw[aFJ,aGq]at hj;rw[<-numAt_eq];exact h2 j (by omega)
theorem Vz{P:Program}{kvs:List (List Key×V)}(ok:cX P w H h a (.dT kvs)) :
  (a==sysModules)=false/\∃o,h.get? a=some o/\o.ExactDict/\∃es ep,o.data=.dict es ep/\es.size=kvs.length/\∀(i:Nat) k v,kvs[i]? = some (k,v)->∃q ent,es[i]? = some ent/\ent.key=.ref q/\H q=some (.tup (k.map kV)):=by
 obtain⟨z,y,xs,r,ob,es,ep,e2,ex,hd,he,nd⟩:=ok;have hl:kvs.length=xs.length:=Paired.length r;refine⟨y,ob,e2,ex,es,ep,hd,?_,fun i k v hk=>?_⟩
 ·rw[<-aGq,he,aFJ,hl]
 ·have get:∀{l1:List (List Key×V)}{l2:List (List Key×Addr×Value)}{i:Nat}{k:List Key}{v:V},Paired (fun(p:List Key×V) (q:List Key×Addr×Value)=>p.1=q.1/\H q.2.1=some (.tup (p.1.map kV))/\RelV p.2 q.2.2) l1 l2->l1[i]? = some (k,v) ->
    ∃q:List Key×Addr×Value,l2[i]? = some q/\H q.2.1=some (.tup (k.map kV)):=by
   intro l1 l2 i k v r
   induction r generalizing i with
   |nil=>intro z;simp at z
   |cons h t ih =>
    intro z;cases i with
    |zero=>simp at z;subst z;exact⟨_,rfl,h.2.1⟩
    |succ j=>exact ih (by simpa using z)
  obtain⟨q,hq,ht⟩:=get r hk;refine⟨q.2.1,entryOfKey (tupleKind (eZ P w)) q,?_,rfl,ht⟩;rw[<-aGY,he,aF9,hq]
  rfl
theorem Jb{P:Program}{A:Around}(hh:A.handled=none)(it d:Addr)(hne:it≠d)(o:Obj)(es:Array DictEntry)(ep:Nat)(hd:o.data=.dict es ep) :
  Walks P w A it [it,d] [it] es.size (fun i v=>∃ent,es[i]? = some ent/\ent.key=v) (fun i h=>h.IsKeyIter it d i es.size ep/\h.get? d=some o) where
 sub:=fun b hb=>by rw[aF2.mp hb];exact .head _
 frame:=fun i h h' st k=>⟨st.1.at fun o e=>k it (.head _) o e,k d (.tail _ (.head _)) _ st.2⟩
 item:=fun i s Q E hi st hQ=>by
  refine zR st.1 st.2 hd (aG0 hi) fun h' st' sb=>?_;exact hQ _ h' s.toks ⟨_,aG0 hi,rfl⟩ ⟨st',(sb.2 d (Ne.symm hne)).trans st.2⟩ fun b o hb e=>(sb.2 b (fun z=>hb (by rw[z];exact .head _))).trans e
 done:=fun s Q E st hQ=>by
  refine Cr hh st.1 st.2 hd (aFV _) fun h' eb=>?_;exact hQ h' s.toks fun b o hb e=>eb b o (fun z=>hb (by rw[z];exact .head _)) e
 self:=fun i s Q E st hQ=>wpAny_pyIter_keyiter st.1 hQ
theorem Kq{P:Program}(d:Addr)(lo:(d==sysModules)=false)(o:Obj)(ex:o.ExactDict)(es:Array DictEntry)(ep:Nat)(hd:o.data=.dict es ep) :
  PySem.W.KdlSrc P w "dict" d d es.size (fun i v=>∃ent,es[i]? = some ent/\ent.key=v) (fun h=>h.get? d=some o) where
 type:=fun s e=>⟨o,e,ex.1⟩
 there:=fun h e=>⟨aF3 e,aF3 e⟩
 keep:=fun h h' e k=>k d (.inl rfl) o e
 notList:=by decide
 notTuple:=by decide
 hint:=fun A E s Q e hq=>PySem.W.kdl_hint_dict ⟨o,e,ex.1⟩ hq
 iter:=fun A s hh e=>⟨_,_,(fun E Q hq=>Ah lo e ex hd hq),Jb hh _ d (aH2 (aF3 e)) o es ep hd,⟨⟨_,aF6 _ rfl,rfl,rfl⟩,aFO _ e⟩⟩
theorem Gu(hc:X.calm=true):fY X (.type "list") (fun xs H Q=>∃(d:Addr) (kvs:List (List Key×V)),xs=[.ref d]/\(H d=some (.dT kvs)∨∃o,H d=some (.frz o (.dT kvs))) ∧
  ∀(l:Addr) (qs:List Addr),H l=none->qs.length=kvs.length->(∀(i:Nat) k v,kvs[i]? = some (k,v)->∃q,qs[i]? = some q/\H q=some (.tup (k.map kV)))->Q (.ref l) (bH H l (.lst (qs.map V.ref)))):=by
 intro pins s σ H xs us Q I r h;obtain⟨d,kvs,rfl,hD,q⟩:=h;obtain⟨u,rfl,ru⟩:=vals1 r;cases(show u=Value.ref d from ru);have ok:cX X.prog X.w H s.heap d (.dT kvs):=by
  rcases hD with e | ⟨o,e⟩
  ·exact I.hok d _ e
  ·exact(I.hok d _ e).2
 have hz:kvs.length<=sizeLine:=ok.1;obtain⟨lo,o,e,ex,es,ep,hd,hsz,get⟩:=Vz ok;refine PySem.W.kdl_call (Kq d lo o ex es ep hd) (I.ok.hd hc) e (by rw[hsz];exact hz) fun h' tk acc c hk hl hacc=>?_;have key:∀(i:Nat),i<kvs.length->∃q,acc.toList[i]? = some (Value.ref q)/\∀k v,kvs[i]? = some (k,v)->H q=some (.tup (k.map kV)):=fun i hi=>by
  have hia:i<acc.size:=by rw[hacc.1,hsz];exact hi
  obtain⟨ent,e1,e2⟩:=hacc.2 i _ (aG0 hia);obtain⟨q,ent',e3,e4,e5⟩:=get i _ _ (aFM hi);rw[e1]at e3;cases e3;refine⟨q,?_,fun k v ek=>?_⟩
  ·rw[aGY,aG0 hia,<-e2,e4]
  ·rw[aFM hi]at ek;have ek:=aGU.inj ek;have:kvs[i].1=k:=by rw[ek]
   rw[<-this];exact e5
 have hla:acc.toList.length=kvs.length:=by rw[aGq,hacc.1,hsz]
 have eacc:acc.toList=(acc.toList.map Qo).map Value.ref:=by
  refine List.ext_getElem? fun i=>?_;rw[aF9,aF9]
  by_cases hi:i<kvs.length
  ·obtain⟨q,e1,_⟩:=key i hi;rw[e1]
   rfl
  ·rw[List.getElem?_eq_none (by omega)]
   rfl
 refine⟨.ref s.heap.objs.size,_,I.laid (t':=tk) hk (aFV _) (show cX X.prog X.w _ h' _ (.lst ((acc.toList.map Qo).map V.ref))from⟨?_,acc.toList,c,?_,?_⟩),rfl,q _ (acc.toList.map Qo) (I.hok.fresh (aFV _)) (by rw[aFJ,hla]) fun i k v ek=>?_⟩
 ·rw[aFJ,aFJ,hla];exact hz
 ·have z:=uD (acc.toList.map Qo);rw[<-eacc]at z;exact z
 ·rw[aHH];exact hl
 ·have hi:=(aFU.mp ek).1;obtain⟨q2,e1,e2⟩:=key i hi;exact⟨q2,by rw[aF9,e1];rfl,e2 k v ek⟩
end L2
namespace Fr
theorem Lh(a b:Int):aGz b (a.fmod b)=aGz a b:=by
 rw[aIv,Int.gcd_sub_mul_left_right,Int.gcd_comm]
variable{a:Int}
theorem Ja{b:Int}(hb:b≠0):(a.fmod b).natAbs<b.natAbs:=by
 rcases aIp hb with h |h
 ·have e:a.fmod b = -((-a).fmod (-b)):=by
   rw[aIv,aIv,Int.neg_fdiv_neg,Int.neg_mul]
   lia
  have h1:=aH5 (-a) (show(0:Int) < -b by lia);have h2:=aIq (-a) (show(0:Int) < -b by lia)
  lia
 ·have h1:=aH5 a h;have h2:=aIq a h
  lia
noncomputable def dv (t b:Int):Int:=if b<0 then -(aGz t b:Int)else(aGz t b:Int)
noncomputable def sh (t b:Int):Int×Int:=(t.fdiv (dv t b),b.fdiv (dv t b))
structure mY (t b:Int):Prop where
 pos:0<b
 red:aGz t b=1
theorem uP(t b:Int):(dv t b).natAbs=aGz t b:=by unfold dv;split <;> lia
theorem Rm{t b:Int}(hb:b≠0):dv t b≠0:=by
 have:=aGK t hb;have e:=uP t b
 lia
theorem Ec(t b:Int):dv t b∣t:=by
 have h:=aHX t b;unfold dv
 split
 ·exact Int.neg_dvd.mpr h
 ·exact h
theorem Bw(t b:Int):dv t b∣b:=by
 have h:=aHU t b;unfold dv
 split
 ·exact Int.neg_dvd.mpr h
 ·exact h
theorem Gf(t b:Int):(sh t b).1*dv t b=t:=aIj (Ec t b)
theorem CP(t b:Int):(sh t b).2*dv t b=b:=aIj (Bw t b)
theorem xQ(t b:Int):(sh t b).1*b=t*(sh t b).2:=by
 have h1:=Gf t b;have h2:=CP t b;generalize (sh t b).1=x at *;generalize (sh t b).2=y at *;generalize dv t b=d at *;rw[<-h1,<-h2];rw[Int.mul_assoc x d y,aHz d y]
theorem Gg{t b:Int}(hb:b≠0):0<(sh t b).2:=by
 have h2:=CP t b;have g:=aGK t hb;rcases aIp hb with h |h
 ·have e:dv t b<0:=by unfold dv;rw[if_pos h];lia
  rcases(by lia:0<(sh t b).2∨(sh t b).2<=0)with q |q
  ·exact q
  ·have:=Int.mul_nonneg_of_nonpos_of_nonpos q (aFZ e)
   lia
 ·have e:0<dv t b:=by unfold dv;rw[if_neg (by lia)];lia
  rcases(by lia:0<(sh t b).2∨(sh t b).2<=0)with q |q
  ·exact q
  ·have:=aHt q (aFZ e)
   lia
theorem GR{t b:Int}(hb:b≠0):aGz (sh t b).1 (sh t b).2=1:=by
 have h:=Int.gcd_mul_right (sh t b).1 (dv t b) (sh t b).2;rw[Gf,CP,uP]at h;have g:=aGK t hb;have:1*aGz t b=aGz (sh t b).1 (sh t b).2*aGz t b:=by lia
 exact(Nat.eq_of_mul_eq_mul_right g this).symm
theorem YQ{t b:Int}(hb:b≠0):mY (sh t b).1 (sh t b).2:=⟨Gg hb,GR hb⟩
theorem Zr{b d:Int}(g:aGz a b=1)(h:b∣a*d):b∣d:=by
 have h1:=aIa.mpr h;rw[Int.natAbs_mul]at h1;have h2:Nat.Coprime b.natAbs a.natAbs:=by
  show Nat.gcd b.natAbs a.natAbs=1;rw[Nat.gcd_comm];exact g
 exact aIa.mp (h2.dvd_of_dvd_mul_left h1)
theorem unique{b c d:Int}(p:mY a b)(q:mY c d)(e:a*d=c*b):a=c/\b=d:=by
 have pp:=p.pos;have qp:=q.pos;have h1:b∣d:=by
  have:b∣a*d:=⟨c,by rw[e,aHz]⟩
  exact Zr p.red this
 have h2:d∣b:=by
  have:d∣c*b:=⟨a,by rw[<-e,aHz]⟩
  exact Zr q.red this
 have hbd:b=d:=Int.dvd_antisymm (aFZ pp) (aFZ qp) h1 h2;subst hbd;exact⟨aHg (by lia) e,rfl⟩
end Fr
namespace Tb
structure Rw where
 t:Int
 b:Int
 w:Int
noncomputable def T (B:Int)(r:Rw):Int:=r.t*(B/r.b)
noncomputable def mx (x:Int):Int:=if 0<x then x else 0
noncomputable def S (B l0 l1:Int)(rs:List Rw):Int:=(rs.map fun r=>r.w*mx (T B r*l1-l0*B)).sum
noncomputable def WT (B:Int)(rs:List Rw):Int:=(rs.map fun r=>r.w*T B r).sum
def W (rs:List Rw):Int:=(rs.map (·.w)).sum
structure CM (B:Int)(rs:List Rw):Prop where
 pos:0<B
 dv:∀r∈rs,0<r.b/\r.b∣B
theorem jC(r:Rw)(rs:List Rw):W (r::rs)=r.w+W rs:=by simp[W]
theorem wA(B:Int)(r:Rw)(rs:List Rw):WT B (r::rs)=r.w*T B r+WT B rs:=by simp[WT]
theorem wM(B l0 l1:Int)(r:Rw)(rs:List Rw):S B l0 l1 (r::rs)=r.w*mx (T B r*l1-l0*B)+S B l0 l1 rs:=by simp[S]
theorem DP(B l0 l1:Int)(xs ys:List Rw):S B l0 l1 (xs++ys)=S B l0 l1 xs+S B l0 l1 ys:=by simp[S]
theorem Du(xs ys:List Rw):W (xs++ys)=W xs+W ys:=by simp[W]
variable{B:Int}
theorem cof{b:Int}(hb:0<b)(hB:0<B)(h:b∣B):∃c,0<c/\B=b*c/\B/b=c:=by
 obtain⟨c,e⟩:=h;have hc:0<c:=by
  rcases(by lia:0<c∨c<=0)with z |z
  ·exact z
  ·have:=aGu (aFZ hb) z
   lia
 refine⟨c,hc,e,?_⟩;rw[e,aHz,Int.mul_ediv_cancel _ (by lia)]
theorem LC{r:Rw}(hb:0<r.b)(hB:0<B)(h:r.b∣B):T B r*r.b=r.t*B:=by
 obtain⟨c,hc,e,q⟩:=cof hb hB h;unfold T;rw[q,e]
 grind
theorem Cu{c x:Int}(hc:0<c):0<c*x↔0<x:=by
 constructor
 ·intro h;rcases(by lia:0<x∨x<=0)with z |z
  ·exact z
  ·have:=aGu (aFZ hc) z
   lia
 ·intro h;exact aGP hc h
theorem Jq{l0 l1:Int}{r:Rw}(hb:0<r.b)(hB:0<B)(h:r.b∣B):0<T B r*l1-l0*B↔l0*r.b<r.t*l1:=by
 obtain⟨c,hc,e,q⟩:=cof hb hB h;have e2:T B r*l1-l0*B=c*(r.t*l1-l0*r.b):=by
  unfold T;rw[q,e]
  grind
 rw[e2,Cu hc]
 lia
theorem Z6(x:Int):0<=mx x:=by unfold mx;split <;> lia
theorem Y6(x:Int):x<=mx x:=by unfold mx;split <;> lia
theorem YC{B l0 l1 ws tops:Int}(hw:0<ws)(hl:0<l1)(hc:l0*(ws*B)=tops*l1):∀{hi:List Rw},(∀r∈hi,tops<=T B r*ws)->ws*S B l0 l1 hi=l1*(ws*WT B hi-tops*W hi)
 | [],_=>by simp[S,WT,W]
 |r::hi,h=>by
  have ih:=YC hw hl hc (fun x hx=>h x (aFK _ hx));have hr:=h r aFL;have e:ws*(T B r*l1-l0*B)=l1*(T B r*ws-tops):=by grind
  have m:mx (T B r*l1-l0*B)=T B r*l1-l0*B:=by
   unfold mx
   split
   ·rfl
   ·rename_i n;have h1:0<=l1*(T B r*ws-tops):=aGQ (aFZ hl) (by lia);rw[<-e]at h1;rcases(by lia:T B r*l1-l0*B=0∨T B r*l1-l0*B<0)with z |z
    ·omega
    ·have:=Int.mul_neg_of_pos_of_neg hw z
     lia
  rw[wM,wA,jC,m];have a1:ws*(r.w*(T B r*l1-l0*B)+S B l0 l1 hi)=r.w*(ws*(T B r*l1-l0*B))+ws*S B l0 l1 hi:=by grind
  rw[a1,e,ih]
  grind
theorem YT{B l0 l1 ws tops:Int}(hw:0<ws)(hl:0<l1)(hc:l0*(ws*B)=tops*l1):∀{lo:List Rw},(∀r∈lo,T B r*ws<=tops)->S B l0 l1 lo=0
 | [],_=>by simp[S]
 |r::lo,h=>by
  have ih:=YT hw hl hc (fun x hx=>h x (aFK _ hx));have hr:=h r aFL;have e:ws*(T B r*l1-l0*B)=l1*(T B r*ws-tops):=by grind
  have m:mx (T B r*l1-l0*B)=0:=by
   unfold mx
   split
   ·rename_i n;have h1:=aGP hw n;have h2:l1*(T B r*ws-tops)<=0:=aGu (aFZ hl) (by lia)
    lia
   ·rfl
  rw[wM,m,ih];simp
variable{ws tops P:Int}{hi:List Rw}
theorem Jj{l0 l1:Int}{lo:List Rw}(hw:0<ws)(hl:0<l1)(hc:l0*(ws*B)=tops*l1)(ew:ws=W hi)(et:tops=WT B hi-P)(h1:∀r∈hi,tops<=T B r*ws)(h2:∀r∈lo,T B r*ws<=tops) :
  S B l0 l1 (lo++hi)=P*l1:=by
 have a:=YC hw hl hc h1;have b:=YT hw hl hc h2;rw[DP,b,Int.zero_add];have:ws*S B l0 l1 hi=ws*(P*l1):=by rw[a,<-ew];grind
 exact Int.eq_of_mul_eq_mul_left (by lia) this
theorem Z8(B m0 m1:Int):∀{hi:List Rw},(∀r∈hi,0<=r.w)->m1*WT B hi-m0*B*W hi<=S B m0 m1 hi
 | [],_=>by simp[S,WT,W]
 |r::hi,h=>by
  have ih:=Z8 B m0 m1 (fun x hx=>h x (aFK _ hx));have hr:=h r aFL;have g:=aF1 (Y6 (T B r*m1-m0*B)) hr;rw[wM,wA,jC];have e:m1*(r.w*T B r+WT B hi)-m0*B*(r.w+W hi)=r.w*(T B r*m1-m0*B)+(m1*WT B hi-m0*B*W hi):=by grind
  rw[e]
  lia
theorem Xm(B m0 m1:Int):∀{lo:List Rw},(∀r∈lo,0<=r.w)->0<=S B m0 m1 lo
 | [],_=>by simp[S]
 |r::lo,h=>by
  have ih:=Xm B m0 m1 (fun x hx=>h x (aFK _ hx));have g:=aGQ (h r aFL) (Z6 (T B r*m1-m0*B));rw[wM]
  lia
theorem GK{l0 l1 m0 m1:Int}{lo:List Rw}(hB:0<B)(hw:0<ws)(hl:0<l1)(hc:l0*(ws*B)=tops*l1)(ew:ws=W hi)(et:tops=WT B hi-P)
  (hp:∀r∈lo++hi,0<=r.w) (lt:m0*l1<l0*m1):P*m1<S B m0 m1 (lo++hi):=by
 have a:=Z8 B m0 m1 (hi:=hi) (fun r hr=>hp r (aF4 _ hr));have b:=Xm B m0 m1 (lo:=lo) (fun r hr=>hp r (aGL _ hr));rw[DP];have q:=Int.mul_lt_mul_of_pos_left lt (aGP hw hB);have e1:ws*B*(m0*l1)=l1*(m0*B*ws):=by grind
 have e2:ws*B*(l0*m1)=l1*(m1*tops):=by grind
 rw[e1,e2]at q;have q2:m0*B*ws<m1*tops:=Int.lt_of_mul_lt_mul_left q (aFZ hl);have e3:m1*WT B hi-m0*B*W hi=m1*tops+P*m1-m0*B*ws:=by rw[<-ew];grind
 lia
def Le (x y:Rw):Prop:=x.t*y.b<=y.t*x.b
variable{x y:Rw}
theorem Uc(hB:0<B)(hx:0<x.b)(hy:0<y.b)(dx:x.b∣B)(dy:y.b∣B)(h:Le x y):T B x<=T B y:=by
 have e1:=LC hx hB dx;have e2:=LC hy hB dy;have g:=aF1 h (aFZ hB);have k:(x.b*y.b)*T B x<=(x.b*y.b)*T B y:=by
  have a1:(x.b*y.b)*T B x=B*(x.t*y.b):=by grind
  have a2:(x.b*y.b)*T B y=B*(y.t*x.b):=by grind
  rw[a1,a2];exact g
 exact aHR k (aGP hx hy)
structure Lp (B P:Int)(rs:List Rw)(i:Nat)(tops ws:Int):Prop where
 le:i<=rs.length
 ew:ws=W (rs.drop (rs.length-i))
 et:tops=WT B (rs.drop (rs.length-i))-P
 hi:0<i->∀r∈rs.drop (rs.length-i),tops<=T B r*ws
 z:P=0->i<=1
variable{rs:List Rw}
theorem Lp.start(e:0<=P):Lp B P rs 0 (-P) 0:=by
 refine⟨aGe _,?_,?_,fun h=>absurd h (by lia),fun _=>by lia⟩
 ·simp[W]
 ·simp[WT]
structure Tab (B:Int)(rs:List Rw):Prop where
 cm:CM B rs
 w:∀r∈rs,1<=r.w
 so:rs.Pairwise Le
theorem Lz:∀{rs:List Rw},(∀r∈rs,1<=r.w)->rs≠[]->0<W rs
 | [],_,h=>absurd rfl h
 | [r],h,_=>by
  have:=h r aFL;simp[W]
  lia
 |r::s::rs,h,_=>by
  have:=h r aFL;have q:=Lz (rs:=s::rs) (fun x hx=>h x (aFK _ hx)) (by simp);rw[jC]
  lia
variable{i:Nat}
theorem zK(h:i<rs.length):∃r,rs[rs.length-1-i]? = some r/\rs.drop (rs.length-(i+1))=r::rs.drop (rs.length-i)/\r∈rs:=by
 have hk:rs.length-1-i<rs.length:=by lia
 refine⟨rs[rs.length-1-i],aFM hk,?_,aGB hk⟩;have e1:rs.length-(i+1)=rs.length-1-i:=by lia
 have e2:rs.length-i=rs.length-1-i+1:=by lia
 rw[e1,e2];exact aGG hk
theorem Tab.mono(tb:Tab B rs)(hx:x∈rs)(hy:y∈rs)(h:Le x y):T B x<=T B y :=
 Uc tb.cm.pos (tb.cm.dv x hx).1 (tb.cm.dv y hy).1 (tb.cm.dv x hx).2 (tb.cm.dv y hy).2 h
theorem Lp.ws_pos(tb:Tab B rs)(l:Lp B P rs i tops ws)(h:0<i):0<ws:=by
 rw[l.ew];have:=l.le;refine Lz (fun r hr=>tb.w r (aHh hr)) ?_;intro e;have:=congrArg aG1 e;simp at this
 lia
theorem Lp.next{r:Rw}(tb:Tab B rs)(hP:0<=P)(l:Lp B P rs i tops ws)(hi:i<rs.length)(hr:rs[rs.length-1-i]? = some r)(go:¬ (0<ws/\T B r*ws<=tops)) :
  Lp B P rs (i+1) (tops+r.w*T B r) (ws+r.w):=by
 obtain⟨r',e1,e2,hm⟩:=zK hi;rw[hr]at e1;cases e1;have hw:=tb.w r hm;have last:tops<=T B r*ws:=by
  by_cases h0:0<i
  ·have:=l.ws_pos tb h0
   lia
  ·have z:i=0:=by lia
   subst z;have a:=l.ew;have b:=l.et;simp[W]at a;simp[WT]at b;rw[a,b]
   lia
 have mine:tops+r.w*T B r<=T B r*(ws+r.w):=by
  have:T B r*(ws+r.w)=T B r*ws+r.w*T B r:=by grind
  lia
 have wp:0<ws+r.w:=by
  by_cases h0:0<i
  ·have:=l.ws_pos tb h0
   lia
  ·have z:i=0:=by lia
   subst z;have a:=l.ew;simp[W]at a
   lia
 refine⟨hi,?_,?_,fun _ x hx=>?_,fun p0=>?_⟩
 ·rw[e2,jC,<-l.ew];lia
 ·rw[e2,wA,l.et];lia
 ·rw[e2]at hx;rcases aGi.mp hx with z |z
  ·subst z;exact mine
  ·have pw:(r::rs.drop (rs.length-i)).Pairwise Le:=by
    rw[<-e2];exact tb.so.sublist (aIw _ _)
   have le:=(aG9.mp pw).1 x z;have tm:=tb.mono hm (aHh z) le;have:=aF0 tm (aFZ wp)
   lia
 ·have k:=l.z p0;rcases(by lia:i=0∨i=1)with z |z
  ·lia
  ·exfalso;subst z;apply go;have wp1:=l.ws_pos tb (by decide);refine⟨wp1,?_⟩;obtain⟨r2,f1,f2,fm⟩:=zK (rs:=rs) (i:=0) (by lia);have f3:rs.drop (rs.length-1)=[r2]:=by
    have:rs.drop (rs.length-0)=[]:=by simp
    rw[f2,this]
   have a:=l.ew;have b:=l.et;rw[f3]at a b;simp[W]at a;simp[WT]at b;have pw:(r::rs.drop (rs.length-1)).Pairwise Le:=by
    rw[<-e2];exact tb.so.sublist (aIw _ _)
   have le:=(aG9.mp pw).1 r2 (by rw[f3];exact aFL);have tm:=tb.mono hm fm le;have:=aF0 tm (aFZ wp1);rw[b,a]at *;have e:T B r2*r2.w=r2.w*T B r2:=aHz _ _
   lia
structure Lv (B P l0 l1:Int)(rs:List Rw):Prop where
 pos:0<l1
 has:S B l0 l1 rs=P*l1
 more:∀m0 m1:Int,m0*l1<l0*m1->P*m1<S B m0 m1 rs
theorem Lp.ends{l0 l1:Int}(tb:Tab B rs)(l:Lp B P rs i tops ws)(h0:0<i)(stop:i=rs.length∨∃r,rs[rs.length-1-i]? = some r/\i<rs.length/\T B r*ws<=tops)
  (hl:0<l1) (hc:l0*(ws*B)=tops*l1):Lv B P l0 l1 rs:=by
 have wp:=l.ws_pos tb h0;have e:rs=rs.take (rs.length-i)++rs.drop (rs.length-i):=(aGZ _ _).symm;have lo:∀r∈rs.take (rs.length-i),T B r*ws<=tops:=by
  rcases stop with z | ⟨r,hr,hi,ht⟩
  ·subst z;simp
  ·intro x hx;obtain⟨j,hj,ex⟩:=aIg.mp hx;rw[aGh]at hj;rw[List.getElem_take]at ex;have hk:rs.length-1-i<rs.length:=by lia
   rw[aFM hk]at hr;have er:=aGU.inj hr;have tm:T B x<=T B r:=by
    by_cases ej:j=rs.length-1-i
    ·subst ej;rw[<-ex,<-er];exact aGE _
    ·have le:=aHS.mp tb.so j (rs.length-1-i) (by lia) hk (by lia);rw[ex,er]at le;exact tb.mono (by rw[<-ex];exact aGB _) (by rw[<-er];exact aGB _) le
   have:=aF0 tm (aFZ wp)
   lia
 refine⟨hl,?_,fun m0 m1 lt=>?_⟩
 ·rw[e];exact Jj wp hl hc l.ew l.et (l.hi h0) lo
 ·rw[e];exact GK tb.cm.pos wp hl hc l.ew l.et (fun r hr=>by rw[<-e]at hr;have:=tb.w r hr;lia) lt
noncomputable def Wt (ps:List Rw)(t b:Int):Int:=(ps.map fun r=>if r.t=t/\r.b=b then r.w else 0).sum
def wH (ps:List Rw)(t b:Int):Prop:=∃p∈ps,p.t=t/\p.b=b
def Lt (x y:Rw):Prop:=x.t*y.b<y.t*x.b
structure Dg (ps ys:List Rw):Prop where
 lt:ys.Pairwise Lt
 fr:∀y∈ys,Fr.mY y.t y.b
 has:∀t b,wH ys t b↔wH ps t b
 d:∃d,0<d/\∀y∈ys,Wt ps y.t y.b=y.w*d
 one:∀e:Int,(∀y∈ys,e∣y.w)->e∣1
theorem XR(t b:Int):Wt [] t b=0:=rfl
theorem mW(r:Rw)(ps:List Rw)(t b:Int):Wt (r::ps) t b=(if r.t=t/\r.b=b then r.w else 0)+Wt ps t b:=by simp[Wt]
theorem z6(ps qs:List Rw)(t b:Int):Wt (ps++qs) t b=Wt ps t b+Wt qs t b:=by simp[Wt]
theorem m8{ps qs:List Rw}{t b:Int}:wH (ps++qs) t b↔wH ps t b∨wH qs t b:=by
 constructor
 ·rintro⟨p,hp,e⟩;rcases aGc.mp hp with z |z
  ·exact .inl ⟨p,z,e⟩
  ·exact .inr ⟨p,z,e⟩
 ·rintro(⟨p,hp,e⟩ | ⟨p,hp,e⟩)
  ·exact⟨p,aGL _ hp,e⟩
  ·exact⟨p,aF4 _ hp,e⟩
theorem kW{r:Rw}{ps:List Rw}{t b:Int}:wH (r::ps) t b↔(r.t=t/\r.b=b)∨wH ps t b:=by
 constructor
 ·rintro⟨p,hp,e⟩;rcases aGi.mp hp with z |z
  ·subst z;exact .inl e
  ·exact .inr ⟨p,z,e⟩
 ·rintro(e | ⟨p,hp,e⟩)
  ·exact⟨r,aFL,e⟩
  ·exact⟨p,aFK _ hp,e⟩
theorem vX{t b:Int}:¬ wH [] t b:=by rintro⟨p,hp,_⟩;cases hp
theorem Hh:∀{ps:List Rw}{t b:Int},¬ wH ps t b->Wt ps t b=0
 | [],_,_,_=>rfl
 |r::ps,t,b,h=>by
  rw[mW,if_neg fun e=>h (kW.mpr (.inl e)),Hh fun e=>h (kW.mpr (.inr e))]
  rfl
theorem Qu:∀{ps:List Rw} (t b:Int),(∀r∈ps,1<=r.w)->0<=Wt ps t b
 | [],_,_,_=>aGE 0
 |r::ps,t,b,h=>by
  have:=Qu t b fun x hx=>h x (aFK _ hx);have hr:=h r aFL;rw[mW]
  split <;> lia
theorem Bc:∀{ps:List Rw}{t b:Int},(∀r∈ps,1<=r.w)->wH ps t b->1<=Wt ps t b
 | [],_,_,_,h=>absurd h vX
 |r::ps,t,b,h,q=>by
  have hr:=h r aFL;have hn:=Qu t b fun x hx=>h x (aFK _ hx);rw[mW]
  split
  ·lia
  ·rename_i ne;rcases kW.mp q with z |z
   ·exact absurd z ne
   ·have:=Bc (fun x hx=>h x (aFK _ hx)) z
    lia
theorem RG:∀{ps:List Rw} (t b:Int),(∀r∈ps,1<=r.w)->Wt ps t b<=W ps
 | [],_,_,_=>aGE 0
 |r::ps,t,b,h=>by
  have hr:=h r aFL;have:=RG t b fun x hx=>h x (aFK _ hx);rw[mW,jC]
  split <;> lia
theorem LR(h:Lt x y)(e1:x.t=y.t)(e2:x.b=y.b):False:=by
 unfold Lt at h;rw[e1,e2]at h
 lia
theorem O1{t b u c m:Int}(hb:0<b)(hc:0<c)(bm:b<=m)(cm:c<=m)(lt:t*c<u*b):(t*(m*m)).fdiv b<(u*(m*m)).fdiv c:=by
 have hm:0<m:=by lia
 rw[aGW _ (aFZ hb),aGW _ (aFZ hc)];have k1:(t*(m*m))/b*b<=t*(m*m):=Int.ediv_mul_le _ (aGv hb);have hbc:b*c<=m*m:=Int.mul_le_mul bm cm (aFZ hc) (aFZ hm);have h1:(t*c+1)*(m*m)<=u*b*(m*m):=aF0 (by lia) (aFZ (aGP hm hm))
 suffices h:(t*(m*m))/b+1<=(u*(m*m))/c by lia
 refine(Int.le_ediv_iff_mul_le hc).mpr ?_;have h2:b*(((t*(m*m))/b+1)*c)<=b*(u*(m*m)):=by
  have e1:b*(((t*(m*m))/b+1)*c)=c*((t*(m*m))/b*b)+b*c:=by grind
  have e2:b*(u*(m*m))=u*b*(m*m):=by grind
  have e3:(t*c+1)*(m*m)=c*(t*(m*m))+m*m:=by grind
  have h3:=aF1 k1 (aFZ hc)
  lia
 exact aHR h2 hb
noncomputable def xD (ns:List Int):Int:=ns.foldl (fun d n=>((aGz d n:Nat):Int)) 0
theorem J1(ns:List Int)(n:Int):xD (ns++[n])=((aGz (xD ns) n:Nat):Int):=by unfold xD;rw[aIx];rfl
theorem xJ:∀(ns:List Int) (d:Int),(ns.foldl (fun d n=>((aGz d n:Nat):Int)) d∣d)/\(∀n∈ns,ns.foldl (fun d n=>((aGz d n:Nat):Int)) d∣n)/\∀e:Int,e∣d->(∀n∈ns,e∣n)->e∣ns.foldl (fun d n=>((aGz d n:Nat):Int)) d
 | [],d=>⟨aH6 d,(fun _ h=>nomatch h),fun e h _=>h⟩
 |n::ns,d=>by
  obtain⟨a,b,c⟩:=xJ ns ((aGz d n:Nat):Int);refine⟨aHo a (aHX d n),fun k hk=>?_,fun e he hn=>c e (Int.dvd_coe_gcd he (hn n aFL)) fun k hk=>hn k (aFK _ hk)⟩;rcases aGi.mp hk with z |z
  ·subst z;exact aHo a (aHU d k)
  ·exact b k z
variable{ns:List Int}
theorem xW{n:Int}(h:n∈ns):xD ns∣n:=(xJ ns 0).2.1 n h
theorem GJ{e:Int}(h:∀n∈ns,e∣n):e∣xD ns:=(xJ ns 0).2.2 e (Int.dvd_zero e) h
theorem Hz:∀(ns:List Int) (d:Int),0<=d->0<=ns.foldl (fun d n=>((aGz d n:Nat):Int)) d
 | [],_,h=>h
 |n::ns,d,_=>Hz ns _ (Int.natCast_nonneg _)
theorem KR{n:Int}(h:n∈ns)(hn:1<=n):0<xD ns:=by
 have h0:0<=xD ns:=Hz ns 0 (aGE 0);rcases(by lia:0<xD ns∨xD ns=0)with z |z
 ·exact z
 ·have:=xW h;rw[z]at this;have:=Int.zero_dvd.mp this
  lia
end Tb
set_option maxHeartbeats 4000000
namespace TD
open PySem L2
open Builtin.Int (intBits)
structure Row where
 p:Addr
 q:Addr
 t:Int
 b:Int
 w:Int
noncomputable def Row.r (x:Row):Tb.Rw:=⟨x.t,x.b,x.w⟩
def kZ (H:Hp)(x:Row):Prop:=H x.p=some (.tup [.ref x.q,.int x.w])/\H x.q=some (.tup [.int x.t,.int x.b])
noncomputable def refs (xs:List Row):List V:=xs.map fun x=>V.ref x.p
structure TabAt (H:Hp)(a:Addr)(xs:List Row):Prop where
 lst:H a=some (.lst (refs xs))
 rows:∀x∈xs,kZ H x
noncomputable def eF (xs:List Row):List Tb.Rw:=xs.map Row.r
variable{H:Hp}
theorem kZ.same{H':Hp}{x:Row}(s:aP H H')(h:kZ H x):kZ H' x:=⟨s _ _ h.1,s _ _ h.2⟩
variable{xs:List Row}
theorem TabAt.same{H':Hp}{a:Addr}(s:aP H H')(h:TabAt H a xs):TabAt H' a xs:=⟨s _ _ h.lst,fun x hx=>(h.rows x hx).same s⟩
theorem refs_length(xs:List Row):(refs xs).length=xs.length:=aFJ _
theorem gA(xs:List Row):(eF xs).length=xs.length:=aFJ _
variable{i:Nat}{v:V}
theorem pN(h:(refs xs)[i]? = some v):∃x,xs[i]? = some x/\v=.ref x.p:=by
 unfold refs at h;rw[aF9]at h;cases e:xs[i]? with
 |none=>rw[e]at h;cases h
 |some x=>rw[e]at h;cases h;exact⟨x,rfl,rfl⟩
theorem pJ(xs:List Row)(y:Row):refs (xs++[y])=refs xs++[V.ref y.p]:=by unfold refs;rw[aFQ];rfl
theorem mQ(xs:List Row)(y:Row):eF (xs++[y])=eF xs++[y.r]:=by unfold eF;rw[aFQ];rfl
theorem Gs(xs ys:List Row):eF (xs++ys)=eF xs++eF ys:=by unfold eF;rw[aFQ]
theorem take_snoc{α:Type}{xs:List α}{x:α}(h:xs[i]? = some x):xs.take (i+1)=xs.take i++[x]:=by
 rw[aHT,h]
 rfl
theorem kZ.over{a:Addr}{xs zs:List V}{x:Row}(h:kZ H x)(e:H a=some (.lst xs)):kZ (bH H a (.lst zs)) x :=
 ⟨by rw[aK (dG h.1 e fun z=>nomatch z)];exact h.1,by rw[aK (dG h.2 e fun z=>nomatch z)];exact h.2⟩
theorem Qn:1<=sizeLine:=aGt (aU (by decide))
theorem uI:2<=sizeLine:=aGt (aU (by decide))
theorem Pk:3<=sizeLine:=aGt (aU (by decide))
theorem jP{m n:Nat}{x y:Int}(hx:intBits x<=m)(hy:intBits y<=n)(h:m+n<=134217728):O4 x y:=aFN (Nat.add_le_add hx hy) h
variable{K:PySem.W.Frag}
theorem fP(T:String):PySem.W.kitOne K (.type T) (.type T)=some true:=by
 unfold PySem.W.kitOne;rw[if_pos (beq_self_eq_true _)]
theorem Be:PySem.W.kitOne K (.type "int") (.type "bool")=some false:=by rfl
structure Rs where
 q:Addr
 t:Int
 b:Int
noncomputable def nJ (rs:List Rs):List V:=rs.map fun r=>V.ref r.q
def X3 (x y:Rs):Prop:=x.t*y.b<y.t*x.b
def LeR (x y:Rs):Prop:=x.t*y.b<=y.t*x.b
noncomputable def lX (r:Rs):List Key:=[.inl r.t,.inl r.b]
def Vq (H:Hp)(r:Rs):Prop:=H r.q=some (.tup [.int r.t,.int r.b])
theorem rG(rs:List Rs):(nJ rs).length=rs.length:=aFJ _
theorem QW(rs:List Rs):nJ rs=(rs.map (·.q)).map V.ref:=by unfold nJ;rw[aGr];rfl
variable{rs:List Rs}
theorem Dj(h:(nJ rs)[i]? = some v):∃x,rs[i]? = some x/\v=.ref x.q:=by
 unfold nJ at h;rw[aF9]at h;cases e:rs[i]? with
 |none=>rw[e]at h;cases h
 |some x=>rw[e]at h;cases h;exact⟨x,rfl,rfl⟩
theorem wD{x:Rs}{t b:Int}:lX x=[.inl t,.inl b]↔x.t=t/\x.b=b:=by
 unfold lX;constructor
 ·intro h;injection h with h1 h2
  injection h2 with h2 _
  injection h1 with h1
  injection h2 with h2
  exact⟨h1,h2⟩
 ·rintro⟨rfl,rfl⟩;rfl
theorem Xo{x y:Rs}(fx:Fr.mY x.t x.b)(fy:Fr.mY y.t y.b)(h:LeR x y)(ne:lX x≠lX y):X3 x y:=by
 unfold LeR at h;unfold X3;rcases(by lia:x.t*y.b<y.t*x.b∨x.t*y.b=y.t*x.b)with z |z
 ·exact z
 ·obtain⟨e1,e2⟩:=Fr.unique fx fy z;exact absurd (wD.mpr ⟨e1,e2⟩) ne
structure Dk (ps:List Tb.Rw)(kvs:List (List Key×V)):Prop where
 nd:(kvs.map (·.1)).Nodup
 en:∀kv∈kvs,∃t b,kv=([.inl t,.inl b],.int (Tb.Wt ps t b))/\Tb.wH ps t b
 all:∀t b,Tb.wH ps t b->([Sum.inl t,Sum.inl b]:List Key)∈kvs.map (·.1)
theorem Dk.nil:Dk [] []:=⟨aIf,(fun _ h=>nomatch h),fun t b h=>absurd h Tb.vX⟩
variable{k:List Key}
theorem xY{kvs:List (List Key×V)}(h:oH kvs k=some v):(k,v)∈kvs:=by
 unfold oH at h;cases e:kvs.find? fun kv=>decide (kv.1=k)with
 |none=>rw[e]at h;cases h
 |some kv =>
  rw[e]at h;have h1:kv.2=v:=aGU.inj h;have h2:=List.find?_some e;have h3:kv.1=k:=of_decide_eq_true h2;rw[<-h1,<-h3];exact List.mem_of_find?_eq_some e
theorem HR{t b t' b':Int}(h:([Sum.inl t,Sum.inl b]:List Key)=[.inl t',.inl b']):t=t'/\b=b':=by
 injection h with h1 h2
 injection h2 with h2 _
 injection h1 with h1
 injection h2 with h2
 exact⟨h1,h2⟩
theorem Dk.val{ps:List Tb.Rw}{kvs:List (List Key×V)}(d:Dk ps kvs){t b:Int}(h:Tb.wH ps t b):oH kvs [.inl t,.inl b]=some (.int (Tb.Wt ps t b)):=by
 cases e:oH kvs [.inl t,.inl b] with
 |none=>exact absurd (d.all t b h) (LK e)
 |some v =>
  obtain⟨t',b',e2,_⟩:=d.en _ (xY e);injection e2 with e3 e4
  obtain⟨rfl,rfl⟩:=HR e3;rw[e4]
theorem Dk.get{ps:List Tb.Rw}{kvs:List (List Key×V)}(d:Dk ps kvs)(t b:Int):(oH kvs [.inl t,.inl b]).getD (.int 0)=.int (Tb.Wt ps t b):=by
 by_cases h:Tb.wH ps t b
 ·rw[d.val h];rfl
 ·cases e:oH kvs [.inl t,.inl b] with
  |none=>rw[Tb.Hh h];rfl
  |some v =>
   obtain⟨t',b',e2,h2⟩:=d.en _ (xY e);injection e2 with e3 e4
   obtain⟨rfl,rfl⟩:=HR e3;exact absurd h2 h
theorem M9{kvs:List (List Key×V)}{kv:List Key×V}(h:kv∈putK kvs k v):kv=(k,v)∨(kv∈kvs/\kv.1≠k):=by
 unfold putK at h
 split at h
 ·obtain⟨x,hx,e⟩:=aFT.mp h
  split at e
  ·rename_i ek
   left
   rw[<-e,ek]
  ·rename_i ek
   right
   rw[<-e];exact⟨hx,ek⟩
 ·rename_i na;rcases aGc.mp h with z |z
  ·right
   refine⟨z,fun ek=>na ?_⟩;exact aHF.mpr ⟨kv,z,decide_eq_true ek⟩
  ·exact .inl (by simpa using z)
theorem Ai{kvs:List (List Key×V)}:(putK kvs k v).map (·.1)=if(kvs.any fun kv=>decide (kv.1=k))=true then kvs.map (·.1)else kvs.map (·.1)++[k]:=by
 unfold putK
 split
 ·rw[aGr];refine aGH fun x _=>?_;show(if x.1=k then(x.1,v)else x).1=x.1
  split <;> rfl
 ·rw[aFQ];rfl
theorem Dk.put{ps:List Tb.Rw}{kvs:List (List Key×V)}(d:Dk ps kvs)(x:Tb.Rw):Dk (ps++[x]) (putK kvs [.inl x.t,.inl x.b] (.int (Tb.Wt ps x.t x.b+x.w))):=by
 have hx:∀t b,Tb.Wt [x] t b=if x.t=t/\x.b=b then x.w else 0:=fun t b=>by rw[Tb.mW,Tb.XR,Int.add_zero]
 refine⟨?_,fun kv hkv=>?_,fun t b h=>?_⟩
 ·rw[Ai]
  split
  ·exact d.nd
  ·rename_i na;refine aIy.mpr ⟨d.nd,aHa.mpr ⟨List.not_mem_nil,aIf⟩,fun y hy z hz=>?_⟩;rw[aF2.mp hz];rintro rfl;obtain⟨kv,hkv,e⟩:=aFT.mp hy;exact na (aHF.mpr ⟨kv,hkv,decide_eq_true e⟩)
 ·rcases M9 hkv with z | ⟨z,ne⟩
  ·refine⟨x.t,x.b,?_,Tb.m8.mpr (.inr ⟨x,aFL,rfl,rfl⟩)⟩;rw[z,Tb.z6,hx,if_pos ⟨rfl,rfl⟩]
  ·obtain⟨t,b,e,h⟩:=d.en kv z;refine⟨t,b,?_,Tb.m8.mpr (.inl h)⟩;rw[Tb.z6,hx,if_neg ?_,Int.add_zero]
   ·exact e
   ·rintro⟨rfl,rfl⟩;exact ne (by rw[e])
 ·rw[Ai];have key:([Sum.inl t,Sum.inl b]:List Key)∈kvs.map (·.1)∨([Sum.inl t,Sum.inl b]:List Key)=[.inl x.t,.inl x.b]:=by
   rcases Tb.m8.mp h with z | ⟨p,hp,e1,e2⟩
   ·exact .inl (d.all t b z)
   ·right
    rw[aF2.mp hp]at e1 e2;rw[e1,e2]
  split
  ·rename_i ya;rcases key with z |z
   ·exact z
   ·obtain⟨kv,hkv,e⟩:=aHF.mp ya;rw[z,<-of_decide_eq_true e];exact aFT.mpr ⟨kv,hkv,rfl⟩
  ·rcases key with z |z
   ·exact aGL _ z
   ·rw[z];exact aF4 _ (.head _)
noncomputable def wOf (kv:List Key×V):Int:=match kv.2 with | .int w=>w |_=>0
noncomputable def jV (kvs:List (List Key×V)):Int:=Tb.xD (kvs.map wOf)
theorem Dk.wOf{ps:List Tb.Rw}{kvs:List (List Key×V)}(d:Dk ps kvs){t b:Int}(h:Tb.wH ps t b):Tb.Wt ps t b∈kvs.map TD.wOf:=by
 have m:=xY (d.val h);exact aFT.mpr ⟨_,m,rfl⟩
theorem Dk.ne{ps:List Tb.Rw}{kvs:List (List Key×V)}(d:Dk ps kvs)(h:ps≠[]):kvs≠[]:=by
 cases ps with
 |nil=>exact absurd rfl h
 |cons p ps =>
  intro e;have:=d.all p.t p.b (Tb.kW.mpr (.inl ⟨rfl,rfl⟩));rw[e]at this;cases this
theorem Dk.div_pos{ps:List Tb.Rw}{kvs:List (List Key×V)}(d:Dk ps kvs)(h:ps≠[])(hw:∀p∈ps,1<=p.w):0<jV kvs:=by
 cases ps with
 |nil=>exact absurd rfl h
 |cons p ps =>
  have hp:Tb.wH (p::ps) p.t p.b:=Tb.kW.mpr (.inl ⟨rfl,rfl⟩);exact Tb.KR (d.wOf hp) (Tb.Bc hw hp)
theorem Pr{w d:Int}(hd:0<d)(hw:1<=w)(h:d∣w):w=w.fdiv d*d/\1<=w.fdiv d/\w.fdiv d<=w:=by
 obtain⟨c,e⟩:=h;have ec:w.fdiv d=c:=by
  have h:=aHp (a:=d) c (aGv hd);rw[<-e]at h;exact h
 rw[ec];have cp:0<c:=by
  rcases(by lia:0<c∨c<=0)with z |z
  ·exact z
  ·have:=aGu (aFZ hd) z
   lia
 have:=aF0 (show(1:Int)<=d by lia) (aFZ cp);refine⟨by rw[e,aHz],by lia,by lia⟩
variable{ys:List Row}
theorem Vj{ps:List Tb.Rw}{kvs:List (List Key×V)}(d:Dk ps kvs)(hw:∀p∈ps,1<=p.w)(hf:∀p∈ps,Fr.mY p.t p.b)(hne:ps≠[])(pr:(rs.map lX).Perm (kvs.map (·.1)))(so:rs.Pairwise X3)
  (ey:ys.map (fun y=>Rs.mk y.q y.t y.b)=rs) (yw:∀y∈ys,y.w=(Tb.Wt ps y.t y.b).fdiv (jV kvs)):Tb.Dg ps (eF ys)/\∀y∈ys,1<=y.w/\y.w<=Tb.Wt ps y.t y.b:=by
 have dp:=d.div_pos hne hw;have yk:∀y∈ys,Tb.wH ps y.t y.b:=fun y hy=>by
  have h1:lX (Rs.mk y.q y.t y.b)∈rs.map lX:=by
   rw[<-ey];exact aFT.mpr ⟨_,aFT.mpr ⟨y,hy,rfl⟩,rfl⟩
  obtain⟨kv,hkv,e⟩:=aFT.mp (pr.mem_iff.mp h1);obtain⟨t,b,e2,h⟩:=d.en kv hkv;rw[e2]at e;obtain⟨e3,e4⟩:=wD.mp e.symm;have e3:y.t=t:=e3;have e4:y.b=b:=e4;rw[e3,e4];exact h
 have pb:∀y∈ys,Tb.Wt ps y.t y.b=y.w*jV kvs/\1<=y.w/\y.w<=Tb.Wt ps y.t y.b:=fun y hy=>by
  rw[yw y hy];exact Pr dp (Tb.Bc hw (yk y hy)) (Tb.xW (d.wOf (yk y hy)))
 have back:∀t b,Tb.wH ps t b->∃y∈ys,y.t=t/\y.b=b:=fun t b h=>by
  obtain⟨r,hr,e⟩:=aFT.mp (pr.mem_iff.mpr (d.all t b h));rw[<-ey]at hr;obtain⟨y,hy,rfl⟩:=aFT.mp hr;exact⟨y,hy,wD.mp e⟩
 refine⟨⟨?_,fun y hy=>?_,fun t b=>?_,⟨jV kvs,dp,fun y hy=>?_⟩,fun e he=>?_⟩,fun y hy=>(pb y hy).2⟩
 ·have h:(ys.map fun y=>Rs.mk y.q y.t y.b).Pairwise X3:=by rw[ey];exact so
  unfold eF;rw[aHy]at h ⊢;exact h
 ·obtain⟨z,hz,rfl⟩:=aFT.mp hy;obtain⟨p,hp,e1,e2⟩:=yk z hz;have:=hf p hp;rw[e1,e2]at this;exact this
 ·constructor
  ·rintro⟨y,hy,rfl,rfl⟩;obtain⟨z,hz,rfl⟩:=aFT.mp hy;exact yk z hz
  ·intro h;obtain⟨y,hy,e1,e2⟩:=back t b h;exact⟨y.r,aFT.mpr ⟨y,hy,rfl⟩,e1,e2⟩
 ·obtain⟨z,hz,rfl⟩:=aFT.mp hy;exact(pb z hz).1
 ·have g:e*jV kvs∣jV kvs:=by
   refine Tb.GJ fun n hn=>?_;obtain⟨kv,hkv,rfl⟩:=aFT.mp hn;obtain⟨t,b,e2,h⟩:=d.en kv hkv;obtain⟨y,hy,rfl,rfl⟩:=back t b h;have q:=(pb y hy).1;have q2:=he y.r (aFT.mpr ⟨y,hy,rfl⟩);rw[e2];show e*jV kvs∣Tb.Wt ps y.t y.b;rw[q];exact Int.mul_dvd_mul_right _ q2
  have g2:e*jV kvs∣1*jV kvs:=by rw[Int.one_mul];exact g
  exact Int.dvd_of_mul_dvd_mul_right (aGv dp) g2
theorem J7{α β:Type}{f:α->β}:∀{x m:List β},x.Perm m->∀l:List α,x=l.map f->∃l':List α,l'.Perm l/\m=l'.map f:=by
 intro x m h
 induction h with
 |nil=>intro l e;exact⟨l,.refl _,e⟩
 |cons a p ih =>
  intro l e;cases l with
  |nil=>cases e
  |cons b l =>
   injection e with e1 e2
   obtain⟨l',p',e'⟩:=ih l e2;exact⟨b::l',p'.cons b,by rw[aFP,<-e1,<-e']⟩
 |swap a b t =>
  intro l e
  match l,e with
  |c::d::l,e =>
   injection e with e1 e2
   injection e2 with e2 e3
   exact⟨d::c::l,.swap ..,by rw[aFP,aFP,<-e1,<-e2,<-e3]⟩
 |trans p q ih1 ih2 =>
  intro l e;obtain⟨l1,p1,e1⟩:=ih1 l e;obtain⟨l2,p2,e2⟩:=ih2 l1 e1;exact⟨l2,p2.trans p1,e2⟩
noncomputable def Mf (m:Int)(r:Rs):Int:=(r.t*(m*m)).fdiv r.b
theorem Ew{β:Type}(f:Rs->β)(g:Rs->Addr):∀rs:List Rs,(rs.map f).zip (rs.map g)=rs.map fun r=>(f r,g r)
 | []=>rfl
 |r::rs=>by simp[Ew f g rs]
theorem Px{m:Int}{ps:List (Int×Addr)}(hp:ps.Perm ((rs.map (Mf m)).zip (rs.map (·.q))))(hs:ps.Pairwise fun p q=>p.1<=q.1)(nd:(rs.map lX).Nodup)(fr:∀r∈rs,Fr.mY r.t r.b)(hm:∀r∈rs,r.b<=m) :
  ∃rs':List Rs,rs'.Perm rs/\ps.map (fun p=>V.ref p.2)=nJ rs'/\rs'.Pairwise X3:=by
 rw[Ew]at hp;obtain⟨rs',p',e⟩:=J7 hp.symm rs rfl;refine⟨rs',p',?_,?_⟩
 ·rw[e,aGr];rfl
 ·have nd':(rs'.map lX).Nodup:=(p'.map lX).nodup_iff.mpr nd;rw[e,aHy]at hs;have nd2:rs'.Pairwise fun x y=>lX x≠lX y:=aHy.mp nd';refine(hs.and nd2).imp_of_mem fun{x y} hx hy h=>?_;have fx:=fr x (p'.mem_iff.mp hx);have fy:=fr y (p'.mem_iff.mp hy);refine Xo fx fy ?_ h.2;unfold LeR;rcases(by lia:x.t*y.b<=y.t*x.b∨y.t*x.b<x.t*y.b)with z |z
  ·exact z
  ·have:=Tb.O1 fy.pos fx.pos (hm y (p'.mem_iff.mp hy)) (hm x (p'.mem_iff.mp hx)) z;have h1:Mf m x<=Mf m y:=h.1;unfold Mf at h1
   lia
noncomputable def d9 (m n:Int):Int:=m*(n.fdiv ((aGz m n:Nat):Int))
noncomputable def d8 (ns:List Int):Int:=ns.foldl d9 1
theorem Fy{m n:Int}(hm:0<m)(hn:0<n):0<d9 m n/\m∣d9 m n/\n∣d9 m n:=by
 have hg:0<((aGz m n:Nat):Int):=by have:=aGK m (aGv hn);omega
 obtain⟨c,hc⟩:=aHU m n;obtain⟨d,hd⟩:=aHX m n;have e:n.fdiv ((aGz m n:Nat):Int)=c:=by
  have h:=aHp (a:=((aGz m n:Nat):Int)) c (by omega);rw[<-hc]at h;exact h
 have cp:0<c:=by
  rcases(by omega:0<c∨c<=0)with z |z
  ·exact z
  ·have:=aGu (aFZ hg) z;omega
 unfold d9;rw[e];refine⟨aGP hm cp,⟨c,rfl⟩,⟨d,?_⟩⟩;generalize ((aGz m n:Nat):Int)=g at *;rw[hc,hd]
 grind
theorem Dv:∀(ns:List Int) (m:Int),0<m->(∀n∈ns,0<n)->0<ns.foldl d9 m/\m∣ns.foldl d9 m/\∀n∈ns,n∣ns.foldl d9 m
 | [],m,hm,_=>⟨hm,aH6 m,fun _ h=>nomatch h⟩
 |n::ns,m,hm,h=>by
  obtain⟨a,b,c⟩:=Fy hm (h n aFL);obtain⟨x,y,z⟩:=Dv ns (d9 m n) a fun k hk=>h k (aFK _ hk);refine⟨x,aHo b y,fun k hk=>?_⟩;rcases aGi.mp hk with e |e
  ·subst e;exact aHo c y
  ·exact z k e
theorem JD{ns:List Int}(h:∀n∈ns,0<n):0<d8 ns/\∀n∈ns,n∣d8 ns:=by
 obtain⟨a,_,c⟩:=Dv ns 1 (by decide) h;exact⟨a,c⟩
theorem Et:∀(ns:List Int) (m:Int) (k:Nat),intBits m<=k->intBits (ns.foldl d9 m)<=k+(ns.map intBits).sum
 | [],m,k,h=>by simpa using h
 |n::ns,m,k,h=>by
  have h1:intBits (d9 m n)<=k+intBits n:=PySem.intBits_mul_le h (PySem.intBits_fdiv_le (aFV _));have:=Et ns (d9 m n) _ h1;simp only[aFP,aF7];show intBits (ns.foldl d9 (d9 m n))<=_;omega
theorem z7(ns:List Int):intBits (d8 ns)<=1+(ns.map intBits).sum:=Et ns 1 1 (by decide)
theorem Jl(ns:List Int)(n:Int):d8 (ns++[n])=d9 (d8 ns) n:=by unfold d8;rw[aIx];rfl
theorem Ep(ns:List Int)(i:Nat):((ns.take i).map intBits).sum<=(ns.map intBits).sum:=by
 have e:ns.map intBits=(ns.take i).map intBits++(ns.drop i).map intBits:=by rw[<-aFQ,aGZ]
 rw[e,aH9];omega
theorem qX{k:Nat}:∀{l:List Nat},(∀n∈l,n<=k)->l.sum<=k*l.length
 | [],_=>by simp
 |n::l,h=>by
  have a:=qX (l:=l) fun m hm=>h m (aFK _ hm);have b:=h n aFL;simp only[aF7,aF8];rw[aHu,Nat.mul_one];omega
inductive Qc (vs:List V)(H:Hp)(Q:VK)(_:XK):Prop
 |mk (a:Int) (b:Int) (_:vs=[.int a,.int b]) (_:Q (.int ((aGz a b:Nat):Int)) H)
inductive Ci (vs:List V)(H:Hp)(Q:VK)(_:XK):Prop
 |mk (t:Int) (b:Int) (_:vs=[.int t,.int b]) (_:b≠0) (_:intBits b<=9000) (_:∀p H',aP H H'->H' p=some (.tup [.int (Fr.sh t b).1,.int (Fr.sh t b).2])->Q (.ref p) H')
structure Sz (a b c d:Int):Prop where
 a:intBits a<=10000
 b:intBits b<=10000
 c:intBits c<=10000
 d:intBits d<=10000
inductive HY (K:PySem.W.Frag)(vs:List V)(H:Hp)(Q:VK)(_:XK):Prop
 |mk (p:_) (q:_) (a:_) (b:_) (c:_) (d:_) (_:vs=[.ref p,.ref q]) (_:dN K H p [.int a,.int b]) (_:dN K H q [.int c,.int d]) (_:Sz a b c d) (_:Q (.bl (decide (a*d<c*b))) H)
inductive Ry (K:PySem.W.Frag)(vs:List V)(H:Hp)(Q:VK)(_:XK):Prop
 |mk (a:Addr) (ns:List Int) (_:vs=[.ref a]) (_:bV K H a (ns.map V.int)) (_:(∀n∈ns,0<n)) (_:(∀n∈ns,intBits n<=9000)) (_:(ns.map intBits).sum<=240000) (_:Q (.int (d8 ns)) H)
noncomputable def wsum (xs:List Row):Int:=(xs.map Row.w).sum
inductive Wq (vs:List V)(H:Hp)(Q:VK)(_:XK):Prop
 |mk (a:Addr) (xs:List Row) (_:vs=[.ref a]) (_:TabAt H a xs) (_:xs.length<=1000) (_:∀H',aP H H'->Q (.int (wsum xs)) H')
noncomputable def gU:Str:=("rising" : Str)++".<locals>."++"<lambda>"
inductive Kg (K:PySem.W.Frag)(P:Addr)(lp:Pos)(vs:List V)(H:Hp)(Q:VK)(_:XK):Prop
 |mk (a:Addr) (rs:List Rs) (_:vs=[.ref a]) (_:bV K H a (nJ rs)) (_:rs≠[]) (_:rs.length<64) (_:(∀r∈rs,Vq H r/\Fr.mY r.t r.b/\intBits r.t<=4000/\intBits r.b<=4000)) (_:(rs.map lX).Nodup) (_:cA P lp gU H) (_:∀(D:Addr) (H':Hp) (rs':List Rs),cW P H H'->cA P lp gU H'->H' D=some (.lst (nJ rs'))->rs'.Perm rs->rs'.Pairwise X3->Q (.ref D) H')
noncomputable def El:Int:=2^4000
def PB (xs:List Row):Prop:=∀x∈xs,Fr.mY x.t x.b/\intBits x.t<=4000/\intBits x.b<=4000/\1<=x.w/\x.w<=El
structure Out (ps:List Tb.Rw)(ys:List Row):Prop where
 tab:Tb.Dg ps (eF ys)
 w:∀y∈ys,1<=y.w/\y.w<=Tb.Wt ps y.t y.b
inductive Cj (P:Addr)(lp:Pos)(vs:List V)(H:Hp)(Q:VK)(_:XK):Prop
 |mk (a:Addr) (xs:List Row) (_:vs=[.ref a]) (_:TabAt H a xs) (_:xs≠[]) (_:xs.length<64) (_:PB xs) (_:cA P lp gU H) (_:∀(r:Addr) (H':Hp) (ys:List Row),cW P H H'->cA P lp gU H'->H r=none->TabAt H' r ys->Out (eF xs) ys->ys.length<=xs.length->Q (.ref r) H')
theorem PB.ps(h:PB xs):(∀p∈eF xs,1<=p.w)/\∀p∈eF xs,Fr.mY p.t p.b:=by
 refine⟨fun p hp=>?_,fun p hp=>?_⟩ <;>
 ·obtain⟨x,hx,rfl⟩:=aFT.mp hp
  first |exact(h x hx).2.2.2.1 |exact(h x hx).1
theorem uO(xs:List Row):wsum xs=Tb.W (eF xs):=by
 unfold wsum Tb.W eF;rw[aGr]
 rfl
theorem Xe{m:Int}(hm:0<=m):∀{ps:List Tb.Rw},(∀p∈ps,1<=p.w/\p.w<=m)->0<=Tb.W ps/\Tb.W ps<=m*(ps.length:Int)
 | [],_=>by simp[Tb.W]
 |p::ps,h=>by
  obtain⟨a,b⟩:=Xe hm (ps:=ps) fun y hy=>h y (aFK _ hy);obtain⟨c,d⟩:=h p aFL;have f:m*((p::ps).length:Int)=m+m*(ps.length:Int):=by rw[aF8];grind
  rw[Tb.jC];omega
theorem Out.key{ps:List Tb.Rw}(o:Out ps ys){y:Row}(hy:y∈ys):∃p∈ps,p.t=y.t/\p.b=y.b:=(o.tab.has y.t y.b).mp ⟨y.r,aFT.mpr ⟨y,hy,rfl⟩,rfl,rfl⟩
theorem Out.ne{ps:List Tb.Rw}(o:Out ps ys)(h:ps≠[]):ys≠[]:=by
 rintro rfl;cases ps with
 |nil=>exact h rfl
 |cons p ps=>exact Tb.vX ((o.tab.has p.t p.b).mpr (Tb.kW.mpr (.inl ⟨rfl,rfl⟩)))
theorem MJ{ps:List Tb.Rw}{kvs:List (List Key×V)}(d:Dk ps kvs)(hne:ps≠[])(hw:∀p∈ps,1<=p.w/\p.w<=El)(hl:ps.length<=1000):intBits (jV kvs)<=9000:=by
 have dp:=d.div_pos hne fun p hp=>(hw p hp).1;cases ps with
 |nil=>exact absurd rfl hne
 |cons p ps =>
  have hp:Tb.wH (p::ps) p.t p.b:=Tb.kW.mpr (.inl ⟨rfl,rfl⟩);have w1:=Tb.Bc (fun p hp=>(hw p hp).1) hp;have w2:=Tb.RG p.t p.b (ps:=p::ps) fun p hp=>(hw p hp).1;have w3:=(Xe (by decide) hw).2;have dv:=aHG (by omega) (Tb.xW (d.wOf hp));have dv:jV kvs<=Tb.Wt (p::ps) p.t p.b:=dv;refine PySem.intBits_le_iff.mpr ?_;have e:El*(((p::ps).length:Nat):Int)<=El*1000:=aF1 (by omega) (by decide);have e2:El*1000<((2^9000:Nat):Int):=by decide +kernel
  omega
end TD
namespace Sd
structure Fq (t b N k:Int):Prop where
 fr:Fr.mY t b
 dv:b∣N
 lo:-(k*b)<=t
 hi:t<=k*b
theorem rQ{a b c:Int}(h:a<=b)(hc:0<=c):a*c<=b*c:=aF0 h hc
variable{N:Int}
theorem Fq.mono{t b k N' k':Int}(f:Fq t b N k)(h:N∣N')(hk:k<=k'):Fq t b N' k':=by
 have p:=aFZ f.fr.pos;have e:=rQ hk p;exact⟨f.fr,aHo f.dv h,by have:=f.lo;lia,by have:=f.hi;lia⟩
theorem Ub{t b u:Int}(hb:0<b)(e:t*N=u*b):(Fr.sh t b).2∣N:=by
 have hn:b≠0:=aGv hb;have cr:=Fr.xQ t b;refine Fr.Zr (a:=(Fr.sh t b).1) (Fr.GR hn) ⟨u,?_⟩;have h:(Fr.sh t b).1*N*b=(Fr.sh t b).2*u*b:=by
  have h1:(Fr.sh t b).1*N*b=((Fr.sh t b).1*b)*N:=by grind
  have h2:(Fr.sh t b).2*u*b=(Fr.sh t b).2*(u*b):=by grind
  rw[h1,h2,cr,<-e]
  grind
 exact aHg hn h
theorem YJ{t b u k:Int}(hb:0<b)(e:t*N=u*b)(lo:-(k*b)<=t)(hi:t<=k*b):Fq (Fr.sh t b).1 (Fr.sh t b).2 N k:=by
 have hn:b≠0:=aGv hb;have cr:=Fr.xQ t b;have yp:=aFZ (Fr.Gg (t:=t) hn);refine⟨Fr.YQ hn,Ub hb e,?_,?_⟩
 ·have h:=rQ lo yp;rw[<-cr]at h;refine aHP (a:=b) ?_ hb;have:-(k*(Fr.sh t b).2)*b = -(k*b)*(Fr.sh t b).2:=by grind
  rw[this];exact h
 ·have h:=rQ hi yp;rw[<-cr]at h;refine aHP (a:=b) ?_ hb;have:k*(Fr.sh t b).2*b=k*b*(Fr.sh t b).2:=by grind
  rw[this];exact h
noncomputable def pls (x y:Int×Int):Int×Int:=Fr.sh (x.1*y.2+y.1*x.2) (x.2*y.2)
noncomputable def tms (x y:Int×Int):Int×Int:=Fr.sh (x.1*y.1) (x.2*y.2)
noncomputable def grt (x y:Int×Int):Int×Int:=if x.1*y.2<y.1*x.2 then y else x
abbrev FQ (x:Int×Int)(N k:Int):Prop:=Fq x.1 x.2 N k
inductive Sd where
 |en (v:Int)
 |st (p:Int) (rs:List (Int×Sd))
inductive Ok:Sd->Nat->Nat->Prop
 |en {v:Int}{d m:Nat} (h0:0<=v) (h9:v<=1000000000) (hm:1<=m):Ok (.en v) d m
 |st {p:Int}{rs:List (Int×Sd)}{d m:Nat}{f:Int×Sd->Nat} (h0:0<=p) (h9:p<=1000000000) (ne:rs≠[]) (l4:rs.length<=4) (w:∀r∈rs,1<=r.1/\r.1<=1000) (sub:∀r∈rs,Ok r.2 d (f r)) (hk:(rs.map f).sum<=m):Ok (.st p rs) (d+1) m
noncomputable def jB (rs:List (Int×Sd)):Int:=(rs.map (·.1)).sum
noncomputable def gO:List Int->Int
 | []=>1
 |n::ns=>n*gO ns
noncomputable def bes (l:Int×Int):Nat->Sd->Int×Int
 | 0,_=>(0,1)
 |_+1,.en v=>grt l (v,1)
 |n+1,.st p rs=>grt l (rs.foldl (fun a r=>pls a (tms (Fr.sh r.1 (jB rs)) (bes l n r.2))) (-p,1))
theorem pP:∀{l:List Int},(∀n∈l,0<n)->0<gO l
 | [],_=>by decide
 |n::l,h=>aGP (h n aFL) (pP fun m hm=>h m (aFK _ hm))
theorem uA:∀{l:List Int}{n:Int},n∈l->n∣gO l
 |m::l,n,h=>by
  rcases aGi.mp h with e |e
  ·subst e;exact⟨_,rfl⟩
  ·exact aHo (uA e) ⟨m,by show m*gO l=gO l*m;grind⟩
theorem dC(n:Nat):(0:Int)<2^n:=Int.pow_pos (by decide)
theorem FN{e:Nat}:∀{l:List Int},(∀n∈l,0<n/\n<=2^e)->gO l<=2^(l.length*e)
 | [],_=>by simp[gO]
 |n::l,h=>by
  have ih:=FN (l:=l) fun m hm=>h m (aFK _ hm);have hn:=h n aFL;have pp:=pP (l:=l) fun m hm=>(h m (aFK _ hm)).1;show n*gO l<=_;rw[aF8,aIz,Nat.add_comm,aHi];exact aGj (aF0 hn.2 (aFZ pp)) (aF1 ih (aFZ (dC e)))
theorem Ri:∀{rs:List (Int×Sd)},(∀r∈rs,1<=r.1/\r.1<=1000)->(rs.length:Int)<=jB rs/\jB rs<=1000*(rs.length:Int)
 | [],_=>by decide
 |r::rs,h=>by
  have ih:=Ri (rs:=rs) fun x hx=>h x (aFK _ hx);have hr:=h r aFL;have e:jB (r::rs)=r.1+jB rs:=by unfold jB;rw[aFP,aF7]
  rw[e,aF8]
  push_cast
  lia
theorem gW{a b:Nat}(h:a<=b):(2:Int)^a<=2^b:=by
 obtain⟨c,rfl⟩:=Nat.exists_eq_add_of_le h;rw[aHi];have h1:(1:Int)<=2^c:=by have:=dC c;lia
 have:=aF1 h1 (aFZ (dC a))
 lia
theorem V7{rs:List (Int×Sd)}(ne:rs≠[])(w:∀r∈rs,1<=r.1/\r.1<=1000)(l4:rs.length<=4):1<=jB rs/\jB rs<=4000:=by
 have:=Ri w;have:0<rs.length:=aHJ.mpr ne
 lia
theorem Ok.m1{s:Sd}{d m:Nat}(ok:Ok s d m):1<=m:=by
 induction ok with
 |en _ _ h=>exact h
 | @st p rs d m k h0 h9 ne l4 w sub hk ih =>
  cases rs with
  |nil=>exact absurd rfl ne
  |cons r rs =>
   have h1:=ih r aFL;rw[aFP,aF7]at hk
   lia
theorem Vi{α:Type}{f:α->Nat}{m:Nat}:∀{l:List α},(l.map f).sum<=m->∀x∈l,f x<=m
 |y::l,h,x,hx=>by
  rw[aFP,aF7]at h;rcases aGi.mp hx with e |e
  ·subst e;lia
  ·exact Vi (l:=l) (by lia) x e
noncomputable def kB:Nat->Int
 | 0=>2147483648
 |d+1=>1000000000+4*kB d
theorem fr1(v:Int):Fr.mY v 1:=⟨by decide,by simp⟩
noncomputable def opn (l:Int×Int)(n:Nat)(p:Int)(rs:List (Int×Sd))(i:Nat):Int×Int:=(rs.take i).foldl (fun a r=>pls a (tms (Fr.sh r.1 (jB rs)) (bes l n r.2))) (-p,1)
end Sd
namespace L2
open PySem PySem.Spec PySem.W PyProof.Rows
section
variable{X:Cx}
theorem Sw:∀(cs:List String) (its:List Value),cL (cs.map V.ty) its->its=cs.map Value.type:=by
 intro cs
 induction cs with
 |nil=>intro its r;cases r;rfl
 |cons c cs ih=>intro its r;cases r with |cons r1 r2=>rw[ih _ r2];cases r1;rfl
theorem rH{K:Frag}(hK:X.K=K):fY X (.builtin "isinstance") (fun xs H Q=>∃(x:V) (p:Addr) (t:Value) (cs:List String) (b:Bool),xs=[x,.ref p]/\iB K H x t/\H p=some (.tup (cs.map V.ty))/\kitAny K t (cs.map Value.type)=some b/\Q (.bl b) H):=by
 subst hK;rintro pins s σ H vs us Q I r ⟨x,p,t,cs,b,rfl,ty,ht,e,q⟩;obtain⟨u,u2,rfl,rx,r2⟩:=vals2 r;obtain rfl:u2=Value.ref p:=r2;obtain⟨_,its,rv,o,ho,hc,n,hd⟩:=(show cX X.prog X.w H s.heap p (.tup (cs.map V.ty))from I.hok p _ ht)
 obtain rfl:=Sw cs its rv;obtain⟨oc,od,oda,osl⟩:=o;dsimp only at hc hd;subst hc;subst hd;have fin:∀tk,EP X pins σ Q (.bool b) { s with toks:=tk }:=fun tk=>⟨.bl b,H,I.tok _,rfl,q⟩
 cases ty with
 |non=>cases(show u=Value.none from rx);exact kia_tup kitx_none I.kIn True.intro ho e (fun z=>nomatch z) fin
 |bl y=>cases(show u=Value.bool y from rx);exact kia_tup kitx_bool I.kIn True.intro ho e (fun z=>nomatch z) fin
 |int i=>obtain⟨t,z⟩:=(show ∃t,u=Value.int i t from rx);cases z;exact kia_tup kitx_int I.kIn True.intro ho e (fun z=>nomatch z) fin
 |str y=>obtain⟨t,z⟩:=(show ∃t,u=Value.str y t from rx);cases z;exact kia_tup kitx_str I.kIn True.intro ho e (fun z=>nomatch z) fin
 |flt y=>obtain⟨t,z⟩:=(show ∃t,u=Value.float y t from rx);cases z;exact kia_tup kitx_float I.kIn True.intro ho e (fun z=>nomatch z) fin
 | @lst a xs ea =>
  cases(show u=Value.ref a from rx);obtain⟨_,_,n,_,h1⟩:=(show cX X.prog X.w H s.heap a (.lst xs)from I.hok a _ ea)
  exact kia_tup kitx_list I.kIn ⟨_,h1,rfl⟩ ho e (fun z=>nomatch z) fin
 | @frz a ob xs ea =>
  cases(show u=Value.ref a from rx);obtain⟨_,_,_,n,_,h1⟩:=(show cX X.prog X.w H s.heap a (.frz ob (.lst xs))from I.hok a _ ea)
  exact kia_tup kitx_list I.kIn ⟨_,h1,rfl⟩ ho e (fun z=>nomatch z) fin
 | @tup a xs ea =>
  cases(show u=Value.ref a from rx);obtain⟨_,_,_,pp⟩:=(show cX X.prog X.w H s.heap a (.tup xs)from I.hok a _ ea)
  obtain⟨o,h1,h2,_⟩:=pp;exact kia_tup kitx_tuple I.kIn ⟨o,h1,h2⟩ ho e (fun z=>nomatch z) fin
 | @dK a kvs ea =>
  cases(show u=Value.ref a from rx);obtain⟨_,_,vs,_,pp⟩:=(show cX X.prog X.w H s.heap a (.dK kvs)from I.hok a _ ea)
  obtain⟨o,es,ep,h1,h2,_⟩:=pp;exact kia_tup kitx_dict I.kIn ⟨o,h1,h2.1⟩ ho e (fun z=>nomatch z) fin
 | @dT a kvs ea =>
  cases(show u=Value.ref a from rx);obtain⟨_,_,xs,_,o,es,ep,h1,h2,_⟩:=(show cX X.prog X.w H s.heap a (.dT kvs)from I.hok a _ ea)
  exact kia_tup kitx_dict I.kIn ⟨o,h1,h2.1⟩ ho e (fun z=>nomatch z) fin
 | @ins a C dx fs ea cl ha hn htk hm =>
  cases(show u=Value.ref a from rx);obtain⟨mA,O,_⟩:=sE I.hok ea;obtain⟨od,J,_⟩:=O.look;exact kia_tup (kitx_own (cl.get _) cl.hd ha hn htk hm) I.kIn J ho e (fun z=>nomatch z) fin
end
end L2
namespace L2
open PySem PySem.Spec PyProof.Rows
variable{K:PySem.W.Frag}{xs:List V}
theorem jJ{a:Addr}{k:Nat}{g:TG}{c:TT}{te:TE}{σ:St}{H1:Hp}{D:Addr}{Q:VK}(Pv:Nat->St->Hp->Prop)(h0:Pv 0 (aGw k none++σ) (bH H1 D (.lst [])))
  (hl:∀i τ H,i<=xs.length->Pv i τ H->dN K H a xs)
  (hs:∀i m x τ H,m=xs.length-i->i<xs.length->xs[i]? = some x->Pv i τ H->g x τ H fun τ2 H2=>c τ2 H2 fun b H3=>if b=true then te τ2 H3 fun y H4=>∃ys m',m'<m/\H4 D=some (.lst ys)/\ys.length<sizeLine/\CW xs.length Pv (i+1) m' τ2 (bH H4 D (.lst (ys++[y])))else ∃m',m'<m/\CW xs.length Pv (i+1) m' τ2 H3)
  (hd:∀τ H,Pv xs.length τ H->Q (.ref D) H):Eu k (XS K a) g c te σ H1 D Q:=by
 refine⟨CW xs.length Pv,⟨xs.length,rfl,aGe _,h0⟩,?_⟩;rintro i m τ H ⟨hm,hi,p⟩;have q:=hl i τ H hi p
 by_cases hlt:i<xs.length
 ·refine .inr ⟨⟨xs,xs[i],q,by simp[hlt]⟩,fun x H' y=>?_⟩;obtain⟨e,y⟩:=y;subst e;exact hs i m x τ _ hm hlt (y xs q) p
 ·have e:i=xs.length:=by lia
  subst e;exact .inl ⟨⟨xs,q,aFV _⟩,hd τ H p⟩
theorem yM{i:Nat}{v:V}{τ:St}{H:Hp}{A B:St->Hp->Prop}(h:A (τ.set i (some v)) H):kY i v τ H (fun τ2 H2=>WL τ2 H2 (fun b H3=>if b=true then A τ2 H3 else B τ2 H3)):=eG (τ:=τ.set i (some v)) (A:=A (τ.set i (some v))) (B:=B (τ.set i (some v))) h
theorem Pn{a:Addr}{g:TG}{tb:TS}{D:Ends}{σ:St}{H:Hp}(Pv:Nat->St->Hp->Prop)(h0:Pv 0 σ H)(hl:∀i σ H,i<=xs.length->Pv i σ H->bV K H a xs)
  (hs:∀i x σ H,i<xs.length->xs[xs.length-1-i]? = some x->Pv i σ H->g x σ H fun σ2 H2=>tb { D with nx:=Pv (i+1),ct:=Pv (i+1),bk:=D.nx } σ2 H2) (hd:∀σ H,Pv xs.length σ H->D.nx σ H) :
  ∃W:Nat->Nat->St->Hp->Prop,(∃m,W 0 m σ H)/\∀i m σ H,W i m σ H ->
   ((Yl K a xs).stop i H/\D.nx σ H)∨((Yl K a xs).go i H/\∃N:St->Hp->Prop,(∀σ' H',N σ' H'->∃m',m'<m/\W (i+1) m' σ' H')/\∀x H',(Yl K a xs).yld i H x H'->g x σ H' fun σ2 H2=>tb { D with nx:=N,ct:=N,bk:=D.nx } σ2 H2):=by
 refine⟨fun i m σ H=>m=xs.length-i/\i<=xs.length/\Pv i σ H,⟨xs.length,by simp,aGe _,h0⟩,?_⟩;rintro i m σ H ⟨rfl,hi,p⟩;have q:=hl i σ H hi p
 by_cases hlt:i<xs.length
 ·refine .inr ⟨⟨hlt,q⟩,Pv (i+1),fun σ' H' p'=>⟨xs.length-(i+1),by lia,rfl,hlt,p'⟩,fun x H' y=>?_⟩;obtain⟨e,y⟩:=y;subst e;exact hs i x σ _ hlt y p
 ·have e:i=xs.length:=by lia
  subst e;exact .inl ⟨aFV _,hd σ H p⟩
end L2
namespace TD
open PySem L2
open Builtin.Int (intBits)
abbrev Tq (H:Hp)(p:Addr)(x:Int×Int):Prop:=H p=some (.tup [.int x.1,.int x.2])
noncomputable abbrev Is (ns:List Int):List V:=ns.map V.int
theorem gH(ns:List Int):(Is ns).length=ns.length:=aFJ _
theorem wK(xs:List Int)(y:Int):Is (xs++[y])=Is xs++[V.int y]:=by show(xs++[y]).map V.int=_;rw[aFQ];rfl
theorem YB{ns:List Int}{i:Nat}{v:V}(h:(Is ns)[i]? = some v):∃n,ns[i]? = some n/\v=.int n:=by
 rw[aF9]at h;cases e:ns[i]? with
 |none=>rw[e]at h;cases h
 |some n=>rw[e]at h;cases h;exact⟨n,rfl,rfl⟩
inductive Ko (vs:List V)(H:Hp)(Q:VK)(_:XK):Prop
 |mk (i:Int) (lo:Int) (hi:Int) (_:vs=[.int i,.int lo,.int hi]) (_:lo<=i) (_:i<=hi) (_:Q (.bl true) H)
inductive Z1 (vs:List V)(H:Hp)(Q:VK)(_:XK):Prop
 |mk (i:Int) (_:vs=[.int i]) (_:∀p H',aP H H'->Tq H' p (i,1)->Q (.ref p) H')
inductive Up (K:PySem.W.Frag)(vs:List V)(H:Hp)(Q:VK)(_:XK):Prop
 |mk (p:_) (q:_) (a:_) (b:_) (c:_) (d:_) (_:vs=[.ref p,.ref q]) (_:dN K H p [.int a,.int b]) (_:dN K H q [.int c,.int d]) (_:Sz a b c d) (_:(c*b<a*d->Q (.ref q) H)) (_:(¬ c*b<a*d->Q (.ref p) H))
theorem pO{x:Int}{k:Nat}(h0:-(2^k)<x)(h1:x<2^k):intBits x<=k:=by
 refine PySem.intBits_le_iff.mpr ?_;have e:((2^k:Nat):Int)=2^k:=by push_cast;rfl
 lia
variable{k:Int}{n:Nat}
theorem Hy{t b N:Int}{j:Nat}(f:Sd.Fq t b N k)(hN:0<N)(hn:N<=2^n)(k0:0<=k)(hj:k<=2^j):intBits b<=n+1/\intBits t<=n+j+1:=by
 have bp:=f.fr.pos;have bl:=aHG hN f.dv;have e1:b<=2^n:=aGj bl hn;have e2:k*b<=2^j*2^n:=aGj (aF0 hj (aFZ bp)) (aF1 e1 (aFZ (Sd.dC j)));rw[<-aHi,Nat.add_comm]at e2;have p1:(2:Int)^(n+1)=2*2^n:=by rw[aHl];lia
 have p2:(2:Int)^(n+j+1)=2*2^(n+j):=by rw[aHl];lia
 have q1:=Sd.dC n;have q2:=Sd.dC (n+j);have l:=f.lo;have h:=f.hi;exact⟨pO (by lia) (by lia),pO (by lia) (by lia)⟩
structure GT (xs:List Row)(n:Nat)(W M k:Int):Prop where
 ne:xs≠[]
 len:xs.length<=n
 w1:∀x∈xs,1<=x.w
 ws:wsum xs<=W
 mp:0<M
 fq:∀x∈xs,Sd.Fq x.t x.b M k
structure Cp (n:Nat)(W M k:Int):Prop where
 n:n<=12
 w:W<=2^600
 m:M<=2^1600
 k0:0<=k
 k:k<=2^1600
variable{xs:List Row}
theorem oY(w1:∀x∈xs,1<=x.w):∀{x:Row},x∈xs->x.w<=wsum xs:=by
 induction xs with
 |nil=>intro x h;cases h
 |cons y ys ih =>
  intro x hx;have e:wsum (y::ys)=y.w+wsum ys:=by unfold wsum;rw[aFP,aF7]
  have y1:=w1 y aFL;have n0:0<=wsum ys:=by
   clear ih hx
   induction ys with
   |nil=>exact aGE _
   |cons z zs ih =>
    have e:wsum (z::zs)=z.w+wsum zs:=by unfold wsum;rw[aFP,aF7]
    have z1:=w1 z (aFK _ aFL);have:=ih (fun x hx=>by
     rcases aGi.mp hx with h |h
     ·subst h;exact y1
     ·exact w1 x (aFK _ (aFK _ h))) (by unfold wsum;rw[aFP,aF7])
    lia
  rcases aGi.mp hx with h |h
  ·subst h;lia
  ·have:=ih (fun x hx=>w1 x (aFK _ hx)) h
   lia
variable{M:Int}
theorem GT.bits{W:Int}(g:GT xs n W M k)(c:Cp n W M k){x:Row}(hx:x∈xs):intBits x.b<=1601/\intBits x.t<=3201:=by
 have:=Hy (g.fq x hx) g.mp c.m c.k0 c.k
 lia
theorem GT.pb{W:Int}(g:GT xs n W M k)(c:Cp n W M k):PB xs:=fun x hx=>by
 have b:=g.bits c hx;have w:=oY g.w1 hx;have w2:=g.ws;have w3:=c.w;have e:(2:Int)^600<=El:=by decide +kernel
 exact⟨(g.fq x hx).fr,by lia,by lia,g.w1 x hx,by lia⟩
theorem GT.tot{W:Int}(g:GT xs n W M k):1<=wsum xs:=by
 cases xs with
 |nil=>exact absurd rfl g.ne
 |cons x xs =>
  have:=oY g.w1 (x:=x) aFL;have:=g.w1 x aFL
  lia
def Q3 (H:Hp)(a:Addr)(xs:List Row):Prop:=H a=some (.tup (refs xs))/\∀x∈xs,kZ H x
noncomputable def be:Nat->Nat
 | 0=>1
 |d+1=>be d+(12*(d+1)+1)
noncomputable def ka:Nat->Nat
 | 0=>30
 |d+1=>ka d+(12*(d+1)+1)*12+1
noncomputable def wB (d m:Nat):Int:=2^((12*d+1)*m)
noncomputable def kK (d:Nat):Int:=2^ka d
theorem Iv{d m:Nat}(hd:d<=4)(hm:m<=12)(hM:M<=2^(be d*m)):Cp m (wB d m) M (kK d):=by
 have b:be d<=125:=by
  rcases(by lia:d=0∨d=1∨d=2∨d=3∨d=4)with z |z |z |z |z <;> subst z <;> decide
 have a:ka d<=1600:=by
  rcases(by lia:d=0∨d=1∨d=2∨d=3∨d=4)with z |z |z |z |z <;> subst z <;> decide
 refine⟨hm,Sd.gW ?_,aGj hM (Sd.gW ?_),aFZ (Sd.dC _),Sd.gW a⟩
 ·calc (12*d+1)*m<=49*m:=aGM _ (by lia)
   _<=49*12:=aGm _ hm
   _<=600:=by decide
 ·calc be d*m<=125*m:=aGM _ b
   _<=125*12:=aGm _ hm
   _<=1600:=by decide
end TD
namespace Tb
noncomputable def jZ (l0 l1:Int)(r:Rw):Rw:=if l0*r.b<r.t*l1 then⟨l0,l1,r.w⟩ else r
end Tb
namespace TD
open PySem L2
open Builtin.Int (intBits)
structure Ent where
 p:Addr
 w:Int
 a:Addr
 ys:List Row
def yZ (H:Hp)(e:Ent):Prop:=H e.p=some (.tup [.int e.w,.ref e.a])/\TabAt H e.a e.ys
noncomputable def rC (es:List Ent):List V:=es.map fun e=>V.ref e.p
structure xN (H:Hp)(a:Addr)(es:List Ent):Prop where
 lst:H a=some (.lst (rC es))
 ents:∀e∈es,yZ H e
variable{e:Ent}
theorem yZ.same{H H':Hp}(s:aP H H')(h:yZ H e):yZ H' e:=⟨s _ _ h.1,h.2.same s⟩
variable{es:List Ent}
theorem xN.same{H H':Hp}{a:Addr}(s:aP H H')(h:xN H a es):xN H' a es:=⟨s _ _ h.lst,fun e he=>(h.ents e he).same s⟩
theorem rY(es:List Ent):(rC es).length=es.length:=aFJ _
theorem Eh{i:Nat}{v:V}(h:(rC es)[i]? = some v):∃x,es[i]? = some x/\v=.ref x.p:=by
 unfold rC at h;rw[aF9]at h;cases e:es[i]? with
 |none=>rw[e]at h;cases h
 |some x=>rw[e]at h;cases h;exact⟨x,rfl,rfl⟩
theorem Gv(xs:List Ent)(y:Ent):rC (xs++[y])=rC xs++[V.ref y.p]:=by unfold rC;rw[aFQ];rfl
noncomputable def tQ (S:Int)(e:Ent):Int:=e.w*S.fdiv (wsum e.ys)
noncomputable def partsOf (S:Int)(es:List Ent):List Tb.Rw:=es.flatMap fun e=>e.ys.map fun y=>⟨y.t,y.b,tQ S e*y.w⟩
noncomputable def dB (es:List Ent):List Int:=es.map fun e=>wsum e.ys
theorem Bm(S:Int)(es:List Ent)(e:Ent):partsOf S (es++[e])=partsOf S es++e.ys.map fun y=>⟨y.t,y.b,tQ S e*y.w⟩:=by
 unfold partsOf;rw[aG4];simp
noncomputable def b7 (xs:List Row):Int:=d8 (xs.map Row.b)
theorem Ge{m n:Int}(hn:0<n):d9 m n=m*(Fr.sh m n).2:=by
 unfold d9 Fr.sh Fr.dv;rw[if_neg (by lia)]
variable{M:Int}
theorem DY{m n:Int}(hn:0<n)(h1:m∣M)(h2:n∣M):d9 m n∣M:=by
 rw[Ge hn];obtain⟨a,ea⟩:=h1;obtain⟨b,eb⟩:=h2;have d1:=Fr.Gf m n;have d2:=Fr.CP m n;have dn:=Fr.Rm (t:=m) (aGv hn);have h:(Fr.sh m n).2∣(Fr.sh m n).1*a:=by
  refine⟨b,aHg dn ?_⟩;have e1:(Fr.sh m n).1*a*Fr.dv m n=((Fr.sh m n).1*Fr.dv m n)*a:=by grind
  have e2:(Fr.sh m n).2*b*Fr.dv m n=((Fr.sh m n).2*Fr.dv m n)*b:=by grind
  rw[e1,e2,d1,d2,<-ea,<-eb]
 obtain⟨c,hc⟩:=Fr.Zr (Fr.GR (t:=m) (aGv hn)) h;exact⟨c,by rw[ea,hc];grind⟩
theorem rO:∀(ns:List Int) (m M:Int),(∀n∈ns,0<n)->m∣M->(∀n∈ns,n∣M)->ns.foldl d9 m∣M
 | [],_,_,_,h,_=>h
 |n::ns,m,M,hp,h,hd=>rO ns _ M (fun k hk=>hp k (aFK _ hk)) (DY (hp n aFL) h (hd n aFL)) fun k hk=>hd k (aFK _ hk)
variable{ns:List Int}
theorem FW(hp:∀n∈ns,0<n)(hd:∀n∈ns,n∣M):d8 ns∣M:=rO ns 1 M hp ⟨M,(Int.one_mul _).symm⟩ hd
theorem Hs(hp:∀n∈ns,0<n):d8 ns<=Sd.gO ns:=aHG (Sd.pP hp) (FW hp fun n hn=>Sd.uA hn)
variable{xs:List Row}{n:Nat}{k:Int}
theorem GT.bp{W:Int}(g:GT xs n W M k):∀b∈xs.map Row.b,0<b:=fun b hb=>by
 obtain⟨x,hx,rfl⟩:=aFT.mp hb;exact(g.fq x hx).fr.pos
theorem GT.lcm{W:Int}(g:GT xs n W M k):0<b7 xs/\b7 xs∣M/\∀x∈xs,x.b∣b7 xs:=by
 obtain⟨a,b⟩:=JD g.bp;exact⟨a,FW g.bp fun b hb=>by obtain⟨x,hx,rfl⟩:=aFT.mp hb;exact(g.fq x hx).dv,fun x hx=>b _ (aFT.mpr ⟨x,hx,rfl⟩)⟩
theorem GT.own{W:Int}(g:GT xs n W M k):GT xs n W (b7 xs) k/\b7 xs<=M:=by
 obtain⟨a,b,c⟩:=g.lcm;exact⟨⟨g.ne,g.len,g.w1,g.ws,a,fun x hx=>⟨(g.fq x hx).fr,c x hx,(g.fq x hx).lo,(g.fq x hx).hi⟩⟩,aHG g.mp b⟩
theorem Hw{r:Tb.Rw}(hr:1<=r.w):∀{ys:List Tb.Rw},ys.Pairwise Tb.Lt->(ys.map fun y=>if r.t=y.t/\r.b=y.b then r.w else 0).sum<=r.w
 | [],_=>by show(0:Int)<=r.w;lia
 |y::ys,h=>by
  obtain⟨h1,h2⟩:=aG9.mp h;rw[aFP,aF7]
  by_cases e:r.t=y.t/\r.b=y.b
  ·rw[if_pos e];have z:(ys.map fun y=>if r.t=y.t/\r.b=y.b then r.w else 0).sum=0:=by
    have:∀zs:List Tb.Rw,(∀z∈zs,Tb.Lt y z)->(zs.map fun y=>if r.t=y.t/\r.b=y.b then r.w else 0).sum=0:=by
     intro zs
     induction zs with
     |nil=>intro _;rfl
     |cons z zs ih =>
      intro hz;rw[aFP,aF7,ih fun x hx=>hz x (aFK _ hx),if_neg fun q=>Tb.LR (hz z aFL) (e.1.symm.trans q.1) (e.2.symm.trans q.2)]
      rfl
    exact this ys h1
   lia
  ·rw[if_neg e];have:=Hw hr h2
   lia
theorem Nm{ys:List Tb.Rw}(so:ys.Pairwise Tb.Lt):∀{ps:List Tb.Rw},(∀r∈ps,1<=r.w)->(ys.map fun y=>Tb.Wt ps y.t y.b).sum<=Tb.W ps
 | [],_=>by
  have:∀zs:List Tb.Rw,(zs.map fun y=>Tb.Wt [] y.t y.b).sum=0:=by
   intro zs
   induction zs with
   |nil=>rfl
   |cons z zs ih=>rw[aFP,aF7,ih];rfl
  rw[this];exact aGE _
 |r::ps,h=>by
  have ih:=Nm so (ps:=ps) fun x hx=>h x (aFK _ hx);have k:=Hw (h r aFL) so;have e:∀zs:List Tb.Rw,(zs.map fun y=>Tb.Wt (r::ps) y.t y.b).sum=(zs.map fun y=>if r.t=y.t/\r.b=y.b then r.w else 0).sum+(zs.map fun y=>Tb.Wt ps y.t y.b).sum:=by
   intro zs
   induction zs with
   |nil=>rfl
   |cons z zs ih =>
    rw[aFP,aF7,aFP,aF7,aFP,aF7,ih,Tb.mW]
    lia
  rw[e,Tb.jC]
  lia
variable{ys:List Row}
theorem Out.sum{ps:List Tb.Rw}(o:Out ps ys)(h:∀r∈ps,1<=r.w):wsum ys<=Tb.W ps:=by
 have s:=Nm o.tab.lt h;have le:∀zs:List Row,(∀y∈zs,y.w<=Tb.Wt ps y.t y.b)->wsum zs<=((eF zs).map fun y=>Tb.Wt ps y.t y.b).sum:=by
  intro zs
  induction zs with
  |nil=>intro _;exact aGE _
  |cons z zs ih =>
   intro hz;have e:wsum (z::zs)=z.w+wsum zs:=by unfold wsum;rw[aFP,aF7]
   have e2:eF (z::zs)=z.r::eF zs:=rfl;rw[e,e2,aFP,aF7];have h1:=hz z aFL;have h2:=ih fun y hy=>hz y (aFK _ hy);have h3:Tb.Wt ps z.r.t z.r.b=Tb.Wt ps z.t z.b:=rfl
   lia
 exact aGj (le ys fun y hy=>(o.w y hy).2) s
structure GM (es:List Ent)(k0:Nat)(W0 kk:Int):Prop where
 ne:es≠[]
 len:es.length<=4
 k:k0<=12
 n:es.length*k0<=48
 w:∀e∈es,1<=e.w/\e.w<=1000
 g:∀e∈es,GT e.ys k0 W0 (b7 e.ys) kk
 c:∀e∈es,Cp k0 W0 (b7 e.ys) kk
variable{k0:Nat}{W0 kk:Int}
theorem GM.tp(g:GM es k0 W0 kk):∀n∈dB es,0<n/\n<=2^600:=fun n hn=>by
 obtain⟨e,he,rfl⟩:=aFT.mp hn;have:=(g.g e he).tot;have:=(g.g e he).ws;have:=(g.c e he).w
 lia
theorem GM.tb(g:GM es k0 W0 kk):(∀n∈dB es,intBits n<=601)/\((dB es).map intBits).sum<=2404:=by
 have e1:∀n∈dB es,intBits n<=601:=fun n hn=>by
  have:=g.tp n hn;have p1:(2:Int)^601=2*2^600:=by rw[aHl];lia
  have q1:=Sd.dC 600;exact pO (by lia) (by lia)
 have h:=qX (k:=601) (l:=(dB es).map intBits) fun n hn=>by
  obtain⟨z,hz,rfl⟩:=aFT.mp hn;exact e1 z hz
 have l:=g.len;have e:((dB es).map intBits).length=es.length:=by rw[aFJ];unfold dB;rw[aFJ]
 rw[e]at h;exact⟨e1,by lia⟩
theorem GM.S(g:GM es k0 W0 kk):0<d8 (dB es)/\d8 (dB es)<=2^2400/\intBits (d8 (dB es))<=2405/\∀e∈es,wsum e.ys∣d8 (dB es):=by
 have tp:∀n∈dB es,0<n:=fun n hn=>(g.tp n hn).1;obtain⟨a,b⟩:=JD tp;have l:=g.len;have pl:=Sd.FN (e:=600) g.tp;have e:(dB es).length=es.length:=by unfold dB;rw[aFJ]
 rw[e]at pl;have hb:=z7 (dB es);have:=g.tb.2;exact⟨a,aGj (aGj (Hs tp) pl) (Sd.gW (by lia)),by lia,fun e he=>b _ (aFT.mpr ⟨e,he,rfl⟩)⟩
theorem Aw{S:Int}(hp:1<=wsum e.ys)(d:wsum e.ys∣S):tQ S e*wsum e.ys=e.w*S:=by
 unfold tQ;obtain⟨s,es⟩:=d;have q1:S.fdiv (wsum e.ys)=s:=by rw[es];exact aHp _ (by lia)
 rw[q1,es]
 grind
theorem Q8{S:Int}(hw:1<=e.w)(hp:1<=wsum e.ys)(hS:0<S)(d:wsum e.ys∣S):1<=tQ S e:=by
 have h:=Aw hp d;have p:0<e.w*S:=aGP (by lia) hS;rcases Int.lt_or_le 0 (tQ S e)with z |z
 ·lia
 ·have:=aHt z (show(0:Int)<=wsum e.ys by lia)
  lia
theorem GM.part(g:GM es k0 W0 kk)(he:e∈es){y:Row}(hy:y∈e.ys):1<=tQ (d8 (dB es)) e*y.w/\tQ (d8 (dB es)) e*y.w<=1000*d8 (dB es):=by
 obtain⟨Sp,_,_,Sd'⟩:=g.S;have ge:=g.g e he;have w:=g.w e he;have f1:=Q8 w.1 ge.tot Sp (Sd' e he);have y1:=ge.w1 y hy;have y2:=oY ge.w1 hy;have a:=Aw ge.tot (Sd' e he);have b:=aF1 y2 (show 0<=tQ (d8 (dB es)) e by lia);have c:=aF0 w.2 (aFZ Sp);have d:1*1<=tQ (d8 (dB es)) e*y.w:=Int.mul_le_mul f1 y1 (by decide) (by lia)
 lia
theorem GM.pb(g:GM es k0 W0 kk)(he:e∈es){y:Row}(hy:y∈e.ys):Fr.mY y.t y.b/\intBits y.t<=4000/\intBits y.b<=4000/\1<=tQ (d8 (dB es)) e*y.w/\tQ (d8 (dB es)) e*y.w<=El:=by
 have b:=(g.g e he).bits (g.c e he) hy;have p:=g.part he hy;have s:=g.S.2.1;have m:(1000:Int)*2^2400<=El:=by decide +kernel
 exact⟨((g.g e he).fq y hy).fr,by lia,by lia,p.1,by lia⟩
theorem IV{S:Int}:∀{es:List Ent},(∀e∈es,1<=wsum e.ys/\wsum e.ys∣S/\e.w<=1000)->0<=S->Tb.W (partsOf S es)<=1000*(es.length:Int)*S
 | [],_,_=>by show(0:Int)<=_;simp
 |e::es,h,hS=>by
  have ih:=IV (es:=es) (fun x hx=>h x (aFK _ hx)) hS;obtain⟨h1,h2,h3⟩:=h e aFL;have e1:partsOf S (e::es)=(e.ys.map fun y=>⟨y.t,y.b,tQ S e*y.w⟩)++partsOf S es:=rfl;have e2:∀zs:List Row,Tb.W (zs.map fun y=>(⟨y.t,y.b,tQ S e*y.w⟩:Tb.Rw))=tQ S e*wsum zs:=by
   intro zs
   induction zs with
   |nil=>show(0:Int)=_*0;simp
   |cons z zs ih =>
    have e:wsum (z::zs)=z.w+wsum zs:=by unfold wsum;rw[aFP,aF7]
    rw[aFP,Tb.jC,ih,e,Int.mul_add]
  rw[e1,Tb.Du,e2,Aw h1 h2,aF8];have:=aF0 h3 hS
  push_cast
  have e3:1000*((es.length:Int)+1)*S=1000*(es.length:Int)*S+1000*S:=by grind
  rw[e3]
  lia
theorem J0{S:Int}{t b:Int}(h:Tb.wH (partsOf S es) t b):∃e∈es,∃y∈e.ys,y.t=t/\y.b=b:=by
 obtain⟨p,hp,e1,e2⟩:=h;obtain⟨e,he,hq⟩:=aIC.mp hp;obtain⟨y,hy,rfl⟩:=aFT.mp hq;exact⟨e,he,y,hy,e1,e2⟩
theorem GM.out(g:GM es k0 W0 kk)(o:Out (partsOf (d8 (dB es)) es) ys)(hl:ys.length<=es.length*k0) :
  GT ys (es.length*k0) (4000*Sd.gO (dB es)) (Sd.gO (es.map fun e=>b7 e.ys)) kk:=by
 obtain⟨Sp,_,_,Sd'⟩:=g.S;have tp:∀n∈dB es,0<n:=fun n hn=>(g.tp n hn).1;have pw:∀r∈partsOf (d8 (dB es)) es,1<=r.w:=fun r hr=>by
  obtain⟨e,he,hq⟩:=aIC.mp hr;obtain⟨y,hy,rfl⟩:=aFT.mp hq;exact(g.part he hy).1
 have pne:partsOf (d8 (dB es)) es≠[]:=by
  cases es with
  |nil=>exact absurd rfl g.ne
  |cons e es =>
   intro z;have h1:=(List.append_eq_nil_iff.mp (show(e.ys.map fun y=>(⟨y.t,y.b,tQ _ e*y.w⟩:Tb.Rw))++partsOf _ es=[] from z)).1;exact(g.g e aFL).ne (aGS.mp h1)
 have wp:=IV (S:=d8 (dB es)) (es:=es) (fun e he=>⟨(g.g e he).tot,Sd' e he,(g.w e he).2⟩) (aFZ Sp);have sl:=Hs tp;have l:=g.len;have mpos:∀n∈es.map (fun e=>b7 e.ys),0<n:=fun n hn=>by
  obtain⟨e,he,rfl⟩:=aFT.mp hn;exact(g.g e he).mp
 refine⟨o.ne pne,hl,fun y hy=>(o.w y hy).1,?_,Sd.pP mpos,fun y hy=>?_⟩
 ·have a:=o.sum pw;have b:1000*(es.length:Int)*d8 (dB es)<=4000*d8 (dB es):=aF0 (by lia) (aFZ Sp)
  lia
 ·obtain⟨p,hp,e1,e2⟩:=o.key hy;obtain⟨e,he,z,hz,e3,e4⟩:=J0 ⟨p,hp,e1,e2⟩;have f:=(g.g e he).fq z hz;rw[e3,e4]at f;exact Sd.Fq.mono f (Sd.uA (aFT.mpr ⟨e,he,rfl⟩)) (aGE _)
theorem GT.cm{W:Int}(g:GT xs n W M k):Tb.CM (b7 xs) (eF xs):=by
 obtain⟨a,b,c⟩:=g.lcm;refine⟨a,fun r hr=>?_⟩;obtain⟨x,hx,rfl⟩:=aFT.mp hr;exact⟨(g.fq x hx).fr.pos,c x hx⟩
theorem GT.tab{W:Int}(g:GT xs n W M k)(so:(eF xs).Pairwise Tb.Lt):Tb.Tab (b7 xs) (eF xs) :=
 ⟨g.cm,fun r hr=>by obtain⟨x,hx,rfl⟩:=aFT.mp hr;exact g.w1 x hx,so.imp fun h=>aFZ h⟩
theorem aBM{B:Int}{r:Tb.Rw}(hb:0<r.b)(hB:0<B)(d:r.b∣B)(lo:-(k*r.b)<=r.t)(hi:r.t<=k*r.b):-(k*B)<=Tb.T B r/\Tb.T B r<=k*B:=by
 obtain⟨c,hc,e,q⟩:=Tb.cof hb hB d;unfold Tb.T;rw[q,e];have h1:=aF0 lo (aFZ hc);have h2:=aF0 hi (aFZ hc);have e1:-(k*r.b)*c = -(k*(r.b*c)):=by grind
 have e2:k*r.b*c=k*(r.b*c):=by grind
 rw[e1]at h1;rw[e2]at h2;exact⟨h1,h2⟩
theorem Qy{B k:Int}(kB:0<=k*B):∀{rs:List Tb.Rw},(∀r∈rs,1<=r.w/\-(k*B)<=Tb.T B r/\Tb.T B r<=k*B)->-(k*B*Tb.W rs)<=Tb.WT B rs/\Tb.WT B rs<=k*B*Tb.W rs
 | [],_=>by simp[Tb.W,Tb.WT]
 |r::rs,h=>by
  obtain⟨a,b⟩:=Qy kB (rs:=rs) fun x hx=>h x (aFK _ hx);obtain⟨w1,l,u⟩:=h r aFL;rw[Tb.wA,Tb.jC];have h1:=aF1 l (show 0<=r.w by lia);have h2:=aF1 u (show 0<=r.w by lia);have e1:r.w * -(k*B) = -(k*B*r.w):=by grind
  have e2:r.w*(k*B)=k*B*r.w:=by grind
  have e3:k*B*(r.w+Tb.W rs)=k*B*r.w+k*B*Tb.W rs:=by grind
  rw[e1]at h1;rw[e2]at h2;rw[e3]
  lia
theorem Wj{rs:List Tb.Rw}(h:∀r∈rs,1<=r.w)(j:Nat):0<=Tb.W (rs.drop j)/\Tb.W (rs.drop j)<=Tb.W rs:=by
 have nn:∀zs:List Tb.Rw,(∀r∈zs,1<=r.w)->0<=Tb.W zs:=by
  intro zs
  induction zs with
  |nil=>intro _;exact aGE _
  |cons z zs ih =>
   intro hz;rw[Tb.jC];have:=hz z aFL;have:=ih fun x hx=>hz x (aFK _ hx)
   lia
 have e:Tb.W rs=Tb.W (rs.take j)+Tb.W (rs.drop j):=by rw[<-Tb.Du,aGZ]
 have a:=nn (rs.take j) fun r hr=>h r (List.mem_of_mem_take hr);have b:=nn (rs.drop j) fun r hr=>h r (aHh hr)
 lia
theorem GT.lp{W p tops ws:Int}{i:Nat}(g:GT xs n W M k)(k0:0<=k)(p0:0<=p)(l:Tb.Lp (b7 xs) (p*Tb.W (eF xs)*b7 xs) (eF xs) i tops ws) :
  0<=ws/\ws<=wsum xs/\-((p+k)*wsum xs*b7 xs)<=tops/\tops<=(p+k)*wsum xs*b7 xs:=by
 have cm:=g.cm;have Bp:=cm.pos;have w1:∀r∈eF xs,1<=r.w:=fun r hr=>by obtain⟨x,hx,rfl⟩:=aFT.mp hr;exact g.w1 x hx
 have wd:=Wj w1 ((eF xs).length-i);have kB:0<=k*b7 xs:=aGQ k0 (aFZ Bp);have wt:=Qy kB (rs:=(eF xs).drop ((eF xs).length-i)) fun r hr=>by
  obtain⟨x,hx,rfl⟩:=aFT.mp (aHh hr);have f:=g.fq x hx;exact⟨g.w1 x hx,aBM (r:=x.r) f.fr.pos Bp (g.lcm.2.2 x hx) f.lo f.hi⟩
 have ew:=l.ew;have et:=l.et;rw[<-ew]at wd wt;have m:=aF1 wd.2 kB;have P0:0<=p*Tb.W (eF xs)*b7 xs:=aGQ (aGQ p0 (by lia)) (aFZ Bp);have e:(p+k)*wsum xs*b7 xs=p*Tb.W (eF xs)*b7 xs+k*b7 xs*Tb.W (eF xs):=by rw[uO];grind
 rw[e,uO];exact⟨wd.1,wd.2,by lia,by lia⟩
theorem Ws{tops ws B:Int}(hw:1<=ws)(hB:0<B)(k0:0<=k)(lo:-(k*B)<=tops)(hi:tops<=k*B):Sd.FQ (Fr.sh tops (ws*B)) (ws*B) k:=by
 have p:0<ws*B:=aGP (by lia) hB;have kb:0<=k*B:=aGQ k0 (aFZ hB);have e:k*(ws*B)=k*B*ws:=by grind
 have h:k*B*1<=k*B*ws:=aF1 hw kb;exact Sd.YJ (u:=tops) p rfl (by rw[e];lia) (by rw[e];lia)
inductive RM (vs:List V)(H:Hp)(Q:VK)(_:XK):Prop
 |mk (a:Addr) (xs:List Row) (p:Int) (n:Nat) (W:Int) (k:Int) (_:vs=[.ref a,.int p]) (_:TabAt H a xs) (_:GT xs n W (b7 xs) k) (_:Cp n W (b7 xs) k) (_:(eF xs).Pairwise Tb.Lt) (_:0<=p) (_:p<=1000000000) (_:∀(r:Addr) (H':Hp) (l:Int×Int) (u:Int),aP H H'->Tq H' r l->1<=u->u<=wsum xs->Sd.FQ l (u*b7 xs) ((p+k)*wsum xs)->Tb.Lv (b7 xs) (p*Tb.W (eF xs)*b7 xs) l.1 l.2 (eF xs)->Q (.ref r) H')
theorem Sv{W l0 l1:Int}(g:GT xs n W M k)(f:Sd.Fq l0 l1 M k)(o:Out ((eF xs).map (Tb.jZ l0 l1)) ys)(hl:ys.length<=xs.length):GT ys n W M k:=by
 have cw:∀r:Tb.Rw,(Tb.jZ l0 l1 r).w=r.w:=fun r=>by unfold Tb.jZ;split <;> rfl
 have pw:∀r∈(eF xs).map (Tb.jZ l0 l1),1<=r.w:=fun r hr=>by
  obtain⟨p,hp,rfl⟩:=aFT.mp hr;obtain⟨x,hx,rfl⟩:=aFT.mp hp;rw[cw];exact g.w1 x hx
 have eW:∀rs:List Tb.Rw,Tb.W (rs.map (Tb.jZ l0 l1))=Tb.W rs:=by
  intro rs
  induction rs with
  |nil=>rfl
  |cons r rs ih=>rw[aFP,Tb.jC,Tb.jC,ih,cw]
 have s:=o.sum pw;rw[eW,<-uO]at s;refine⟨o.ne fun z=>g.ne (aGS.mp (aGS.mp z)),aFN hl g.len,fun y hy=>(o.w y hy).1,aGj s g.ws,g.mp,fun y hy=>?_⟩;obtain⟨p,hp,e1,e2⟩:=o.key hy;obtain⟨q,hq,rfl⟩:=aFT.mp hp;obtain⟨x,hx,rfl⟩:=aFT.mp hq;rw[<-e1,<-e2];unfold Tb.jZ
 split
 ·exact f
 ·exact g.fq x hx
inductive Mq (Pt:Addr)(lp:Pos)(vs:List V)(H:Hp)(Q:VK)(_:XK):Prop
 |mk (a:Addr) (l:Addr) (xs:List Row) (x:Int×Int) (n:Nat) (W:Int) (M:Int) (k:Int) (_:vs=[.ref a,.ref l]) (_:TabAt H a xs) (_:GT xs n W M k) (_:Cp n W M k) (_:Tq H l x) (_:Sd.FQ x M k) (_:cA Pt lp gU H) (_:∀(r:Addr) (H':Hp) (ys:List Row),cW Pt H H'->cA Pt lp gU H'->H r=none->TabAt H' r ys->GT ys n W M k->Out ((eF xs).map (Tb.jZ x.1 x.2)) ys->Q (.ref r) H')
inductive Ng (Pt:Addr)(lp:Pos)(vs:List V)(H:Hp)(Q:VK)(_:XK):Prop
 |mk (a:Addr) (es:List Ent) (k0:Nat) (W0:Int) (kk:Int) (_:vs=[.ref a]) (_:xN H a es) (_:GM es k0 W0 kk) (_:cA Pt lp gU H) (_:∀(r:Addr) (H':Hp) (ys:List Row),cW Pt H H'->cA Pt lp gU H'->H r=none->TabAt H' r ys->GT ys (es.length*k0) (4000*Sd.gO (dB es)) (Sd.gO (es.map fun e=>b7 e.ys)) kk->Out (partsOf (d8 (dB es)) es) ys->ys.length<=(partsOf (d8 (dB es)) es).length->Q (.ref r) H')
def Jv (xs:List Row)(d m:Nat):Prop:=GT xs m (wB d m) (b7 xs) (kK d)/\b7 xs<=2^(be d*m)
variable{d:Nat}
theorem Jv.up{k:Nat}(h:Jv xs d k)(hk:k<=12):Jv xs d 12:=by
 obtain⟨g,l⟩:=h;have a:wB d k<=wB d 12:=Sd.gW (aGm _ hk);exact⟨⟨g.ne,aFN g.len hk,g.w1,aGj g.ws a,g.mp,g.fq⟩,aGj l (Sd.gW (aGm _ hk))⟩
inductive Ae (d:Nat)(f:Int×Sd.Sd->Nat):List Ent->List (Int×Sd.Sd)->Prop
 |nil:Ae d f [] []
 |cons {e:Ent}{t:Int×Sd.Sd}{es:List Ent}{rs:List (Int×Sd.Sd)} (g:Jv e.ys d (f t)) (h:Ae d f es rs):Ae d f (e::es) (t::rs)
theorem Ae.snoc{f:Int×Sd.Sd->Nat}{rs:List (Int×Sd.Sd)}(h:Ae d f es rs){t:Int×Sd.Sd}(g:Jv e.ys d (f t)):Ae d f (es++[e]) (rs++[t]):=by
 induction h with
 |nil=>exact .cons g .nil
 |cons g' _ ih=>exact .cons g' ih
structure AeB (d n:Nat)(es:List Ent):Prop where
 t0:0<Sd.gO (dB es)
 t:Sd.gO (dB es)<=2^((12*d+1)*n)
 l:Sd.gO (es.map fun e=>b7 e.ys)<=2^(be d*n)
 p:∀S,(partsOf S es).length<=n
theorem Ae.b{f:Int×Sd.Sd->Nat}{rs:List (Int×Sd.Sd)}(h:Ae d f es rs):AeB d (rs.map f).sum es:=by
 induction h with
 |nil=>exact⟨by decide,by show(1:Int)<=_;simp,by show(1:Int)<=_;simp,fun _=>aGe _⟩
 | @cons e t es rs g _ ih =>
  have a:=g.1.tot;have b:=g.1.ws;unfold wB at b;have c:=g.1.mp;have e1:dB (e::es)=wsum e.ys::dB es:=rfl;have lp:0<Sd.gO (es.map fun e=>b7 e.ys)∨True:=.inr trivial;rw[aFP,aF7];refine⟨?_,?_,?_,fun S=>?_⟩
  ·rw[e1];exact aGP (by lia) ih.t0
  ·rw[e1,aHu,aHi];exact aGj (aF0 b (aFZ ih.t0)) (aF1 ih.t (aFZ (Sd.dC _)))
  ·rw[aFP,aHu,aHi];exact aGj (aF1 ih.l (aFZ c)) (aF0 g.2 (aFZ (Sd.dC _)))
  ·have e2:partsOf S (e::es)=(e.ys.map fun y=>⟨y.t,y.b,tQ S e*y.w⟩)++partsOf S es:=rfl;rw[e2,aFR,aFJ];have:=g.1.len;have:=ih.p S
   lia
theorem Ae.all{d:Nat}{f:Int×Sd.Sd->Nat}{es:List Ent}{rs:List (Int×Sd.Sd)}(h:Ae d f es rs)(hf:∀t∈rs,f t<=12):∀e∈es,Jv e.ys d 12:=by
 induction h with
 |nil=>intro e he;cases he
 | @cons e t es rs g _ ih =>
  intro x hx;rcases aGi.mp hx with z |z
  ·subst z;exact g.up (hf t aFL)
  ·exact ih (fun u hu=>hf u (aFK _ hu)) x z
theorem YL(hd:d<=4)(ne:es≠[])(l4:es.length<=4)(w:∀e∈es,1<=e.w/\e.w<=1000)(g:∀e∈es,Jv e.ys d 12):GM es 12 (wB d 12) (kK d) :=
 ⟨ne,l4,by decide,by lia,w,fun e he=>(g e he).1,fun e he=>Iv hd (by decide) (g e he).2⟩
structure Mx (es:List Ent)(ys:List Row)(d m:Nat):Prop where
 g:GT ys m (wB (d+1) m) (b7 ys) (kK d)
 l:b7 ys<=2^(be d*m)
variable{m:Nat}
theorem Yw{n0:Nat}(ab:AeB d n es)(hn:n<=m)(hm1:1<=m)(o:ys.length<=n)(h:GT ys n0 (4000*Sd.gO (dB es)) (Sd.gO (es.map fun e=>b7 e.ys)) (kK d)):Mx es ys d m:=by
 have x2:(12*d+1)*n<=(12*d+1)*m:=aGm _ hn;have x3:12+(12*d+1)*m<=(12*(d+1)+1)*m:=by
  have:(12*(d+1)+1)*m=12*m+(12*d+1)*m:=by rw[show 12*(d+1)+1=12+(12*d+1) by lia,aHv]
  lia
 have y2:be d*n<=be d*m:=aGm _ hn;have W1:4000*Sd.gO (dB es)<=wB (d+1) m:=by
  have a:4000*Sd.gO (dB es)<=2^12*Sd.gO (dB es):=aF0 (by decide) (aFZ ab.t0);have b:(2:Int)^12*Sd.gO (dB es)<=2^12*2^((12*d+1)*n):=aF1 ab.t (by decide);rw[<-aHi]at b;have c:(2:Int)^(12+(12*d+1)*n)<=wB (d+1) m:=Sd.gW (by lia)
  lia
 obtain⟨o1,o2⟩:=h.own;have M1:b7 ys<=2^(be d*m):=aGj (aGj o2 ab.l) (Sd.gW (by lia));exact⟨⟨o1.ne,aFN o hn,o1.w1,aGj o1.ws W1,o1.mp,o1.fq⟩,M1⟩
theorem Mx.cp(x:Mx es ys d m)(hd:d+1<=4)(hm:m<=12):Cp m (wB (d+1) m) (b7 ys) (kK d):=by
 have a:=Iv (d:=d) (by lia) hm x.l;have b:=Iv (d:=d+1) (m:=m) (M:=1) hd hm (by have:=Sd.dC (be (d+1)*m);lia);exact⟨hm,b.w,a.m,a.k0,a.k⟩
theorem k30(d:Nat):(1000000000:Int)<=kK d:=by
 have h:30<=ka d:=by
  induction d with
  |zero=>exact aFV _
  |succ d ih=>show 30<=ka d+(12*(d+1)+1)*12+1;lia
 have:=Sd.gW h;have e:(2:Int)^30=1073741824:=by decide
 unfold kK
 lia
structure Lx (ys:List Row)(l:Int×Int)(M k:Int)(d m:Nat):Prop where
 g:GT ys m (wB (d+1) m) M k
 c:Cp m (wB (d+1) m) M k
 f:Sd.FQ l M k
 m:M<=2^(be (d+1)*m)
 k:k<=kK (d+1)
theorem Xx{p u:Int}{l:Int×Int}(x:Mx es ys d m)(hd:d+1<=4)(hm:m<=12)(p0:0<=p)(p9:p<=1000000000)(u1:1<=u)(u2:u<=wsum ys)(f:Sd.FQ l (u*b7 ys) ((p+kK d)*wsum ys)) :
  Lx ys l (u*b7 ys) ((p+kK d)*wsum ys) d m:=by
 have kp:=Sd.dC (ka d);have kp:0<kK d:=kp;have k9:=k30 d;have ws:=x.g.ws;have w1:=x.g.tot;have mp:=x.g.mp;have wp:(0:Int)<wB (d+1) m:=Sd.dC _;have kk:kK d<=(p+kK d)*wsum ys:=by
  have a:(p+kK d)*1<=(p+kK d)*wsum ys:=aF1 w1 (by lia)
  lia
 have M1:u*b7 ys<=2^(be (d+1)*m):=by
  have a:u*b7 ys<=wB (d+1) m*2^(be d*m):=aGj (aF0 (aGj u2 ws) (aFZ mp)) (aF1 x.l (aFZ wp));unfold wB at a;rw[<-aHi]at a;refine aGj a (Sd.gW ?_);have e:be (d+1)*m=be d*m+(12*(d+1)+1)*m:=by rw[<-aHv];rfl
  lia
 have K1:(p+kK d)*wsum ys<=kK (d+1):=by
  have a:(p+kK d)*wsum ys<=(2*kK d)*wB (d+1) m:=aGj (aF0 (by lia) (by lia)) (aF1 ws (by lia));have e:(2*kK d)*wB (d+1) m=2^(ka d+1+(12*(d+1)+1)*m):=by
   unfold kK wB;rw[aHi,aHl]
   grind
  rw[e]at a;refine aGj a (Sd.gW ?_);show _<=ka d+(12*(d+1)+1)*12+1;have:=aGm (12*(d+1)+1) hm
  lia
 have c1:=Iv (d:=d+1) hd hm M1;refine⟨⟨x.g.ne,x.g.len,x.g.w1,x.g.ws,aGP (by lia) mp,fun y hy=>Sd.Fq.mono (x.g.fq y hy) ⟨u,by grind⟩ kk⟩,⟨hm,c1.w,c1.m,by lia,aGj K1 c1.k⟩,f,M1,K1⟩
theorem X8{zs:List Row}{l:Int×Int}(x:Lx ys l M k d m)(g:GT zs m (wB (d+1) m) M k):Jv zs (d+1) m:=by
 obtain⟨a,b⟩:=g.own;exact⟨⟨a.ne,a.len,a.w1,a.ws,a.mp,fun y hy=>Sd.Fq.mono (a.fq y hy) (aH6 _) x.k⟩,aGj b x.m⟩
end TD
namespace Sd
def V (x:Int×Int):Rat:=(x.1:Rat)/(x.2:Rat)
noncomputable def Ab (a b:Rat):Rat:=if a<b then b else a
noncomputable def rb (l:Rat):Nat->Sd->Rat
 | 0,_=>0
 |_+1,.en v=>Ab l (v:Rat)
 |n+1,.st p rs=>Ab l (rs.foldl (fun a r=>a+(r.1:Rat)/(jB rs:Rat)*rb l n r.2) (-(p:Rat)))
noncomputable def Zn (l:Rat):Nat->Sd->Rat
 | 0,_=>0
 |_+1,.en v=>(v:Rat)
 |n+1,.st p rs=>rs.foldl (fun a r=>a+(r.1:Rat)/(jB rs:Rat)*rb l n r.2) (-(p:Rat))
theorem Uu(l:Rat)(n:Nat)(s:Sd):rb l (n+1) s=Ab l (Zn l (n+1) s):=by cases s <;> rfl
theorem iQ{b:Int}(h:0<b):(0:Rat)<(b:Rat):=by exact_mod_cast h
theorem pB{b:Int}(h:0<b):(b:Rat)≠0:=by have:=iQ h;grind
theorem V_lt{x y:Int×Int}(hx:0<x.2)(hy:0<y.2):x.1*y.2<y.1*x.2↔V x<V y:=by
 have p1:=iQ hx;have p2:=iQ hy;have n1:=pB hx;have n2:=pB hy;have e1:V x*(x.2:Rat)=(x.1:Rat):=by unfold V;grind
 have e2:V y*(y.2:Rat)=(y.1:Rat):=by unfold V;grind
 have pp:(0:Rat)<(x.2:Rat)*(y.2:Rat):=Rat.mul_pos p1 p2;have c:x.1*y.2<y.1*x.2↔(x.1:Rat)*(y.2:Rat)<(y.1:Rat)*(x.2:Rat):=by
  constructor
  ·intro h;exact_mod_cast h
  ·intro h;exact_mod_cast h
 rw[c,<-e1,<-e2];constructor
 ·intro h
  by_cases z:V x<V y
  ·exact z
  ·have:=aG6 (aH7.mp z) (c:=(x.2:Rat)*(y.2:Rat)) (by grind)
   grind
 ·intro h;have:=aHK h pp
  grind
noncomputable def cv (r:Tb.Rw):Rat:=(r.t:Rat)/(r.b:Rat)
noncomputable def up (l:Rat)(ys:List Tb.Rw):Rat:=(ys.map fun r=>(r.w:Rat)*(Ab l (cv r)-l)).sum
noncomputable def eN (ys:List Tb.Rw):Rat:=(ys.map fun r=>(r.w:Rat)).sum
theorem uM(l:Rat):up l []=0:=rfl
theorem jF(l:Rat)(r:Tb.Rw)(ys:List Tb.Rw):up l (r::ys)=(r.w:Rat)*(Ab l (cv r)-l)+up l ys:=by unfold up;rw[aFP,aF7]
theorem j7(r:Tb.Rw)(ys:List Tb.Rw):eN (r::ys)=(r.w:Rat)+eN ys:=by unfold eN;rw[aFP,aF7]
theorem JV(l:Rat)(xs ys:List Tb.Rw):up l (xs++ys)=up l xs+up l ys:=by unfold up;rw[aFQ,aH9]
theorem DN(xs ys:List Tb.Rw):eN (xs++ys)=eN xs+eN ys:=by unfold eN;rw[aFQ,aH9]
theorem wW:∀ys:List Tb.Rw,eN ys=((Tb.W ys:Int):Rat)
 | []=>rfl
 |r::ys=>by rw[j7,Tb.jC,wW ys];push_cast;rfl
theorem Hk{f:Int->Int->Rat}{r:Tb.Rw}:∀{ys:List Tb.Rw},ys.Pairwise Tb.Lt->((ys.map fun y=>(((if r.t=y.t/\r.b=y.b then r.w else 0:Int)):Rat)*f y.t y.b).sum=if(∃y∈ys,y.t=r.t/\y.b=r.b)then(r.w:Rat)*f r.t r.b else 0)
 | [],_=>by simp
 |y::ys,so=>by
  obtain⟨h1,h2⟩:=aG9.mp so;rw[aFP,aF7,Hk (f:=f) (r:=r) h2]
  by_cases e:r.t=y.t/\r.b=y.b
  ·have no:¬ ∃z∈ys,z.t=r.t/\z.b=r.b:=by
    rintro⟨z,hz,e1,e2⟩;exact Tb.LR (h1 z hz) (by lia) (by lia)
   rw[if_pos e,if_neg no,if_pos ⟨y,aFL,e.1.symm,e.2.symm⟩,<-e.1,<-e.2]
   grind
  ·rw[if_neg e]
   by_cases h:∃z∈ys,z.t=r.t/\z.b=r.b
   ·obtain⟨z,hz,ez⟩:=h;rw[if_pos ⟨z,hz,ez⟩,if_pos ⟨z,aFK _ hz,ez⟩]
    push_cast
    grind
   ·rw[if_neg h,if_neg]
    ·push_cast
     grind
    ·rintro⟨z,hz,ez⟩;rcases aGi.mp hz with w |w
     ·subst w;exact e ⟨ez.1.symm,ez.2.symm⟩
     ·exact h ⟨z,w,ez⟩
theorem Hq{α:Type}{f g:α->Rat}:∀l:List α,(l.map fun x=>f x+g x).sum=(l.map f).sum+(l.map g).sum
 | []=>by show(0:Rat)=0+0;grind
 |x::l=>by rw[aFP,aF7,Hq l,aFP,aF7,aFP,aF7];grind
theorem CJ{α:Type}{f:α->Rat}(d:Rat):∀l:List α,(l.map fun x=>d*f x).sum=d*(l.map f).sum
 | []=>by simp
 |x::l=>by rw[aFP,aF7,CJ d l,aFP,aF7];grind
theorem Eb{ys:List Tb.Rw}(so:ys.Pairwise Tb.Lt)(f:Int->Int->Rat):∀{ps:List Tb.Rw},(∀r∈ps,Tb.wH ys r.t r.b)->(ps.map fun r=>(r.w:Rat)*f r.t r.b).sum=(ys.map fun y=>((Tb.Wt ps y.t y.b:Int):Rat)*f y.t y.b).sum
 | [],_=>by
  have e:(ys.map fun y=>((Tb.Wt [] y.t y.b:Int):Rat)*f y.t y.b)=ys.map fun y=>(0:Rat)*f y.t y.b:=aGH fun y _=>rfl;rw[e,CJ];simp
 |r::ps,h=>by
  rw[aFP,aF7,Eb so f fun x hx=>h x (aFK _ hx)];have e:(ys.map fun y=>((Tb.Wt (r::ps) y.t y.b:Int):Rat)*f y.t y.b)=ys.map fun y=>(((if r.t=y.t/\r.b=y.b then r.w else 0:Int)):Rat)*f y.t y.b+((Tb.Wt ps y.t y.b:Int):Rat)*f y.t y.b:=aGH fun y _=>by
   rw[Tb.mW]
   push_cast
   grind
  rw[e,Hq,Hk so,if_pos];obtain⟨y,hy,e1,e2⟩:=h r aFL;exact⟨y,hy,e1,e2⟩
variable{ys:List Tb.Rw}
theorem Ds{ps:List Tb.Rw}(h:Tb.Dg ps ys):∃d:Rat,0<d/\(∀l,up l ps=d*up l ys)/\eN ps=d*eN ys:=by
 obtain⟨d,d0,hd⟩:=h.d;have hh:∀r∈ps,Tb.wH ys r.t r.b:=fun r hr=>(h.has r.t r.b).mpr ⟨r,hr,rfl,rfl⟩;have key:∀f:Int->Int->Rat,(ps.map fun r=>(r.w:Rat)*f r.t r.b).sum=(d:Rat)*(ys.map fun y=>(y.w:Rat)*f y.t y.b).sum:=fun f=>by
  rw[Eb h.lt f hh,<-CJ]
  congr 1
  refine aGH fun y hy=>?_;rw[hd y hy]
  push_cast
  grind
 refine⟨(d:Rat),iQ d0,fun l=>key fun t b=>Ab l ((t:Rat)/(b:Rat))-l,?_⟩;have k1:=key fun _ _=>1;unfold eN;have e:∀l:List Tb.Rw,(l.map fun r=>(r.w:Rat)*1)=l.map fun r=>(r.w:Rat):=fun l=>aGH fun r _=>by grind
 rw[e,e]at k1;exact k1
theorem Tc(a b:Rat):a<=Ab a b:=by unfold Ab;split <;> grind
theorem Xb{l:Rat}:∀{ys:List Tb.Rw},(∀r∈ys,1<=r.w)->0<=up l ys
 | [],_=>by rw[uM];grind
 |r::ys,h=>by
  have a:=Xb (l:=l) (ys:=ys) fun x hx=>h x (aFK _ hx);have w:=iQ (show 0<r.w by have:=h r aFL;lia);have m:=Tc l (cv r);have b:0<=(r.w:Rat)*(Ab l (cv r)-l):=Rat.mul_nonneg (by grind) (by grind);rw[jF]
  grind
theorem Ib{l l':Rat}(h:l<=l'):∀{ys:List Tb.Rw},(∀r∈ys,1<=r.w)->up l' ys<=up l ys
 | [],_=>by rw[uM,uM];grind
 |r::ys,hw=>by
  have a:=Ib h (ys:=ys) fun x hx=>hw x (aFK _ hx);have w:=iQ (show 0<r.w by have:=hw r aFL;lia);have m:Ab l' (cv r)-l'<=Ab l (cv r)-l:=by unfold Ab;split <;> split <;> grind
  have b:=aG8 m (c:=(r.w:Rat)) (by grind);rw[jF,jF]
  grind
theorem Np(ne:ys≠[])(h:∀r∈ys,1<=r.w):0<eN ys:=by
 rw[wW];exact iQ (Tb.Lz h ne)
theorem Vg{l0 l1:Int}(hl:0<l1){r:Tb.Rw}(hb:0<r.b):cv (Tb.jZ l0 l1 r)=(if V (l0,l1)<cv r then V (l0,l1)else cv r)/\(Tb.jZ l0 l1 r).w=r.w:=by
 have e:=V_lt (x:=(l0,l1)) (y:=(r.t,r.b)) hl hb;have e:l0*r.b<r.t*l1↔V (l0,l1)<cv r:=e;unfold Tb.jZ
 by_cases h:l0*r.b<r.t*l1
 ·rw[if_pos h,if_pos (e.mp h)];exact⟨rfl,rfl⟩
 ·rw[if_neg h,if_neg (fun z=>h (e.mpr z))];exact⟨rfl,rfl⟩
theorem Gr{l0 l1:Int}(hl:0<l1){l:Rat}:∀{ys:List Tb.Rw},(∀r∈ys,0<r.b)->up l (ys.map (Tb.jZ l0 l1))=(if l<V (l0,l1)then up l ys-up (V (l0,l1)) ys else 0)/\eN (ys.map (Tb.jZ l0 l1))=eN ys
 | [],_=>by
  constructor
  ·simp only[aGD,uM];split <;> grind
  ·rfl
 |r::ys,h=>by
  obtain⟨a,b⟩:=Gr (l0:=l0) hl (l:=l) (ys:=ys) fun x hx=>h x (aFK _ hx);obtain⟨c,d⟩:=Vg (l0:=l0) hl (h r aFL);rw[aFP,jF,j7,a,b,c,d,j7,jF,jF];refine⟨?_,rfl⟩;unfold Ab
  by_cases h1:l<V (l0,l1)
  ·rw[if_pos h1,if_pos h1]
   by_cases h2:V (l0,l1)<cv r
   ·simp only[if_pos h2];rw[if_pos h1,if_pos (show l<cv r by grind)]
    grind
   ·simp only[if_neg h2]
    by_cases h3:l<cv r
    ·rw[if_pos h3];grind
    ·rw[if_neg h3];grind
  ·rw[if_neg h1,if_neg h1];have:¬ l<(if V (l0,l1)<cv r then V (l0,l1)else cv r):=by split <;> grind
   rw[if_neg this]
   grind
theorem SM{B l0 l1:Int}(hB:0<B)(hl:0<l1):∀{ys:List Tb.Rw},(∀r∈ys,0<r.b/\r.b∣B)->((Tb.S B l0 l1 ys:Int):Rat)=(B:Rat)*(l1:Rat)*up (V (l0,l1)) ys
 | [],_=>by rw[uM];show((0:Int):Rat)=_;push_cast;grind
 |r::ys,h=>by
  have a:=SM (l0:=l0) hB hl (ys:=ys) fun x hx=>h x (aFK _ hx);obtain⟨hb,dv⟩:=h r aFL;have tm:=Tb.LC hb hB dv;have ai:=Tb.Jq (l0:=l0) (l1:=l1) hb hB dv;have e:=V_lt (x:=(l0,l1)) (y:=(r.t,r.b)) hl hb;have e:l0*r.b<r.t*l1↔V (l0,l1)<cv r:=e;have n1:=pB hB;have n2:=pB hl;have n3:=pB hb;have tm':((Tb.T B r:Int):Rat)*(r.b:Rat)=(r.t:Rat)*(B:Rat):=by exact_mod_cast tm
  rw[Tb.wM,jF]
  push_cast
  rw[a];unfold Tb.mx Ab
  by_cases c:V (l0,l1)<cv r
  ·rw[if_pos (ai.mpr (e.mpr c)),if_pos c]
   push_cast
   unfold V cv;have t2:((Tb.T B r:Int):Rat)=(r.t:Rat)*(B:Rat)/(r.b:Rat):=by grind
   rw[t2]
   grind
  ·rw[if_neg (fun z=>c (e.mp (ai.mp z))),if_neg c]
   push_cast
   grind
structure LvR (p:Int)(L:Rat)(ys:List Tb.Rw):Prop where
 has:up L ys=(p:Rat)*eN ys
 more:∀m:Rat,m<L->(p:Rat)*eN ys<up m ys
theorem RT(m:Rat):V (m.num,(m.den:Int))=m:=by
 unfold V;show(m.num:Rat)/((m.den:Int):Rat)=m;rw[<-Rat.divInt_eq_div,Rat.num_divInt_den]
theorem Wx{B p l0 l1:Int}(hB:0<B)(h:∀r∈ys,0<r.b/\r.b∣B)(L:Tb.Lv B (p*Tb.W ys*B) l0 l1 ys):LvR p (V (l0,l1)) ys:=by
 have n1:=pB hB;have n2:=pB L.pos;have q1:=iQ hB;constructor
 ·have a:=SM (l0:=l0) hB L.pos h;rw[L.has]at a
  push_cast at a
  rw[wW]
  grind
 ·intro m hm;have mp:(0:Int)<(m.den:Int):=by exact_mod_cast m.den_pos
  have lt:=(V_lt (x:=(m.num,(m.den:Int))) (y:=(l0,l1)) mp L.pos).mpr (by rw[RT];exact hm);have b:=L.more m.num m.den lt;have a:=SM (l0:=m.num) hB mp h;rw[RT]at a;have b':((p*Tb.W ys*B*(m.den:Int):Int):Rat)<((Tb.S B m.num m.den ys:Int):Rat):=by exact_mod_cast b
  rw[a]at b'
  push_cast at b'
  have q2:=iQ mp
  push_cast at q2
  have q3:(0:Rat)<(B:Rat)*(m.den:Rat):=Rat.mul_pos q1 q2;rw[wW]
  by_cases z:(p:Rat)*((Tb.W ys:Int):Rat)<up m ys
  ·exact z
  ·have:=aG6 (aH7.mp z) (c:=(B:Rat)*(m.den:Rat)) (by grind)
   grind
end Sd
namespace Sd
open TD
structure Mt (s:Sd)(d:Nat)(lv:Int×Int)(ys:List Tb.Rw):Prop where
 a:∀n,d<n->∀l:Rat,(rb l n s-l)*eN ys=up l ys
 b:∀l:Rat,0<up l ys↔l<V lv
 c:∀n,d<n->Zn (V lv) n s=V lv
 t:0<eN ys
inductive Al (d:Nat):List Ent->List (Int×Sd)->Prop
 |nil:Al d [] []
 |cons {e:Ent}{t:Int×Sd}{es:List Ent}{rs:List (Int×Sd)} (w:e.w=t.1) (m:∃lv,Mt t.2 d lv (eF e.ys)) (h:Al d es rs):Al d (e::es) (t::rs)
variable{d:Nat}{es:List Ent}
theorem Al.snoc{rs:List (Int×Sd)}(h:Al d es rs){e:Ent}{t:Int×Sd}(w:e.w=t.1)(m:∃lv,Mt t.2 d lv (eF e.ys)):Al d (es++[e]) (rs++[t]):=by
 induction h with
 |nil=>exact .cons w m .nil
 |cons w' m' _ ih=>exact .cons w' m' ih
theorem Dr(l:Rat)(k:Int):∀ys:List Row,up l (ys.map fun y=>⟨y.t,y.b,k*y.w⟩)=(k:Rat)*up l (eF ys)/\eN (ys.map fun y=>(⟨y.t,y.b,k*y.w⟩:Tb.Rw))=(k:Rat)*eN (eF ys)
 | []=>by
  constructor
  ·show(0:Rat)=(k:Rat)*0;grind
  ·show(0:Rat)=(k:Rat)*0;grind
 |y::ys=>by
  obtain⟨a,b⟩:=Dr l k ys;have e:eF (y::ys)=y.r::eF ys:=rfl;rw[aFP,jF,j7,a,b,e,jF,j7];have e2:cv y.r=cv ⟨y.t,y.b,k*y.w⟩:=rfl;have e3:y.r.w=y.w:=rfl;rw[e2,e3]
  push_cast
  constructor <;> grind
theorem OJ{S:Int}{n:Nat}(hn:d<n)(l:Rat){rs:List (Int×Sd)}(al:Al d es rs):(∀e∈es,1<=wsum e.ys/\wsum e.ys∣S) ->
  up l (partsOf S es)=(S:Rat)*(rs.map fun t=>(t.1:Rat)*(rb l n t.2-l)).sum/\eN (partsOf S es)=(S:Rat)*((jB rs:Int):Rat):=by
 induction al with
 |nil =>
  intro _;constructor
  ·show(0:Rat)=(S:Rat)*0;grind
  ·show(0:Rat)=(S:Rat)*((0:Int):Rat);push_cast;grind
 | @cons e t es rs w m _ ih =>
  intro h;obtain⟨a,b⟩:=ih fun x hx=>h x (aFK _ hx);obtain⟨h1,h2⟩:=h e aFL;obtain⟨lv,mt⟩:=m;have ef:=Aw h1 h2;have ew:eN (eF e.ys)=((wsum e.ys:Int):Rat):=by rw[wW,uO]
  have ef':((tQ S e:Int):Rat)*eN (eF e.ys)=(t.1:Rat)*(S:Rat):=by
   rw[ew,<-w]
   exact_mod_cast ef
  have ma:=mt.a n hn l;have pe:partsOf S (e::es)=(e.ys.map fun y=>(⟨y.t,y.b,tQ S e*y.w⟩:Tb.Rw))++partsOf S es:=rfl;obtain⟨u1,u2⟩:=Dr l (tQ S e) e.ys;have wt:jB (t::rs)=t.1+jB rs:=by unfold jB;rw[aFP,aF7]
  rw[pe,JV,DN,u1,u2,a,b,aFP,aF7,wt,<-ma,ef']
  push_cast
  constructor
  ·have:((tQ S e:Int):Rat)*((rb l n t.2-l)*eN (eF e.ys))=(rb l n t.2-l)*(((tQ S e:Int):Rat)*eN (eF e.ys)):=by grind
   rw[this,ef']
   grind
  ·grind
theorem Dh(W l:Rat)(n:Nat):∀(rs:List (Int×Sd)) (z:Rat),rs.foldl (fun a r=>a+(r.1:Rat)/W*rb l n r.2) z=z+(rs.map fun r=>(r.1:Rat)/W*rb l n r.2).sum
 | [],z=>by show z=z+0;grind
 |r::rs,z=>by rw[aII,Dh W l n rs,aFP,aF7];grind
theorem zV{W:Rat}(hW:W≠0)(l:Rat)(n:Nat):∀rs:List (Int×Sd),(rs.map fun r=>(r.1:Rat)/W*rb l n r.2).sum=(rs.map fun t=>(t.1:Rat)*(rb l n t.2-l)).sum/W+l*((jB rs:Int):Rat)/W
 | []=>by show(0:Rat)=0/W+l*((0:Int):Rat)/W;push_cast;grind
 |r::rs=>by
  have wt:jB (r::rs)=r.1+jB rs:=by unfold jB;rw[aFP,aF7]
  rw[aFP,aF7,zV hW l n rs,aFP,aF7,wt]
  push_cast
  grind
theorem XN{p:Int}{rs:List (Int×Sd)}(hW:0<jB rs)(l:Rat)(n:Nat):Zn l (n+1) (.st p rs)=l-(p:Rat)+(rs.map fun t=>(t.1:Rat)*(rb l n t.2-l)).sum/((jB rs:Int):Rat):=by
 have ne:=pB hW;show rs.foldl (fun a r=>a+(r.1:Rat)/(jB rs:Rat)*rb l n r.2) (-(p:Rat))=_;rw[Dh,zV ne]
 grind
theorem Yr(v:Int)(d:Nat):Mt (.en v) d (v,1) [⟨v,1,1⟩]:=by
 have e1:V (v,1)=(v:Rat):=by unfold V;push_cast;grind
 have e2:cv ⟨v,1,1⟩=(v:Rat):=e1;have e3:eN [⟨v,1,1⟩]=1:=by rw[j7];show((1:Int):Rat)+0=1;push_cast;grind
 have e4:∀l:Rat,up l [⟨v,1,1⟩]=Ab l (v:Rat)-l:=fun l=>by rw[jF,e2,uM];push_cast;grind
 refine⟨fun n hn l=>?_,fun l=>?_,fun n hn=>?_,by rw[e3];grind⟩
 ·obtain⟨n,rfl⟩:∃k,n=k+1:=⟨n-1,by lia⟩
  rw[e3,e4];show(Ab l (v:Rat)-l)*1=_
  grind
 ·rw[e4,e1];unfold Ab
  split <;> grind
 ·obtain⟨n,rfl⟩:∃k,n=k+1:=⟨n-1,by lia⟩
  rw[e1]
  rfl
theorem Xf{rs:List (Int×Sd)}{S p:Int}{lv:Int×Int}{ys zs:List Tb.Rw}(al:Al d es rs)(hS:0<S)(hd:∀e∈es,1<=wsum e.ys/\wsum e.ys∣S)(hW:0<jB rs)(o:Tb.Dg (partsOf S es) ys)(ne:ys≠[])(hw:∀r∈ys,1<=r.w)(hb:∀r∈ys,0<r.b)
  (lp:0<lv.2) (L:LvR p (V lv) ys) (o2:Tb.Dg (ys.map (Tb.jZ lv.1 lv.2)) zs):Mt (.st p rs) (d+1) lv zs:=by
 obtain⟨k1,k1p,u1,t1⟩:=Ds o;obtain⟨k2,k2p,u2,t2⟩:=Ds o2;have Tp:=Np ne hw;have Wp:=iQ hW;have Sp:=iQ hS;obtain⟨_,tc⟩:=Gr (l0:=lv.1) lp (l:=0) hb;have t2':eN ys=k2*eN zs:=by rw[<-tc,t2]
 have op:∀n,d<n->∀l:Rat,Zn l (n+1) (.st p rs)=l-(p:Rat)+up l ys/eN ys:=fun n hn l=>by
  obtain⟨a,b⟩:=OJ hn l al hd;rw[XN hW];rw[u1]at a;rw[t1]at b;have n1:((jB rs:Int):Rat)≠0:=by grind
  have n2:eN ys≠0:=by grind
  have n3:(S:Rat)≠0:=by grind
  have n4:k1≠0:=by grind
  have c:(rs.map fun t=>(t.1:Rat)*(rb l n t.2-l)).sum*eN ys=up l ys*((jB rs:Int):Rat):=by
   have e1:(S:Rat)*((rs.map fun t=>(t.1:Rat)*(rb l n t.2-l)).sum*eN ys)*k1=(S:Rat)*(up l ys*((jB rs:Int):Rat))*k1:=by grind
   grind
  grind
 have cap:∀l:Rat,k2*up l zs=if l<V lv then up l ys-(p:Rat)*eN ys else 0:=fun l=>by
  rw[<-u2,(Gr (l0:=lv.1) lp (l:=l) hb).1];show(if l<V lv then up l ys-up (V lv) ys else 0)=_;rw[L.has]
 have key:∀l:Rat,(Ab l (l-(p:Rat)+up l ys/eN ys)-l)*eN ys=if l<V lv then up l ys-(p:Rat)*eN ys else 0:=fun l=>by
  have n2:eN ys≠0:=by grind
  have q:up l ys/eN ys*eN ys=up l ys:=by grind
  by_cases h:l<V lv
  ·have m:=L.more l h;have g:(p:Rat)<up l ys/eN ys:=by
    by_cases z:(p:Rat)<up l ys/eN ys
    ·exact z
    ·have:=aG6 (aH7.mp z) (c:=eN ys) (by grind)
     grind
   unfold Ab;rw[if_pos h,if_pos (by grind)]
   grind
  ·have m:=Ib (l:=V lv) (l':=l) (by grind) hw;rw[L.has]at m;have g:¬ (p:Rat)<up l ys/eN ys:=fun z=>by
    have:=aHK z Tp
    grind
   unfold Ab;rw[if_neg h,if_neg (by grind)]
   grind
 have tz:0<eN zs:=by
  by_cases z:0<eN zs
  ·exact z
  ·have:=aG8 (aH7.mp z) (c:=k2) (by grind)
   grind
 refine⟨fun n hn l=>?_,fun l=>?_,fun n hn=>?_,tz⟩
 ·obtain⟨n,rfl⟩:∃k,n=k+1:=⟨n-1,by lia⟩
  rw[Uu,op n (by lia) l];have a:=key l;rw[<-cap l,t2']at a;have n4:k2≠0:=by grind
  rw[t2']
  grind
 ·have c:=cap l;have n4:k2≠0:=by grind
  by_cases h:l<V lv
  ·have m:=L.more l h;rw[if_pos h]at c;refine⟨fun _=>h,fun _=>?_⟩
   by_cases z:0<up l zs
   ·exact z
   ·have:=aG8 (aH7.mp z) (c:=k2) (by grind)
    grind
  ·rw[if_neg h]at c;refine⟨fun z=>?_,fun z=>absurd z h⟩;have:=Rat.mul_lt_mul_of_pos_left z k2p
   grind
 ·obtain⟨n,rfl⟩:∃k,n=k+1:=⟨n-1,by lia⟩
  rw[op n (by lia),L.has];have n2:eN ys≠0:=by grind
  grind
end Sd
namespace Sd
structure Lw (l:Int×Int):Prop where
 fr:Fr.mY l.1 l.2
 b:l.2<=2^1500
 lo:-(2^1530*l.2)<=l.1
 hi:l.1<=2^1530*l.2
theorem p30:(1000000000:Int)<=2^1530:=by decide +kernel
noncomputable def nE:Nat->Sd->Int
 | 0,_=>0
 |_+1,.en _=>1
 |n+1,.st _ rs=>(rs.map fun r=>nE n r.2).sum
noncomputable def mxL (l:List Int):Int:=l.foldl max 0
noncomputable def nS:Nat->Sd->Int
 | 0,_=>0
 |_+1,.en _=>0
 |n+1,.st _ rs=>1+mxL (rs.map fun r=>nS n r.2)
theorem Di:∀(l:List Int) (a:Int),a<=l.foldl max a/\(∀x∈l,x<=l.foldl max a)/\(l.foldl max a=a∨l.foldl max a∈l)
 | [],a=>⟨aGE _,(fun _ h=>nomatch h),.inl rfl⟩
 |y::l,a=>by
  obtain⟨h1,h2,h3⟩:=Di l (max a y);rw[aII];refine⟨by lia,fun x hx=>?_,?_⟩
  ·rcases aGi.mp hx with e |e
   ·subst e;lia
   ·exact h2 x e
  ·rcases h3 with e |e
   ·rw[e]
    by_cases z:a<=y
    ·right;rw[show max a y=y by lia];exact aFL
    ·left;lia
   ·exact .inr (aFK _ e)
theorem Vp{l:List Int}{M:Int}(h0:∀x∈l,0<=x)(hm:M∈l)(hx:∀x∈l,x<=M):M=mxL l:=by
 obtain⟨h1,h2,h3⟩:=Di l 0;have a:=h2 M hm;unfold mxL;rcases h3 with e |e
 ·have:=h0 M hm
  lia
 ·have:=hx _ e
  lia
theorem Ok.nE{s:Sd}{d m:Nat}(ok:Ok s d m):∀n,d<n->nE n s<=(m:Int):=by
 induction ok with
 |en _ _ hm=>intro n hn;obtain⟨n,rfl⟩:∃k,n=k+1:=⟨n-1,by lia⟩;show(1:Int)<=_;lia
 | @st p rs d m k h0 h9 ne l4 w sub hk ih =>
  intro n hn;obtain⟨n,rfl⟩:∃k,n=k+1:=⟨n-1,by lia⟩
  show(rs.map fun r=>Sd.nE n r.2).sum<=_;have key:∀l:List (Int×Sd),(∀r∈l,r∈rs)->(l.map fun r=>Sd.nE n r.2).sum<=(((l.map k).sum:Nat):Int):=by
   intro l
   induction l with
   |nil=>intro _;exact aGE _
   |cons r l ih2 =>
    intro h;have a:=ih2 fun x hx=>h x (aFK _ hx);have b:=ih r (h r aFL) n (by lia);rw[aFP,aF7,aFP,aF7]
    push_cast
    lia
  have a:=key rs fun r hr=>hr
  lia
end Sd
namespace TD
open PySem L2
open Builtin.Int (intBits)
structure Cs where
 e:Addr
 s:Addr
noncomputable def fB (n k:Int)(l cp:Addr):List (Str×V):=[("end_count",.int n),("stage_count",.int k),("level",.ref l),("cap_rows",.ref cp)]
noncomputable def fE (n k:Int)(l cp:Addr)(v:Int):List (Str×V):=[("end_count",.int n),("stage_count",.int k),("level",.ref l),("cap_rows",.ref cp),("worth",.int v)]
noncomputable def fS (n k:Int)(l cp:Addr)(p:Int)(r:Addr):List (Str×V):=[("end_count",.int n),("stage_count",.int k),("level",.ref l),("cap_rows",.ref cp),("price",.int p),("rows",.ref r)]
structure VJ (H:Hp)(l cp:Addr)(s:Sd.Sd)(lq:Int×Int)(xs:List Row)(n k:Int)(d m:Nat):Prop where
 lv:Tq H l lq
 caps:Q3 H cp xs
 gs:Jv xs d m
 so:(eF xs).Pairwise Tb.Lt
 n1:1<=n
 nm:n<=(m:Int)
 k0:0<=k
 kd:k<=(d:Int)
 mt:Sd.Mt s d lq (eF xs)
 lw:Sd.Lw lq
 nx:n=Sd.nE (d+1) s
 kx:k=Sd.nS (d+1) s
inductive eQ (c:Cs)(H:Hp):Addr->Sd.Sd->Nat->Nat->Prop
 |en {x dx l cp:Addr}{v n k:Int}{d m:Nat}{xs:List Row} (h:H x=some (.ins c.e dx (fE n k l cp v))) (vv:VJ H l cp (.en v) (v,1) xs n k d m) (ok:Sd.Ok (.en v) d m):eQ c H x (.en v) d m
 |st {x dx l cp r:Addr}{p n k:Int}{lv:Int×Int}{d m:Nat}{j:Int×Sd.Sd->Nat}{xs:List Row}{rs:List (Int×Sd.Sd)}{ps ys:List Addr} (h:H x=some (.ins c.s dx (fS n k l cp p r))) (vv:VJ H l cp (.st p rs) lv xs n k (d+1) m) (g:H r=some (.tup (ps.map V.ref)))
   (lp:ps.length=rs.length) (ly:ys.length=rs.length) (row:∀(i:Nat) q y t,ps[i]? = some q->ys[i]? = some y->rs[i]? = some t->H q=some (.tup [.int t.1,.ref y])) (sub:∀(i:Nat) y t,ys[i]? = some y->rs[i]? = some t->eQ c H y t.2 d (j t))
   (p0:0<=p) (p9:p<=1000000000) (ne:rs≠[]) (l4:rs.length<=4) (w:∀r∈rs,1<=r.1/\r.1<=1000) (hk:(rs.map j).sum<=m):eQ c H x (.st p rs) (d+1) m
def Kp (H H':Hp):Prop:=∀b o,H b=some o->(∀ps,o≠.tbl ps)->(∀C dx,o≠.ins C dx [])->H' b=some o
variable{H H':Hp}
theorem aP.kp(s:aP H H'):Kp H H':=fun b o h _ _=>s b o h
theorem cW.kp{P:Addr}{pos:Pos}{qual:Str}(s:cW P H H')(t:cA P pos qual H):Kp H H':=fun b o h n _=>s.get t h n
theorem Kp.trans{H1 H2:Hp}(a:Kp H H1)(b:Kp H1 H2):Kp H H2:=fun c o h n m=>b c o (a c o h n m) n m
theorem Kp.tup{H H':Hp}(k:Kp H H'){b:Addr}{xs:List V}(h:H b=some (.tup xs)):H' b=some (.tup xs):=k _ _ h (fun _ z=>nomatch z) (fun _ _ z=>nomatch z)
theorem Kp.ins{H H':Hp}(k:Kp H H'){b C dx:Addr}{f:Str×V}{fs:List (Str×V)}(h:H b=some (.ins C dx (f::fs))):H' b=some (.ins C dx (f::fs)):=k _ _ h (fun _ z=>nomatch z) (fun _ _ z=>by injection z with _ _ z;exact nomatch z)
theorem kZ.kp{x:Row}(s:Kp H H')(h:kZ H x):kZ H' x:=⟨s.tup h.1,s.tup h.2⟩
variable{a:Addr}{xs:List Row}
theorem Q3.kp(s:Kp H H')(h:Q3 H a xs):Q3 H' a xs:=⟨s.tup h.1,fun x hx=>(h.2 x hx).kp s⟩
variable{lv:Int×Int}{k:Int}{d m:Nat}
theorem VJ.kp{l cp:Addr}{sd:Sd.Sd}{n:Int}(s:Kp H H')(h:VJ H l cp sd lv xs n k d m):VJ H' l cp sd lv xs n k d m:=⟨s.tup h.lv,h.caps.kp s,h.gs,h.so,h.n1,h.nm,h.k0,h.kd,h.mt,h.lw,h.nx,h.kx⟩
variable{c:Cs}{x:Addr}{s:Sd.Sd}
theorem eQ.kp(h:eQ c H x s d m)(k:Kp H H'):eQ c H' x s d m:=by
 induction h with
 |en h vv ok=>exact .en (k.ins h) (vv.kp k) ok
 |st h vv g lp ly row sub p0 p9 ne l4 w hk ih=>exact .st (k.ins h) (vv.kp k) (k.tup g) lp ly (fun i q y t a b c=>k.tup (row i q y t a b c)) ih p0 p9 ne l4 w hk
theorem eQ.same(k:aP H H')(h:eQ c H x s d m):eQ c H' x s d m:=h.kp (aP.kp k)
theorem KC{α β:Type}{ys:List α}{rs:List β}(l:ys.length=rs.length){r:β}(h:r∈rs):∃(i:Nat) (y:α),ys[i]? = some y/\rs[i]? = some r:=by
 obtain⟨i,hi,e⟩:=List.getElem_of_mem h;exact⟨i,ys[i]'(by lia),aFM _,by rw[aFM hi,e]⟩
theorem eQ.ok(h:eQ c H x s d m):Sd.Ok s d m:=by
 induction h with
 |en _ _ ok=>exact ok
 |st h vv g lp ly row sub p0 p9 ne l4 w hk ih=>exact .st p0 p9 ne l4 w (fun r hr=>by obtain⟨i,y,a,b⟩:=KC ly hr;exact ih i y r a b) hk
inductive jY (H:Hp):Addr->Sd.Sd->Prop
 |en {a:Addr}{v:Int} (h:H a=some (.tup [.str "end",.int v])):jY H a (.en v)
 |st {a r:Addr}{p:Int}{rs:List (Int×Sd.Sd)}{ps ys:List Addr} (h:H a=some (.tup [.str "stage",.int p,.ref r])) (g:H r=some (.tup (ps.map V.ref))) (lp:ps.length=rs.length) (ly:ys.length=rs.length)
   (row:∀(i:Nat) q y t,ps[i]? = some q->ys[i]? = some y->rs[i]? = some t->H q=some (.tup [.int t.1,.ref y])) (sub:∀(i:Nat) y t,ys[i]? = some y->rs[i]? = some t->jY H y t.2):jY H a (.st p rs)
theorem jY.keep(h:jY H a s)(k:∀b xs,H b=some (.tup xs)->H' b=some (.tup xs)):jY H' a s:=by
 induction h with
 |en h=>exact .en (k _ _ h)
 |st h g lp ly row sub ih=>exact .st (k _ _ h) (k _ _ g) lp ly (fun i q y t a b c=>k _ _ (row i q y t a b c)) ih
theorem jY.same(k:aP H H')(h:jY H a s):jY H' a s:=h.keep fun b xs e=>k _ _ e
structure CK (K:PySem.W.Frag)(c:Cs):Prop where
 ce:rZ K c.e
 cs:rZ K c.s
 e1:b8 K c.e "end_count"
 e2:b8 K c.e "stage_count"
 e3:b8 K c.e "level"
 e4:b8 K c.e "cap_rows"
 e5:b8 K c.e "worth"
 s1:b8 K c.s "end_count"
 s2:b8 K c.s "stage_count"
 s3:b8 K c.s "level"
 s4:b8 K c.s "cap_rows"
 s5:b8 K c.s "price"
 s6:b8 K c.s "rows"
structure CT (K:PySem.W.Frag)(c:Cs):Prop where
 hn:PySem.W.specialIn K (.builtin "object.__class__") "__get__" = some (some (.builtin "getset_descriptor.__get__"))
 htk:PySem.W.takesIn K (.builtin "object.__class__")=some true
 ea:PySem.W.findIn K (.ref c.e) "__class__" = some (some (.builtin "object.__class__"))
 em:PySem.W.mroIn K c.e (.type "object")=some true
 sa:PySem.W.findIn K (.ref c.s) "__class__" = some (some (.builtin "object.__class__"))
 sm:PySem.W.mroIn K c.s (.type "object")=some true
 ee:PySem.W.kitOne K (.ref c.e) (.ref c.e)=some true
 se:PySem.W.kitOne K (.ref c.s) (.ref c.e)=some false
 ss:PySem.W.kitOne K (.ref c.s) (.ref c.s)=some true
inductive M6 (c:Cs)(vs:List V)(H:Hp)(Q:VK)(_:XK):Prop
 |mk (x:Addr) (s:Sd.Sd) (d:Nat) (m:Nat) (_:vs=[.ref x]) (_:eQ c H x s d m) (_:∀n:Int,1<=n->n<=(m:Int)->n=Sd.nE (d+1) s->Q (.int n) H)
inductive NZ (c:Cs)(vs:List V)(H:Hp)(Q:VK)(_:XK):Prop
 |mk (x:Addr) (s:Sd.Sd) (d:Nat) (m:Nat) (_:vs=[.ref x]) (_:eQ c H x s d m) (_:∀k:Int,0<=k->k<=(d:Int)->k=Sd.nS (d+1) s->Q (.int k) H)
inductive Mg (c:Cs)(vs:List V)(H:Hp)(Q:VK)(_:XK):Prop
 |mk (x:Addr) (s:Sd.Sd) (d:Nat) (m:Nat) (_:vs=[.ref x]) (_:eQ c H x s d m) (_:∀(r:Addr) (H':Hp) (xs:List Row),aP H H'->H r=none->TabAt H' r xs->Jv xs d m->(eF xs).Pairwise Tb.Lt->(∃lv,Sd.Mt s d lv (eF xs)/\Sd.Lw lv)->Q (.ref r) H')
inductive Ml (c:Cs)(vs:List V)(H:Hp)(Q:VK)(_:XK):Prop
 |mk (x:Addr) (dx:Addr) (C:Addr) (l:Addr) (a:Addr) (n:Int) (k:Int) (xs:List Row) (_:vs=[.ref x,.int n,.int k,.ref l,.ref a]) (_:(C=c.e∨C=c.s)) (_:H x=some (.ins C dx [])) (_:TabAt H a xs) (_:∀(cp:Addr) (H':Hp),H cp=none->(∀b o,b≠x->H b=some o->H' b=some o)->H' x=some (.ins C dx (fB n k l cp))->H' cp=some (.tup (refs xs))->Q .non H')
structure mK (c:Cs)(H:Hp)(ps ys:List Addr)(rs:List (Int×Sd.Sd))(d:Nat)(j:Int×Sd.Sd->Nat):Prop where
 lp:ps.length=rs.length
 ly:ys.length=rs.length
 row:∀(i:Nat) q y t,ps[i]? = some q->ys[i]? = some y->rs[i]? = some t->H q=some (.tup [.int t.1,.ref y])
 sub:∀(i:Nat) y t,ys[i]? = some y->rs[i]? = some t->eQ c H y t.2 d (j t)
variable{ys:List Addr}
theorem mK.kp{ps:List Addr}{rs:List (Int×Sd.Sd)}{j:Int×Sd.Sd->Nat}(h:mK c H ps ys rs d j)(k:Kp H H'):mK c H' ps ys rs d j:=⟨h.lp,h.ly,fun i q y t a b e=>k.tup (h.row i q y t a b e),fun i y t a b=>(h.sub i y t a b).kp k⟩
theorem mK.at_{ps:List Addr}{rs:List (Int×Sd.Sd)}{i:Nat}{j:Int×Sd.Sd->Nat}{v:V}(h:mK c H ps ys rs d j)(hv:(ps.map V.ref)[i]? = some v):∃q y t,ps[i]? = some q/\ys[i]? = some y/\rs[i]? = some t/\v=.ref q/\H q=some (.tup [.int t.1,.ref y])/\eQ c H y t.2 d (j t)/\t∈rs:=by
 rw[aF9]at hv;cases e:ps[i]? with
 |none=>rw[e]at hv;cases hv
 |some q =>
  rw[e]at hv;cases hv;have hi:=(aFU.mp e).1;have l1:=h.lp;have l2:=h.ly;have ey:ys[i]? = some (ys[i]'(by lia)):=aFM _;have er:rs[i]? = some (rs[i]'(by lia)):=aFM _;exact⟨q,_,_,rfl,ey,er,rfl,h.row i q _ _ e ey er,h.sub i _ _ ey er,aFY er⟩
theorem Tz{p q:Addr}{v:Int}(h0:0<=v)(h9:v<=1000000000)(hm:1<=m):Jv [⟨p,q,v,1,1⟩] d m:=by
 have e:b7 [⟨p,q,v,1,1⟩]=1:=by show d8 [1]=1;decide
 have w1:wsum [(⟨p,q,v,1,1⟩:Row)]=1:=rfl;have wp:=Sd.dC ((12*d+1)*m);have bp:=Sd.dC (be d*m);have k9:=k30 d;unfold Jv;rw[e];refine⟨⟨by simp,by show 1<=m;exact hm,fun x hx=>?_,by rw[w1];unfold wB;lia,by decide,fun x hx=>?_⟩,by lia⟩
 ·rw[aF2.mp hx];exact aGE _
 ·rw[aF2.mp hx];exact⟨Sd.fr1 v,aH6 _,by show -(kK d*1)<=v;lia,by show v<=kK d*1;lia⟩
def Ig (x:Addr)(H H':Hp):Prop:=∀b o,b≠x->H b=some o->H' b=some o
theorem Ig.kp{C dx:Addr}(s:Ig x H H')(hx:H x=some (.ins C dx [])):Kp H H':=fun b o h _ n=>s b o (fun e=>by rw[e,hx]at h;cases h;exact n C dx rfl) h
theorem cA.sameX{P C dx:Addr}{pos:Pos}{qual:Str}{fs:List (Str×V)}(t:cA P pos qual H)(s:Ig x H H')(hx:H x=some (.ins C dx fs)):cA P pos qual H':=by
 rcases t with t | ⟨c,t,u⟩
 ·exact .inl (s _ _ (dG t hx fun z=>nomatch z) t)
 ·exact .inr ⟨c,s _ _ (dG t hx fun z=>nomatch z) t,s _ _ (dG u hx fun z=>by unfold vB at z;exact nomatch z) u⟩
theorem Ld{H0:Hp}{y:Addr}{σ:St}{ta:TE}{nm:Str}{sp:Sp}{Q:VK}(st:eQ c H y s d m)(le:∀n k l cp v,(fE n k l cp v).lookup nm=none)(ls:∀n k l cp p r,(fS n k l cp p r).lookup nm=none)(hv:∀R:VK,R (.ref y) H->ta σ H0 R)(q:sp [.ref y] H Q E0) :
  lO c.e nm sp [] E0 ta nC σ H0 Q∨lO c.s nm sp [] E0 ta nC σ H0 Q:=by
 cases st with
 |en h vv ok=>exact .inl (hv _ ⟨y,_,_,rfl,h,le _ _ _ _ _,q⟩)
 |st h vv g lp ly row sub p0 p9 ne l4 w hk=>exact .inr (hv _ ⟨y,_,_,rfl,h,ls _ _ _ _ _ _,q⟩)
inductive RK (K:PySem.W.Frag)(vs:List V)(H:Hp)(Q:VK)(_:XK):Prop
 |mk (a:Addr) (ns:List Int) (k:Int) (_:vs=[.ref a,.int k]) (_:bV K H a (ns.map V.int)) (_:0<=k) (_:∀j,Q (.int j) H)
noncomputable def pp:Nat->Nat->Nat
 | 0,_=>2
 |d+1,m=>((aHd 4).map fun i=>if i+1<=m then 2+(i+1)*(1+pp d (m/(i+1)))else 2).foldl max 2
theorem nA:∀(l:List Nat) (a:Nat),a<=l.foldl max a/\∀x∈l,x<=l.foldl max a
 | [],a=>⟨aFV _,fun _ h=>nomatch h⟩
 |y::l,a=>by
  obtain⟨h1,h2⟩:=nA l (max a y);refine⟨aFN (Nat.le_max_left _ _) h1,fun x hx=>?_⟩;rcases aGi.mp hx with e |e
  ·subst e;exact aFN (Nat.le_max_right _ _) h1
  ·exact h2 x e
theorem Ue(d m:Nat):2<=pp d m:=by
 cases d with
 |zero=>exact aFV _
 |succ d=>exact(nA _ 2).1
theorem aAX{n:Nat}(h1:1<=n)(h4:n<=4)(hm:n<=m):2+n*(1+pp d (m/n))<=pp (d+1) m:=by
 refine(nA _ 2).2 _ (aFT.mpr ⟨n-1,aHx.mpr (by lia),?_⟩);rw[show n-1+1=n by lia,if_pos hm]
theorem UJ:pp 4 12<=150:=by decide +kernel
inductive Ie (n:Nat)(vs:List V)(H:Hp)(Q:VK)(_:XK):Prop
 |mk (L:Addr) (ns:List Int) (d:Nat) (m:Nat) (sc:Int) (_:vs=[.ref L,.int (d:Int),.int (m:Int),.int sc]) (_:H L=some (.lst (Is ns))) (_:d<n) (_:d<=4) (_:1<=m) (_:m<=12) (_:1<=sc) (_:sc<=1000000001) (_:pp d m<=ns.length) (_:ns.length<=1000) (_:∀(r:Addr) (H':Hp) (s:Sd.Sd) (ns':List Int),(∀b o,b≠L->H b=some o->H' b=some o)->H' L=some (.lst (Is ns'))->ns.length<=ns'.length+pp d m->ns'.length<=ns.length->jY H' r s->Sd.Ok s d m->Q (.ref r) H')
inductive vY (K:PySem.W.Frag)(Pt:Addr)(lp:Pos)(vs:List V)(H:Hp)(Q:VK)(_:XK):Prop
 |mk (a:Addr) (ns:List Int) (_:vs=[.ref a]) (_:bV K H a (ns.map V.int)) (_:ns.length<=63) (_:H Pt=some (.tbl #[])) (_:∀H',Q (.bl true) H')
theorem VR{v:Int}(h0:0<=v)(h9:v<=1000000000):Sd.Lw (v,1):=by
 have:=Sd.p30;exact⟨Sd.fr1 v,Sd.dC 1500,by show -(2^1530*1)<=v;lia,by show v<=2^1530*1;lia⟩
theorem be4:∀d,d+1<=4->be (d+1)<=125/\ka (d+1)<=1530
 | 0,_=>by decide
 | 1,_=>by decide
 | 2,_=>by decide
 | 3,_=>by decide
 |d+4,h=>by lia
theorem Yy{ys:List Row}{l:Int×Int}{M:Int}(x:Lx ys l M k d m)(hd:d+1<=4)(hm:m<=12):Sd.Lw l:=by
 obtain⟨b1,b2⟩:=be4 d hd;have a:=aHG x.g.mp x.f.dv;have e:(2:Int)^(be (d+1)*m)<=2^1500:=Sd.gW (aFN (aIh b1 hm) (by decide));have g:k<=2^1530:=aGj x.k (Sd.gW b2);have h:=Sd.rQ g (aFZ x.f.fr.pos);have:=x.f.lo;have:=x.f.hi;exact⟨x.f.fr,aGj a (aGj x.m e),by lia,by lia⟩
theorem Yt{es:List Ent}{rs:List (Int×Sd.Sd)}{p:Int}{ys zs:List Row}{n:Nat}{W W0 kk:Int}{k0:Nat}(al:Sd.Al d es rs)(gm:GM es k0 W0 kk)(hW:0<Sd.jB rs)(o:Out (partsOf (d8 (dB es)) es) ys)(g:GT ys n W (b7 ys) k)
  (lp:0<lv.2) (L:Tb.Lv (b7 ys) (p*Tb.W (eF ys)*b7 ys) lv.1 lv.2 (eF ys)) (o2:Out ((eF ys).map (Tb.jZ lv.1 lv.2)) zs):Sd.Mt (.st p rs) (d+1) lv (eF zs):=by
 obtain⟨S1,_,_,S2⟩:=gm.S;have fr:∀r∈eF ys,0<r.b/\r.b∣b7 ys:=fun r hr=>by
  obtain⟨y,hy,rfl⟩:=aFT.mp hr;exact⟨(g.fq y hy).fr.pos,(g.fq y hy).dv⟩
 refine Sd.Xf al S1 (fun e he=>⟨(gm.g e he).tot,S2 e he⟩) hW o.tab (fun e=>g.ne (aGS.mp e)) (fun r hr=>?_) (fun r hr=>(fr r hr).1) lp (Sd.Wx g.mp fr L) o2.tab;obtain⟨y,hy,rfl⟩:=aFT.mp hr;exact g.w1 y hy
end TD
namespace Tb
abbrev Kp:=Int×Int
noncomputable def kp (r:Rw):Kp:=(r.t,r.b)
noncomputable def big (p q:Rw):Rw:=if p.t*q.b<q.t*p.b then⟨q.t,q.b,p.w*q.w⟩ else⟨p.t,p.b,p.w*q.w⟩
end Tb
namespace TG
open PySem L2 TD
open Builtin.Int (intBits)
section
variable{Pt:Addr}
structure Tn where
 a:Addr
 ys:List Row
noncomputable def Zi (ts:List Tn):List (List Tb.Rw):=ts.map fun t=>eF t.ys
end
end TG
namespace TD
open PySem L2
open Builtin.Int (intBits)
inductive w6 (H:Hp):Nat->V->V->Prop
 |int (n:Nat) (i:Int):w6 H n (.int i) (.int i)
 |str (n:Nat) (x:Str):w6 H n (.str x) (.str x)
 |tup {n:Nat}{a b:Addr}{xs ys:List V} (ha:H a=some (.tup xs)) (hb:H b=some (.tup ys)) (l:xs.length=ys.length) (h:∀(j:Nat) x y,xs[j]? = some x->ys[j]? = some y->w6 H n x y):w6 H (n+1) (.ref a) (.ref b)
 |lst {n:Nat}{a b:Addr}{xs ys:List V} (ha:H a=some (.lst xs)) (hb:H b=some (.lst ys)) (l:xs.length=ys.length) (h:∀(j:Nat) x y,xs[j]? = some x->ys[j]? = some y->w6 H n x y):w6 H (n+1) (.ref a) (.ref b)
variable{H:Hp}{n:Nat}
theorem w6.same{H':Hp}(s:aP H H'){x y:V}(h:w6 H n x y):w6 H' n x y:=by
 induction h with
 |int n i=>exact .int n i
 |str n x=>exact .str n x
 |tup ha hb l _ ih=>exact .tup (s _ _ ha) (s _ _ hb) l ih
 |lst ha hb l _ ih=>exact .lst (s _ _ ha) (s _ _ hb) l ih
theorem w6.mono{x y:V}(h:w6 H n x y):∀{m:Nat},n<=m->w6 H m x y:=by
 induction h with
 |int n i=>intro m _;exact .int m i
 |str n x=>intro m _;exact .str m x
 |tup ha hb l _ ih=>intro m hm;obtain⟨m,rfl⟩:∃k,m=k+1:=⟨m-1,by lia⟩;exact .tup ha hb l fun j x y a b=>ih j x y a b (by lia)
 |lst ha hb l _ ih=>intro m hm;obtain⟨m,rfl⟩:∃k,m=k+1:=⟨m-1,by lia⟩;exact .lst ha hb l fun j x y a b=>ih j x y a b (by lia)
theorem w6.de{K:PySem.W.Frag}{x y:V}(h:w6 H n x y):DE K H n x y true:=by
 induction h with
 |int n i=>have d:=DE.int (K:=K) (H:=H) n i i;rwa[beq_self_eq_true]at d
 |str n x=>have d:=DE.str (K:=K) (H:=H) n x x;rwa[beq_self_eq_true]at d
 | @tup n a b xs ys ha hb l _ ih =>
  have d:=DE.tup (K:=K) (n:=n) (fun _=>true) (dN.of ha) (dN.of hb) ih;have e:((aHd (min xs.length ys.length)).all (fun _=>true)&&xs.length==ys.length)=true:=by rw[l];simp
  rwa[e]at d
 | @lst n a b xs ys ha hb l _ ih =>
  have d:=DE.lst (K:=K) (n:=n) (fun _=>true) (bV.of ha) (bV.of hb) l ih;have e:(aHd xs.length).all (fun _=>true)=true:=by simp
  rwa[e]at d
theorem Ql{s:Sd.Sd}{d m:Nat}(ok:Sd.Ok s d m):∀{a b:Addr},jY H a s->jY H b s->w6 H (3*d+1) (.ref a) (.ref b):=by
 induction ok with
 | @en v d m h0 h9 hm =>
  intro a b h1 h2;cases h1 with
  |en h1 =>
   cases h2 with
   |en h2 =>
    refine .tup h1 h2 rfl fun j u v hu hv=>?_
    match j,hu,hv with
    | 0,hu,hv=>cases hu;cases hv;exact .str _ _
    | 1,hu,hv=>cases hu;cases hv;exact .int _ _
    |j+2,hu,hv=>simp at hu
 | @st p rs d m k h0 h9 ne l4 w sub hk ih =>
  intro a b h1 h2;cases h1 with
  | @st _ r1 _ _ ps1 ys1 h1 g1 lp1 ly1 row1 sub1 =>
   cases h2 with
   | @st _ r2 _ _ ps2 ys2 h2 g2 lp2 ly2 row2 sub2 =>
    show w6 H (3*d+3+1) _ _;refine .tup h1 h2 rfl fun j u v hu hv=>?_
    match j,hu,hv with
    | 0,hu,hv=>cases hu;cases hv;exact .str _ _
    | 1,hu,hv=>cases hu;cases hv;exact .int _ _
    | 2,hu,hv =>
     cases hu;cases hv;refine .tup g1 g2 (by rw[aFJ,aFJ,lp1,lp2]) fun i u v hu hv=>?_;rw[aF9]at hu hv;obtain⟨q1,e1,rfl⟩:=aGF.mp hu;obtain⟨q2,e2,rfl⟩:=aGF.mp hv;have hi:=(aFU.mp e1).1;have ey1:ys1[i]? = some (ys1[i]'(by lia)):=aFM _;have ey2:ys2[i]? = some (ys2[i]'(by lia)):=aFM _;have er:rs[i]? = some (rs[i]'(by lia)):=aFM _;refine .tup (n:=3*d+1) (row1 i q1 _ _ e1 ey1 er) (row2 i q2 _ _ e2 ey2 er) rfl fun j u v hu hv=>?_
     match j,hu,hv with
     | 0,hu,hv=>cases hu;cases hv;exact .int _ _
     | 1,hu,hv=>cases hu;cases hv;exact ih _ (aFY er) (sub1 i _ _ ey1 er) (sub2 i _ _ ey2 er)
     |j+2,hu,hv=>simp at hu
    |j+3,hu,hv=>simp at hu
end TD
namespace TD
open PySem L2
inductive zY (c:Cs)(b:Bool)(vs:List V)(H:Hp)(Q:VK)(_:XK):Prop
 |mk (x:Addr) (_:vs=[.ref x]) (_:Q (.bl b) H)
inductive N8 (c:Cs)(n:Nat)(vs:List V)(H:Hp)(Q:VK)(_:XK):Prop
 |mk (x:Addr) (p:Int) (rs:List (Int×Sd.Sd)) (d:Nat) (m:Nat) (_:vs=[.ref x]) (_:eQ c H x (.st p rs) d m) (_:d<n) (_:∀r H',aP H H'->jY H' r (.st p rs)->Q (.ref r) H')
inductive Je (n:Nat)(vs:List V)(H:Hp)(Q:VK)(_:XK):Prop
 |mk (v:V) (u:V) (_:vs=[v]) (_:w6 H n v u) (_:∀H',aP H H'->Q (.bl true) H')
inductive Ht (c:Cs)(vs:List V)(H:Hp)(Q:VK)(_:XK):Prop
 |mk (x:Addr) (v:Int) (d:Nat) (m:Nat) (_:vs=[.ref x]) (_:eQ c H x (.en v) d m) (_:∀r H',aP H H'->jY H' r (.en v)->Q (.ref r) H')
theorem Ms{c:Cs}{H H0:Hp}{y:Addr}{s:Sd.Sd}{d m n:Nat}{σ:St}{ta:TE}{Q:VK}(st:eQ c H y s d m)(hn:d<n)(hv:∀R:VK,R (.ref y) H->ta σ H0 R)(q:∀r H',aP H H'->jY H' r s->Q (.ref r) H') :
  lO c.e "told" (Ht c) [] E0 ta nC σ H0 Q∨lO c.s "told" (N8 c n) [] E0 ta nC σ H0 Q:=by
 have st2:=st;cases st with
 |en h vv ok=>exact .inl (hv _ ⟨y,_,_,rfl,h,rfl,y,_,_,_,rfl,st2,q⟩)
 |st h vv g lp ly row sub p0 p9 ne l4 w hk=>exact .inr (hv _ ⟨y,_,_,rfl,h,rfl,y,_,_,_,_,rfl,st2,hn,q⟩)
end TD
namespace TD
open PySem L2
open Builtin.Int (intBits)
variable{K:PySem.W.Frag}{H H':Hp}{v:V}
theorem iB.same{t:Value}(s:aP H H')(h:iB K H v t):iB K H' v t:=by
 cases h with
 |non=>exact .non
 |bl x=>exact .bl x
 |int i=>exact .int i
 |str x=>exact .str x
 |flt x=>exact .flt x
 |lst e=>exact .lst (s _ _ e)
 |frz e=>exact .frz (s _ _ e)
 |tup e=>exact .tup (s _ _ e)
 |dK e=>exact .dK (s _ _ e)
 |dT e=>exact .dT (s _ _ e)
 |ins e a b c d f=>exact .ins (s _ _ e) a b c d f
def Qq (H:Hp)(T:String)(v:V):Prop:=∀K:PySem.W.Frag,∃t,iB K H v t/\PySem.W.kitOne K t (.type T)=some false
theorem Qq.same{T:String}(s:aP H H')(h:Qq H T v):Qq H' T v:=fun K=>let⟨t,a,b⟩:=h K; ⟨t,iB.same s a,b⟩
theorem CG:PySem.W.kitOne K (.type "bool") (.type "int")=some true:=by rfl
inductive Er (H:Hp)(lo hi:Int):V->Bool->Prop where
 |no {v:V} (h:Qq H "int" v):Er H lo hi v false
 |bl (c:Bool):Er H lo hi (.bl c) false
 |int (i:Int):Er H lo hi (.int i) (decide (lo<=i)&&decide (i<=hi))
theorem Er.yes{lo hi i:Int}(h1:lo<=i)(h2:i<=hi):Er H lo hi (.int i) true:=by
 have h:=Er.int (H:=H) (lo:=lo) (hi:=hi) i;rw[decide_eq_true h1,decide_eq_true h2]at h;exact h
inductive wV (vs:List V)(H:Hp)(Q:VK)(_:XK):Prop
 |mk (v:V) (lo:Int) (hi:Int) (b:Bool) (_:vs=[v,.int lo,.int hi]) (_:Er H lo hi v b) (_:Q (.bl b) H)
theorem iB.kp{t:Value}(s:∀b o,H b=some o->(∀ps,o≠.tbl ps)->H' b=some o)(h:iB K H v t):iB K H' v t:=by
 cases h with
 |non=>exact .non
 |bl x=>exact .bl x
 |int i=>exact .int i
 |str x=>exact .str x
 |flt x=>exact .flt x
 |lst e=>exact .lst (s _ _ e fun _ z=>nomatch z)
 |frz e=>exact .frz (s _ _ e fun _ z=>nomatch z)
 |tup e=>exact .tup (s _ _ e fun _ z=>nomatch z)
 |dK e=>exact .dK (s _ _ e fun _ z=>nomatch z)
 |dT e=>exact .dT (s _ _ e fun _ z=>nomatch z)
 |ins e a b c d f=>exact .ins (s _ _ e fun _ z=>nomatch z) a b c d f
def Kt (H H':Hp):Prop:=∀b o,H b=some o->(∀ps,o≠.tbl ps)->H' b=some o
theorem aP.kt(s:aP H H'):Kt H H':=fun b o h _=>s b o h
theorem Kt.kp(k:Kt H H'):Kp H H':=fun b o h n _=>k b o h n
theorem Kt.tup{H H':Hp}(k:Kt H H'){b:Addr}{xs:List V}(h:H b=some (.tup xs)):H' b=some (.tup xs):=k _ _ h fun _ z=>nomatch z
theorem Qq.kt{T:String}(s:Kt H H')(h:Qq H T v):Qq H' T v:=fun K=>let⟨t,a,b⟩:=h K; ⟨t,iB.kp s a,b⟩
theorem Er.kt{lo hi:Int}{b:Bool}(s:Kt H H')(h:Er H lo hi v b):Er H' lo hi v b:=by
 cases h with
 |no h=>exact .no (h.kt s)
 |bl c=>exact .bl c
 |int i=>exact .int i
structure CN (K:PySem.W.Frag)(c:Cs):Prop where
 all:∀T∈["tuple","int","NoneType","str","list"],PySem.W.kitOne K (.type T) (.ref c.e)=some false/\PySem.W.kitOne K (.type T) (.ref c.s)=some false
 et:PySem.W.kitOne K (.ref c.e) (.type "tuple")=some false
inductive Fv (c:Cs)(K:PySem.W.Frag)(H:Hp):V->Bool->Prop where
 |yes {x:Addr}{s:Sd.Sd}{d m:Nat} (h:eQ c H x s d m):Fv c K H (.ref x) true
 |no {v:V}{T:String} (h:iB K H v (.type T)) (ht:T∈["tuple","int","NoneType","str","list"]):Fv c K H v false
inductive Bb (c:Cs)(K:PySem.W.Frag)(H:Hp):V->Bool->Prop where
 |no {v:V}{t:Value} (h:iB K H v t) (hk:PySem.W.kitOne K t (.type "tuple")=some false):Bb c K H v false
 |len {a:Addr}{xs:List V} (e:H a=some (.tup xs)) (hl:xs.length≠2):Bb c K H (.ref a) false
 |two {a:Addr}{x y:V}{b b2:Bool} (e:H a=some (.tup [x,y])) (hx:Er H 1 1000 x b) (hy:Fv c K H y b2):Bb c K H (.ref a) (b&&b2)
inductive rP (c:Cs)(K:PySem.W.Frag)(H:Hp):V->Bool->Prop where
 |no {v:V} (h:Qq H "list" v):rP c K H v false
 |len {a:Addr}{xs:List V} (e:H a=some (.lst xs)) (hl:¬ (1<=xs.length/\xs.length<=4)):rP c K H (.ref a) false
 |all {a:Addr}{xs:List V}{bs:List Bool} (e:H a=some (.lst xs)) (h1:1<=xs.length) (h4:xs.length<=4) (hb:bs.length=xs.length) (h:∀(i:Nat) x,xs[i]? = some x->Bb c K H x (bs.getD i false)):rP c K H (.ref a) (bs.all id)
section
variable{c:Cs}{K:PySem.W.Frag}{H H':Hp}{v:V}{b:Bool}
theorem Fv.kt(s:Kt H H')(h:Fv c K H v b):Fv c K H' v b:=by
 cases h with
 |yes h=>exact .yes (h.kp s.kp)
 |no h ht=>exact .no (iB.kp s h) ht
theorem Bb.kt(s:Kt H H')(h:Bb c K H v b):Bb c K H' v b:=by
 cases h with
 |no h hk=>exact .no (iB.kp s h) hk
 |len e hl=>exact .len (s.tup e) hl
 |two e hx hy=>exact .two (s.tup e) (hx.kt s) (hy.kt s)
end
inductive RQ (c:Cs)(K:PySem.W.Frag)(vs:List V)(H:Hp)(Q:VK)(_:XK):Prop
 |mk (v:V) (b:Bool) (_:vs=[v]) (_:Fv c K H v b) (_:Q (.bl b) H)
inductive Hu (c:Cs)(K:PySem.W.Frag)(vs:List V)(H:Hp)(Q:VK)(_:XK):Prop
 |mk (v:V) (b:Bool) (_:vs=[v]) (_:Bb c K H v b) (_:Q (.bl b) H)
inductive De (c:Cs)(K:PySem.W.Frag)(vs:List V)(H:Hp)(Q:VK)(_:XK):Prop
 |mk (v:V) (b:Bool) (_:vs=[v]) (_:rP c K H v b) (_:∀H',aP H H'->Q (.bl b) H')
noncomputable def RX (c:Cs)(C:Addr):Sp:=fun vs H Q E =>
 (∃(x dx:Addr) (v:Int),vs=[.ref x,.int v]/\H x=some (.ins c.e dx [])/\0<=v/\v<=1000000000/\∀H':Hp,(∀b o,b≠x->H b=some o->H' b=some o)->(∀d m:Nat,1<=m->eQ c H' x (.en v) d m)->Q .non H') ∨
 ∃(x:Addr) (v:V),vs=[.ref x,v]/\Er H 0 1000000000 v false/\E (.ref C) none H
structure Xg (c:Cs)(H:Hp)(a:Addr)(ps ys:List Addr)(rs:List (Int×Sd.Sd))(d:Nat)(j:Int×Sd.Sd->Nat):Prop where
 ha:H a=some (.lst (ps.map V.ref))
 R:mK c H ps ys rs d j
 ne:rs≠[]
 l4:rs.length<=4
 ww:∀r∈rs,1<=r.1/\r.1<=1000
noncomputable def Qm (c:Cs)(K:PySem.W.Frag)(C Pt:Addr)(lp:Pos):Sp:=fun vs H Q E =>
 (∃(x dx a:Addr) (p:Int) (ps ys:List Addr) (rs:List (Int×Sd.Sd)) (d:Nat) (j:Int×Sd.Sd->Nat),vs=[.ref x,.int p,.ref a]/\H x=some (.ins c.s dx [])/\Xg c H a ps ys rs d j/\0<=p/\p<=1000000000 ∧
  (((12<Sd.nE (d+1+1) (.st p rs)∨4<Sd.nS (d+1+1) (.st p rs))/\∀H',aP H H'->E (.ref C) none H') ∨
   ∃m:Nat,(rs.map j).sum<=m/\m<=12/\d+1<=4/\cA Pt lp gU H/\∀H':Hp,(∀b o,b≠x->b≠Pt->H b=some o->H' b=some o)->cA Pt lp gU H'->eQ c H' x (.st p rs) (d+1) m->Q .non H')) ∨
 ∃(x:Addr) (v w:V),vs=[.ref x,v,w]/\(Er H 0 1000000000 v false∨(Er H 0 1000000000 v true/\rP c K H w false))/\∀H',aP H H'->E (.ref C) none H'
structure Ca where
 dx:Addr
 tp:Addr
 tl:Addr
 th:Addr
 td:Addr
 ys:List Addr
 ss:List (Sd.Sd×Nat×Nat)
 ls:List V
 bs:List Bool
 sp:Int
 ds:List Addr
def KX (x:Addr)(H H':Hp):Prop:=∀b o,b≠x->H b=some o->H' b=some o
theorem KX.trans{x:Addr}{H1 H2:Hp}(a:KX x H H1)(b:KX x H1 H2):KX x H H2:=fun c o n h=>b c o n (a c o n h)
theorem KX.of{x:Addr}(s:aP H H'):KX x H H':=fun b o _ h=>s b o h
noncomputable def ZF (q:Ca):List Nat:=(aHd q.ys.length).filter fun i=>q.bs.getD i false
noncomputable def ZW (q:Ca):List Int:=(ZF q).map Int.ofNat
theorem p9:Za 10 9:=⟨by decide,by decide,by decide⟩
end TD
namespace Tb
noncomputable def lo (l0 l1:Int)(ps:List Rw):List Rw:=ps.filter fun r=>decide (r.t*l1<l0*r.b)
end Tb
namespace Sd
noncomputable def sm (ps:List Tb.Rw):Rat:=(ps.map fun r=>(r.w:Rat)*cv r).sum
end Sd
namespace TD
open PySem L2
open Builtin.Int (intBits)
theorem Ox{xs ys:List Row}{l0 l1:Int}(g:PB xs)(f:Fr.mY l0 l1)(b0:intBits l0<=4000)(b1:intBits l1<=4000)(e:eF ys=(eF xs).map (Tb.jZ l0 l1)):PB ys:=fun y hy=>by
 have m:y.r∈(eF xs).map (Tb.jZ l0 l1):=by rw[<-e];exact aFT.mpr ⟨y,hy,rfl⟩
 obtain⟨p,hp,ep⟩:=aFT.mp m;obtain⟨x,hx,rfl⟩:=aFT.mp hp;have pb:=g x hx;unfold Tb.jZ at ep
 by_cases cc:l0*x.r.b<x.r.t*l1
 ·rw[if_pos cc]at ep;have e1:l0=y.t:=congrArg Tb.Rw.t ep;have e2:l1=y.b:=congrArg Tb.Rw.b ep;have e3:x.w=y.w:=congrArg Tb.Rw.w ep;rw[<-e1,<-e2,<-e3];exact⟨f,b0,b1,pb.2.2.2.1,pb.2.2.2.2⟩
 ·rw[if_neg cc]at ep;have e1:x.t=y.t:=congrArg Tb.Rw.t ep;have e2:x.b=y.b:=congrArg Tb.Rw.b ep;have e3:x.w=y.w:=congrArg Tb.Rw.w ep;rw[<-e1,<-e2,<-e3];exact pb
section
variable(c:Cs)(cC:Addr)(C:Addr)(Pt:Addr)(lp:Pos)
inductive Rq (vs:List V)(H:Hp)(Q:VK)(_:XK):Prop
 |mk (a:Addr) (l:Addr) (xs:List Row) (x:Int×Int) (_:vs=[.ref a,.ref l]) (_:TabAt H a xs) (_:xs≠[]) (_:xs.length<=12) (_:PB xs) (_:Tq H l x) (_:Fr.mY x.1 x.2) (_:intBits x.1<=4000) (_:intBits x.2<=4000) (_:cA Pt lp gU H) (_:∀(r:Addr) (H':Hp) (ys:List Row),cW Pt H H'->cA Pt lp gU H'->H r=none->TabAt H' r ys->Out ((eF xs).map (Tb.jZ x.1 x.2)) ys->ys.length<=xs.length->Q (.ref r) H')
end
structure SS where
 la:Addr
 ca:Addr
 ka:Addr
 da:Addr
 ts:List Addr
 ls:List V
 ks:List Int
 pd:Int
 ds:List Addr
end TD
namespace L2
open PySem PySem.Spec PyProof.Rows
section
variable{X:Cx}
noncomputable def M8 (ns:List Int):List Int:=ns.foldl step_dedup []
theorem Ez(ns:List Int):firstMet (fun i=>ns.getD i 0) ns.length=M8 ns:=by
 unfold firstMet M8
 congr 1
 apply List.ext_getElem
 ·simp
 ·intro i h1 h2;simp[h2]
theorem J2(hc:X.calm=true):fY X (.type "set") (fun xs H Q=>∃(a:Addr) (ns:List Int),xs=[.ref a]/\bV X.K H a (ns.map V.int)/\ns.length+1<scanBound ∧
  ∀r,H r=none->Q (.ref r) (bH H r (.set (fun k=>(M8 ns).any (·==k)) (M8 ns).length))):=by
 intro pins s σ H xs us Q I r h;obtain⟨a,ns,rfl,hS,hb,q⟩:=h;obtain⟨u,rfl,ru⟩:=vals1 r;cases(show u=Value.ref a from ru);obtain⟨its,rv,p,hz⟩:=I.list hS;have hi:=intsAre_of rv;have hl:its.toArray.size=ns.length:=by
  have h:=rv.length;rw[aFJ]at h
  simpa using h.symm
 refine call_set_list (items:=its.toArray) (ns:=ns) (I.ok.hd hc) p.isList hi (by rw[hl];exact hb) fun h' tk hSO kp=>?_;rw[hl,Ez]at hSO;refine⟨.ref s.heap.objs.size,_,I.laid (t':=tk) (fun b o e=>kp b o (aF3 e) e) (aFV _) (show cX X.prog X.w _ h' _ (.set _ _)from hSO),rfl,q _ (I.hok.fresh (aFV _))⟩
theorem yS:fY X (.builtin "len") (fun xs H Q=>∃(a:Addr) (S:Int->Bool) (n:Nat),xs=[.ref a]/\H a=some (.set S n)/\Q (.int n) H):=by
 intro pins s σ H xs us Q I r h;obtain⟨a,S,n,rfl,ha,q⟩:=h;obtain⟨u,rfl,ru⟩:=vals1 r;cases(show u=Value.ref a from ru);obtain⟨o,es,ep,t,ho,hex,hd,_,_,hsb,hf,hn⟩:=(show cX X.prog X.w H s.heap a (.set S n)from I.hok a _ ha)
 subst hn;refine call_len_set ho hex hd hf ?_ ⟨.int es.size,H,I.kept (h':=s.heap) (fun _ _ e=>e),⟨_,rfl⟩,q⟩;have:(es.size:Int)<4096:=by unfold scanBound at hsb;lia
 exact aIA this (by decide)
end
section
variable{prog:Program}{w:World}{A:Around}{E:Value->Shared->Prop}{s:Shared}{a₀:Array PyProof.Rows.Keyed}
theorem QZ{st:SortSt}{m:Nat}{Q:Option Nat->SortSt->Prop}(h0:IntKeys a₀)(hn:m<=a₀.size)(h1:1<=m)(hB:SBase a₀ st)(hs:SortedTo (arrOf st) m)(h:Q (some m) st) :
  wpS (model prog w) A E s (countRun' 0 m) Q st:=by
 rw[countRun0_eq];refine wpS_bind (wpS_ascLoop h0 hn (aFV 1) h1 hB (fun i j hij hj=>hs i j hij (by lia)) fun n n1 n2 _ hor=>?_);have e:n=m:=by
  rcases hor with e |e
  ·exact e
  ·by_cases z:n=m
   ·exact z
   ·exact absurd (hs (n-1) n (by lia) (by lia)) (Int.not_le.mpr e)
 subst e;dsimp only;rw[if_pos (beq_self_eq_true n)];exact wpS_pure h
theorem V2{st:SortSt}{Q:Unit->SortSt->Prop}(h0:IntKeys a₀)(hB:SBase a₀ st)(h64:a₀.size=64)(hs:SortedTo (arrOf st) a₀.size)
  (h:∀st',(arrOf st').Perm a₀->failedOf st'=none->SortedTo (arrOf st') a₀.size->Q () st'):wpS (model prog w) A E s sortRuns' Q st:=by
 rw[sortRuns'_eq];refine wpS_bind (wpS_get ?_);have hm:minRun' 64 64 0=32:=by decide
 simp only[hB.size,h64,hm];rw[h64]at hs;refine wpS_bind (wpS_mono (wpS_forRange (I:=fun x c st'=>(x=0/\c=(none,0)/\st'=st)∨(1<=x/\c=(none,64)/\st'=setPending st ((pendingOf st).push (0,64,0)))) (Q:=fun c st'=>c=(none,64)/\st'=setPending st ((pendingOf st).push (0,64,0))) ?step ?fin (.inl ⟨rfl,rfl,rfl⟩)) ?post)
 case fin =>
  rintro c st' (⟨hx,_,_⟩ | ⟨_,hc,hD⟩)
  ·lia
  ·exact⟨hc,hD⟩
 case step =>
  rintro x c st' _ hx (⟨rfl,rfl,rfl⟩ | ⟨hx1,rfl,hD⟩)
  ·dsimp only;rw[if_neg (by lia)];simp only[Nat.sub_zero,aHk];refine wpS_bind (QZ h0 (by lia) (by decide) hB hs ?_);dsimp only;rw[if_neg (by decide)];refine wpS_bind (wpS_get ?_);rw[show(pendingOf st').back? = none by rw[hB.pend];rfl];dsimp only;exact wpS_bind (wpS_modify (wpS_pure (.inr ⟨by lia,rfl,rfl⟩)))
  ·dsimp only;rw[if_pos (aFV _)];exact wpS_pure ⟨rfl,hD⟩
 case post =>
  rintro c st' ⟨rfl,rfl⟩;dsimp only;refine wpS_bind (wpS_mono (wpS_forRange (I:=fun _ c st''=>st''=setPending st ((pendingOf st).push (0,64,0))/\c=(none,())) (Q:=fun c st''=>st''=setPending st ((pendingOf st).push (0,64,0))/\c=(none,())) ?_ (fun _ _ hh=>hh) ⟨rfl,rfl⟩) ?_)
  ·rintro x c st'' _ _ ⟨rfl,rfl⟩;refine wpS_bind (wpS_get ?_);rw[if_pos (by show((pendingOf st).push (0,64,0)).size<=1;rw[hB.pend];exact aFV 1)];exact wpS_pure ⟨rfl,rfl⟩
  ·rintro c st'' ⟨rfl,rfl⟩;exact wpS_pure (h _ hB.perm hB.failed (by rw[h64];exact hs))
variable{vs:List Value}{ns:List Int}
theorem BV(hI:IntsAre vs ns)(hs:ns.Pairwise (·<=·)):SortedTo (pairsOf vs) (pairsOf vs).size:=by
 intro i j hij hj;have hi:i<(pairsOf vs).size:=by lia
 have hn:=hI.nums;have kk:∀(k:Nat) (hk:k<(pairsOf vs).size),K (pairsOf vs) k=ns[k]'(by rw[<-hn,aFJ];rw[pairsOf_size]at hk;exact hk):=fun k hk=>by
  rw[K_eq hk];simp only[pairsOf,Array.getElem_zip,aGk];have e:ns[k]'(by rw[<-hn,aFJ];rw[pairsOf_size]at hk;exact hk)=(vs.map numOf)[k]'(by rw[aFJ];rw[pairsOf_size]at hk;exact hk):=by simp only[hn]
  rw[e,List.getElem_map]
 rw[kk i hi,kk j hj]
 by_cases e:i=j
 ·subst e;exact aGE _
 ·exact aHS.mp hs i j _ _ (by lia)
theorem Uh{a:Addr}{n:Nat}{P:PySem.Fin->Shared->Prop}(ho:s.heap.get? a=some (seqObj "list" vs.toArray n))(hI:IntsAre vs ns)(h64:vs.length=64)(hs:ns.Pairwise (·<=·))
  (h:∀(out:Array Value) (ns':List Int),IntsAre out.toList ns'->ns'.Perm ns->ns'.Pairwise (·<=·)->P (.done (.ret .none)) { s with heap:=sortedHeap s.heap a vs out }) :
  wpAny (model prog w) A (Builtin.«list.sort» ⟨[.ref a],[]⟩) P E s:=by
 rw[list_sort_plain];have ha:a<s.heap.objs.size:=aF3 ho;have hl:vs.toArray.size=64:=by simpa using h64
 refine wpAny_bind (listItems_at ho rfl (wpAny_bind (listUpdate_at ho rfl ?_ (by rw[hl,sizeLine_eq];decide) (aGe _))));obtain⟨e1,ho1⟩:∃e1,(s.heap.update a (Obj.mapSeq fun _=>#[])).get? a=some (seqObj "list" #[] e1):=⟨_,get?_update_seq ho (fun _=>#[])⟩
 refine wpAny_bind (seqEpoch_at ho1 rfl (wpAny_bind (wpAny_newTuple (wpAny_bind (wpAny_newList (wpAny_holding ?_))) (by rw[show vs.toArray.toList=vs from rfl,h64,sizeLine_eq];decide))));have ho6:(((s.heap.update a (Obj.mapSeq fun _=>#[])).push (seqObj "tuple" vs.toArray 0)).push (seqObj "list" #[] 0)).get? a=some (seqObj "list" #[] e1):=aFO _ (aFO _ ho1);show wpAny (model prog w) A _ P E { s with heap:=((s.heap.update a (Obj.mapSeq fun _=>#[])).push (seqObj "tuple" vs.toArray 0)).push (seqObj "list" #[] 0) };dsimp only;rw[if_neg (by rw[hl];decide),if_neg (by rw[hl];decide)];obtain⟨v1,v2,rest,rfl⟩:∃v1 v2 rest,vs=v1::v2::rest:=by
  match vs,h64 with
  |v1::v2::rest,_=>exact⟨v1,v2,rest,rfl⟩
 rw[keyKind_ints hI];refine wpAny_bind (wpAny_pure ?_);refine wpAny_bind (wpAny_mono (V2 (a₀:=pairsOf (v1::v2::rest)) (st:=SortSt.mk' oneType' ((v1::v2::rest).toArray.zip (v1::v2::rest).toArray) #[] 7 none)
  (Q:=fun _ st'=>(arrOf st').Perm (pairsOf (v1::v2::rest))/\failedOf st'=none/\SortedTo (arrOf st') (pairsOf (v1::v2::rest)).size)
  hI.intKeys ⟨aIJ.refl _,rfl,rfl,rfl⟩ (by rw[pairsOf_size];exact h64) (BV hI hs) fun st' a1 a2 a3=>⟨a1,a2,a3⟩) ?_ fun _ _ e=>e)
 rintro⟨⟨⟩,st'⟩ s' ⟨rfl,hp,hf,hso⟩;dsimp only;refine wpAny_bind (seqEpoch_at ho6 rfl (wpAny_bind (listUpdate_at ho6 rfl ?_ (aGe _) (aFN (aH3 ((Array.size_map ..).trans (hp.size_eq.trans ((pairsOf_size _).trans h64)))) (by rw[sizeLine_eq];decide)))));rw[hf];simp only[bne_self_eq_false,aGO,if_false];obtain⟨ns',b1,b2,b3⟩:=sorted_out hI hp hso;exact wpAny_pure (h _ ns' b1 b2 b3)
theorem Dc{l:Addr}{o:Obj}{T:String}{n:Nat}{Q:List Value->Shared->Prop}(hT:T = "list"∨T = "tuple")(ho:s.heap.get? l=some o)(hc:o.cls=.type T)(hd:o.data=.seq vs.toArray n)(hz:vs.length<=sizeLine)
  (h:∀h',(∀b u,s.heap.get? b=some u->h'.get? b=some u)->Q vs { s with heap:=h' }):wpAny (model prog w) A (collect (.ref l)) Q E s:=by
 unfold collect;refine wpAny_bind (wpAny_runValue (codeAny_builtin entry_proto_collect' ?_));show wpAny _ _ (do again (.builtin "list.__iadd__" ⟨[<-newList [],.ref l],[]⟩)) _ _ s;refine wpAny_bind (wpAny_newList (wpAny_pure ⟨Code.quiet_builtin _ (by decide +kernel),codeAny_builtin entry_list_iadd' ?_⟩));show wpAny _ _ (Builtin.List.listExtendWith (.ref s.heap.objs.size) (.ref l) (.ref s.heap.objs.size)) _ _ { s with heap:=s.heap.push (seqObj "list" #[] 0) };unfold Builtin.List.listExtendWith;have ho':(s.heap.push (seqObj "list" #[] 0)).get? l=some o:=aFO _ ho;refine wpAny_bind (wpAny_typeOf (T:=T) ⟨o,ho',hc⟩ ?_);rw[if_pos (by rcases hT with e |e <;> subst e <;> simp)];refine wpAny_bind (listItems_at ho' hd (wpAny_bind (listItems_at (xs:=#[]) (n:=0) (aF6 _ rfl) rfl ?_)));rw[if_neg (by simp)];refine wpAny_bind (listUpdate_at (xs:=#[]) (n:=0) (aF6 _ rfl) rfl ?_ (aGe _) (by show(#[]++vs.toArray).size<=sizeLine+1;simp only[Array.size_append,aFS,aHr];lia));refine wpAny_pure ?_;show wpAny (model prog w) A (do
   let o <-load s.heap.objs.size
   match o.data with
   | .seq xs _=>pure xs.toList
   |_=>unsupported "internal:collect") Q E { s with heap:=(s.heap.push (seqObj "list" #[] 0)).update s.heap.objs.size (Obj.mapSeq (·++vs.toArray)) }
 refine wpAny_bind (wpAny_load (get?_update_seq (aF6 _ rfl) _) ?_);show wpAny _ _ (pure ((#[]:Array Value)++vs.toArray).toList) Q E _;rw[show((#[]:Array Value)++vs.toArray).toList=vs by simp];refine wpAny_pure (h _ fun b u e=>?_);rw[Heap.get?_update_ne _ _ _ _ (aGg (aF3 e))];exact aFO _ e
end
section
variable{X:Cx}
def Iz (ns:List Int):Prop:=ns.length<64∨(ns.length=64/\ns.Pairwise (·<=·))
theorem Az:fY X (.builtin "sorted") (fun xs H Q=>∃(p:Addr) (ns:List Int),xs=[.ref p]/\(bV X.K H p (ns.map V.int)∨dN X.K H p (ns.map V.int))/\Iz ns ∧
  ∀(l:Addr) (ms:List Int),H l=none->ms.Perm ns->ms.Pairwise (·<=·)->Q (.ref l) (bH H l (.lst (ms.map V.int)))):=by
 intro pins s σ H xs us Q I r h;obtain⟨p,ns,rfl,hq,h64,q⟩:=h;obtain⟨u,rfl,ru⟩:=vals1 r;cases(show u=Value.ref p from ru);obtain⟨T,hT,o,its,n,ho,hc,hd,rv,hz⟩:∃T,(T = "list"∨T = "tuple")/\∃(o:Obj) (its:List Value) (n:Nat),s.heap.get? p=some o/\o.cls=.type T/\o.data=.seq its.toArray n/\cL (ns.map V.int) its/\(ns.map V.int).length<=sizeLine:=by
  rcases hq with hq |hq
  ·obtain⟨its,rv,pl,hz⟩:=I.list hq;obtain⟨o,ho,hc,n,hd⟩:=pl.isList;exact⟨"list",.inl rfl,o,its,n,ho,hc,hd,rv,hz⟩
  ·obtain⟨its,rv,pl,hz⟩:=I.tuple hq;obtain⟨o,ho,hc,n,hd⟩:=pl;exact⟨"tuple",.inr rfl,o,its,n,ho,hc,hd,rv,hz⟩
 have hlen:=rv.length;have hi:=intsAre_of rv;have hln:its.length=ns.length:=hi.length;refine Calls.call_function_entry kind_sorted plain_sorted entry_sorted (args_sorted1 _) ?_;unfold Builtin.«sorted»;refine wpAny_bind (m:=checkCount "sorted" 1 1 _) (wpAny_pure ?_);refine wpAny_bind (Dc hT ho hc hd (by lia) fun h' kp=>?_);refine wpAny_bind (wpAny_newList ?_ (by lia));have hoL:(h'.push (seqObj "list" its.toArray 0)).get? h'.objs.size=some (seqObj "list" its.toArray 0):=aF6 _ rfl;have fin:∀(out:Array Value) (ns':List Int),IntsAre out.toList ns'->ns'.Perm ns->ns'.Pairwise (·<=·)->EP X pins σ Q (.ref h'.objs.size) { s with heap:=sortedHeap (h'.push (seqObj "list" its.toArray 0)) h'.objs.size its out }:=fun out ns' a1 a2 a3=>by
  have I1:bB X pins σ H { s with heap:=h' }:=I.kept (t':=s.toks) kp;obtain⟨ep2,eo⟩:=sortedHeap_at (out:=out) hoL;have hlo:out.toList.length=ns'.length:=a1.length;have hl2:ns'.length=ns.length:=a2.length_eq;refine⟨.ref h'.objs.size,bH H h'.objs.size (.lst (ns'.map V.int)),I1.laid (t':=s.toks) (fun b u q=>?_) (aFV _) ⟨by rw[aFJ];lia,out.toList,ep2,uC a1,by rw[aHH];exact eo⟩,rfl,q _ _ (I1.hok.fresh (aFV _)) a2 a3⟩;rw[sortedHeap_old (aGg (aF3 q)) (by rw[aHM];exact aIt (aF3 q))];exact aFO _ q
 rcases h64 with h64 | ⟨h64,hs⟩
 ·refine wpAny_bind (wpAny_holding (wpAny_call_entry slot_list_sort ⟨_,hoL,rfl⟩ entry_list_sort (list_sort_tree hoL hi (by lia) fun out ns' a1 a2 a3=>⟨_,rfl,?_⟩) (args_list_sort _)));exact wpAny_pure ⟨_,rfl,fin out ns' a1 a2 a3⟩
 ·refine wpAny_bind (wpAny_holding (wpAny_call_entry slot_list_sort ⟨_,hoL,rfl⟩ entry_list_sort (Uh hoL hi (by lia) hs fun out ns' a1 a2 a3=>⟨_,rfl,?_⟩) (args_list_sort _)));exact wpAny_pure ⟨_,rfl,fin out ns' a1 a2 a3⟩
theorem Lg{e:Expr}{a b c:TE}(h1:PE X e a)(h2:PE X e b)(h3:PE X e c):PE X e (fun σ H Q=>a σ H Q∨b σ H Q∨c σ H Q):=fun pins s σ H Q I h=>by
 rcases h with h |h |h
 ·exact h1 pins s σ H Q I h
 ·exact h2 pins s σ H Q I h
 ·exact h3 pins s σ H Q I h
end
theorem PX{ns:List Int}(nd:ns.Nodup):M8 ns=ns:=by
 have go:∀(ms ds:List Int),(ds++ms).Nodup->ms.foldl PyProof.Rows.step_dedup ds=ds++ms:=by
  intro ms
  induction ms with
  |nil=>intro ds _;simp
  |cons m ms ih =>
   intro ds h;have hm:ds.any (·==m)=false:=by
    rw[aIr];intro x hx z;have hxm:x=m:=by simpa using z
    have:=(aIy.mp h).2.2 x hx m aFL;exact this hxm
   show ms.foldl PyProof.Rows.step_dedup (PyProof.Rows.step_dedup ds m)=_;have e:PyProof.Rows.step_dedup ds m=ds++[m]:=by unfold PyProof.Rows.step_dedup;rw[if_neg (by rw[hm];exact aGb)]
   rw[e,ih (ds++[m]) (by rw[aFW];exact h),aFW]
   rfl
 exact go ns [] (by simpa using nd)
variable{K:PySem.W.Frag}
theorem qI{X:Cx}(hK:X.K=K):fY X (.builtin "sorted") (fun xs H Q=>∃(p:Addr) (ns:List Int),xs=[.ref p]/\(bV K H p (ns.map V.int)∨dN K H p (ns.map V.int))/\Iz ns ∧
  ∀(l:Addr) (ms:List Int),H l=none->ms.Perm ns->ms.Pairwise (·<=·)->Q (.ref l) (bH H l (.lst (ms.map V.int)))):=by subst hK;exact Az
theorem GZ{X:Cx}(hK:X.K=K)(hc:X.calm=true):fY X (.type "set") (fun xs H Q=>∃(a:Addr) (ns:List Int),xs=[.ref a]/\bV K H a (ns.map V.int)/\ns.length+1<scanBound ∧
  ∀r,H r=none->Q (.ref r) (bH H r (.set (fun k=>(M8 ns).any (·==k)) (M8 ns).length))):=by subst hK;exact J2 hc
theorem Vt:bootBuiltins "set" = some (.type "set"):=by decide +kernel
end L2
namespace TP
open PySem L2 TD
open Builtin.Int (intBits)
noncomputable def hb (k b:Int):Bool:=decide (V.int (Builtin.bitAnd (k/2^b.toNat) 1)=V.int 1)
noncomputable def six (n:Nat):List Int:=(aHd n).map fun(i:Nat)=>(0:Int)+(i:Int)
noncomputable def bxs (k:Int):List Int:=(six 6).filter (hb k)
inductive GQ (vs:List V)(H:Hp)(Q:VK)(_:XK):Prop
 |mk (a:Addr) (ns:List Int) (lo:Int) (hi:Int) (g:Int) (_:vs=[.ref a,.int lo,.int hi,.int g]) (_:H a=some (.lst (Is ns))) (_:lo<=(ns.length:Int)) (_:(ns.length:Int)<=hi) (_:ns.length<=64) (_:(∀n∈ns,0<=n/\n<=g)) (_:∀H',aP H H'->Q (.bl true) H')
inductive Sk where
 |few (c:Int)
 |groups (gs ms:List Int)
 |listed (ks:List Int)
structure Zk (gs ms:List Int):Prop where
 l1:1<=gs.length
 l6:gs.length<=6
 g:∀g∈gs,0<=g/\g<=5
 m6:ms.length=6
 m:∀m∈ms,0<=m/\m<=6
structure Zm (ks:List Int):Prop where
 l1:1<=ks.length
 few:Iz ks
 nd:ks.Nodup
 k:∀k∈ks,0<=k/\k<=63
theorem Zm.l64{ks:List Int}(g:Zm ks):ks.length<=64:=by rcases g.few with h |h <;> lia
def aCp:Sk->Prop
 | .few c=>0<=c/\c<=6
 | .groups gs ms=>Zk gs ms
 | .listed ks=>Zm ks
noncomputable def aAM (gs ms:List Int)(k:Int):Bool:=(bxs k).all (fun b=>decide (b<(gs.length:Int)))&&((bxs k).map fun b=>gs.getD b.toNat 0).all fun g=>decide ((((bxs k).map fun b=>gs.getD b.toNat 0).count g:Nat)<=ms.getD g.toNat 0)
noncomputable def aAC:Sk->Int->Bool
 | .few c,k=>decide (((bxs k).length:Nat)<=c)
 | .groups gs ms,k=>aAM gs ms k
 | .listed ks,k=>inV (.int k) (Is ks)
def wX (H:Hp)(p:Addr):Sk->Prop
 | .few c=>H p=some (.tup [.str "few",.int c])
 | .groups gs ms=>∃g m,H p=some (.tup [.str "groups",.ref g,.ref m])/\H g=some (.tup (Is gs))/\H m=some (.tup (Is ms))
 | .listed ks=>∃k,H p=some (.tup [.str "listed",.ref k])/\H k=some (.tup (Is ks))
theorem wX.same{H H':Hp}{p:Addr}{S:Sk}(s:aP H H')(h:wX H p S):wX H' p S:=by
 cases S with
 |few c=>exact s _ _ h
 |groups gs ms=>obtain⟨g,m,a,b,c⟩:=h;exact⟨g,m,s _ _ a,s _ _ b,s _ _ c⟩
 |listed ks=>obtain⟨k,a,b⟩:=h;exact⟨k,s _ _ a,s _ _ b⟩
structure Ff where
 f:Addr
 g:Addr
 l:Addr
def xE (C:Addr)(H:Hp)(x:Addr)(c:Int):Prop:=∃dx,H x=some (.ins C dx [("limit",.int c)])
def Pb (C:Addr)(H:Hp)(x:Addr)(gs ms:List Int):Prop:=∃dx g m,H x=some (.ins C dx [("groups",.ref g),("most",.ref m)])/\H g=some (.tup (Is gs))/\H m=some (.tup (Is ms))
def PL (C:Addr)(H:Hp)(x:Addr)(ks:List Int):Prop:=∃dx k,H x=some (.ins C dx [("sets",.ref k)])/\H k=some (.tup (Is ks))
theorem xE.same{C:Addr}{H H':Hp}{x:Addr}{c:Int}(s:aP H H')(h:xE C H x c):xE C H' x c:=by obtain⟨dx,a⟩:=h;exact⟨dx,s _ _ a⟩
inductive Rk (C:Addr)(vs:List V)(H:Hp)(Q:VK)(_:XK):Prop
 |mk (x:Addr) (dx:Addr) (c:Int) (_:vs=[.ref x,.int c]) (_:H x=some (.ins C dx [])) (_:0<=c) (_:c<=6) (_:Q .non (bH H x (.ins C dx [("limit",.int c)])))
inductive wG (C:Addr)(vs:List V)(H:Hp)(Q:VK)(_:XK):Prop
 |mk (x:Addr) (c:Int) (_:vs=[.ref x]) (_:xE C H x c) (_:∀r H',aP H H'->wX H' r (.few c)->Q (.ref r) H')
inductive RW (C:Addr)(vs:List V)(H:Hp)(Q:VK)(_:XK):Prop
 |mk (x:Addr) (dx:Addr) (a:Addr) (b:Addr) (gs:List Int) (ms:List Int) (_:vs=[.ref x,.ref a,.ref b]) (_:H x=some (.ins C dx [])) (_:H a=some (.lst (Is gs))) (_:H b=some (.lst (Is ms))) (_:Zk gs ms) (_:∀g m H',(∀b o,b≠x->H b=some o->H' b=some o)->H' g=some (.tup (Is gs))->H' m=some (.tup (Is ms))->H' x=some (.ins C dx [("groups",.ref g),("most",.ref m)])->Q .non H')
inductive wC (C:Addr)(vs:List V)(H:Hp)(Q:VK)(_:XK):Prop
 |mk (x:Addr) (gs:List Int) (ms:List Int) (_:vs=[.ref x]) (_:Pb C H x gs ms) (_:∀r H',aP H H'->wX H' r (.groups gs ms)->Q (.ref r) H')
inductive Rb (C:Addr)(vs:List V)(H:Hp)(Q:VK)(_:XK):Prop
 |mk (x:Addr) (dx:Addr) (a:Addr) (ks:List Int) (_:vs=[.ref x,.ref a]) (_:H x=some (.ins C dx [])) (_:H a=some (.lst (Is ks))) (_:Zm ks) (_:∀k ms H',aP H H'->ms.Perm ks->ms.Pairwise (·<=·)->H' k=some (.tup (Is ms))->Q .non (bH H' x (.ins C dx [("sets",.ref k)])))
inductive wI (C:Addr)(vs:List V)(H:Hp)(Q:VK)(_:XK):Prop
 |mk (x:Addr) (ks:List Int) (_:vs=[.ref x]) (_:PL C H x ks) (_:∀r H',aP H H'->wX H' r (.listed ks)->Q (.ref r) H')
end TP
namespace TP
open PySem L2 TD
theorem getD_mem{ns:List Int}{i:Nat}(h:i<ns.length):ns.getD i 0∈ns:=by
 rw[show ns.getD i 0=ns[i] by simp[h]];exact aGB h
theorem at1{xs:List V}{i:Nat}{v:V}(h:xs[i+1]? = some v):Gh xs (0+(i:Int)+1)=some v:=by
 have:=m7 h;rw[show((i+1:Nat):Int)=0+(i:Int)+1 by lia]at this;exact this
structure Rg (K:PySem.W.Frag)(p:Ff):Prop where
 hn:PySem.W.specialIn K (.builtin "object.__class__") "__get__" = some (some (.builtin "getset_descriptor.__get__"))
 htk:PySem.W.takesIn K (.builtin "object.__class__")=some true
 cf:rZ K p.f
 cg:rZ K p.g
 cl:rZ K p.l
 fa:PySem.W.findIn K (.ref p.f) "__class__" = some (some (.builtin "object.__class__"))
 fm:PySem.W.mroIn K p.f (.type "object")=some true
 ga:PySem.W.findIn K (.ref p.g) "__class__" = some (some (.builtin "object.__class__"))
 gm:PySem.W.mroIn K p.g (.type "object")=some true
 la:PySem.W.findIn K (.ref p.l) "__class__" = some (some (.builtin "object.__class__"))
 lm:PySem.W.mroIn K p.l (.type "object")=some true
 ff:PySem.W.kitOne K (.ref p.f) (.ref p.f)=some true
 gf:PySem.W.kitOne K (.ref p.g) (.ref p.f)=some false
 gg:PySem.W.kitOne K (.ref p.g) (.ref p.g)=some true
 lf:PySem.W.kitOne K (.ref p.l) (.ref p.f)=some false
 lg:PySem.W.kitOne K (.ref p.l) (.ref p.g)=some false
 ll:PySem.W.kitOne K (.ref p.l) (.ref p.l)=some true
noncomputable def Zd (ks:List Int):Int:=(ks.map fun b=>(1:Int)*2^b.toNat).sum
noncomputable def keepB (q:Ca)(S:Sk)(i:Nat):Bool:=!(q.bs.getD i false)&&aAC S (Builtin.bitOr (Zd (ZW q)) (1*2^((i:Int)).toNat))
theorem MP{c:Cs}{ta:TE}{σ:St}{H:Hp}{Q:VK}{y:Addr}{s:Sd.Sd}{d m:Nat}(hta:∀Q':VK,Q' (.ref y) H->ta σ H Q')(st:eQ c H y s d m)
  (k:∀b,((∃v,s=.en v)/\b=true∨(∃p rs,s=.st p rs)/\b=false)->Q (.bl b) H):lO c.e "is_end" (zY c true) [] E0 ta nC σ H Q∨lO c.s "is_end" (zY c false) [] E0 ta nC σ H Q:=by
 cases st with
 |en h vv ok=>exact .inl (hta _ ⟨y,_,_,rfl,h,rfl,y,rfl,k _ (.inl ⟨⟨_,rfl⟩,rfl⟩)⟩)
 |st h vv g lp ly row sub p0 p9 ne l4 w hk=>exact .inr (hta _ ⟨y,_,_,rfl,h,rfl,y,rfl,k _ (.inr ⟨⟨_,_,rfl⟩,rfl⟩)⟩)
end TP
namespace TD
open PySem PySem.Spec PyProof.Rows L2
theorem CN.of{K:PySem.W.Frag}{c:Cs}(h:(["tuple","int","NoneType","str","list"].map fun T=>(PySem.W.kitOne K (.type T) (.ref c.e),PySem.W.kitOne K (.type T) (.ref c.s)))=aGw 5 (some false,some false))(t:PySem.W.kitOne K (.ref c.e) (.type "tuple")=some false):CN K c :=
 ⟨fun T hT=>by
  have:=List.mem_map_of_mem (f:=fun T=>(PySem.W.kitOne K (.type T) (.ref c.e),PySem.W.kitOne K (.type T) (.ref c.s))) hT;rw[h]at this;have e:=List.eq_of_mem_replicate this;exact⟨congrArg (·.1) e,congrArg (·.2) e⟩,t⟩
end TD
namespace L2
open PySem PySem.Spec PyProof.Rows
section
variable{X:Cx}
inductive QQ (x:V)(y:V)(H:Hp)(Q:VK):Prop
 |mk (a:Str) (b:Str) (_:x=.str a) (_:y=.str b) (_:a.length+b.length<=16777216) (_:Q (.str (a++b)) H)
noncomputable def ZR:R2:=fun x y H Q=>QQ x y H Q
theorem bK:pU X (binaryOp .Add) ZR:=by
 intro pins s σ H x y v u Q I rx ry h;obtain⟨a,b,rfl,rfl,hz,q⟩:=h;obtain⟨t,rfl⟩:=rx;obtain⟨t',rfl⟩:=ry;exact PySem.W.KXadd.add (K:=a.length) (L:=b.length) (aFV _) (aFV _) hz fun t' k _=>⟨.str (a++b),H,I.tok _,⟨_,rfl⟩,q⟩
noncomputable def lF (i:Int):Str:=Str.ofString (toString i)
theorem iJ:fY X (.type "str") (fun xs H Q=>∃i:Int,xs=[.int i]/\i.natAbs.log2<1920/\Q (.str (lF i)) H):=by
 rintro pins s σ H xs us Q I r ⟨i,rfl,hz,q⟩;obtain⟨u,rfl,ru⟩:=r.one;obtain⟨t,rfl⟩:=ru;exact P.str_of_int hz ⟨.str (lF i),H,I.tok _,⟨_,rfl⟩,q⟩
inductive QR (K:PySem.W.Frag)(x:V)(xs:List V)(H:Hp)(Q:VK):Prop
 |mk (sep:Str) (a:Addr) (ts:List Str) (_:x=.str sep) (_:xs=[.ref a]) (_:bV K H a (ts.map V.str)) (_:(ts.map (·.length)).sum+ts.length*sep.length<=16777216) (_:Q (.str (Txt.join sep ts)) H)
def rJoin (K:PySem.W.Frag):V->List V->Hp->VK->Prop:=fun x xs H Q=>QR K x xs H Q
theorem Ih:∀{ts:List Str}{us:List Value},cL (ts.map V.str) us->StrsAre us ts
 | [],us,h=>by cases h;exact .nil
 |t::ts,us,h=>by
  cases h with
  |cons r rr =>
   obtain⟨k,rfl⟩:=r;exact .cons t k (Ih rr)
theorem lL:Ze X "str.join" (rJoin X.K):=by
 rintro pins s σ H x xs v us Q I rx rv ⟨sep,a,ts,rfl,rfl,ha,hz,q⟩;obtain⟨t,rfl⟩:=rx;obtain⟨u,rfl,ru⟩:=rv.one;cases ru;obtain⟨its,r,ht,hl⟩:=I.list ha;exact join_list ht.isList (by rw[List.toList_toArray];exact Ih r) hz fun t' k=>⟨.str (Txt.join sep ts),H,I.tok _,⟨_,rfl⟩,q⟩
inductive U5 (x:V)(lo:Option Int)(hi:Option Int)(H:Hp)(Q:VK):Prop
 |mk (z:Str) (_:x=.str z) (_:z.length<=sizeLine) (_:Q (.str (Txt.slice z lo hi)) H)
def aAt:V->Option Int->Option Int->Hp->VK->Prop:=fun x lo hi H Q=>U5 x lo hi H Q
theorem part_of{v:Value}{i:Option Int}(h:IsPart v i):∃l:Option (Int×Tok),v=partValue l/\l.map (·.1)=i:=by
 cases h with
 |none=>exact⟨none,rfl,rfl⟩
 |int i t=>exact⟨some (i,t),rfl,rfl⟩
theorem Nr:SlR X aAt:=by
 intro pins s σ H x v vl vu lo hi sl Q I rx hs pl pu h;obtain⟨z,rfl,hz,q⟩:=h;obtain⟨t,rfl⟩:=rx;obtain⟨l,rfl,rfl⟩:=part_of pl;obtain⟨u,rfl,rfl⟩:=part_of pu;refine⟨"str",_,F.slot_str_getitem.lookup,typeIs_str _ z t,?_⟩;refine wpAny_getItem_str_slice (l:=l) (u:=u) (st:=none) hs rfl ?_;unfold sliceMade slicePicked
 split
 ·rename_i e;have z2:Txt.slice z (l.map (·.1)) (u.map (·.1))=z:=if_pos e;rw[z2]at q;exact⟨.str z,H,I,⟨_,rfl⟩,q⟩
 ·rename_i e;have z2:Txt.slice z (l.map (·.1)) (u.map (·.1))=⟨((Builtin.Str.strSliceIndices (l.map (·.1)) (u.map (·.1)) 1 z.length).filterMap (z.cps[·]?)).toArray⟩:=if_neg e;rw[z2]at q;refine⟨?_,.str _,H,I.tok _,⟨_,rfl⟩,q⟩;show(((Builtin.Str.strSliceIndices (l.map (·.1)) (u.map (·.1)) 1 z.length).filterMap (z.cps[·]?)).toArray).size<=sizeLine;rw[aFS];exact aFN (List.length_filterMap_le _ _) (aFN (sliceIndices_le _ _ _) hz)
theorem JS:fY X (.type "int") (fun xs H Q=>∃(z:Str) (n:Int),xs=[.str z]/\z.length<=640/\PySem.intText? z=some n/\Q (.int n) H):=by
 rintro pins s σ H xs us Q I r ⟨z,n,rfl,hl,hn,q⟩;obtain⟨u,rfl,ru⟩:=r.one;obtain⟨t,rfl⟩:=ru;exact PySem.W.KIN.call_text hn hl ⟨.int n,H,I.tok _,⟨_,rfl⟩,q⟩
end
end L2
namespace Rd
open PySem L2 TD
open Builtin.Str StrLaws
theorem clip{a b len:Nat}(ha:a<=len)(hab:a<=b):strSliceIndices (some (a:Int)) (some (b:Int)) 1 len=strSliceIndices (some (a:Int)) (some ((min b len:Nat):Int)) 1 len:=by
 have h2:¬ ((b:Int)<0):=by lia
 have h3:¬ (((min b len:Nat):Int)<0):=by lia
 have e2:max (0:Int) (min (b:Int) (len:Int))=((min b len:Nat):Int):=by lia
 have e3:max (0:Int) (min ((min b len:Nat):Int) (len:Int))=((min b len:Nat):Int):=by lia
 simp only[strSliceIndices,h2,h3,if_false,e2,e3,show((1:Int) > 0)=True from by simp,if_true]
theorem Am(z:Str){a k:Nat}(ha:a<=z.length):(Txt.slice z (some (a:Int)) (some ((a:Int)+(k:Int)))).cps.toList=(z.cps.toList.drop a).take k:=by
 have e:((a:Int)+(k:Int))=((a+k:Nat):Int):=by push_cast;rfl
 have pl:=sliced_plain z (a:=a) (b:=min (a+k) z.length) (by lia) (by lia);rw[<-clip ha (by lia)]at pl;have len:(z.cps.toList.drop a).take (min (a+k) z.length-a)=(z.cps.toList.drop a).take k:=by
  rw[List.take_eq_take_iff];have:(z.cps.toList.drop a).length=z.length-a:=by rw[aID];rfl
  rw[this]
  lia
 unfold Txt.slice;rw[e]
 split
 ·rename_i h;have h1:(strSliceIndices (some (a:Int)) (some ((a+k:Nat):Int)) 1 z.length).length=z.length:=by simpa using h
  have h2:(strSliceIndices (some (a:Int)) (some ((a+k:Nat):Int)) 1 z.length).length=min (a+k) z.length-a:=by
   rw[clip ha (by lia),strSliceIndices_plain (by lia) (by lia),aFJ,List.length_range]
  have n:z.cps.toList.length=z.length:=rfl;have a0:a=0∨z.length=0:=by lia
  rcases a0 with rfl |n0
  ·rw[aHQ,aH4 (by lia)]
  ·have:z.cps.toList=[]:=List.eq_nil_of_length_eq_zero (by lia);rw[this,List.drop_nil,List.take_nil]
 ·show(List.toArray _).toList=_;rw[pl,len]
structure zU (K:PySem.W.Frag)(C:Addr):Prop where
 cl:rZ K C
 nt:b8 K C "text"
 np:b8 K C "place"
noncomputable def oM (z:Str)(p:Nat):List (Str×V):=[("text",.str z),("place",.int (p:Int))]
theorem wO(z:Str)(p:Nat):(oM z p).lookup ("text" : Str)=some (.str z):=rfl
theorem j5(z:Str)(p:Nat):(oM z p).lookup ("place" : Str)=some (.int (p:Int)):=rfl
def cY (C:Addr)(H:Hp)(x:Addr)(z:Str)(p:Nat):Prop:=(∃dx,H x=some (.ins C dx (oM z p)))/\p<=z.length/\z.length<=1000000
noncomputable def rest (z:Str)(p:Nat):List Nat:=z.cps.toList.drop p
variable{z:Str}{p:Nat}
theorem cY.same{C:Addr}{H H':Hp}{x:Addr}(s:aP H H')(h:cY C H x z p):cY C H' x z p:=by
 obtain⟨⟨dx,e⟩,r⟩:=h;exact⟨⟨dx,s _ _ e⟩,r⟩
theorem Mh{s:Str}(hp:p<=z.length):(Txt.slice z (some (p:Int)) (some ((p:Int)+(s.length:Int)))=s)↔s.cps.toList <+: rest z p:=by
 have e:=Am z (k:=s.length) hp;have l:s.length=s.cps.toList.length:=rfl;constructor
 ·intro h;rw[h]at e;exact aHY.mpr e
 ·intro h;have t:=aHY.mp h;rw[<-l]at t;unfold rest at t;rw[<-t]at e;have h2:=aIE.mp e;generalize Txt.slice z (some (p:Int)) (some ((p:Int)+(s.length:Int)))=y at h2;cases y;cases s;simp at h2;rw[h2]
theorem bL{k:Nat}:rest z (p+k)=(rest z p).drop k:=by unfold rest;rw[List.drop_drop]
theorem xO:(rest z p).length=z.length-p:=by unfold rest;rw[aID];rfl
theorem Vk{s:Str}(hp:p<=z.length)(h:s.cps.toList <+: rest z p):p+s.length<=z.length:=by
 have a:=h.length_le;rw[xO]at a;have:s.length=s.cps.toList.length:=rfl
 lia
inductive Bx (C:Addr)(vs:List V)(H:Hp)(Q:VK)(_:XK):Prop
 |mk (x:Addr) (z:Str) (s:Str) (p:Nat) (_:vs=[.ref x,.str s]) (_:cY C H x z p) (_:s.length<=1000) (_:(s.cps.toList <+: rest z p->Q (.bl true) H)) (_:(¬ s.cps.toList <+: rest z p->Q (.bl false) H))
inductive qM (C:Addr)(vs:List V)(H:Hp)(Q:VK)(_:XK):Prop
 |mk (x:Addr) (z:Str) (s:Str) (p:Nat) (_:vs=[.ref x,.str s]) (_:cY C H x z p) (_:s.length<=1000) (_:(s.cps.toList <+: rest z p->∀H',KX x H H'->cY C H' x z (p+s.length)->Q (.bl true) H')) (_:(¬ s.cps.toList <+: rest z p->Q (.bl false) H))
inductive oZ (C:Addr)(vs:List V)(H:Hp)(Q:VK)(_:XK):Prop
 |mk (x:Addr) (z:Str) (s:Str) (p:Nat) (_:vs=[.ref x,.str s]) (_:cY C H x z p) (_:s.length<=1000) (_:s.cps.toList <+: rest z p) (_:∀H',KX x H H'->cY C H' x z (p+s.length)->Q .non H')
inductive Ba (C:Addr)(vs:List V)(H:Hp)(Q:VK)(_:XK):Prop
 |mk (x:Addr) (z:Str) (p:Nat) (_:vs=[.ref x]) (_:cY C H x z p) (_:Q (.bl (decide (p=z.length))) H)
inductive pR (C:Addr)(vs:List V)(H:Hp)(Q:VK)(_:XK):Prop
 |mk (x:Addr) (z:Str) (p:Nat) (_:vs=[.ref x]) (_:cY C H x z p) (_:p=z.length) (_:Q .non H)
end Rd
namespace K86
open PySem L2 TD
noncomputable def eU:Pos:=⟨44,30,44,72⟩
theorem uV:aM ["thing","least","most"] ["thing","least","most"] (aH (top 7)):=bA (by decide +kernel)
theorem lK:aM ["one","other","rest"] ["one","other"] (aH (top 8)):=bA (by decide +kernel)
theorem lB:aM ["numbers","multiple","number"] ["numbers"] (aH (top 9)):=bA (by decide +kernel)
theorem Dm:aM ["top","bottom","divisor"] ["top","bottom"] (aH (top 10)):=bA (by decide +kernel)
theorem Eo:aM ["number"] ["number"] (aH (top 11)):=bA (by decide +kernel)
theorem Cz:aM ["one","other"] ["one","other"] (aH (top 12)):=bA (by decide +kernel)
theorem zX:aM ["one","other"] ["one","other"] (aH (top 13)):=bA (by decide +kernel)
theorem zQ:aM ["worths","most","scale"] ["worths"] (aH (top 17)):=bA (by decide +kernel)
theorem xH:aM ["rows","weights","worth","weight","divisor"] ["rows"] (aH (top 18)):=bA (by decide +kernel)
theorem pC:aM ["table"] ["table"] (aH (top 19)):=bA (by decide +kernel)
theorem zM:aM ["table","level"] ["table","level"] (aH (top 20)):=bA (by decide +kernel)
theorem Dw:aM ["rows","scale","parts","weight","table","factor"] ["rows"] (aH (top 21)):=bA (by decide +kernel)
theorem tH:aM ["table","price","bottom","tops","weights","worth","weight","top"] ["table","price"] (aH (top 22)):=bA (by decide +kernel)
theorem uZ:aM ["thing"] ["thing"] (aH (top 32)):=bA (by decide +kernel)
theorem nW:aM ["row"] ["row"] (aH (top 33)):=bA (by decide +kernel)
theorem lZ:aM ["rows"] ["rows"] (aH (top 34)):=bA (by decide +kernel)
theorem qH:aM ["things","fewest","most","greatest_number"] ["things","fewest","most","greatest_number"] (aH (top 37)):=bA (by decide +kernel)
theorem oW:aM ["number","part","figures","rest","sign"] ["number"] (aH (top 51)):=bA (by decide +kernel)
theorem nR:aM ["numbers"] ["numbers"] (aH (top 52)):=bA (by decide +kernel)
theorem q9:aM ["stand","rows"] ["stand"] (aH (top 53)):=bA (by decide +kernel)
theorem oR:aM ["boxes"] ["boxes"] (aH (top 54)):=bA (by decide +kernel)
theorem mC:aM ["pattern","told"] ["pattern"] (aH (top 55)):=bA (by decide +kernel)
theorem pX:aM ["plan","box"] ["plan"] (aH (top 56)):=bA (by decide +kernel)
theorem uW:aM ["reader","stages","weight"] ["reader","stages"] (aH (top 58)):=bA (by decide +kernel)
theorem qJ:aM ["reader","stages","number","rows"] ["reader","stages"] (aH (top 59)):=bA (by decide +kernel)
theorem qK:aM ["text","reader","boxes"] ["text"] (aH (top 60)):=bA (by decide +kernel)
theorem uR:aM ["text","boxes"] ["text"] (aH (top 61)):=bA (by decide +kernel)
theorem o8:aM ["reader","sets"] ["reader"] (aH (top 62)):=bA (by decide +kernel)
theorem pG:aM ["reader","groups"] ["reader"] (aH (top 63)):=bA (by decide +kernel)
theorem rB:aM ["reader"] ["reader"] (aH (top 64)):=bA (by decide +kernel)
theorem nY:aM ["text","reader","pattern"] ["text"] (aH (top 65)):=bA (by decide +kernel)
theorem jA:aM ["reader","box"] ["reader"] (aH (top 66)):=bA (by decide +kernel)
theorem qD:aM ["reader","knots","plans"] ["reader","knots"] (aH (top 67)):=bA (by decide +kernel)
theorem q8:aM ["reader","knots","box","plans"] ["reader","knots"] (aH (top 68)):=bA (by decide +kernel)
theorem sU:aM ["text","reader","plan"] ["text"] (aH (top 69)):=bA (by decide +kernel)
theorem n8:aM ["_law_script","_law_k"] ["_law_script","_law_k"] (aH (top 71)):=bA (by decide +kernel)
theorem p8:aM ["_law_cell","_law_k","_law_number"] ["_law_cell","_law_k"] (aH (top 72)):=bA (by decide +kernel)
theorem jE:aM ["_law_thing","_law_part"] ["_law_thing"] (aH (top 73)):=bA (by decide +kernel)
theorem rJ:aM ["_law_found","_law_due"] ["_law_found","_law_due"] (aH (top 74)):=bA (by decide +kernel)
theorem vC:aM ["_law_cell","_law_bit","_law_many","_law_row_here","_law_k"] ["_law_cell","_law_bit","_law_many"] (aH (top 75)):=bA (by decide +kernel)
theorem u5:aM ["_law_row_here","_law_deep","_law_most","_law_scale","_law_number","_law_many","_law_cost","_law_rows","_law_j","_law_weight"] ["_law_row_here","_law_deep","_law_most","_law_scale"] (aH (top 76)):=bA (by decide +kernel)
theorem rA:aM ["_law_cell","_law_k","_law_deep","_law_most","_law_number","_law_box_here","_law_many"] ["_law_cell","_law_k","_law_deep","_law_most"] (aH (top 77)):=bA (by decide +kernel)
theorem jK:aM ["_law_told"] ["_law_told"] (aH (top 78)):=bA (by decide +kernel)
theorem rE:aM ["_law_cell","_law_way","_law_numbers_here"] ["_law_cell"] (aH (top 79)):=bA (by decide +kernel)
theorem jN:aM ["_law_told"] ["_law_told"] (aH (top 80)):=bA (by decide +kernel)
theorem nM:aM ["_law_numbers_here"] ["_law_numbers_here"] (aH (top 81)):=bA (by decide +kernel)
theorem nH:aM ["_law_told","_law_rows"] ["_law_told"] (aH (top 82)):=bA (by decide +kernel)
theorem lD:aM ["_law_boxes","_law_due","_law_one","_law_text","_law_found"] ["_law_boxes"] (aH (top 83)):=bA (by decide +kernel)
theorem sW:aM ["_law_cell","_law_bit","_law_row_here","_law_scale","_law_boxes","_law_sort_here","_law_pattern","_law_told","_law_plan_here"] ["_law_cell","_law_bit"] (aH (top 84)):=bA (by decide +kernel)
theorem K6:aM ["_law_script","_law_k"] ["_law_script"] (aH (top 85)):=bA (by decide +kernel)
theorem lM:aM ["self","end_count","stage_count","level","cap_rows"] ["self","end_count","stage_count","level","cap_rows"] (aH (inClass (top 29) 0)):=bA (by decide +kernel)
theorem pZ:aM ["self"] ["self"] (aH (inClass (top 29) 1)):=bA (by decide +kernel)
theorem oE:aM ["self"] ["self"] (aH (inClass (top 29) 2)):=bA (by decide +kernel)
theorem p6:aM ["self"] ["self"] (aH (inClass (top 29) 4)):=bA (by decide +kernel)
theorem nZ:aM ["self","worth"] ["self","worth"] (aH (inClass (top 30) 0)):=bA (by decide +kernel)
theorem qC:aM ["self"] ["self"] (aH (inClass (top 30) 1)):=bA (by decide +kernel)
theorem uT:aM ["self"] ["self"] (aH (inClass (top 30) 4)):=bA (by decide +kernel)
theorem lJ:aM ["self","price","rows","end_count","stage_count","behind","level"] ["self","price","rows"] (aH (inClass (top 31) 0)):=bA (by decide +kernel)
theorem oA:aM ["self"] ["self"] (aH (inClass (top 31) 1)):=bA (by decide +kernel)
theorem p7:aM ["self"] ["self"] (aH (inClass (top 31) 6)):=bA (by decide +kernel)
theorem oF:aM ["self","count"] ["self","count"] (aH (inClass (top 39) 0)):=bA (by decide +kernel)
theorem vA:aM ["self"] ["self"] (aH (inClass (top 39) 2)):=bA (by decide +kernel)
theorem j9:aM ["self","groups","most"] ["self","groups","most"] (aH (inClass (top 40) 0)):=bA (by decide +kernel)
theorem oU:aM ["self"] ["self"] (aH (inClass (top 40) 2)):=bA (by decide +kernel)
theorem lA:aM ["self","sets"] ["self","sets"] (aH (inClass (top 41) 0)):=bA (by decide +kernel)
theorem oV:aM ["self"] ["self"] (aH (inClass (top 41) 2)):=bA (by decide +kernel)
theorem rF:aM ["self"] ["self"] (aH (inClass (top 44) 0)):=bA (by decide +kernel)
theorem mJ:aM ["self","box","then"] ["self","box","then"] (aH (inClass (top 45) 0)):=bA (by decide +kernel)
theorem rM:aM ["self"] ["self"] (aH (inClass (top 45) 1)):=bA (by decide +kernel)
theorem mG:aM ["self","box","plans"] ["self","box","plans"] (aH (inClass (top 46) 0)):=bA (by decide +kernel)
theorem rK:aM ["self"] ["self"] (aH (inClass (top 46) 1)):=bA (by decide +kernel)
theorem lC:aM ["self","text"] ["self","text"] (aH (inClass (top 57) 0)):=bA (by decide +kernel)
theorem nT:aM ["self","signs"] ["self","signs"] (aH (inClass (top 57) 1)):=bA (by decide +kernel)
theorem lY:aM ["self","signs"] ["self","signs"] (aH (inClass (top 57) 2)):=bA (by decide +kernel)
theorem pA:aM ["self","signs"] ["self","signs"] (aH (inClass (top 57) 3)):=bA (by decide +kernel)
theorem mL:aM ["self"] ["self"] (aH (inClass (top 57) 4)):=bA (by decide +kernel)
theorem kJ:aM ["self"] ["self"] (aH (inClass (top 57) 5)):=bA (by decide +kernel)
theorem mF:aM ["self","first","figures"] ["self"] (aH (inClass (top 57) 6)):=bA (by decide +kernel)
theorem lQ:aM ["self","found"] ["self"] (aH (inClass (top 57) 7)):=bA (by decide +kernel)
end K86
namespace K86
open PySem L2 TD
open Builtin.Int (intBits)
section
variable{P:Program}{w:World}{K:PySem.W.Frag}{mg:Str->Option Value}{base:Heap}{Pt:Addr}
variable{n:Nat}{f:Addr}{fd:FuncData}
theorem rR(F:dJ K "common_divisor" "common_divisor" (top 8) f fd)(aCU:mg "abs" = none):aN P w K mg base bT (n+1) f fd ["one","other"] Qc:=by
 refine F.go lK fun cdv A outer s H vs Q E hr h=>?_;obtain⟨a,b,rfl,q⟩:=h;have nd:=lK.nd;refine⟨_,(aG (kI PassesOwn.never (bJ zL (pv 1) aL (bD _)) (aG (d7 2 (aV QD (pv 0) (pv 1))) (aG (d7 0 (pv 1)) (aJ (d7 1 (pv 2)))))) (aJ (aW (aQ Fb rfl aCU Ks (aA (pv 0) aC))))),?_⟩;refine Ka (fun σ H'=>∃x y r,σ = [some (.int x),some (.int y),r]/\aGz x y=aGz a b/\H'=H) (fun σ _=>match σ with | [_,some (.int y),_]=>y.natAbs |_=>0) ⟨a,b,none,rfl,rfl,rfl⟩ (fun σ H' ⟨x,y,r,e,hg,eH⟩=>?_) (fun σ H Q Q' hQ ⟨v,e,hs,k,ek,q⟩=>⟨v,e,hs,k,ek,hQ _ _ q⟩);subst e eH;refine⟨_,rfl,rfl,_,rfl,?_⟩
 by_cases hy:y=0
 ·subst hy;refine iW (by simp) ?_;refine⟨_,rfl,_,rfl,?_⟩;have e:(if x<0 then -x else x)=((aGz a b:Nat):Int):=by
   rw[<-hg,Int.gcd_zero]
   split <;> omega
  rw[e];exact q
 ·refine nQ (by simp[hy]) ?_;refine⟨_,rfl,_,rfl,x,y,rfl,rfl,hy,?_⟩;refine⟨_,rfl,?_⟩;refine⟨_,rfl,?_⟩;exact⟨⟨y,x.fmod y,_,rfl,(Fr.Lh x y).trans hg,rfl⟩,Fr.Ja hy⟩
theorem MT(F:dJ K "share" "share" (top 10) f fd)(t_:Cl P w K mg base n "common_divisor" Qc):aN P w K mg base bT (n+1) f fd ["top","bottom"] Ci:=by
 refine F.go Dm fun cdv A outer s H vs Q E hr h=>?_;obtain⟨t,b,rfl,hb,hz,q⟩:=h;have nd:=Dm.nd;refine⟨_,(aG (d7 2 (aF t_ hr (aA (pv 0) (aA (pv 1) aC)))) (aG (dI (bJ uU (pv 1) aL (bD _)) (aJ (d7 2 (Qk KY (pv 2)))) bM) (aJ (aW (fH (aA (aV jL (pv 0) (pv 2)) (aA (aV jL (pv 1) (pv 2)) aC))))))),?_⟩;have hdz:intBits (Fr.dv t b)<=9000:=PySem.intBits_le_of_natAbs (by rw[Fr.uP];exact aHZ t hb) hz;have hdn:=Fr.Rm (t:=t) hb;refine⟨_,rfl,_,rfl,t,b,rfl,?_⟩;refine⟨_,rfl,_,_,rfl,rfl,_,rfl,?_⟩;refine qZ (fun c=>?_) (fun c=>?_)
 ·have e:-((aGz t b:Nat):Int)=Fr.dv t b:=by unfold Fr.dv;rw[if_pos (of_decide_eq_true c)]
  unfold Fr.sh at q;rw[<-e]at q hdz hdn;refine⟨_,rfl,_,rfl,?_⟩;refine⟨_,rfl,_,rfl,_,_,rfl,rfl,⟨hdn,hdz⟩,_,rfl,_,rfl,_,_,rfl,rfl,⟨hdn,hdz⟩,uI,fun p hp=>?_⟩;exact q p _ (aD hp _) aB
 ·have e:((aGz t b:Nat):Int)=Fr.dv t b:=by unfold Fr.dv;rw[if_neg (of_decide_eq_false (Bool.eq_false_iff.mpr c))]
  unfold Fr.sh at q;rw[<-e]at q hdz hdn;refine⟨_,rfl,_,rfl,_,_,rfl,rfl,⟨hdn,hdz⟩,_,rfl,_,rfl,_,_,rfl,rfl,⟨hdn,hdz⟩,uI,fun p hp=>?_⟩;exact q p _ (aD hp _) aB
theorem qQ(F:dJ K "common_multiple" "common_multiple" (top 9) f fd)(t_:Cl P w K mg base n "common_divisor" Qc):aN P w K mg base bT (n+1) f fd ["numbers"] (Ry K):=by
 refine F.go lB fun cdv A outer s H vs Q E hr h=>?_;obtain⟨a,ns,rfl,hS,hp,h9,hz,q⟩:=h;have nd:=lB.nd;refine⟨_,(aG (d7 1 aL) (aG (jQ PassesOwn.never rfl (dU (pv 0)) (jG 2) (aJ (d7 1 (aV fJ (pv 1) (aV jL (pv 2) (aF t_ hr (aA (pv 1) (aA (pv 2) aC)))))))) (aJ (aW (pv 1))))),?_⟩;have hl:(ns.map V.int).length=ns.length:=aFJ _;refine⟨_,rfl,a,rfl,⟨_,hS⟩,?_⟩;refine sY (xs:=ns.map V.int) (fun i σ H'=>∃r,σ = [some (.ref a),some (.int (d8 (ns.take i))),r]/\H'=H) ⟨none,rfl,rfl⟩ (fun i σ H' _ ⟨r,_,e⟩=>by subst e;exact hS) ?turn ?done
 case turn =>
  rintro i x σ H' hx ⟨r,rfl,rfl⟩;rw[aF9]at hx;cases e:ns[i]? with
  |none=>rw[e]at hx;cases hx
  |some n =>
   rw[e]at hx;cases hx;have hm:=aFY e;have hn:=hp n hm;have nz:=h9 n hm;have gz:intBits ((aGz (d8 (ns.take i)) n:Nat):Int)<=9000:=aFN (PySem.intBits_le_of_natAbs (y:=n) (by have:=aHZ (d8 (ns.take i)) (aGv hn);omega) (aFV _)) (by omega);have gn:((aGz (d8 (ns.take i)) n:Nat):Int)≠0:=by have:=aGK (d8 (ns.take i)) (aGv hn);omega
   have lb:=z7 (ns.take i);have st:=Ep ns i;refine⟨_,rfl,_,rfl,_,rfl,_,rfl,d8 (ns.take i),n,rfl,_,_,rfl,rfl,⟨gn,gz⟩,_,_,rfl,rfl,jP (m:=240001) (n:=9000) (by omega) (PySem.intBits_fdiv_le nz) (by decide),?_⟩;refine⟨some (V.int n),?_,rfl⟩;rw[aHT,e];show _=[some (V.ref a),some (V.int (d8 (ns.take i++[n]))),some (V.int n)]
   rw[Jl]
   rfl
 case done =>
  rintro σ H' ⟨r,rfl,rfl⟩;rw[hl,aF5];exact⟨_,rfl,q⟩
theorem N5(F:dJ K "whole" "whole" (top 11) f fd):aN P w K mg base bT (n+1) f fd ["number"] Z1:=by
 refine F.go Eo fun cdv A outer s H vs Q E hr h=>?_;obtain⟨t,rfl,q⟩:=h;have nd:=Eo.nd;refine⟨_,(aJ (aW (fH (aA (pv 0) (aA aL aC))))),?_⟩;refine⟨_,rfl,uI,fun p hp=>?_⟩;exact q p _ (aD hp _) aB
theorem Ly(F:dJ K "below" "below" (top 12) f fd):aN P w K mg base bT (n+1) f fd ["one","other"] (HY K):=by
 refine F.go Cz fun cdv A outer s H vs Q E hr h=>?_;obtain⟨p,q,a,b,c,d,rfl,hp,hq,z,k⟩:=h;have nd:=Cz.nd;refine⟨_,(aJ (aW (pM uU (aV fJ (eE cU (pv 0) aL (fun _ _=>rfl)) (eE cU (pv 1) aL (fun _ _=>rfl))) (aV fJ (eE cU (pv 1) aL (fun _ _=>rfl)) (eE cU (pv 0) aL (fun _ _=>rfl))) (bD _)))),?_⟩;exact⟨_,rfl,p,_,_,_,rfl,rfl,hp,rfl,_,rfl,q,_,_,_,rfl,rfl,hq,rfl,_,_,rfl,rfl,jP z.a z.d (by decide),_,rfl,q,_,_,_,rfl,rfl,hq,rfl,_,rfl,p,_,_,_,rfl,rfl,hp,rfl,_,_,rfl,rfl,jP z.c z.b (by decide),_,_,rfl,rfl,k⟩
theorem J9(F:dJ K "lesser" "lesser" (top 13) f fd)(aD8:Cl P w K mg base n "below" (HY K)):aN P w K mg base bT (n+1) f fd ["one","other"] (Up K):=by
 refine F.go zX fun cdv A outer s H vs Q E hr h=>?_;obtain⟨p,q,a,b,c,d,rfl,hp,hq,z,k1,k2⟩:=h;have nd:=zX.nd;refine⟨_,(aJ (aW (FZ (bQ (aF aD8 hr (aA (pv 1) (aA (pv 0) aC)))) (pv 1) (pv 0)))),?_⟩;refine⟨_,rfl,_,rfl,q,p,c,d,a,b,rfl,hq,hp,⟨z.c,z.d,z.a,z.b⟩,_,rfl,?_⟩
 by_cases cc:c*b<a*d
 ·refine nQ (decide_eq_true cc) ?_;exact⟨_,rfl,k1 cc⟩
 ·refine iW (decide_eq_false cc) ?_;exact⟨_,rfl,k2 cc⟩
theorem JH{c:Addr}(F:dJ K "rising" "rising" (top 17) f fd)(hc:fd.code=.ref c)(hC:PySem.W.CodeHd base c Pt)(hB:base.BuiltinsAt mg Pt)(D_:mg "sorted" = none)(aB8:mg "max" = none):aN P w K mg base bT (n+1) f fd ["worths"] (Kg K Pt eU):=by
 refine F.okc hc zQ (fun vs H Q E h=>?_) (fun A outer s H vs Q E hr h=>?_)
 ·obtain⟨a,rs,rfl,_⟩:=h
  rfl
 obtain⟨a,rs,rfl,hS,hne,h64,hrs,nd0,hT,q⟩:=h;have nd:=zQ.nd;refine⟨_,(aG (d7 1 (aQ (zP rfl) rfl aB8 GD (aA (gY ["worth"] (dU (pv 0)) (fun _ _ _ _=>⟨(jG 0),cG,(eE (wJ (K:=K) rfl) (pv 0) aL (fun _ _=>rfl))⟩)) aC))) (aG (d7 2 (aV fJ (pv 1) (pv 1))) (aJ (aW (O5 (p:="worth") (M:=["worths","most","scale"]) hr rfl rfl D_ rfl hC hB (gQ.of (by rfl)) (NL.of (by rfl)) rfl rfl rfl (pv 0) (fun _ _ _ _ _=>(aV jL (aV fJ (eE (wJ (K:=K) rfl) (pv 0) aL (fun _ _=>rfl)) (pv 3)) (eE (wJ (K:=K) rfl) (pv 0) aL (fun _ _=>rfl))))))))),?_⟩;have hlr:=rG rs;refine⟨_,rfl,a,rfl,⟨_,hS⟩,fun D hD=>?_⟩;refine dF (xs:=nJ rs) (fun i τ H'=>∃v0,τ = [v0,some (.ref a),none,none]/\aP H H'/\H' D=some (.lst ((rs.take i).map fun r=>V.int r.b))) ⟨none,rfl,aD hD _,aB⟩ ?keep ?turn ?done
 case keep =>
  rintro i τ H' hi ⟨v0,rfl,hs,_⟩;exact hs.seq hS
 case turn =>
  rintro i m v τ H' hm hi hv ⟨v0,rfl,hs,hD'⟩;obtain⟨x,hx,rfl⟩:=Dj hv;have hr2:=hs _ _ (hrs x (aFY hx)).1;unfold kY;refine eG ?_;refine⟨_,rfl,x.q,_,_,_,rfl,rfl,dN.of hr2,rfl,?_⟩;refine bG hm hi hD' (by rw[aFJ];exact aU (aFN (aGT _ _) (by omega))) ⟨_,rfl,hs.upd_new hD _,?_⟩;rw[aB,take_snoc hx,aFQ]
  rfl
 case done =>
 rintro τ H1 ⟨v0,rfl,s1,hD1⟩;rw[hlr,aF5]at hD1;refine⟨D,rs.map Rs.b,rfl,bV.of (by rw[hD1,aGr];rfl),fun e=>hne (aGS.mp e),fun mx hmx hmax=>?_⟩;obtain⟨r0,hr0,rfl⟩:=aFT.mp hmx;have z0:=(hrs r0 hr0).2.2.2;refine⟨_,rfl,_,rfl,_,_,rfl,rfl,jP z0 z0 (by decide),?_⟩;have zz:intBits (r0.b*r0.b)<=8000:=PySem.intBits_mul_le z0 z0;refine⟨_,rfl,a,rs.map Rs.q,rs.map (Mf r0.b),rfl,by rw[<-QW];exact s1.seq hS,by rw[aFJ,aFJ],by rw[aFJ];exact h64,hT.same s1,fun H2 c' st hit=>⟨fun i qa kk eq ek=>?_,fun D2 ps hD2 hp hs=>?_⟩⟩
 ·rw[aF9]at eq ek;cases er:rs[i]? with
  |none=>rw[er]at eq;cases eq
  |some r =>
   rw[er]at eq ek;cases eq;cases ek;obtain⟨ra,rf,rt,rb⟩:=hrs r (aFY er);have ra2:H2 r.q=some (.tup [.int r.t,.int r.b]):=st.get (hT.same s1) (s1 _ _ ra) fun _ z=>nomatch z
   exact⟨_,rfl,r.q,_,_,_,rfl,rfl,(dN.of ra2),rfl,_,rfl,_,_,rfl,rfl,jP rt zz (by decide),_,rfl,r.q,_,_,_,rfl,rfl,(dN.of ra2),rfl,_,_,rfl,rfl,⟨aGv rf.pos,aFN rb (by decide)⟩,rfl,rfl⟩
 ·obtain⟨rs',pm,e,so⟩:=Px hp hs nd0 (fun r hr=>(hrs r hr).2.1) (fun r hr=>hmax _ (aFT.mpr ⟨r,hr,rfl⟩));rw[e];have tb2:cA Pt eU gU H2:=.inr ⟨c',hit⟩;exact q D2 _ rs' (((s1.toT).trans st).trans (aP.toT (aD hD2 _))) (tb2.same (aD hD2 _)) aB pm so
end
end K86
namespace L2
open PySem PySem.Spec PyProof.Rows
theorem bR{X:Cx}{K:PySem.W.Frag}(h:X.K=K):fY X (.type "tuple") (fun xs H Q=>∃p ys,xs=[.ref p]/\((bV K H p ys/\∀l,H l=none->Q (.ref l) (bH H l (.tup ys)))∨(dN K H p ys/\Q (.ref p) H))):=by subst h;exact yV
structure QE (X:Cx)(e:Expr)(t:TE):Prop where
 h:PE X e t
structure QT (X:Cx)(e:Expr)(t:TT):Prop where
 h:PT X e t
structure QA (X:Cx)(es:List Expr)(t:TA):Prop where
 h:PA X es t
structure QS (X:Cx)(st:Stmt)(t:TS):Prop where
 h:PS X st t
structure U8 (X:Cx)(st:List Stmt)(t:TS):Prop where
 h:yC X st t
section
variable{X:Cx}{pos pos' p p2:Pos}{e a b:Expr}{es:List Expr}{te ta tb:TE}{t:TA}{x:Str}{st:Stmt}{rest:List Stmt}{ts us:TS}
theorem qv(i:Nat){x:Str}{pos:Pos}(hN:X.N[i]? = some x:=by rfl)(hv:Zq X.env.scope x:=by first |exact Or.inl rfl |exact Or.inr (Or.inl rfl) |exact Or.inr (Or.inr rfl))(hd:(x==("__debug__" : Str))=false:=by decide)
  (hcd:(x==("__classdict__" : Str))=false:=by decide):QE X (.Name x pos) (vV i):=⟨Lr hN hv hd hcd⟩
variable{j:Nat}
theorem bZ{i:Int}:QE X (.Constant (.int i) j pos) (tC (.int i)):=⟨aL⟩
theorem pD{c:Bool}:QE X (.Constant (.bool c) j pos) (tC (.bl c)):=⟨mR⟩
theorem bI{y:Str}:QE X (.Constant (.str y) j pos) (tC (.str y)):=⟨cI⟩
theorem bY{op:Operator}{r:R2}(ho:pU X (binaryOp op) r)(ha:QE X a ta)(hb:QE X b tb):QE X (.BinOp a op b pos) (Ju r ta tb):=⟨aV ho ha.h hb.h⟩
theorem mH{r:R2}(hr:XH X r)(ha:QE X a ta)(hb:QE X b tb)(hs:Hr b):QE X (.Subscript a b pos) (Ju r ta tb):=⟨eE hr ha.h hb.h hs⟩
theorem Kh(h:QA X es t):QE X (.List es pos) (Yq t):=⟨m9 h.h⟩
theorem pF{k:Nat}(h:QA X es t):QE X (.Tuple es k pos) (VG t):=⟨fH h.h⟩
theorem bW:QA X [] nC:=⟨aC⟩
theorem aY(ha:QE X e te)(hr:QA X es t)(hs:starEach (e::es) X.env=(false,eval e X.env)::starEach es X.env:=by rfl):QA X (e::es) (oG te t):=⟨aA ha.h hr.h hs⟩
theorem fU{T:String}{r:List V->Hp->VK->Prop}(hc:fY X (.type T) r)(hg:Gl X x)(hm:X.mg x=none)(hv:bootBuiltins x=some (.type T))(ha:QA X (e::es) t)(hn:x≠"__name__":=by decide)(hdb:(x==("__debug__" : Str))=false:=by decide)
  (he:starEach (e::es) X.env=(false,eval e X.env)::starEach es X.env:=by rfl) (hpl:(backTo pos (starEach es X.env)).any (·.1)=false:=by rfl):QE X (.Call (.Name x p) (e::es) [] pos) (YF r t):=⟨dD hc hg hm hv ha.h hn hdb he hpl⟩
theorem rD{id:String}{r:List V->Hp->VK->Prop}(hc:fY X (.builtin id) r)(hg:Gl X x)(hm:X.mg x=none)(hv:bootBuiltins x=some (.builtin id))(ha:QA X (e::es) t)(hn:x≠"__name__":=by decide)(hdb:(x==("__debug__" : Str))=false:=by decide)
  (he:starEach (e::es) X.env=(false,eval e X.env)::starEach es X.env:=by rfl) (hpl:(backTo pos (starEach es X.env)).any (·.1)=false:=by rfl):QE X (.Call (.Name x p) (e::es) [] pos) (YF r t):=⟨aQ hc hg hm hv ha.h hn hdb he hpl⟩
theorem jD{op:CmpOp}{r:R2}(ho:pU X (compareOp op) r)(ha:QE X a ta)(hb:QE X b tb)(hm:behindInMarks op b=false):QT X (.Compare a [op] [b] pos) (NP (Ju r ta tb)):=⟨bJ ho ha.h hb.h hm⟩
theorem dY{i:Nat}(hN:X.N.Nodup)(hi:X.N[i]? = some x)(hx:Loc X.env.scope x)(he:QE X e te)(hs:swapsWith e (some (.Name x pos')) pos.line X.env=pure false:=by rfl)(hf:X.fn x=true∨X.env.scope.names.lookup x=some .local:=by first |exact .inl rfl |exact .inr rfl |assumption) :
  QS X (.Assign [.Name x pos'] e pos) (La te (kY i)):=⟨Li hN hi hx he.h hs hf⟩
theorem gG{c:Expr}{l m:List Stmt}{tc:TT}(hc:QT X c tc)(ha:U8 X l ts)(hb:U8 X m us):QS X (.If c l m pos) (Z9 tc ts us):=⟨dI hc.h ha.h hb.h⟩
theorem bN(he:QE X e te):QS X (.Return (some e) pos) (K7 te):=⟨aW he.h⟩
theorem cN:U8 X [] Qp:=⟨bM⟩
theorem bF(h1:QS X st ts):U8 X [st] ts:=⟨aJ h1.h⟩
theorem aO(h1:QS X st ts)(h2:U8 X rest us):U8 X (st::rest) (Xd ts us):=⟨aG h1.h h2.h⟩
end
section
variable{X:Cx}{CX:Av}{k n:Nat}{f C:Addr}{fd:FuncData}{ps:List Str}{sp:Sp}{dvs:List V}{ds:List Value}{E:XK}{x m name:Str}{p pos apos cpos:Pos}{a b e o:Expr}{es rest:List Expr}{ta tb te to:TE}{t:TA}{tA tB':TT}{T id:String}{r:V->List V->Hp->VK->Prop}
theorem U7(pa:PlainAttrs T)(slot:Slot T name id)(hty:typeOf (.builtin id)=pure (.type "method_descriptor"))(hm:Ze X id r)(ho:QE X o to)
  (hbase:attributeBase o name X.env (eval o X.env)=eval o X.env:=by rfl) (hline:(apos.endLine==cpos.line)=true:=by rfl):QE X (.Call (.Attribute o name apos) [] [] cpos) (YX X.K T r to):=⟨VL pa slot hty hm ho.h hbase hline⟩
theorem Wu(ha:QT X a tA):QT X (.UnaryOp .Not a pos) (Xi tA):=⟨cF ha.h⟩
theorem uE(h:QE X e te)(he:∀whole,isTrue e X.env whole=(do let v <-whole;standAt e.pos;holding [v] (truthy v)):=by intro _;rfl):QT X e (tB te):=⟨bQ h.h he⟩
theorem Bu{op:CmpOp}{r:R2}(ho:pU X (compareOp op) r)(ha:QE X a ta)(hb:QE X b tb)(hm:behindInMarks op b=false):QE X (.Compare a [op] [b] pos) (Ju r ta tb):=⟨pM ho ha.h hb.h hm⟩
theorem Fl(ha:QE X a ta)(hb:QE X (.BoolOp .And (b::rest) pos) tb):QE X (.BoolOp .And (a::b::rest) pos) (Qz ta tb):=⟨xC ha.h hb.h⟩
theorem Gb{op}(h:QE X a te):QE X (.BoolOp op [a] pos) te:=⟨w5 h.h⟩
theorem Pa(he:QE X e te)(hs:swapsWith e none pos.line X.env=pure false:=by rfl):QS X (.Expr e pos) (RD te):=⟨cZ he.h hs⟩
end
end L2
namespace K86
open PySem L2 TD TP
open Builtin.Int (intBits)
section
variable{P:Program}{w:World}{K:PySem.W.Frag}{mg:Str->Option Value}{base:Heap}
variable{n:Nat}{f C:Addr}{fd:FuncData}
theorem DK(F:dJ K "told" "Few.told" (inClass (top 39) 2) f fd)(cf:rZ K C)(aCA:PySem.W.findIn K (.ref C) "limit" = some none):aN P w K mg base bT (n+1) f fd ["self"] (wG C):=by
 refine F.go vA fun cdv A outer s H vs Q E hr h=>?_;obtain⟨x,c,rfl,hF,q⟩:=h;have nd:=vA.nd;refine⟨_,(aJ (aW (fH (aA cI (aA (cH (pv 0) rfl) aC))))),?_⟩;obtain⟨dx,hx⟩:=hF;exact⟨_,rfl,x,C,dx,_,_,rfl,hx,cf,aCA,rfl,uI,fun r hr=>q r _ (aD hr _) aB⟩
theorem xP(F:dJ K "told" "Groups.told" (inClass (top 40) 2) f fd)(cf:rZ K C)(aCj:PySem.W.findIn K (.ref C) "groups" = some none)(aC0:PySem.W.findIn K (.ref C) "most" = some none):aN P w K mg base bT (n+1) f fd ["self"] (wC C):=by
 refine F.go oU fun cdv A outer s H vs Q E hr h=>?_;obtain⟨x,gs,ms,rfl,hF,q⟩:=h;have nd:=oU.nd;refine⟨_,(aJ (aW (fH (aA cI (aA (cH (pv 0) rfl) (aA (cH (pv 0) rfl) aC)))))),?_⟩;obtain⟨dx,g,m,hx,hg,hm⟩:=hF;exact⟨_,rfl,x,C,dx,_,_,rfl,hx,cf,aCj,rfl,_,rfl,x,C,dx,_,_,rfl,hx,cf,aC0,rfl,Pk,fun r hr=>q r _ (aD hr _) ⟨g,m,aB,aD hr _ _ _ hg,aD hr _ _ _ hm⟩⟩
theorem xR(F:dJ K "told" "Listed.told" (inClass (top 41) 2) f fd)(cf:rZ K C)(aC1:PySem.W.findIn K (.ref C) "sets" = some none):aN P w K mg base bT (n+1) f fd ["self"] (wI C):=by
 refine F.go oV fun cdv A outer s H vs Q E hr h=>?_;obtain⟨x,ks,rfl,hF,q⟩:=h;have nd:=oV.nd;refine⟨_,(aJ (aW (fH (aA cI (aA (cH (pv 0) rfl) aC))))),?_⟩;obtain⟨dx,t,hx,ht⟩:=hF;exact⟨_,rfl,x,C,dx,_,_,rfl,hx,cf,aC1,rfl,uI,fun r hr=>q r _ (aD hr _) ⟨t,aB,aD hr _ _ _ ht⟩⟩
end
end K86
namespace K86
open PySem L2 TD
open Builtin.Int (intBits)
section
variable{P:Program}{w:World}{K:PySem.W.Frag}{mg:Str->Option Value}{base:Heap}{Pt:Addr}
theorem R0{H:Hp}:∀{kvs:List (List Key×V)}{qs:List Addr},qs.length=kvs.length->(∀kv∈kvs,∃t b:Int,kv.1=[.inl t,.inl b])->(∀(i:Nat) k v,kvs[i]? = some (k,v)->∃q,qs[i]? = some q/\H q=some (.tup (k.map kV))) ->
  ∃rs:List Rs,nJ rs=qs.map V.ref/\rs.map lX=kvs.map (·.1)/\∀r∈rs,Vq H r
 | [],[],_,_,_=>⟨[],rfl,rfl,fun _ h=>nomatch h⟩
 | [],_::_,h,_,_=>by simp at h
 |_::_,[],h,_,_=>by simp at h
 |kv::kvs,q::qs,hl,hk,hq=>by
  obtain⟨rs,e1,e2,e3⟩:=R0 (kvs:=kvs) (qs:=qs) (by simpa using hl) (fun x hx=>hk x (aFK _ hx)) fun i k v e=>by
   obtain⟨z,z1,z2⟩:=hq (i+1) k v (by simpa using e);exact⟨z,by simpa using z1,z2⟩
  obtain⟨t,b,ek⟩:=hk kv aFL;obtain⟨z,z1,z2⟩:=hq 0 kv.1 kv.2 rfl;have z1:q=z:=by simpa using z1
  subst z1;refine⟨⟨q,t,b⟩::rs,?_,?_,fun r hr=>?_⟩
  ·show V.ref q::nJ rs=V.ref q::qs.map V.ref;rw[e1]
  ·show lX ⟨q,t,b⟩::rs.map lX=kv.1::kvs.map (·.1);rw[e2,ek]
   rfl
  ·rcases aGi.mp hr with e |e
   ·subst e;rw[ek]at z2;exact z2
   ·exact e3 r e
theorem Ea{xs:List Row}{kvs:List (List Key×V)}(pb:PB xs)(d:Dk (eF xs) kvs){r:Rs}(h:lX r∈kvs.map (·.1)):Tb.wH (eF xs) r.t r.b/\Fr.mY r.t r.b/\intBits r.t<=4000/\intBits r.b<=4000:=by
 obtain⟨kv,hkv,e⟩:=aFT.mp h;obtain⟨t,b,e2,hh⟩:=d.en kv hkv;rw[e2]at e;obtain⟨e3,e4⟩:=wD.mp e.symm;rw[e3,e4];refine⟨hh,?_⟩;obtain⟨p,hp,e5,e6⟩:=hh;obtain⟨x,hx,rfl⟩:=aFT.mp hp;have g:=pb x hx;have e5:x.t=t:=e5;have e6:x.b=b:=e6;rw[<-e5,<-e6];exact⟨g.1,g.2.1,g.2.2.1⟩
variable{n:Nat}{f:Addr}{fd:FuncData}
theorem Gi(F:dJ K "in_form" "in_form" (top 18) f fd)(aDE:Cl P w K mg base n "rising" (Kg K Pt eU))(t_:Cl P w K mg base n "common_divisor" Qc)(o_:mg "list" = none):aN P w K mg base bT (n+1) f fd ["rows"] (Cj Pt eU):=by
 refine F.go xH fun cdv A outer s H vs Q E hr h=>?_;obtain⟨a,xs,rfl,hT,xne,xlen,pb,hTb,q⟩:=h;have nd:=xH.nd;have hu:=Yg hr;refine⟨_,(aG (d7 1 Mu) (aG (jQ PassesOwn.never rfl (dU (pv 0)) (Ck rfl (bO (jG 2) (bO (jG 3) gK))) (aJ (Pj hu (pv 1) (pv 2) (aV dM (Mj hu (pv 1) (pv 2) aL ⟨rfl,rfl,rfl,rfl⟩) (pv 3)) rfl))) (aG (d7 4 aL) (aG (jQ PassesOwn.never rfl (Ou (pv 1)) (jG 2) (aJ (d7 4 (aF t_ hr (aA (pv 4) (aA (HW hu (pv 1) (pv 2) (fun _ _=>rfl)) aC)))))) (aJ (aW (vZ (ls:=["worth"]) (M:=["rows","weights","worth#","weight","divisor"]) rfl (gQ.of (by rfl)) (NL.of (by rfl)) (dU (aF aDE hr (aA (dD (Gu rfl) rfl o_ mV (aA (pv 1) aC)) aC))) (fun _ _ _ _=>⟨(jG 0),cG,(fH (aA (pv 0) (aA (aV jL (HW hu (pv 2) (pv 0) (fun _ _=>rfl)) (pv 5)) aC)))⟩)))))))),?_⟩;have hlr:=refs_length xs;intro Dd hDd;have n0:=aD hDd (.dT []);refine⟨_,rfl,a,rfl,⟨_,bV.of (hT.same n0).lst⟩,?_⟩;refine sY (xs:=refs xs) (fun i σ H'=>∃kvs v2 v3,σ = [some (.ref a),some (.ref Dd),v2,v3,none]/\aP H H'/\H' Dd=some (.dT kvs)/\Dk (eF (xs.take i)) kvs/\kvs.length<=i) ⟨[],none,none,rfl,n0,aB,Dk.nil,aFV _⟩ ?keep ?turn ?done
 case keep =>
  rintro i σ H' hi ⟨kvs,v2,v3,rfl,hs,_⟩;exact bV.of (hT.same hs).lst
 case turn =>
  rintro i v σ H' hv ⟨kvs,v2,v3,rfl,hs,hd,dk,kl⟩;obtain⟨x,hx,rfl⟩:=pN hv;have hmem:=aFY hx;have hi:=(aFU.mp hx).1;have hr:=(hT.same hs).rows x hmem;have hq:H' x.q=some (.tup (([.inl x.t,.inl x.b]:List Key).map kV)):=hr.2;refine⟨x.p,_,rfl,dN.of hr.1,rfl,_,_,rfl,_,_,rfl,rfl,?_⟩;refine⟨_,rfl,Dd,rfl,.inr ⟨_,.inl hd⟩,_,rfl,_,En.t hd hq,_,rfl,Tb.Wt (eF (xs.take i)) x.t x.b,x.w,dk.get x.t x.b,rfl,?_⟩;refine⟨_,rfl,_,rfl,Dd,_,rfl,Mw.t hd hq (aU (by omega)),?_⟩;refine⟨_,_,_,rfl,hs.upd_new hDd _,aB,?_,?_⟩
  ·rw[take_snoc hx,mQ];exact dk.put x.r
  ·have:=pH kvs [.inl x.t,.inl x.b] (.int (Tb.Wt (eF (xs.take i)) x.t x.b+x.w));exact aFN this (by omega)
 case done =>
 rintro σ H1 ⟨kvs,v2,v3,rfl,s1,hd1,dk,kl⟩;rw[hlr,aF5]at dk;rw[hlr]at kl;obtain⟨hw1,hf1⟩:=pb.ps;have pne:eF xs≠[]:=fun e=>xne (aGS.mp e);have plen:(eF xs).length<=1000:=by rw[gA];omega
 have dpos:=dk.div_pos pne hw1;have dbits:=MJ dk pne (fun p hp=>by obtain⟨x,hx,rfl⟩:=aFT.mp hp;exact⟨(pb x hx).2.2.2.1,(pb x hx).2.2.2.2⟩) plen;refine⟨_,rfl,Dd,kvs,rfl,.inl ⟨hd1,fun o=>?_⟩⟩;have s2:aP H (bH H1 Dd (.frz o (.dT kvs))):=s1.upd_new hDd _;have hfz:bH H1 Dd (.frz o (.dT kvs)) Dd=some (.frz o (.dT kvs)):=aB;generalize bH H1 Dd (.frz o (.dT kvs))=H2 at s2 hfz ⊢;refine K3 (fun i σ H'=>∃d v2,σ = [some (.ref a),some (.ref Dd),v2,v3,some (.int d)]/\H'=H2/\d=Tb.xD ((kvs.take i).map wOf)) ⟨0,_,rfl,rfl,rfl⟩ (fun i σ H' _ ⟨_,_,_,e,_⟩=>by rw[e];exact hfz) ?turn3 ?done3
 case turn3 =>
  rintro i k v kq σ H' hk hkt ⟨d,v2,rfl,rfl,ed⟩;obtain⟨t,b,ekv,hh⟩:=dk.en _ (aFY hk);injection ekv with ek1 ek2
  subst ek1 ek2;refine⟨_,rfl,_,rfl,_,rfl,Dd,.int (Tb.Wt (eF xs) t b),rfl,.inr ⟨kvs,[.inl t,.inl b],kq,.inr ⟨o,hfz⟩,rfl,hkt,(dk.val hh).symm⟩,d,Tb.Wt (eF xs) t b,rfl,?_⟩;refine⟨_,_,rfl,rfl,?_⟩;rw[take_snoc hk,aFQ,ed];exact(Tb.J1 _ _).symm
 case done3 =>
 rintro σ H3 ⟨d,v2,rfl,rfl,ed⟩;rw[aF5]at ed;have ed:d=jV kvs:=ed;subst ed;have kb:∀kv∈kvs,∃t b:Int,kv.1=[.inl t,.inl b]:=fun kv hkv=>by
  obtain⟨t,b,e,_⟩:=dk.en kv hkv;exact⟨t,b,by rw[e]⟩
 refine⟨_,rfl,Dd,kvs,rfl,.inr ⟨o,hfz⟩,fun l qs hl hql hqs=>?_⟩;obtain⟨rs0,er1,er2,er3⟩:=R0 hql kb hqs;have n3:=aD hl (.lst (qs.map V.ref));have s3:=s2.trans n3;have rl0:rs0.length=kvs.length:=by simpa using congrArg aG1 er2
 have kin0:∀r∈rs0,lX r∈kvs.map (·.1):=fun r hr=>by rw[<-er2];exact aFT.mpr ⟨r,hr,rfl⟩
 refine⟨l,rs0,rfl,bV.of (by rw[er1];exact aB),?_,by omega,fun r hr=>⟨n3 _ _ (er3 r hr),(Ea pb dk (kin0 r hr)).2⟩,by rw[er2];exact dk.nd,hTb.same s3,fun R H4 rs st4 tb4 hR pm so=>?_⟩
 ·rintro rfl;exact dk.ne pne (aHw.mp rl0.symm)
 have tb3:=hTb.same s3;have hfz4:H4 Dd=some (.frz o (.dT kvs)):=st4.get tb3 (n3 _ _ hfz) fun _ z=>nomatch z
 have pmk:(rs.map lX).Perm (kvs.map (·.1)):=by rw[<-er2];exact pm.map lX
 have kin:∀r∈rs,lX r∈kvs.map (·.1):=fun r hr=>pmk.mem_iff.mp (aFT.mpr ⟨r,hr,rfl⟩);have rat:∀r∈rs,Vq H4 r:=fun r hr=>st4.get tb3 (n3 _ _ (er3 r (pm.mem_iff.mp hr))) fun _ z=>nomatch z
 have rlen:rs.length=kvs.length:=by rw[pm.length_eq,rl0]
 have sT:cW Pt H H4:=(s3.toT).trans st4;refine⟨R,rfl,⟨_,bV.of hR⟩,fun D hD=>?_⟩;refine dF (xs:=nJ rs) (fun i τ H'=>∃v0 ys,τ = [v0,some (.ref a),some (.ref Dd),v2,v3,some (.int (jV kvs))]/\aP H4 H'/\TabAt H' D ys/\ys.map (fun y=>Rs.mk y.q y.t y.b)=rs.take i/\∀y∈ys,y.w=(Tb.Wt (eF xs) y.t y.b).fdiv (jV kvs)) ⟨none,[],rfl,aD hD _,⟨aB,fun _ h=>nomatch h⟩,rfl,(fun _ h=>nomatch h)⟩ ?keep4 ?turn4 ?done4
 case keep4 =>
  rintro i τ H' hi ⟨v0,ys,rfl,hs,_⟩;exact bV.of (hs _ _ hR)
 case turn4 =>
  rintro i m v τ H' hm hi hv ⟨v0,ys,rfl,hs,hY,ey,yw⟩;obtain⟨r,hr,rfl⟩:=Dj hv;have hmem:=aFY hr;have hh:=(Ea pb dk (kin r hmem)).1;have rq:H' r.q=some (.tup [.int r.t,.int r.b]):=hs _ _ (rat r hmem);have ylen:ys.length<=1000:=by
   have h:=congrArg aG1 ey;rw[aFJ,aGh]at h;omega
  unfold kY;refine eG ?_;refine⟨_,rfl,_,rfl,_,rfl,Dd,.int (Tb.Wt (eF xs) r.t r.b),rfl,.inr ⟨kvs,[.inl r.t,.inl r.b],r.q,.inr ⟨o,hs _ _ hfz4⟩,rfl,rq,(dk.val hh).symm⟩,_,rfl,_,_,rfl,rfl,⟨aGv dpos,dbits⟩,uI,fun p hp=>?_⟩;have n1:=aD hp (.tup [.ref r.q,.int ((Tb.Wt (eF xs) r.t r.b).fdiv (jV kvs))]);have hY1:=hY.same n1;refine bG hm hi hY1.lst (by rw[refs_length];exact aU ylen) ⟨_,ys++[⟨p,r.q,r.t,r.b,(Tb.Wt (eF xs) r.t r.b).fdiv (jV kvs)⟩],rfl,(hs.trans n1).upd_new hD _,⟨?_,?_⟩,?_,?_⟩
  ·rw[aB,pJ]
  ·intro y hy;rcases aGc.mp hy with z |z
   ·exact(hY1.rows y z).over hY1.lst
   ·rw[aF2.mp z];exact kZ.over ⟨aB,n1 _ _ rq⟩ hY1.lst
  ·rw[aFQ,ey,take_snoc hr]
   rfl
  ·intro y hy;rcases aGc.mp hy with z |z
   ·exact yw y z
   ·rw[aF2.mp z]
 case done4 =>
  rintro τ H5 ⟨v0,ys,rfl,s5,hY,ey,yw⟩;rw[rG,aF5]at ey;obtain⟨tab,wok⟩:=Vj dk hw1 hf1 pne pmk so ey yw;have yl:ys.length=rs.length:=by rw[<-ey,aFJ]
  refine q D H5 ys (sT.trans (s5.toT)) (tb4.same s5) (sT.free hD tb4.at_) hY ⟨tab,wok⟩ (by omega)
theorem xV(F:dJ K "all_weights" "all_weights" (top 19) f fd)(aCV:mg "sum" = none):aN P w K mg base bT (n+1) f fd ["table"] Wq:=by
 refine F.go pC fun cdv A outer s H vs Q E hr h=>?_;obtain⟨a,xs,rfl,hT,hl,q⟩:=h;have nd:=pC.nd;refine⟨_,(aJ (aW (aQ (Do rfl) rfl aCV KD (aA (gY ["worth","weight"] (dU (pv 0)) (fun _ _ _ _=>⟨(iV (K:=K) (n:=2) rfl rfl (bO (jG 0) (bO (jG 1) gK))),cG,(pv 1)⟩)) aC)))),?_⟩;have hlr:=refs_length xs;refine⟨_,rfl,a,rfl,⟨_,bV.of hT.lst⟩,fun D hD=>?_⟩;refine dF (xs:=refs xs) (fun i τ H'=>∃v0 v1,τ = [v0,v1,some (.ref a)]/\aP H H'/\H' D=some (.lst ((xs.take i).map fun x=>V.int x.w))) ⟨none,none,rfl,aD hD _,aB⟩ ?keep ?turn ?done
 case keep =>
  rintro i τ H' hi ⟨v0,v1,rfl,hs,_⟩;exact bV.of (hT.same hs).lst
 case turn =>
  rintro i m v τ H' hm hi hv ⟨v0,v1,rfl,hs,hD'⟩;obtain⟨x,hx,rfl⟩:=pN hv;have hr:=(hT.same hs).rows x (aFY hx);refine⟨x.p,_,rfl,dN.of hr.1,rfl,_,_,rfl,_,_,rfl,rfl,?_⟩;refine eG ?_;refine⟨_,rfl,?_⟩;refine bG hm hi hD' (by rw[aFJ];exact aU (aFN (aGT _ _) (by omega))) ⟨_,_,rfl,hs.upd_new hD _,?_⟩;rw[aB,take_snoc hx,aFQ]
  rfl
 case done =>
  rintro τ H' ⟨v0,v1,rfl,hs,hD'⟩;rw[hlr,aF5]at hD';refine⟨D,xs.map Row.w,rfl,bV.of (by rw[hD',aGr];rfl),?_⟩;exact q H' hs
theorem Gp(F:dJ K "capped" "capped" (top 20) f fd)(aAg:Cl P w K mg base n "in_form" (Cj Pt eU))(aCB:Cl P w K mg base n "lesser" (Up K)):aN P w K mg base bT (n+1) f fd ["table","level"] (Rq Pt eU):=by
 refine F.go zM fun cdv A outer s H vs Q E hr h=>?_;obtain⟨a,l,xs,x0,rfl,hT,ne,Zz,pb,hl,fl,lt,lb1,hTb,q⟩:=h;have nd:=zM.nd;refine⟨_,(aJ (aW (aF aAg hr (aA (gY ["worth","weight"] (dU (pv 0)) (fun _ _ _ _=>⟨(iV (K:=K) (n:=2) rfl rfl (bO (jG 0) (bO (jG 1) gK))),cG,(fH (aA (aF aCB hr (aA (pv 0) (aA (pv 3) aC))) (aA (pv 1) aC)))⟩)) aC)))),?_⟩;obtain⟨l0,l1⟩:=x0;have hl:H l=some (.tup [.int l0,.int l1]):=hl;have lb:intBits l1<=4000/\intBits l0<=4000:=⟨lb1,lt⟩
 have hlr:=refs_length xs;have glen:=Zz;have ylen:∀{i:Nat}{ys:List Row},eF ys=(eF (xs.take i)).map (Tb.jZ l0 l1)->ys.length<=12:=fun{i ys} e=>by
  have h1:=congrArg aG1 e;rw[gA,aFJ,gA,aGh]at h1;omega
 refine⟨_,rfl,a,rfl,⟨_,bV.of hT.lst⟩,fun D hD=>?_⟩;refine dF (xs:=refs xs) (fun i τ H'=>∃v0 v1 ys,τ = [v0,v1,some (.ref a),some (.ref l)]/\aP H H'/\TabAt H' D ys/\eF ys=(eF (xs.take i)).map (Tb.jZ l0 l1)) ⟨none,none,[],rfl,aD hD _,⟨aB,fun _ h=>nomatch h⟩,rfl⟩ ?keep ?turn ?done
 case keep =>
  rintro i τ H' hi ⟨v0,v1,ys,rfl,hs,_⟩;exact bV.of (hT.same hs).lst
 case turn =>
  rintro i m v τ H' hm hi hv ⟨v0,v1,ys,rfl,hs,hY,ey⟩;obtain⟨x,hx,rfl⟩:=pN hv;have hmem:=aFY hx;have hr:=(hT.same hs).rows x hmem;have xz:intBits x.b<=4000/\intBits x.t<=4000:=⟨(pb x hmem).2.2.1,(pb x hmem).2.1⟩
  have yl:=ylen ey;refine⟨x.p,_,rfl,dN.of hr.1,rfl,_,_,rfl,_,_,rfl,rfl,?_⟩;refine eG ?_;refine⟨_,rfl,_,rfl,x.q,l,x.t,x.b,l0,l1,rfl,dN.of hr.2,dN.of (hs _ _ hl),⟨by omega,by omega,by omega,by omega⟩,fun c=>?_,fun c=>?_⟩
  ·
   refine⟨_,rfl,uI,fun p hp=>?_⟩;have n1:=aD hp (.tup [.ref l,.int x.w]);have hY1:=hY.same n1;refine bG hm hi hY1.lst (by rw[refs_length];exact aU (by omega)) ⟨_,_,ys++[⟨p,l,l0,l1,x.w⟩],rfl,(hs.trans n1).upd_new hD _,⟨?_,?_⟩,?_⟩
   ·rw[aB,pJ]
   ·intro y hy;rcases aGc.mp hy with z |z
    ·exact(hY1.rows y z).over hY1.lst
    ·rw[aF2.mp z];exact kZ.over ⟨aB,n1 _ _ (hs _ _ hl)⟩ hY1.lst
   ·rw[mQ,ey,take_snoc hx,mQ,aFQ];show _++[_]=_++[Tb.jZ l0 l1 x.r]
    unfold Tb.jZ;rw[if_pos (show l0*x.r.b<x.r.t*l1 from c)]
    rfl
  ·
   refine⟨_,rfl,uI,fun p hp=>?_⟩;have n1:=aD hp (.tup [.ref x.q,.int x.w]);have hY1:=hY.same n1;refine bG hm hi hY1.lst (by rw[refs_length];exact aU (by omega)) ⟨_,_,ys++[⟨p,x.q,x.t,x.b,x.w⟩],rfl,(hs.trans n1).upd_new hD _,⟨?_,?_⟩,?_⟩
   ·rw[aB,pJ]
   ·intro y hy;rcases aGc.mp hy with z |z
    ·exact(hY1.rows y z).over hY1.lst
    ·rw[aF2.mp z];exact kZ.over ⟨aB,n1 _ _ hr.2⟩ hY1.lst
   ·rw[mQ,ey,take_snoc hx,mQ,aFQ];show _++[_]=_++[Tb.jZ l0 l1 x.r]
    unfold Tb.jZ;rw[if_neg (show ¬ l0*x.r.b<x.r.t*l1 from c)]
    rfl
 case done =>
 rintro τ H1 ⟨v0,v1,ys,rfl,s1,hY,ey⟩;have yl:=ylen ey;rw[hlr,aF5]at ey;have el:ys.length=xs.length:=by
  have h1:=congrArg aG1 ey;rw[gA,aFJ,gA]at h1;exact h1
 refine⟨D,ys,rfl,hY,?_,by omega,Ox pb fl lt lb1 ey,hTb.same s1,fun r H5 zs s5 tb5 hr5 hZ o hzl=>?_⟩
 ·rintro rfl;exact ne (aHw.mp el.symm)
 ·rw[ey]at o;exact q r H5 zs ((s1.toT).trans s5) tb5 (s1.free hr5) hZ o (by omega)
theorem JK(F:dJ K "capped" "capped" (top 20) f fd)(aAg:Cl P w K mg base n "in_form" (Cj Pt eU))(aCB:Cl P w K mg base n "lesser" (Up K)):aN P w K mg base bT (n+1) f fd ["table","level"] (Mq Pt eU):=(Gp F aAg aCB).imp fun vs H Q E h=>by
 obtain⟨a,l,xs,x0,n,W,M,kk,rfl,hT,g,c,hl,f,hTb,q⟩:=h;have lb:=Hy f g.mp c.m c.k0 c.k;exact⟨a,l,xs,x0,rfl,hT,g.ne,aFN g.len c.n,g.pb c,hl,f.fr,by omega,by omega,hTb,fun r H' ys s tb hr hY o hl'=>q r H' ys s tb hr hY (Sv g f o hl') o⟩
theorem _root_.TD.GM.wz{es:List Ent}{k0:Nat}{W0 kk:Int}(g:GM es k0 W0 kk){e:Ent}(he:e∈es){y:Row}(hy:y∈e.ys):intBits y.w<=601:=by
 have ge:=g.g e he;have a:=ge.w1 y hy;have b:=oY ge.w1 hy;have c:=ge.ws;have d:=(g.c e he).w;have p1:(2:Int)^601=2*2^600:=by rw[aHl];omega
 have q1:=Sd.dC 600;exact pO (by omega) (by omega)
theorem Ni(F:dJ K "mixed" "mixed" (top 21) f fd)(aAg:Cl P w K mg base n "in_form" (Cj Pt eU))(G_:Cl P w K mg base n "all_weights" Wq)(E_:Cl P w K mg base n "common_multiple" (Ry K)):aN P w K mg base bT (n+1) f fd ["rows"] (Ng Pt eU):=by
 refine F.go Dw fun cdv A outer s H vs Q E hr h=>?_;obtain⟨a,es,k0,W0,kk,rfl,hE,g,hTb,q⟩:=h;have nd:=Dw.nd;refine⟨_,(aG (d7 1 (aF E_ hr (aA (vZ (ls:=["weight","table"]) (M:=["rows","scale","parts","weight#","table#","factor"]) rfl (gQ.of (by rfl)) (NL.of (by rfl)) (dU (pv 0)) (fun _ _ _ _=>⟨(iV (K:=K) (n:=2) rfl rfl (bO (jG 0) (bO (jG 1) gK))),cG,(aF G_ hr (aA (pv 1) aC))⟩)) aC))) (aG (d7 2 (m9 aC)) (aG (jQ PassesOwn.never rfl (dU (pv 0)) (Ck rfl (bO (jG 3) (bO (jG 4) gK))) (aG (d7 5 (aV fJ (pv 3) (aV jL (pv 1) (aF G_ hr (aA (pv 4) aC))))) (aJ (cZ (pY PySem.F.plainAttrs_list PySem.F.slot_list_extend PySem.F.type_list_extend Jg (pv 2) (aA (gY ["worth","inner"] (dU (pv 4)) (fun _ _ _ _=>⟨(iV (K:=K) (n:=2) rfl rfl (bO (jG 0) (bO (jG 1) gK))),cG,(fH (aA (pv 0) (aA (aV fJ (pv 7) (pv 1)) aC)))⟩)) aC)))))) (aJ (aW (aF aAg hr (aA (pv 2) aC))))))),?_⟩;have hlr:=rY es;have glen:=g.len;have tpos:∀n∈dB es,0<n:=fun n hn=>(g.tp n hn).1;have tb:=g.tb;obtain⟨Sp,_,Sz,Sdv⟩:=g.S;have k12:=g.k;have n12:=g.n;refine⟨_,rfl,a,rfl,⟨_,bV.of hE.lst⟩,fun D hD=>?_⟩;refine dF (xs:=rC es) (fun i τ H'=>∃v0 v1,τ = [v0,v1,some (.ref a),none,none,none,none,none]/\aP H H'/\H' D=some (.lst ((es.take i).map fun e=>V.int (wsum e.ys)))) ⟨none,none,rfl,aD hD _,aB⟩ ?keep ?turn ?done
 case keep =>
  rintro i τ H' hi ⟨v0,v1,rfl,hs,_⟩;exact bV.of (hE.same hs).lst
 case turn =>
  rintro i m v τ H' hm hi hv ⟨v0,v1,rfl,hs,hD'⟩;obtain⟨e,he,rfl⟩:=Eh hv;have hr:=(hE.same hs).ents e (aFY he);have ge:=g.g e (aFY he);refine⟨e.p,_,rfl,dN.of hr.1,rfl,_,_,rfl,_,_,rfl,rfl,?_⟩;refine eG ?_;refine⟨_,rfl,e.a,e.ys,rfl,hr.2,by have:=ge.len;omega,fun H2 s2=>?_⟩;refine bG hm hi (s2 _ _ hD') (by rw[aFJ];exact aU (aFN (aGT _ _) (by omega))) ⟨_,_,rfl,(hs.trans s2).upd_new hD _,?_⟩;rw[aB,take_snoc he,aFQ]
  rfl
 case done =>
 rintro τ H1 ⟨v0,v1,rfl,s1,hD1⟩;rw[hlr,aF5]at hD1;refine⟨D,dB es,rfl,bV.of (by rw[hD1];unfold dB;rw[aGr];rfl),tpos,fun n hn=>aFN (tb.1 n hn) (by decide),aFN tb.2 (by decide),?_⟩;refine⟨aGe _,fun Rp hRp=>?_⟩;have hRn:H Rp=none:=s1.free hRp;have s2:=s1.upd_new hRn (.lst []);refine⟨_,rfl,a,rfl,⟨_,bV.of (hE.same s2).lst⟩,?_⟩;refine sY (xs:=rC es) (fun i σ H'=>∃v3 v4 v5 xs,σ = [some (.ref a),some (.int (d8 (dB es))),some (.ref Rp),v3,v4,v5]/\aP H H'/\TabAt H' Rp xs/\eF xs=partsOf (d8 (dB es)) (es.take i)/\PB xs/\xs.length<=i*k0) ⟨none,none,none,[],rfl,s2,⟨aB,fun _ h=>nomatch h⟩,rfl,(fun _ h=>nomatch h),by rw[Nat.zero_mul];exact aFV _⟩ ?keep2 ?turn2 ?done2
 case keep2 =>
  rintro i σ H' hi ⟨v3,v4,v5,xs,rfl,hs,_⟩;exact bV.of (hE.same hs).lst
 case turn2 =>
  rintro i v σ H' hv ⟨v3,v4,v5,xs,rfl,hs,hX,ex,pb,xl⟩;obtain⟨e,he,rfl⟩:=Eh hv;have hmem:=aFY he;have hi:=(aFU.mp he).1;have hr:=(hE.same hs).ents e hmem;have ge:=g.g e hmem;have gw:=g.w e hmem;have gl:=ge.len;have gs:=ge.tot;have tz:=tb.1 _ (aFT.mpr ⟨e,hmem,rfl⟩);have wz:intBits e.w<=64:=PySem.intBits_le_64 (by omega) (by omega);have fz:intBits (tQ (d8 (dB es)) e)<=64+2405:=PySem.intBits_mul_le wz (PySem.intBits_fdiv_le Sz);refine⟨e.p,_,rfl,dN.of hr.1,rfl,_,_,rfl,_,_,rfl,rfl,?_⟩;refine⟨_,rfl,_,rfl,_,rfl,e.a,e.ys,rfl,hr.2,by omega,fun H2 s2=>?_⟩;refine⟨_,_,rfl,rfl,⟨by omega,aFN tz (by decide)⟩,_,_,rfl,rfl,jP (m:=64) (n:=2405) wz (PySem.intBits_fdiv_le Sz) (by decide),?_⟩;have hs2:=hs.trans s2;have hr2:=hr.2.same s2;refine⟨_,rfl,.inl ⟨rfl,_,bV.of (hX.same s2).lst⟩,_,rfl,e.a,rfl,⟨_,bV.of hr2.lst⟩,fun D2 hD2=>?_⟩;refine dF (xs:=refs e.ys) (fun j τ H''=>∃v0 v1 zs,τ = [v0,v1,some (.ref a),some (.int (d8 (dB es))),some (.ref Rp),some (.int e.w),some (.ref e.a),some (.int (tQ (d8 (dB es)) e))]/\aP H2 H''/\TabAt H'' D2 zs/\eF zs=(e.ys.take j).map (fun y=>⟨y.t,y.b,tQ (d8 (dB es)) e*y.w⟩)) ⟨none,none,[],rfl,aD hD2 _,⟨aB,fun _ h=>nomatch h⟩,rfl⟩ ?keep3 ?turn3 ?done3
  case keep3 =>
   rintro j τ H'' hj ⟨v0,v1,zs,rfl,hs3,_⟩;exact bV.of (hr2.same hs3).lst
  case turn3 =>
   rintro j m v τ H'' hm hj hv ⟨v0,v1,zs,rfl,hs3,hZ,ez⟩;obtain⟨y,hy,rfl⟩:=pN hv;have hym:=aFY hy;have ry:=(hr2.same hs3).rows y hym;have yz:=g.wz hmem hym;have zl:zs.length<=12:=by
    have h:=congrArg aG1 ez;rw[gA,aFJ,aGh]at h;omega
   refine⟨y.p,_,rfl,dN.of ry.1,rfl,_,_,rfl,_,_,rfl,rfl,?_⟩;refine eG ?_;refine⟨_,rfl,_,rfl,_,rfl,_,_,rfl,rfl,jP fz yz (by decide),uI,fun p hp=>?_⟩;have n1:=aD hp (.tup [.ref y.q,.int (tQ (d8 (dB es)) e*y.w)]);have hZ1:=hZ.same n1;refine bG hm hj hZ1.lst (by rw[refs_length];exact aU (by omega)) ⟨_,_,zs++[⟨p,y.q,y.t,y.b,tQ (d8 (dB es)) e*y.w⟩],rfl,(hs3.trans n1).upd_new hD2 _,⟨?_,?_⟩,?_⟩
   ·rw[aB,pJ]
   ·intro z hz;rcases aGc.mp hz with q1 |q1
    ·exact(hZ1.rows z q1).over hZ1.lst
    ·rw[aF2.mp q1];exact kZ.over ⟨aB,n1 _ _ ry.2⟩ hZ1.lst
   ·rw[mQ,ez,take_snoc hy,aFQ]
    rfl
  case done3 =>
   rintro τ H3 ⟨v0,v1,zs,rfl,s3,hZ,ez⟩;rw[refs_length,aF5]at ez;have zl:zs.length=e.ys.length:=by
    have h:=congrArg aG1 ez;rw[gA,aFJ]at h;exact h
   have hX3:=hX.same (s2.trans s3);have il:i*k0<=es.length*k0:=aGM _ (by omega);refine⟨Rp,D2,refs xs,refs zs,rfl,rfl,hX3.lst,hZ.lst,by rw[refs_length,refs_length];exact aGt (aU (by omega)),?_⟩;have s4:aP H (bH H3 Rp (.lst (refs xs++refs zs))):=(hs2.trans s3).upd_new hRn _;refine⟨_,_,_,xs++zs,rfl,s4,⟨?_,?_⟩,?_,?_,?_⟩
   ·rw[aB];unfold refs;rw[aFQ]
   ·intro z hz;rcases aGc.mp hz with q1 |q1
    ·exact(hX3.rows z q1).over hX3.lst
    ·exact(hZ.rows z q1).over hX3.lst
   ·rw[Gs,ex,ez,take_snoc he,Bm]
   ·intro z hz;rcases aGc.mp hz with q1 |q1
    ·exact pb z q1
    ·have m:z.r∈eF zs:=aFT.mpr ⟨z,q1,rfl⟩;rw[ez]at m;obtain⟨y,hy,ey⟩:=aFT.mp m;have e1:y.t=z.t:=congrArg Tb.Rw.t ey;have e2:y.b=z.b:=congrArg Tb.Rw.b ey;have e3:tQ (d8 (dB es)) e*y.w=z.w:=congrArg Tb.Rw.w ey;rw[<-e1,<-e2,<-e3];exact g.pb hmem hy
   ·rw[aFR,aIz];omega
 case done2 =>
  rintro σ H4 ⟨v3,v4,v5,xs,rfl,s4,hX,ex,pb,xl⟩;rw[hlr,aF5]at ex;rw[hlr]at xl;refine⟨_,rfl,Rp,xs,rfl,hX,?_,by omega,pb,hTb.same s4,fun r H5 ys s5 tb5 hr5 hY o hyl=>?_⟩
  ·rintro rfl;have ex:([]:List Tb.Rw)=partsOf (d8 (dB es)) es:=ex;cases hes:es with
   |nil=>exact g.ne hes
   |cons e es' =>
    have ge:=g.g e (by rw[hes];exact aFL);cases hys:e.ys with
    |nil=>exact ge.ne hys
    |cons y ys =>
     have z:Tb.wH (partsOf (d8 (dB es)) es) y.t y.b:=by
      rw[hes];exact Tb.m8.mpr (.inl ⟨⟨y.t,y.b,_⟩,aFT.mpr ⟨y,by rw[hys];exact aFL,rfl⟩,rfl,rfl⟩)
     rw[<-ex]at z;exact Tb.vX z
  ·rw[ex]at o;exact q r H5 ys ((s4.toT).trans s5) tb5 (s4.free hr5) hY (g.out o (by omega)) o (by rw[<-ex,gA];exact hyl)
theorem Ay(F:dJ K "level_for" "level_for" (top 22) f fd)(aD9:Cl P w K mg base n "share" Ci)(G_:Cl P w K mg base n "all_weights" Wq)(E_:Cl P w K mg base n "common_multiple" (Ry K))(aB2:mg "reversed" = none):aN P w K mg base bT (n+1) f fd ["table","price"] RM:=by
 refine F.go tH fun cdv A outer s H vs Q E hr h=>?_;obtain⟨a,xs,p,n,W,kk,rfl,hT,g,c,so,p0,p9,q⟩:=h;have nd:=tH.nd;refine⟨_,(aG (d7 2 (aF E_ hr (aA (vZ (ls:=["worth","weight"]) (M:=["table","price","bottom","tops","weights","worth#","weight#","top"]) rfl (gQ.of (by rfl)) (NL.of (by rfl)) (dU (pv 0)) (fun _ _ _ _=>⟨(iV (K:=K) (n:=2) rfl rfl (bO (jG 0) (bO (jG 1) gK))),cG,(eE (wJ (K:=K) rfl) (pv 0) aL (fun _ _=>rfl))⟩)) aC))) (aG (d7 3 (aV fJ (aV fJ (Qk KY (pv 1)) (aF G_ hr (aA (pv 0) aC))) (pv 2))) (aG (d7 4 aL) (aG (jQ PassesOwn.never rfl (Vd rfl aB2 (aA (pv 0) aC)) (Ck rfl (bO (jG 5) (bO (jG 6) gK))) (aG (d7 7 (aV fJ (eE cU (pv 5) aL (fun _ _=>rfl)) (aV jL (pv 2) (eE cU (pv 5) aL (fun _ _=>rfl))))) (aG (dI (PW.pt (m5 (bJ zA (pv 4) aL (bD _)) (jW (bJ rW (aV fJ (pv 7) (pv 4)) (pv 3) (bD _))))) (aJ Mz) bM) (aG (d7 3 (aV dM (pv 3) (aV fJ (pv 6) (pv 7)))) (aJ (d7 4 (aV dM (pv 4) (pv 6)))))))) (aJ (aW (aF aD9 hr (aA (pv 3) (aA (aV fJ (pv 4) (pv 2)) aC))))))))),?_⟩;have hlr:=refs_length xs;have hrl:=gA xs;have glen:=g.len;have gn:=c.n;have tab:=g.tab so;have wt1:=g.tot;have wt2:=g.ws;have wt3:=c.w;have lm:0<b7 xs/\b7 xs<=2^1600:=⟨g.mp,c.m⟩
 have p601:(2:Int)^601=2*2^600:=by rw[aHl];omega
 have p600:=Sd.dC 600;have p1601:(2:Int)^1601=2*2^1600:=by rw[aHl];omega
 have glz:intBits (b7 xs)<=1601:=pO (by omega) (by omega);have wsz:∀z:Int,0<=z->z<=wsum xs->intBits z<=601:=fun z h1 h2=>pO (by omega) (by omega);have nz:0<xs.length:=by
  rcases aHO xs.length with z |z
  ·exact absurd (aHw.mp z) g.ne
  ·exact z
 have b1:∀x:Int,0<=x->x<=1000000000->intBits x<=64:=fun x h1 h2=>PySem.intBits_le_64 (by omega) (by omega);have bpos:∀n∈xs.map Row.b,0<n:=fun n hn=>by
  obtain⟨x,hx,rfl⟩:=aFT.mp hn;exact(g.fq x hx).fr.pos
 refine⟨_,rfl,a,rfl,⟨_,bV.of hT.lst⟩,fun D hD=>?_⟩;refine dF (xs:=refs xs) (fun i τ H'=>∃v0 v1,τ = [v0,v1,some (.ref a),some (.int p),none,none,none,none,none,none]/\aP H H'/\H' D=some (.lst ((xs.take i).map fun x=>V.int x.b))) ⟨none,none,rfl,aD hD _,aB⟩ ?keep ?turn ?done
 case keep =>
  rintro i τ H' hi ⟨v0,v1,rfl,hs,_⟩;exact bV.of (hT.same hs).lst
 case turn =>
  rintro i m v τ H' hm hi hv ⟨v0,v1,rfl,hs,hD'⟩;obtain⟨x,hx,rfl⟩:=pN hv;have hr:=(hT.same hs).rows x (aFY hx);refine⟨x.p,_,rfl,dN.of hr.1,rfl,_,_,rfl,_,_,rfl,rfl,?_⟩;refine eG ?_;refine⟨_,rfl,x.q,_,_,_,rfl,rfl,dN.of hr.2,rfl,?_⟩;refine bG hm hi hD' (by rw[aFJ];exact aU (aFN (aGT _ _) (by omega))) ⟨_,_,rfl,hs.upd_new hD _,?_⟩;rw[aB,take_snoc hx,aFQ]
  rfl
 case done =>
 rintro τ H1 ⟨v0,v1,rfl,s1,hD1⟩;rw[hlr,aF5]at hD1;have b9:∀n∈xs.map Row.b,intBits n<=1601:=fun n hn=>by
  obtain⟨x,hx,rfl⟩:=aFT.mp hn;exact(g.bits c hx).1
 have b10:((xs.map Row.b).map intBits).sum<=240000:=by
  have h:=qX (k:=1601) (l:=(xs.map Row.b).map intBits) fun n hn=>by
   obtain⟨z,hz,rfl⟩:=aFT.mp hn;exact b9 z hz
  rw[aFJ,aFJ]at h;omega
 refine⟨D,xs.map Row.b,rfl,bV.of (by rw[hD1,aGr];rfl),bpos,fun n hn=>aFN (b9 n hn) (by decide),b10,?_⟩;have hT1:=hT.same s1;refine⟨_,rfl,_,rfl,_,rfl,a,xs,rfl,hT1,by omega,fun H2 s2=>⟨_,_,rfl,rfl,jP (m:=64) (n:=601) (PySem.intBits_neg_le (b1 p p0 p9)) (wsz _ (by omega) (aGE _)) (by decide),_,rfl,_,_,rfl,rfl,jP (m:=64+601) (n:=1601) (PySem.intBits_mul_le (PySem.intBits_neg_le (b1 p p0 p9)) (wsz _ (by omega) (aGE _))) glz (by decide),?_⟩⟩;have hT2:=hT1.same s2;have gw2:=wt1;rw[uO]at gw2;have P0:0<=p*Tb.W (eF xs)*b7 xs:=aGQ (aGQ p0 (by omega)) (aFZ tab.cm.pos);have fin:∀(i:Nat) (tops ws:Int) (v5 v6 v7:Option V),0<i->Tb.Lp (b7 xs) (p*Tb.W (eF xs)*b7 xs) (eF xs) i tops ws ->
   (i=(eF xs).length∨∃r,(eF xs)[(eF xs).length-1-i]? = some r/\i<(eF xs).length/\Tb.T (b7 xs) r*ws<=tops) ->
   K7 (Ad Ci [] E0 (oG (vV 3) (oG (Ju (rI O4 fun i j=>.int (i*j)) (vV 4) (vV 2)) nC))) { nx:=fun _ H'=>Q .non H',rt:=Q } [some (.ref a),some (.int p),some (.int (b7 xs)),some (.int tops),some (.int ws),v5,v6,v7] H2:=by
  intro i tops ws v5 v6 v7 hi L stop;have wp:=L.ws_pos tab hi;obtain⟨w0,wl,tlo,thi⟩:=g.lp c.k0 p0 L;have wz:=wsz ws w0 wl;have ne:ws*b7 xs≠0:=aGv (aGP wp tab.cm.pos);refine⟨_,rfl,_,rfl,_,rfl,_,_,rfl,rfl,jP wz glz (by decide),tops,ws*b7 xs,rfl,ne,aFN (PySem.intBits_mul_le wz glz) (by decide),fun r H' s' hr'=>?_⟩;have kp:0<=(p+kk)*wsum xs:=aGQ (by have:=c.k0;omega) (by omega);exact q r H' (Fr.sh tops (ws*b7 xs)) ws ((s1.trans s2).trans s') hr' (by omega) wl (Ws (by omega) lm.1 kp tlo thi) (L.ends tab hi stop (Fr.Gg ne) (Fr.xQ tops (ws*b7 xs)))
 refine⟨_,rfl,a,refs xs,rfl,bV.of hT2.lst,?_⟩;refine Pn (fun i σ H'=>∃tops ws v5 v6 v7,σ = [some (.ref a),some (.int p),some (.int (b7 xs)),some (.int tops),some (.int ws),v5,v6,v7]/\H'=H2/\Tb.Lp (b7 xs) (p*Tb.W (eF xs)*b7 xs) (eF xs) i tops ws) ?start (fun i σ H' _ ⟨_,_,_,_,_,_,e,_⟩=>by subst e;exact bV.of hT2.lst) ?turn2 ?done2
 case start =>
  refine⟨_,_,none,none,none,rfl,rfl,?_⟩;have e:-p*wsum xs*b7 xs = -(p*Tb.W (eF xs)*b7 xs):=by rw[uO];grind
  show Tb.Lp _ _ _ 0 (-p*wsum xs*b7 xs) 0;rw[e];exact Tb.Lp.start P0
 case turn2 =>
  rintro i v σ H' hi hv ⟨tops,ws,v5,v6,v7,rfl,rfl,L⟩;obtain⟨x,hx,rfl⟩:=pN hv;have hmem:=aFY hx;have hr:=hT2.rows x hmem;have xp:=(g.fq x hmem).fr.pos;have xbz:=g.bits c hmem;rw[hlr]at hi hx;have hx':(eF xs)[(eF xs).length-1-i]? = some x.r:=by rw[hrl];unfold eF;rw[aF9,hx];rfl
  have tT:x.t*(b7 xs).fdiv x.b=Tb.T (b7 xs) x.r:=by
   unfold Tb.T;rw[aGW _ (aFZ xp)]
   rfl
  have tz:intBits (x.t*(b7 xs).fdiv x.b)<=3201+1601:=PySem.intBits_mul_le xbz.2 (PySem.intBits_fdiv_le glz);obtain⟨w0,wl,tlo,thi⟩:=g.lp c.k0 p0 L;have wz:=wsz ws w0 wl;have xw:=wsz x.w (by have:=g.w1 x hmem;omega) (oY g.w1 hmem);refine⟨x.p,_,rfl,dN.of hr.1,rfl,_,_,rfl,_,_,rfl,rfl,?_⟩;refine⟨_,rfl,x.q,_,_,_,rfl,rfl,dN.of hr.2,rfl,_,rfl,_,rfl,x.q,_,_,_,rfl,rfl,dN.of hr.2,rfl,_,_,rfl,rfl,⟨aGv xp,by omega⟩,_,_,rfl,rfl,jP xbz.2 (PySem.intBits_fdiv_le glz) (by decide),?_⟩;refine⟨_,rfl,_,_,rfl,rfl,_,rfl,?_⟩;have go:¬ (0<ws/\Tb.T (b7 xs) x.r*ws<=tops)->∃tops' ws' v5 v6 v7,[some (V.ref a),some (.int p),some (.int (b7 xs)),some (.int (tops+x.w*(x.t*(b7 xs).fdiv x.b))),some (.int (ws+x.w)),some (.ref x.q),some (.int x.w),some (.int (x.t*(b7 xs).fdiv x.b))]=[some (.ref a),some (.int p),some (.int (b7 xs)),some (.int tops'),some (.int ws'),v5,v6,v7]/\H'=H'/\Tb.Lp (b7 xs) (p*Tb.W (eF xs)*b7 xs) (eF xs) (i+1) tops' ws':=fun h=>by
   have L2:=L.next tab P0 (by rw[hrl];exact hi) hx' h;rw[<-tT]at L2;exact⟨_,_,_,_,_,rfl,rfl,L2⟩
  by_cases hw:0<ws
  ·refine nQ (decide_eq_true hw) ?_;refine⟨_,rfl,_,rfl,_,_,rfl,rfl,jP tz wz (by decide),_,rfl,_,_,rfl,rfl,_,rfl,?_⟩
   by_cases hb:x.t*(b7 xs).fdiv x.b*ws<=tops
   ·refine nQ (decide_eq_true hb) ?_;have ip:0<i:=by
     rcases aHO i with z |z
     ·subst z;have a0:=L.ew;simp[Tb.W]at a0;omega
     ·exact z
    exact fin i tops ws _ _ _ ip L (.inr ⟨x.r,hx',by rw[hrl];exact hi,by rw[<-tT];exact hb⟩)
   ·refine iW (decide_eq_false hb) ?_;refine⟨_,rfl,_,rfl,_,rfl,_,_,rfl,rfl,jP xw tz (by decide),_,_,rfl,rfl,?_⟩;refine⟨_,rfl,_,rfl,_,_,rfl,rfl,?_⟩;exact go fun z=>hb (by rw[tT];exact z.2)
  ·refine iW (decide_eq_false hw) ?_;refine dW ?_;refine⟨_,rfl,_,rfl,_,rfl,_,_,rfl,rfl,jP xw tz (by decide),_,_,rfl,rfl,?_⟩;refine⟨_,rfl,_,rfl,_,_,rfl,rfl,?_⟩;exact go fun z=>hw z.1
 case done2 =>
  rintro σ H' ⟨tops,ws,v5,v6,v7,rfl,rfl,L⟩;rw[hlr]at L;exact fin xs.length tops ws v5 v6 v7 nz L (.inl hrl.symm)
variable{c:Cs}
theorem yR(F:dJ K "ends" "Stand.ends" (inClass (top 29) 1) f fd)(ck:CK K c):aN P w K mg base bT (n+1) f fd ["self"] (M6 c):=by
 refine F.go pZ fun cdv A outer s H vs Q E hr h=>?_;obtain⟨x,s,d,m,rfl,st,q⟩:=h;have nd:=pZ.nd;refine⟨_,(aJ (aW (cH (pv 0) rfl))),?_⟩;cases st with
 |en h vv ok=>exact⟨_,rfl,x,c.e,_,_,_,rfl,h,ck.ce,ck.e1,rfl,q _ vv.n1 vv.nm vv.nx⟩
 |st h vv g lp ly row sub p0 p9 ne l4 w hk=>exact⟨_,rfl,x,c.s,_,_,_,rfl,h,ck.cs,ck.s1,rfl,q _ vv.n1 vv.nm vv.nx⟩
theorem vH(F:dJ K "stages" "Stand.stages" (inClass (top 29) 2) f fd)(ck:CK K c):aN P w K mg base bT (n+1) f fd ["self"] (NZ c):=by
 refine F.go oE fun cdv A outer s H vs Q E hr h=>?_;obtain⟨x,s,d,m,rfl,st,q⟩:=h;have nd:=oE.nd;refine⟨_,(aJ (aW (cH (pv 0) rfl))),?_⟩;cases st with
 |en h vv ok=>exact⟨_,rfl,x,c.e,_,_,_,rfl,h,ck.ce,ck.e2,rfl,q _ vv.k0 vv.kd vv.kx⟩
 |st h vv g lp ly row sub p0 p9 ne l4 w hk=>exact⟨_,rfl,x,c.s,_,_,_,rfl,h,ck.cs,ck.s2,rfl,q _ vv.k0 vv.kd vv.kx⟩
theorem yO(F:dJ K "caps" "Stand.caps" (inClass (top 29) 4) f fd)(ck:CK K c)(o_:mg "list" = none):aN P w K mg base bT (n+1) f fd ["self"] (Mg c):=by
 refine F.go p6 fun cdv A outer s H vs Q E hr h=>?_;obtain⟨x,s,d,m,rfl,st,q⟩:=h;have nd:=p6.nd;refine⟨_,(aJ (aW (dD Bs rfl o_ mV (aA (cH (pv 0) rfl) aC)))),?_⟩;cases st with
 | @en _ _ l cp v n' k' _ _ xs h vv ok =>
  refine⟨_,rfl,x,c.e,_,_,_,rfl,h,ck.ce,ck.e4,rfl,?_⟩;refine⟨cp,_,rfl,.inr (dN.of vv.caps.1),fun r hr0=>?_⟩;have n1:=aD hr0 (.lst (refs xs));exact q r _ xs n1 hr0 ⟨aB,fun y hy=>(vv.caps.2 y hy).same n1⟩ vv.gs vv.so ⟨_,vv.mt,vv.lw⟩
 | @st _ _ l cp r0 p n' k' lv _ _ j xs rs ps ys h vv g lp ly row sub p0 p9 ne l4 w hk =>
  refine⟨_,rfl,x,c.s,_,_,_,rfl,h,ck.cs,ck.s4,rfl,?_⟩;refine⟨cp,_,rfl,.inr (dN.of vv.caps.1),fun r hr0=>?_⟩;have n1:=aD hr0 (.lst (refs xs));exact q r _ xs n1 hr0 ⟨aB,fun y hy=>(vv.caps.2 y hy).same n1⟩ vv.gs vv.so ⟨_,vv.mt,vv.lw⟩
theorem tK(F:dJ K "__init__" "Stand.__init__" (inClass (top 29) 0) f fd)(ck:CK K c)(b_:mg "tuple" = none):aN P w K mg base bT (n+1) f fd ["self","end_count","stage_count","level","cap_rows"] (Ml c):=by
 refine F.go lM fun cdv A outer s H vs Q E hr h=>?_;obtain⟨x,dx,C,l,a,n1,k1,xs,rfl,hC,hx,hT,q⟩:=h;have nd:=lM.nd;refine⟨_,(aG (gB (pv 0) (pv 1) rfl) (aG (gB (pv 0) (pv 2) rfl) (aG (gB (pv 0) (pv 3) rfl) (aJ (gB (pv 0) (dD (bR (K:=K) rfl) rfl b_ dZ (aA (pv 4) aC)) rfl))))),?_⟩;have cC:rZ K C/\b8 K C "end_count"/\b8 K C "stage_count"/\b8 K C "level"/\b8 K C "cap_rows":=by
  rcases hC with e |e <;> subst e
  ·exact⟨ck.ce,ck.e1,ck.e2,ck.e3,ck.e4⟩
  ·exact⟨ck.cs,ck.s1,ck.s2,ck.s3,ck.s4⟩
 have nax:a≠x:=dG hT.lst hx fun z=>nomatch z
 refine⟨_,rfl,_,rfl,x,C,dx,[],rfl,hx,cC.1,cC.2.1,(by show _<1000;decide),?_⟩;refine⟨_,rfl,_,rfl,x,C,dx,_,rfl,aB,cC.1,cC.2.2.1,(by show 1<1000;decide),?_⟩;refine⟨_,rfl,_,rfl,x,C,dx,_,rfl,aB,cC.1,cC.2.2.2.1,(by show 2<1000;decide),?_⟩;refine⟨_,rfl,a,_,rfl,.inl ⟨bV.of (by rw[aK nax,aK nax,aK nax];exact hT.lst),fun t ht=>?_⟩⟩;have htx:t≠x:=fun e=>by rw[e,aB]at ht;cases ht
 refine⟨_,rfl,x,C,dx,_,rfl,by rw[aK (Ne.symm htx)];exact aB,cC.1,cC.2.2.2.2,(by show 3<1000;decide),?_⟩;rw[aK htx,aK htx,aK htx]at ht;refine q t _ ht (fun b o nb e=>?_) aB ?_
 ·rw[aK nb,aK (aR e ht),aK nb,aK nb,aK nb];exact e
 ·rw[aK htx];exact aB
theorem Fe(F:dJ K "is_whole" "is_whole" (top 7) f fd)(a_:mg "isinstance" = none)(aAr:mg "bool" = none)(aBh:mg "int" = none):aN P w K mg base bT (n+1) f fd ["thing","least","most"] wV:=by
 refine F.go uV fun cdv A outer s H vs Q E hr h=>?_;obtain⟨v,lo,hi,b,rfl,h,q⟩:=h;have nd:=uV.nd;refine⟨_,(aJ (aW (xC (aQ (cV (T:="int")) rfl a_ aZ (aA (pv 0) (aA (eY (v:=.ty "int") rfl aBh Bv rfl) aC))) (xC (Fp (aQ (cV (T:="bool")) rfl a_ aZ (aA (pv 0) (aA (eY (v:=.ty "bool") rfl aAr Br rfl) aC)))) (w5 (KN rW rW (pv 1) (pv 0) (pv 2))))))),?_⟩;cases h with
 |no h =>
  obtain⟨t,ht,hk⟩:=h K;refine⟨_,rfl,_,_,_,rfl,ht,hk,_,rfl,?_⟩;exact dW q
 |bl c =>
  refine⟨_,rfl,_,_,_,rfl,.bl c,CG,_,rfl,?_⟩;refine iZ ?_;refine⟨_,rfl,_,_,_,rfl,.bl c,fP _,_,rfl,?_⟩;refine⟨_,rfl,?_⟩;exact dW q
 |int i =>
  refine⟨_,rfl,_,_,_,rfl,.int i,fP _,_,rfl,?_⟩;refine iZ ?_;refine⟨_,rfl,_,_,_,rfl,.int i,Be,_,rfl,?_⟩;refine⟨_,rfl,?_⟩;refine iZ ?_;refine⟨_,rfl,_,rfl,_,_,rfl,rfl,_,rfl,?_⟩
  by_cases h1:lo<=i
  ·refine nQ (decide_eq_true h1) ?_;refine⟨_,rfl,_,_,rfl,rfl,?_⟩;rw[decide_eq_true h1]at q;exact q
  ·refine iW (decide_eq_false h1) ?_;rw[decide_eq_false h1]at q;exact q
theorem Dy(F:dJ K "is_stand" "is_stand" (top 32) f fd)(ck:CK K c)(ct:CT K c)(cn:CN K c)(aCW:mg "End" = some (.ref c.e))(aBW:mg "Stage" = some (.ref c.s))(a_:mg "isinstance" = none):aN P w K mg base bT (n+1) f fd ["thing"] (RQ c K):=by
 refine F.go uZ fun cdv A outer s H vs Q E hr h=>?_;obtain⟨v,b,rfl,h,q⟩:=h;have nd:=uZ.nd;refine⟨_,(aJ (aW (Xq (aQ (gC (K:=K) rfl) rfl a_ aZ (aA (pv 0) (aA (bU (v:=.ref c.e) rfl aCW rfl) aC))) (w5 (aQ (gC (K:=K) rfl) rfl a_ aZ (aA (pv 0) (aA (bU (v:=.ref c.s) rfl aBW rfl) aC))))))),?_⟩;cases h with
 |yes st =>
  cases st with
  |en h vv ok =>
   refine⟨_,rfl,_,c.e,.ref c.e,true,rfl,.ins h ck.ce ct.ea ct.hn ct.htk ct.em,ct.ee,?_⟩;refine⟨_,rfl,?_⟩;refine iZ ?_;exact q
  |st h vv g lp ly row sub p0 p9 ne l4 w hk =>
   refine⟨_,rfl,_,c.e,.ref c.s,false,rfl,.ins h ck.cs ct.sa ct.hn ct.htk ct.sm,ct.se,?_⟩;refine⟨_,rfl,?_⟩;refine dW ?_;exact⟨_,rfl,_,c.s,.ref c.s,true,rfl,.ins h ck.cs ct.sa ct.hn ct.htk ct.sm,ct.ss,q⟩
 |no h ht =>
  have z:=cn.all _ ht;refine⟨_,rfl,_,c.e,_,false,rfl,h,z.1,?_⟩;refine⟨_,rfl,?_⟩;refine dW ?_;exact⟨_,rfl,_,c.s,_,false,rfl,h,z.2,q⟩
theorem vW(F:dJ K "is_stage_row" "is_stage_row" (top 33) f fd)(aDg:Cl P w K mg base n "is_stand" (RQ c K))(v_:Cl P w K mg base n "is_whole" wV)(i_:mg "len" = none)(a_:mg "isinstance" = none)(b_:mg "tuple" = none){aBX:Value}(aAb:mg "MOST_WEIGHT" = some aBX)(aAc:RelV (.int 1000) aBX):aN P w K mg base bT (n+1) f fd ["row"] (Hu c K):=by
 refine F.go nW fun cdv A outer s H vs Q E hr h=>?_;obtain⟨v,b,rfl,h,q⟩:=h;have nd:=nW.nd;refine⟨_,(aG (dI (PW.pt (iU (cF (bQ (aQ (cV (T:="tuple")) rfl a_ aZ (aA (pv 0) (aA (eY (v:=.ty "tuple") rfl b_ dZ rfl) aC))))) (gM (bJ zL (aQ cQ rfl i_ gP (aA (pv 0) aC)) aL (bD _))))) (aJ (aW mR)) bM) (aJ (aW (xC (aF v_ hr (aA (eE cU (pv 0) aL (fun _ _=>rfl)) (aA aL (aA (bU (v:=.int 1000) rfl aAb aAc) aC)))) (w5 (aF aDg hr (aA (eE cU (pv 0) aL (fun _ _=>rfl)) aC))))))),?_⟩;cases h with
 |no ht hk =>
  refine⟨_,rfl,_,_,_,rfl,ht,hk,_,rfl,?_⟩;exact iZ (iZ q)
 | @len a xs e hl =>
  refine⟨_,rfl,_,_,_,rfl,.tup e,fP _,_,rfl,?_⟩;refine dW ?_;refine⟨_,rfl,a,_,rfl,.inr (dN.of e),rfl,_,rfl,?_⟩;refine nQ ?_ q;rw[decide_eq_false (fun z=>hl (by injection z with z;omega))]
  rfl
 | @two a x y b1 b2 e hx hy =>
  refine⟨_,rfl,_,_,_,rfl,.tup e,fP _,_,rfl,?_⟩;refine dW ?_;refine⟨_,rfl,a,_,rfl,.inr (dN.of e),rfl,_,rfl,?_⟩;refine dW ?_;refine⟨_,rfl,a,_,_,_,rfl,rfl,dN.of e,rfl,x,1,1000,b1,rfl,hx,_,rfl,?_⟩;cases b1 with
  |false=>exact dW q
  |true =>
   refine iZ ?_;exact⟨_,rfl,a,_,_,_,rfl,rfl,dN.of e,rfl,y,b2,rfl,hy,q⟩
theorem tU(F:dJ K "is_stage_rows" "is_stage_rows" (top 34) f fd)(aCC:Cl P w K mg base n "is_stage_row" (Hu c K))(aCX:mg "all" = none)(i_:mg "len" = none)(a_:mg "isinstance" = none)(o_:mg "list" = none){j_:Value}(gV:mg "MOST_STAGE_ROWS" = some j_)(g_:RelV (.int 4) j_):aN P w K mg base bT (n+1) f fd ["rows"] (De c K):=by
 refine F.go lZ fun cdv A outer s H vs Q E hr h=>?_;obtain⟨v,b,rfl,h,q⟩:=h;have nd:=lZ.nd;refine⟨_,(aG (dI (PW.pt (iU (cF (bQ (aQ (cV (T:="list")) rfl a_ aZ (aA (pv 0) (aA (eY (v:=.ty "list") rfl o_ mV rfl) aC))))) (gM (cF (xT rW rW aL (aQ cQ rfl i_ gP (aA (pv 0) aC)) (bU (v:=.int 4) rfl gV g_)))))) (aJ (aW mR)) bM) (aJ (aW (aQ (Ac rfl rfl) rfl aCX MK (aA (gY ["row"] (dU (pv 0)) (fun _ _ _ _=>⟨(jG 0),cG,(aF aCC hr (aA (pv 0) aC))⟩)) aC))))),?_⟩;cases h with
 |no h =>
  obtain⟨t,ht,hk⟩:=h K;refine⟨_,rfl,_,_,_,rfl,ht,hk,_,rfl,?_⟩;exact iZ (iZ (q H (aP.refl _)))
 | @len a xs e hl =>
  refine⟨_,rfl,_,_,_,rfl,.lst e,fP _,_,rfl,?_⟩;refine dW ?_;refine⟨_,rfl,a,_,rfl,.inl (bV.of e),_,_,rfl,rfl,_,rfl,?_⟩
  by_cases h1:1<=xs.length
  ·refine nQ (decide_eq_true (show(1:Int)<=_ by omega)) ?_;refine⟨_,_,rfl,rfl,_,rfl,?_⟩;refine nQ ?_ (q H (aP.refl _));rw[decide_eq_false (show ¬ (xs.length:Int)<=4 by omega)]
   rfl
  ·refine iW (decide_eq_false (show ¬ (1:Int)<=_ by omega)) ?_;refine⟨_,rfl,?_⟩;exact iZ (q H (aP.refl _))
 | @all a xs bs e h1 h8 hb h =>
  refine⟨_,rfl,_,_,_,rfl,.lst e,fP _,_,rfl,?_⟩;refine dW ?_;refine⟨_,rfl,a,_,rfl,.inl (bV.of e),_,_,rfl,rfl,_,rfl,?_⟩;refine nQ (decide_eq_true (show(1:Int)<=_ by omega)) ?_;refine⟨_,_,rfl,rfl,_,rfl,?_⟩;refine iW (by rw[decide_eq_true (show(xs.length:Int)<=4 by omega)];rfl) ?_;refine⟨_,rfl,a,rfl,⟨_,bV.of e⟩,fun D hD=>?_⟩;refine dF (xs:=xs) (fun i τ H'=>∃v0,τ = [v0,some (.ref a)]/\aP H H'/\H' D=some (.lst ((bs.take i).map V.bl))) ⟨none,rfl,aD hD _,aB⟩ ?keep ?turn ?done
  case keep =>
   rintro i τ H' hi ⟨v0,rfl,hs,_⟩;exact bV.of (hs _ _ e)
  case turn =>
   rintro i m v τ H' hm hi hv ⟨v0,rfl,hs,hD'⟩;have hib:i<bs.length:=by omega
   have eb:bs[i]? = some (bs.getD i false):=by rw[aFM hib,getD_at hib]
   refine yM ?_;refine⟨_,rfl,v,bs.getD i false,rfl,(h i v hv).kt (aP.kt hs),?_⟩;refine bG hm hi hD' (by rw[aFJ,aGh];exact aU (by omega)) ⟨_,rfl,hs.upd_new hD _,?_⟩;rw[aB,take_snoc eb,aFQ]
   rfl
  case done =>
   rintro τ H' ⟨v0,rfl,hs,hD'⟩;rw[<-hb,aF5]at hD';exact⟨D,_,rfl,bV.of hD',q H' hs⟩
variable{fStI:Addr}{fdStI:FuncData}
theorem vG(F:dJ K "__init__" "End.__init__" (inClass (top 30) 0) f fd)(ck:CK K c){cSt:Addr}(M_:mg "Stand" = some (.ref cSt))(aDu:Qf K cSt "__init__" fStI)(aDF:aN P w K mg base bT n fStI fdStI ["self","end_count","stage_count","level","cap_rows"] (Ml c))(aDG:Binds K fdStI ["self","end_count","stage_count","level","cap_rows"] []){z_:Addr}(aAy:mg "NoBox" = some (.ref z_))(aCz:JG K z_)(aDq:Cl P w K mg base n "whole" Z1)(v_:Cl P w K mg base n "is_whole" wV){aB9:Value}(aAP:mg "MOST_WORTH" = some aB9)(aAU:RelV (.int 1000000000) aB9):aN P w K mg base (RV P w) (n+1) f fd ["self","worth"] (RX c z_):=by
 refine F.okX nZ (fun vs H Q E h=>?_) (fun cdv A outer s H vs Q E hr h=>?_)
 ·rcases h with⟨x,dx,v,rfl,_⟩ | ⟨x,v,rfl,_⟩ <;> rfl
 have nd:=nZ.nd;refine⟨_,(aG (dI (PT.nox (cF (bQ (aF v_ hr (aA (pv 1) (aA aL (aA (bU (v:=.int 1000000000) rfl aAP aAU) aC))))))) (aJ (xM uJ rfl rfl aAy aCz)) bM) (yC.nox (aG (cZ (Hn rfl M_ aDu aDF hr aDG .nil bC (aA (pv 0) (aA aL (aA aL (aA (aF aDq hr (aA (pv 1) aC)) (aA (m9 (aA (fH (aA (aF aDq hr (aA (pv 1) aC)) (aA aL aC))) aC)) aC))))))) (aJ (gB (pv 0) (pv 1) rfl))))),?_⟩;rcases h with⟨x,dx,v,rfl,hx,h0,h9,q⟩ | ⟨x,v,rfl,h,q⟩
 rotate_left
 ·refine⟨_,rfl,v,0,1000000000,false,rfl,h,?_⟩;refine⟨_,rfl,?_⟩;exact iZ q
 refine⟨_,rfl,.int v,0,1000000000,true,rfl,Er.yes h0 h9,?_⟩;refine⟨_,rfl,?_⟩;refine dW ?_;refine⟨_,rfl,_,rfl,v,rfl,fun l H1 s1 hl=>?_⟩;refine⟨_,rfl,v,rfl,fun p H2 s2 hp=>?_⟩;refine⟨uI,fun t ht=>?_⟩;refine⟨Qn,fun a ha=>?_⟩;have n3:=aD ht (.tup [.ref p,.int 1]);have n4:=aD ha (.lst [.ref t]);have s4:=((s1.trans s2).trans n3).trans n4;have hT:TabAt (bH (bH H2 t (.tup [.ref p,.int 1])) a (.lst [.ref t])) a [⟨t,p,v,1,1⟩]:=⟨aB,fun y hy=>by rw[aF2.mp hy];exact⟨n4 _ _ aB,(n3.trans n4) _ _ hp⟩⟩
 have hl4:=(s2.trans (n3.trans n4)) _ _ hl;generalize bH (bH H2 t (.tup [.ref p,.int 1])) a (.lst [.ref t])=H4 at n4 s4 hT hl4 ⊢;refine⟨x,dx,c.e,l,a,1,0,_,rfl,.inl rfl,s4 _ _ hx,hT,fun cp H5 cn k5 hx5 hc5=>?_⟩;refine⟨_,rfl,_,rfl,x,c.e,dx,_,rfl,hx5,ck.ce,ck.e5,(by show 4<1000;decide),?_⟩;have hx4:=s4 _ _ hx;have hu:∀b o,b≠x->H4 b=some o->bH H5 x (.ins c.e dx (fE 1 0 l cp v)) b=some o:=fun b o nb e=>by rw[aK nb];exact k5 b o nb e
 have tu:∀b xs,H4 b=some (.tup xs)->bH H5 x (.ins c.e dx (fE 1 0 l cp v)) b=some (.tup xs):=fun b xs e=>hu b _ (dG e hx4 fun z=>nomatch z) e;refine q _ (fun b o nb e=>hu b o nb (s4 _ _ e)) fun d m hm=>?_;refine .en (dx:=dx) (l:=l) (cp:=cp) (n:=1) (k:=0) (xs:=[⟨t,p,v,1,1⟩]) aB ⟨tu _ _ hl4,⟨?_,fun y hy=>?_⟩,Tz h0 h9 hm,aH0 _ _,by decide,by omega,by decide,by omega,Sd.Yr v d,VR h0 h9,rfl,rfl⟩ (.en h0 h9 hm)
 ·have:cp≠x:=fun e=>by rw[e,hx5]at hc5;cases hc5
  rw[aK this];exact hc5
 ·have:=hT.rows y hy;exact⟨tu _ _ this.1,tu _ _ this.2⟩
theorem Hg{H:Hp}{D:Addr}{e:Ent}{zs:List V}{o:HO}(hD:H D=some (.lst zs))(n:e.a≠D)(h:yZ H e):yZ (bH H D o) e:=by
 refine⟨?_,?_,fun x hx=>⟨?_,?_⟩⟩
 ·rw[aK (dG h.1 hD fun z=>nomatch z)];exact h.1
 ·rw[aK n];exact h.2.lst
 ·rw[aK (dG (h.2.rows x hx).1 hD fun z=>nomatch z)];exact(h.2.rows x hx).1
 ·rw[aK (dG (h.2.rows x hx).2 hD fun z=>nomatch z)];exact(h.2.rows x hx).2
theorem Ud{ns:List Int}(h:∀n∈ns,1<=n/\True):(ns.length:Int)<=ns.sum:=by
 induction ns with
 |nil=>simp
 |cons n ns ih =>
  have a:=(h n aFL).1;have b:=ih fun m hm=>h m (aFK _ hm);rw[aF7,aF8]
  push_cast
  omega
theorem rP.good{K:PySem.W.Frag}{H:Hp}{a:Addr}{ps ys:List Addr}{rs:List (Int×Sd.Sd)}{d:Nat}{j:Int×Sd.Sd->Nat}(g:Xg c H a ps ys rs d j):rP c K H (.ref a) true:=by
 have hl:(ps.map V.ref).length=rs.length:=by rw[aFJ];exact g.R.lp
 have h:=rP.all (c:=c) (K:=K) (bs:=aGw rs.length true) g.ha (by rw[hl];exact aHJ.mpr g.ne) (by rw[hl];exact g.l4) (by rw[aGX,hl]) fun i v hv=>by
  obtain⟨q1,y,t,_,_,er,rfl,h1,st,mem⟩:=g.R.at_ hv;have hi:=(aFU.mp er).1;have e:(aGw rs.length true).getD i false=true:=by simp[List.getD,hi]
  rw[e];exact Bb.two h1 (Er.yes (g.ww t mem).1 (g.ww t mem).2) (.yes st)
 have e:(aGw rs.length true).all id=true:=by simp
 rw[e]at h;exact h
theorem tG(F:dJ K "__init__" "Stage.__init__" (inClass (top 31) 0) f fd)(ck:CK K c){cSt:Addr}(M_:mg "Stand" = some (.ref cSt))(aDu:Qf K cSt "__init__" fStI)(aDF:aN P w K mg base bT n fStI fdStI ["self","end_count","stage_count","level","cap_rows"] (Ml c))(aDG:Binds K fdStI ["self","end_count","stage_count","level","cap_rows"] [])(cfE:rZ K c.e)(cfS:rZ K c.s){aDh:Addr}{aDr:FuncData}(aFf:cJ K c.e "ends" aDh)(aFg:cJ K c.s "ends" aDh)(aDH:aN P w K mg base bT n aDh aDr ["self"] (M6 c))(aDI:Binds K aDr ["self"] []){aDi:Addr}{aDs:FuncData}(aFh:cJ K c.e "stages" aDi)(aFi:cJ K c.s "stages" aDi)(aDJ:aN P w K mg base bT n aDi aDs ["self"] (NZ c))(aDK:Binds K aDs ["self"] []){aDj:Addr}{aDt:FuncData}(aFj:cJ K c.e "caps" aDj)(aFk:cJ K c.s "caps" aDj)(aDL:aN P w K mg base bT n aDj aDt ["self"] (Mg c))(aDM:Binds K aDt ["self"] []){z_:Addr}(aAy:mg "NoBox" = some (.ref z_))(aCz:JG K z_)(aDN:Cl P w K mg base n "capped" (Mq Pt eU))(aC5:Cl P w K mg base n "level_for" RM)(aEa:Cl P w K mg base n "mixed" (Ng Pt eU))(aCt:Cl P w K mg base n "is_stage_rows" (De c K))(v_:Cl P w K mg base n "is_whole" wV)(b_:mg "tuple" = none)(aB8:mg "max" = none)(aCV:mg "sum" = none){A_:Value}(p_:mg "MOST_STAGES" = some A_)(q_:RelV (.int 4) A_){aCq:Value}(aBs:mg "MOST_ENDS" = some aCq)(aBu:RelV (.int 12) aCq){aCa:Value}(aAZ:mg "MOST_PRICE" = some aCa)(aA2:RelV (.int 1000000000) aCa):aN P w K mg base (RV P w) (n+1) f fd ["self","price","rows"] (Qm c K z_ Pt eU):=by
 refine F.okX lJ (fun vs H Q E h=>?_) (fun cdv A outer s H vs Q E hr h=>?_)
 ·rcases h with⟨x,dx,a,p,ps,ys,rs,d,j,rfl,_⟩ | ⟨x,v,w,rfl,_⟩ <;> rfl
 have nd:=lJ.nd;refine⟨_,(aG (dI (PT.nox (PW.pt (iU (cF (bQ (aF v_ hr (aA (pv 1) (aA aL (aA (bU (v:=.int 1000000000) rfl aAZ aA2) aC)))))) (gM (cF (bQ (aF aCt hr (aA (pv 2) aC)))))))) (aJ (xM uJ rfl rfl aAy aCz)) bM) (aG (PS.nox (d7 3 (aQ (Do rfl) rfl aCV KD (aA (gY ["weight","stand"] (dU (pv 2)) (fun _ _ _ _=>⟨(iV (K:=K) (n:=2) rfl rfl (bO (jG 0) (bO (jG 1) gK))),cG,(dR (aX (pv 1) cfE aFf aDH hr aDI .nil bC) (aX (pv 1) cfS aFg aDH hr aDI .nil bC))⟩)) aC)))) (aG (PS.nox (d7 4 (aV dM aL (aQ (zP rfl) rfl aB8 GD (aA (gY ["weight","stand"] (dU (pv 2)) (fun _ _ _ _=>⟨(iV (K:=K) (n:=2) rfl rfl (bO (jG 0) (bO (jG 1) gK))),cG,(dR (aX (pv 1) cfE aFh aDJ hr aDK .nil bC) (aX (pv 1) cfS aFi aDJ hr aDK .nil bC))⟩)) aC))))) (aG (dI (PT.nox (PW.pt (iU (bJ zA (pv 3) (bU (v:=.int 12) rfl aBs aBu) (bD _)) (gM (bJ zA (pv 4) (bU (v:=.int 4) rfl p_ q_) (bD _)))))) (aJ (xM uJ rfl rfl aAy aCz)) bM) (yC.nox (aG (d7 5 (aF aEa hr (aA (gY ["weight","stand"] (dU (pv 2)) (fun _ _ _ _=>⟨(iV (K:=K) (n:=2) rfl rfl (bO (jG 0) (bO (jG 1) gK))),cG,(fH (aA (pv 0) (aA (dR (aX (pv 1) cfE aFj aDL hr aDM .nil bC) (aX (pv 1) cfS aFk aDL hr aDM .nil bC)) aC)))⟩)) aC))) (aG (d7 6 (aF aC5 hr (aA (pv 5) (aA (pv 1) aC)))) (aG (cZ (Hn rfl M_ aDu aDF hr aDG .nil bC (aA (pv 0) (aA (pv 3) (aA (pv 4) (aA (pv 6) (aA (aF aDN hr (aA (pv 5) (aA (pv 6) aC))) aC))))))) (aG (gB (pv 0) (pv 1) rfl) (aJ (gB (pv 0) (dD (bR (K:=K) rfl) rfl b_ dZ (aA (pv 2) aC)) rfl))))))))))),?_⟩;rcases h with⟨x,dx,a,p,ps,ys,rs,d,j,rfl,hx,g0,p0,p9,hq⟩ | ⟨x,v,u,rfl,h,q⟩
 rotate_left
 ·rcases h with h | ⟨h,h2⟩
  ·refine⟨_,rfl,v,0,1000000000,false,rfl,h,?_⟩;refine⟨_,rfl,?_⟩;exact iZ (iZ (q H (aP.refl _)))
  ·refine⟨_,rfl,v,0,1000000000,true,rfl,h,?_⟩;refine⟨_,rfl,?_⟩;refine dW ?_;refine⟨_,rfl,u,false,rfl,h2,fun H1 s1=>?_⟩;refine⟨_,rfl,?_⟩;exact iZ (q H1 s1)
 have ha:=g0.ha;have R:=g0.R;have ne:=g0.ne;have l4:=g0.l4;have ww:=g0.ww;have hl:(ps.map V.ref).length=rs.length:=by rw[aFJ];exact R.lp
 have n1:1<=rs.length:=aHJ.mpr ne;refine⟨_,rfl,.int p,0,1000000000,true,rfl,Er.yes p0 p9,?_⟩;refine⟨_,rfl,?_⟩;refine dW ?_;refine⟨_,rfl,.ref a,true,rfl,rP.good g0,fun H1 s1=>?_⟩;refine⟨_,rfl,?_⟩;refine dW ?_;have R1:=R.kp (aP.kp s1);have ha1:=s1 _ _ ha;refine⟨_,rfl,a,rfl,⟨_,bV.of ha1⟩,fun D hD=>?_⟩;refine dF (xs:=ps.map V.ref) (fun i τ H'=>∃v0 v1 cs,τ = [v0,v1,some (.ref x),some (.int p),some (.ref a),none,none,none,none]/\aP H1 H'/\H' D=some (.lst (Is cs))/\cs=(rs.take i).map (fun t=>Sd.nE (d+1) t.2)/\∀n∈cs,1<=n/\True) ⟨none,none,[],rfl,aD hD _,aB,rfl,fun _ h=>nomatch h⟩ ?keepA ?turnA ?doneA
 case keepA =>
  rintro i τ H' hi ⟨v0,v1,cs,rfl,hs,_⟩;exact bV.of (hs _ _ ha1)
 case turnA =>
  rintro i mm v τ H' hm hi hv ⟨v0,v1,cs,rfl,hs,hD',nl,hn⟩;obtain⟨q1,y,t,_,_,er,rfl,h1,st,mem⟩:=R1.at_ hv;refine⟨q1,_,rfl,dN.of (hs _ _ h1),rfl,_,_,rfl,_,_,rfl,rfl,?_⟩;refine eG ?_;refine Ld (st.same hs) (fun _ _ _ _ _=>rfl) (fun _ _ _ _ _ _=>rfl) (fun R h=>⟨_,rfl,h⟩) ?_;refine⟨y,t.2,d,_,rfl,st.same hs,fun n n1 n2 n3=>?_⟩;refine bG hm hi hD' (by rw[gH,nl,aFJ];exact aU (aFN (aGT _ _) (by rw[hl]at hi;omega))) ⟨_,_,cs++[n],rfl,hs.upd_new hD _,by rw[aB,wK],by rw[nl,take_snoc er,aFQ,n3];rfl,fun z hz=>?_⟩;rcases aGc.mp hz with u |u
  ·exact hn z u
  ·rw[aF2.mp u];exact⟨n1,trivial⟩
 case doneA =>
 rintro τ H2 ⟨v0,v1,ns,rfl,s2,hD2,nl,hn⟩;have nx0:=nl;rw[hl,aF5]at nx0;have nl:ns.length=rs.length:=by rw[nx0,aFJ]
 have sn:=Ud hn;refine⟨D,ns,rfl,bV.of hD2,?_⟩;have R2:=R1.kp (aP.kp s2);have ha2:=s2 _ _ ha1;refine⟨_,rfl,a,rfl,⟨_,bV.of ha2⟩,fun D2 hD2=>?_⟩;refine dF (xs:=ps.map V.ref) (fun i τ H'=>∃v0 v1 cs,τ = [v0,v1,some (.ref x),some (.int p),some (.ref a),some (.int ns.sum),none,none,none]/\aP H2 H'/\H' D2=some (.lst (Is cs))/\cs=(rs.take i).map (fun t=>Sd.nS (d+1) t.2)/\∀n∈cs,0<=n/\n<=(d:Int)) ⟨none,none,[],rfl,aD hD2 _,aB,rfl,fun _ h=>nomatch h⟩ ?keepB ?turnB ?doneB
 case keepB =>
  rintro i τ H' hi ⟨v0,v1,cs,rfl,hs,_⟩;exact bV.of (hs _ _ ha2)
 case turnB =>
  rintro i mm v τ H' hm hi hv ⟨v0,v1,cs,rfl,hs,hD',nl,hn⟩;obtain⟨q1,y,t,_,_,er,rfl,h1,st,mem⟩:=R2.at_ hv;refine⟨q1,_,rfl,dN.of (hs _ _ h1),rfl,_,_,rfl,_,_,rfl,rfl,?_⟩;refine eG ?_;refine Ld (st.same hs) (fun _ _ _ _ _=>rfl) (fun _ _ _ _ _ _=>rfl) (fun R h=>⟨_,rfl,h⟩) ?_;refine⟨y,t.2,d,_,rfl,st.same hs,fun n n1 n2 n3=>?_⟩;refine bG hm hi hD' (by rw[gH,nl,aFJ];exact aU (aFN (aGT _ _) (by rw[hl]at hi;omega))) ⟨_,_,cs++[n],rfl,hs.upd_new hD2 _,by rw[aB,wK],by rw[nl,take_snoc er,aFQ,n3];rfl,fun z hz=>?_⟩;rcases aGc.mp hz with u |u
  ·exact hn z u
  ·rw[aF2.mp u];exact⟨n1,n2⟩
 case doneB =>
 rintro τ H3 ⟨v0,v1,ms,rfl,s3,hD3,ml,hms⟩;have kx0:=ml;rw[hl,aF5]at kx0;have ml:ms.length=rs.length:=by rw[kx0,aFJ]
 refine⟨D2,ms,rfl,bV.of hD3,fun e=>by rw[e]at ml;have:(0:Nat)=rs.length:=ml;omega,fun mx hmx hmax=>?_⟩;have kx1:1+mx=Sd.nS (d+1+1) (.st p rs):=by rw[Sd.Vp (fun x hx=>(hms x hx).1) hmx hmax,kx0];rfl
 have nx1:ns.sum=Sd.nE (d+1+1) (.st p rs):=by rw[nx0];rfl
 have mb:=hms mx hmx;refine⟨_,_,rfl,rfl,?_⟩;refine⟨_,rfl,_,_,rfl,rfl,_,rfl,?_⟩;rcases hq with⟨big,qE⟩ | ⟨m,hm,m12,d4,hTb,q⟩
 ·have s13:=(s1.trans s2).trans s3
  by_cases h12:(12:Int)<ns.sum
  ·refine nQ (decide_eq_true h12) ?_;refine iZ ?_;exact qE _ s13
  ·refine iW (decide_eq_false h12) ?_;refine⟨_,rfl,_,_,rfl,rfl,_,rfl,?_⟩;refine nQ (decide_eq_true (show(4:Int)<1+mx by omega)) ?_;exact qE _ s13
 have okS:Sd.Ok (.st p rs) (d+1) m:=.st p0 p9 ne l4 ww (fun r hr=>by obtain⟨i,y,a,b⟩:=KC R.ly hr;exact(R.sub i y r a b).ok) hm;have jl:ns.sum<=(m:Int):=by have:=okS.nE (d+1+1) (aHE _);rw[nx0];exact this
 refine iW (decide_eq_false (by omega)) ?_;refine⟨_,rfl,_,_,rfl,rfl,_,rfl,?_⟩;refine iW (decide_eq_false (by omega)) ?_;have s13:=(s1.trans s2).trans s3;have R3:=R2.kp (aP.kp s3);have ha3:=s3 _ _ ha2;refine⟨_,rfl,a,rfl,⟨_,bV.of ha3⟩,fun D3 hD3n=>?_⟩;refine dF (xs:=ps.map V.ref) (fun i τ H'=>∃v0 v1 es,τ = [v0,v1,some (.ref x),some (.int p),some (.ref a),some (.int ns.sum),some (.int (1+mx)),none,none]/\aP H3 H'/\xN H' D3 es/\Sd.Al d es (rs.take i)/\Ae d j es (rs.take i)/\es.length=i/\∀e∈es,e.a≠D3/\(1<=e.w/\e.w<=1000)) ⟨none,none,[],rfl,aD hD3n _,⟨aB,fun _ h=>nomatch h⟩,.nil,.nil,rfl,fun _ h=>nomatch h⟩ ?keepC ?turnC ?doneC
 case keepC =>
  rintro i τ H' hi ⟨v0,v1,es,rfl,hs,_⟩;exact bV.of (hs _ _ ha3)
 case turnC =>
  rintro i mm v τ H' hm' hi hv ⟨v0,v1,es,rfl,hs,hE,al,ae,el,he⟩;obtain⟨q1,y,t,_,_,er,rfl,h1,st,mem⟩:=R3.at_ hv;refine⟨q1,_,rfl,dN.of (hs _ _ h1),rfl,_,_,rfl,_,_,rfl,rfl,?_⟩;refine eG ?_;refine⟨_,rfl,?_⟩;refine Ld (st.same hs) (fun _ _ _ _ _=>rfl) (fun _ _ _ _ _ _=>rfl) (fun R h=>⟨_,rfl,h⟩) ?_;refine⟨y,t.2,d,_,rfl,st.same hs,fun r H4 xs s4 hr4 hT4 gs so ⟨lv4,mt4,_⟩=>?_⟩;refine⟨uI,fun T hT=>?_⟩;have n5:=aD hT (.tup [.int t.1,.ref r]);have hE5:=(hE.same s4).same n5;have nr:r≠D3:=fun e=>by rw[e,hE.lst]at hr4;cases hr4
  refine bG hm' hi hE5.lst (by rw[rY];exact aU (by rw[hl]at hi;omega)) ⟨_,_,es++[⟨T,t.1,r,xs⟩],rfl,((hs.trans s4).trans n5).upd_new hD3n _,⟨by rw[aB,Gv],fun e h=>?_⟩,by rw[take_snoc er];exact al.snoc rfl ⟨lv4,mt4⟩,by rw[take_snoc er];exact ae.snoc gs,by rw[aFR,el];rfl,fun e h=>?_⟩
  ·rcases aGc.mp h with u |u
   ·exact Hg hE5.lst (he e u).1 (hE5.ents e u)
   ·rw[aF2.mp u];exact Hg hE5.lst nr ⟨aB,hT4.same n5⟩
  ·rcases aGc.mp h with u |u
   ·exact he e u
   ·rw[aF2.mp u];exact⟨nr,ww t mem⟩
 case doneC =>
 rintro τ H4 ⟨v0,v1,es,rfl,s4,hE,al,ae,el,he⟩;rw[hl,aF5]at al ae;rw[hl]at el;have ene:es≠[]:=fun e=>by rw[e]at el;have:(0:Nat)=rs.length:=el;omega
 have gall:=ae.all fun t ht=>aFN (Sd.Vi hm t ht) m12;have gm0:=YL (show d<=4 by omega) ene (by omega) (fun e h=>(he e h).2) gall;have m1:1<=m:=okS.m1;have tb4:cA Pt eU gU H4:=hTb.same (s13.trans s4);refine⟨D3,es,12,wB d 12,kK d,rfl,hE,gm0,tb4,fun B H5 xs s5 tb5 _ hB5 g5 o5 l5=>?_⟩;have Mx1:=Yw ae.b hm m1 (aFN l5 (ae.b.p _)) g5;refine⟨_,rfl,_,rfl,B,xs,p,m,_,kK d,rfl,hB5,Mx1.g,Mx1.cp d4 m12,o5.tab.lt,p0,p9,fun lv H6 l u s6 hl6 u1 u2 f hLv=>?_⟩;have Lx1:=Xx Mx1 d4 m12 p0 p9 u1 u2 f;have tb6:=tb5.same s6;refine⟨_,rfl,_,rfl,_,rfl,_,rfl,_,rfl,_,rfl,B,lv,xs,l,m,_,_,_,rfl,hB5.same s6,Lx1.g,Lx1.c,hl6,Lx1.f,tb6,fun cr H7 zs s7 tb7 _ hZ g7 o7=>?_⟩;have sT:cW Pt H H7:=((((s13.trans s4).toT).trans s5).trans s6.toT).trans s7;have hx7:H7 x=some (.ins c.s dx []):=sT.get hTb hx fun _ z=>nomatch z
 have ha7:H7 a=some (.lst (ps.map V.ref)):=sT.get hTb ha fun _ z=>nomatch z
 have hl7:H7 lv=some (.tup [.int l.1,.int l.2]):=s7.get tb6 hl6 fun _ z=>nomatch z
 have nax:a≠x:=dG ha7 hx7 fun z=>nomatch z
 refine⟨x,dx,c.s,lv,cr,ns.sum,1+mx,zs,rfl,.inr rfl,hx7,hZ,fun cp H8 cn k8 hx8 hc8=>?_⟩;have ncx:cp≠x:=fun e=>by rw[e,hx8]at hc8;cases hc8
 refine⟨_,rfl,_,rfl,x,c.s,dx,_,rfl,hx8,ck.cs,ck.s5,(by show 4<1000;decide),?_⟩;refine⟨_,rfl,a,_,rfl,.inl ⟨bV.of (by rw[aK nax];exact k8 _ _ nax ha7),fun r hr0=>?_⟩⟩;have nrx:r≠x:=fun e=>by rw[e,aB]at hr0;cases hr0
 refine⟨_,rfl,x,c.s,dx,_,rfl,by rw[aK (Ne.symm nrx)];exact aB,ck.cs,ck.s6,(by show 5<1000;decide),?_⟩;rw[aK nrx]at hr0;have kx:∀b o,b≠x->H8 b=some o->bH (bH (bH H8 x (.ins c.s dx (iY "price" (.int p) (fB ns.sum (1+mx) lv cp)))) r (.tup (ps.map V.ref))) x (.ins c.s dx (fS ns.sum (1+mx) lv cp p r)) b=some o:=fun b o nb e=>by
  rw[aK nb,aK (aR e hr0),aK nb];exact e
 have hr9:bH (bH (bH H8 x (.ins c.s dx (iY "price" (.int p) (fB ns.sum (1+mx) lv cp)))) r (.tup (ps.map V.ref))) x (.ins c.s dx (fS ns.sum (1+mx) lv cp p r)) r=some (.tup (ps.map V.ref)):=by rw[aK nrx];exact aB
 have hx9:bH (bH (bH H8 x (.ins c.s dx (iY "price" (.int p) (fB ns.sum (1+mx) lv cp)))) r (.tup (ps.map V.ref))) x (.ins c.s dx (fS ns.sum (1+mx) lv cp p r)) x=some (.ins c.s dx (fS ns.sum (1+mx) lv cp p r)):=aB;show Q .non (bH (bH (bH H8 x (.ins c.s dx (iY "price" (.int p) (fB ns.sum (1+mx) lv cp)))) r (.tup (ps.map V.ref))) x (.ins c.s dx (fS ns.sum (1+mx) lv cp p r)));generalize bH (bH (bH H8 x (.ins c.s dx (iY "price" (.int p) (fB ns.sum (1+mx) lv cp)))) r (.tup (ps.map V.ref))) x (.ins c.s dx (fS ns.sum (1+mx) lv cp p r))=HF at kx hr9 hx9 ⊢;have sX:Ig x H7 HF:=fun b o nb e=>kx b o nb (k8 b o nb e);have kF:Kp H7 HF:=sX.kp hx7;have RF:=R.kp ((cW.kp sT hTb).trans kF);refine q HF (fun b o nb nP e=>sX b o nb (sT b o nP e)) (cA.sameX tb7 sX hx7) ?_;exact .st hx9 ⟨kF.tup hl7,⟨kx _ _ ncx hc8,fun y hy=>(hZ.rows y hy).kp kF⟩,X8 Lx1 g7,o7.tab.lt,by omega,by omega,by omega,by omega,Yt al gm0 (by have:=(Sd.V7 ne ww l4).1;omega) o5 Mx1.g Lx1.f.fr.pos hLv o7,Yy Lx1 d4 m12,nx1,kx1⟩ hr9 RF.lp RF.ly RF.row RF.sub p0 p9 ne l4 ww hm
end
end K86
namespace L2
open PySem PySem.Spec PyProof.Rows
structure ZJ (K:PySem.W.Frag)(C:Addr):Prop where
 makes:PySem.W.makesIn K C=true
 init:PySem.W.findIn K (.ref C) "__init__" = some (some (.builtin "object.__init__"))
 kp:PySem.W.keepIn K (.ref C)=true
noncomputable def NK (C:Addr):TE:=fun _ H Q=>∀x dx,H x=none->H dx=none->dx≠x->Q (.ref x) (bH (bH H dx (.own x)) x (.ins C dx []))
section
variable{X:Cx}{C:Addr}{x:Str}{p pos:Pos}
theorem Jk{pins:List (Addr×Obj)}{σ:St}{H:Hp}{s:Shared}{Q:VK}(M:ZJ X.K C)(I:bB X pins σ H s)(h:NK C σ H Q):wpAny (model X.prog X.w) X.A (call (.ref C) []) (EP X pins σ Q) X.xe s:=by
 have hq:=h (s.heap.objs.size+1) s.heap.objs.size (I.hok.fresh (aHf _)) (I.hok.fresh (aFV _)) (aGg (aHE _));have I2:=bB.made (C:=C) I;have Y:=PySem.W.makes_of (M:=model X.prog X.w) I.kIn M.makes;refine wpAny_call (Jc I.kIn M.makes M.init (fun self=>PySem.W.Looks.of_pure (PySem.W.oi_bind self)) ?_);have k:∀b o,s.heap.get? b=some o->((s.heap.push PySem.W.emptyDict).push (PySem.W.instObj C s.heap.objs.size)).get? b=some o:=fun b o e=>aFO _ (aFO _ e);have hx:((s.heap.push PySem.W.emptyDict).push (PySem.W.instObj C s.heap.objs.size)).get? (s.heap.objs.size+1)=some (PySem.W.instObj C s.heap.objs.size):=by
  have e:=aF6 (s.heap.push PySem.W.emptyDict) (o:=PySem.W.instObj C s.heap.objs.size) rfl
  rwa[aHM]at e
 have t1:PySem.W.Looks (model X.prog X.w) ((s.heap.push PySem.W.emptyDict).push (PySem.W.instObj C s.heap.objs.size)) (typeOf (.ref (s.heap.objs.size+1))) (.ref C):=(PySem.W.Looks.ld hx).andThen .now;have t2:PySem.W.Looks (model X.prog X.w) ((s.heap.push PySem.W.emptyDict).push (PySem.W.instObj C s.heap.objs.size)) (isInstance (.ref (s.heap.objs.size+1)) (.type "object")) true:=t1.andThen (Y.top.keeps k);refine codeAny_call_builtin PySem.W.oi_plain PySem.W.entry_oi (@PySem.W.check_slot (model X.prog X.w) _ _ _ "object.__init__" "object" "__init__" (.ref (s.heap.objs.size+1)) [] [] _ PySem.W.oi_kind PySem.W.oi_split t2 (PySem.W.oi_args (.ref (s.heap.objs.size+1))) ?_);rw[PySem.W.oi_run];exact wpAny_pure ⟨rfl,⟨V.ref (s.heap.objs.size+1),_,I2,rfl,hq⟩⟩
theorem Nb(M:ZJ X.K C)(hg:Gl X x)(hm:X.mg x=some (.ref C))(hdb:(x==("__debug__" : Str))=false:=by decide):PE X (.Call (.Name x p) [] [] pos) (NK C):=by
 intro pins s σ H Q I h;refine wpAny_Call_Name_kw (pL I hg hm ?_ hdb);exact PySem.W.callWith_K0 I.kIn M.kp (Jk M I h)
end
end L2
namespace Kn
open PySem L2 TD
open Builtin.Int (intBits)
inductive Tr where
 |stop
 |take (b:Int) (t:Tr)
 |opn (b:Int) (ts:List Tr)
inductive Dp:Tr->Nat->Prop
 |stop (n:Nat):Dp .stop (n+1)
 |take {b:Int}{t:Tr}{n:Nat} (h:Dp t n):Dp (.take b t) (n+1)
 |opn {b:Int}{ts:List Tr}{n:Nat} (h:∀t∈ts,Dp t n) (hl:ts.length<=4):Dp (.opn b ts) (n+1)
inductive lH (H:Hp):Addr->Tr->Prop
 |stop {a:Addr} (h:H a=some (.tup [.str "stop"])):lH H a .stop
 |take {a p:Addr}{b:Int}{t:Tr} (h:H a=some (.tup [.str "take",.int b,.ref p])) (k:lH H p t):lH H a (.take b t)
 |opn {a q:Addr}{ps:List Addr}{b:Int}{ts:List Tr} (h:H a=some (.tup [.str "open",.int b,.ref q])) (g:H q=some (.tup (ps.map V.ref))) (l:ps.length=ts.length) (k:∀(i:Nat) (p:Addr) (t:Tr),ps[i]? = some p->ts[i]? = some t->lH H p t):lH H a (.opn b ts)
structure Cl where
 cS:Addr
 cT:Addr
 cO:Addr
noncomputable def fT (b:Int)(p:Addr):List (Str×V):=[("box",.int b),("then",.ref p)]
noncomputable def fO (b:Int)(q:Addr):List (Str×V):=[("box",.int b),("plans",.ref q)]
inductive lG (c:Cl)(H:Hp):Addr->Tr->Prop
 |stop {a dx:Addr} (h:H a=some (.ins c.cS dx [])):lG c H a .stop
 |take {a dx p:Addr}{b:Int}{t:Tr} (h:H a=some (.ins c.cT dx (fT b p))) (k:lG c H p t):lG c H a (.take b t)
 |opn {a dx q:Addr}{ps:List Addr}{b:Int}{ts:List Tr} (h:H a=some (.ins c.cO dx (fO b q))) (g:H q=some (.tup (ps.map V.ref))) (l:ps.length=ts.length) (k:∀(i:Nat) (p:Addr) (t:Tr),ps[i]? = some p->ts[i]? = some t->lG c H p t):lG c H a (.opn b ts)
variable{H H':Hp}{a:Addr}
theorem lH.keep{t:Tr}(h:lH H a t)(s:∀b xs,H b=some (.tup xs)->H' b=some (.tup xs)):lH H' a t:=by
 induction h with
 |stop h=>exact .stop (s _ _ h)
 |take h _ ih=>exact .take (s _ _ h) ih
 |opn h g l _ ih=>exact .opn (s _ _ h) (s _ _ g) l ih
theorem lH.same{t:Tr}(s:aP H H')(h:lH H a t):lH H' a t:=h.keep fun b xs e=>s _ _ e
theorem lG.same{c:Cl}{t:Tr}(s:aP H H')(h:lG c H a t):lG c H' a t:=by
 induction h with
 |stop h=>exact .stop (s _ _ h)
 |take h _ ih=>exact .take (s _ _ h) ih
 |opn h g l _ ih=>exact .opn (s _ _ h) (s _ _ g) l ih
theorem Dp.mono{t:Tr}{n m:Nat}(h:Dp t n):n<=m->Dp t m:=by
 induction h generalizing m with
 |stop n=>intro l;obtain⟨k,rfl⟩:∃k,m=k+1:=⟨m-1,by lia⟩;exact .stop k
 |take _ ih=>intro l;obtain⟨k,rfl⟩:∃k,m=k+1:=⟨m-1,by lia⟩;exact .take (ih (by lia))
 |opn _ hl ih=>intro l;obtain⟨k,rfl⟩:∃k,m=k+1:=⟨m-1,by lia⟩;exact .opn (fun t ht=>ih t ht (by lia)) hl
structure CF (K:PySem.W.Frag)(C:Addr):Prop where
 cl:rZ K C
 ha:PySem.W.findIn K (.ref C) "__class__" = some (some (.builtin "object.__class__"))
 hm:PySem.W.mroIn K C (.type "object")=some true
structure CK (K:PySem.W.Frag)(c:Cl)(cP:Addr):Prop where
 hn:PySem.W.specialIn K (.builtin "object.__class__") "__get__" = some (some (.builtin "getset_descriptor.__get__"))
 htk:PySem.W.takesIn K (.builtin "object.__class__")=some true
 s:CF K c.cS
 t:CF K c.cT
 o:CF K c.cO
 tb:b8 K c.cT "box"
 tt:b8 K c.cT "then"
 ob:b8 K c.cO "box"
 op:b8 K c.cO "plans"
 sS:PySem.W.kitOne K (.ref c.cS) (.ref c.cS)=some true
 sT:PySem.W.kitOne K (.ref c.cS) (.ref c.cT)=some false
 sO:PySem.W.kitOne K (.ref c.cS) (.ref c.cO)=some false
 sP:PySem.W.kitOne K (.ref c.cS) (.ref cP)=some true
 tS:PySem.W.kitOne K (.ref c.cT) (.ref c.cS)=some false
 tT:PySem.W.kitOne K (.ref c.cT) (.ref c.cT)=some true
 tO:PySem.W.kitOne K (.ref c.cT) (.ref c.cO)=some false
 tP:PySem.W.kitOne K (.ref c.cT) (.ref cP)=some true
 oS:PySem.W.kitOne K (.ref c.cO) (.ref c.cS)=some false
 oT:PySem.W.kitOne K (.ref c.cO) (.ref c.cT)=some false
 oO:PySem.W.kitOne K (.ref c.cO) (.ref c.cO)=some true
 oP:PySem.W.kitOne K (.ref c.cO) (.ref cP)=some true
theorem CK.ty{K:PySem.W.Frag}{c:Cl}{cP C:Addr}(k:CK K c cP)(f:CF K C){dx:Addr}{fs:List (Str×V)}(e:H a=some (.ins C dx fs)):iB K H (.ref a) (.ref C):=.ins e f.cl f.ha k.hn k.htk f.hm
inductive Xn (C:Addr)(vs:List V)(H:Hp)(Q:VK)(_:XK):Prop
 |mk (x:Addr) (dx:Addr) (b:Int) (y:Addr) (_:vs=[.ref x,.int b,.ref y]) (_:H x=some (.ins C dx [])) (_:∀H',H' x=some (.ins C dx (fT b y))->(∀z,z≠x->H' z=H z)->Q .non H')
inductive ZM (C:Addr)(vs:List V)(H:Hp)(Q:VK)(_:XK):Prop
 |mk (x:Addr) (dx:Addr) (b:Int) (y:Addr) (ps:List Addr) (_:vs=[.ref x,.int b,.ref y]) (_:H x=some (.ins C dx [])) (_:H y=some (.lst (ps.map V.ref))) (_:∀(q:Addr) (H':Hp),H q=none->H' x=some (.ins C dx (fO b q))->H' q=some (.tup (ps.map V.ref))->(∀z o,H z=some o->z≠x->H' z=some o)->Q .non H')
def isK (k:Nat):Tr->Prop
 | .stop=>k=0
 | .take _ _=>k=1
 | .opn _ _=>k=2
inductive gJ (c:Cl)(k d:Nat)(vs:List V)(H:Hp)(Q:VK)(_:XK):Prop
 |mk (a:Addr) (t:Tr) (_:vs=[.ref a]) (_:lG c H a t) (_:isK k t) (_:Dp t d) (_:∀(p:Addr) (H':Hp),aP H H'->lH H' p t->Q (.ref p) H')
theorem aBm:¬ (("box" : Str) = "then"):=by decide +kernel
theorem aBr:¬ (("box" : Str) = "plans"):=by decide +kernel
theorem O3(b:Int)(p:Addr):iY "then" (.ref p) (iY "box" (.int b) [])=fT b p:=by
 show(if("box" : Str) = "then" then [(("box" : Str),V.ref p)] else(("box" : Str),V.int b)::iY "then" (V.ref p) [])=fT b p;rw[if_neg aBm]
 rfl
theorem O2(b:Int)(p:Addr):iY "plans" (.ref p) (iY "box" (.int b) [])=fO b p:=by
 show(if("box" : Str) = "plans" then [(("box" : Str),V.ref p)] else(("box" : Str),V.int b)::iY "plans" (V.ref p) [])=fO b p;rw[if_neg aBr]
 rfl
theorem Mi(b:Int)(p:Addr):(fT b p).lookup ("box" : Str)=some (.int b):=by unfold fT;rw[aIb]
theorem Kz(b:Int)(p:Addr):(fO b p).lookup ("box" : Str)=some (.int b):=by unfold fO;rw[aIb]
theorem Hv(b:Int)(p:Addr):(fT b p).lookup ("then" : Str)=some (.ref p):=by rw[<-O3,fX,if_pos rfl]
theorem FT(b:Int)(p:Addr):(fO b p).lookup ("plans" : Str)=some (.ref p):=by rw[<-O2,fX,if_pos rfl]
theorem nt1:¬ (("told" : Str) = "then"):=by decide +kernel
theorem nt2:¬ (("told" : Str) = "box"):=by decide +kernel
theorem nt3:¬ (("told" : Str) = "plans"):=by decide +kernel
theorem Oq(b:Int)(p:Addr):(fT b p).lookup ("told" : Str)=none:=by rw[<-O3,fX,if_neg nt1,fX,if_neg nt2];rfl
theorem Oi(b:Int)(p:Addr):(fO b p).lookup ("told" : Str)=none:=by rw[<-O2,fX,if_neg nt3,fX,if_neg nt2];rfl
end Kn
namespace K86
open PySem L2 TD Kn
open Builtin.Int (intBits)
section
variable{P:Program}{w:World}{K:PySem.W.Frag}{mg:Str->Option Value}{base:Heap}
variable{fd:FuncData}
theorem tX{n:Nat}{f:Addr}(F:dJ K "__init__" "Take.__init__" (inClass (top 45) 0) f fd){c:Cl}{cP:Addr}(ck:Kn.CK K c cP):aN P w K mg base bT (n+1) f fd ["self","box","then"] (Xn c.cT):=by
 refine F.go mJ fun cdv A outer s H vs Q E hr h=>?_;obtain⟨x,dx,b,y,rfl,hx,q⟩:=h;have nd:=mJ.nd;refine⟨_,(aG (gB (pv 0) (pv 1) rfl) (aJ (gB (pv 0) (pv 2) rfl))),?_⟩;refine⟨_,rfl,_,rfl,x,c.cT,dx,[],rfl,hx,ck.t.cl,ck.tb,(by show 0<1000;decide),_,rfl,_,rfl,x,c.cT,dx,_,rfl,aB,ck.t.cl,ck.tt,(by show 1<1000;decide),?_⟩;refine q _ ?_ fun z hz=>?_
 ·rw[aB];exact congrArg (fun l=>some (HO.ins c.cT dx l)) (O3 b y)
 ·rw[aK hz,aK hz]
theorem uL{n:Nat}{f:Addr}(F:dJ K "__init__" "Open.__init__" (inClass (top 46) 0) f fd){c:Cl}{cP:Addr}(ck:Kn.CK K c cP)(b_:mg "tuple" = none):aN P w K mg base bT (n+1) f fd ["self","box","plans"] (ZM c.cO):=by
 refine F.go mG fun cdv A outer s H vs Q E hr h=>?_;obtain⟨x,dx,b,y,ps,rfl,hx,hy,q⟩:=h;have nd:=mG.nd;refine⟨_,(aG (gB (pv 0) (pv 1) rfl) (aJ (gB (pv 0) (dD (bR (K:=K) rfl) rfl b_ dZ (aA (pv 2) aC)) rfl))),?_⟩;have nxy:y≠x:=dG hy hx fun z=>nomatch z
 refine⟨_,rfl,_,rfl,x,c.cO,dx,[],rfl,hx,ck.o.cl,ck.ob,(by show 0<1000;decide),_,rfl,y,_,rfl,.inl ⟨bV.of (by rw[aK nxy];exact hy),fun l hl=>?_⟩⟩;have nlx:l≠x:=fun z=>by rw[z,aB]at hl;cases hl
 refine⟨_,rfl,x,c.cO,dx,_,rfl,(by rw[aK nlx.symm];exact aB),ck.o.cl,ck.op,(by show 1<1000;decide),?_⟩;have hln:H l=none:=by rw[aK nlx]at hl;exact hl
 refine q l _ hln ?_ ?_ fun z o hz nz=>?_
 ·rw[aB];exact congrArg (fun l=>some (HO.ins c.cO dx l)) (O2 b l)
 ·rw[aK nlx,aB]
 ·rw[aK nz,aK (aR hz hln),aK nz];exact hz
end
end K86
namespace K86
open PySem L2 TD TP
open Builtin.Int (intBits)
section
variable{P:Program}{w:World}{K:PySem.W.Frag}{mg:Str->Option Value}{base:Heap}{Pt:Addr}
theorem qW{n:Nat}{f:Addr}{fd:FuncData}(F:dJ K "__init__" "Listed.__init__" (inClass (top 41) 0) f fd){C:Addr}(cf:rZ K C)(aC1:PySem.W.findIn K (.ref C) "sets" = some none)(N_:Cl P w K mg base n "is_numbers" GQ)(b_:mg "tuple" = none)(D_:mg "sorted" = none)(i_:mg "len" = none)(aDO:mg "set" = none){aCr:Value}(X_:mg "MOST_SETS" = some aCr)(Y_:RelV (.int 64) aCr):aN P w K mg base bT (n+1) f fd ["self","sets"] (Rb C):=by
 refine F.go lA fun cdv A outer s H vs Q E hr h=>?_;obtain⟨x,dx,a,ks,rfl,hx,ha,g,q⟩:=h;have nd:=lA.nd;refine⟨_,(aG (dI (PW.pt (iU (cF (bQ (aF N_ hr (aA (pv 1) (aA aL (aA (bU (v:=.int 64) rfl X_ Y_) (aA (aV nF (bU (v:=.int 64) rfl X_ Y_) aL) aC))))))) (gM (bJ zL (aQ yS rfl i_ gP (aA (dD (GZ (K:=K) rfl rfl) rfl aDO Vt (aA (pv 1) aC)) aC)) (aQ cQ rfl i_ gP (aA (pv 1) aC)) (bD _))))) (aJ fW) bM) (aJ (gB (pv 0) (dD (bR (K:=K) rfl) rfl b_ dZ (aA (aQ (qI (K:=K) rfl) rfl D_ tV (aA (pv 1) aC)) aC)) rfl))),?_⟩;have g1:=g.l1;have g64:=g.l64;refine⟨_,rfl,_,_,rfl,rfl,a,ks,1,64,63,rfl,ha,by omega,by omega,g64,g.k,fun H1 s1=>?_⟩;refine⟨_,rfl,?_⟩;refine dW ?_;refine⟨_,rfl,a,ks,rfl,bV.of (s1 _ _ ha),(by show ks.length+1<4096;omega),fun r hr0=>?_⟩;have n1:=aD hr0 (.set (fun k=>(M8 ks).any (·==k)) (M8 ks).length);refine⟨r,_,_,rfl,aB,_,rfl,a,_,rfl,.inl (bV.of ((s1.trans n1) _ _ ha)),rfl,_,rfl,?_⟩;refine iW (by rw[PX g.nd,gH];simp) ?_;have s2:=s1.trans n1;generalize bH H1 r (.set (fun k=>(M8 ks).any (·==k)) (M8 ks).length)=H2 at s2 ⊢;refine⟨_,rfl,a,ks,rfl,.inl (bV.of (s2 _ _ ha)),g.few,fun l ms hl pm so=>?_⟩;have n3:=aD hl (.lst (Is ms));refine⟨l,_,rfl,.inl ⟨bV.of aB,fun t ht=>?_⟩⟩;have n4:=aD ht (.tup (Is ms));have s4:=s2.trans (n3.trans n4);exact⟨_,rfl,x,C,dx,[],rfl,s4 _ _ hx,cf,aC1,(by show 0<1000;decide),q t ms _ s4 pm so aB⟩
end
end K86
namespace TX
open PySem L2 TD Kn PyProof.Rows
open Builtin.Int (intBits)
theorem Pu(a b:String):Str.ofString (a++b)=Str.ofString a++Str.ofString b:=by
 refine PySem.Str.ext' ?_;rw[PySem.Str.cps_append];refine Array.ext' ?_;rw[aHn,signs_ofString,signs_ofString,signs_ofString,String.toList_append,aFQ]
theorem emp:(Str.ofString "").cps = #[]:=by
 refine Array.ext' ?_;rw[signs_ofString]
 rfl
theorem YG(x:Str):Str.ofString ""++x=x:=by
 refine PySem.Str.ext' ?_;rw[PySem.Str.cps_append,emp,aIo]
theorem Qw(x:Str):x++Str.ofString "" = x:=by
 refine PySem.Str.ext' ?_;rw[PySem.Str.cps_append,emp,Array.append_empty]
theorem len_app(a b:Str):(a++b).length=a.length+b.length:=PySem.Str.length_append a b
theorem Hi{n:Int}(h:n<0):Str.ofString "-"++lF (0-n)=lF n:=by
 unfold lF;rw[toString_neg h,Pu]
theorem fK{n:Int}(h0:0<=n){k:Nat}(hk:0<k)(h:n<10^k):(lF n).length<=k:=toString_length_le h0 hk h
theorem jO(sep:Str)(ts:List Str):(Txt.join sep ts).length<=(ts.map (·.length)).sum+ts.length*sep.length:=by
 cases ts with
 |nil=>exact aGe _
 |cons a l =>
  show(Builtin.Str.glued sep (a::l)).length<=_;rw[StrLaws.glued_eq_join,len_join_cons,aF8,aHv,Nat.one_mul];omega
theorem Lb{B:Nat}:∀{l:List Nat},(∀n∈l,n<=B)->l.sum<=l.length*B
 | [],_=>by simp
 |n::l,h=>by
  have a:=Lb (l:=l) fun m hm=>h m (aFK _ hm);have b:=h n aFL;rw[aF7,aF8,aHv,Nat.one_mul];omega
theorem iM{sep:Str}{ts:List Str}{B:Nat}(h:∀t∈ts,t.length<=B):(ts.map (·.length)).sum+ts.length*sep.length<=ts.length*(B+sep.length):=by
 have a:=Lb (B:=B) (l:=ts.map (·.length)) fun n hn=>by
  obtain⟨t,ht,rfl⟩:=aFT.mp hn;exact h t ht
 rw[aFJ]at a;rw[aHu];omega
noncomputable def tM:Nat->Sd.Sd->Str
 | 0,_=>Str.ofString ""
 |_+1,.en v=>lF v
 |n+1,.st p rs=>lF p++Str.ofString "["++Txt.join (Str.ofString " ") (rs.map fun r=>lF r.1++Str.ofString ":"++tM n r.2)++Str.ofString "]"
theorem Aq{w:Int}(h:1<=w/\w<=1000)(x:Str):(lF w++Str.ofString ":"++x).length<=5+x.length:=by
 rw[len_app,len_app];have a:=fK (n:=w) (by omega) (k:=4) (by decide) (by show w<10000;omega);have b:(Str.ofString ":").length=1:=by decide
 omega
theorem lU:∀{n d m:Nat}{s:Sd.Sd},Sd.Ok s d m->(tM n s).length<=50*5^n
 | 0,_,_,_,_=>by show(Str.ofString "").length<=_;decide
 |n+1,_,_,_,.en h0 h9 hm=>by
  have a:=fK h0 (k:=10) (by decide) (by show _<(10000000000:Int);omega);have:1<=5^(n+1):=Nat.pow_pos (by decide);show(lF _).length<=_;omega
 |n+1,_,_,_,.st (p:=p) (rs:=rs) h0 h9 ne l4 w sub hk=>by
  show(lF p++Str.ofString "["++Txt.join (Str.ofString " ") (rs.map fun r=>lF r.1++Str.ofString ":"++tM n r.2)++Str.ofString "]").length<=_;rw[len_app,len_app,len_app];have a:=fK h0 (k:=10) (by decide) (by show _<(10000000000:Int);omega);have b1:(Str.ofString "[").length=1:=by decide
  have b2:(Str.ofString "]").length=1:=by decide
  have b3:(Str.ofString " ").length=1:=by decide
  have c:=aFN (jO (Str.ofString " ") (rs.map fun r=>lF r.1++Str.ofString ":"++tM n r.2)) (iM (B:=5+50*5^n) fun t ht=>by
   obtain⟨r,hr,rfl⟩:=aFT.mp ht;exact aFN (Aq (w r hr) _) (aG3 (lU (sub r hr)) 5))
  rw[aFJ,b3]at c;have c2:=aGM (5+50*5^n+1) l4;have:1<=5^n:=Nat.pow_pos (by decide);rw[Nat.pow_succ];omega
inductive sZ:Tr->Nat->Nat->Prop
 |stop (d m:Nat) (hm:1<=m):sZ .stop (d+1) m
 |take {b:Int}{t:Tr}{d m:Nat} (hb:0<=b/\b<=5) (h:sZ t d m) (hm:1<=m):sZ (.take b t) (d+1) m
 |opn {b:Int}{ts:List Tr}{d m:Nat} (hb:0<=b/\b<=5) (h1:1<=ts.length) (hl:ts.length<=4) (lm:ts.length<=m) (h:∀t∈ts,sZ t d (m/ts.length)):sZ (.opn b ts) (d+1) m
theorem sZ.dp{t:Tr}{d m:Nat}(h:sZ t d m):Dp t d:=by
 induction h with
 |stop d m hm=>exact .stop d
 |take hb h hm ih=>exact .take ih
 |opn hb h1 hl lm h ih=>exact .opn ih hl
noncomputable def yL:Nat->Tr->Str
 | 0,_=>Str.ofString ""
 |_+1,.stop=>Str.ofString "stop"
 |n+1,.take b t=>Str.ofString "take "++lF b++Str.ofString " "++yL n t
 |n+1,.opn b ts=>Str.ofString "open "++lF b++Str.ofString " ("++Txt.join (Str.ofString ", ") (ts.map (yL n))++Str.ofString ")"
theorem pQ{b:Int}(h:0<=b/\b<=5):(lF b).length<=1:=fK h.1 (by decide) (by show b<10;omega)
theorem Ia{t:Tr}{d m:Nat}(h:sZ t d m):∀n,(yL n t).length<=20*d*m:=by
 induction h with
 |stop d m hm =>
  intro n;have e:20<=20*(d+1)*m:=by
   have:=aIh (show 20<=20*(d+1) by omega) hm;omega
  cases n with
  |zero=>show(Str.ofString "").length<=_;exact aFN (by decide:_<=20) e
  |succ n=>show(Str.ofString "stop").length<=_;exact aFN (by decide:_<=20) e
 | @take b t d m hb h hm ih =>
  intro n;have e:20*d*m+20*m=20*(d+1)*m:=by rw[aHu,aHv]
  cases n with
  |zero=>show(Str.ofString "").length<=_;exact aFN (by decide:_<=0) (aGe _)
  |succ n =>
   show(Str.ofString "take "++lF b++Str.ofString " "++yL n t).length<=_;rw[len_app,len_app,len_app];have a:=ih n;have c:=pQ hb;have b1:(Str.ofString "take ").length=5:=by decide
   have b2:(Str.ofString " ").length=1:=by decide
   omega
 | @opn b ts d m hb h1 hl lm h ih =>
  intro n;have e:20*d*m+20*m=20*(d+1)*m:=by rw[aHu,aHv]
  cases n with
  |zero=>show(Str.ofString "").length<=_;exact aFN (by decide:_<=0) (aGe _)
  |succ n =>
   show(Str.ofString "open "++lF b++Str.ofString " ("++Txt.join (Str.ofString ", ") (ts.map (yL n))++Str.ofString ")").length<=_;rw[len_app,len_app,len_app,len_app];have c:=pQ hb;have b1:(Str.ofString "open ").length=5:=by decide
   have b2:(Str.ofString " (").length=2:=by decide
   have b3:(Str.ofString ")").length=1:=by decide
   have b4:(Str.ofString ", ").length=2:=by decide
   have j:=aFN (jO (Str.ofString ", ") (ts.map (yL n))) (iM (B:=20*d*(m/ts.length)) fun x hx=>by
    obtain⟨t,ht,rfl⟩:=aFT.mp hx;exact ih t ht n)
   rw[aFJ,b4,aHu]at j;have k:ts.length*(20*d*(m/ts.length))<=20*d*m:=by
    rw[Nat.mul_comm,Nat.mul_assoc];exact aGm _ (Nat.div_mul_le_self _ _)
   omega
end TX
namespace L2
open PySem PySem.Spec PyProof.Rows
section
variable{X:Cx}
theorem zF{st:Stmt}{t u:TS}(h1:PS X st t)(h2:PS X st u):PS X st (fun D σ H=>t D σ H∨u D σ H):=fun pins s σ H D I h=>h.elim (h1 pins s σ H D I) (h2 pins s σ H D I)
end
section
variable{X:Cx}{o e:Expr}{es:List Expr}{to:TE}{t:TA}{name:Str}{apos cpos:Pos}{T id:String}{r:V->List V->Hp->VK->Prop}
theorem nU(pa:PlainAttrs T)(slot:Slot T name id)(hty:typeOf (.builtin id)=pure (.type "method_descriptor"))(hm:Ze X id r)(ho:QE X o to)(ha:QA X (e::es) t)
  (hbase:attributeBase o name X.env (eval o X.env)=eval o X.env:=by rfl)
  (hfew:((backTo cpos (starEach (e::es) X.env)).all (fun x=>!x.1)&&(backToKw cpos (keywordEach [] X.env)).all (fun x=>x.1.isSome)
  &&decide ((e::es).length+([]:List Keyword).length+(if([]:List Keyword).isEmpty then 0 else 1)<30))=true:=by rfl)
  (hline:(apos.endLine==cpos.line)=true:=by rfl) (hs:starEach (e::es) X.env=(false,eval e X.env)::starEach es X.env:=by rfl) (hplain:(backTo cpos (starEach es X.env)).any (·.1)=false:=by rfl) :
  QE X (.Call (.Attribute o name apos) (e::es) [] cpos) (tBM X.K T r to t):=⟨pY pa slot hty hm ho.h ha.h hbase hfew hline hs hplain⟩
theorem Cm{X:Cx}{b:List Stmt}{D:Ends}{σ:St}{H:Hp}(h:∃t,U8 X b t/\t D σ H):∃t,yC X b t/\t D σ H:=let⟨t,a,q⟩:=h; ⟨t,a.h,q⟩
end
end L2
namespace K86
open PySem L2 TD TP TX Kn
open Builtin.Int (intBits)
section
variable{P:Program}{w:World}{K:PySem.W.Frag}{mg:Str->Option Value}{base:Heap}{Pt:Addr}
inductive Ku (vs:List V)(H:Hp)(Q:VK)(_:XK):Prop
 |mk (n:Int) (_:vs=[.int n]) (_:n.natAbs<10^60) (_:Q (.str (lF n)) H)
noncomputable def pW (ns:List Int):Str:=Txt.join (Str.ofString " ") (ns.map lF)
inductive Hm (vs:List V)(H:Hp)(Q:VK)(_:XK):Prop
 |mk (a:Addr) (ns:List Int) (_:vs=[.ref a]) (_:H a=some (.tup (ns.map V.int))) (_:ns.length<=100) (_:(∀n∈ns,0<=n/\n<100)) (_:∀H',aP H H'->Q (.str (pW ns)) H')
inductive NQ (c:Cs)(n:Nat)(vs:List V)(H:Hp)(Q:VK)(_:XK):Prop
 |mk (x:Addr) (s:Sd.Sd) (d:Nat) (m:Nat) (m':Nat) (_:vs=[.ref x]) (_:eQ c H x s d m) (_:Sd.Ok s d m') (_:d<n) (_:n<=5) (_:∀H',aP H H'->Q (.str (tM n s)) H')
inductive HX (n:Nat)(vs:List V)(H:Hp)(Q:VK)(_:XK):Prop
 |mk (x:Addr) (s:Sd.Sd) (d:Nat) (m:Nat) (_:vs=[.ref x]) (_:jY H x s) (_:Sd.Ok s d m) (_:d<n) (_:n<=5) (_:∀H',aP H H'->Q (.str (tM n s)) H')
inductive Oz (c:Cl)(n:Nat)(vs:List V)(H:Hp)(Q:VK)(_:XK):Prop
 |mk (x:Addr) (t:Tr) (d:Nat) (m:Nat) (_:vs=[.ref x]) (_:lG c H x t) (_:sZ t d m) (_:d<=n) (_:d<=41) (_:m<=6) (_:∀H',aP H H'->Q (.str (yL n t)) H')
inductive Hd (n:Nat)(vs:List V)(H:Hp)(Q:VK)(_:XK):Prop
 |mk (x:Addr) (t:Tr) (d:Nat) (m:Nat) (_:vs=[.ref x]) (_:lH H x t) (_:sZ t d m) (_:d<=n) (_:d<=41) (_:m<=6) (_:∀H',aP H H'->Q (.str (yL n t)) H')
variable{i:Int}
theorem An(h:i.natAbs<10^60):i.natAbs.log2<1920:=by
 by_cases z:i.natAbs=0
 ·rw[z];decide
 ·exact(Nat.log2_lt z).mpr (aGf h (by decide +kernel))
theorem n60:((10^(60:Int).toNat:Int))=10^60:=rfl
theorem ZL(h:i.natAbs<10^60):(lF i).length<=61:=by
 by_cases z:i<0
 ·rw[<-Hi z,len_app];have a:=fK (n:=0-i) (by omega) (k:=60) (by decide) (by omega);have b:(Str.ofString "-").length=1:=by decide
  omega
 ·have a:=fK (n:=i) (by omega) (k:=60) (by decide) (by omega);omega
theorem jR(h0:0<=i)(h:i<=1000000000):i.natAbs<10^60:=by omega
variable{n:Nat}{f:Addr}{fd:FuncData}
theorem wY(F:dJ K "write_whole" "write_whole" (top 51) f fd)(u_:mg "str" = none)(aCU:mg "abs" = none):aN P w K mg base bT (n+1) f fd ["number"] Ku:=by
 refine F.go oW fun cdv A outer s H vs Q E hr h=>?_;obtain⟨n,rfl,hz,q⟩:=h;have nd:=oW.nd;refine Cm ⟨_,(aO (dY (i:=1) nd rfl (Or.inl rfl) (bY WQ bZ bZ)) (aO (dY (i:=2) nd rfl (Or.inl rfl) bI) (aO (dY (i:=3) nd rfl (Or.inl rfl) (rD Fb rfl aCU Ks (aY (qv 0) bW))) (aO (QS.mk (kI PassesOwn.never (bJ Rh (pv 3) (pv 1) (bD _)) J3)) (aO (dY (i:=4) nd rfl (Or.inl rfl) (QE.mk (FZ (bJ uU (pv 0) aL (bD _)) cI cI))) (bF (bN (bY bK (bY bK (qv 4) (fU iJ rfl u_ j8 (aY (qv 3) bW))) (qv 2))))))))),?_⟩;refine⟨_,_,rfl,rfl,⟨by decide,by decide,by decide⟩,?_⟩;refine⟨_,rfl,n,rfl,?_⟩;refine⟨fun _ σ' H'=>σ'=[some (.int n),some (.int (10^(60:Int).toNat)),some (.str (Str.ofString "")),some (.int (if n<0 then -n else n)),none]/\H'=H,⟨0,rfl,rfl⟩,?_⟩;rintro m σ' H' ⟨rfl,rfl⟩;have hlt:(if n<0 then -n else n)<10^60:=by split <;> omega
 refine⟨_,rfl,_,rfl,_,_,rfl,rfl,_,rfl,?_⟩;refine iW (decide_eq_false (by rw[n60];omega)) ?_
 by_cases z:n<0
 ·refine⟨_,rfl,_,_,rfl,rfl,_,rfl,?_⟩;refine nQ (decide_eq_true z) ?_;refine⟨_,rfl,_,rfl,_,rfl,?_⟩;rw[if_pos z];refine⟨An (by omega),?_⟩;have e:Str.ofString "-"++lF (-n)=lF n:=by rw[show -n=0-n by omega];exact Hi z
  have l:=ZL (i:=-n) (by omega);have b:(Str.ofString "-").length=1:=by decide
  have b0:(Str.ofString "").length=0:=by decide
  refine⟨_,_,rfl,rfl,by omega,_,rfl,_,_,rfl,rfl,by rw[len_app];omega,?_⟩;rw[Qw,e];exact q
 ·refine⟨_,rfl,_,_,rfl,rfl,_,rfl,?_⟩;refine iW (decide_eq_false z) ?_;refine⟨_,rfl,_,rfl,_,rfl,?_⟩;rw[if_neg z];refine⟨An hz,?_⟩;have l:=ZL hz;have b0:(Str.ofString "").length=0:=by decide
  refine⟨_,_,rfl,rfl,by omega,_,rfl,_,_,rfl,rfl,by rw[len_app];omega,?_⟩;rw[Qw,YG];exact q
theorem vP(F:dJ K "write_wholes" "write_wholes" (top 52) f fd)(l_:Cl P w K mg base n "write_whole" Ku):aN P w K mg base bT (n+1) f fd ["numbers"] Hm:=by
 refine F.go nR fun cdv A outer s H vs Q E hr h=>?_;obtain⟨a,ns,rfl,ha,l100,hn,q⟩:=h;have nd:=nR.nd;refine Cm ⟨_,(bF (bN (nU PySem.F.plainAttrs_str PySem.F.slot_str_join PySem.F.type_str_join lL bI (aY (QE.mk (gY ["number"] (lV (pv 0)) (fun _ _ _ _=>⟨(jG 0),cG,(aF l_ hr (aA (pv 0) aC))⟩))) bW)))),?_⟩;have hl:(ns.map V.int).length=ns.length:=aFJ _;refine⟨rfl,_,rfl,a,rfl,⟨_,dN.of ha⟩,fun D hD=>?_⟩;refine jJ (xs:=ns.map V.int) (fun i τ H'=>∃v0,τ = [v0,some (.ref a)]/\aP H H'/\H' D=some (.lst (((ns.take i).map lF).map V.str))) ⟨none,rfl,aD hD _,aB⟩ ?keep ?turn ?done
 case keep =>
  rintro i τ H' hi ⟨v0,rfl,hs,_⟩;exact dN.of (hs _ _ ha)
 case turn =>
  rintro i m v τ H' hm hi hv ⟨v0,rfl,hs,hD'⟩;rw[aF9]at hv;obtain⟨n,hn1,rfl⟩:∃n,ns[i]? = some n/\v=.int n:=by
   cases z:ns[i]? with
   |none=>rw[z]at hv;cases hv
   |some n=>rw[z]at hv;cases hv;exact⟨n,rfl,rfl⟩
  have hb:=hn n (aFY hn1);refine yM ?_;refine⟨_,rfl,n,rfl,by omega,?_⟩;refine bG hm hi hD' (by rw[aFJ,aFJ,aGh];exact aU (by omega)) ⟨_,rfl,hs.upd_new hD _,?_⟩;rw[aB,take_snoc hn1,aFQ,aFQ]
  rfl
 case done =>
  rintro τ H' ⟨v0,rfl,hs,hD'⟩;rw[hl,aF5]at hD';refine⟨_,D,ns.map lF,rfl,rfl,bV.of hD',?_,q H' hs⟩;refine aFN (iM (B:=2) fun t ht=>?_) ?_
  ·obtain⟨n,hn1,rfl⟩:=aFT.mp ht;exact fK (hn n hn1).1 (by decide) (by have:=(hn n hn1).2;show n<100;omega)
  ·have b:(Str.ofString " ").length=1:=by decide
   rw[aFJ,b];omega
theorem vN(F:dJ K "_law_numbers" "_law_numbers" (top 81) f fd)(u_:mg "str" = none):aN P w K mg base bT (n+1) f fd ["_law_numbers_here"] Hm:=by
 refine F.go nM fun cdv A outer s H vs Q E hr h=>?_;obtain⟨a,ns,rfl,ha,l100,hn,q⟩:=h;have nd:=nM.nd;refine Cm ⟨_,(bF (bN (nU PySem.F.plainAttrs_str PySem.F.slot_str_join PySem.F.type_str_join lL bI (aY (QE.mk (gY ["_law_number"] (lV (pv 0)) (fun _ _ _ _=>⟨(jG 0),cG,(dD iJ rfl u_ j8 (aA (pv 0) aC))⟩))) bW)))),?_⟩;have hl:(ns.map V.int).length=ns.length:=aFJ _;refine⟨rfl,_,rfl,a,rfl,⟨_,dN.of ha⟩,fun D hD=>?_⟩;refine jJ (xs:=ns.map V.int) (fun i τ H'=>∃v0,τ = [v0,some (.ref a)]/\aP H H'/\H' D=some (.lst (((ns.take i).map lF).map V.str))) ⟨none,rfl,aD hD _,aB⟩ ?keep ?turn ?done
 case keep =>
  rintro i τ H' hi ⟨v0,rfl,hs,_⟩;exact dN.of (hs _ _ ha)
 case turn =>
  rintro i m v τ H' hm hi hv ⟨v0,rfl,hs,hD'⟩;rw[aF9]at hv;obtain⟨n,hn1,rfl⟩:∃n,ns[i]? = some n/\v=.int n:=by
   cases z:ns[i]? with
   |none=>rw[z]at hv;cases hv
   |some n=>rw[z]at hv;cases hv;exact⟨n,rfl,rfl⟩
  have hb:=hn n (aFY hn1);refine yM ?_;refine⟨_,rfl,n,rfl,An (by omega),?_⟩;refine bG hm hi hD' (by rw[aFJ,aFJ,aGh];exact aU (by omega)) ⟨_,rfl,hs.upd_new hD _,?_⟩;rw[aB,take_snoc hn1,aFQ,aFQ]
  rfl
 case done =>
  rintro τ H' ⟨v0,rfl,hs,hD'⟩;rw[hl,aF5]at hD';refine⟨_,D,ns.map lF,rfl,rfl,bV.of hD',?_,q H' hs⟩;refine aFN (iM (B:=2) fun t ht=>?_) ?_
  ·obtain⟨n,hn1,rfl⟩:=aFT.mp ht;exact fK (hn n hn1).1 (by decide) (by have:=(hn n hn1).2;show n<100;omega)
  ·have b:(Str.ofString " ").length=1:=by decide
   rw[aFJ,b];omega
structure R8 (rs:List (Int×Sd.Sd))(d:Nat)(k:Int×Sd.Sd->Nat):Prop where
 sub:∀t∈rs,Sd.Ok t.2 d (k t)
variable{n0:Nat}
theorem BL(F:dJ K "write_box" "write_box" (top 53) f fd){c:Cs}(ck:CK K c){aE1:Addr}{aEF:FuncData}(aFl:cJ K c.e "is_end" aE1)(aFm:aN P w K mg base bT n aE1 aEF ["self"] (zY c true))(aFn:Binds K aEF ["self"] []){aE2:Addr}{aEG:FuncData}(aFo:cJ K c.s "is_end" aE2)(aFp:aN P w K mg base bT n aE2 aEG ["self"] (zY c false))(aFq:Binds K aEG ["self"] [])(l_:Cl P w K mg base n "write_whole" Ku)(H_:Cl P w K mg base n "write_box" (NQ c n0)):aN P w K mg base bT (n+1) f fd ["stand"] (NQ c (n0+1)):=by
 refine F.go q9 fun cdv A outer s H vs Q E hr h=>?_;obtain⟨x,s,d,m,m2,rfl,st,ok,dn,n5,q⟩:=h;have nd:=q9.nd;refine Cm ⟨_,(aO (gG (uE (QE.mk (dR (aX (pv 0) ck.ce aFl aFm hr aFn .nil bC) (aX (pv 0) ck.cs aFo aFp hr aFq .nil bC)))) (bF (bN (QE.mk (aF l_ hr (aA (cH (pv 0) rfl) aC))))) cN) (aO (dY (i:=1) nd rfl (Or.inl rfl) (nU PySem.F.plainAttrs_str PySem.F.slot_str_join PySem.F.type_str_join lL bI (aY (QE.mk (gY ["weight","after"] (lV (cH (pv 0) rfl)) (fun _ _ _ _=>⟨(iV (K:=K) (n:=2) rfl rfl (bO (jG 0) (bO (jG 1) gK))),cG,(aV bK (aV bK (aF l_ hr (aA (pv 0) aC)) cI) (aF H_ hr (aA (pv 1) aC)))⟩))) bW))) (bF (bN (bY bK (bY bK (bY bK (QE.mk (aF l_ hr (aA (cH (pv 0) rfl) aC))) bI) (qv 1)) bI))))),?_⟩;refine MP (σ:=[some (.ref x),none]) (fun Q' r=>⟨_,rfl,r⟩) st fun b hb=>?_;rcases hb with⟨⟨v,rfl⟩,rfl⟩ | ⟨⟨p,rs,rfl⟩,rfl⟩
 ·refine⟨_,rfl,?_⟩;refine iZ ?_;cases st with
  | @en _ dx l cp _ nn kk _ _ xs h vv ok1 =>
   cases ok with
   |en h0 h9 hm =>
    exact⟨_,rfl,x,c.e,dx,_,_,rfl,h,ck.ce,ck.e5,rfl,v,rfl,jR h0 h9,q H (aP.refl _)⟩
 ·refine⟨_,rfl,?_⟩;refine dW ?_;cases st with
  | @st _ dx l cp r _ nn kk lv dd _ j xs _ ps ys h vv g lp ly row sub p0 p9 ne l4 w hk =>
  have okS:∃kq:Int×Sd.Sd->Nat,∀t∈rs,Sd.Ok t.2 dd (kq t):=by
   cases ok with
   |st _ _ _ _ _ sb _=>exact⟨_,sb⟩
  obtain⟨kq,sb⟩:=okS;have okS:R8 rs dd kq:=⟨sb⟩
  have hpl:(ps.map V.ref).length=ps.length:=aFJ _;refine⟨rfl,_,rfl,x,c.s,dx,_,_,rfl,h,ck.cs,ck.s6,rfl,r,rfl,⟨_,dN.of g⟩,fun D hD=>?_⟩;refine jJ (xs:=ps.map V.ref) (fun i τ H'=>∃v0 v1,τ = [v0,v1,some (.ref x),none]/\aP H H'/\H' D=some (.lst (((rs.take i).map fun r=>lF r.1++Str.ofString ":"++tM n0 r.2).map V.str))) ⟨none,none,rfl,aD hD _,aB⟩ ?keep ?turn ?done
  case keep =>
   rintro i τ H' hi ⟨v0,v1,rfl,hs,_⟩;exact dN.of (hs _ _ g)
  case turn =>
   rintro i m v τ H' hm hi hv ⟨v0,v1,rfl,hs,hD'⟩;rw[aF9]at hv;obtain⟨pq,hpq,rfl⟩:∃pq,ps[i]? = some pq/\v=.ref pq:=by
    cases z:ps[i]? with
    |none=>rw[z]at hv;cases hv
    |some pq=>rw[z]at hv;cases hv;exact⟨pq,rfl,rfl⟩
   have hip:=(aFU.mp hpq).1;have er:rs[i]? = some rs[i]:=aFM (by omega);have hmr:rs[i]∈rs:=aGB (by omega);generalize rs[i]=t at er hmr;have ey:ys[i]? = some ys[i]:=aFM (by omega);generalize ys[i]=y at ey;have hq:=hs _ _ (row i pq y t hpq ey er);have wt:=w t hmr;refine⟨pq,_,rfl,dN.of hq,rfl,_,_,rfl,_,_,rfl,rfl,?_⟩;refine eG ?_;have l1:=fK (n:=t.1) (by omega) (k:=4) (by decide) (by show t.1<10000;omega);have c1:(Str.ofString ":").length=1:=by decide
   have l2:=lU (n:=n0) (okS.sub t hmr);have l3:50*5^n0<=50*5^5:=aGm _ (aHj (by decide) (by omega));refine⟨_,rfl,t.1,rfl,jR (by omega) (by omega),_,_,rfl,rfl,by omega,?_⟩;refine⟨_,rfl,y,t.2,dd,j t,kq t,rfl,eQ.same hs (sub i y t ey er),sb t hmr,by omega,by omega,fun H2 s2=>?_⟩;refine⟨_,_,rfl,rfl,by rw[len_app];have:50*5^5=156250:=(by decide);omega,?_⟩;refine bG hm hi (s2 _ _ hD') (by rw[aFJ,aFJ,aGh];exact aU (by omega)) ⟨_,_,rfl,(hs.trans s2).upd_new hD _,?_⟩;rw[aB,take_snoc er,aFQ,aFQ]
   rfl
  case done =>
  rintro τ H1 ⟨v0,v1,rfl,s1,hD1⟩;rw[hpl,lp,aF5]at hD1;have c3:(Str.ofString " ").length=1:=by decide
  have b5:5^n0<=5^5:=aHj (by decide) (by omega);have b6:(5:Nat)^5=3125:=by decide
  have jl:=iM (sep:=Str.ofString " ") (ts:=rs.map fun r=>lF r.1++Str.ofString ":"++tM n0 r.2) (B:=5+50*5^n0) fun x hx=>by
   obtain⟨r,hr,rfl⟩:=aFT.mp hx;exact aFN (Aq (w r hr) _) (aG3 (lU (okS.sub r hr)) 5)
  have jl2:=aGM (5+50*5^n0+1) l4;rw[aFJ,c3]at jl;have jm:=jO (Str.ofString " ") (rs.map fun r=>lF r.1++Str.ofString ":"++tM n0 r.2);rw[aFJ,c3]at jm;have lp2:=fK p0 (k:=10) (by decide) (by show p<10000000000;omega);have d1:(Str.ofString "[").length=1:=by decide
  have d2:(Str.ofString "]").length=1:=by decide
  refine⟨_,D,_,rfl,rfl,bV.of hD1,by rw[aFJ];rw[c3];omega,?_⟩;refine⟨_,rfl,x,c.s,dx,_,_,rfl,s1 _ _ h,ck.cs,ck.s5,rfl,p,rfl,jR p0 p9,_,_,rfl,rfl,by omega,_,rfl,_,_,rfl,rfl,by rw[len_app];omega,_,_,rfl,rfl,by rw[len_app,len_app];omega,?_⟩;exact q H1 s1
noncomputable def Lk (ss:List Sd.Sd):Str:=Txt.join (Str.ofString " | ") (ss.map (tM 5))
inductive Rn (c:Cs)(vs:List V)(H:Hp)(Q:VK)(_:XK):Prop
 |mk (a:Addr) (ys:List Addr) (ss:List Sd.Sd) (_:vs=[.ref a]) (_:H a=some (.lst (ys.map V.ref))) (_:ys.length=ss.length) (_:ys.length<=6) (_:(∀(i:Nat) y s,ys[i]? = some y->ss[i]? = some s->∃d m m',eQ c H y s d m/\Sd.Ok s d m'/\d<5)) (_:∀H',aP H H'->Q (.str (Lk ss)) H')
theorem aBx{s:Sd.Sd}{d m:Nat}(h:Sd.Ok s d m):(tM 5 s).length<=156250:=lU (n:=5) h
theorem mD{ps:List Addr}{i:Nat}{v:V}(h:(ps.map V.ref)[i]? = some v):∃p,ps[i]? = some p/\v=.ref p:=by
 rw[aF9]at h;cases e:ps[i]? with
 |none=>rw[e]at h;cases h
 |some p=>rw[e]at h;cases h;exact⟨p,rfl,rfl⟩
theorem Bf{t:Tr}{d m:Nat}(h:sZ t d m)(hd:d<=41)(hm:m<=6):(yL n t).length<=4920:=aFN (Ia h n) (aFN (aIh (aGm 20 hd) hm) (by decide))
theorem xF(F:dJ K "write_boxes" "write_boxes" (top 54) f fd){c:Cs}(H_:Cl P w K mg base n "write_box" (NQ c 5)):aN P w K mg base bT (n+1) f fd ["boxes"] (Rn c):=by
 refine F.go oR fun cdv A outer s H vs Q E hr h=>?_;obtain⟨a,ys,ss,rfl,ha,le,l6,hs0,q⟩:=h;have nd:=oR.nd;refine Cm ⟨_,(bF (bN (nU PySem.F.plainAttrs_str PySem.F.slot_str_join PySem.F.type_str_join lL bI (aY (QE.mk (gY ["box"] (dU (pv 0)) (fun _ _ _ _=>⟨(jG 0),cG,(aF H_ hr (aA (pv 0) aC))⟩))) bW)))),?_⟩;have hl:(ys.map V.ref).length=ys.length:=aFJ _;refine⟨rfl,_,rfl,a,rfl,⟨_,bV.of ha⟩,fun D hD=>?_⟩;refine dF (xs:=ys.map V.ref) (fun i τ H'=>∃v0,τ = [v0,some (.ref a)]/\aP H H'/\H' D=some (.lst (((ss.take i).map (tM 5)).map V.str))) ⟨none,rfl,aD hD _,aB⟩ ?keep ?turn ?done
 case keep =>
  rintro i τ H' hi ⟨v0,rfl,hs,_⟩;exact bV.of (hs _ _ ha)
 case turn =>
  rintro i m v τ H' hm hi hv ⟨v0,rfl,hs,hD'⟩;obtain⟨y,hy,rfl⟩:=mD hv;have hiy:=(aFU.mp hy).1;have es:ss[i]? = some ss[i]:=aFM (by omega);obtain⟨d,mm,m2,st,ok,d5⟩:=hs0 i y _ hy es;refine yM ?_;refine⟨_,rfl,y,_,d,mm,m2,rfl,eQ.same hs st,ok,d5,aFV _,fun H2 s2=>?_⟩;refine bG hm hi (s2 _ _ hD') (by rw[aFJ,aFJ,aGh];exact aU (by omega)) ⟨_,rfl,(hs.trans s2).upd_new hD _,?_⟩;rw[aB,take_snoc es,aFQ,aFQ]
  rfl
 case done =>
  rintro τ H' ⟨v0,rfl,hs,hD'⟩;rw[hl,le,aF5]at hD';refine⟨_,D,ss.map (tM 5),rfl,rfl,bV.of hD',?_,q H' hs⟩;refine aFN (iM (B:=156250) fun t ht=>?_) ?_
  ·obtain⟨s,hs1,rfl⟩:=aFT.mp ht;obtain⟨i,hi⟩:=List.getElem?_of_mem hs1;have hi2:=(aFU.mp hi).1;obtain⟨d,mm,m2,st,ok,d5⟩:=hs0 i _ s (aFM (by omega)) hi;exact aBx ok
  ·have b:(Str.ofString " | ").length=3:=by decide
   rw[aFJ,b];omega
theorem vL(F:dJ K "_law_written" "_law_written" (top 82) f fd)(R_:Cl P w K mg base n "_law_written" (HX n0))(u_:mg "str" = none):aN P w K mg base bT (n+1) f fd ["_law_told"] (HX (n0+1)):=by
 refine F.go nH fun cdv A outer s H vs Q E hr h=>?_;obtain⟨x,s,d,m,rfl,st,ok,dn,n5,q⟩:=h;have nd:=nH.nd;refine Cm ⟨_,(aO (gG (jD fQ (mH cU (qv 0) bZ (fun _ _=>rfl)) bI (bD _)) (bF (bN (fU iJ rfl u_ j8 (aY (mH cU (qv 0) bZ (fun _ _=>rfl)) bW)))) cN) (aO (QS.mk (KJ 1 ["_law_weight","_law_part"] (lV (eE cU (pv 0) aL (fun _ _=>rfl))) (fun _ _ _ _=>⟨(iV (K:=K) (n:=2) rfl rfl (bO (jG 0) (bO (jG 1) gK))),cG,(aV bK (aV bK (dD iJ rfl u_ j8 (aA (pv 0) aC)) cI) (aF R_ hr (aA (pv 1) aC)))⟩))) (bF (bN (bY bK (bY bK (bY bK (fU iJ rfl u_ j8 (aY (mH cU (qv 0) bZ (fun _ _=>rfl)) bW)) bI) (nU PySem.F.plainAttrs_str PySem.F.slot_str_join PySem.F.type_str_join lL bI (aY (qv 1) bW))) bI))))),?_⟩;cases st with
 | @en _ v h =>
  refine⟨_,rfl,x,_,_,_,rfl,rfl,dN.of h,rfl,rfl,_,rfl,nQ rfl ?_⟩;cases ok with
  |en h0 h9 hm=>exact⟨_,rfl,x,_,_,_,rfl,rfl,dN.of h,rfl,v,rfl,An (jR h0 h9),q H (aP.refl _)⟩
 | @st _ r p rs ps ys h g lp ly row sub =>
  refine⟨_,rfl,x,_,_,_,rfl,rfl,dN.of h,rfl,rfl,_,rfl,iW rfl ?_⟩;obtain⟨dd,rfl⟩:∃dd,d=dd+1:=by cases ok with |st=>exact⟨_,rfl⟩
  have okS:∃kq:Int×Sd.Sd->Nat,∀t∈rs,Sd.Ok t.2 dd (kq t):=by
   cases ok with
   |st _ _ _ _ _ sb _=>exact⟨_,sb⟩
  obtain⟨kq,sb⟩:=okS;have okS:R8 rs dd kq:=⟨sb⟩
  have fs:(0<=p/\p<=1000000000)/\rs.length<=4/\∀r∈rs,1<=r.1/\r.1<=1000:=by cases ok with |st h0 h9 ne l4 w sb hk=>exact⟨⟨h0,h9⟩,l4,w⟩
  obtain⟨⟨p0,p9⟩,l4,w⟩:=fs;have hpl:(ps.map V.ref).length=ps.length:=aFJ _;refine⟨_,rfl,x,_,_,_,rfl,rfl,dN.of h,rfl,r,rfl,⟨_,dN.of g⟩,fun D hD=>?_⟩;refine jJ (xs:=ps.map V.ref) (fun i τ H'=>∃v0 v1,τ = [v0,v1,some (.ref x),none]/\aP H H'/\H' D=some (.lst (((rs.take i).map fun r=>lF r.1++Str.ofString ":"++tM n0 r.2).map V.str))) ⟨none,none,rfl,aD hD _,aB⟩ ?keep ?turn ?done
  case keep =>
   rintro i τ H' hi ⟨v0,v1,rfl,hs,_⟩;exact dN.of (hs _ _ g)
  case turn =>
   rintro i m v τ H' hm hi hv ⟨v0,v1,rfl,hs,hD'⟩;rw[aF9]at hv;obtain⟨pq,hpq,rfl⟩:∃pq,ps[i]? = some pq/\v=.ref pq:=by
    cases z:ps[i]? with
    |none=>rw[z]at hv;cases hv
    |some pq=>rw[z]at hv;cases hv;exact⟨pq,rfl,rfl⟩
   have hip:=(aFU.mp hpq).1;have er:rs[i]? = some rs[i]:=aFM (by omega);have hmr:rs[i]∈rs:=aGB (by omega);generalize rs[i]=t at er hmr;have ey:ys[i]? = some ys[i]:=aFM (by omega);generalize ys[i]=y at ey;have hq:=hs _ _ (row i pq y t hpq ey er);have wt:=w t hmr;refine⟨pq,_,rfl,dN.of hq,rfl,_,_,rfl,_,_,rfl,rfl,?_⟩;refine eG ?_;have l1:=fK (n:=t.1) (by omega) (k:=4) (by decide) (by show t.1<10000;omega);have c1:(Str.ofString ":").length=1:=by decide
   have l2:=lU (n:=n0) (okS.sub t hmr);have l3:50*5^n0<=50*5^5:=aGm _ (aHj (by decide) (by omega));refine⟨_,rfl,t.1,rfl,An (jR (by omega) (by omega)),_,_,rfl,rfl,by omega,?_⟩;refine⟨_,rfl,y,t.2,dd,kq t,rfl,(sub i y t ey er).same hs,sb t hmr,by omega,by omega,fun H2 s2=>?_⟩;refine⟨_,_,rfl,rfl,by rw[len_app];have:50*5^5=156250:=(by decide);omega,?_⟩;refine bG hm hi (s2 _ _ hD') (by rw[aFJ,aFJ,aGh];exact aU (by omega)) ⟨_,_,rfl,(hs.trans s2).upd_new hD _,?_⟩;rw[aB,take_snoc er,aFQ,aFQ]
   rfl
  case done =>
  rintro τ H1 ⟨v0,v1,rfl,s1,hD1⟩;rw[hpl,lp,aF5]at hD1;have c3:(Str.ofString " ").length=1:=by decide
  have b5:5^n0<=5^5:=aHj (by decide) (by omega);have b6:(5:Nat)^5=3125:=by decide
  have jl:=iM (sep:=Str.ofString " ") (ts:=rs.map fun r=>lF r.1++Str.ofString ":"++tM n0 r.2) (B:=5+50*5^n0) fun x hx=>by
   obtain⟨r,hr,rfl⟩:=aFT.mp hx;exact aFN (Aq (w r hr) _) (aG3 (lU (okS.sub r hr)) 5)
  have jl2:=aGM (5+50*5^n0+1) l4;rw[aFJ,c3]at jl;have jm:=jO (Str.ofString " ") (rs.map fun r=>lF r.1++Str.ofString ":"++tM n0 r.2);rw[aFJ,c3]at jm;have lp2:=fK p0 (k:=10) (by decide) (by show p<10000000000;omega);have d1:(Str.ofString "[").length=1:=by decide
  have d2:(Str.ofString "]").length=1:=by decide
  refine⟨_,rfl,x,_,_,_,rfl,rfl,dN.of (s1 _ _ h),rfl,p,rfl,An (jR p0 p9),_,_,rfl,rfl,by omega,rfl,_,rfl,_,D,_,rfl,rfl,bV.of hD1,by rw[aFJ];rw[c3];omega,_,_,rfl,rfl,by rw[len_app];omega,_,_,rfl,rfl,by rw[len_app,len_app];omega,?_⟩;exact q H1 s1
theorem oN(F:dJ K "_law_plan_written" "_law_plan_written" (top 78) f fd)(n_:Cl P w K mg base n "_law_plan_written" (Hd n0))(u_:mg "str" = none):aN P w K mg base bT (n+1) f fd ["_law_told"] (Hd (n0+1)):=by
 refine F.go jK fun cdv A outer s H vs Q E hr h=>?_;obtain⟨x,t,d,m,rfl,tr,pk,dn,d41,m6,q⟩:=h;have nd:=jK.nd;refine Cm ⟨_,(aO (gG (jD fQ (mH cU (qv 0) bZ (fun _ _=>rfl)) bI (bD _)) (bF (bN bI)) cN) (aO (gG (jD fQ (mH cU (qv 0) bZ (fun _ _=>rfl)) bI (bD _)) (bF (bN (bY bK (bY bK (bY bK bI (fU iJ rfl u_ j8 (aY (mH cU (qv 0) bZ (fun _ _=>rfl)) bW))) bI) (QE.mk (aF n_ hr (aA (eE cU (pv 0) aL (fun _ _=>rfl)) aC)))))) cN) (bF (bN (bY bK (bY bK (bY bK (bY bK bI (fU iJ rfl u_ j8 (aY (mH cU (qv 0) bZ (fun _ _=>rfl)) bW))) bI) (nU PySem.F.plainAttrs_str PySem.F.slot_str_join PySem.F.type_str_join lL bI (aY (QE.mk (gY ["_law_part"] (lV (eE cU (pv 0) aL (fun _ _=>rfl))) (fun _ _ _ _=>⟨(jG 0),cG,(aF n_ hr (aA (pv 0) aC))⟩))) bW))) bI))))),?_⟩;cases pk with
 |stop dd m hm =>
  cases tr with
  |stop h=>exact⟨_,rfl,x,_,_,_,rfl,rfl,dN.of h,rfl,rfl,_,rfl,nQ rfl (q H (aP.refl _))⟩
 | @take b t dd _ hb pk hm =>
  cases tr with
  | @take _ p _ _ h kk =>
  have lb:=pQ hb;have d1:(Str.ofString "take ").length=5:=by decide
  have d2:(Str.ofString " ").length=1:=by decide
  have d3:(Str.ofString "open ").length=5:=by decide
  have d4:(Str.ofString " (").length=2:=by decide
  have d5:(Str.ofString ")").length=1:=by decide
  have l2:=Bf (n:=n0) pk (by omega) m6;refine⟨_,rfl,x,_,_,_,rfl,rfl,dN.of h,rfl,rfl,_,rfl,iW rfl ?_⟩;refine⟨_,rfl,x,_,_,_,rfl,rfl,dN.of h,rfl,rfl,_,rfl,nQ rfl ?_⟩;refine⟨_,rfl,x,_,_,_,rfl,rfl,dN.of h,rfl,b,rfl,An (jR hb.1 (by omega)),_,_,rfl,rfl,by omega,_,_,rfl,rfl,by rw[len_app];omega,?_⟩;refine⟨_,rfl,x,_,_,_,rfl,rfl,dN.of h,rfl,p,t,dd,m,rfl,kk,pk,by omega,by omega,m6,fun H1 s1=>?_⟩;exact⟨_,_,rfl,rfl,by rw[len_app,len_app];omega,q H1 s1⟩
 | @opn b ts dd _ hb h1 hl lm pk =>
  cases tr with
  | @opn _ qa ps _ _ h g l kk =>
  have lb:=pQ hb;have d1:(Str.ofString "take ").length=5:=by decide
  have d2:(Str.ofString " ").length=1:=by decide
  have d3:(Str.ofString "open ").length=5:=by decide
  have d4:(Str.ofString " (").length=2:=by decide
  have d5:(Str.ofString ")").length=1:=by decide
  have hpl:(ps.map V.ref).length=ps.length:=aFJ _;refine⟨_,rfl,x,_,_,_,rfl,rfl,dN.of h,rfl,rfl,_,rfl,iW rfl ?_⟩;refine⟨_,rfl,x,_,_,_,rfl,rfl,dN.of h,rfl,rfl,_,rfl,iW rfl ?_⟩;refine⟨_,rfl,x,_,_,_,rfl,rfl,dN.of h,rfl,b,rfl,An (jR hb.1 (by omega)),_,_,rfl,rfl,by omega,_,_,rfl,rfl,by rw[len_app];omega,?_⟩;refine⟨rfl,_,rfl,x,_,_,_,rfl,rfl,dN.of h,rfl,qa,rfl,⟨_,dN.of g⟩,fun D hD=>?_⟩;refine jJ (xs:=ps.map V.ref) (fun i τ H'=>∃v0,τ = [v0,some (.ref x)]/\aP H H'/\H' D=some (.lst (((ts.take i).map (yL n0)).map V.str))) ⟨none,rfl,aD hD _,aB⟩ ?keep ?turn ?done
  case keep =>
   rintro i τ H' hi ⟨v0,rfl,hs,_⟩;exact dN.of (hs _ _ g)
  case turn =>
   rintro i mm v τ H' hm hi hv ⟨v0,rfl,hs,hD'⟩;obtain⟨y,hy,rfl⟩:=mD hv;have hiy:=(aFU.mp hy).1;have es:ts[i]? = some ts[i]:=aFM (by omega);have hmt:ts[i]∈ts:=aGB (by omega);generalize ts[i]=t at es hmt;refine yM ?_;refine⟨_,rfl,y,t,dd,m/ts.length,rfl,(kk i y t hy es).same hs,pk t hmt,by omega,by omega,aFN (aHc _ _) m6,fun H2 s2=>?_⟩;refine bG hm hi (s2 _ _ hD') (by rw[aFJ,aFJ,aGh];exact aU (by omega)) ⟨_,rfl,(hs.trans s2).upd_new hD _,?_⟩;rw[aB,take_snoc es,aFQ,aFQ]
   rfl
  case done =>
  rintro τ H1 ⟨v0,rfl,s1,hD1⟩;rw[hpl,l,aF5]at hD1;have c3:(Str.ofString ", ").length=2:=by decide
  have jl:=iM (sep:=Str.ofString ", ") (ts:=ts.map (yL n0)) (B:=4920) fun z hz=>by
   obtain⟨t,ht,rfl⟩:=aFT.mp hz;exact Bf (pk t ht) (by omega) (aFN (aHc _ _) m6)
  have jm:=jO (Str.ofString ", ") (ts.map (yL n0));rw[aFJ,c3]at jl jm;refine⟨_,D,_,rfl,rfl,bV.of hD1,by rw[aFJ,c3];omega,_,_,rfl,rfl,by rw[len_app,len_app];omega,_,_,rfl,rfl,by rw[len_app,len_app,len_app];omega,?_⟩;exact q H1 s1
theorem yN(F:dJ K "write_plan" "write_plan" (top 56) f fd){cl:Cl}{cP:Addr}(kn:Kn.CK K cl cP)(aCk:mg "Stop" = some (.ref cl.cS))(aCl:mg "Take" = some (.ref cl.cT))(O_:Cl P w K mg base n "write_plan" (Oz cl n0))(l_:Cl P w K mg base n "write_whole" Ku)(a_:mg "isinstance" = none):aN P w K mg base bT (n+1) f fd ["plan"] (Oz cl (n0+1)):=by
 refine F.go pX fun cdv A outer s H vs Q E hr h=>?_;obtain⟨x,t,d,m,rfl,tr,pk,dn,d41,m6,q⟩:=h;have nd:=pX.nd;refine Cm ⟨_,(aO (gG (uE (QE.mk (aQ (gC (K:=K) rfl) rfl a_ aZ (aA (pv 0) (aA (bU (v:=.ref cl.cS) rfl aCk rfl) aC))))) (bF (bN bI)) cN) (aO (dY (i:=1) nd rfl (Or.inl rfl) (QE.mk (aF l_ hr (aA (cH (pv 0) rfl) aC)))) (aO (gG (uE (QE.mk (aQ (gC (K:=K) rfl) rfl a_ aZ (aA (pv 0) (aA (bU (v:=.ref cl.cT) rfl aCl rfl) aC))))) (bF (bN (bY bK (bY bK (bY bK bI (qv 1)) bI) (QE.mk (aF O_ hr (aA (cH (pv 0) rfl) aC)))))) cN) (bF (bN (bY bK (bY bK (bY bK (bY bK bI (qv 1)) bI) (nU PySem.F.plainAttrs_str PySem.F.slot_str_join PySem.F.type_str_join lL bI (aY (QE.mk (gY ["then"] (lV (cH (pv 0) rfl)) (fun _ _ _ _=>⟨(jG 0),cG,(aF O_ hr (aA (pv 0) aC))⟩))) bW))) bI)))))),?_⟩;cases pk with
 |stop dd m hm =>
  cases tr with
  |stop h =>
   refine⟨_,rfl,.ref x,cl.cS,_,true,rfl,kn.ty kn.s h,kn.sS,_,rfl,?_⟩;exact iZ (q H (aP.refl _))
 | @take b t dd _ hb pk hm =>
  cases tr with
  | @take _ dx p _ _ h kk =>
  have lb:=pQ hb;have d1:(Str.ofString "take ").length=5:=by decide
  have d2:(Str.ofString " ").length=1:=by decide
  have d3:(Str.ofString "open ").length=5:=by decide
  have d4:(Str.ofString " (").length=2:=by decide
  have d5:(Str.ofString ")").length=1:=by decide
  have l2:=Bf (n:=n0) pk (by omega) m6;refine⟨_,rfl,.ref x,cl.cS,_,false,rfl,kn.ty kn.t h,kn.tS,_,rfl,?_⟩;refine dW ?_;refine⟨_,rfl,x,cl.cT,dx,_,_,rfl,h,kn.t.cl,kn.tb,Mi _ _,b,rfl,jR hb.1 (by omega),?_⟩;refine⟨_,rfl,.ref x,cl.cT,_,true,rfl,kn.ty kn.t h,kn.tT,_,rfl,?_⟩;refine iZ ?_;refine⟨_,rfl,_,_,rfl,rfl,by omega,_,_,rfl,rfl,by rw[len_app];omega,?_⟩;refine⟨_,rfl,x,cl.cT,dx,_,_,rfl,h,kn.t.cl,kn.tt,Hv _ _,p,t,dd,m,rfl,kk,pk,by omega,by omega,m6,fun H1 s1=>?_⟩;exact⟨_,_,rfl,rfl,by rw[len_app,len_app];omega,q H1 s1⟩
 | @opn b ts dd _ hb h1 hl lm pk =>
  cases tr with
  | @opn _ dx qa ps _ _ h g l kk =>
  have lb:=pQ hb;have d1:(Str.ofString "take ").length=5:=by decide
  have d2:(Str.ofString " ").length=1:=by decide
  have d3:(Str.ofString "open ").length=5:=by decide
  have d4:(Str.ofString " (").length=2:=by decide
  have d5:(Str.ofString ")").length=1:=by decide
  have hpl:(ps.map V.ref).length=ps.length:=aFJ _;refine⟨_,rfl,.ref x,cl.cS,_,false,rfl,kn.ty kn.o h,kn.oS,_,rfl,?_⟩;refine dW ?_;refine⟨_,rfl,x,cl.cO,dx,_,_,rfl,h,kn.o.cl,kn.ob,Kz _ _,b,rfl,jR hb.1 (by omega),?_⟩;refine⟨_,rfl,.ref x,cl.cT,_,false,rfl,kn.ty kn.o h,kn.oT,_,rfl,?_⟩;refine dW ?_;refine⟨_,rfl,_,_,rfl,rfl,by omega,_,_,rfl,rfl,by rw[len_app];omega,?_⟩;refine⟨rfl,_,rfl,x,cl.cO,dx,_,_,rfl,h,kn.o.cl,kn.op,FT _ _,qa,rfl,⟨_,dN.of g⟩,fun D hD=>?_⟩;refine jJ (xs:=ps.map V.ref) (fun i τ H'=>∃v0,τ = [v0,some (.ref x),some (.str (lF b))]/\aP H H'/\H' D=some (.lst (((ts.take i).map (yL n0)).map V.str))) ⟨none,rfl,aD hD _,aB⟩ ?keep ?turn ?done
  case keep =>
   rintro i τ H' hi ⟨v0,rfl,hs,_⟩;exact dN.of (hs _ _ g)
  case turn =>
   rintro i mm v τ H' hm hi hv ⟨v0,rfl,hs,hD'⟩;obtain⟨y,hy,rfl⟩:=mD hv;have hiy:=(aFU.mp hy).1;have es:ts[i]? = some ts[i]:=aFM (by omega);have hmt:ts[i]∈ts:=aGB (by omega);generalize ts[i]=t at es hmt;refine yM ?_;refine⟨_,rfl,y,t,dd,m/ts.length,rfl,(kk i y t hy es).same hs,pk t hmt,by omega,by omega,aFN (aHc _ _) m6,fun H2 s2=>?_⟩;refine bG hm hi (s2 _ _ hD') (by rw[aFJ,aFJ,aGh];exact aU (by omega)) ⟨_,rfl,(hs.trans s2).upd_new hD _,?_⟩;rw[aB,take_snoc es,aFQ,aFQ]
   rfl
  case done =>
  rintro τ H1 ⟨v0,rfl,s1,hD1⟩;rw[hpl,l,aF5]at hD1;have c3:(Str.ofString ", ").length=2:=by decide
  have jl:=iM (sep:=Str.ofString ", ") (ts:=ts.map (yL n0)) (B:=4920) fun z hz=>by
   obtain⟨t,ht,rfl⟩:=aFT.mp hz;exact Bf (pk t ht) (by omega) (aFN (aHc _ _) m6)
  have jm:=jO (Str.ofString ", ") (ts.map (yL n0));rw[aFJ,c3]at jl jm;refine⟨_,D,_,rfl,rfl,bV.of hD1,by rw[aFJ,c3];omega,_,_,rfl,rfl,by rw[len_app,len_app];omega,_,_,rfl,rfl,by rw[len_app,len_app,len_app];omega,?_⟩;exact q H1 s1
end
end K86
namespace K86
open PySem L2 TD
open Builtin.Int (intBits)
section
variable{P:Program}{w:World}{K:PySem.W.Frag}{mg:Str->Option Value}{base:Heap}{Pt:Addr}
variable{n:Nat}{fd:FuncData}
theorem yU{f:Addr}(F:dJ K "is_end" "End.is_end" (inClass (top 30) 1) f fd){c:Cs}:aN P w K mg base bT (n+1) f fd ["self"] (zY c true):=by
 refine F.go qC fun cdv A outer s H vs Q E hr h=>?_;obtain⟨x,rfl,q⟩:=h;have nd:=qC.nd;refine⟨_,(aJ (aW mR)),?_⟩;exact q
theorem vR{f:Addr}(F:dJ K "is_end" "Stage.is_end" (inClass (top 31) 1) f fd){c:Cs}:aN P w K mg base bT (n+1) f fd ["self"] (zY c false):=by
 refine F.go oA fun cdv A outer s H vs Q E hr h=>?_;obtain⟨x,rfl,q⟩:=h;have nd:=oA.nd;refine⟨_,(aJ (aW mR)),?_⟩;exact q
structure xB (H:Hp)(ps ys:List Addr)(rs:List (Int×Sd.Sd)):Prop where
 lp:ps.length=rs.length
 ly:ys.length=rs.length
 row:∀(i:Nat) q y t,ps[i]? = some q->ys[i]? = some y->rs[i]? = some t->H q=some (.tup [.int t.1,.ref y])
 sub:∀(i:Nat) y t,ys[i]? = some y->rs[i]? = some t->jY H y t.2
variable{H:Hp}{ys:List Addr}
theorem xB.keep{H':Hp}{ps:List Addr}{rs:List (Int×Sd.Sd)}(h:xB H ps ys rs)(k:∀b xs,H b=some (.tup xs)->H' b=some (.tup xs)):xB H' ps ys rs :=
 ⟨h.lp,h.ly,fun i q y t a b c=>k _ _ (h.row i q y t a b c),fun i y t a b=>(h.sub i y t a b).keep k⟩
theorem xB.same{H':Hp}{ps:List Addr}{rs:List (Int×Sd.Sd)}(s:aP H H')(h:xB H ps ys rs):xB H' ps ys rs:=h.keep fun b xs e=>s _ _ e
theorem o9{α:Type}{l:List α}{x y:α}{i:Nat}(h:(l++[x])[i]? = some y):(i<l.length/\l[i]? = some y)∨(i=l.length/\y=x):=by
 by_cases hi:i<l.length
 ·exact .inl ⟨hi,by rwa[aGd hi]at h⟩
 ·have h2:=(aFU.mp h).1;rw[aFR,aGp]at h2;have e:i=l.length:=by omega
  subst e;rw[aGa (aFV _),Nat.sub_self]at h;cases h;exact .inr ⟨rfl,rfl⟩
theorem xB.snoc{ps:List Addr}{rs:List (Int×Sd.Sd)}(h:xB H ps ys rs){q y:Addr}{t:Int×Sd.Sd}(hq:H q=some (.tup [.int t.1,.ref y]))(hy:jY H y t.2):xB H (ps++[q]) (ys++[y]) (rs++[t]):=by
 have l1:=h.lp;have l2:=h.ly;refine⟨by simp[l1],by simp[l2],fun i q' y' t' a b c=>?_,fun i y' t' b c=>?_⟩
 ·rcases o9 a with⟨i1,a⟩ | ⟨i1,rfl⟩ <;> rcases o9 b with⟨i2,b⟩ | ⟨i2,rfl⟩ <;> rcases o9 c with⟨i3,c⟩ | ⟨i3,rfl⟩
  ·exact h.row i _ _ _ a b c
  all_goals first |exact hq | (exfalso;omega)
 ·rcases o9 b with⟨i2,b⟩ | ⟨i2,rfl⟩ <;> rcases o9 c with⟨i3,c⟩ | ⟨i3,rfl⟩
  ·exact h.sub i _ _ b c
  all_goals first |exact hy | (exfalso;omega)
theorem tE(x:Int){m:Int}(h:0<m):0<=x%m/\x%m<m:=⟨aGx x (aGv h),aGl x h⟩
theorem V6(h:0<n):seqIndex? 0 n=some 0:=by
 have e:Qt n 0=some 0:=by
  unfold Qt;rw[if_pos (by decide),if_pos (by omega)]
  rfl
 exact(Hx e).1
theorem RC{c A S:Prop}[Decidable c](h:S)(k:S->A):if c then A else S:=qZ (fun _=>k h) (fun _=>h)
theorem at2{α:Type}(x y:α)(c:Int):∃v,Gh [x,y] (c%2)=some v/\(v=x∨v=y):=by
 have h:=tE c (show(0:Int)<2 by decide);rcases(by omega:c%2=0∨c%2=1)with z |z
 ·exact⟨x,by rw[z];rfl,.inl rfl⟩
 ·exact⟨y,by rw[z];rfl,.inr rfl⟩
end
end K86
namespace K86
open PySem L2 TD TP TX Kn
open Builtin.Int (intBits)
section
variable{P:Program}{w:World}{K:PySem.W.Frag}{mg:Str->Option Value}{base:Heap}{Pt:Addr}
inductive Eg (vs:List V)(H:Hp)(Q:VK)(_:XK):Prop
 |mk (c:Int) (k:Int) (_:vs=[.int c,.int k]) (_:∀j,0<=j->j<2147483587->Q (.int j) H)
inductive NB (vs:List V)(H:Hp)(Q:VK)(_:XK):Prop
 |mk (c:Int) (b:Int) (n:Int) (_:vs=[.int c,.int b,.int n]) (_:n=901) (_:∀r H' ns,aP H H'->H r=none->H' r=some (.lst (Is ns))->ns.length=901->Q (.ref r) H')
inductive Kl (n:Nat)(vs:List V)(H:Hp)(Q:VK)(_:XK):Prop
 |mk (c:Int) (k:Int) (d:Nat) (m:Nat) (_:vs=[.int c,.int k,.int (d:Int),.int (m:Int)]) (_:1<=d) (_:d<=n) (_:1<=m) (_:m<=6) (_:∀(r:Addr) (H':Hp) (t:Tr),aP H H'->lH H' r t->sZ t d m->Q (.ref r) H')
theorem Cg{n:Nat}{f:Addr}{fd:FuncData}(F:dJ K "_law_plan" "_law_plan" (top 77) f fd){n0:Nat}(Z_:Cl P w K mg base n "_law_plan" (Kl n0))(h_:Cl P w K mg base n "_law_mixed" Eg)(b_:mg "tuple" = none)(m_:mg "range" = none):aN P w K mg base bT (n+1) f fd ["_law_cell","_law_k","_law_deep","_law_most"] (Kl (n0+1)):=by
 refine F.go rA fun cdv A outer s H vs Q E hr h=>?_;obtain⟨c,kk,d,m,rfl,d1,dn,m1,m6,q⟩:=h;have nd:=rA.nd;refine Cm ⟨_,(aO (dY (i:=4) nd rfl (Or.inl rfl) (QE.mk (aF h_ hr (aA (pv 0) (aA (pv 1) aC))))) (aO (gG (QT.mk (PW.pt (iU (bJ fQ (pv 2) aL (bD _)) (gM (PW.pt (m5 (bJ fQ (aV c7 (pv 4) aL) (aV c7 (aF h_ hr (aA (pv 0) (aA aL aC))) aL) (bD _)) (jW (bJ uU (pv 3) aL (bD _))))))))) (bF (bN (pF (aY bI bW)))) cN) (aO (dY (i:=5) nd rfl (Or.inl rfl) (bY c7 (QE.mk (aF h_ hr (aA (pv 0) (aA (aV dM (pv 1) aL) aC)))) bZ)) (aO (dY (i:=6) nd rfl (Or.inr rfl) (bY dM bZ (bY c7 (bY j0 (qv 4) bZ) bZ))) (aO (gG (QT.mk (PW.pt (iU (bJ fQ (aV c7 (aV j0 (pv 4) aL) aL) aL (bD _)) (gM (bJ zA (pv 6) (pv 3) (bD _)))))) (bF (bN (pF (aY bI (aY (qv 5) (aY (QE.mk (aF Z_ hr (aA (pv 0) (aA (aV dM (aV CZ aL (pv 1)) aL) (aA (aV nF (pv 2) aL) (aA (pv 3) aC)))))) bW)))))) cN) (bF (bN (pF (aY bI (aY (qv 5) (aY (fU (bR (K:=K) rfl) rfl b_ dZ (aY (QE.mk (gY ["_law_j"] (iH rfl m_ (aA (pv 6) aC)) (fun _ _ _ _=>⟨(jG 0),cG,(aF Z_ hr (aA (pv 1) (aA (aV dM (aV dM (aV CZ aL (pv 2)) aL) (pv 0)) (aA (aV nF (pv 3) aL) (aA (aV j0 (pv 4) (pv 7)) aC)))))⟩))) bW)) bW))))))))))),?_⟩;have stp:∀(r:Addr),H r=none->Q (.ref r) (bH H r (.tup [.str "stop"])):=fun r hr0=>by
  obtain⟨d',rfl⟩:∃d',d=d'+1:=⟨d-1,by omega⟩
  exact q r _ .stop (aD hr0 _) (.stop aB) (.stop d' m m1)
 refine⟨_,rfl,_,rfl,c,kk,rfl,fun nu nu0 nu1=>?_⟩;refine⟨_,rfl,rfl,_,rfl,?_⟩;refine qZ (fun _=>⟨Qn,stp⟩) (fun z=>?_);have hd1:d≠1:=fun e=>z (by rw[e];rfl);refine⟨_,rfl,_,_,rfl,rfl,(by show(0:Int)<7;decide),_,rfl,c,6,rfl,fun n6 _ _=>?_⟩;refine⟨_,_,rfl,rfl,(by show(0:Int)<9;decide),rfl,_,rfl,?_⟩;refine RC ?st (fun hS=>?en)
 case en =>
  refine⟨_,rfl,_,_,rfl,rfl,_,rfl,?_⟩;exact qZ (fun _=>⟨Qn,stp⟩) (fun _=>hS)
 obtain⟨e,rfl⟩:∃e,d=e+1:=⟨d-1,by omega⟩
 refine⟨_,rfl,_,rfl,_,_,rfl,rfl,c,kk+7000,rfl,fun bx _ _=>?_⟩;have b0:=aGx bx (show(6:Int)≠0 by decide);have b1:=aGl bx (show(0:Int)<6 by decide);refine⟨_,_,rfl,rfl,(by show(0:Int)<6;decide),?_⟩;have w0:=aGx (nu/7) (show(4:Int)≠0 by decide);have w1:=aGl (nu/7) (show(0:Int)<4 by decide);refine⟨_,rfl,_,_,rfl,rfl,⟨by decide,by decide⟩,_,_,rfl,rfl,(by show(0:Int)<4;decide),_,_,rfl,rfl,?_⟩;have take:K7 (VG (oG (tC (.str "take")) (oG (vV 5) (oG (Ad (Kl n0) [] E0 (oG (vV 0) (oG (Ju (O6 fun i j=>.int (i+j)) (Ju (rI Og fun i j=>.int (i*j)) (tC (.int 5)) (vV 1)) (tC (.int 1))) (oG (Ju (O6 fun i j=>.int (i-j)) (vV 2) (tC (.int 1))) (oG (vV 3) nC))))) nC)))) { nx:=fun _ H'=>Q .non H',rt:=Q } [some (.int c),some (.int kk),some (.int ((e+1:Nat):Int)),some (.int (m:Int)),some (.int nu),some (.int (bx%6)),some (.int (1+nu/7%4))] H:=by
  refine⟨_,rfl,_,rfl,_,rfl,_,_,rfl,rfl,.inl ⟨by decide,by decide⟩,_,_,rfl,rfl,_,rfl,_,_,rfl,rfl,_,rfl,c,5*kk+1,e,m,?_,by omega,by omega,m1,m6,fun r H1 t s1 h1 p1=>⟨Pk,fun r2 hr2=>?_⟩⟩
  ·show [V.int c,V.int _,V.int (((e+1:Nat):Int)-1),V.int _]=_;rw[show(((e+1:Nat):Int)-1)=(e:Int) by omega]
  have n2:=aD hr2 (.tup [.str "take",.int (bx%6),.ref r]);exact q r2 _ (.take (bx%6) t) (s1.trans n2) (.take aB (h1.same n2)) (.take ⟨b0,by omega⟩ p1 m1)
 refine⟨_,rfl,_,_,rfl,rfl,⟨by decide,by decide⟩,_,_,rfl,rfl,(by show(0:Int)<3;decide),rfl,_,rfl,?_⟩;refine qZ (fun _=>take) (fun _=>?_);refine⟨_,rfl,_,rfl,_,_,rfl,rfl,_,rfl,?_⟩;refine qZ (fun _=>take) (fun z2=>?_);have z3:¬ (1+nu/7%4 > (m:Int)):=fun e=>z2 (decide_eq_true e);obtain⟨M,hM⟩:∃M:Nat,1+nu/7%4=(M:Int):=⟨(1+nu/7%4).toNat,by omega⟩
 have M1:1<=M:=by omega
 have M4:M<=4:=by omega
 have Mm:M<=m:=by omega
 have mq:1<=m/M:=(aIc (by omega)).mpr (by omega);refine⟨_,rfl,_,rfl,(1+nu/7%4),rfl,by omega,by omega,fun D hD=>?_⟩;rw[hM];refine lE (n:=M) (fun i τ H'=>∃(v0:Option V) (ps:List Addr) (ts:List Tr),τ = [v0,some (.int c),some (.int kk),some (.int ((e+1:Nat):Int)),some (.int (m:Int)),some (.int nu),some (.int (bx%6)),some (.int (M:Int))]/\aP H H'/\H' D=some (.lst (ps.map V.ref))/\ps.length=i/\ts.length=i/\(∀(j:Nat) p t,ps[j]? = some p->ts[j]? = some t->lH H' p t)/\∀t∈ts,sZ t e (m/M)) ⟨none,[],[],by rw[<-hM];rfl,aD hD _,aB,rfl,rfl,(fun j p t h=>by simp at h),fun _ h=>nomatch h⟩ ?turn ?done
 case turn =>
  rintro i mm τ H' hm hi ⟨v0,ps,ts,rfl,hs,hD',lp,lt,tr,pk⟩;unfold kY;refine eG ?_;refine⟨_,rfl,_,rfl,_,_,rfl,rfl,.inl ⟨by decide,by decide⟩,_,_,rfl,rfl,_,rfl,_,_,rfl,rfl,_,rfl,_,_,rfl,rfl,_,rfl,_,rfl,_,_,rfl,rfl,⟨by show(0:Int)<(M:Int);omega,by show(M:Int)<1073741824;omega⟩,c,5*kk+1+(0+(i:Int)),e,m/M,?_,by omega,by omega,mq,aFN (aHc _ _) m6,fun r H2 t s2 h2 p2=>?_⟩
  ·show [V.int c,V.int _,V.int (((e+1:Nat):Int)-1),V.int _]=_;rw[show(((e+1:Nat):Int)-1)=(e:Int) by omega];rw[aIF]
  ·refine bG hm hi (s2 _ _ hD') (by rw[aFJ];exact aU (by omega)) ⟨_,ps++[r],ts++[t],rfl,(hs.trans s2).upd_new hD _,by rw[aB,aFQ];rfl,by rw[aFR,lp];rfl,by rw[aFR,lt];rfl,fun j p u hp hu=>?_,fun u hu=>?_⟩
   ·have kp:∀{x:Addr}{w:Tr},lH H2 x w->lH (bH H2 D (.lst (ps.map V.ref++[.ref r]))) x w:=fun h=>h.keep fun b xs eb=>by rw[aK (dG eb (s2 _ _ hD') fun z=>nomatch z)];exact eb
    by_cases hj:j<ps.length
    ·rw[aGd hj]at hp;rw[aGd (by omega)]at hu;exact kp ((tr j p u hp hu).same s2)
    ·have hj2:=(aFU.mp hp).1;rw[aFR,aGp]at hj2;rw[aGa (by omega),show j-ps.length=0 by omega]at hp;rw[aGa (by omega),show j-ts.length=0 by omega]at hu;cases hp;cases hu;exact kp h2
   ·rcases aGc.mp hu with z |z
    ·exact pk u z
    ·rw[aF2.mp z];exact p2
 case done =>
  rintro τ H' ⟨v0,ps,ts,rfl,hs,hD',lp,lt,tr,pk⟩;refine⟨D,_,rfl,.inl ⟨bV.of hD',fun q2 hq2=>?_⟩⟩;have n2:=aD hq2 (.tup (ps.map V.ref));refine⟨Pk,fun r hr0=>?_⟩;have n3:=aD hr0 (.tup [.str "open",.int (bx%6),.ref q2]);refine q r _ (.opn (bx%6) ts) (hs.trans (n2.trans n3)) (.opn aB (n3 _ _ aB) (by omega) fun j p t hp ht=>(tr j p t hp ht).same (n2.trans n3)) (.opn ⟨b0,by omega⟩ (by omega) (by omega) (by omega) (by rw[lt];exact pk))
end
end K86
namespace K86
open PySem L2 TD
open Builtin.Int (intBits)
section
variable{P:Program}{w:World}{K:PySem.W.Frag}{mg:Str->Option Value}{base:Heap}{Pt:Addr}
theorem Gy(x:Int){m:Int}(h:0<m):0<=x%m/\x%m<m:=⟨aGx x (aGv h),aGl x h⟩
noncomputable def Xl:Sp:=fun _ _ _ _=>False
variable{f:Addr}{fd:FuncData}
theorem YK{ps:List Str}{sp:Sp}(h:∀vs H Q E,¬ sp vs H Q E)(m:Nat):aN P w K mg base bT m f fd ps sp:=⟨fun vs H Q E z=>absurd z (h vs H Q E),fun A outer s H args us vs Q E _ _ _ _ z=>absurd z (h vs H Q E)⟩
theorem vI{n:Nat}(F:dJ K "_law_cell_at" "_law_cell_at" (top 71) f fd)(i_:mg "len" = none):aN P w K mg base bT (n+1) f fd ["_law_script","_law_k"] (RK K):=by
 refine F.go n8 fun cdv A outer s H vs Q E hr h=>?_;obtain⟨a,ns,i,rfl,hS,i0,q⟩:=h;have nd:=n8.nd;refine⟨_,(aG (dI (bJ uU (pv 1) (aQ cQ rfl i_ gP (aA (pv 0) aC)) (bD _)) (aJ (aW (eE lR (pv 0) (pv 1) (fun _ _=>rfl)))) bM) (aJ (aW aL))),?_⟩;have hl:(ns.map V.int).length=ns.length:=aFJ _;refine⟨_,rfl,_,rfl,a,_,rfl,.inl hS,_,_,rfl,rfl,_,rfl,?_⟩;refine qZ (fun c=>?_) (fun c=>?_)
 ·have c':i<(((ns.map V.int).length:Nat):Int):=of_decide_eq_true c;rw[hl]at c';exact⟨_,rfl,_,rfl,a,_,_,_,rfl,rfl,hS,OD i0 c',q _⟩
 ·exact q _
theorem yG{n:Nat}(F:dJ K "_law_mixed" "_law_mixed" (top 72) f fd):aN P w K mg base bT (n+1) f fd ["_law_cell","_law_k"] Eg:=by
 refine F.go p8 fun cdv A outer s H vs Q E hr h=>?_;obtain⟨c,i,rfl,q⟩:=h;have nd:=p8.nd;refine⟨_,(aG (d7 2 (aV c7 (aV dM (aV dM (aV fJ (aV c7 (pv 0) aL) aL) (aV CZ aL (pv 1))) aL) aL)) (aG (d7 2 (aV c7 (aV dM (aV fJ (pv 2) (pv 2)) (aV CZ aL (pv 1))) aL)) (aJ (aW (aV c7 (aV fJ (pv 2) (pv 2)) aL))))),?_⟩;have b1:∀x:Int,0<=x->x<2147483648->intBits x<=64:=fun x h1 h2=>PySem.intBits_le_64 (by omega) (by omega);have m1:=Gy c (show(0:Int)<2147483647 by decide);refine⟨_,rfl,_,_,rfl,rfl,(by show(0:Int)<2147483647;decide),_,_,rfl,rfl,jP (b1 _ m1.1 (by omega)) (b1 48271 (by decide) (by decide)) (by decide),_,rfl,_,_,rfl,rfl,.inl ⟨by decide,by decide⟩,_,_,rfl,rfl,_,_,rfl,rfl,_,_,rfl,rfl,(by show(0:Int)<2147483647;decide),?_⟩;have n1:=Gy (c%2147483647*48271+7919*i+1) (show(0:Int)<2147483647 by decide);have nb:=b1 _ n1.1 (aIA n1.2 (by decide));refine⟨_,rfl,_,rfl,_,_,rfl,rfl,jP nb nb (by decide),_,rfl,_,_,rfl,rfl,.inl ⟨by decide,by decide⟩,_,_,rfl,rfl,_,_,rfl,rfl,(by show(0:Int)<2147483629;decide),?_⟩;have k1:=Gy (((c%2147483647*48271+7919*i+1)%2147483647)*((c%2147483647*48271+7919*i+1)%2147483647)+7*i) (show(0:Int)<2147483629 by decide);have kb:=b1 _ k1.1 (aIA k1.2 (by decide));refine⟨_,rfl,_,rfl,_,_,rfl,rfl,jP kb kb (by decide),_,_,rfl,rfl,(by show(0:Int)<2147483587;decide),?_⟩;exact q _ (aGx _ (by decide)) (aGl _ (by decide))
end
end K86
namespace K86
open PySem L2 TD
section
variable{P:Program}{w:World}{K:PySem.W.Frag}{mg:Str->Option Value}{base:Heap}{f1 f2:Addr}{d1 d2:FuncData}{p1 p2:List Str}{b:Nat}{sp1 sp2:Nat->Sp}
theorem QF(z:∀vs H Q E,¬ sp1 0 vs H Q E)(so:∀d,aN P w K mg base bT (b+2*d) f1 d1 p1 (sp1 d)->aN P w K mg base bT (b+2*d+1) f2 d2 p2 (sp2 d))(sm:∀d,aN P w K mg base bT (b+2*d) f1 d1 p1 (sp1 d)->aN P w K mg base bT (b+2*d+1) f2 d2 p2 (sp2 d)->aN P w K mg base bT (b+2*d+1+1) f1 d1 p1 (sp1 (d+1))):∀d,aN P w K mg base bT (b+2*d) f1 d1 p1 (sp1 d)
 | 0=>YK z b
 |d+1=>sm d (QF z so sm d) (so d (QF z so sm d))
end
end K86
namespace K86
open PySem L2 TD Kn
open Builtin.Int (intBits)
section
variable{P:Program}{w:World}{K:PySem.W.Frag}{mg:Str->Option Value}{base:Heap}
variable{c:Cl}{d:Nat}
theorem Kc{H:Hp}{a:Addr}{t:Tr}{Q:VK}{σ:St}{H0:Hp}{ta:TE}(kn:lG c H a t)(dp:Dp t d)(hv:∀R:VK,R (.ref a) H->ta σ H0 R)(q:∀p H',aP H H'->lH H' p t->Q (.ref p) H') :
  lO c.cS "told" (gJ c 0 d) [] E0 ta nC σ H0 Q∨lO c.cT "told" (gJ c 1 d) [] E0 ta nC σ H0 Q∨lO c.cO "told" (gJ c 2 d) [] E0 ta nC σ H0 Q:=by
 cases kn with
 |stop h=>exact .inl (hv _ ⟨a,_,_,rfl,h,rfl,a,_,rfl,.stop h,rfl,dp,q⟩)
 |take h k=>exact .inr (.inl (hv _ ⟨a,_,_,rfl,h,Oq _ _,a,_,rfl,.take h k,rfl,dp,q⟩))
 |opn h g l k=>exact .inr (.inr (hv _ ⟨a,_,_,rfl,h,Oi _ _,a,_,rfl,.opn h g l k,rfl,dp,q⟩))
variable{n:Nat}{f:Addr}{fd:FuncData}
theorem Cd(F:dJ K "told" "Stop.told" (inClass (top 44) 0) f fd):aN P w K mg base bT (n+1) f fd ["self"] (gJ c 0 d):=by
 refine F.go rF fun cdv A outer s H vs Q E hr h=>?_;obtain⟨a,t,rfl,kn,ik,dp,q⟩:=h;have nd:=rF.nd;refine⟨_,(aJ (aW (fH (aA cI aC)))),?_⟩;cases t with
 |stop=>exact⟨Qn,fun p hp=>q p _ (aD hp _) (.stop aB)⟩
 |take b t=>cases ik
 |opn b ts=>cases ik
variable{aCu aCv aCw:FuncData}
theorem Bh(F:dJ K "told" "Take.told" (inClass (top 45) 1) f fd){cP:Addr}(ck:CK K c cP){f_S f_T f_O:Addr}(m_S:cJ K c.cS "told" f_S)(G_S:aN P w K mg base bT n f_S aCu ["self"] (gJ c 0 d))(b_S:Binds K aCu ["self"] [])(m_T:cJ K c.cT "told" f_T)(G_T:aN P w K mg base bT n f_T aCv ["self"] (gJ c 1 d))(b_T:Binds K aCv ["self"] [])(m_O:cJ K c.cO "told" f_O)(G_O:aN P w K mg base bT n f_O aCw ["self"] (gJ c 2 d))(b_O:Binds K aCw ["self"] []):aN P w K mg base bT (n+1) f fd ["self"] (gJ c 1 (d+1)):=by
 refine F.go rM fun cdv A outer s H vs Q E hr h=>?_;obtain⟨a,t,rfl,kn,ik,dp,q⟩:=h;have nd:=rM.nd;refine⟨_,(aJ (aW (fH (aA cI (aA (cH (pv 0) rfl) (aA (dR (aX (cH (pv 0) rfl) ck.s.cl m_S G_S hr b_S .nil bC) (dR (aX (cH (pv 0) rfl) ck.t.cl m_T G_T hr b_T .nil bC) (aX (cH (pv 0) rfl) ck.o.cl m_O G_O hr b_O .nil bC))) aC)))))),?_⟩;cases kn with
 |stop h=>cases ik
 |opn h g l k=>cases ik
 | @take _ dx p b t h kn =>
  cases dp with
  |take dp =>
   refine⟨_,rfl,a,c.cT,dx,_,_,rfl,h,ck.t.cl,ck.tb,Mi _ _,?_⟩;refine Kc (σ:=[some (.ref a)]) kn dp (fun R r=>⟨_,rfl,a,c.cT,dx,_,_,rfl,h,ck.t.cl,ck.tt,Hv _ _,r⟩) fun p2 H2 s2 h2=>?_;refine⟨Pk,fun r hr=>q r _ (s2.trans (aD hr _)) (.take aB (h2.same (aD hr _)))⟩
theorem grow{R:Addr->Tr->Prop}{ps:List Addr}{ts us:List Tr}{i:Nat}{p:Addr}{t:Tr}(l:ps.length=i)(k:∀(j:Nat) (x:Addr) (t:Tr),ps[j]? = some x->us[j]? = some t->R x t)(hu:us[i]? = some t)(hp:R p t):∀(j:Nat) (x:Addr) (t:Tr),(ps++[p])[j]? = some x->us[j]? = some t->R x t:=by
 intro j x t' hx ht
 by_cases hj:j<ps.length
 ·rw[aGd hj]at hx;exact k j x t' hx ht
 ·rw[aGa (by lia)]at hx;have e:j=i:=by
   cases h:j-ps.length with
   |zero=>lia
   |succ m=>rw[h]at hx;simp at hx
  subst e;rw[hu]at ht;cases ht;rw[show j-ps.length=0 by lia]at hx;cases hx;exact hp
theorem Ao(F:dJ K "told" "Open.told" (inClass (top 46) 1) f fd){cP:Addr}(ck:CK K c cP){f_S f_T f_O:Addr}(m_S:cJ K c.cS "told" f_S)(G_S:aN P w K mg base bT n f_S aCu ["self"] (gJ c 0 d))(b_S:Binds K aCu ["self"] [])(m_T:cJ K c.cT "told" f_T)(G_T:aN P w K mg base bT n f_T aCv ["self"] (gJ c 1 d))(b_T:Binds K aCv ["self"] [])(m_O:cJ K c.cO "told" f_O)(G_O:aN P w K mg base bT n f_O aCw ["self"] (gJ c 2 d))(b_O:Binds K aCw ["self"] [])(b_:mg "tuple" = none):aN P w K mg base bT (n+1) f fd ["self"] (gJ c 2 (d+1)):=by
 refine F.go rK fun cdv A outer s H vs Q E hr h=>?_;obtain⟨a,t,rfl,kn,ik,dp,q⟩:=h;have nd:=rK.nd;refine⟨_,(aJ (aW (fH (aA cI (aA (cH (pv 0) rfl) (aA (dD (bR (K:=K) rfl) rfl b_ dZ (aA (gY ["plan"] (lV (cH (pv 0) rfl)) (fun _ _ _ _=>⟨(jG 0),cG,(dR (aX (pv 0) ck.s.cl m_S G_S hr b_S .nil bC) (dR (aX (pv 0) ck.t.cl m_T G_T hr b_T .nil bC) (aX (pv 0) ck.o.cl m_O G_O hr b_O .nil bC)))⟩)) aC)) aC)))))),?_⟩;cases kn with
 |stop h=>cases ik
 |take h k=>cases ik
 | @opn _ dx qq ps b ts h g l kn =>
  cases dp with
  |opn dp hl4 =>
   refine⟨_,rfl,a,c.cO,dx,_,_,rfl,h,ck.o.cl,ck.ob,Kz _ _,?_⟩;refine⟨_,rfl,a,c.cO,dx,_,_,rfl,h,ck.o.cl,ck.op,FT _ _,qq,rfl,⟨_,dN.of g⟩,fun D hD=>?_⟩;refine jJ (xs:=ps.map V.ref) (fun i τ H'=>∃v0 rs,τ = [v0,some (.ref a)]/\aP H H'/\H' D=some (.lst (rs.map V.ref))/\rs.length=i/\∀(j:Nat) (x:Addr) (t:Tr),rs[j]? = some x->ts[j]? = some t->lH H' x t) ⟨none,[],rfl,aD hD _,aB,rfl,fun j x t hx=>by simp at hx⟩ ?keep ?turn ?done
   case keep =>
    rintro i τ H' hi ⟨v0,rs,rfl,hs,_⟩;exact dN.of (hs _ _ g)
   case turn =>
    rintro i m v τ H' hm hi hv ⟨v0,rs,rfl,hs,hD',lr,hr'⟩;obtain⟨p,hp,rfl⟩:=mD hv;have il:i<ts.length:=by rw[<-l];exact(aFU.mp hp).1
    have et:ts[i]? = some ts[i]:=aFM il;have k0:=(kn i p _ hp et).same hs;refine yM ?_;refine Kc (σ:=[some (.ref p),some (.ref a)]) k0 (dp _ (aGB il)) (fun R r=>⟨_,rfl,r⟩) fun p2 H2 s2 h2=>?_;have hD2:=s2 _ _ hD';have kp:∀(b:Addr) (xs:List V),H2 b=some (.tup xs)->(bH H2 D (.lst (rs.map V.ref++[.ref p2]))) b=some (.tup xs):=fun b xs e=>by rw[aK (dG e hD2 fun z=>nomatch z)];exact e
    refine bG hm hi hD2 (by rw[aFJ];exact aU (by lia)) ⟨_,rs++[p2],rfl,(hs.trans s2).upd_new hD _,by rw[aB,aFQ];rfl,by rw[aFR,lr];rfl,?_⟩;exact grow (R:=lH _) (ts:=ts) lr (fun j x t hx ht=>((hr' j x t hx ht).same s2).keep kp) et (h2.keep kp)
   case done =>
    rintro τ H' ⟨v0,rs,rfl,hs,hD',lr,hr'⟩;rw[aFJ]at lr;refine⟨D,_,rfl,.inl ⟨bV.of hD',fun qt hqt=>?_⟩⟩;have n1:=aD hqt (.tup (rs.map V.ref));refine⟨Pk,fun r hr1=>?_⟩;have n2:=aD hr1 (.tup [.str "open",.int b,.ref qt]);exact q r _ (hs.trans (n1.trans n2)) (.opn aB (n2 _ _ aB) (by lia) fun j x t hx ht=>(hr' j x t hx ht).same (n1.trans n2))
end
end K86
namespace Rp
open PySem Sd PySem.NumText PySem.W.KIN PyProof.Rows
noncomputable def cp (x:Str):List Nat:=x.cps.toList
theorem fZ(a b:Str):cp (a++b)=cp a++cp b:=by unfold cp;rw[Str.cps_append,aHn]
theorem Us(a:Str):(cp a).length=a.length:=by unfold cp Str.length;simp
noncomputable def dc (v:Int):List Nat:=cp (Str.ofString (toString v))
theorem qR(m:Nat):dc (m:Int)=(aHA 10 m).map Char.toNat:=signs_num m
variable{v:Int}
theorem xA(h:0<=v):∀c∈dc v,48<=c/\c<=57:=fun c hc=>by
 obtain⟨m,rfl⟩:=aGN h;rw[qR]at hc;obtain⟨ch,hch,e⟩:=aFT.mp hc;have r:=digit_range (Nat.isDigit_of_mem_toDigits (by decide) (by decide) hch);rw[<-e];exact r
theorem Kv(h:0<=v)(h1:v<=1000000000):(dc v).length<=10:=by
 obtain⟨m,rfl⟩:=aGN h;rw[qR,aFJ];exact PySem.W.KXf.digits_le h (by lia)
theorem Ut{u:Int}(h:0<=v)(h1:0<=u)(e:dc v=dc u):v=u:=by
 obtain⟨m,rfl⟩:=aGN h;obtain⟨n,rfl⟩:=aGN h1;rw[qR,qR]at e;have:=congrArg digitsVal e;rw[val_back,val_back]at this;rw[this]
theorem cut:∀{a b:List Nat}{c d:Nat}{r s:List Nat},(∀x∈a,48<=x/\x<=57)->(∀x∈b,48<=x/\x<=57)->c<48->d<48->a++c::r=b++d::s->a=b/\c::r=d::s
 | [],[],_,_,_,_,_,_,_,_,e=>⟨rfl,e⟩
 | [],y::b,c,d,r,s,_,hb,hc,_,e=>by
  have:=hb y aFL;injection e with e1 _
  lia
 |x::a,[],c,d,r,s,ha,_,_,hd,e=>by
  have:=ha x aFL;injection e with e1 _
  lia
 |x::a,y::b,c,d,r,s,ha,hb,hc,hd,e=>by
  injection e with e1 e2
  obtain⟨h1,h2⟩:=cut (fun z hz=>ha z (aFK _ hz)) (fun z hz=>hb z (aFK _ hz)) hc hd e2;exact⟨by rw[e1,h1],h2⟩
theorem Bg{u:Int}(h:0<=v)(h1:0<=u){c d:Nat}{r s:List Nat}(hc:c<48)(hd:d<48)(e:dc v++c::r=dc u++d::s):v=u/\c::r=d::s:=by
 obtain⟨a,b⟩:=cut (xA h) (xA h1) hc hd e;exact⟨Ut h h1 a,b⟩
noncomputable def dS:Nat->Sd->PyData
 | 0,_=>.none
 |_+1,.en v=>.tuple [.str "end",.int v]
 |n+1,.st p rs=>.tuple [.str "stage",.int p,.tuple (rs.map fun q=>.tuple [.int q.1,dS n q.2])]
inductive Gd:Sd->Prop
 |en {v:Int} (h:0<=v):Gd (.en v)
 |st {p:Int}{rs:List (Int×Sd)} (h:0<=p) (ne:rs≠[]) (w:∀r∈rs,0<=r.1) (k:∀r∈rs,Gd r.2):Gd (.st p rs)
noncomputable def tl (f:Sd->List Nat):Bool->List (Int×Sd)->List Nat
 |true,[]=>[44,41]
 |false,[]=>[41]
 |_,q::rs=>[44,32]++([40]++dc q.1++[44,32]++f q.2++[41])++tl f false rs
noncomputable def DR (f:Sd->List Nat):List (Int×Sd)->List Nat
 | []=>[40,41]
 |q::rs=>[40]++([40]++dc q.1++[44,32]++f q.2++[41])++tl f true rs
theorem zO(x y:PyData):(PyData.tuple [x,y]).shown=("(" : Str)++(x.shown++", "++y.shown)++")":=by
 rw[PyData.shown_tuple]
 rfl
theorem Dn(x y z:PyData):(PyData.tuple [x,y,z]).shown=("(" : Str)++(x.shown++", "++(y.shown++", "++z.shown))++")":=by
 rw[PyData.shown_tuple]
 rfl
theorem Qa:cp "(" = [40]:=by decide +kernel
theorem QJ:cp ")" = [41]:=by decide +kernel
theorem aAk:cp ",)" = [44,41]:=by decide +kernel
theorem QK:cp ", " = [44,32]:=by decide +kernel
theorem aAn:cp (reprText "end")=[39,101,110,100,39]:=by decide +kernel
theorem aBF:cp (reprText "stage")=[39,115,116,97,103,101,39]:=by decide +kernel
noncomputable def jn:List (List Nat)->List Nat
 | []=>[]
 | [x]=>x
 |x::y::r=>x++[44,32]++jn (y::r)
theorem HQ:∀l:List Str,cp (Str.join ", " l)=jn (l.map cp)
 | []=>rfl
 | [x]=>rfl
 |x::y::r=>by
  have e:Str.join ", " (x::y::r)=x++", "++Str.join ", " (y::r):=rfl;rw[e,fZ,fZ,QK,HQ (y::r)]
  rfl
theorem sV{α:Type}(g:α->PyData):∀l:List α,PyData.shownAll (l.map g)=l.map fun a=>(g a).shown
 | []=>PyData.shownAll_nil
 |a::l=>by rw[aFP,PyData.shownAll_cons,sV g l];rfl
theorem Fw{α:Type}(g:α->PyData)(l:List α):cp (PyData.tuple (l.map g)).shown=[40]++jn (l.map fun a=>cp (g a).shown)++(if l.length=1 then [44,41] else [41]):=by
 rw[PyData.shown_tuple,fZ,fZ,Qa,HQ,sV,aGr,aFJ]
 congr 1
 by_cases h:l.length=1
 ·rw[if_pos h,h];exact aAk
 ·rw[if_neg h,show(l.length==1)=false by simpa using h];exact QJ
noncomputable def E (n:Nat)(s:Sd):List Nat:=cp (dS n s).shown
theorem PP(n:Nat)(v:Int):E (n+1) (.en v)=[40]++([39,101,110,100,39]++[44,32]++dc v)++[41]:=by
 unfold E;rw[show dS (n+1) (.en v)=.tuple [.str "end",.int v] from rfl,zO,fZ,fZ,fZ,fZ,Qa,QJ,QK,PyData.shown_str,PyData.shown_int,aAn]
 rfl
theorem Ky(n:Nat)(q:Int×Sd):cp (PyData.tuple [.int q.1,dS n q.2]).shown=[40]++dc q.1++[44,32]++E n q.2++[41]:=by
 rw[zO,fZ,fZ,fZ,fZ,Qa,QJ,QK,PyData.shown_int];simp only[aFW]
 rfl
theorem Qs(n:Nat):∀(q:Int×Sd) (rs:List (Int×Sd)),jn ((q::rs).map fun a=>cp (PyData.tuple [.int a.1,dS n a.2]).shown)++[41]=cp (PyData.tuple [.int q.1,dS n q.2]).shown++tl (E n) false rs
 |q,[]=>rfl
 |q,x::rs=>by
  have ih:=Qs n x rs;show cp (PyData.tuple [.int q.1,dS n q.2]).shown++[44,32]++jn ((x::rs).map fun a=>cp (PyData.tuple [.int a.1,dS n a.2]).shown)++[41]=_++([44,32]++([40]++dc x.1++[44,32]++E n x.2++[41])++tl (E n) false rs)
  rw[aFW _ (jn _),ih,Ky n x];simp only[aFW]
theorem VB(n:Nat):∀rs:List (Int×Sd),cp (PyData.tuple (rs.map fun q=>.tuple [.int q.1,dS n q.2])).shown=DR (E n) rs
 | []=>by rw[Fw];rfl
 | [q]=>by
  rw[Fw];show [40]++cp (PyData.tuple [.int q.1,dS n q.2]).shown++[44,41]=_;rw[Ky]
  rfl
 |q::x::rs=>by
  rw[Fw,if_neg (by simp),aFW,Qs,Ky];show [40]++([40]++dc q.1++[44,32]++E n q.2++[41]++tl (E n) false (x::rs))=[40]++([40]++dc q.1++[44,32]++E n q.2++[41])++tl (E n) true (x::rs);rw[<-aFW]
  rfl
theorem PK(n:Nat)(p:Int)(rs:List (Int×Sd)):E (n+1) (.st p rs)=[40]++([39,115,116,97,103,101,39]++[44,32]++(dc p++[44,32]++DR (E n) rs))++[41]:=by
 unfold E;rw[show dS (n+1) (.st p rs)=.tuple [.str "stage",.int p,.tuple (rs.map fun q=>.tuple [.int q.1,dS n q.2])] from rfl,Dn,fZ,fZ,fZ,fZ,fZ,fZ,Qa,QJ,QK,PyData.shown_str,PyData.shown_int,aBF,VB]
 rfl
def Back (P:Sd->Prop)(f:Sd->List Nat):Prop:=∀s s' r r',P s->P s'->f s++r=f s'++r'->s=s'/\r=r'
variable{r':List Nat}
theorem DQ{P:Sd->Prop}{f:Sd->List Nat}(h:Back P f){q q':Int×Sd}{r:List Nat}(w:0<=q.1)(w':0<=q'.1)(g:P q.2)(g':P q'.2)(e:([40]++dc q.1++[44,32]++f q.2++[41])++r=([40]++dc q'.1++[44,32]++f q'.2++[41])++r'):q=q'/\r=r':=by
 simp only[aFW,aGI,aGn,aGo,aGs.injEq,true_and]at e;obtain⟨a,b⟩:=Bg w w' (by decide) (by decide) e;simp only[aGs.injEq,true_and]at b;obtain⟨c,d⟩:=h _ _ _ _ g g' b;simp only[aGs.injEq,true_and]at d;exact⟨Prod.ext a c,d⟩
theorem Ip{P:Sd->Prop}{f:Sd->List Nat}(h:Back P f):∀(b:Bool) {rs rs':List (Int×Sd)}{r r':List Nat},(∀q∈rs,0<=q.1/\P q.2)->(∀q∈rs',0<=q.1/\P q.2)->tl f b rs++r=tl f b rs'++r'->rs=rs'/\r=r'
 |b,[],[],r,r',_,_,e=>by
  cases b
  ·exact⟨rfl,by simpa[tl] using e⟩
  ·exact⟨rfl,by simpa[tl] using e⟩
 |b,[],q::rs,r,r',_,_,e=>by
  cases b <;> simp[tl]at e
 |b,q::rs,[],r,r',_,_,e=>by
  cases b <;> simp[tl]at e
 |b,q::rs,q'::rs',r,r',h1,h2,e=>by
  have e':([40]++dc q.1++[44,32]++f q.2++[41])++(tl f false rs++r)=([40]++dc q'.1++[44,32]++f q'.2++[41])++(tl f false rs'++r'):=by
   cases b <;> (simp only[tl,aFW,aGI,aGn,aGo,aGs.injEq,true_and]at e ⊢;exact e)
  obtain⟨w,g⟩:=h1 q aFL;obtain⟨w',g'⟩:=h2 q' aFL;obtain⟨a,c⟩:=DQ h w w' g g' e';obtain⟨x,y⟩:=Ip h false (fun z hz=>h1 z (aFK _ hz)) (fun z hz=>h2 z (aFK _ hz)) c;exact⟨by rw[a,x],y⟩
theorem J4{P:Sd->Prop}{f:Sd->List Nat}(h:Back P f){rs rs':List (Int×Sd)}{r:List Nat}(n1:rs≠[])(n2:rs'≠[])(h1:∀q∈rs,0<=q.1/\P q.2)(h2:∀q∈rs',0<=q.1/\P q.2)(e:DR f rs++r=DR f rs'++r'):rs=rs'/\r=r':=by
 cases rs with
 |nil=>exact absurd rfl n1
 |cons q rs =>
 cases rs' with
 |nil=>exact absurd rfl n2
 |cons q' rs' =>
  have e':([40]++dc q.1++[44,32]++f q.2++[41])++(tl f true rs++r)=([40]++dc q'.1++[44,32]++f q'.2++[41])++(tl f true rs'++r'):=by
   simp only[DR,aFW,aGI,aGn,aGo,aGs.injEq,true_and]at e ⊢;exact e
  obtain⟨w,g⟩:=h1 q aFL;obtain⟨w',g'⟩:=h2 q' aFL;obtain⟨a,c⟩:=DQ h w w' g g' e';obtain⟨x,y⟩:=Ip h true (fun z hz=>h1 z (aFK _ hz)) (fun z hz=>h2 z (aFK _ hz)) c;exact⟨by rw[a,x],y⟩
inductive Dp:Nat->Sd->Prop
 |en (n:Nat)(v:Int):Dp (n+1) (.en v)
 |st {n:Nat}{p:Int}{rs:List (Int×Sd)}(k:∀r∈rs,Dp n r.2):Dp (n+1) (.st p rs)
theorem back:∀n,Back (fun s=>Gd s/\Dp n s) (E n)
 | 0=>fun s s' r r' h h' _=>nomatch h.2
 |n+1=>fun s s' r r' h h' e=>by
  obtain⟨g,d⟩:=h;obtain⟨g',d'⟩:=h';cases s with
  |en v =>
   cases s' with
   |en v' =>
    cases g with |en h0 =>
    cases g' with |en h0' =>
    rw[PP,PP]at e;simp only[aFW,aGI,aGn,aGo,aGs.injEq,true_and]at e;obtain⟨a,b⟩:=Bg h0 h0' (by decide) (by decide) e;simp only[aGs.injEq,true_and]at b;exact⟨by rw[a],b⟩
   |st p' rs' =>
    rw[PP,PK]at e;simp only[aFW,aGI,aGn,aGo,aGs.injEq,true_and]at e;exact absurd e.1 (by decide)
  |st p rs =>
   cases s' with
   |en v' =>
    rw[PP,PK]at e;simp only[aFW,aGI,aGn,aGo,aGs.injEq,true_and]at e;exact absurd e.1 (by decide)
   |st p' rs' =>
    cases g with |st h0 ne w k =>
    cases g' with |st h0' ne' w' k' =>
    cases d with |st dk =>
    cases d' with |st dk' =>
    rw[PK,PK]at e;simp only[aFW,aGI,aGn,aGo,aGs.injEq,true_and]at e;obtain⟨a,b⟩:=Bg h0 h0' (by decide) (by decide) e;simp only[aGs.injEq,true_and]at b;obtain⟨x,y⟩:=J4 (back n) ne ne' (fun q hq=>⟨w q hq,k q hq,dk q hq⟩) (fun q hq=>⟨w' q hq,k' q hq,dk' q hq⟩) b;simp only[aGs.injEq,true_and]at y;exact⟨by rw[a,x],y⟩
end Rp
namespace Rd
open PySem L2 TD
open Rp (dc qR xA Kv)
noncomputable def FIG:Str:="0123456789"
noncomputable def CQ (c:Nat):Bool:=!(Builtin.Str.occurrences FIG ⟨#[c]⟩ 0 FIG.length 1).isEmpty
theorem Ov:∀k:_root_.Fin 10,CQ (48+k.val)=true:=by decide +kernel
theorem Tv{c:Nat}(h:48<=c/\c<=57):CQ c=true:=by
 have:=Ov ⟨c-48,by lia⟩
 rwa[show 48+(c-48)=c by lia]at this
theorem Kw:∀m:Nat,((aHA 10 m).map Char.toNat).head? = some 48->m=0:=by
 intro m
 induction m using Nat.strongRecOn with
 |_ m ih =>
  by_cases h:m<10
  ·rw[Nat.toDigits_of_lt_base h];intro e;have:∀d:Nat,d<10->(Nat.digitChar d).toNat=48->d=0:=by decide
   exact this m h (by simpa using e)
  ·have hm:m%10<10:=Nat.mod_lt m (by decide);have t:aHA 10 (m/10)++aHA 10 (m%10)=aHA 10 (10*(m/10)+m%10):=Nat.toDigits_append_toDigits (by decide) (by lia) hm;rw[Nat.div_add_mod]at t;intro e;rw[<-t,aFQ]at e;have i:=ih (m/10) (by lia);cases c:(aHA 10 (m/10)).map Char.toNat with
   |nil =>
    have v:=PySem.W.KIN.val_back (m/10);rw[c]at v;have v0:(0:Nat)=m/10:=v
    lia
   |cons a l =>
    rw[c]at e i;have:=i (by simpa using e)
    lia
theorem QX{v:Int}(h:0<=v)(e:(dc v).head? = some 48):dc v=[48]:=by
 obtain⟨m,rfl⟩:=aGN h;rw[qR]at e ⊢;rw[Kw m e]
 decide
theorem Qi{v:Int}(h:0<=v):dc v≠[]:=by
 obtain⟨m,rfl⟩:=aGN h;rw[qR];intro e;have v:=PySem.W.KIN.val_back m;rw[e]at v;have v0:(0:Nat)=m:=v;subst v0;revert e
 decide
theorem KZ{a b:Str}(h:a.cps.toList=b.cps.toList):a=b:=by
 have h2:=aIE.mp h;cases a;cases b;simp at h2;rw[h2]
inductive zJ (C:Addr)(vs:List V)(H:Hp)(Q:VK)(_:XK):Prop
 |mk (x:Addr) (z:Str) (p:Nat) (v:Int) (tl:List Nat) (_:vs=[.ref x]) (_:cY C H x z p) (_:0<=v) (_:v<=1000000000) (_:rest z p=dc v++tl) (_:(∀c,tl.head? = some c->CQ c=false)) (_:∀H',KX x H H'->cY C H' x z (p+(dc v).length)->Q (.int v) H')
end Rd
namespace Rd
open PySem L2 TD
noncomputable def o4 (v:Int)(vs:List Int):List Nat:=Rp.dc v++vs.flatMap fun u=>32::Rp.dc u
theorem PN(v:Int):o4 v []=Rp.dc v:=aGJ _
theorem Nt(v:Int)(vs:List Int)(u:Int):o4 v (vs++[u])=o4 v vs++(32::Rp.dc u):=by
 unfold o4;rw[aG4,aFW];show _=Rp.dc v++(_++_)
 rw[aGR,aGV,aGJ]
inductive By (C:Addr)(vs:List V)(H:Hp)(Q:VK)(_:XK):Prop
 |mk (x:Addr) (z:Str) (p:Nat) (v:Int) (us:List Int) (tl:List Nat) (_:vs=[.ref x]) (_:cY C H x z p) (_:(∀u∈v::us,0<=u/\u<=1000000000)) (_:us.length<=900) (_:rest z p=o4 v us++tl) (_:(∀c,tl.head? = some c->CQ c=false)) (_:([32] <+: tl->[32,47] <+: tl)) (_:∀r H',KX x H H'->H r=none->r≠x->cY C H' x z (p+(o4 v us).length)->H' r=some (.lst (Is (v::us)))->Q (.ref r) H')
inductive JF (C:Addr)(vs:List V)(H:Hp)(Q:VK)(_:XK):Prop
 |mk (x:Addr) (dx:Addr) (z:Str) (_:vs=[.ref x,.str z]) (_:H x=some (.ins C dx [])) (_:z.length<=1000000) (_:∀H',KX x H H'->cY C H' x z 0->Q .non H')
inductive RZ (C:Addr)(vs:List V)(H:Hp)(Q:VK)(_:XK):Prop
 |mk (x:Addr) (z:Str) (p:Nat) (v:Int) (tl:List Nat) (_:vs=[.ref x]) (_:cY C H x z p) (_:0<=v) (_:v<=5) (_:rest z p=Rp.dc v++32::tl) (_:∀H',KX x H H'->cY C H' x z (p+(Rp.dc v).length+1)->Q (.int v) H')
inductive Qh (C G:Addr)(vs:List V)(H:Hp)(Q:VK)(_:XK):Prop
 |mk (x:Addr) (z:Str) (p:Nat) (g:Int) (m:Int) (gs:List Int) (ms:List Int) (tl:List Nat) (_:vs=[.ref x]) (_:cY C H x z p) (_:TP.Zk (g::gs) (m::ms)) (_:rest z p=o4 g gs++([32,47,32]++(o4 m ms++tl))) (_:(∀c,tl.head? = some c->CQ c=false)) (_:([32] <+: tl->[32,47] <+: tl)) (_:∀y H',KX x H H'->cY C H' x z (p+(o4 g gs).length+3+(o4 m ms).length)->TP.Pb G H' y (g::gs) (m::ms)->Q (.ref y) H')
end Rd
namespace Rd
open PySem L2 TD TX Kn PyProof.Rows
noncomputable def jT (sep a:List Nat)(l:List (List Nat)):List Nat:=a++l.flatMap fun x=>sep++x
theorem BW(sep a:List Nat):jT sep a []=a:=aGJ _
theorem Ar(sep a:List Nat)(l:List (List Nat))(u:List Nat):jT sep a (l++[u])=jT sep a l++(sep++u):=by
 unfold jT;rw[aG4,aFW];show _=a++(_++_)
 rw[aGR,aGV,aGJ]
theorem Ft(sep a:List Nat)(l:List (List Nat))(j:Nat):jT sep a l=jT sep a (l.take j)++(l.drop j).flatMap fun x=>sep++x:=by
 unfold jT
 conv=>lhs;rw[<-aGZ j l]
 rw[aG4,aFW]
theorem Rf(sep:Str):∀(l:List Str) (a:Str),(Str.join sep (a::l)).cps.toList=jT sep.cps.toList a.cps.toList (l.map fun t=>t.cps.toList)
 | [],a=>(aGJ _).symm
 |b::l,a=>by
  have e:Str.join sep (a::b::l)=a++sep++Str.join sep (b::l):=rfl;rw[e];have e2:(a++sep++Str.join sep (b::l)).cps.toList=a.cps.toList++sep.cps.toList++(Str.join sep (b::l)).cps.toList:=by
   rw[Str.cps_append,Str.cps_append,aHn,aHn]
  rw[e2,Rf sep l b];unfold jT;rw[aFP,aGR];simp only[aFW]
theorem Iw(sep:Str)(a:Str)(l:List Str):(Txt.join sep (a::l)).cps.toList=jT sep.cps.toList a.cps.toList (l.map fun t=>t.cps.toList):=by
 show(Builtin.Str.glued sep (a::l)).cps.toList=_;rw[StrLaws.glued_eq_join,Rf]
theorem gZ(a b:Str):(a++b).cps.toList=a.cps.toList++b.cps.toList:=Rp.fZ a b
noncomputable def cB (n:Nat)(s:Sd.Sd):List Nat:=(tM n s).cps.toList
noncomputable def rT (n:Nat)(r:Int×Sd.Sd):List Nat:=Rp.dc r.1++58::cB n r.2
theorem Rj(n:Nat)(p:Int)(r:Int×Sd.Sd)(rs:List (Int×Sd.Sd)):cB (n+1) (.st p (r::rs))=Rp.dc p++91::(jT [32] (rT n r) (rs.map (rT n))++[93]):=by
 have e:∀q:Int×Sd.Sd,(lF q.1++Str.ofString ":"++tM n q.2).cps.toList=rT n q:=fun q=>by
  rw[gZ,gZ,aFW]
  rfl
 show(lF p++Str.ofString "["++Txt.join (Str.ofString " ") ((r::rs).map fun r=>lF r.1++Str.ofString ":"++tM n r.2)++Str.ofString "]").cps.toList=_;rw[gZ,gZ,gZ,aFP,Iw,aGr,e,show((fun t:Str=>t.cps.toList) ∘ fun r:Int×Sd.Sd=>lF r.1++Str.ofString ":"++tM n r.2)=rT n from funext e];simp only[aFW]
 rfl
noncomputable def X5 (s:Sd.Sd)(ss:List Sd.Sd):List Nat:=jT [32,124,32] (cB 5 s) (ss.map (cB 5))
noncomputable def cP (n:Nat)(t:Tr):List Nat:=(yL n t).cps.toList
theorem JC(n:Nat):cP (n+1) .stop=[115,116,111,112]:=by
 show(Str.ofString "stop").cps.toList=_
 decide +kernel
theorem Ik(n:Nat)(b:Int)(t:Tr):cP (n+1) (.take b t)=[116,97,107,101,32]++(Rp.dc b++32::cP n t):=by
 show(Str.ofString "take "++lF b++Str.ofString " "++yL n t).cps.toList=_;rw[gZ,gZ,gZ];simp only[aFW]
 rfl
theorem Mp(n:Nat)(b:Int)(t:Tr)(ts:List Tr):cP (n+1) (.opn b (t::ts))=[111,112,101,110,32]++(Rp.dc b++32::40::(jT [44,32] (cP n t) (ts.map (cP n))++[41])):=by
 show(Str.ofString "open "++lF b++Str.ofString " ("++Txt.join (Str.ofString ", ") ((t::ts).map (yL n))++Str.ofString ")").cps.toList=_;rw[gZ,gZ,gZ,gZ,aFP,Iw,aGr];simp only[aFW]
 rfl
def KP (P x:Addr)(H H':Hp):Prop:=∀b o,b≠x->b≠P->H b=some o->H' b=some o
variable{P x:Addr}{H:Hp}
theorem KP.trans{H1 H2:Hp}(a:KP P x H H1)(b:KP P x H1 H2):KP P x H H2:=fun c o n m h=>b c o n m (a c o n m h)
variable{H':Hp}
theorem KP.of(k:KX x H H'):KP P x H H':=fun b o n _ h=>k b o n h
theorem KP.ofT(k:cW P H H'):KP P x H H':=fun b o _ n h=>k b o n h
theorem KP.same(k:aP H H'):KP P x H H':=fun b o _ _ h=>k b o h
variable{pos:Pos}{qual:Str}{o:HO}
theorem RB{b:Addr}(t:cA P pos qual H)(e:H b=some o)(n:∀ps,o≠.tbl ps):b≠P:=by
 rintro rfl;rcases t with t | ⟨c,t,u⟩ <;> (rw[e]at t;cases t;exact n _ rfl)
variable{C:Addr}{z:Str}{p:Nat}
theorem lN{b:Addr}(r:cY C H x z p)(e:H b=some o)(n:∀C dx fs,o≠.ins C dx (("text",.str z)::fs)):b≠x:=by
 rintro rfl;obtain⟨⟨dx,h⟩,_⟩:=r;rw[e]at h;cases h;exact n _ _ _ rfl
theorem KP.get{b:Addr}(k:KP P x H H')(r:cY C H x z p)(t:cA P pos qual H)(e:H b=some o)(n1:∀C dx fs,o≠.ins C dx (("text",.str z)::fs))(n2:∀ps,o≠.tbl ps):H' b=some o :=
 k b o (lN r e n1) (RB t e n2) e
theorem cA.kx(t:cA P pos qual H)(k:KX x H H')(r:cY C H x z p):cA P pos qual H':=by
 rcases t with t | ⟨c,t,u⟩
 ·exact .inl (k _ _ (lN r t fun _ _ _ z=>nomatch z) t)
 ·exact .inr ⟨c,k _ _ (lN r t fun _ _ _ z=>nomatch z) t,k _ _ (lN r u fun _ _ _ z=>by unfold vB at z;exact nomatch z) u⟩
variable{xs:List V}
theorem Kd:∀C dx fs,HO.tup xs≠.ins C dx (("text",.str z)::fs):=fun _ _ _ z=>nomatch z
theorem uY:∀C dx fs,HO.lst xs≠.ins C dx (("text",.str z)::fs):=fun _ _ _ z=>nomatch z
theorem Nv{a:Str}{v:V}{fs:List (Str×V)}{dx:Addr}(h:(a==("text" : Str))=false):∀C' dx' fs',HO.ins C dx ((a,v)::fs)≠.ins C' dx' (("text",.str z)::fs'):=fun _ _ _ e=>by
 injection e with _ _ e
 injection e with e _
 injection e with e _
 rw[e]at h;exact absurd h (by decide)
theorem XC{dx:Addr}:∀C' dx' fs',HO.ins C dx []≠.ins C' dx' (("text",.str z)::fs'):=fun _ _ _ e=>by injection e with _ _ e;exact nomatch e
variable{c:Cs}{y:Addr}{s:Sd.Sd}{d m:Nat}
theorem R9(kt:∀b xs,H b=some (.tup xs)->H' b=some (.tup xs))(ki:∀b C dx v fs,H b=some (.ins C dx (("end_count",v)::fs))->H' b=some (.ins C dx (("end_count",v)::fs)))(h:eQ c H y s d m):eQ c H' y s d m:=by
 have sv:∀{l cp:Addr}{sd:Sd.Sd}{lv:Int×Int}{xs:List Row}{n k:Int}{d m:Nat},VJ H l cp sd lv xs n k d m->VJ H' l cp sd lv xs n k d m:=fun h=>⟨kt _ _ h.lv,⟨kt _ _ h.caps.1,fun x hx=>⟨kt _ _ (h.caps.2 x hx).1,kt _ _ (h.caps.2 x hx).2⟩⟩,h.gs,h.so,h.n1,h.nm,h.k0,h.kd,h.mt,h.lw,h.nx,h.kx⟩
 induction h with
 |en h vv ok=>exact .en (ki _ _ _ _ _ h) (sv vv) ok
 |st h vv g lp ly row sub p0 p9 ne l4 w hk ih=>exact .st (ki _ _ _ _ _ h) (sv vv) (kt _ _ g) lp ly (fun i q y t a b c=>kt _ _ (row i q y t a b c)) ih p0 p9 ne l4 w hk
theorem eQ.rd(k:KP P x H H')(r:cY C H x z p)(t:cA P pos qual H)(h:eQ c H y s d m):eQ c H' y s d m :=
 R9 (fun b xs e=>k.get r t e Kd fun _ z=>nomatch z) (fun b C dx v fs e=>k.get r t e (Nv (by decide)) fun _ z=>nomatch z) h
variable{ys:List Addr}
theorem mK.rd{ps:List Addr}{rs:List (Int×Sd.Sd)}{j:Int×Sd.Sd->Nat}(k:KP P x H H')(r:cY C H x z p)(t:cA P pos qual H)(h:mK c H ps ys rs d j):mK c H' ps ys rs d j :=
 ⟨h.lp,h.ly,fun i q y u a b e=>k.get r t (h.row i q y u a b e) Kd (fun _ z=>nomatch z),fun i y u a b=>eQ.rd k r t (h.sub i y u a b)⟩
variable{cl:Cl}
theorem lG.rd{a:Addr}{t:Tr}(k:KX x H H')(r:cY C H x z p)(h:lG cl H a t):lG cl H' a t:=by
 induction h with
 |stop h=>exact .stop (k _ _ (lN r h XC) h)
 |take h _ ih=>exact .take (k _ _ (lN r h (Nv (by decide))) h) ih
 |opn h g l _ ih=>exact .opn (k _ _ (lN r h (Nv (by decide))) h) (k _ _ (lN r g Kd) g) l ih
variable{D:Addr}{us zs:List V}
theorem BK(e:H D=some (.lst us)):∀b xs,H b=some (.tup xs)->bH H D (.lst zs) b=some (.tup xs):=fun b xs z=>by rw[aK (dG z e fun w=>nomatch w)];exact z
theorem wF(e:H D=some (.lst us))(h:eQ c H x s d m):eQ c (bH H D (.lst zs)) x s d m :=
 R9 (BK e) (fun b C dx v fs z=>by rw[aK (dG z e fun w=>nomatch w)];exact z) h
theorem IW{t:Tr}(e:H D=some (.lst us))(h:lG cl H x t):lG cl (bH H D (.lst zs)) x t:=by
 induction h with
 |stop h=>exact .stop (by rw[aK (dG h e fun z=>nomatch z)];exact h)
 |take h _ ih=>exact .take (by rw[aK (dG h e fun z=>nomatch z)];exact h) ih
 |opn h g l _ ih=>exact .opn (by rw[aK (dG h e fun z=>nomatch z)];exact h) (by rw[aK (dG g e fun z=>nomatch z)];exact g) l ih
theorem Bj(e:H D=some (.lst us))(h:cY C H x z p):cY C (bH H D (.lst zs)) x z p:=by
 obtain⟨⟨dx,h⟩,r⟩:=h;exact⟨⟨dx,by rw[aK (dG h e fun z=>nomatch z)];exact h⟩,r⟩
theorem Bl(t:cA P pos qual H)(e:H D=some (.lst us)):cA P pos qual (bH H D (.lst zs)):=by
 rcases t with w | ⟨c',w1,w2⟩
 ·exact .inl (by rw[aK (dG w e fun z=>nomatch z)];exact w)
 ·exact .inr ⟨c',by rw[aK (dG w1 e fun z=>nomatch z)];exact w1,by rw[aK (dG w2 e fun z=>by unfold vB at z;exact nomatch z)];exact w2⟩
theorem IK{ps:List Addr}{rs:List (Int×Sd.Sd)}{j:Int×Sd.Sd->Nat}(h:mK c H ps ys rs d j){q:Addr}{t:Int×Sd.Sd}(hq:H q=some (.tup [.int t.1,.ref y]))(hy:eQ c H y t.2 d (j t)):mK c H (ps++[q]) (ys++[y]) (rs++[t]) d j:=by
 have l1:=h.lp;have l2:=h.ly;have sn:∀{α:Type}{l:List α}{x y:α}{i:Nat},(l++[x])[i]? = some y->(i<l.length/\l[i]? = some y)∨(i=l.length/\y=x):=fun{α l x y i} h=>by
  by_cases hi:i<l.length
  ·exact .inl ⟨hi,by rwa[aGd hi]at h⟩
  ·have h2:=(aFU.mp h).1;rw[aFR,aGp]at h2;have e:i=l.length:=by lia
   subst e;rw[aGa (aFV _),Nat.sub_self]at h;cases h;exact .inr ⟨rfl,rfl⟩
 refine⟨by simp[l1],by simp[l2],fun i q' y' t' a b c=>?_,fun i y' t' b c=>?_⟩
 ·rcases sn a with⟨i1,a⟩ | ⟨i1,rfl⟩ <;> rcases sn b with⟨i2,b⟩ | ⟨i2,rfl⟩ <;> rcases sn c with⟨i3,c⟩ | ⟨i3,rfl⟩
  ·exact h.row i _ _ _ a b c
  all_goals first |exact hq | (exfalso;lia)
 ·rcases sn b with⟨i2,b⟩ | ⟨i2,rfl⟩ <;> rcases sn c with⟨i3,c⟩ | ⟨i3,rfl⟩
  ·exact h.sub i _ _ b c
  all_goals first |exact hy | (exfalso;lia)
theorem QL{ps:List Addr}{rs:List (Int×Sd.Sd)}{j:Int×Sd.Sd->Nat}(e:H D=some (.lst us))(h:mK c H ps ys rs d j):mK c (bH H D (.lst zs)) ps ys rs d j :=
 ⟨h.lp,h.ly,fun i q y t a b g=>BK e _ _ (h.row i q y t a b g),fun i y t a b=>wF e (h.sub i y t a b)⟩
theorem KP.new(k:KP P x H H')(r:cY C H' x z p)(t:cA P pos qual H')(h:H' D=none):H D=none:=by
 cases e:H D with
 |none=>rfl
 |some o =>
  exfalso;have nx:D≠x:=by
   rintro rfl;obtain⟨⟨dx,e2⟩,_⟩:=r;rw[h]at e2;cases e2
  have nP:D≠P:=by
   rintro rfl;rcases t with t | ⟨c,t,u⟩ <;> (rw[h]at t;cases t)
  rw[k _ _ nx nP e]at h;cases h
theorem KP.upn(k:KP P x H H')(h:H D=none)(o:HO):KP P x H (bH H' D o):=fun b u n m e=>by
 rw[aK (fun z=>by rw[z,h]at e;cases e)];exact k b u n m e
theorem KX.new(k:KX x H H')(r:cY C H' x z p)(h:H' D=none):H D=none:=by
 cases e:H D with
 |none=>rfl
 |some o =>
  exfalso;have nx:D≠x:=by
   rintro rfl;obtain⟨⟨dx,e2⟩,_⟩:=r;rw[h]at e2;cases e2
  rw[k _ _ nx e]at h;cases h
theorem KX.upn(k:KX x H H')(h:H D=none)(o:HO):KX x H (bH H' D o):=fun b u n e=>by
 rw[aK (fun z=>by rw[z,h]at e;cases e)];exact k b u n e
theorem cY.kt(s:cW P H H')(t:cA P pos qual H)(r:cY C H x z p):cY C H' x z p:=by
 obtain⟨⟨dx,e⟩,q⟩:=r;exact⟨⟨dx,s _ _ (RB t e fun _ z=>nomatch z) e⟩,q⟩
theorem cY.mv{p':Nat}(r:cY C H x z p)(e:p=p'):cY C H x z p':=e ▸ r
def Zv (tl:List Nat):Prop:=∀c,tl.head? = some c->CQ c=false/\c≠91
inductive Hc (c:Cs)(C Pt:Addr)(lp:Pos)(n:Nat)(vs:List V)(H:Hp)(Q:VK)(_:XK):Prop
 |mk (x:Addr) (z:Str) (p:Nat) (k:Int) (s:Sd.Sd) (d:Nat) (m:Nat) (tl:List Nat) (_:vs=[.ref x,.int k]) (_:cY C H x z p) (_:Sd.Ok s d m) (_:d<n) (_:d<=4) (_:m<=12) (_:(d:Int)<=k) (_:k<=4) (_:cA Pt lp gU H) (_:rest z p=cB n s++tl) (_:Zv tl) (_:∀(y:Addr) (H':Hp),KP Pt x H H'->cY C H' x z (p+(cB n s).length)->cA Pt lp gU H'->eQ c H' y s d m->Q (.ref y) H')
inductive Nh (c:Cs)(C Pt:Addr)(lp:Pos)(n:Nat)(vs:List V)(H:Hp)(Q:VK)(_:XK):Prop
 |mk (x:Addr) (z:Str) (p:Nat) (k:Int) (r:Int×Sd.Sd) (d:Nat) (m:Nat) (tl:List Nat) (_:vs=[.ref x,.int k]) (_:cY C H x z p) (_:Sd.Ok r.2 d m) (_:1<=r.1) (_:r.1<=1000) (_:d<n) (_:d<=4) (_:m<=12) (_:(d:Int)<=k) (_:k<=4) (_:cA Pt lp gU H) (_:rest z p=rT n r++tl) (_:Zv tl) (_:∀(q y:Addr) (H':Hp),KP Pt x H H'->cY C H' x z (p+(rT n r).length)->cA Pt lp gU H'->H' q=some (.tup [.int r.1,.ref y])->eQ c H' y r.2 d m->Q (.ref q) H')
def jU (c:Cs)(H:Hp)(ys:List Addr)(ss:List Sd.Sd):Prop:=ys.length=ss.length/\∀(i:Nat) y s,ys[i]? = some y->ss[i]? = some s->eQ c H y s 4 12
variable{ss:List Sd.Sd}
theorem jU.rd(k:KP P x H H')(r:cY C H x z p)(t:cA P pos qual H)(h:jU c H ys ss):jU c H' ys ss :=
 ⟨h.1,fun i y s a b=>eQ.rd k r t (h.2 i y s a b)⟩
theorem jU.over(e:H D=some (.lst us))(h:jU c H ys ss):jU c (bH H D (.lst zs)) ys ss:=⟨h.1,fun i y s a b=>wF e (h.2 i y s a b)⟩
theorem jU.snoc(h:jU c H ys ss)(hy:eQ c H y s 4 12):jU c H (ys++[y]) (ss++[s]):=by
 have l:=h.1;refine⟨by simp[l],fun i y' s' a b=>?_⟩
 by_cases hi:i<ys.length
 ·rw[aGd hi]at a;rw[aGd (by lia)]at b;exact h.2 i y' s' a b
 ·have h2:=(aFU.mp a).1;rw[aFR,aGp]at h2;rw[aGa (by lia),show i-ys.length=0 by lia]at a;rw[aGa (by lia),show i-ss.length=0 by lia]at b;cases a;cases b;exact hy
inductive Nf (c:Cs)(Pt:Addr)(lp:Pos)(vs:List V)(H:Hp)(Q:VK)(_:XK):Prop
 |mk (z:Str) (s:Sd.Sd) (ss:List Sd.Sd) (_:vs=[.str z]) (_:z.cps.toList=X5 s ss) (_:(∀u∈s::ss,Sd.Ok u 4 12)) (_:ss.length<=5) (_:z.length<=1000000) (_:cA Pt lp gU H) (_:∀(D:Addr) (ys:List Addr) (H':Hp),cW Pt H H'->cA Pt lp gU H'->H D=none->H' D=some (.lst (ys.map V.ref))->jU c H' ys (s::ss)->Q (.ref D) H')
inductive ZD (c:Cs)(Pt:Addr)(lp:Pos)(vs:List V)(H:Hp)(Q:VK)(_:XK):Prop
 |mk (z:Str) (s:Sd.Sd) (_:vs=[.str z]) (_:z.cps.toList=cB 5 s) (_:Sd.Ok s 4 12) (_:z.length<=1000000) (_:cA Pt lp gU H) (_:∀(y:Addr) (H':Hp),cW Pt H H'->cA Pt lp gU H'->eQ c H' y s 4 12->Q (.ref y) H')
inductive Bk:Tr->Prop
 |stop:Bk .stop
 |take {b:Int}{t:Tr} (h:0<=b/\b<=5) (k:Bk t):Bk (.take b t)
 |opn {b:Int}{ts:List Tr} (h:0<=b/\b<=5) (ne:ts≠[]) (k:∀t∈ts,Bk t):Bk (.opn b ts)
theorem ZQ{t:Tr}(h:sZ t d m):Bk t:=by
 induction h with
 |stop d m hm=>exact .stop
 |take hb h hm ih=>exact .take hb ih
 |opn hb h1 hl lm h ih=>exact .opn hb (fun e=>by rw[e]at h1;simp at h1) ih
def iK (cl:Cl)(H:Hp)(ys:List Addr)(ts:List Tr):Prop:=ys.length=ts.length/\∀(i:Nat) y u,ys[i]? = some y->ts[i]? = some u->lG cl H y u
variable{ts:List Tr}
theorem iK.rd(k:KX x H H')(r:cY C H x z p)(h:iK cl H ys ts):iK cl H' ys ts :=
 ⟨h.1,fun i y s a b=>lG.rd k r (h.2 i y s a b)⟩
theorem iK.over(e:H D=some (.lst us))(h:iK cl H ys ts):iK cl (bH H D (.lst zs)) ys ts:=⟨h.1,fun i y s a b=>IW e (h.2 i y s a b)⟩
theorem iK.same(k:aP H H')(h:iK cl H ys ts):iK cl H' ys ts:=⟨h.1,fun i y s a b=>(h.2 i y s a b).same k⟩
theorem iK.snoc(h:iK cl H ys ts){t:Tr}(hy:lG cl H y t):iK cl H (ys++[y]) (ts++[t]):=by
 have l:=h.1;refine⟨by simp[l],fun i y' s' a b=>?_⟩
 by_cases hi:i<ys.length
 ·rw[aGd hi]at a;rw[aGd (by lia)]at b;exact h.2 i y' s' a b
 ·have h2:=(aFU.mp a).1;rw[aFR,aGp]at h2;rw[aGa (by lia),show i-ys.length=0 by lia]at a;rw[aGa (by lia),show i-ts.length=0 by lia]at b;cases a;cases b;exact hy
inductive Ex (cl:Cl)(C:Addr)(n:Nat)(vs:List V)(H:Hp)(Q:VK)(_:XK):Prop
 |mk (x:Addr) (z:Str) (p:Nat) (k:Int) (t:Tr) (d:Nat) (tl:List Nat) (_:vs=[.ref x,.int k]) (_:cY C H x z p) (_:Dp t d) (_:Bk t) (_:d<=n) (_:(d:Int)<=k) (_:k<=1000) (_:rest z p=cP n t++tl) (_:∀(y:Addr) (H':Hp),KX x H H'->cY C H' x z (p+(cP n t).length)->lG cl H' y t->Q (.ref y) H')
inductive Jz (cl:Cl)(C:Addr)(n:Nat)(vs:List V)(H:Hp)(Q:VK)(_:XK):Prop
 |mk (x:Addr) (z:Str) (p:Nat) (k:Int) (t:Tr) (ts:List Tr) (d:Nat) (tl:List Nat) (_:vs=[.ref x,.int k]) (_:cY C H x z p) (_:(∀u∈t::ts,Dp u d/\Bk u)) (_:ts.length<=3) (_:d<=n) (_:(d:Int)<=k) (_:k<=1000) (_:rest z p=jT [44,32] (cP n t) (ts.map (cP n))++41::tl) (_:∀(D:Addr) (ys:List Addr) (H':Hp),KX x H H'->cY C H' x z (p+(jT [44,32] (cP n t) (ts.map (cP n))).length)->H' D=some (.lst (ys.map V.ref))->iK cl H' ys (t::ts)->Q (.ref D) H')
inductive Hf (cl:Cl)(vs:List V)(H:Hp)(Q:VK)(_:XK):Prop
 |mk (z:Str) (t:Tr) (d:Nat) (_:vs=[.str z]) (_:z=yL 41 t) (_:Dp t d) (_:Bk t) (_:d<=40) (_:z.length<=1000000) (_:∀(y:Addr) (H':Hp),aP H H'->lG cl H' y t->Q (.ref y) H')
end Rd
namespace Rd
open PySem L2 TD TX Kn
variable{H:Hp}
theorem Vf{t:Tr}{n:Nat}(d:Dp t n):∀{a b:Addr}{m:Nat},lH H a t->lH H b t->2*n<=m->w6 H m (.ref a) (.ref b):=by
 induction d with
 |stop n =>
  intro a b m h1 h2 hm;obtain⟨k,rfl⟩:∃k,m=k+1:=⟨m-1,by omega⟩
  cases h1 with
  |stop h1 =>
  cases h2 with
  |stop h2 =>
  refine .tup h1 h2 rfl fun j x y hx hy=>?_
  match j,hx,hy with
  | 0,hx,hy=>cases hx;cases hy;exact .str _ _
  |j+1,hx,hy=>simp at hx
 | @take bb t n _ ih =>
  intro a b m h1 h2 hm;obtain⟨k,rfl⟩:∃k,m=k+1:=⟨m-1,by omega⟩
  cases h1 with
  |take h1 k1 =>
  cases h2 with
  |take h2 k2 =>
  refine .tup h1 h2 rfl fun j x y hx hy=>?_
  match j,hx,hy with
  | 0,hx,hy=>cases hx;cases hy;exact .str _ _
  | 1,hx,hy=>cases hx;cases hy;exact .int _ _
  | 2,hx,hy=>cases hx;cases hy;exact ih k1 k2 (by omega)
  |j+3,hx,hy=>simp at hx
 | @opn bb ts n dp hl ih =>
  intro a b m h1 h2 hm;obtain⟨k,rfl⟩:∃k,m=k+2:=⟨m-2,by omega⟩
  cases h1 with
  |opn h1 g1 l1 k1 =>
  cases h2 with
  |opn h2 g2 l2 k2 =>
  refine .tup h1 h2 rfl fun j x y hx hy=>?_
  match j,hx,hy with
  | 0,hx,hy=>cases hx;cases hy;exact .str _ _
  | 1,hx,hy=>cases hx;cases hy;exact .int _ _
  | 2,hx,hy =>
   cases hx;cases hy;refine .tup g1 g2 (by rw[aFJ,aFJ,l1,l2]) fun i u v hu hv=>?_;rw[aF9]at hu hv;obtain⟨q1,e1,rfl⟩:=aGF.mp hu;obtain⟨q2,e2,rfl⟩:=aGF.mp hv;have hi:=(aFU.mp e1).1;have et:ts[i]? = some (ts[i]'(by omega)):=aFM _;exact ih _ (aFY et) (k1 i _ _ e1 et) (k2 i _ _ e2 et) (by omega)
  |j+3,hx,hy=>simp at hx
theorem Fx{a b:Addr}{us:List Int}{n:Nat}(ha:H a=some (.tup (Is us)))(hb:H b=some (.tup (Is us))):w6 H (n+1) (.ref a) (.ref b):=.tup ha hb rfl fun j x y hx hy=>by
 rw[hx]at hy;cases hy;obtain⟨i,_,rfl⟩:=aFT.mp (aFY hx);exact .int _ i
theorem U4{S:TP.Sk}{a b:Addr}(h1:TP.wX H a S)(h2:TP.wX H b S):w6 H 2 (.ref a) (.ref b):=by
 cases S with
 |few c =>
  refine .tup (show H a=some (.tup [.str "few",.int c])from h1) h2 rfl fun j x y hx hy=>?_
  match j,hx,hy with
  | 0,hx,hy=>cases hx;cases hy;exact .str _ _
  | 1,hx,hy=>cases hx;cases hy;exact .int _ _
  |j+2,hx,hy=>simp at hx
 |groups gs ms =>
  obtain⟨g,m,h1,g1,m1⟩:=h1;obtain⟨g',m',h2,g2,m2⟩:=h2;refine .tup h1 h2 rfl fun j x y hx hy=>?_
  match j,hx,hy with
  | 0,hx,hy=>cases hx;cases hy;exact .str _ _
  | 1,hx,hy=>cases hx;cases hy;exact Fx g1 g2
  | 2,hx,hy=>cases hx;cases hy;exact Fx m1 m2
  |j+3,hx,hy=>simp at hx
 |listed ks =>
  obtain⟨g,h1,g1⟩:=h1;obtain⟨g',h2,g2⟩:=h2;refine .tup h1 h2 rfl fun j x y hx hy=>?_
  match j,hx,hy with
  | 0,hx,hy=>cases hx;cases hy;exact .str _ _
  | 1,hx,hy=>cases hx;cases hy;exact Fx g1 g2
  |j+2,hx,hy=>simp at hx
def u6 (H:Hp)(ts:List Addr)(ss:List Sd.Sd):Prop:=∀(j:Nat) t s,ts[j]? = some t->ss[j]? = some s->jY H t s
theorem QG{D B:Addr}{rs ts:List Addr}{ss:List Sd.Sd}(hD:H D=some (.lst (rs.map V.ref)))(hB:H B=some (.lst (ts.map V.ref)))(l1:rs.length=ss.length)(l2:ts.length=ss.length)(t1:u6 H rs ss)(t2:u6 H ts ss)(ok:∀s∈ss,Sd.Ok s 4 12):w6 H 14 (.ref D) (.ref B):=by
 refine .lst hD hB (by rw[aFJ,aFJ,l1,l2]) fun i u v hu hv=>?_;rw[aF9]at hu hv;obtain⟨q1,e1,rfl⟩:=aGF.mp hu;obtain⟨q2,e2,rfl⟩:=aGF.mp hv;have hi:=(aFU.mp e1).1;have et:ss[i]? = some (ss[i]'(by omega)):=aFM _;exact Ql (ok _ (aFY et)) (t1 i _ _ e1 et) (t2 i _ _ e2 et)
theorem _root_.L2.Room.u82{k:Nat}{A:Around}(r:Room k A):A.units+81+1<cLine:=by have:=r.un;omega
inductive GX (vs:List V)(H:Hp)(Q:VK)(_:XK):Prop
 |mk (v:V) (u:V) (_:vs=[v,u]) (_:w6 H 82 v u) (_:∀H',aP H H'->Q (.bl true) H')
end Rd
namespace K86
open PySem L2 TD Rd
open Builtin.Int (intBits)
section
variable{P:Program}{w:World}{K:PySem.W.Frag}{mg:Str->Option Value}{base:Heap}{Pt:Addr}
theorem EY{n:Nat}{f:Addr}{fd:FuncData}(F:dJ K "read_box" "read_box" (top 61) f fd){c:Cs}(P_:Cl P w K mg base n "read_boxes" (Nf c Pt eU))(i_:mg "len" = none):aN P w K mg base bT (n+1) f fd ["text"] (ZD c Pt eU):=by
 refine F.go uR fun cdv A outer s H vs Q E hr h=>?_;obtain⟨z,s,rfl,ez,ok,z9,tb,q⟩:=h;have nd:=uR.nd;refine⟨_,(aG (d7 1 (aF P_ hr (aA (pv 0) aC))) (aG (dI (bJ zA (aQ cQ rfl i_ gP (aA (pv 1) aC)) aL (bD _)) (aJ fW) bM) (aJ (aW (eE lR (pv 1) aL (fun _ _=>rfl)))))),?_⟩;refine⟨_,rfl,z,s,[],rfl,by rw[ez];unfold X5;rw[aGD,BW],(fun u hu=>by rw[aF2.mp hu];exact ok),by decide,z9,tb,fun D ys H1 s1 tb1 hD hD1 B=>?_⟩;have l1:ys.length=1:=B.1;obtain⟨y,rfl⟩:∃y,ys=[y]:=by
  match ys,l1 with
  | [y],_=>exact⟨y,rfl⟩
 refine⟨_,rfl,D,_,rfl,.inl (bV.of hD1),_,_,rfl,rfl,_,rfl,?_⟩;refine iW rfl ?_;exact⟨_,rfl,D,_,_,_,rfl,rfl,bV.of hD1,rfl,q y H1 s1 tb1 (B.2 0 y s rfl rfl)⟩
end
end K86
namespace K86
open PySem L2 TD TP TX Kn Rd
open Builtin.Int (intBits)
section
variable{P:Program}{w:World}{K:PySem.W.Frag}{mg:Str->Option Value}{base:Heap}{Pt:Addr}
inductive ZK (Pt:Addr)(vs:List V)(H:Hp)(Q:VK)(_:XK):Prop
 |mk (B:Addr) (ts:List Addr) (ss:List Sd.Sd) (_:vs=[.ref B]) (_:H B=some (.lst (ts.map V.ref))) (_:ts.length=ss.length) (_:1<=ss.length) (_:ss.length<=6) (_:u6 H ts ss) (_:(∀s∈ss,Sd.Ok s 4 12)) (_:cA Pt eU gU H) (_:∀H',cW Pt H H'->cA Pt eU gU H'->Q (.bl true) H')
variable{H:Hp}
theorem Yx{c:Cs}(ck:CK K c)(ct:CT K c){cSt:Addr}(qe:PySem.W.kitOne K (.ref c.e) (.ref cSt)=some true)(qs:PySem.W.kitOne K (.ref c.s) (.ref cSt)=some true){y:Addr}{s:Sd.Sd}{d m:Nat}(st:eQ c H y s d m):∃t,iB K H (.ref y) t/\PySem.W.kitOne K t (.ref cSt)=some true:=by
 cases st with
 |en h=>exact⟨_,.ins h ck.ce ct.ea ct.hn ct.htk ct.em,qe⟩
 |st h=>exact⟨_,.ins h ck.cs ct.sa ct.hn ct.htk ct.sm,qs⟩
theorem Wf(s:Sd.Sd)(ss:List Sd.Sd):(Lk (s::ss)).cps.toList=X5 s ss:=by
 unfold Lk;rw[aFP,Iw];unfold X5;rw[aGr]
 rfl
variable{ss:List Sd.Sd}
theorem JB(l6:ss.length<=6)(ok:∀s∈ss,Sd.Ok s 4 12):(((ss.map (tM 5)).map (·.length)).sum+(ss.map (tM 5)).length*(Str.ofString " | ").length)<=1000000:=by
 have c3:(Str.ofString " | ").length=3:=by decide
 refine aFN (iM (B:=156250) fun t ht=>?_) ?_
 ·obtain⟨s,hs1,rfl⟩:=aFT.mp ht;exact lU (ok s hs1)
 ·rw[aFJ,c3];omega
variable{ts:List Addr}
theorem xX{H':Hp}(t:u6 H ts ss)(s:aP H H'):u6 H' ts ss:=fun j a b h1 h2=>(t j a b h1 h2).same s
theorem KH{Pt:Addr}{H':Hp}(t:u6 H ts ss)(s:cW Pt H H')(tb:cA Pt eU gU H):u6 H' ts ss:=fun j a b h1 h2=>(t j a b h1 h2).keep fun b xs eb=>s.get tb eb fun _ z=>nomatch z
theorem qT{n:Nat}{f:Addr}{fd:FuncData}(F:dJ K "_law_boxes_good" "_law_boxes_good" (top 83) f fd){c:Cs}(ck:CK K c)(ct:CT K c){cSt:Addr}(M_:mg "Stand" = some (.ref cSt))(qe:PySem.W.kitOne K (.ref c.e) (.ref cSt)=some true)(qs:PySem.W.kitOne K (.ref c.s) (.ref cSt)=some true){aDP:Addr}{aC6:FuncData}(aEb:cJ K c.e "told" aDP)(aEc:aN P w K mg base bT n aDP aC6 ["self"] (Ht c))(aEd:Binds K aC6 ["self"] []){aDQ:Addr}{aC7:FuncData}(aEe:cJ K c.s "told" aDQ)(aEf:aN P w K mg base bT n aDQ aC7 ["self"] (N8 c 5))(aEg:Binds K aC7 ["self"] [])(P_:Cl P w K mg base n "read_boxes" (Nf c Pt eU))(aCK:Cl P w K mg base n "write_boxes" (Rn c))(I_:Cl P w K mg base n "_law_same" GX)(H_:Cl P w K mg base n "write_box" (NQ c 5))(aDk:Cl P w K mg base n "read_box" (ZD c Pt eU))(R_:Cl P w K mg base n "_law_written" (HX 5))(i_:mg "len" = none)(a_:mg "isinstance" = none)(o_:mg "list" = none):aN P w K mg base bT (n+1) f fd ["_law_boxes"] (ZK Pt):=by
 refine F.go lD fun cdv A outer s H vs Q E hr h=>?_;obtain⟨B,ts,ss,rfl,hB,tl,l1,l6,to,ok,tb0,q⟩:=h;have nd:=lD.nd;refine Cm ⟨_,(aO (QS.mk (KJ 1 ["_law_told"] (dU (pv 0)) (fun _ _ _ _=>⟨(jG 0),cG,(aF R_ hr (aA (pv 0) aC))⟩))) (aO (dY (i:=2) nd rfl (Or.inl rfl) (QE.mk (aF aDk hr (aA (eE lR (pv 1) aL (fun _ _=>rfl)) aC)))) (aO (gG (QT.mk (PW.pt (iU (cF (bQ (aQ (gC (K:=K) rfl) rfl a_ aZ (aA (pv 2) (aA (bU (v:=.ref cSt) rfl M_ rfl) aC))))) (iU (cF (bQ (aF I_ hr (aA (dR (aX (pv 2) ck.ce aEb aEc hr aEd .nil bC) (aX (pv 2) ck.cs aEe aEf hr aEg .nil bC)) (aA (eE lR (pv 0) aL (fun _ _=>rfl)) aC))))) (gM (bJ zL (aF H_ hr (aA (pv 2) aC)) (eE lR (pv 1) aL (fun _ _=>rfl)) (bD _))))))) (bF (bN pD)) cN) (aO (dY (i:=3) nd rfl (Or.inl rfl) (nU PySem.F.plainAttrs_str PySem.F.slot_str_join PySem.F.type_str_join lL bI (aY (qv 1) bW))) (aO (dY (i:=4) nd rfl (Or.inl rfl) (QE.mk (aF P_ hr (aA (pv 3) aC)))) (aO (gG (QT.mk (PW.pt (iU (cF (bQ (aQ (cV (T:="list")) rfl a_ aZ (aA (pv 4) (aA (eY (v:=.ty "list") rfl o_ mV rfl) aC))))) (gM (cF (bQ (aF I_ hr (aA (gY ["_law_stand"] (dU (pv 4)) (fun _ _ _ _=>⟨(jG 0),cG,(dR (aX (pv 0) ck.ce aEb aEc hr aEd .nil bC) (aX (pv 0) ck.cs aEe aEf hr aEg .nil bC))⟩)) (aA (pv 0) aC))))))))) (bF (bN pD)) cN) (aO (gG (jD zL (QE.mk (aF aCK hr (aA (pv 4) aC))) (qv 3) (bD _)) (bF (bN pD)) cN) (aO (Pa (U7 PySem.F.plainAttrs_list PySem.F.slot_list_pop PySem.F.type_list_pop Sx (qv 4))) (bF (bN (Bu fQ (rD cQ rfl i_ gP (aY (QE.mk (aF P_ hr (aA (pv 3) aC))) bW)) (rD cQ rfl i_ gP (aY (qv 0) bW)) (bD _)))))))))))),?_⟩;have hlt:(ts.map V.ref).length=ts.length:=aFJ _;have ok1:∀(i:Nat) s,ss[i]? = some s->Sd.Ok s 4 12:=fun i s h=>ok s (aFY h);obtain⟨s0,su,rfl⟩:∃s l,ss=s::l:=by
  cases ss with
  |nil=>exact absurd l1 (by decide)
  |cons s l=>exact⟨s,l,rfl⟩
 obtain⟨t0,tu,rfl⟩:∃s l,ts=s::l:=by
  cases ts with
  |nil=>exact absurd tl (by simp)
  |cons s l=>exact⟨s,l,rfl⟩
 have ok0:Sd.Ok s0 4 12:=ok1 0 s0 rfl;refine⟨_,rfl,B,rfl,⟨_,bV.of hB⟩,fun E1 hE1=>?_⟩;refine dF (xs:=(t0::tu).map V.ref) (fun i τ H'=>∃v0,τ = [v0,some (.ref B),none,none,none,none]/\aP H H'/\H' E1=some (.lst ((((s0::su).take i).map (tM 5)).map V.str))) ⟨none,rfl,aD hE1 _,aB⟩ ?keepW ?turnW ?doneW
 case keepW =>
  rintro i τ H' hi ⟨v0,rfl,hs,_⟩;exact bV.of (hs _ _ hB)
 case turnW =>
  rintro i m v τ H' hm hi hv ⟨v0,rfl,hs,hE'⟩;obtain⟨y,hy,rfl⟩:=mD hv;have hiy:=(aFU.mp hy).1;obtain⟨sy,es⟩:∃sy,(s0::su)[i]? = some sy:=⟨_,aFM (by omega)⟩
  refine yM ?_;refine⟨_,rfl,y,_,4,12,rfl,(to i y _ hy es).same hs,ok1 i _ es,by decide,aFV _,fun H5 s5=>?_⟩;refine bG hm hi (s5 _ _ hE') (by rw[aFJ,aFJ,aGh];exact aU (by omega)) ⟨_,rfl,(hs.trans s5).upd_new hE1 _,?_⟩;rw[aB,take_snoc es,aFQ,aFQ]
  rfl
 case doneW =>
 rintro τ H5 ⟨v0,rfl,s5,hE5⟩;rw[hlt,tl,aF5]at hE5;have hB5:=s5 _ _ hB;have tb5:cA Pt eU gU H5:=tb0.same s5;have to5:=xX to s5;have at2:Gh (((s0::su).map (tM 5)).map V.str) 0=some (.str (tM 5 s0)):=m7 (j:=0) rfl;have at1:Gh ((t0::tu).map V.ref) 0=some (.ref t0):=m7 (j:=0) rfl;refine⟨_,rfl,E1,_,_,_,rfl,rfl,bV.of hE5,at2,tM 5 s0,s0,rfl,rfl,ok0,aFN (lU ok0) (by decide),tb5,fun y1 H6 s6 tb6 st6=>?_⟩;have hB6:=s6.get tb5 hB5 (fun _ z=>nomatch z);have hE6:=s6.get tb5 hE5 (fun _ z=>nomatch z);have to6:=KH to5 s6 tb5;obtain⟨t1,ty1,k1⟩:=Yx ck ct qe qs st6;refine⟨_,rfl,_,cSt,t1,true,rfl,ty1,k1,_,rfl,?_⟩;refine dW ?_;refine Ms (σ:=[some (.ref B),some (.ref E1),some (.ref y1),none,none]) st6 (n:=5) (by decide) (fun R h=>⟨_,rfl,h⟩) fun r1 H7 s7 to7=>?_;have hB7:=s7 _ _ hB6;refine⟨_,rfl,B,_,_,_,rfl,rfl,bV.of hB7,at1,.ref r1,.ref t0,rfl,(Ql ok0 to7 ((to6 0 t0 s0 rfl rfl).same s7)).mono (by decide),fun H8 s8=>?_⟩;refine⟨_,rfl,?_⟩;refine dW ?_;have s68:=s7.trans s8;refine⟨_,rfl,y1,s0,4,12,12,rfl,st6.same s68,ok0,by decide,aFV _,fun H9 s9=>?_⟩;have s69:=s68.trans s9;refine⟨_,rfl,E1,_,_,_,rfl,rfl,bV.of (s69 _ _ hE6),at2,rfl,?_⟩;refine⟨_,rfl,?_⟩;refine iW (by rw[decide_eq_true rfl];rfl) ?_;have hB9:=s69 _ _ hB6;have hE9:=s69 _ _ hE6;have tb9:=tb6.same s69;have to9:=xX to6 s69;have s59:=s6.trans s69.toT;refine⟨rfl,_,rfl,_,E1,(s0::su).map (tM 5),rfl,rfl,bV.of hE9,aFN (JB l6 ok) (by decide),?_⟩;have zl:(Lk (s0::su)).length<=1000000:=aFN (jO _ _) (JB l6 ok);have su5:su.length<=5:=by rw[aF8]at l6;omega
 have cz:=Wf s0 su;show _;generalize hz:Txt.join (Str.ofString " | ") ((s0::su).map (tM 5))=z;have hz':Lk (s0::su)=z:=hz;rw[hz']at zl cz;refine⟨_,rfl,z,s0,su,rfl,cz,ok,su5,zl,tb9,fun D ys HA sA tbA hD0 hDA BA=>?_⟩;have yl:ys.length=(s0::su).length:=BA.1;have hBA:=sA.get tb9 hB9 (fun _ z=>nomatch z);have toA:=KH to9 sA tb9;have s5A:=s59.trans sA;refine⟨_,rfl,_,_,_,rfl,.lst hDA,fP _,_,rfl,?_⟩;refine dW ?_;refine⟨_,rfl,D,rfl,⟨_,bV.of hDA⟩,fun L hL=>?_⟩;refine dF (xs:=ys.map V.ref) (fun i τ H'=>∃v0 rs,τ = [v0,some (.ref B),some (.ref E1),some (.ref y1),some (.str z),some (.ref D)]/\aP HA H'/\H' L=some (.lst (rs.map V.ref))/\rs.length=i/\u6 H' rs (s0::su)) ⟨none,[],rfl,aD hL _,aB,rfl,fun j t s h=>by simp at h⟩ ?keepT ?turnT ?doneT
 case keepT =>
  rintro i τ H' hi ⟨v0,rs,rfl,hs,_⟩;exact bV.of (hs _ _ hDA)
 case turnT =>
  rintro i m v τ H' hm hi hv ⟨v0,rs,rfl,hs,hL',lr,tr⟩;obtain⟨y,hy,rfl⟩:=mD hv;rw[aFJ]at hi;obtain⟨sy,es⟩:∃sy,(s0::su)[i]? = some sy:=⟨_,aFM (by omega)⟩
  refine yM ?_;refine Ms (σ:=[some (.ref y),some (.ref B),some (.ref E1),some (.ref y1),some (.str z),some (.ref D)]) ((BA.2 i y sy hy es).same hs) (n:=5) (by decide) (fun R h=>⟨_,rfl,h⟩) fun r2 H2 s2 to2=>?_;have hL2:=s2 _ _ hL';refine bG hm (by rw[aFJ];exact hi) hL2 (by rw[aFJ];exact aU (by omega)) ⟨_,rs++[r2],rfl,(hs.trans s2).upd_new hL _,by rw[aB,aFQ];rfl,by rw[aFR,lr];rfl,fun j p u hp hu=>?_⟩;have kp:∀{x:Addr}{s:Sd.Sd},jY H2 x s->jY (bH H2 L (.lst (rs.map V.ref++[.ref r2]))) x s:=fun h=>h.keep fun b xs eb=>by rw[aK (dG eb hL2 fun z=>nomatch z)];exact eb
  by_cases hj:j<rs.length
  ·rw[aGd hj]at hp;exact kp ((tr j p u hp hu).same s2)
  ·have hj2:=(aFU.mp hp).1;rw[aFR,aGp]at hj2;rw[aGa (by omega),show j-rs.length=0 by omega]at hp;cases hp;rw[show j=i by omega,es]at hu;cases hu;exact kp to2
 case doneT =>
 rintro τ HB ⟨v0,rs,rfl,sB,hLB,lr,trB⟩;rw[aFJ]at lr;refine⟨_,rfl,.ref L,.ref B,rfl,(QG hLB (sB _ _ hBA) (by omega) tl trB (xX toA sB) ok).mono (by decide),fun HC sC=>?_⟩;refine⟨_,rfl,?_⟩;refine dW ?_;have sAC:=sB.trans sC;refine⟨_,rfl,D,ys,s0::su,rfl,sAC _ _ hDA,yl,by omega,(fun i y s h1 h2=>⟨4,12,12,(BA.2 i y s h1 h2).same sAC,ok1 i s h2,by decide⟩),fun HD sD=>?_⟩;refine⟨_,rfl,?_⟩;rw[hz'];refine⟨rfl,_,rfl,?_⟩;refine iW (by rw[decide_eq_true rfl];rfl) ?_;have sAD:=sAC.trans sD;have hDD:=sAD _ _ hDA;have tbD:=tbA.same sAD;obtain⟨yz,eyz⟩:∃v,(ys.map V.ref)[(ys.map V.ref).length-1]? = some v:=⟨_,aFM (by rw[aFJ,yl,aF8];omega)⟩
 refine⟨_,rfl,.inl ⟨rfl,_,bV.of hDD⟩,D,_,yz,rfl,rfl,hDD,eyz,?_⟩;have s9E:cW Pt H9 (bH HD D (.lst (ys.map V.ref).dropLast)):=fun b o nP e=>by rw[aK (aR e hD0)];exact(sA.trans sAD.toT) b o nP e
 have tbE:cA Pt eU gU (bH HD D (.lst (ys.map V.ref).dropLast)):=Bl tbD hDD;have hBE:=s9E.get tb9 hB9 (fun _ z=>nomatch z);generalize bH HD D (.lst (ys.map V.ref).dropLast)=HE at s9E tbE hBE ⊢;refine⟨_,rfl,z,s0,su,rfl,cz,ok,su5,zl,tbE,fun D2 ys2 HF sF tbF hD20 hDF BF=>?_⟩;refine⟨D2,_,rfl,.inl (bV.of hDF),_,rfl,B,_,rfl,.inl (bV.of (sF.get tbE hBE (fun _ z=>nomatch z))),rfl,?_⟩;have le:(((ys2.map V.ref).length:Nat):Int)=((((t0::tu).map V.ref).length:Nat):Int):=by rw[aFJ,aFJ,BF.1,tl]
 rw[decide_eq_true (by rw[le])];exact q HF (s5.toT.trans (s59.trans (s9E.trans sF))) tbF
end
end K86
namespace L2
open PySem PySem.Spec PyProof.Rows
theorem Iu{X:Cx}{body:List Stmt}{h0:ExceptHandler}{hs:List ExceptHandler}{pos:Pos}{tb:TS}(hb:yC (X.wish fun _ _=>False) body tb):PS X (.Try body (h0::hs) [] [] pos) tb:=by
 intro pins s σ H D I h;refine wpAny_Try_except (wpAny_mono (hb pins s σ H D (I.wish _) h) (fun fl s1 hq=>?_) fun e s1 hx=>False.elim hx);have hq:=SP.unwish hq;cases fl with
 |next =>
  obtain⟨σ',H',J,q⟩:=hq;exact bM pins s1 σ' H' D J q
 |brk=>exact hq
 |cont=>exact hq
 |ret u=>exact hq
end L2
namespace K86
open PySem L2 TD TP TX Kn
open Builtin.Int (intBits)
section
variable{P:Program}{w:World}{K:PySem.W.Frag}{mg:Str->Option Value}{base:Heap}{Pt:Addr}
inductive yP:Sk->Prop
 |few {c:Int} (h0:0<=c) (h6:c<=6):yP (.few c)
 |groups {gs ms:List Int} (g:Zk gs ms):yP (.groups gs ms)
 |listed {ks:List Int} (lt:ks.Pairwise (· < ·)) (ne:ks≠[]) (k:∀x∈ks,0<=x/\x<=63):yP (.listed ks)
def Gj (p:Ff)(H:Hp)(x:Addr):Sk->Prop
 | .few c=>xE p.f H x c
 | .groups gs ms=>Pb p.g H x gs ms
 | .listed ks=>PL p.l H x ks
noncomputable def O8:Sk->Str
 | .few c=>Str.ofString "few "++lF c
 | .groups gs ms=>Str.ofString "groups "++pW gs++Str.ofString " / "++pW ms
 | .listed ks=>Str.ofString "listed "++pW ks
inductive ZS (vs:List V)(H:Hp)(Q:VK)(_:XK):Prop
 |mk (c:Int) (_:vs=[.int c]) (_:∀(r:Addr) (H':Hp) (S:Sk),aP H H'->wX H' r S->yP S->Q (.ref r) H')
inductive RL (vs:List V)(H:Hp)(Q:VK)(_:XK):Prop
 |mk (r:Addr) (S:Sk) (_:vs=[.ref r]) (_:wX H r S) (_:yP S) (_:∀H',aP H H'->Q (.str (O8 S)) H')
inductive Qx (p:Ff)(vs:List V)(H:Hp)(Q:VK)(_:XK):Prop
 |mk (x:Addr) (S:Sk) (_:vs=[.ref x]) (_:Gj p H x S) (_:yP S) (_:∀H',aP H H'->Q (.str (O8 S)) H')
theorem mX{ns:List Int}(l:ns.length<=100)(h:∀n∈ns,0<=n/\n<100):(pW ns).length<=300:=by
 have b:(Str.ofString " ").length=1:=by decide
 refine aFN (jO _ _) (aFN (iM (B:=2) fun t ht=>?_) ?_)
 ·obtain⟨n,hn,rfl⟩:=aFT.mp ht;exact fK (h n hn).1 (by decide) (by have:=(h n hn).2;show n<100;omega)
 ·rw[aFJ,b];omega
theorem Nj:∀{l:List Int}{lo hi:Int},l.Pairwise (· < ·)->(∀x∈l,lo<=x/\x<=hi)->l=[]∨(l.length:Int)<=hi+1-lo
 | [],_,_,_,_=>.inl rfl
 |x::l,lo,hi,hp,h=>by
  obtain⟨p1,p2⟩:=aG9.mp hp;have hx:=h x aFL
  right
  rcases Nj (l:=l) (lo:=x+1) (hi:=hi) p2 (fun y hy=>⟨by have:=p1 y hy;omega,(h y (aFK _ hy)).2⟩)with e |e
  ·rw[e];show(1:Int)<=_;omega
  ·rw[aF8];omega
variable{ks:List Int}
theorem PJ(lt:ks.Pairwise (· < ·))(k:∀x∈ks,0<=x/\x<=63):ks.length<=64:=by
 rcases Nj lt (lo:=0) (hi:=63) k with e |e
 ·rw[e];decide
 ·omega
theorem Cy{ms:List Int}(pm:ms.Perm ks)(so:ms.Pairwise (·<=·))(lt:ks.Pairwise (· < ·)):ms=ks :=
 List.Perm.eq_of_pairwise (le:=(·<=·)) (fun a b _ _ h1 h2=>Int.le_antisymm h1 h2) so (lt.imp fun h=>aFZ h) pm
theorem BP{n:Nat}{f:Addr}{fd:FuncData}(F:dJ K "_law_sort" "_law_sort" (top 79) f fd)(h_:Cl P w K mg base n "_law_mixed" Eg)(b_:mg "tuple" = none)(m_:mg "range" = none):aN P w K mg base bT (n+1) f fd ["_law_cell"] ZS:=by
 refine F.go rE fun cdv A outer s H vs Q E hr h=>?_;obtain⟨c,rfl,q⟩:=h;have nd:=rE.nd;refine Cm ⟨_,(aO (dY (i:=1) nd rfl (Or.inl rfl) (bY c7 (QE.mk (aF h_ hr (aA (pv 0) (aA aL aC)))) bZ)) (aO (gG (jD fQ (qv 1) bZ (bD _)) (bF (bN (pF (aY bI (aY (bY c7 (QE.mk (aF h_ hr (aA (pv 0) (aA aL aC)))) bZ) bW))))) cN) (aO (dY (i:=2) nd rfl (Or.inr rfl) (QE.mk (gY ["_law_k"] (iH rfl m_ (aA (aV dM aL (aV c7 (aF h_ hr (aA (pv 0) (aA aL aC))) aL)) aC)) (fun _ _ _ _=>⟨(jG 0),cG,(aV c7 (aF h_ hr (aA (pv 1) (aA (aV dM aL (pv 0)) aC))) aL)⟩)))) (aO (gG (jD fQ (qv 1) bZ (bD _)) (bF (bN (pF (aY bI (aY (fU (bR (K:=K) rfl) rfl b_ dZ (aY (qv 2) bW)) (aY (fU (bR (K:=K) rfl) rfl b_ dZ (aY (QE.mk (gY ["_law_k"] (iH rfl m_ (aA aL aC)) (fun _ _ _ _=>⟨(jG 0),cG,(aV c7 (aF h_ hr (aA (pv 1) (aA (aV dM aL (pv 0)) aC))) aL)⟩))) bW)) bW)))))) cN) (bF (bN (pF (aY bI (aY (fU (bR (K:=K) rfl) rfl b_ dZ (aY (QE.mk (gY ["_law_k"] (iH rfl m_ (aA aL aC)) (fun _ _ _ _=>⟨(jG 0),(O9 (PW.pt (iU (bJ fQ (aV c7 (aF h_ hr (aA (pv 1) (aA (aV dM aL (pv 0)) aC))) (aV dM aL (eE (Nk (K:=K) rfl) (pv 3) aL (fun _ _=>rfl)))) aL (bD _)) (gM (bJ fQ (pv 0) aL (bD _)))))),(pv 0)⟩))) bW)) bW))))))))),?_⟩;refine⟨_,rfl,c,1,rfl,fun w0 _ _=>?_⟩;refine⟨_,_,rfl,rfl,(by show(0:Int)<3;decide),?_⟩;dsimp only;generalize w0%3=wy;refine⟨_,rfl,rfl,_,rfl,?_⟩;refine qZ (fun _=>?_) (fun _=>?_)
 ·refine⟨_,rfl,c,2,rfl,fun j _ _=>?_⟩;have e0:=aGx j (show(7:Int)≠0 by decide);have e1:=aGl j (show(0:Int)<7 by decide);refine⟨_,_,rfl,rfl,(by show(0:Int)<7;decide),uI,fun r hr0=>?_⟩;exact q r _ (.few (j%7)) (aD hr0 _) aB (.few e0 (by omega))
 refine⟨_,rfl,c,3,rfl,fun n3 _ _=>?_⟩;have f0:=aGx n3 (show(6:Int)≠0 by decide);have f1:=aGl n3 (show(0:Int)<6 by decide);refine⟨_,_,rfl,rfl,(by show(0:Int)<6;decide),_,_,rfl,rfl,(1+n3%6),rfl,by omega,by omega,fun D hD=>?_⟩;refine lE (n:=(1+n3%6).toNat) (fun i τ H'=>∃(v0:Option V) (ns:List Int),τ = [v0,some (.int c),some (.int wy),none]/\aP H H'/\H' D=some (.lst (Is ns))/\ns.length=i/\∀x∈ns,0<=x/\x<=5) ⟨none,[],rfl,aD hD _,aB,rfl,fun _ h=>nomatch h⟩ ?turnD ?doneD
 case turnD =>
  rintro i m τ H' hm hi ⟨v0,ns,rfl,hs,hD',ln,hn⟩;unfold kY;refine eG ?_;refine⟨_,rfl,_,rfl,_,_,rfl,rfl,c,_,rfl,fun j _ _=>?_⟩;have e0:=aGx j (show(6:Int)≠0 by decide);have e1:=aGl j (show(0:Int)<6 by decide);refine⟨_,_,rfl,rfl,(by show(0:Int)<6;decide),?_⟩;refine bG hm hi hD' (by rw[gH];exact aU (by omega)) ⟨_,ns++[j%6],rfl,hs.upd_new hD _,by rw[aB];unfold Is;rw[aFQ];rfl,by rw[aFR,ln];rfl,fun x hx=>?_⟩;rcases aGc.mp hx with z |z
  ·exact hn x z
  ·rw[aF2.mp z];omega
 case doneD =>
 rintro τ H1 ⟨v0,gs,rfl,s1,hD1,lg,hg⟩;refine⟨_,rfl,rfl,_,rfl,?_⟩;refine qZ (fun _=>?_) (fun _=>?_)
 ·refine⟨_,rfl,D,_,rfl,.inl ⟨bV.of hD1,fun t1 ht1=>?_⟩⟩;have n1:=aD ht1 (.tup (Is gs));have g1:bH H1 t1 (.tup (Is gs)) t1=some (.tup (Is gs)):=aB;generalize bH H1 t1 (.tup (Is gs))=H2 at n1 g1 ⊢;refine⟨6,rfl,by decide,by decide,fun D2 hD2=>?_⟩;refine lE (n:=6) (fun i τ H'=>∃(v0:Option V) (ns:List Int),τ = [v0,some (.int c),some (.int wy),some (.ref D)]/\aP H2 H'/\H' D2=some (.lst (Is ns))/\ns.length=i/\∀x∈ns,0<=x/\x<=6) ⟨none,[],rfl,aD hD2 _,aB,rfl,fun _ h=>nomatch h⟩ ?turnD2 ?doneD2
  case turnD2 =>
   rintro i m τ H' hm hi ⟨v0,ns,rfl,hs,hD',ln,hn⟩;unfold kY;refine eG ?_;refine⟨_,rfl,_,rfl,_,_,rfl,rfl,c,_,rfl,fun j _ _=>?_⟩;have e0:=aGx j (show(7:Int)≠0 by decide);have e1:=aGl j (show(0:Int)<7 by decide);refine⟨_,_,rfl,rfl,(by show(0:Int)<7;decide),?_⟩;refine bG hm hi hD' (by rw[gH];exact aU (by omega)) ⟨_,ns++[j%7],rfl,hs.upd_new hD2 _,by rw[aB];unfold Is;rw[aFQ];rfl,by rw[aFR,ln];rfl,fun x hx=>?_⟩;rcases aGc.mp hx with z |z
   ·exact hn x z
   ·rw[aF2.mp z];omega
  case doneD2 =>
  rintro τ H3 ⟨v0,ms,rfl,s3,hD3,lm,hm⟩;refine⟨D2,_,rfl,.inl ⟨bV.of hD3,fun t2 ht2=>?_⟩⟩;have n2:=aD ht2 (.tup (Is ms));refine⟨Pk,fun r hr0=>?_⟩;have n3':=aD hr0 (.tup [.str "groups",.ref t1,.ref t2]);exact q r _ (.groups gs ms) (((s1.trans n1).trans s3).trans (n2.trans n3')) ⟨t1,t2,aB,(s3.trans (n2.trans n3')) _ _ g1,n3' _ _ aB⟩ (.groups ⟨by omega,by omega,hg,lm,hm⟩)
 ·obtain⟨g0,eg⟩:∃g0,gs[0]? = some g0:=⟨_,aFM (by omega)⟩
  have hg0:=hg g0 (aFY eg);refine⟨64,rfl,by decide,by decide,fun D2 hD2=>?_⟩;refine lE (n:=64) (fun i τ H'=>∃(v0:Option V) (ks:List Int),τ = [v0,some (.int c),some (.int wy),some (.ref D)]/\aP H1 H'/\H' D2=some (.lst (Is ks))/\ks.length<=i/\ks.Pairwise (· < ·)/\(∀x∈ks,0<=x/\x<(i:Int))/\(10<=i->(9:Int)∈ks)) ⟨none,[],rfl,aD hD2 _,aB,aFV _,List.Pairwise.nil,(fun _ h=>nomatch h),fun h=>by omega⟩ ?turnE ?doneE
  case turnE =>
   rintro i m τ H' hm hi ⟨v0,ks,rfl,hs,hD',lk,pw,hk,h9⟩;unfold kY;have push:∃ys m',m'<m/\H' D2=some (.lst ys)/\ys.length<sizeLine/\CW 64 (fun i τ H'=>∃(v0:Option V) (ks:List Int),τ = [v0,some (.int c),some (.int wy),some (.ref D)]/\aP H1 H'/\H' D2=some (.lst (Is ks))/\ks.length<=i/\ks.Pairwise (· < ·)/\(∀x∈ks,0<=x/\x<(i:Int))/\(10<=i->(9:Int)∈ks)) (i+1) m' [some (.int (0+(i:Int))),some (.int c),some (.int wy),some (.ref D)] (bH H' D2 (.lst (ys++[.int (0+(i:Int))]))):=by
    refine bG hm hi hD' (by rw[gH];exact aU (by omega)) ⟨_,ks++[0+(i:Int)],rfl,hs.upd_new hD2 _,by rw[aB];unfold Is;rw[aFQ];rfl,by rw[aFR,aGp];omega,List.pairwise_append.mpr ⟨pw,aH0 _ _,fun x hx y hy=>by rw[aF2.mp hy];have:=(hk x hx).2;omega⟩,fun x hx=>?_,fun h10=>?_⟩
    ·rcases aGc.mp hx with z |z
     ·have:=hk x z;omega
     ·rw[aF2.mp z];omega
    ·by_cases e:i=9
     ·rw[e];exact aF4 _ (aF2.mpr rfl)
     ·exact aGL _ (h9 (by omega))
   refine⟨_,rfl,_,rfl,_,_,rfl,rfl,c,_,rfl,fun j _ _=>?_⟩;refine⟨_,rfl,D,_,_,_,rfl,rfl,bV.of (hs _ _ hD1),m7 (j:=0) (by unfold Is;rw[aF9,eg];rfl),_,_,rfl,rfl,_,_,rfl,rfl,(by show(0:Int)<1+g0;omega),rfl,_,rfl,?_⟩;refine qZ (fun _=>⟨_,rfl,push⟩) (fun _=>?_);refine⟨_,rfl,rfl,_,rfl,?_⟩;refine qZ (fun _=>⟨_,rfl,push⟩) (fun z=>?_);have i9:i≠9:=fun e=>z (by rw[e];rfl);exact Jd hm hi ⟨_,ks,rfl,hs,hD',by omega,pw,fun x hx=>by have:=hk x hx;omega,fun h10=>h9 (by omega)⟩
  case doneE =>
   rintro τ H3 ⟨v0,ks,rfl,s3,hD3,lk,pw,hk,h9⟩;refine⟨D2,_,rfl,.inl ⟨bV.of hD3,fun t2 ht2=>?_⟩⟩;have n2:=aD ht2 (.tup (Is ks));refine⟨uI,fun r hr0=>?_⟩;have n3':=aD hr0 (.tup [.str "listed",.ref t2]);exact q r _ (.listed ks) ((s1.trans s3).trans (n2.trans n3')) ⟨t2,aB,n3' _ _ aB⟩ (.listed pw (fun e=>by rw[e]at h9;exact absurd (h9 (by decide)) (by simp)) fun x hx=>by have:=hk x hx;omega)
end
end K86
namespace K86
open PySem L2 TD TP TX Kn Rd
open Builtin.Int (intBits)
section
variable{P:Program}{w:World}{K:PySem.W.Frag}{mg:Str->Option Value}{base:Heap}{Pt:Addr}
inductive Ra (C G:Addr)(vs:List V)(H:Hp)(Q:VK)(_:XK):Prop
 |mk (x:Addr) (z:Str) (p:Nat) (v:Int) (us:List Int) (_:vs=[.ref x]) (_:cY C H x z p) (_:yP (.listed (v::us))) (_:Rd.rest z p=o4 v us) (_:∀y H',KX x H H'->cY C H' x z (p+(o4 v us).length)->PL G H' y (v::us)->Q (.ref y) H')
inductive RN (C:Addr)(p:Ff)(vs:List V)(H:Hp)(Q:VK)(_:XK):Prop
 |mk (x:Addr) (z:Str) (a:Nat) (S:Sk) (_:vs=[.ref x]) (_:cY C H x z a) (_:yP S) (_:Rd.rest z a=(O8 S).cps.toList) (_:∀y H',KX x H H'->cY C H' x z (a+(O8 S).cps.toList.length)->Gj p H' y S->Q (.ref y) H')
inductive K5 (p:Ff)(vs:List V)(H:Hp)(Q:VK)(_:XK):Prop
 |mk (S:Sk) (_:vs=[.str (O8 S)]) (_:yP S) (_:(O8 S).length<=1000000) (_:∀(y:Addr) (H':Hp),aP H H'->Gj p H' y S->Q (.ref y) H')
theorem zH(v:Int)(us:List Int):(pW (v::us)).cps.toList=o4 v us:=by
 unfold pW;rw[aFP,Iw];unfold jT o4;rw[aGr,List.flatMap_map]
 rfl
theorem Fz:∀c:Nat,([]:List Nat).head? = some c->CQ c=false:=fun _ h=>nomatch h
theorem Ro:[32] <+: ([]:List Nat)->[32,47] <+: ([]:List Nat):=fun⟨_,e⟩=>nomatch e
variable{fd:FuncData}
theorem xZ{n:Nat}{f:Addr}(F:dJ K "read_listed" "read_listed" (top 62) f fd){C:Addr}(rk:zU K C){aDR:Addr}{aC8:FuncData}(aEh:cJ K C "numbers" aDR)(aEi:aN P w K mg base bT n aDR aC8 ["self"] (By C))(aEj:Binds K aC8 ["self"] []){p:Ff}(pt:Rg K p){iL:Addr}{iDL:FuncData}{kOL:Nat}(aDS:Mk K p.l iL)(aDT:aN P w K mg base bT kOL iL iDL ["self","sets"] (Rb p.l))(aDU:Binds K iDL ["self","sets"] [])(aCD:mg "Listed" = some (.ref p.l))(aDv:kOL+1<=n)(D_:mg "sorted" = none):aN P w K mg base bT (n+1) f fd ["reader"] (Ra C p.l):=by
 refine F.go o8 fun cdv A outer s H vs Q E hr h=>?_;obtain⟨x,z,a,v,us,rfl,hR,so,er,q⟩:=h;have nd:=o8.nd;have hu3:_+3+1<cLine:=aHN (aG3 (by decide:4<=64) _) (Room.units hr);refine⟨_,(aG (d7 1 (aX (pv 0) rk.cl aEh aEi hr aEj .nil bC)) (aG (dI (bJ (U9 (n:=3) hu3) (pv 1) (aQ (qI (K:=K) rfl) rfl D_ tV (aA (pv 1) aC)) (bD _)) (aJ fW) bM) (aJ (aW (jH aDS aDT (hr.mono aDv) rfl aCD aDU .nil bC (aA (pv 1) aC)))))),?_⟩;obtain⟨⟨dx,hx⟩,hp,hz⟩:=id hR;have nc:∀f:Str,(f==("text" : Str))=false->(f==("place" : Str))=false->∀p,(oM z p).lookup f=none:=fun f a b p=>by unfold oM;rw[aFX,a,aFX,b];rfl
 cases so with
 |listed lt ne kk =>
 have l64:=PJ lt kk;have le:(v::us).Pairwise (·<=·):=lt.imp fun h=>aFZ h;have few:Iz (v::us):=by
  rcases aHB (v::us).length 64 with h |h
  ·exact .inl h
  ·exact .inr ⟨by omega,le⟩
 have ndp:(v::us).Nodup:=lt.imp fun h=>by omega
 refine⟨_,rfl,x,dx,_,rfl,hx,nc _ (by decide) (by decide) _,x,z,a,v,us,[],rfl,hR,(fun u hu=>by have:=kk u hu;omega),by rw[aF8]at l64;omega,by rw[er,aGJ],Fz,Ro,fun D H1 k1 hD0 nD r1 d1=>?_⟩;refine⟨_,rfl,_,rfl,D,v::us,rfl,.inl (bV.of d1),few,fun D2 ms hD2 pm sm=>?_⟩;rw[Cy pm sm lt];have n2:=aD hD2 (.lst (Is (v::us)));have d12:=n2 _ _ d1;have d2:bH H1 D2 (.lst (Is (v::us))) D2=some (.lst (Is (v::us))):=aB;have r2:=r1.same n2;have k2:KX x H (bH H1 D2 (.lst (Is (v::us)))):=k1.trans (KX.of n2);have eq:w6 (bH H1 D2 (.lst (Is (v::us)))) 4 (.ref D) (.ref D2):=.lst d12 d2 rfl fun j a b ha hb=>by
  rw[ha]at hb;cases hb;obtain⟨i,_,rfl⟩:=aFT.mp (aFY ha);exact .int _ i
 generalize bH H1 D2 (.lst (Is (v::us)))=H2 at d12 r2 k2 eq ⊢;refine⟨D,D2,true,rfl,rfl,eq.de,_,rfl,?_⟩;refine iW rfl ?_;refine⟨_,rfl,?_⟩;intro y dy hy hdy ndy;have nO:aP H2 (bH (bH H2 dy (.own y)) y (.ins p.l dy [])):=(aD hdy (.own y)).trans (aD (by rw[aK (Ne.symm ndy)];exact hy) _);refine⟨y,dy,D,v::us,rfl,aB,nO _ _ d12,⟨by simp,few,ndp,kk⟩,fun t ms H3 s3 pm sm h3=>⟨rfl,?_⟩⟩;rw[Cy pm sm lt]at h3;have s23:aP H2 H3:=nO.trans s3;have hy3:H3 y=some (.ins p.l dy []):=s3 _ _ aB;have ty:t≠y:=by rintro rfl;rw[hy3]at h3;cases h3
 refine q y _ (fun b o n e=>?_) ?_ ⟨dy,t,aB,by rw[aK ty];exact h3⟩
 ·have e2:=k2 b o n e;rw[aK (aR e2 hy)];exact s23 _ _ e2
 ·obtain⟨⟨dx2,hx2⟩,hp2,hz2⟩:=r2;exact⟨⟨dx2,by rw[aK (aR hx2 hy)];exact s23 _ _ hx2⟩,hp2,hz2⟩
theorem vJ{n:Nat}{f:Addr}(F:dJ K "read_pattern" "read_pattern" (top 65) f fd){p:Ff}{C:Addr}(rk:zU K C){aC9:Addr}{aCs:FuncData}(aDV:cJ K C "need_end" aC9)(aDW:aN P w K mg base bT n aC9 aCs ["self"] (pR C))(aDX:Binds K aCs ["self"] []){iR:Addr}{iDR:FuncData}{kOR:Nat}(aBH:Mk K C iR)(aBL:aN P w K mg base bT kOR iR iDR ["self","text"] (JF C))(aBQ:Binds K iDR ["self","text"] [])(F_:mg "Reader" = some (.ref C))(aAh:kOR+1<=n)(aDa:Cl P w K mg base n "read_sort" (RN C p)):aN P w K mg base bT (n+1) f fd ["text"] (K5 p):=by
 refine F.go nY fun cdv A outer s H vs Q E hr h=>?_;obtain⟨S,rfl,so,z9,q⟩:=h;have nd:=nY.nd;refine⟨_,(aG (d7 1 (jH aBH aBL (hr.mono aAh) rfl F_ aBQ .nil bC (aA (pv 0) aC))) (aG (Iu (aJ (d7 2 (aF aDa hr (aA (pv 1) aC))))) (aG (cZ (aX (pv 1) rk.cl aDV aDW hr aDX .nil bC)) (aJ (aW (pv 2)))))),?_⟩;obtain⟨z,ez⟩:∃z,z=O8 S:=⟨_,rfl⟩
 rw[<-ez]at z9 ⊢;have nc:∀f:Str,(f==("text" : Str))=false->(f==("place" : Str))=false->∀p,(oM z p).lookup f=none:=fun f a b p=>by unfold oM;rw[aFX,a,aFX,b];rfl
 refine⟨_,rfl,?_⟩;intro x dx hx hdx ndx;have nO:aP H (bH (bH H dx (.own x)) x (.ins C dx [])):=(aD hdx (.own x)).trans (aD (by rw[aK (Ne.symm ndx)];exact hx) _);refine⟨x,dx,z,rfl,aB,z9,fun H1 k1 r1=>⟨rfl,?_⟩⟩;have s1:aP H H1:=fun b o e=>k1 b o (aR e hx) (nO _ _ e);obtain⟨⟨dx1,hx1⟩,_,_⟩:=id r1;have er:Rd.rest z 0=(O8 S).cps.toList:=by unfold Rd.rest;rw[aHQ,ez]
 refine⟨_,rfl,x,z,0,S,rfl,r1,so,er,fun y H2 k2 r2 pt=>?_⟩;obtain⟨⟨dx2,hx2⟩,_,_⟩:=id r2;have pl:0+(O8 S).cps.toList.length=z.length:=by rw[ez,aHk];rfl
 refine⟨_,rfl,x,dx2,_,rfl,hx2,nc _ (by decide) (by decide) _,x,z,_,rfl,r2,pl,?_⟩;exact⟨_,rfl,q y H2 (fun b o e=>k2 b o (aR e hx) (s1 _ _ e)) pt⟩
end
end K86
namespace K86
open PySem L2 TD TP TX Kn
open Builtin.Int (intBits)
section
variable{P:Program}{w:World}{K:PySem.W.Frag}{mg:Str->Option Value}{base:Heap}{Pt:Addr}
variable{fd:FuncData}
theorem pI{n:Nat}{f:Addr}(F:dJ K "_law_sort_written" "_law_sort_written" (top 80) f fd)(S_:Cl P w K mg base n "_law_numbers" Hm)(u_:mg "str" = none):aN P w K mg base bT (n+1) f fd ["_law_told"] RL:=by
 refine F.go jN fun cdv A outer s H vs Q E hr h=>?_;obtain⟨r,S,rfl,hS,ok,q⟩:=h;have nd:=jN.nd;refine Cm ⟨_,(aO (gG (jD fQ (mH cU (qv 0) bZ (fun _ _=>rfl)) bI (bD _)) (bF (bN (bY bK bI (fU iJ rfl u_ j8 (aY (mH cU (qv 0) bZ (fun _ _=>rfl)) bW))))) cN) (aO (gG (jD fQ (mH cU (qv 0) bZ (fun _ _=>rfl)) bI (bD _)) (bF (bN (bY bK (bY bK (bY bK bI (QE.mk (aF S_ hr (aA (eE cU (pv 0) aL (fun _ _=>rfl)) aC)))) bI) (QE.mk (aF S_ hr (aA (eE cU (pv 0) aL (fun _ _=>rfl)) aC)))))) cN) (bF (bN (bY bK bI (QE.mk (aF S_ hr (aA (eE cU (pv 0) aL (fun _ _=>rfl)) aC)))))))),?_⟩;have d1:(Str.ofString "few ").length=4:=by decide
 have d2:(Str.ofString "groups ").length=7:=by decide
 have d3:(Str.ofString " / ").length=3:=by decide
 have d4:(Str.ofString "listed ").length=7:=by decide
 cases ok with
 | @few c h0 h6 =>
  have hr1:H r=some (.tup [.str "few",.int c]):=hS;have s1:=aP.refl H;refine⟨_,rfl,r,_,_,_,rfl,rfl,dN.of hr1,rfl,rfl,_,rfl,nQ rfl ?_⟩;have l:=fK h0 (k:=1) (by decide) (by show c<10;omega);exact⟨_,rfl,r,_,_,_,rfl,rfl,dN.of hr1,rfl,c,rfl,An (jR h0 (by omega)),_,_,rfl,rfl,by omega,q H s1⟩
 | @groups gs ms g =>
  obtain⟨ga,ma,hr1,hg,hm⟩:=hS;have s1:=aP.refl H;refine⟨_,rfl,r,_,_,_,rfl,rfl,dN.of hr1,rfl,rfl,_,rfl,iW rfl ?_⟩;refine⟨_,rfl,r,_,_,_,rfl,rfl,dN.of hr1,rfl,rfl,_,rfl,nQ rfl ?_⟩;have a1:gs.length<=100:=by have:=g.l6;omega
  have a2:ms.length<=100:=by have:=g.m6;omega
  have e1:∀x∈gs,0<=x/\x<100:=fun x hx=>by have:=g.g x hx;omega
  have e2:∀x∈ms,0<=x/\x<100:=fun x hx=>by have:=g.m x hx;omega
  have l1:=mX a1 e1;have l2:=mX a2 e2;refine⟨_,rfl,r,_,_,_,rfl,rfl,dN.of hr1,rfl,ga,gs,rfl,hg,a1,e1,fun H2 s2=>?_⟩;refine⟨_,_,rfl,rfl,by omega,_,_,rfl,rfl,by rw[len_app];omega,?_⟩;refine⟨_,rfl,r,_,_,_,rfl,rfl,dN.of (s2 _ _ hr1),rfl,ma,ms,rfl,s2 _ _ hm,a2,e2,fun H3 s3=>?_⟩;exact⟨_,_,rfl,rfl,by rw[len_app,len_app];omega,q H3 ((s1.trans s2).trans s3)⟩
 | @listed ks lt ne hk =>
  obtain⟨ka,hr1,hkk⟩:=hS;have s1:=aP.refl H;refine⟨_,rfl,r,_,_,_,rfl,rfl,dN.of hr1,rfl,rfl,_,rfl,iW rfl ?_⟩;refine⟨_,rfl,r,_,_,_,rfl,rfl,dN.of hr1,rfl,rfl,_,rfl,iW rfl ?_⟩;have a1:ks.length<=100:=by have:=PJ lt hk;omega
  have e1:∀x∈ks,0<=x/\x<100:=fun x hx=>by have:=hk x hx;omega
  have l1:=mX a1 e1;refine⟨_,rfl,r,_,_,_,rfl,rfl,dN.of hr1,rfl,ka,ks,rfl,hkk,a1,e1,fun H2 s2=>?_⟩;exact⟨_,_,rfl,rfl,by omega,q H2 (s1.trans s2)⟩
theorem uQ{n:Nat}{f:Addr}(F:dJ K "write_pattern" "write_pattern" (top 55) f fd){p:Ff}(pt:Rg K p){aE3:Addr}{aEH:FuncData}(aFr:cJ K p.f "told" aE3)(aFs:aN P w K mg base bT n aE3 aEH ["self"] (wG p.f))(aFt:Binds K aEH ["self"] []){aE4:Addr}{aEI:FuncData}(aFu:cJ K p.g "told" aE4)(aFv:aN P w K mg base bT n aE4 aEI ["self"] (wC p.g))(aFw:Binds K aEI ["self"] []){aE5:Addr}{aEJ:FuncData}(aFx:cJ K p.l "told" aE5)(aFy:aN P w K mg base bT n aE5 aEJ ["self"] (wI p.l))(aFz:Binds K aEJ ["self"] [])(T_:Cl P w K mg base n "write_wholes" Hm)(l_:Cl P w K mg base n "write_whole" Ku):aN P w K mg base bT (n+1) f fd ["pattern"] (Qx p):=by
 refine F.go mC fun cdv A outer s H vs Q E hr h=>?_;obtain⟨x,S,rfl,hS,ok,q⟩:=h;have nd:=mC.nd;refine Cm ⟨_,(aO (dY (i:=1) nd rfl (Or.inl rfl) (QE.mk (Lg (aX (pv 0) pt.cf aFr aFs hr aFt .nil bC) (aX (pv 0) pt.cg aFu aFv hr aFw .nil bC) (aX (pv 0) pt.cl aFx aFy hr aFz .nil bC)))) (aO (gG (jD fQ (mH cU (qv 1) bZ (fun _ _=>rfl)) bI (bD _)) (bF (bN (bY bK bI (QE.mk (aF l_ hr (aA (eE cU (pv 1) aL (fun _ _=>rfl)) aC)))))) cN) (aO (gG (jD fQ (mH cU (qv 1) bZ (fun _ _=>rfl)) bI (bD _)) (bF (bN (bY bK (bY bK (bY bK bI (QE.mk (aF T_ hr (aA (eE cU (pv 1) aL (fun _ _=>rfl)) aC)))) bI) (QE.mk (aF T_ hr (aA (eE cU (pv 1) aL (fun _ _=>rfl)) aC)))))) cN) (bF (bN (bY bK bI (QE.mk (aF T_ hr (aA (eE cU (pv 1) aL (fun _ _=>rfl)) aC))))))))),?_⟩;have d1:(Str.ofString "few ").length=4:=by decide
 have d2:(Str.ofString "groups ").length=7:=by decide
 have d3:(Str.ofString " / ").length=3:=by decide
 have d4:(Str.ofString "listed ").length=7:=by decide
 cases ok with
 | @few c h0 h6 =>
  have hF:xE p.f H x c:=hS;have hF':=hF;obtain⟨dx,hx⟩:=hF';refine .inl ⟨_,rfl,x,dx,_,rfl,hx,rfl,x,c,rfl,hF,fun r H1 s1 hT=>?_⟩;have hr1:H1 r=some (.tup [.str "few",.int c]):=hT;refine⟨_,rfl,r,_,_,_,rfl,rfl,dN.of hr1,rfl,rfl,_,rfl,nQ rfl ?_⟩;have l:=fK h0 (k:=1) (by decide) (by show c<10;omega);exact⟨_,rfl,r,_,_,_,rfl,rfl,dN.of hr1,rfl,c,rfl,jR h0 (by omega),_,_,rfl,rfl,by omega,q H1 s1⟩
 | @groups gs ms g =>
  have hF:Pb p.g H x gs ms:=hS;have hF':=hF;obtain⟨dx,g1,m1,hx,_,_⟩:=hF';refine .inr (.inl ⟨_,rfl,x,dx,_,rfl,hx,rfl,x,gs,ms,rfl,hF,fun r H1 s1 hT=>?_⟩);obtain⟨ga,ma,hr1,hg,hm⟩:=hT;refine⟨_,rfl,r,_,_,_,rfl,rfl,dN.of hr1,rfl,rfl,_,rfl,iW rfl ?_⟩;refine⟨_,rfl,r,_,_,_,rfl,rfl,dN.of hr1,rfl,rfl,_,rfl,nQ rfl ?_⟩;have a1:gs.length<=100:=by have:=g.l6;omega
  have a2:ms.length<=100:=by have:=g.m6;omega
  have e1:∀x∈gs,0<=x/\x<100:=fun x hx=>by have:=g.g x hx;omega
  have e2:∀x∈ms,0<=x/\x<100:=fun x hx=>by have:=g.m x hx;omega
  have l1:=mX a1 e1;have l2:=mX a2 e2;refine⟨_,rfl,r,_,_,_,rfl,rfl,dN.of hr1,rfl,ga,gs,rfl,hg,a1,e1,fun H2 s2=>?_⟩;refine⟨_,_,rfl,rfl,by omega,_,_,rfl,rfl,by rw[len_app];omega,?_⟩;refine⟨_,rfl,r,_,_,_,rfl,rfl,dN.of (s2 _ _ hr1),rfl,ma,ms,rfl,s2 _ _ hm,a2,e2,fun H3 s3=>?_⟩;exact⟨_,_,rfl,rfl,by rw[len_app,len_app];omega,q H3 ((s1.trans s2).trans s3)⟩
 | @listed ks lt ne hk =>
  have hF:PL p.l H x ks:=hS;have hF':=hF;obtain⟨dx,k1,hx,_⟩:=hF';refine .inr (.inr ⟨_,rfl,x,dx,_,rfl,hx,rfl,x,ks,rfl,hF,fun r H1 s1 hT=>?_⟩);obtain⟨ka,hr1,hkk⟩:=hT;refine⟨_,rfl,r,_,_,_,rfl,rfl,dN.of hr1,rfl,rfl,_,rfl,iW rfl ?_⟩;refine⟨_,rfl,r,_,_,_,rfl,rfl,dN.of hr1,rfl,rfl,_,rfl,iW rfl ?_⟩;have a1:ks.length<=100:=by have:=PJ lt hk;omega
  have e1:∀x∈ks,0<=x/\x<100:=fun x hx=>by have:=hk x hx;omega
  have l1:=mX a1 e1;refine⟨_,rfl,r,_,_,_,rfl,rfl,dN.of hr1,rfl,ka,ks,rfl,hkk,a1,e1,fun H2 s2=>?_⟩;exact⟨_,_,rfl,rfl,by omega,q H2 (s1.trans s2)⟩
end
end K86
namespace K86
open PySem L2 TD TP
open Builtin.Int (intBits)
section
variable{P:Program}{w:World}{K:PySem.W.Frag}{mg:Str->Option Value}{base:Heap}{Pt:Addr}
theorem Ej{n:Nat}{f:Addr}{fd:FuncData}(F:dJ K "_law_box" "_law_box" (top 76) f fd){n0:Nat}(aB3:Cl P w K mg base n "_law_box" (Ie n0))(b_:mg "tuple" = none)(m_:mg "range" = none)(aCY:mg "min" = none):aN P w K mg base bT (n+1) f fd ["_law_row_here","_law_deep","_law_most","_law_scale"] (Ie (n0+1)):=by
 refine F.go u5 fun cdv A outer s H vs Q E hr h=>?_;obtain⟨L,ns,d,m,sc,rfl,hL,dn,d4,h1,m12,s1,s9,hp,hq,q⟩:=h;have nd:=u5.nd;refine Cm ⟨_,(aO (dY (i:=4) nd rfl (Or.inl rfl) (nU PySem.F.plainAttrs_list PySem.F.slot_list_pop PySem.F.type_list_pop oX (qv 0) (aY bZ bW))) (aO (gG (QT.mk (PW.pt (iU (bJ fQ (pv 1) aL (bD _)) (iU (bJ fQ (aV c7 (pv 4) aL) aL (bD _)) (gM (PW.pt (m5 (bJ fQ (pv 2) aL (bD _)) (jW (bJ zA (aV c7 (pv 4) aL) aL (bD _)))))))))) (bF (bN (pF (aY bI (aY (bY c7 (nU PySem.F.plainAttrs_list PySem.F.slot_list_pop PySem.F.type_list_pop oX (qv 0) (aY bZ bW)) (qv 3)) bW))))) cN) (aO (dY (i:=5) nd rfl (Or.inl rfl) (rD (zW rfl) rfl aCY K4 (aY (bY dM bZ (bY c7 (bY j0 (qv 4) bZ) bZ)) (aY (qv 2) bW)))) (aO (dY (i:=6) nd rfl (Or.inl rfl) (bY j0 (bY c7 (nU PySem.F.plainAttrs_list PySem.F.slot_list_pop PySem.F.type_list_pop oX (qv 0) (aY bZ bW)) (qv 3)) (bY dM bZ (bY c7 (bY j0 (qv 4) bZ) bZ)))) (aO (dY (i:=7) nd rfl (Or.inl rfl) (Kh bW)) (aO (QS.mk (jQ PassesOwn.never rfl (iH rfl m_ (aA (pv 5) aC)) (jG 8) (aG (d7 9 (aV dM aL (aV c7 (pY PySem.F.plainAttrs_list PySem.F.slot_list_pop PySem.F.type_list_pop oX (pv 0) (aA aL aC)) (eE lR (m9 (aA aL (aA aL aC))) (aV c7 (aV j0 (pv 4) aL) aL) (fun _ _=>rfl))))) (aJ (cZ (pY PySem.F.plainAttrs_list PySem.F.slot_list_append PySem.F.type_list_append iI (pv 7) (aA (fH (aA (pv 9) (aA (aF aB3 hr (aA (pv 0) (aA (aV nF (pv 1) aL) (aA (aV j0 (pv 2) (pv 5)) (aA (pv 3) aC))))) aC))) aC))))))) (bF (bN (pF (aY bI (aY (qv 6) (aY (fU (bR (K:=K) rfl) rfl b_ dZ (aY (qv 7) bW)) bW)))))))))))),?_⟩;cases ns with
 |nil=>have:=Ue d m;simp at hp;omega
 |cons m0 ns =>
 cases ns with
 |nil=>have:=Ue d m;simp at hp;omega
 |cons m1 ns =>
 have hlen:(m0::m1::ns).length=ns.length+2:=rfl;have p2:=Ue d m;have e1:=tE m1 (show 0<sc by omega);refine⟨_,rfl,.inl ⟨rfl,_,bV.of hL⟩,L,_,0,0,.int m0,rfl,rfl,hL,by decide,by decide,V6 (by simp),rfl,?_⟩;have hL1:bH H L (.lst (Is (m1::ns))) L=some (.lst (Is (m1::ns))):=aB;have k1:∀b o,b≠L->H b=some o->bH (bH H L (.lst (Is (m1::ns)))) L (.lst (Is ns)) b=some o:=fun b o nb e=>by rw[aK nb,aK nb];exact e
 have hL2:(bH (bH H L (.lst (Is (m1::ns)))) L (.lst (Is ns))) L=some (.lst (Is ns)):=aB;have fin:∀r,(bH (bH H L (.lst (Is (m1::ns)))) L (.lst (Is ns))) r=none->Q (.ref r) (bH (bH (bH H L (.lst (Is (m1::ns)))) L (.lst (Is ns))) r (.tup [.str "end",.int (m1%sc)])):=fun r hr1=>by
  have n3:=aD hr1 (.tup [.str "end",.int (m1%sc)]);refine q r _ (.en (m1%sc)) ns (fun b o nb e=>n3 _ _ (k1 b o nb e)) (n3 _ _ hL2) (by omega) (by omega) (.en aB) (.en e1.1 (by omega) h1)
 refine⟨_,rfl,rfl,_,rfl,?_⟩;refine qZ (fun _=>?_) (fun c0=>?_)
 ·refine⟨_,rfl,.inl ⟨rfl,_,bV.of hL1⟩,L,_,0,0,.int m1,rfl,rfl,hL1,by decide,by decide,V6 (by simp),rfl,_,rfl,_,_,rfl,rfl,by omega,uI,fun r hr1=>?_⟩;exact fin r hr1
 have d0:d≠0:=fun e=>c0 (decide_eq_true (by rw[e];rfl));refine⟨_,rfl,_,_,rfl,rfl,(by show(0:Int)<5;decide),rfl,_,rfl,?_⟩;refine qZ (fun _=>?_) (fun c1=>?_)
 ·refine⟨_,rfl,.inl ⟨rfl,_,bV.of hL1⟩,L,_,0,0,.int m1,rfl,rfl,hL1,by decide,by decide,V6 (by simp),rfl,_,rfl,_,_,rfl,rfl,by omega,uI,fun r hr1=>?_⟩;exact fin r hr1
 refine⟨_,rfl,rfl,_,rfl,?_⟩;refine RC ?st (fun hS=>?en)
 case en =>
  refine⟨_,rfl,_,_,rfl,rfl,(by show(0:Int)<3;decide),_,_,rfl,rfl,_,rfl,?_⟩;refine qZ (fun _=>?_) (fun _=>hS);refine⟨_,rfl,.inl ⟨rfl,_,bV.of hL1⟩,L,_,0,0,.int m1,rfl,rfl,hL1,by decide,by decide,V6 (by simp),rfl,_,rfl,_,_,rfl,rfl,by omega,uI,fun r hr1=>?_⟩;exact fin r hr1
 obtain⟨d,rfl⟩:∃d',d=d'+1:=⟨d-1,by omega⟩
 have b4:=tE (m0/5) (show(0:Int)<4 by decide);have b9:=tE (m0/40) (show(0:Int)<9 by decide);obtain⟨M,hM,M1,M4,Mm⟩:∃M:Nat,(if(m:Int)<1+m0/5%4 then(m:Int)else 1+m0/5%4)=(M:Int)/\1<=M/\M<=4/\M<=m:=by
  split
  ·exact⟨m,rfl,h1,by omega,aFV _⟩
  ·exact⟨(1+m0/5%4).toNat,by omega,by omega,by omega,by omega⟩
 refine⟨_,rfl,_,_,rfl,rfl,⟨by decide,by decide⟩,_,_,rfl,rfl,(by show(0:Int)<4;decide),_,_,rfl,rfl,_,rfl,_,_,rfl,?_⟩;rw[hM];refine⟨_,rfl,.inl ⟨rfl,_,bV.of hL1⟩,L,_,0,0,.int m1,rfl,rfl,hL1,by decide,by decide,V6 (by simp),rfl,_,rfl,_,_,rfl,rfl,by omega,_,rfl,_,_,rfl,rfl,⟨by decide,by decide⟩,_,_,rfl,rfl,(by show(0:Int)<9;decide),_,_,rfl,rfl,_,_,rfl,rfl,⟨by omega,by omega⟩,?_⟩;refine⟨aGe _,fun R hR=>?_⟩;have n3:=aD hR (.lst []);have hL3:=n3 _ _ hL2;have k3:∀b o,b≠L->H b=some o->(bH (bH (bH H L (.lst (Is (m1::ns)))) L (.lst (Is ns))) R (.lst [])) b=some o:=fun b o nb e=>n3 _ _ (k1 b o nb e);have nRL:R≠L:=fun e=>by rw[e,aB]at hR;cases hR
 have hR0:H R=none:=by rw[aK nRL,aK nRL]at hR;exact hR
 have hR3:(bH (bH (bH H L (.lst (Is (m1::ns)))) L (.lst (Is ns))) R (.lst [])) R=some (.lst (([]:List Addr).map V.ref)):=aB;have pn:=aAX (d:=d) (m:=m) (n:=M) M1 M4 Mm;have cb:0<=m1%sc/(1+m0/40%9)/\m1%sc/(1+m0/40%9)<=1000000000:=by
  have a:=Int.ediv_nonneg e1.1 (show(0:Int)<=1+m0/40%9 by omega);have b:=Int.ediv_le_self (b:=1+m0/40%9) e1.1;exact⟨a,by omega⟩
 refine⟨_,rfl,(M:Int),rfl,by omega,by omega,?_⟩;refine uB (n:=(M:Int).toNat) (fun i σ H'=>∃v8 v9 ps ys rs ns3,σ = [some (.ref L),some (.int ((d+1:Nat):Int)),some (.int (m:Int)),some (.int sc),some (.int m0),some (.int (M:Int)),some (.int (m1%sc/(1+m0/40%9))),some (.ref R),v8,v9]/\(∀b o,b≠L->H b=some o->H' b=some o)/\H' L=some (.lst (Is ns3))/\H' R=some (.lst (ps.map V.ref))/\xB H' ps ys rs/\rs.length=i/\(∀r∈rs,1<=r.1/\r.1<=1000)/\(∀r∈rs,Sd.Ok r.2 d (m/M))/\ns.length<=ns3.length+i*(1+pp d (m/M))/\ns3.length<=ns.length)
  ⟨none,none,[],[],[],ns,rfl,k3,hL3,hR3,⟨rfl,rfl,(fun i q y t a=>by simp at a),(fun i y t a=>by simp at a)⟩,rfl,(fun _ h=>nomatch h),(fun _ h=>nomatch h),by omega,aFV _⟩ ?turn ?done
 case turn =>
  rintro i σ H' hi ⟨v8,v9,ps,ys,rs,ns3,rfl,kH,hLi,hRi,tw,rl,rw_,ro,l1,l2⟩;have hiM:i<M:=by omega
  have im:(i+1)*(1+pp d (m/M))<=M*(1+pp d (m/M)):=aGM _ hiM;have im2:(i+1)*(1+pp d (m/M))=i*(1+pp d (m/M))+(1+pp d (m/M)):=aIz _ _;cases ns3 with
  |nil=>exfalso;simp at l1;omega
  |cons z ns4 =>
  have l3:(z::ns4).length=ns4.length+1:=rfl;refine⟨_,rfl,.inl ⟨rfl,_,bV.of hLi⟩,L,_,0,0,.int z,rfl,rfl,hLi,by decide,by decide,V6 (by simp),rfl,?_⟩;refine⟨uI,fun l hl=>?_⟩;have n5:=aD hl (.lst [.int 3,.int 1000]);obtain⟨v,ev,hv⟩:=at2 (V.int 3) (V.int 1000) (m0/20);obtain⟨u,rfl,u1,u9⟩:∃u:Int,v=.int u/\1<=u/\u<=1000:=by
   rcases hv with e |e
   ·exact⟨3,e,by decide,by decide⟩
   ·exact⟨1000,e,by decide,by decide⟩
  refine⟨_,rfl,_,_,rfl,rfl,⟨by decide,by decide⟩,_,_,rfl,rfl,(by show(0:Int)<2;decide),l,_,_,_,rfl,rfl,bV.of aB,ev,_,_,rfl,rfl,by omega,_,_,rfl,rfl,?_⟩;have zu:=tE z (show 0<u by omega);have hLj:bH (bH H' L (.lst (Is ns4))) l (.lst [.int 3,.int 1000]) L=some (.lst (Is ns4)):=n5 _ _ aB;have hRj:bH (bH H' L (.lst (Is ns4))) l (.lst [.int 3,.int 1000]) R=some (.lst (ps.map V.ref)):=n5 _ _ (by rw[aK nRL];exact hRi);have kj:∀b o,b≠L->H' b=some o->bH (bH H' L (.lst (Is ns4))) l (.lst [.int 3,.int 1000]) b=some o:=fun b o nb e=>n5 _ _ (by rw[aK nb];exact e);refine⟨_,rfl,.inl ⟨rfl,_,bV.of hRj⟩,_,rfl,_,rfl,_,rfl,_,_,rfl,rfl,_,rfl,_,rfl,_,_,rfl,rfl,⟨by omega,by omega⟩,_,rfl,L,ns4,d,m/M,sc,?_,hLj,by omega,by omega,?_,?_,s1,s9,by omega,by omega,fun r H6 s6 ns6 k6 hL6 l6 l7 t6 o6=>?_⟩
  ·have e1:((d+1:Nat):Int)-1=(d:Int):=by omega
   have e2:(m:Int)/(M:Int)=((m/M:Nat):Int):=(aIF m M).symm;show [V.ref L,V.int (((d+1:Nat):Int)-1),V.int ((m:Int)/(M:Int)),V.int sc]=_;rw[e1,e2]
  ·exact(aIc (by omega)).mpr (by omega)
  ·exact aFN (aHc _ _) m12
  refine⟨uI,fun T hT=>?_⟩;have n7:=aD hT (.tup [.int (1+z%u),.ref r]);have hR6:=k6 _ _ nRL hRj;have hR7:=n7 _ _ hR6;have nTR:T≠R:=fun e=>by rw[e,hR6]at hT;cases hT
  have pl:ps.length=i:=by rw[tw.lp,rl]
  have tR:∀b xs,bH H6 T (.tup [.int (1+z%u),.ref r]) b=some (.tup xs)->bH (bH H6 T (.tup [.int (1+z%u),.ref r])) R (.lst (ps.map V.ref++[.ref T])) b=some (.tup xs):=fun b xs e=>by rw[aK (dG e hR7 fun w=>nomatch w)];exact e
  have tw7:=((tw.keep fun b xs e=>n7 _ _ (k6 _ _ (dG e hLi fun w=>nomatch w) (kj _ _ (dG e hLi fun w=>nomatch w) e))).keep tR).snoc (t:=(1+z%u,s6)) (tR _ _ aB) ((t6.same n7).keep tR);refine⟨R,_,_,rfl,rfl,hR7,by rw[aFJ,pl];exact aU (by omega),?_⟩;refine⟨_,_,ps++[T],ys++[r],rs++[(1+z%u,s6)],ns6,rfl,fun b o nb e=>?_,?_,by rw[aB,aFQ];rfl,tw7,by rw[aFR,rl];rfl,fun x hx=>?_,fun x hx=>?_,by omega,by omega⟩
  ·have hb:b≠R:=fun w=>by rw[w,hR0]at e;cases e
   rw[aK hb];exact n7 _ _ (k6 _ _ nb (kj _ _ nb (kH b o nb e)))
  ·rw[aK (Ne.symm nRL)];exact n7 _ _ hL6
  ·rcases aGc.mp hx with w |w
   ·exact rw_ x w
   ·rw[aF2.mp w];exact⟨by show 1<=1+z%u;omega,by show 1+z%u<=1000;omega⟩
  ·rcases aGc.mp hx with w |w
   ·exact ro x w
   ·rw[aF2.mp w];exact o6
 case done =>
  rintro σ H' ⟨v8,v9,ps,ys,rs,ns3,rfl,kH,hLi,hRi,tw,rl,rw_,ro,l1,l2⟩;rw[show(M:Int).toNat=M by omega]at rl l1;refine⟨_,rfl,_,rfl,R,_,rfl,.inl ⟨bV.of hRi,fun t ht=>?_⟩⟩;have n5:=aD ht (.tup (ps.map V.ref));refine⟨Pk,fun r hr1=>?_⟩;have n6:=aD hr1 (.tup [.str "stage",.int (m1%sc/(1+m0/40%9)),.ref t]);have tw6:=(tw.same n5).same n6;refine q r _ (.st (m1%sc/(1+m0/40%9)) rs) ns3 (fun b o nb e=>n6 _ _ (n5 _ _ (kH b o nb e))) (n6 _ _ (n5 _ _ hLi)) (by omega) (by omega) (.st aB (n6 _ _ aB) tw6.lp tw6.ly tw6.row tw6.sub) (.st (f:=fun _=>m/M) cb.1 cb.2 (fun e=>by rw[e]at rl;have:(0:Nat)=M:=rl;omega) (by omega) rw_ ro (by rw[List.map_const',List.sum_replicate_nat,rl];exact Nat.mul_div_le m M))
end
end K86
namespace K86
open PySem L2 TD TP TX Kn Rd
open Builtin.Int (intBits)
section
variable{P:Program}{w:World}{K:PySem.W.Frag}{mg:Str->Option Value}{base:Heap}{Pt:Addr}
theorem Xy{a b c B m:Int}(ha:0<a/\a<=B)(hb:0<b/\b<=B)(hc:0<c/\c<=B):∃v,Gh [V.int a,V.int b,V.int c] (m%3)=some (.int v)/\0<v/\v<=B:=by
 have a1:=aGx m (show(3:Int)≠0 by decide);have a2:=aGl m (show(0:Int)<3 by decide);rcases(by omega:m%3=0∨m%3=1∨m%3=2)with e |e |e <;> rw[e]
 ·exact⟨a,rfl,ha⟩
 ·exact⟨b,rfl,hb⟩
 ·exact⟨c,rfl,hc⟩
inductive YZ (Pt:Addr)(vs:List V)(H:Hp)(Q:VK)(_:XK):Prop
 |mk (c:Int) (b:Int) (_:vs=[.int c,.int b]) (_:cA Pt eU gU H) (_:∀H',cW Pt H H'->cA Pt eU gU H'->Q (.bl true) H')
variable{H:Hp}
theorem Hl{D a:Addr}{us zs:List V}{s:Sd.Sd}(h:jY H a s)(e:H D=some (.lst us)):jY (bH H D (.lst zs)) a s:=h.keep fun b xs eb=>by rw[aK (dG eb e fun z=>nomatch z)];exact eb
variable{p:Ff}{x:Addr}
theorem Cw{H':Hp}{S:Sk}(s:aP H H')(h:Gj p H x S):Gj p H' x S:=by
 cases S with
 |few c=>exact xE.same s h
 |groups gs ms=>obtain⟨dx,g,m,a,b,c⟩:=h;exact⟨dx,g,m,s _ _ a,s _ _ b,s _ _ c⟩
 |listed ks=>obtain⟨dx,k,a,b⟩:=h;exact⟨dx,k,s _ _ a,s _ _ b⟩
theorem Wg(pt:Rg K p){cPt:Addr}(qF:PySem.W.kitOne K (.ref p.f) (.ref cPt)=some true)(qG:PySem.W.kitOne K (.ref p.g) (.ref cPt)=some true)(qL:PySem.W.kitOne K (.ref p.l) (.ref cPt)=some true){S:Sk}(h:Gj p H x S):∃t,iB K H (.ref x) t/\PySem.W.kitOne K t (.ref cPt)=some true:=by
 cases S with
 |few c=>obtain⟨dx,a⟩:=h;exact⟨_,.ins a pt.cf pt.fa pt.hn pt.htk pt.fm,qF⟩
 |groups gs ms=>obtain⟨dx,g,m,a,_⟩:=h;exact⟨_,.ins a pt.cg pt.ga pt.hn pt.htk pt.gm,qG⟩
 |listed ks=>obtain⟨dx,k,a,_⟩:=h;exact⟨_,.ins a pt.cl pt.la pt.hn pt.htk pt.lm,qL⟩
theorem Yo{cl:Cl}{cP:Addr}(kk:Kn.CK K cl cP){t:Tr}(h:lG cl H x t):∃v,iB K H (.ref x) v/\PySem.W.kitOne K v (.ref cP)=some true:=by
 cases h with
 |stop h=>exact⟨_,.ins h kk.s.cl kk.s.ha kk.hn kk.htk kk.s.hm,kk.sP⟩
 |take h _=>exact⟨_,.ins h kk.t.cl kk.t.ha kk.hn kk.htk kk.t.hm,kk.tP⟩
 |opn h _ _ _=>exact⟨_,.ins h kk.o.cl kk.o.ha kk.hn kk.htk kk.o.hm,kk.oP⟩
theorem Xv{H0:Hp}{S:Sk}{Q:VK}{σ:St}{ta:TE}(h:Gj p H x S)(hv:∀R:VK,R (.ref x) H->ta σ H0 R)(q:∀r H',aP H H'->wX H' r S->Q (.ref r) H') :
  lO p.f "told" (wG p.f) [] E0 ta nC σ H0 Q∨lO p.g "told" (wC p.g) [] E0 ta nC σ H0 Q∨lO p.l "told" (wI p.l) [] E0 ta nC σ H0 Q:=by
 cases S with
 |few c=>obtain⟨dx,a⟩:=id h;exact .inl (hv _ ⟨x,dx,_,rfl,a,by rfl,x,c,rfl,h,q⟩)
 |groups gs ms=>obtain⟨dx,g,m,a,_⟩:=id h;exact .inr (.inl (hv _ ⟨x,dx,_,rfl,a,by rfl,x,gs,ms,rfl,h,q⟩))
 |listed ks=>obtain⟨dx,l,a,_⟩:=id h;exact .inr (.inr (hv _ ⟨x,dx,_,rfl,a,by rfl,x,ks,rfl,h,q⟩))
theorem Q5{S:Sk}(so:yP S):(O8 S).length<=1000000:=by
 have d1:(Str.ofString "few ").length=4:=by decide
 have d2:(Str.ofString "groups ").length=7:=by decide
 have d3:(Str.ofString " / ").length=3:=by decide
 have d4:(Str.ofString "listed ").length=7:=by decide
 cases so with
 | @few c h0 h6 =>
  show(Str.ofString "few "++lF c).length<=_;rw[len_app];have:=fK h0 (k:=10) (by decide) (by show c<(10000000000:Int);omega);omega
 | @groups gs ms g =>
  show(Str.ofString "groups "++pW gs++Str.ofString " / "++pW ms).length<=_;rw[len_app,len_app,len_app];have a:=mX (ns:=gs) (by have:=g.l6;omega) fun n h=>by have:=g.g n h;omega
  have b:=mX (ns:=ms) (by have:=g.m6;omega) fun n h=>by have:=g.m n h;omega
  omega
 | @listed ks lt ne kk =>
  show(Str.ofString "listed "++pW ks).length<=_;rw[len_app];have a:=mX (ns:=ks) (by have:=PJ lt kk;omega) fun n h=>by have:=kk n h;omega
  omega
variable{fd:FuncData}
theorem Ce{n:Nat}{f:Addr}(F:dJ K "_law_good" "_law_good" (top 84) f fd){c:Cs}{cl:Cl}(pt:Rg K p){cPt:Addr}(aCm:mg "Pattern" = some (.ref cPt))(qF:PySem.W.kitOne K (.ref p.f) (.ref cPt)=some true)(qG:PySem.W.kitOne K (.ref p.g) (.ref cPt)=some true)(qL:PySem.W.kitOne K (.ref p.l) (.ref cPt)=some true){aE6:Addr}{aEK:FuncData}(aFA:cJ K p.f "told" aE6)(aFB:aN P w K mg base bT n aE6 aEK ["self"] (wG p.f))(aFC:Binds K aEK ["self"] []){aE7:Addr}{aEL:FuncData}(aFD:cJ K p.g "told" aE7)(aFE:aN P w K mg base bT n aE7 aEL ["self"] (wC p.g))(aFF:Binds K aEL ["self"] []){aE8:Addr}{aEM:FuncData}(aFG:cJ K p.l "told" aE8)(aFH:aN P w K mg base bT n aE8 aEM ["self"] (wI p.l))(aFI:Binds K aEM ["self"] []){cP:Addr}(kk:Kn.CK K cl cP)(aDl:mg "Plan" = some (.ref cP)){f_S:Addr}{aCu:FuncData}(m_S:cJ K cl.cS "told" f_S)(G_S:aN P w K mg base bT n f_S aCu ["self"] (Kn.gJ cl 0 40))(b_S:Binds K aCu ["self"] []){f_T:Addr}{aCv:FuncData}(m_T:cJ K cl.cT "told" f_T)(G_T:aN P w K mg base bT n f_T aCv ["self"] (Kn.gJ cl 1 40))(b_T:Binds K aCv ["self"] []){f_O:Addr}{aCw:FuncData}(m_O:cJ K cl.cO "told" f_O)(G_O:aN P w K mg base bT n f_O aCw ["self"] (Kn.gJ cl 2 40))(b_O:Binds K aCw ["self"] [])(O_:Cl P w K mg base n "write_plan" (Oz cl 41))(n_:Cl P w K mg base n "_law_plan_written" (Hd 41))(aCx:Cl P w K mg base n "write_pattern" (Qx p))(L_:Cl P w K mg base n "_law_sort_written" RL)(I_:Cl P w K mg base n "_law_same" GX)(aDb:Cl P w K mg base n "read_plan" (Hf cl))(Z_:Cl P w K mg base n "_law_plan" (Kl 41))(h_:Cl P w K mg base n "_law_mixed" Eg)(aCE:Cl P w K mg base n "read_pattern" (K5 p))(aDc:Cl P w K mg base n "_law_sort" ZS)(aCb:Cl P w K mg base n "_law_boxes_good" (ZK Pt))(aB3:Cl P w K mg base n "_law_box" (Ie 5))(aDm:Cl P w K mg base n "_law_row" NB)(a_:mg "isinstance" = none)(m_:mg "range" = none):aN P w K mg base bT (n+1) f fd ["_law_cell","_law_bit"] (YZ Pt):=by
 refine F.go sW fun cdv A outer s H vs Q E hr h=>?_;obtain⟨cc,bb,rfl,tb0,q⟩:=h;have nd:=sW.nd;refine Cm ⟨_,(aO (dY (i:=2) nd rfl (Or.inr rfl) (QE.mk (aF aDm hr (aA (pv 0) (aA (pv 1) (aA aL aC)))))) (aO (dY (i:=3) nd rfl (Or.inr rfl) (mH lR (Kh (aY bZ (aY bZ (aY bZ bW)))) (bY c7 (nU PySem.F.plainAttrs_list PySem.F.slot_list_pop PySem.F.type_list_pop oX (qv 2) (aY bZ bW)) bZ) (fun _ _=>rfl))) (aO (QS.mk (KJ 4 ["_law_k"] (iH rfl m_ (aA (aV dM aL (aV c7 (aV j0 (pv 1) aL) aL)) aC)) (fun _ _ _ _=>⟨(jG 0),cG,(aF aB3 hr (aA (pv 3) (aA aL (aA aL (aA (pv 4) aC)))))⟩))) (aO (gG (Wu (uE (QE.mk (aF aCb hr (aA (pv 4) aC))))) (bF (bN pD)) cN) (aO (dY (i:=5) nd rfl (Or.inl rfl) (QE.mk (aF aDc hr (aA (pv 0) aC)))) (aO (dY (i:=6) nd rfl (Or.inl rfl) (QE.mk (aF aCE hr (aA (aF L_ hr (aA (pv 5) aC)) aC)))) (aO (gG (QT.mk (PW.pt (iU (cF (bQ (aQ (gC (K:=K) rfl) rfl a_ aZ (aA (pv 6) (aA (bU (v:=.ref cPt) rfl aCm rfl) aC))))) (gM (cF (bQ (aF I_ hr (aA (Lg (aX (pv 6) pt.cf aFA aFB hr aFC .nil bC) (aX (pv 6) pt.cg aFD aFE hr aFF .nil bC) (aX (pv 6) pt.cl aFG aFH hr aFI .nil bC)) (aA (pv 5) aC))))))))) (bF (bN pD)) cN) (aO (dY (i:=7) nd rfl (Or.inl rfl) (QE.mk (aF Z_ hr (aA (pv 0) (aA aL (aA (aV dM aL (aV c7 (aF h_ hr (aA (pv 0) (aA aL aC))) aL)) (aA aL aC))))))) (aO (dY (i:=8) nd rfl (Or.inl rfl) (QE.mk (aF aDb hr (aA (aF n_ hr (aA (pv 7) aC)) aC)))) (aO (gG (QT.mk (PW.pt (iU (cF (bQ (aQ (gC (K:=K) rfl) rfl a_ aZ (aA (pv 8) (aA (bU (v:=.ref cP) rfl aDl rfl) aC))))) (gM (cF (bQ (aF I_ hr (aA (dR (aX (pv 8) kk.s.cl m_S G_S hr b_S .nil bC) (dR (aX (pv 8) kk.t.cl m_T G_T hr b_T .nil bC) (aX (pv 8) kk.o.cl m_O G_O hr b_O .nil bC))) (aA (pv 7) aC))))))))) (bF (bN pD)) cN) (bF (bN (Fl (Bu fQ (QE.mk (aF aCx hr (aA (pv 6) aC))) (QE.mk (aF L_ hr (aA (pv 5) aC))) (bD _)) (Gb (Bu fQ (QE.mk (aF O_ hr (aA (pv 8) aC))) (QE.mk (aF n_ hr (aA (pv 7) aC))) (bD _)))))))))))))))),?_⟩;refine⟨_,rfl,_,rfl,cc,bb,901,rfl,rfl,fun r H2 ms s2 hr0 hr1 ml=>?_⟩;cases ms with
 |nil=>simp at ml
 |cons m0 ms =>
 have ml2:ms.length=900:=by simpa using ml
 refine⟨Pk,fun l hl0=>?_⟩;have n3:=aD hl0 (.lst [.int 10,.int 1000,.int 1000000001]);have nlr:l≠r:=fun e=>by rw[e,hr1]at hl0;cases hl0
 have hr2:=n3 _ _ hr1;obtain⟨sc,ev,sc1,sc9⟩:=Xy (a:=10) (b:=1000) (c:=1000000001) (B:=1000000001) (m:=m0) ⟨by decide,by decide⟩ ⟨by decide,by decide⟩ ⟨by decide,by decide⟩;refine⟨_,rfl,.inl ⟨rfl,_,bV.of hr2⟩,r,_,0,0,.int m0,rfl,rfl,hr2,by decide,by decide,V6 (by simp),rfl,_,_,rfl,rfl,(by show(0:Int)<3;decide),l,_,_,_,rfl,rfl,bV.of (by rw[aK nlr];exact aB),ev,?_⟩;have s3:aP H (bH (bH H2 l (.lst [.int 10,.int 1000,.int 1000000001])) r (.lst ((Is (m0::ms)).eraseIdx 0))):=(s2.trans n3).upd_new hr0 _;have hr3:bH (bH H2 l (.lst [.int 10,.int 1000,.int 1000000001])) r (.lst ((Is (m0::ms)).eraseIdx 0)) r=some (.lst (Is ms)):=aB;generalize bH (bH H2 l (.lst [.int 10,.int 1000,.int 1000000001])) r (.lst ((Is (m0::ms)).eraseIdx 0))=H3 at s3 hr3 ⊢;have w0:=aGx (bb/2) (show(6:Int)≠0 by decide);have w1:=aGl (bb/2) (show(0:Int)<6 by decide);have p150:=UJ;obtain⟨N,hN⟩:∃N:Nat,1+bb/2%6=(N:Int):=⟨(1+bb/2%6).toNat,by omega⟩
 have N6:N<=6:=by omega
 have N1:1<=N:=by omega
 refine⟨_,rfl,_,_,rfl,rfl,⟨by decide,by decide⟩,_,_,rfl,rfl,(by show(0:Int)<6;decide),_,_,rfl,rfl,(N:Int),congrArg (fun z=>[V.int z]) hN,by omega,by omega,fun D hD=>?_⟩;have nDr:D≠r:=fun e=>by rw[e,hr3]at hD;cases hD
 refine lE (n:=N) (fun i τ H'=>∃(v0:Option V) (ts:List Addr) (ss:List Sd.Sd) (ns:List Int),τ = [v0,some (.int cc),some (.int bb),some (.ref r),some (.int sc),none,none,none,none,none]/\(∀b o,b≠r->H3 b=some o->H' b=some o)/\H' D=some (.lst (ts.map V.ref))/\H' r=some (.lst (Is ns))/\ts.length=i/\ss.length=i/\900<=ns.length+i*150/\ns.length<=900/\(∀(j:Nat) t s,ts[j]? = some t->ss[j]? = some s->jY H' t s)/\∀s∈ss,Sd.Ok s 4 12) ⟨none,[],[],ms,rfl,(fun b o nb e=>aD hD _ _ _ e),aB,aD hD _ _ _ hr3,rfl,rfl,by omega,by omega,(fun j t s h=>by simp at h),fun _ h=>nomatch h⟩ ?turnB ?doneB
 case turnB =>
  rintro i m τ H' hm hi ⟨v0,ts,ss,ns,rfl,kp,hD',hr',lt,ls,le1,le2,to,ok⟩;unfold kY;refine eG ?_;refine⟨_,rfl,_,rfl,r,ns,4,12,sc,rfl,hr',by decide,by decide,by decide,by decide,by omega,by omega,by omega,by omega,fun t H4 s ns' k4 hr4 l1 l2 to4 ok4=>?_⟩;have hD4:=k4 _ _ nDr hD';refine bG hm hi hD4 (by rw[aFJ];exact aU (by omega)) ⟨_,ts++[t],ss++[s],ns',rfl,fun b o nb e=>?_,by rw[aB,aFQ];rfl,by rw[aK (Ne.symm nDr)];exact hr4,by rw[aFR,lt];rfl,by rw[aFR,ls];rfl,by rw[aHv];omega,by omega,fun j t' s' h1 h2=>?_,fun s' hs'=>?_⟩
  ·rw[aK (aR e hD)];exact k4 b o nb (kp b o nb e)
  ·by_cases hj:j<ts.length
   ·rw[aGd hj]at h1;rw[aGd (by omega)]at h2;refine Hl ((to j t' s' h1 h2).keep fun b xs eb=>k4 b _ (dG eb hr' fun z=>nomatch z) eb) hD4
   ·have hj2:=(aFU.mp h1).1;rw[aFR,aGp]at hj2;rw[aGa (by omega),show j-ts.length=0 by omega]at h1;rw[aGa (by omega),show j-ss.length=0 by omega]at h2;cases h1;cases h2;exact Hl to4 hD4
  ·rcases aGc.mp hs' with z |z
   ·exact ok s' z
   ·rw[aF2.mp z];exact ok4
 case doneB =>
 rintro τ H4 ⟨v0,ts,ss,ns,rfl,kp,hD4,hr4,lt,ls,_,_,to,ok⟩;have s4:aP H H4:=fun b o e=>kp b o (aR e hr0) (s3 _ _ e);have hlt:(ts.map V.ref).length=ts.length:=aFJ _;have ok1:∀(i:Nat) s,ss[i]? = some s->Sd.Ok s 4 12:=fun i s h=>ok s (aFY h);have tb4:=tb0.same s4;refine⟨_,rfl,D,ts,ss,rfl,hD4,by omega,by omega,by omega,to,ok,tb4,fun H5 s5 tb5=>?_⟩;refine⟨_,rfl,?_⟩;refine dW ?_;refine⟨_,rfl,cc,rfl,fun so H6 S s6 hSo okS=>?_⟩;refine⟨_,rfl,so,S,rfl,hSo,okS,fun H7 s7=>?_⟩;refine⟨S,rfl,okS,Q5 okS,fun px H8 s8 hP=>?_⟩;obtain⟨t1,ty1,k1⟩:=Wg pt qF qG qL hP;refine⟨_,rfl,_,cPt,t1,true,rfl,ty1,k1,_,rfl,?_⟩;refine dW ?_;refine Xv (σ:=[some (.int cc),some (.int bb),some (.ref r),some (.int sc),some (.ref D),some (.ref so),some (.ref px),none,none]) hP (fun R h=>⟨_,rfl,h⟩) fun r1 H9 s9 to9=>?_;have s69:=(s7.trans s8).trans s9;refine⟨_,rfl,.ref r1,.ref so,rfl,(U4 to9 (hSo.same s69)).mono (by decide),fun HA sA=>?_⟩;refine⟨_,rfl,?_⟩;refine dW ?_;have s6A:=s69.trans sA;have hPA:=Cw (s9.trans sA) hP;refine⟨_,rfl,_,rfl,cc,2,rfl,fun x2 _ _=>?_⟩;have y0':=aGx x2 (show(39:Int)≠0 by decide);have y1':=aGl x2 (show(0:Int)<39 by decide);obtain⟨d,hd⟩:∃d:Nat,2+x2%39=(d:Int):=⟨(2+x2%39).toNat,by omega⟩
 refine⟨_,_,rfl,rfl,(by show(0:Int)<39;decide),_,_,rfl,rfl,cc,1,d,6,by rw[<-hd];rfl,by omega,by omega,by decide,by decide,fun tp HG t sG tr pk=>?_⟩;refine⟨_,rfl,tp,t,d,6,rfl,tr,pk,by omega,by omega,by decide,fun HH sH=>?_⟩;have zl:(yL 41 t).length<=1000000:=aFN (Ia pk 41) (show 20*d*6<=1000000 by omega);refine⟨yL 41 t,t,d,rfl,rfl,pk.dp,ZQ pk,by omega,zl,fun y HI sI kn=>?_⟩;obtain⟨t2,ty2,k2⟩:=Yo kk kn;refine⟨_,rfl,_,cP,t2,true,rfl,ty2,k2,_,rfl,?_⟩;refine dW ?_;refine Kc (σ:=[some (.int cc),some (.int bb),some (.ref r),some (.int sc),some (.ref D),some (.ref so),some (.ref px),some (.ref tp),some (.ref y)]) kn (pk.dp.mono (m:=40) (by omega)) (fun R h=>⟨_,rfl,h⟩) fun p1 HJ sJ t9=>?_;have sHJ:=(sH.trans sI).trans sJ;refine⟨_,rfl,.ref p1,.ref tp,rfl,Vf pk.dp t9 (tr.same sHJ) (by omega),fun HK sK=>?_⟩;refine⟨_,rfl,?_⟩;refine dW ?_;have sHK:=sHJ.trans sK;have sAK:=sG.trans sHK;refine⟨_,rfl,px,S,rfl,Cw sAK hPA,okS,fun HL sL=>?_⟩;refine⟨_,rfl,so,S,rfl,(hSo.same s6A).same (sAK.trans sL),okS,fun HM sM=>?_⟩;refine⟨rfl,?_⟩;rw[decide_eq_true rfl];refine⟨_,rfl,?_⟩;refine iZ ?_;have sKM:=sL.trans sM;refine⟨_,rfl,y,t,d,6,rfl,kn.same ((sJ.trans sK).trans sKM),pk,by omega,by omega,by decide,fun HN sN=>?_⟩;refine⟨_,rfl,tp,t,d,6,rfl,tr.same (sHK.trans (sKM.trans sN)),pk,by omega,by omega,by decide,fun HO sO=>?_⟩;refine⟨rfl,?_⟩;rw[decide_eq_true rfl];have s6O:=s6A.trans (sAK.trans (sKM.trans (sN.trans sO)));exact q HO (s4.toT.trans (s5.trans (s6.trans s6O).toT)) (tb5.same (s6.trans s6O))
theorem Vu{n:Nat}{f:Addr}(F:dJ K "law" "law" (top 85) f fd)(aDd:Cl P w K mg base n "_law_good" (YZ Pt))(aBR:Cl P w K mg base n "_law_cell_at" (RK K))(m_:mg "range" = none)(aB8:mg "max" = none)(aCY:mg "min" = none)(i_:mg "len" = none):aN P w K mg base bT (n+1) f fd ["_law_script"] (vY K Pt eU):=by
 refine F.go K6 fun cdv A outer s H vs Q E hr h=>?_;obtain⟨a,ns,rfl,hS,hlen,hT0,q⟩:=h;have nd:=K6.nd;refine Cm ⟨_,(aO (QS.mk (jQ PassesOwn.never rfl (iH rfl m_ (aA (aQ (JN rfl) rfl aB8 GD (aA aL (aA (aQ (zW rfl) rfl aCY K4 (aA (aQ cQ rfl i_ gP (aA (pv 0) aC)) (aA aL aC))) aC))) aC)) (jG 1) (aJ (dI (cF (bQ (aF aDd hr (aA (aF aBR hr (aA (pv 0) (aA (pv 1) aC))) (aA (aF aBR hr (aA (pv 0) (aA (aV dM (pv 1) aL) aC))) aC))))) (aJ (aW mR)) bM)))) (bF (bN pD))),?_⟩;have hT0:cA Pt eU gU H:=.inl hT0;have hl:(ns.map V.int).length=ns.length:=aFJ _;obtain⟨N,hN,N6⟩:∃N:Nat,(if(if(4:Int)<(((ns.map V.int).length:Nat):Int)then 4 else(((ns.map V.int).length:Nat):Int)) > 1 then(if(4:Int)<(((ns.map V.int).length:Nat):Int)then 4 else(((ns.map V.int).length:Nat):Int))else 1)=(N:Int)/\N<=4:=by
  refine⟨Int.toNat (if(if(4:Int)<(((ns.map V.int).length:Nat):Int)then 4 else(((ns.map V.int).length:Nat):Int)) > 1 then(if(4:Int)<(((ns.map V.int).length:Nat):Int)then 4 else(((ns.map V.int).length:Nat):Int))else 1),?_,?_⟩ <;> (split <;> split <;> omega)
 refine⟨_,rfl,a,_,rfl,.inl hS,_,_,rfl,_,_,rfl,(N:Int),congrArg (fun z=>[V.int z]) hN,by omega,by omega,?_⟩;refine uB (n:=(N:Int).toNat) (fun i σ H'=>∃v1,σ = [some (.ref a),v1]/\cW Pt H H'/\cA Pt eU gU H') ⟨none,rfl,cW.refl _,hT0⟩ ?turn ?done
 case done =>
  rintro σ H' ⟨v1,rfl,_⟩;exact q H'
 case turn =>
  rintro i σ H1 hi ⟨v1,rfl,sT,tb1⟩;have hS1:bV K H1 a (ns.map V.int):=sT.lst hT0 hS;refine⟨_,rfl,_,rfl,a,ns,0+(i:Int),rfl,hS1,by omega,fun cl=>?_⟩;refine⟨_,rfl,_,rfl,_,_,rfl,rfl,a,ns,0+(i:Int)+4,rfl,hS1,by omega,fun bt=>?_⟩;refine⟨cl,bt,rfl,tb1,fun H2 s2 tb2=>?_⟩;refine⟨_,rfl,?_⟩;exact dW ⟨_,rfl,sT.trans s2,tb2⟩
end
end K86
namespace K86
open PySem L2 TD TX Kn Rd
open Builtin.Int (intBits)
section
variable{P:Program}{w:World}{K:PySem.W.Frag}{mg:Str->Option Value}{base:Heap}{Pt:Addr}
theorem Ax{n:Nat}{f:Addr}{fd:FuncData}(F:dJ K "read_knot" "read_knot" (top 68) f fd){n0:Nat}{cl:Cl}{C:Addr}(rk:zU K C){aBS:Addr}{J_:FuncData}(aCc:cJ K C "passes" aBS)(aCd:aN P w K mg base bT n aBS J_ ["self","signs"] (qM C))(aCe:Binds K J_ ["self","signs"] []){aAj:Addr}{B_:FuncData}(aB4:cJ K C "need" aAj)(aB5:aN P w K mg base bT n aAj B_ ["self","signs"] (oZ C))(aB6:Binds K B_ ["self","signs"] []){iT iO:Addr}{dT dO:FuncData}{kT kO:Nat}(aEN:ZJ K cl.cS)(aCk:mg "Stop" = some (.ref cl.cS))(aEO:Mk K cl.cT iT)(aEP:aN P w K mg base bT kT iT dT ["self","box","then"] (Xn cl.cT))(aEQ:Binds K dT ["self","box","then"] [])(aCl:mg "Take" = some (.ref cl.cT))(aEk:kT+1<=n)(aER:Mk K cl.cO iO)(aES:aN P w K mg base bT kO iO dO ["self","box","plans"] (ZM cl.cO))(aET:Binds K dO ["self","box","plans"] [])(aDn:mg "Open" = some (.ref cl.cO))(aEm:kO+1<=n)(aC2:Cl P w K mg base n "read_plans" (Jz cl C n0))(K_:Cl P w K mg base n "read_number_of_box" (RZ C))(C_:Cl P w K mg base n "read_knot" (Ex cl C n0)):aN P w K mg base bT (n+1) f fd ["reader","knots"] (Ex cl C (n0+1)):=by
 refine F.go q8 fun cdv A outer s H vs Q E hr h=>?_;obtain⟨x,z,p,kk,t,d,tl,rfl,hR,dp,bk,dn,dk,k9,er,q⟩:=h;have nd:=q8.nd;refine⟨_,(aG (dI (bJ fQ (pv 1) aL (bD _)) (aJ fW) bM) (aG (dI (bQ (dH (pv 0) rk.cl aCc aCd hr aCe .nil bC (aA cI aC))) (aJ (aW (Nb aEN rfl aCk))) bM) (aG (dI (bQ (dH (pv 0) rk.cl aCc aCd hr aCe .nil bC (aA cI aC))) (aG (d7 2 (aF K_ hr (aA (pv 0) aC))) (aJ (aW (jH aEO aEP (hr.mono aEk) rfl aCl aEQ .nil bC (aA (pv 2) (aA (aF C_ hr (aA (pv 0) (aA (aV nF (pv 1) aL) aC))) aC)))))) bM) (aG (cZ (dH (pv 0) rk.cl aB4 aB5 hr aB6 .nil bC (aA cI aC))) (aG (d7 2 (aF K_ hr (aA (pv 0) aC))) (aG (cZ (dH (pv 0) rk.cl aB4 aB5 hr aB6 .nil bC (aA cI aC))) (aG (d7 3 (aF aC2 hr (aA (pv 0) (aA (aV nF (pv 1) aL) aC)))) (aG (cZ (dH (pv 0) rk.cl aB4 aB5 hr aB6 .nil bC (aA cI aC))) (aJ (aW (jH aER aES (hr.mono aEm) rfl aDn aET .nil bC (aA (pv 2) (aA (pv 3) aC))))))))))))),?_⟩;obtain⟨⟨dx,hx⟩,hp,hz⟩:=id hR;have nc:∀f:Str,(f==("text" : Str))=false->(f==("place" : Str))=false->∀p,(oM z p).lookup f=none:=fun f a b p=>by unfold oM;rw[aFX,a,aFX,b];rfl
 have c1:("stop" : Str).cps.toList=[115,116,111,112]:=by decide +kernel
 have c2:("take " : Str).cps.toList=[116,97,107,101,32]:=by decide +kernel
 have c3:("open " : Str).cps.toList=[111,112,101,110,32]:=by decide +kernel
 cases dp with
 |stop d =>
  have er0:Rd.rest z p=[115,116,111,112]++tl:=by rw[er,JC]
  refine⟨_,rfl,rfl,_,rfl,?_⟩;refine iW (decide_eq_false fun w=>by have:=V.int.inj w;omega) ?_;refine⟨_,rfl,x,dx,_,rfl,hx,nc _ (by decide) (by decide) _,x,z,"stop",_,rfl,hR,by decide,(fun _ H1 k1 r1=>?_),fun np=>absurd (by rw[er0,c1];exact⟨_,rfl⟩) np⟩;refine⟨_,rfl,?_⟩;refine nQ rfl ?_;obtain⟨⟨dx1,hx1⟩,_,_⟩:=id r1;intro y dy hy hdy ndy;have nO:aP H1 (bH (bH H1 dy (.own y)) y (.ins cl.cS dy [])):=(aD hdy (.own y)).trans (aD (by rw[aK (Ne.symm ndy)];exact hy) _);refine q y _ (k1.trans (KX.of nO)) ((r1.mv ?_).same nO) (.stop aB);rw[JC]
  rfl
 | @take b t d dt =>
  cases bk with
  |take hb bt =>
  have er0:Rd.rest z p=[116,97,107,101,32]++(Rp.dc b++32::(cP n0 t++tl)):=by
   rw[er,Ik];simp only[aFW,aGn]
  refine⟨_,rfl,rfl,_,rfl,?_⟩;refine iW (decide_eq_false fun w=>by have:=V.int.inj w;omega) ?_;refine⟨_,rfl,x,dx,_,rfl,hx,nc _ (by decide) (by decide) _,x,z,"stop",_,rfl,hR,by decide,(fun pre=>?_),fun _=>?_⟩
  ·exfalso;rw[er0,c1]at pre;obtain⟨w,e⟩:=pre;exact absurd (aGs.inj e).1 (by decide)
  refine⟨_,rfl,?_⟩;refine iW rfl ?_;refine⟨_,rfl,x,dx,_,rfl,hx,nc _ (by decide) (by decide) _,x,z,"take ",_,rfl,hR,by decide,(fun _ H1 k1 r1=>?_),fun np=>absurd (by rw[er0,c2];exact⟨_,rfl⟩) np⟩;refine⟨_,rfl,?_⟩;refine nQ rfl ?_;obtain⟨⟨dx1,hx1⟩,_,_⟩:=id r1;have er1:Rd.rest z (p+("take " : Str).length)=Rp.dc b++32::(cP n0 t++tl):=by rw[bL,er0];rfl
  refine⟨_,rfl,x,z,_,b,_,rfl,r1,hb.1,hb.2,er1,fun H2 k2 r2=>?_⟩;have er2:Rd.rest z (p+("take " : Str).length+(Rp.dc b).length+1)=cP n0 t++tl:=by rw[bL,bL,er1,aGy];rfl
  refine⟨_,rfl,_,rfl,_,rfl,_,_,rfl,rfl,x,z,_,kk-1,t,d,tl,rfl,r2,dt,bt,by omega,by omega,by omega,er2,fun y3 H3 k3 r3 kn3=>?_⟩;intro y dy hy hdy ndy;have nO:aP H3 (bH (bH H3 dy (.own y)) y (.ins cl.cT dy [])):=(aD hdy (.own y)).trans (aD (by rw[aK (Ne.symm ndy)];exact hy) _);refine⟨y,dy,b,y3,rfl,aB,fun H4 e4 k4=>⟨rfl,?_⟩⟩;have sH:aP H3 H4:=fun a o e=>by rw[k4 a (aR e hy)];exact nO _ _ e
  refine q y H4 ((k1.trans k2).trans (k3.trans (KX.of sH))) ((r3.mv ?_).same sH) (.take e4 (kn3.same sH));rw[Ik];simp only[aFR,aF8,aHr];have:("take " : Str).length=5:=rfl;omega
 | @opn b ts d dts hl =>
  cases bk with
  |opn hb ne bts =>
  cases ts with
  |nil=>exact absurd rfl ne
  |cons t ts =>
  have er0:Rd.rest z p=[111,112,101,110,32]++(Rp.dc b++32::40::(jT [44,32] (cP n0 t) (ts.map (cP n0))++41::tl)):=by
   rw[er,Mp];simp only[aFW,aGn,aGo]
  refine⟨_,rfl,rfl,_,rfl,?_⟩;refine iW (decide_eq_false fun w=>by have:=V.int.inj w;omega) ?_;refine⟨_,rfl,x,dx,_,rfl,hx,nc _ (by decide) (by decide) _,x,z,"stop",_,rfl,hR,by decide,(fun pre=>?_),fun _=>?_⟩
  ·exfalso;rw[er0,c1]at pre;obtain⟨w,e⟩:=pre;exact absurd (aGs.inj e).1 (by decide)
  refine⟨_,rfl,?_⟩;refine iW rfl ?_;refine⟨_,rfl,x,dx,_,rfl,hx,nc _ (by decide) (by decide) _,x,z,"take ",_,rfl,hR,by decide,(fun pre=>?_),fun _=>?_⟩
  ·exfalso;rw[er0,c2]at pre;obtain⟨w,e⟩:=pre;exact absurd (aGs.inj e).1 (by decide)
  refine⟨_,rfl,?_⟩;refine iW rfl ?_;refine⟨_,rfl,x,dx,_,rfl,hx,nc _ (by decide) (by decide) _,x,z,"open ",_,rfl,hR,by decide,by rw[er0,c3];exact⟨_,rfl⟩,fun H1 k1 r1=>?_⟩;have er1:Rd.rest z (p+("open " : Str).length)=Rp.dc b++32::40::(jT [44,32] (cP n0 t) (ts.map (cP n0))++41::tl):=by rw[bL,er0];rfl
  refine⟨_,rfl,x,z,_,b,_,rfl,r1,hb.1,hb.2,er1,fun H2 k2 r2=>?_⟩;obtain⟨⟨dx2,hx2⟩,_,_⟩:=id r2;have er2:Rd.rest z (p+("open " : Str).length+(Rp.dc b).length+1)=40::(jT [44,32] (cP n0 t) (ts.map (cP n0))++41::tl):=by rw[bL,bL,er1,aGy];rfl
  refine⟨_,rfl,x,dx2,_,rfl,hx2,nc _ (by decide) (by decide) _,x,z,"(",_,rfl,r2,by decide,by rw[er2];exact⟨_,rfl⟩,fun H3 k3 r3=>?_⟩;have er3:Rd.rest z (p+("open " : Str).length+(Rp.dc b).length+1+("(" : Str).length)=jT [44,32] (cP n0 t) (ts.map (cP n0))++41::tl:=by rw[bL,er2];rfl
  refine⟨_,rfl,_,rfl,_,_,rfl,rfl,x,z,_,kk-1,t,ts,d,tl,rfl,r3,(fun u hu=>⟨dts u hu,bts u hu⟩),by simp at hl;omega,by omega,by omega,by omega,er3,fun D ys H4 k4 r4 hD4 R4=>?_⟩;obtain⟨⟨dx4,hx4⟩,_,_⟩:=id r4;have er4:Rd.rest z (p+("open " : Str).length+(Rp.dc b).length+1+("(" : Str).length+(jT [44,32] (cP n0 t) (ts.map (cP n0))).length)=41::tl:=by rw[bL,er3,aGy]
  refine⟨_,rfl,x,dx4,_,rfl,hx4,nc _ (by decide) (by decide) _,x,z,")",_,rfl,r4,by decide,by rw[er4];exact⟨_,rfl⟩,fun H5 k5 r5=>?_⟩;have hD5:=k5 _ _ (lN r4 hD4 uY) hD4;have R5:=iK.rd k5 r4 R4;refine⟨_,rfl,_,rfl,?_⟩;intro y dy hy hdy ndy;have nO:aP H5 (bH (bH H5 dy (.own y)) y (.ins cl.cO dy [])):=(aD hdy (.own y)).trans (aD (by rw[aK (Ne.symm ndy)];exact hy) _);refine⟨y,dy,b,D,ys,rfl,aB,nO _ _ hD5,fun qa H6 hq e6 g6 k6=>⟨rfl,?_⟩⟩;have sH:aP H5 H6:=fun a o e=>k6 a o (nO _ _ e) (aR e hy);have R6:=R5.same sH;refine q y H6 (((k1.trans k2).trans (k3.trans k4)).trans (k5.trans (KX.of sH))) ((r5.mv ?_).same sH) (.opn e6 g6 R6.1 R6.2);rw[Mp];simp only[aFR,aF8,aHr];have:("open " : Str).length=5:=rfl;have:("(" : Str).length=1:=rfl;have:(")" : Str).length=1:=rfl;omega
end
end K86
namespace K86
open PySem L2 TD TP Rd
open Builtin.Int (intBits)
section
variable{P:Program}{w:World}{K:PySem.W.Frag}{mg:Str->Option Value}{base:Heap}{Pt:Addr}
theorem xU{n:Nat}{f:Addr}{fd:FuncData}(F:dJ K "read_groups" "read_groups" (top 63) f fd){C:Addr}(rk:zU K C){aDR:Addr}{aC8:FuncData}(aEh:cJ K C "numbers" aDR)(aEi:aN P w K mg base bT n aDR aC8 ["self"] (By C))(aEj:Binds K aC8 ["self"] []){aAj:Addr}{B_:FuncData}(aB4:cJ K C "need" aAj)(aB5:aN P w K mg base bT n aAj B_ ["self","signs"] (oZ C))(aB6:Binds K B_ ["self","signs"] []){p:Ff}(pt:Rg K p){iG:Addr}{iDG:FuncData}{kOG:Nat}(aDY:Mk K p.g iG)(aDZ:aN P w K mg base bT kOG iG iDG ["self","groups","most"] (RW p.g))(aD0:Binds K iDG ["self","groups","most"] [])(aCF:mg "Groups" = some (.ref p.g))(aDw:kOG+1<=n):aN P w K mg base bT (n+1) f fd ["reader"] (Qh C p.g):=by
 refine F.go pG fun cdv A outer s H vs Q E hr h=>?_;obtain⟨x,z,p0,g,m,gs,ms,tl,rfl,hR,gg,er,tlh,Zi,q⟩:=h;have nd:=pG.nd;refine⟨_,(aG (d7 1 (aX (pv 0) rk.cl aEh aEi hr aEj .nil bC)) (aG (cZ (dH (pv 0) rk.cl aB4 aB5 hr aB6 .nil bC (aA cI aC))) (aJ (aW (jH aDY aDZ (hr.mono aDw) rfl aCF aD0 .nil bC (aA (pv 1) (aA (aX (pv 0) rk.cl aEh aEi hr aEj .nil bC) aC))))))),?_⟩;obtain⟨⟨dx,hx⟩,hp,hz⟩:=id hR;have nc:∀f:Str,(f==("text" : Str))=false->(f==("place" : Str))=false->∀p,(oM z p).lookup f=none:=fun f a b p=>by unfold oM;rw[aFX,a,aFX,b];rfl
 have gu:∀u∈g::gs,0<=u/\u<=1000000000:=fun u h=>by have:=gg.g u h;lia
 have mu:∀u∈m::ms,0<=u/\u<=1000000000:=fun u h=>by have:=gg.m u h;lia
 have g6:gs.length<=5:=by have:=gg.l6;rw[aF8]at this;lia
 have m6:ms.length=5:=by have:=gg.m6;rw[aF8]at this;lia
 refine⟨_,rfl,x,dx,_,rfl,hx,nc _ (by decide) (by decide) _,x,z,p0,g,gs,_,rfl,hR,gu,by lia,er,fun c h=>by cases h;decide +kernel,fun _=>⟨_,rfl⟩,fun D H1 k1 hD0 nD r1 d1=>?_⟩;obtain⟨⟨dx1,hx1⟩,_,_⟩:=id r1;have pre:[32,47,32] <+: rest z (p0+(o4 g gs).length):=by rw[bL,er,aGy];exact⟨_,rfl⟩
 refine⟨_,rfl,x,dx1,_,rfl,hx1,nc _ (by decide) (by decide) _,x,z," / ",_,rfl,r1,by decide,pre,fun H2 k2 r2=>?_⟩;obtain⟨⟨dx2,hx2⟩,_,_⟩:=id r2;have er2:rest z (p0+(o4 g gs).length+(" / " : Str).length)=o4 m ms++tl:=by rw[bL,bL,er,aGy];rfl
 refine⟨_,rfl,_,rfl,x,dx2,_,rfl,hx2,nc _ (by decide) (by decide) _,x,z,_,m,ms,tl,rfl,r2,mu,by lia,er2,tlh,Zi,fun E0' H3 k3 hE0 nE r3 d3=>?_⟩;intro y dy hy hdy ne;obtain⟨⟨dx3,hx3⟩,hp3,hz3⟩:=id r3;have D3:=k3 _ _ nD (k2 _ _ nD d1);have s3:aP H3 (bH (bH H3 dy (.own y)) y (.ins p.g dy [])):=fun b o e=>by rw[aK (aR e hy),aK (aR e hdy)];exact e
 refine⟨y,dy,D,E0',g::gs,m::ms,rfl,aB,s3 _ _ D3,s3 _ _ d3,gg,fun a b H4 kk ha hb hy4=>⟨rfl,?_⟩⟩;have kb:∀b o,b≠y->H3 b=some o->H4 b=some o:=fun b o n e=>kk _ _ n (s3 _ _ e);refine q y H4 (fun b o n e=>?_) ⟨⟨dx3,kb _ _ (aR hx3 hy) hx3⟩,hp3,hz3⟩ ⟨dy,a,b,hy4,ha,hb⟩;have e3:=k3 _ _ n (k2 _ _ n (k1 _ _ n e));exact kb _ _ (aR e3 hy) e3
end
end K86
namespace K86
open PySem L2 TD TP TX Kn
open Builtin.Int (intBits)
section
variable{P:Program}{w:World}{K:PySem.W.Frag}{mg:Str->Option Value}{base:Heap}{Pt:Addr}
theorem Ir{f:Addr}{fd:FuncData}{ps:List Str}{m:Nat}(F:aN P w K mg base bT m f fd ps wV):aN P w K mg base bT m f fd ps Ko:=F.imp fun vs H Q E ⟨i,lo,hi,e,h1,h2,q⟩=>⟨_,lo,hi,_,e,.int i,by rw[decide_eq_true h1,decide_eq_true h2];exact q⟩
end
end K86
namespace K86
open PySem L2 TD
open Builtin.Int (intBits)
section
variable{P:Program}{w:World}{K:PySem.W.Frag}{mg:Str->Option Value}{base:Heap}{Pt:Addr}
variable{n:Nat}{f:Addr}{fd:FuncData}
theorem wN(F:dJ K "_law_plain" "_law_plain" (top 73) f fd)(x_:Cl P w K mg base n "_law_plain" Xl)(a_:mg "isinstance" = none)(aAr:mg "bool" = none)(aBh:mg "int" = none)(u_:mg "str" = none)(o_:mg "list" = none)(b_:mg "tuple" = none):aN P w K mg base bT (n+1) f fd ["_law_thing"] (Je 0):=by
 refine F.go jE fun cdv A outer s H vs Q E hr h=>?_;obtain⟨v,u,rfl,ev,q⟩:=h;have nd:=jE.nd;refine Cm ⟨_,(aO (gG (uE (QE.mk (aQ (rH (K:=K) rfl) rfl a_ aZ (aA (pv 0) (aA (fH (aA (eY (v:=.ty "tuple") rfl b_ dZ rfl) (aA (eY (v:=.ty "list") rfl o_ mV rfl) aC))) aC))))) (aO (QS.mk (zF (jQ PassesOwn.never rfl (lV (pv 0)) (jG 1) (aJ (dI (cF (bQ (aF x_ hr (aA (pv 1) aC)))) (aJ (aW mR)) bM))) (jQ PassesOwn.never rfl (dU (pv 0)) (jG 1) (aJ (dI (cF (bQ (aF x_ hr (aA (pv 1) aC)))) (aJ (aW mR)) bM))))) (bF (bN pD))) cN) (aO (gG (QT.mk (PW.pt (iU (bJ K9 (pv 0) Mr (bD _)) (gM (bQ (aQ (cV (T:="str")) rfl a_ aZ (aA (pv 0) (aA (eY (v:=.ty "str") rfl u_ j8 rfl) aC)))))))) (bF (bN pD)) cN) (bF (bN (Fl (QE.mk (aQ (cV (T:="int")) rfl a_ aZ (aA (pv 0) (aA (eY (v:=.ty "int") rfl aBh Bv rfl) aC)))) (Gb (QE.mk (Fp (aQ (cV (T:="bool")) rfl a_ aZ (aA (pv 0) (aA (eY (v:=.ty "bool") rfl aAr Br rfl) aC))))))))))),?_⟩;cases ev with
 |int _ i =>
  refine⟨_,rfl,uI,fun t ht=>?_⟩;have n1:=aD ht (.tup [.ty "tuple",.ty "list"]);refine⟨_,t,_,["tuple","list"],false,rfl,.int i,aB,(by rfl),_,rfl,?_⟩;refine dW ?_;refine⟨_,rfl,rfl,_,rfl,?_⟩;refine dW ?_;refine⟨_,rfl,_,_,_,rfl,.int i,(by rfl),_,rfl,?_⟩;refine dW ?_;refine⟨_,rfl,_,_,_,rfl,.int i,fP _,_,rfl,?_⟩;refine iZ ?_;refine⟨_,rfl,_,_,_,rfl,.int i,(by rfl),_,rfl,?_⟩;exact q _ n1
 |str _ x =>
  refine⟨_,rfl,uI,fun t ht=>?_⟩;have n1:=aD ht (.tup [.ty "tuple",.ty "list"]);refine⟨_,t,_,["tuple","list"],false,rfl,.str x,aB,(by rfl),_,rfl,?_⟩;refine dW ?_;refine⟨_,rfl,rfl,_,rfl,?_⟩;refine dW ?_;refine⟨_,rfl,_,_,_,rfl,.str x,fP _,_,rfl,?_⟩;refine iZ ?_;exact q _ n1
theorem yH(F:dJ K "_law_plain" "_law_plain" (top 73) f fd){n0:Nat}(x_:Cl P w K mg base n "_law_plain" (Je n0))(a_:mg "isinstance" = none)(aAr:mg "bool" = none)(aBh:mg "int" = none)(u_:mg "str" = none)(o_:mg "list" = none)(b_:mg "tuple" = none):aN P w K mg base bT (n+1) f fd ["_law_thing"] (Je (n0+1)):=by
 refine F.go jE fun cdv A outer s H vs Q E hr h=>?_;obtain⟨v,u,rfl,ev,q⟩:=h;have nd:=jE.nd;refine Cm ⟨_,(aO (gG (uE (QE.mk (aQ (rH (K:=K) rfl) rfl a_ aZ (aA (pv 0) (aA (fH (aA (eY (v:=.ty "tuple") rfl b_ dZ rfl) (aA (eY (v:=.ty "list") rfl o_ mV rfl) aC))) aC))))) (aO (QS.mk (zF (jQ PassesOwn.never rfl (lV (pv 0)) (jG 1) (aJ (dI (cF (bQ (aF x_ hr (aA (pv 1) aC)))) (aJ (aW mR)) bM))) (jQ PassesOwn.never rfl (dU (pv 0)) (jG 1) (aJ (dI (cF (bQ (aF x_ hr (aA (pv 1) aC)))) (aJ (aW mR)) bM))))) (bF (bN pD))) cN) (aO (gG (QT.mk (PW.pt (iU (bJ K9 (pv 0) Mr (bD _)) (gM (bQ (aQ (cV (T:="str")) rfl a_ aZ (aA (pv 0) (aA (eY (v:=.ty "str") rfl u_ j8 rfl) aC)))))))) (bF (bN pD)) cN) (bF (bN (Fl (QE.mk (aQ (cV (T:="int")) rfl a_ aZ (aA (pv 0) (aA (eY (v:=.ty "int") rfl aBh Bv rfl) aC)))) (Gb (QE.mk (Fp (aQ (cV (T:="bool")) rfl a_ aZ (aA (pv 0) (aA (eY (v:=.ty "bool") rfl aAr Br rfl) aC))))))))))),?_⟩;cases ev with
 |int _ i =>
  refine⟨_,rfl,uI,fun t ht=>?_⟩;have n1:=aD ht (.tup [.ty "tuple",.ty "list"]);refine⟨_,t,_,["tuple","list"],false,rfl,.int i,aB,(by rfl),_,rfl,?_⟩;refine dW ?_;refine⟨_,rfl,rfl,_,rfl,?_⟩;refine dW ?_;refine⟨_,rfl,_,_,_,rfl,.int i,(by rfl),_,rfl,?_⟩;refine dW ?_;refine⟨_,rfl,_,_,_,rfl,.int i,fP _,_,rfl,?_⟩;refine iZ ?_;refine⟨_,rfl,_,_,_,rfl,.int i,(by rfl),_,rfl,?_⟩;exact q _ n1
 |str _ x =>
  refine⟨_,rfl,uI,fun t ht=>?_⟩;have n1:=aD ht (.tup [.ty "tuple",.ty "list"]);refine⟨_,t,_,["tuple","list"],false,rfl,.str x,aB,(by rfl),_,rfl,?_⟩;refine dW ?_;refine⟨_,rfl,rfl,_,rfl,?_⟩;refine dW ?_;refine⟨_,rfl,_,_,_,rfl,.str x,fP _,_,rfl,?_⟩;refine iZ ?_;exact q _ n1
 | @tup _ a b xs ys ha hb l he =>
  refine⟨_,rfl,uI,fun t ht=>?_⟩;have n1:=aD ht (.tup [.ty "tuple",.ty "list"]);have ha1:=n1 _ _ ha;refine⟨_,t,_,["tuple","list"],true,rfl,.tup ha1,aB,(by rfl),_,rfl,?_⟩;refine iZ ?_;generalize bH H t (.tup [.ty "tuple",.ty "list"])=H1 at n1 ha1 ⊢
  left
  refine⟨_,rfl,a,rfl,⟨_,dN.of ha1⟩,?_⟩;refine Ow (xs:=xs) (fun i σ H'=>∃v,σ = [some (.ref a),v]/\aP H1 H') ⟨none,rfl,aP.refl _⟩ ?keep ?turn ?done
  case keep =>
   rintro i σ H' hi ⟨v,rfl,hs⟩;exact dN.of (hs _ _ ha1)
  case turn =>
   rintro i y σ H' hy ⟨v,rfl,hs⟩;have hi:=(aFU.mp hy).1;have hz:ys[i]? = some (ys[i]'(by omega)):=aFM _;refine⟨_,rfl,y,_,rfl,(he i y _ hy hz).same (n1.trans hs),fun H2 s2=>?_⟩;refine⟨_,rfl,?_⟩;refine dW ?_;exact⟨_,rfl,hs.trans s2⟩
  case done =>
   rintro σ H' ⟨v,rfl,hs⟩;exact q H' (n1.trans hs)
 | @lst _ a b xs ys ha hb l he =>
  refine⟨_,rfl,uI,fun t ht=>?_⟩;have n1:=aD ht (.tup [.ty "tuple",.ty "list"]);have ha1:=n1 _ _ ha;refine⟨_,t,_,["tuple","list"],true,rfl,.lst ha1,aB,(by rfl),_,rfl,?_⟩;refine iZ ?_;generalize bH H t (.tup [.ty "tuple",.ty "list"])=H1 at n1 ha1 ⊢
  right
  refine⟨_,rfl,a,rfl,⟨_,bV.of ha1⟩,?_⟩;refine sY (xs:=xs) (fun i σ H'=>∃v,σ = [some (.ref a),v]/\aP H1 H') ⟨none,rfl,aP.refl _⟩ ?keep ?turn ?done
  case keep =>
   rintro i σ H' hi ⟨v,rfl,hs⟩;exact bV.of (hs _ _ ha1)
  case turn =>
   rintro i y σ H' hy ⟨v,rfl,hs⟩;have hi:=(aFU.mp hy).1;have hz:ys[i]? = some (ys[i]'(by omega)):=aFM _;refine⟨_,rfl,y,_,rfl,(he i y _ hy hz).same (n1.trans hs),fun H2 s2=>?_⟩;refine⟨_,rfl,?_⟩;refine dW ?_;exact⟨_,rfl,hs.trans s2⟩
  case done =>
   rintro σ H' ⟨v,rfl,hs⟩;exact q H' (n1.trans hs)
theorem Ef(F:dJ K "told" "End.told" (inClass (top 30) 4) f fd){c:Cs}(ck:CK K c):aN P w K mg base bT (n+1) f fd ["self"] (Ht c):=by
 refine F.go uT fun cdv A outer s H vs Q E hr h=>?_;obtain⟨x,v,d,m,rfl,st,q⟩:=h;have nd:=uT.nd;refine⟨_,(aJ (aW (fH (aA cI (aA (cH (pv 0) rfl) aC))))),?_⟩;cases st with
 |en h vv ok=>exact⟨_,rfl,x,c.e,_,_,_,rfl,h,ck.ce,ck.e5,rfl,uI,fun r hr0=>q r _ (aD hr0 _) (.en aB)⟩
theorem yQ(F:dJ K "told" "Stage.told" (inClass (top 31) 6) f fd){n0:Nat}{c:Cs}(ck:CK K c)(cfE:rZ K c.e)(cfS:rZ K c.s){aDP:Addr}{aC6:FuncData}(aEb:cJ K c.e "told" aDP)(aEc:aN P w K mg base bT n aDP aC6 ["self"] (Ht c))(aEd:Binds K aC6 ["self"] []){aDQ:Addr}{aC7:FuncData}(aEe:cJ K c.s "told" aDQ)(aEf:aN P w K mg base bT n aDQ aC7 ["self"] (N8 c n0))(aEg:Binds K aC7 ["self"] [])(b_:mg "tuple" = none):aN P w K mg base bT (n+1) f fd ["self"] (N8 c (n0+1)):=by
 refine F.go p7 fun cdv A outer s H vs Q E hr h=>?_;obtain⟨x,p,rs,d,m,rfl,st,dn,q⟩:=h;have nd:=p7.nd;refine⟨_,(aJ (aW (fH (aA cI (aA (cH (pv 0) rfl) (aA (dD (bR (K:=K) rfl) rfl b_ dZ (aA (gY ["weight","stand"] (lV (cH (pv 0) rfl)) (fun _ _ _ _=>⟨(iV (K:=K) (n:=2) rfl rfl (bO (jG 0) (bO (jG 1) gK))),cG,(fH (aA (pv 0) (aA (dR (aX (pv 1) cfE aEb aEc hr aEd .nil bC) (aX (pv 1) cfS aEe aEf hr aEg .nil bC)) aC)))⟩)) aC)) aC)))))),?_⟩;cases st with
 | @st _ dx l cp r _ n' k' lv d _ j xs _ ps ys h vv g lp ly row sub p0 p9 ne l4 w hk =>
  have R:mK c H ps ys rs _ _:=⟨lp,ly,row,sub⟩
  have hl:(ps.map V.ref).length=rs.length:=by rw[aFJ];exact lp
  refine⟨_,rfl,x,c.s,dx,_,_,rfl,h,ck.cs,ck.s5,rfl,?_⟩;refine⟨_,rfl,x,c.s,dx,_,_,rfl,h,ck.cs,ck.s6,rfl,r,rfl,⟨_,dN.of g⟩,fun D hD=>?_⟩;refine jJ (xs:=ps.map V.ref) (fun u τ H'=>∃v0 v1 qs zs,τ = [v0,v1,some (.ref x)]/\aP H H'/\H' D=some (.lst (qs.map V.ref))/\xB H' qs zs (rs.take u)) ⟨none,none,[],[],rfl,aD hD _,aB,⟨rfl,rfl,(fun i q y t a=>by simp at a),(fun i y t a=>by simp at a)⟩⟩ ?keep ?turn ?done
  case keep =>
   rintro u τ H' hi ⟨v0,v1,qs,zs,rfl,hs,_⟩;exact dN.of (hs _ _ g)
  case turn =>
   rintro u mm v τ H' hm hi hv ⟨v0,v1,qs,zs,rfl,hs,hD',tw⟩;obtain⟨q1,y,t,_,_,er,rfl,h1,st,mem⟩:=R.at_ hv;refine⟨q1,_,rfl,dN.of (hs _ _ h1),rfl,_,_,rfl,_,_,rfl,rfl,?_⟩;refine eG ?_;refine⟨_,rfl,?_⟩;refine Ms (st.same hs) (n:=n0) (by omega) (fun R h=>⟨_,rfl,h⟩) fun r1 H2 s2 to2=>?_;refine⟨uI,fun T hT=>?_⟩;have n3:=aD hT (.tup [.int t.1,.ref r1]);have hD3:=n3 _ _ (s2 _ _ hD');have ql:qs.length<=4:=by rw[tw.lp,aGh];omega
   have kt:∀(o:HO) b xs,bH H2 T (.tup [.int t.1,.ref r1]) b=some (.tup xs)->bH (bH H2 T (.tup [.int t.1,.ref r1])) D o b=some (.tup xs):=fun o b xs e=>by rw[aK (dG e hD3 fun z=>nomatch z)];exact e
   refine bG hm hi hD3 (by rw[aFJ];exact aU (by omega)) ⟨_,_,qs++[T],zs++[r1],rfl,((hs.trans s2).trans n3).upd_new hD _,by rw[aB,aFQ];rfl,?_⟩;rw[take_snoc er];exact(((tw.same s2).same n3).keep (kt _)).snoc (kt _ _ _ aB) ((to2.same n3).keep (kt _))
  case done =>
   rintro τ H' ⟨v0,v1,qs,zs,rfl,hs,hD',tw⟩;rw[hl,aF5]at tw;refine⟨D,_,rfl,.inl ⟨bV.of hD',fun t ht=>?_⟩⟩;have n4:=aD ht (.tup (qs.map V.ref));refine⟨Pk,fun r2 hr2=>?_⟩;have n5:=aD hr2 (.tup [.str "stage",.int p,.ref t]);have tw5:=(tw.same n4).same n5;exact q r2 _ ((hs.trans n4).trans n5) (.st aB (n5 _ _ aB) tw5.lp tw5.ly tw5.row tw5.sub)
end
end K86
namespace K86
open PySem L2 TD TX Kn Rd
open Builtin.Int (intBits)
section
variable{P:Program}{w:World}{K:PySem.W.Frag}{mg:Str->Option Value}{base:Heap}{Pt:Addr}
theorem BZ{n:Nat}{f:Addr}{fd:FuncData}(F:dJ K "read_plan" "read_plan" (top 69) f fd){cl:Cl}{C:Addr}(rk:zU K C){aC9:Addr}{aCs:FuncData}(aDV:cJ K C "need_end" aC9)(aDW:aN P w K mg base bT n aC9 aCs ["self"] (pR C))(aDX:Binds K aCs ["self"] []){iR:Addr}{iDR:FuncData}{kOR:Nat}(aBH:Mk K C iR)(aBL:aN P w K mg base bT kOR iR iDR ["self","text"] (JF C))(aBQ:Binds K iDR ["self","text"] [])(F_:mg "Reader" = some (.ref C))(aAh:kOR+1<=n)(C_:Cl P w K mg base n "read_knot" (Ex cl C 41)){aCf:Value}(aA3:mg "MOST_KNOTS" = some aCf)(aBd:RelV (.int 40) aCf):aN P w K mg base bT (n+1) f fd ["text"] (Hf cl):=by
 refine F.go sU fun cdv A outer s H vs Q E hr h=>?_;obtain⟨z,t,d,rfl,ez,dp,bk,d40,z9,q⟩:=h;have nd:=sU.nd;refine⟨_,(aG (d7 1 (jH aBH aBL (hr.mono aAh) rfl F_ aBQ .nil bC (aA (pv 0) aC))) (aG (d7 2 (aF C_ hr (aA (pv 1) (aA (bU (v:=.int 40) rfl aA3 aBd) aC)))) (aG (cZ (aX (pv 1) rk.cl aDV aDW hr aDX .nil bC)) (aJ (aW (pv 2)))))),?_⟩;have nc:∀f:Str,(f==("text" : Str))=false->(f==("place" : Str))=false->∀p,(oM z p).lookup f=none:=fun f a b p=>by unfold oM;rw[aFX,a,aFX,b];rfl
 refine⟨_,rfl,?_⟩;intro x dx hx hdx ndx;have nO:aP H (bH (bH H dx (.own x)) x (.ins C dx [])):=(aD hdx (.own x)).trans (aD (by rw[aK (Ne.symm ndx)];exact hx) _);refine⟨x,dx,z,rfl,aB,z9,fun H1 k1 r1=>⟨rfl,?_⟩⟩;have s1:aP H H1:=fun b o e=>k1 b o (aR e hx) (nO _ _ e);obtain⟨⟨dx1,hx1⟩,_,_⟩:=id r1;have er:Rd.rest z 0=cP 41 t++[]:=by
  unfold Rd.rest;rw[aHQ,aGJ,ez]
  rfl
 refine⟨_,rfl,x,z,0,40,t,d,[],rfl,r1,dp,bk,by omega,by omega,by decide,er,fun y H2 k2 r2 kn=>?_⟩;obtain⟨⟨dx2,hx2⟩,_,_⟩:=id r2;have pl:0+(cP 41 t).length=z.length:=by rw[ez,aHk];rfl
 refine⟨_,rfl,x,dx2,_,rfl,hx2,nc _ (by decide) (by decide) _,x,z,_,rfl,r2,pl,?_⟩;exact⟨_,rfl,q y H2 (fun b o e=>k2 b o (aR e hx) (s1 _ _ e)) kn⟩
end
end K86
namespace K86
open PySem L2 TD Kn
section
variable{P:Program}{w:World}{K:PySem.W.Frag}{mg:Str->Option Value}{base:Heap}
theorem GP{f:Addr}{fd:FuncData}{ps:List Str}{sp:Sp}(h:∀vs H Q E,¬ sp vs H Q E)(m:Nat):aN P w K mg base bT m f fd ps sp:=⟨fun vs H Q E z=>absurd z (h vs H Q E),fun A outer s H args us vs Q E _ _ _ _ z=>absurd z (h vs H Q E)⟩
theorem dp0{t:Tr}(h:Dp t 0):False:=by cases h
theorem Dq{c:Cl}{cP:Addr}(ck:CK K c cP){f_S f_T f_O:Addr}{aCu aCv aCw:FuncData}(F_S:dJ K "told" "Stop.told" (inClass (top 44) 0) f_S aCu)(m_S:cJ K c.cS "told" f_S)(b_S:Binds K aCu ["self"] [])(F_T:dJ K "told" "Take.told" (inClass (top 45) 1) f_T aCv)(m_T:cJ K c.cT "told" f_T)(b_T:Binds K aCv ["self"] [])(F_O:dJ K "told" "Open.told" (inClass (top 46) 1) f_O aCw)(m_O:cJ K c.cO "told" f_O)(b_O:Binds K aCw ["self"] [])(b_:mg "tuple" = none) :
  ∀d:Nat,aN P w K mg base bT (d+1) f_S aCu ["self"] (gJ c 0 d)/\aN P w K mg base bT (d+1) f_T aCv ["self"] (gJ c 1 d)/\aN P w K mg base bT (d+1) f_O aCw ["self"] (gJ c 2 d)
 | 0=>⟨GP (fun vs H Q E ⟨_,_,_,_,_,z,_⟩=>dp0 z) 1,GP (fun vs H Q E ⟨_,_,_,_,_,z,_⟩=>dp0 z) 1,GP (fun vs H Q E ⟨_,_,_,_,_,z,_⟩=>dp0 z) 1⟩
 |d+1=>by
  obtain⟨g1,g2,g3⟩:=Dq ck F_S m_S b_S F_T m_T b_T F_O m_O b_O b_ d;exact⟨Cd F_S,Bh F_T ck m_S g1 b_S m_T g2 b_T m_O g3 b_O,Ao F_O ck m_S g1 b_S m_T g2 b_T m_O g3 b_O b_⟩
end
end K86
namespace K86
open PySem L2 TD TP
open Builtin.Int (intBits)
section
variable{P:Program}{w:World}{K:PySem.W.Frag}{mg:Str->Option Value}{base:Heap}{Pt:Addr}
variable{n:Nat}{f:Addr}{fd:FuncData}
theorem yI(F:dJ K "is_numbers" "is_numbers" (top 37) f fd)(v_:Cl P w K mg base n "is_whole" Ko)(aCX:mg "all" = none)(i_:mg "len" = none)(a_:mg "isinstance" = none)(o_:mg "list" = none):aN P w K mg base bT (n+1) f fd ["things","fewest","most","greatest_number"] GQ:=by
 refine F.go qH fun cdv A outer s H vs Q E hr h=>?_;obtain⟨a,ns,lo,hi,g,rfl,ha,h1,h2,h64,hg,q⟩:=h;have nd:=qH.nd;refine⟨_,(aG (dI (PW.pt (iU (cF (bQ (aQ (cV (T:="list")) rfl a_ aZ (aA (pv 0) (aA (eY (v:=.ty "list") rfl o_ mV rfl) aC))))) (gM (cF (xT rW rW (pv 1) (aQ cQ rfl i_ gP (aA (pv 0) aC)) (pv 2)))))) (aJ (aW mR)) bM) (aJ (aW (aQ (Ac rfl rfl) rfl aCX MK (aA (gY ["thing"] (dU (pv 0)) (fun _ _ _ _=>⟨(jG 0),cG,(aF v_ hr (aA (pv 0) (aA aL (aA (pv 4) aC))))⟩)) aC))))),?_⟩;have hlr:=gH ns;refine⟨_,rfl,_,_,_,rfl,.lst ha,fP _,_,rfl,?_⟩;refine dW ?_;refine⟨_,rfl,_,rfl,a,_,rfl,.inl (bV.of ha),_,_,rfl,rfl,_,rfl,?_⟩;refine nQ (decide_eq_true (show lo<=_ by rw[hlr];exact h1)) ?_;refine⟨_,rfl,_,_,rfl,rfl,_,rfl,?_⟩;refine iW (by rw[decide_eq_true (show(_:Int)<=hi by rw[hlr];exact h2)];rfl) ?_;refine⟨_,rfl,a,rfl,⟨_,bV.of ha⟩,fun D hD=>?_⟩;refine dF (xs:=Is ns) (fun i τ H'=>∃v0,τ = [v0,some (.ref a),some (.int lo),some (.int hi),some (.int g)]/\aP H H'/\H' D=some (.lst ((aGw i true).map V.bl))) ⟨none,rfl,aD hD _,aB⟩ ?keep ?turn ?done
 case keep =>
  rintro i τ H' hi ⟨v0,rfl,hs,_⟩;exact bV.of (hs _ _ ha)
 case turn =>
  rintro i m v τ H' hm hi hv ⟨v0,rfl,hs,hD'⟩;obtain⟨x,hx,rfl⟩:=YB hv;have hmem:=aFY hx;refine yM ?_;refine⟨_,rfl,_,rfl,x,0,g,rfl,(hg x hmem).1,(hg x hmem).2,?_⟩;refine bG hm hi hD' (by rw[aFJ,aGX];exact aU (by rw[hlr]at hi;omega)) ⟨_,rfl,hs.upd_new hD _,?_⟩;rw[aB,List.replicate_succ',aFQ]
  rfl
 case done =>
  rintro τ H' ⟨v0,rfl,hs,hD'⟩;refine⟨D,_,rfl,bV.of hD',?_⟩;have e:(aGw (Is ns).length true).all id=true:=by simp
  rw[e];exact q H' hs
theorem vM(F:dJ K "__init__" "Few.__init__" (inClass (top 39) 0) f fd){C:Addr}(cf:rZ K C)(aCA:PySem.W.findIn K (.ref C) "limit" = some none)(v_:Cl P w K mg base n "is_whole" Ko){k_:Value}(d_:mg "MOST_BOXES" = some k_)(e_:RelV (.int 6) k_):aN P w K mg base bT (n+1) f fd ["self","count"] (Rk C):=by
 refine F.go oF fun cdv A outer s H vs Q E hr h=>?_;obtain⟨x,dx,c,rfl,hx,h1,h2,q⟩:=h;have nd:=oF.nd;refine⟨_,(aG (dI (cF (bQ (aF v_ hr (aA (pv 1) (aA aL (aA (bU (v:=.int 6) rfl d_ e_) aC)))))) (aJ fW) bM) (aJ (gB (pv 0) (pv 1) rfl))),?_⟩;refine⟨_,rfl,c,0,6,rfl,h1,h2,?_⟩;refine⟨_,rfl,?_⟩;refine dW ?_;exact⟨_,rfl,_,rfl,x,C,dx,[],rfl,hx,cf,aCA,(by show 0<1000;decide),q⟩
theorem qO(F:dJ K "__init__" "Groups.__init__" (inClass (top 40) 0) f fd){C:Addr}(cf:rZ K C)(aCj:PySem.W.findIn K (.ref C) "groups" = some none)(aC0:PySem.W.findIn K (.ref C) "most" = some none)(N_:Cl P w K mg base n "is_numbers" GQ)(b_:mg "tuple" = none){k_:Value}(d_:mg "MOST_BOXES" = some k_)(e_:RelV (.int 6) k_):aN P w K mg base bT (n+1) f fd ["self","groups","most"] (RW C):=by
 refine F.go j9 fun cdv A outer s H vs Q E hr h=>?_;obtain⟨x,dx,a,b,gs,ms,rfl,hx,ha,hb,g,q⟩:=h;have nd:=j9.nd;refine⟨_,(aG (dI (cF (bQ (aF N_ hr (aA (pv 1) (aA aL (aA (bU (v:=.int 6) rfl d_ e_) (aA (aV nF (bU (v:=.int 6) rfl d_ e_) aL) aC))))))) (aJ fW) bM) (aG (dI (cF (bQ (aF N_ hr (aA (pv 2) (aA (bU (v:=.int 6) rfl d_ e_) (aA (bU (v:=.int 6) rfl d_ e_) (aA (bU (v:=.int 6) rfl d_ e_) aC))))))) (aJ fW) bM) (aG (gB (pv 0) (dD (bR (K:=K) rfl) rfl b_ dZ (aA (pv 1) aC)) rfl) (aJ (gB (pv 0) (dD (bR (K:=K) rfl) rfl b_ dZ (aA (pv 2) aC)) rfl))))),?_⟩;have g1:=g.l1;have g6:=g.l6;have gm:=g.m6;refine⟨_,rfl,_,_,rfl,rfl,a,gs,1,6,5,rfl,ha,by omega,by omega,by omega,g.g,fun H1 s1=>?_⟩;refine⟨_,rfl,?_⟩;refine dW ?_;refine⟨_,rfl,b,ms,6,6,6,rfl,s1 _ _ hb,by omega,by omega,by omega,g.m,fun H2 s2=>?_⟩;refine⟨_,rfl,?_⟩;refine dW ?_;have s12:=s1.trans s2;refine⟨_,rfl,a,_,rfl,.inl ⟨bV.of (s12 _ _ ha),fun t ht=>?_⟩⟩;have n1:=aD ht (.tup (Is gs));have hx1:=(s12.trans n1) _ _ hx;refine⟨_,rfl,x,C,dx,[],rfl,hx1,cf,aCj,(by show 0<1000;decide),?_⟩;have nbx:b≠x:=dG hb hx fun z=>nomatch z
 have ntx:t≠x:=Ne.symm (aR (s12 _ _ hx) ht);have kx:∀c o,c≠x->H c=some o->bH (bH H2 t (.tup (Is gs))) x (.ins C dx [("groups",.ref t)]) c=some o:=fun c o nc e=>by rw[aK nc];exact(s12.trans n1) _ _ e
 have ht3:bH (bH H2 t (.tup (Is gs))) x (.ins C dx [("groups",.ref t)]) t=some (.tup (Is gs)):=by rw[aK ntx];exact aB
 have hx3:bH (bH H2 t (.tup (Is gs))) x (.ins C dx [("groups",.ref t)]) x=some (.ins C dx [("groups",.ref t)]):=aB;refine⟨_,rfl,b,_,rfl,.inl ⟨bV.of (kx _ _ nbx hb),fun u hu=>?_⟩⟩;have n4:=aD hu (.tup (Is ms));have nux:u≠x:=Ne.symm (aR hx3 hu);refine⟨_,rfl,x,C,dx,[("groups",.ref t)],rfl,n4 _ _ hx3,cf,aC0,(by show 1<1000;decide),?_⟩;refine q t u _ (fun c o nc e=>?_) ?_ ?_ aB
 ·rw[aK nc];exact n4 _ _ (kx c o nc e)
 ·rw[aK ntx];exact n4 _ _ ht3
 ·rw[aK nux];exact aB
end
end K86
namespace K86
open PySem L2 TD TP TX Kn Rd
open Builtin.Int (intBits)
section
variable{P:Program}{w:World}{K:PySem.W.Frag}{mg:Str->Option Value}{base:Heap}{Pt:Addr}
theorem Bd{n:Nat}{f:Addr}{fd:FuncData}(F:dJ K "_law_same" "_law_same" (top 74) f fd)(x_:Cl P w K mg base n "_law_plain" (Je 82)):aN P w K mg base bT (n+1) f fd ["_law_found","_law_due"] GX:=by
 refine F.go rJ fun cdv A outer s H vs Q E hr h=>?_;obtain⟨v,u,rfl,ev,q⟩:=h;have nd:=rJ.nd;have hu14:_+81+1<cLine:=Room.u82 hr;refine⟨_,(aJ (aW (xC (aF x_ hr (aA (pv 0) aC)) (w5 (dR (pM fQ (pv 0) (pv 1) (bD _)) (pM (V4 (n:=81) hu14) (pv 0) (pv 1) (bD _))))))),?_⟩;refine⟨_,rfl,v,u,rfl,ev,fun H1 s1=>?_⟩;refine⟨_,rfl,?_⟩;refine iZ ?_;have e1:=ev.same s1;cases ev with
 |int _ i =>
  left
  refine⟨_,rfl,_,rfl,rfl,?_⟩;rw[decide_eq_true rfl];exact q H1 s1
 |str _ x =>
  left
  refine⟨_,rfl,_,rfl,rfl,?_⟩;rw[decide_eq_true rfl];exact q H1 s1
 | @tup _ a b xs ys ha hb l he =>
  right
  exact⟨_,rfl,_,rfl,a,b,true,rfl,rfl,e1.de,q H1 s1⟩
 | @lst _ a b xs ys ha hb l he =>
  right
  exact⟨_,rfl,_,rfl,a,b,true,rfl,rfl,e1.de,q H1 s1⟩
end
end K86
namespace K86
open PySem L2 TD Rd
open Builtin.Int (intBits)
section
variable{P:Program}{w:World}{K:PySem.W.Frag}{mg:Str->Option Value}{base:Heap}{Pt:Addr}
theorem Ed{n:Nat}{f:Addr}{fd:FuncData}(F:dJ K "read_row" "read_row" (top 58) f fd){n0:Nat}{c:Cs}{C:Addr}(rk:zU K C){aCg:Addr}{aAa:FuncData}(aCL:cJ K C "number" aCg)(aCM:aN P w K mg base bT n aCg aAa ["self"] (zJ C))(aCN:Binds K aAa ["self"] []){aAj:Addr}{B_:FuncData}(aB4:cJ K C "need" aAj)(aB5:aN P w K mg base bT n aAj B_ ["self","signs"] (oZ C))(aB6:Binds K B_ ["self","signs"] [])(Q_:Cl P w K mg base n "read_stand" (Hc c C Pt eU n0)):aN P w K mg base bT (n+1) f fd ["reader","stages"] (Nh c C Pt eU n0):=by
 refine F.go uW fun cdv A outer s H vs Q E hr h=>?_;obtain⟨x,z,p,kk,r,d,m,tl,rfl,hR,ok,w1,w9,dn,d4,m12,dk,k4,tb,er,nb,q⟩:=h;have nd:=uW.nd;refine⟨_,(aG (d7 2 (aX (pv 0) rk.cl aCL aCM hr aCN .nil bC)) (aG (cZ (dH (pv 0) rk.cl aB4 aB5 hr aB6 .nil bC (aA cI aC))) (aJ (aW (fH (aA (pv 2) (aA (aF Q_ hr (aA (pv 0) (aA (pv 1) aC))) aC))))))),?_⟩;obtain⟨⟨dx,hx⟩,hp,hz⟩:=id hR;have nc:∀f:Str,(f==("text" : Str))=false->(f==("place" : Str))=false->∀p,(oM z p).lookup f=none:=fun f a b p=>by unfold oM;rw[aFX,a,aFX,b];rfl
 have er1:rest z p=Rp.dc r.1++(58::(cB n0 r.2++tl)):=by rw[er];unfold rT;rw[aFW];rfl
 refine⟨_,rfl,x,dx,_,rfl,hx,nc _ (by decide) (by decide) _,x,z,p,r.1,_,rfl,hR,by lia,by lia,er1,(fun c h=>by cases h;decide +kernel),fun H1 k1 r1=>?_⟩;obtain⟨⟨dx1,hx1⟩,_,_⟩:=id r1;have er2:rest z (p+(Rp.dc r.1).length)=58::(cB n0 r.2++tl):=by rw[bL,er1,aGy]
 refine⟨_,rfl,x,dx1,_,rfl,hx1,nc _ (by decide) (by decide) _,x,z,":",_,rfl,r1,by decide,by rw[er2];exact⟨_,rfl⟩,fun H2 k2 r2=>?_⟩;have er3:rest z (p+(Rp.dc r.1).length+(":" : Str).length)=cB n0 r.2++tl:=by rw[bL,er2];rfl
 have tb1:=cA.kx tb k1 hR;have tb2:=cA.kx tb1 k2 r1;refine⟨_,rfl,_,rfl,_,rfl,x,z,_,kk,r.2,d,m,tl,rfl,r2,ok,dn,d4,m12,dk,k4,tb2,er3,nb,fun y H3 k3 r3 tb3 st3=>?_⟩;refine⟨uI,fun T hT=>?_⟩;have n3:=aD hT (.tup [.int r.1,.ref y]);have pe:p+(Rp.dc r.1).length+(":" : Str).length+(cB n0 r.2).length=p+(rT n0 r).length:=by
  unfold rT;rw[aFR,aF8];have:(":" : Str).length=1:=rfl
  lia
 exact q T y _ (((KP.of (k1.trans k2)).trans k3).trans (KP.same n3)) ((r3.mv pe).same n3) (tb3.same n3) aB (st3.same n3)
end
end K86
namespace K86
open PySem L2 TD Rd TX
open Builtin.Int (intBits)
section
variable{P:Program}{w:World}{K:PySem.W.Frag}{mg:Str->Option Value}{base:Heap}{Pt:Addr}
theorem tD{A B:Prop}(C:Prop)(m:(C->A)->B)(a:C->A):B:=m a
theorem yJ{n:Nat}{f:Addr}{fd:FuncData}(F:dJ K "read_stand" "read_stand" (top 59) f fd){n0:Nat}{c:Cs}{C:Addr}(rk:zU K C){aCg:Addr}{aAa:FuncData}(aCL:cJ K C "number" aCg)(aCM:aN P w K mg base bT n aCg aAa ["self"] (zJ C))(aCN:Binds K aAa ["self"] []){aBS:Addr}{J_:FuncData}(aCc:cJ K C "passes" aBS)(aCd:aN P w K mg base bT n aBS J_ ["self","signs"] (qM C))(aCe:Binds K J_ ["self","signs"] []){aAj:Addr}{B_:FuncData}(aB4:cJ K C "need" aAj)(aB5:aN P w K mg base bT n aAj B_ ["self","signs"] (oZ C))(aB6:Binds K B_ ["self","signs"] []){z_ iE iS:Addr}{dE dS:FuncData}{kE kS:Nat}(aE9:Mk K c.e iE)(aFa:aN P w K mg base (RV P w) kE iE dE ["self","worth"] (RX c z_))(aFb:Binds K dE ["self","worth"] [])(aCW:mg "End" = some (.ref c.e))(aEU:kE+1<=n)(aEn:Mk K c.s iS)(aEo:aN P w K mg base (RV P w) kS iS dS ["self","price","rows"] (Qm c K z_ Pt eU))(aEp:Binds K dS ["self","price","rows"] [])(aBW:mg "Stage" = some (.ref c.s))(aD1:kS+1<=n)(aCG:Cl P w K mg base n "read_row" (Nh c C Pt eU n0))(i_:mg "len" = none){j_:Value}(gV:mg "MOST_STAGE_ROWS" = some j_)(g_:RelV (.int 4) j_):aN P w K mg base bT (n+1) f fd ["reader","stages"] (Hc c C Pt eU (n0+1)):=by
 refine F.go qJ fun cdv A outer s H vs Q E hr h=>?_;obtain⟨x,z,p,kk,s,d,m,tl,rfl,hR,ok,dn,d4,m12,dk,k4,tb,er,nb,q⟩:=h;have nd:=qJ.nd;refine⟨_,(aG (d7 2 (aX (pv 0) rk.cl aCL aCM hr aCN .nil bC)) (aG (dI (cF (bQ (dH (pv 0) rk.cl aCc aCd hr aCe .nil bC (aA cI aC)))) (aJ (aW (jH aE9 aFa (hr.mono aEU) rfl aCW aFb .nil Qj (aA (pv 2) aC)))) bM) (aG (dI (bJ fQ (pv 1) aL (bD _)) (aJ fW) bM) (aG (d7 3 (m9 (aA (aF aCG hr (aA (pv 0) (aA (aV nF (pv 1) aL) aC))) aC))) (aG (kI PassesOwn.never (PW.pt (m5 (bJ uU (aQ cQ rfl i_ gP (aA (pv 3) aC)) (bU (v:=.int 4) rfl gV g_) (bD _)) (jW (bQ (dH (pv 0) rk.cl aCc aCd hr aCe .nil bC (aA cI aC)))))) (aJ (cZ (pY PySem.F.plainAttrs_list PySem.F.slot_list_append PySem.F.type_list_append iI (pv 3) (aA (aF aCG hr (aA (pv 0) (aA (aV nF (pv 1) aL) aC))) aC))))) (aG (cZ (dH (pv 0) rk.cl aB4 aB5 hr aB6 .nil bC (aA cI aC))) (aJ (aW (jH aEn aEo (hr.mono aD1) rfl aBW aEp .nil Qj (aA (pv 2) (aA (pv 3) aC))))))))))),?_⟩;obtain⟨⟨dx,hx⟩,hp,hz⟩:=id hR;have nc:∀f:Str,(f==("text" : Str))=false->(f==("place" : Str))=false->∀p,(oM z p).lookup f=none:=fun f a b p=>by unfold oM;rw[aFX,a,aFX,b];rfl
 cases ok with
 | @en v _ _ h0 h9 hm =>
  have er0:rest z p=Rp.dc v++tl:=er;refine⟨_,rfl,x,dx,_,rfl,hx,nc _ (by decide) (by decide) _,x,z,p,v,tl,rfl,hR,h0,h9,er0,(fun c h=>(nb c h).1),fun H1 k1 r1=>?_⟩;obtain⟨⟨dx1,hx1⟩,_,_⟩:=id r1;have er1:rest z (p+(Rp.dc v).length)=tl:=by rw[bL,er0,aGy]
  have np:¬ [91] <+: rest z (p+(Rp.dc v).length):=by
   rw[er1];rintro⟨w,e⟩;exact(nb 91 (by rw[<-e];rfl)).2 rfl
  refine⟨_,rfl,x,dx1,_,rfl,hx1,nc _ (by decide) (by decide) _,x,z,"[",_,rfl,r1,by decide,(fun pre=>absurd pre np),fun _=>?_⟩;refine⟨_,rfl,?_⟩;refine iZ ?_;refine⟨_,rfl,?_⟩;intro y dy hy hdy ndy;have nO:aP H1 (bH (bH H1 dy (.own y)) y (.ins c.e dy [])):=(aD hdy (.own y)).trans (aD (by rw[aK (Ne.symm ndy)];exact hy) _);refine .inl ⟨y,dy,v,rfl,aB,h0,h9,fun H' k5 st=>⟨rfl,?_⟩⟩;have sH:aP H1 H':=fun b o e=>k5 b o (aR e hy) (nO _ _ e);exact q y H' ((KP.of k1).trans (KP.same sH)) (r1.same sH) ((cA.kx tb k1 hR).same sH) (st d m hm)
 | @st pr rs d _ jj h0 h9 ne l4 ww oks hk =>
  cases rs with
  |nil=>exact absurd rfl ne
  |cons r0 rs =>
  have er0:rest z p=Rp.dc pr++(91::(jT [32] (rT n0 r0) (rs.map (rT n0))++93::tl)):=by
   rw[er,Rj];simp only[aFW,aGn,aGo]
  refine⟨_,rfl,x,dx,_,rfl,hx,nc _ (by decide) (by decide) _,x,z,p,pr,_,rfl,hR,h0,h9,er0,(fun c h=>by cases h;decide +kernel),fun H1 k1 r1=>?_⟩;obtain⟨⟨dx1,hx1⟩,_,_⟩:=id r1;have er1:rest z (p+(Rp.dc pr).length)=91::(jT [32] (rT n0 r0) (rs.map (rT n0))++93::tl):=by rw[bL,er0,aGy]
  refine⟨_,rfl,x,dx1,_,rfl,hx1,nc _ (by decide) (by decide) _,x,z,"[",_,rfl,r1,by decide,(fun _ H2 k2 r2=>?_),fun np=>absurd (by rw[er1];exact⟨_,rfl⟩) np⟩;refine⟨_,rfl,?_⟩;refine dW ?_;refine⟨_,rfl,rfl,_,rfl,?_⟩;refine iW (decide_eq_false fun w=>by have:=V.int.inj w;lia) ?_;have tb2:=cA.kx (cA.kx tb k1 hR) k2 r1;obtain⟨B,hB⟩:∃B,B=p+(Rp.dc pr).length+("[" : Str).length:=⟨_,rfl⟩
  rw[<-hB]at r2;have er2:rest z B=jT [32] (rT n0 r0) (rs.map (rT n0))++93::tl:=by rw[hB,bL,er1];rfl
  have m0:r0∈r0::rs:=aFL;have mj:∀r∈r0::rs,jj r<=12:=fun r hr=>aFN (Sd.Vi hk r hr) m12;have hdT:∀l:List (Int×Sd.Sd),Zv (((l.map (rT n0)).flatMap fun x=>[32]++x)++93::tl):=fun l c h=>by
   cases l with
   |nil=>cases h;exact⟨by decide +kernel,by decide⟩
   |cons a l=>cases h;exact⟨by decide +kernel,by decide⟩
  refine⟨_,rfl,_,rfl,_,_,rfl,rfl,x,z,B,kk-1,r0,d,jj r0,_,rfl,r2,oks r0 m0,(ww r0 m0).1,(ww r0 m0).2,by lia,by lia,mj r0 m0,by lia,by lia,tb2,by rw[er2];unfold jT;rw[aFW],hdT rs,fun q1 y1 H3 k3 r3 tb3 hq3 st3=>?_⟩;refine⟨Qn,fun D hD=>?_⟩;have k03:KP Pt x H H3:=(KP.of (k1.trans k2)).trans k3;have hD0:H D=none:=KP.new k03 r3 tb3 hD;have n1:=aD hD (.lst [.ref q1]);have R1:mK c (bH H3 D (.lst [.ref q1])) [q1] [y1] [r0] d jj:=IK (ps:=[]) (ys:=[]) (rs:=[]) ⟨rfl,rfl,(fun i q y t a=>by simp at a),(fun i y t a=>by simp at a)⟩ (n1 _ _ hq3) (st3.same n1);refine⟨fun mm σ H'=>∃j qs ys,mm=rs.length-j/\j<=rs.length/\σ = [some (.ref x),some (.int kk),some (.int pr),some (.ref D)]/\KP Pt x H H'/\cA Pt eU gU H'/\cY C H' x z (B+(jT [32] (rT n0 r0) ((rs.take j).map (rT n0))).length)/\H' D=some (.lst (qs.map V.ref))/\mK c H' qs ys (r0::rs.take j) d jj,⟨_,0,[q1],[y1],rfl,aGe _,rfl,k03.upn hD0 _,tb3.same n1,by rw[aHC,aGD,BW];exact r3.same n1,aB,R1⟩,?_⟩;rintro mm σ H5 ⟨j,qs,ys,rfl,jl,rfl,kp,tb5,r5,hD5,R⟩;obtain⟨⟨dx5,hx5⟩,hp5,_⟩:=id r5;have ql:qs.length=j+1:=by rw[R.lp,aF8,aGh];lia
  have rj:rest z (B+(jT [32] (rT n0 r0) ((rs.take j).map (rT n0))).length)=(((rs.drop j).map (rT n0)).flatMap fun x=>[32]++x)++93::tl:=by
   have e:=Ft [32] (rT n0 r0) (rs.map (rT n0)) j;rw[bL,er2,e,aFW,<-aIl,aGy,<-aIm]
  have ll:rs.length<=3:=by simp at l4;lia
  refine' tD (j=rs.length) (fun fin=>?main) ?rst
  case main =>
   refine⟨_,rfl,D,_,rfl,.inl (bV.of hD5),_,_,rfl,rfl,_,rfl,?_⟩
   by_cases j4:j=3
   ·refine iW (decide_eq_false (by rw[aFJ];lia)) ?_;refine iW rfl ?_;exact fin (by lia)
   ·refine nQ (decide_eq_true (by rw[aFJ];lia)) ?_;rcases aHB j rs.length with lt |ge
    ·have dj:rs.drop j=rs[j]::rs.drop (j+1):=aGG lt;have ej:rs[j]? = some rs[j]:=aFM lt;generalize rs[j]=u at dj ej;have mu:u∈r0::rs:=aFK _ (aFY ej);rw[dj,aFP,aGR,aFW,aFW]at rj;refine⟨_,rfl,x,dx5,_,rfl,hx5,nc _ (by decide) (by decide) _,x,z," ",_,rfl,r5,by decide,(fun _ H6 k6 r6=>?_),fun np=>absurd (by rw[rj];exact⟨_,rfl⟩) np⟩;refine⟨_,rfl,?_⟩;refine nQ rfl ?_;refine⟨fun σ' H2=>∃qs ys,σ'=[some (.ref x),some (.int kk),some (.int pr),some (.ref D)]/\KP Pt x H H2/\cA Pt eU gU H2/\cY C H2 x z (B+(jT [32] (rT n0 r0) ((rs.take (j+1)).map (rT n0))).length)/\H2 D=some (.lst (qs.map V.ref))/\mK c H2 qs ys (r0::rs.take (j+1)) d jj,fun σ' H2 ⟨qs,ys,e1,k2,t2,r2,d2,R2⟩=>⟨_,by lia,j+1,qs,ys,rfl,lt,e1,k2,t2,r2,d2,R2⟩,?_⟩;have tb6:=cA.kx tb5 k6 r5;have hD6:=k6 _ _ (lN r5 hD5 uY) hD5;have R6:=mK.rd (KP.of k6) r5 tb5 R;have rj6:rest z (B+(jT [32] (rT n0 r0) ((rs.take j).map (rT n0))).length+(" " : Str).length)=rT n0 u++((((rs.drop (j+1)).map (rT n0)).flatMap fun x=>[32]++x)++93::tl):=by
      rw[bL,rj]
      rfl
     refine⟨_,rfl,.inl ⟨rfl,_,bV.of hD6⟩,_,rfl,_,rfl,_,_,rfl,rfl,x,z,_,kk-1,u,d,jj u,_,rfl,r6,oks u mu,(ww u mu).1,(ww u mu).2,by lia,by lia,mj u mu,by lia,by lia,tb6,rj6,hdT _,fun q7 y7 H7 k7 r7 tb7 hq7 st7=>?_⟩;have hD7:=k7.get r6 tb6 hD6 uY fun _ z=>nomatch z
     have R7:=mK.rd k7 r6 tb6 R6;have k07:KP Pt x H H7:=(kp.trans (KP.of k6)).trans k7;have tk:rs.take (j+1)=rs.take j++[u]:=take_snoc ej;have pe:B+(jT [32] (rT n0 r0) ((rs.take j).map (rT n0))).length+(" " : Str).length+(rT n0 u).length=B+(jT [32] (rT n0 r0) ((rs.take (j+1)).map (rT n0))).length:=by
      rw[tk,aFQ,aFP,aGD,Ar,aFR,aFR];have:(" " : Str).length=1:=rfl;have:([32]:List Nat).length=1:=rfl
      lia
     refine⟨D,_,_,rfl,rfl,hD7,by rw[aFJ];exact aU (by lia),qs++[q7],ys++[y7],rfl,k07.upn hD0 _,Bl tb7 hD7,Bj hD7 (r7.mv pe),by rw[aB,aFQ];rfl,?_⟩;rw[tk,<-aGn];exact IK (QL hD7 R7) (BK hD7 _ _ hq7) (wF hD7 st7)
    ·have je:j=rs.length:=by lia
     rw[je,aG7,aGD,aGV,aGo,<-je]at rj;refine⟨_,rfl,x,dx5,_,rfl,hx5,nc _ (by decide) (by decide) _,x,z," ",_,rfl,r5,by decide,(fun pre=>?_),fun _=>?_⟩
     ·exfalso;rw[rj]at pre;obtain⟨w,e⟩:=pre;have:=(aGs.inj (show 32::w=93::tl from e)).1
      lia
     ·refine⟨_,rfl,?_⟩;refine iW rfl ?_;exact fin je
  case rst =>
   intro je;rw[je,aG7,aGD,aGV,aGo]at rj;rw[je,aF5]at r5 R;refine⟨_,rfl,x,dx5,_,rfl,by rw[je]at hx5;exact hx5,nc _ (by decide) (by decide) _,x,z,"]",_,rfl,r5,by decide,by rw[aF5]at rj;rw[rj];exact⟨_,rfl⟩,fun H6 k6 r6=>?_⟩;have tb6:=cA.kx tb5 k6 r5;have hD6:=k6 _ _ (lN r5 hD5 uY) hD5;have R6:=mK.rd (KP.of k6) r5 tb5 R;refine⟨_,rfl,_,rfl,?_⟩;intro y dy hy hdy ndy;have nO:aP H6 (bH (bH H6 dy (.own y)) y (.ins c.s dy [])):=(aD hdy (.own y)).trans (aD (by rw[aK (Ne.symm ndy)];exact hy) _);refine .inl ⟨y,dy,D,pr,qs,ys,r0::rs,d,jj,rfl,aB,⟨nO _ _ hD6,R6.kp (aP.kp nO),ne,l4,ww⟩,h0,h9,.inr ⟨m,hk,m12,d4,tb6.same nO,fun H' k7 tb7 st7=>⟨rfl,?_⟩⟩⟩;have sT:cW Pt H6 H':=fun b o nP e=>k7 b o (aR e hy) nP (nO _ _ e);have pe:B+(jT [32] (rT n0 r0) (rs.map (rT n0))).length+("]" : Str).length=p+(cB (n0+1) (.st pr (r0::rs))).length:=by
    rw[hB,Rj,aFR,aF8,aFR];have:("]" : Str).length=1:=rfl;have:("[" : Str).length=1:=rfl;have:([93]:List Nat).length=1:=rfl
    lia
   exact q y H' ((kp.trans (KP.of k6)).trans (KP.ofT sT)) ((r6.kt sT tb6).mv pe) tb7 st7
end
end K86
namespace K86
open PySem L2 TD Rd
open Builtin.Int (intBits)
section
variable{P:Program}{w:World}{K:PySem.W.Frag}{mg:Str->Option Value}{base:Heap}{Pt:Addr}
theorem yF{n:Nat}{f:Addr}{fd:FuncData}(F:dJ K "read_boxes" "read_boxes" (top 60) f fd){c:Cs}{C:Addr}(rk:zU K C){aBS:Addr}{J_:FuncData}(aCc:cJ K C "passes" aBS)(aCd:aN P w K mg base bT n aBS J_ ["self","signs"] (qM C))(aCe:Binds K J_ ["self","signs"] []){aC9:Addr}{aCs:FuncData}(aDV:cJ K C "need_end" aC9)(aDW:aN P w K mg base bT n aC9 aCs ["self"] (pR C))(aDX:Binds K aCs ["self"] []){iR:Addr}{iDR:FuncData}{kOR:Nat}(aBH:Mk K C iR)(aBL:aN P w K mg base bT kOR iR iDR ["self","text"] (JF C))(aBQ:Binds K iDR ["self","text"] [])(F_:mg "Reader" = some (.ref C))(aAh:kOR+1<=n)(Q_:Cl P w K mg base n "read_stand" (Hc c C Pt eU 5))(i_:mg "len" = none){A_:Value}(p_:mg "MOST_STAGES" = some A_)(q_:RelV (.int 4) A_){k_:Value}(d_:mg "MOST_BOXES" = some k_)(e_:RelV (.int 6) k_):aN P w K mg base bT (n+1) f fd ["text"] (Nf c Pt eU):=by
 refine F.go qK fun cdv A outer s H vs Q E hr h=>?_;obtain⟨z,s,ss,rfl,ez,oks,s5,z9,tb,q⟩:=h;have nd:=qK.nd;refine⟨_,(aG (d7 1 (jH aBH aBL (hr.mono aAh) rfl F_ aBQ .nil bC (aA (pv 0) aC))) (aG (Iu (aG (d7 2 (m9 (aA (aF Q_ hr (aA (pv 1) (aA (bU (v:=.int 4) rfl p_ q_) aC))) aC))) (aJ (kI PassesOwn.never (PW.pt (m5 (bJ uU (aQ cQ rfl i_ gP (aA (pv 2) aC)) (bU (v:=.int 6) rfl d_ e_) (bD _)) (jW (bQ (dH (pv 1) rk.cl aCc aCd hr aCe .nil bC (aA cI aC)))))) (aJ (cZ (pY PySem.F.plainAttrs_list PySem.F.slot_list_append PySem.F.type_list_append iI (pv 2) (aA (aF Q_ hr (aA (pv 1) (aA (bU (v:=.int 4) rfl p_ q_) aC))) aC)))))))) (aG (cZ (aX (pv 1) rk.cl aDV aDW hr aDX .nil bC)) (aJ (aW (pv 2)))))),?_⟩;have nc0:True:=trivial;have nc:∀f:Str,(f==("text" : Str))=false->(f==("place" : Str))=false->∀p,(oM z p).lookup f=none:=fun f a b p=>by unfold oM;rw[aFX,a,aFX,b];rfl
 refine⟨_,rfl,?_⟩;intro x dx hx hdx ndx;have nO:aP H (bH (bH H dx (.own x)) x (.ins C dx [])):=(aD hdx (.own x)).trans (aD (by rw[aK (Ne.symm ndx)];exact hx) _);refine⟨x,dx,z,rfl,aB,z9,fun H1 k1 r1=>⟨rfl,?_⟩⟩;have s1:aP H H1:=fun b o e=>k1 b o (aR e hx) (nO _ _ e);obtain⟨⟨dx1,hx1⟩,_,_⟩:=id r1;have tb1:=tb.same s1;have er:Rd.rest z 0=X5 s ss:=by unfold Rd.rest;rw[aHQ,ez]
 have hdT:∀l:List Sd.Sd,Zv ((l.map (cB 5)).flatMap fun x=>[32,124,32]++x):=fun l c h=>by
  cases l with
  |nil=>cases h
  |cons a l=>cases h;exact⟨by decide +kernel,by decide⟩
 refine⟨_,rfl,x,z,0,4,s,4,12,_,rfl,r1,oks s aFL,by decide,by decide,by decide,by decide,by decide,tb1,er,hdT ss,fun y1 H3 k3 r3 tb3 st3=>?_⟩;refine⟨Qn,fun D hD=>?_⟩;have hD1:H1 D=none:=KP.new k3 r3 tb3 hD;have n1:=aD hD (.lst [.ref y1]);refine⟨fun mm σ H'=>∃j ys,mm=ss.length-j/\j<=ss.length/\σ = [some (.str z),some (.ref x),some (.ref D)]/\KP Pt x H1 H'/\cA Pt eU gU H'/\cY C H' x z (jT [32,124,32] (cB 5 s) ((ss.take j).map (cB 5))).length/\H' D=some (.lst (ys.map V.ref))/\jU c H' ys (s::ss.take j),⟨_,0,[y1],rfl,aGe _,rfl,k3.upn hD1 _,tb3.same n1,by rw[aHC,aGD,BW];exact(r3.mv (aHk _)).same n1,aB,jU.snoc (ys:=[]) (ss:=[]) ⟨rfl,fun i y s a=>by simp at a⟩ (st3.same n1)⟩,?_⟩;rintro mm σ H5 ⟨j,ys,rfl,jl,rfl,kp,tb5,r5,hD5,R⟩;obtain⟨⟨dx5,hx5⟩,hp5,_⟩:=id r5;have ql:ys.length=j+1:=by rw[R.1,aF8,aGh];lia
 have rj:Rd.rest z (jT [32,124,32] (cB 5 s) ((ss.take j).map (cB 5))).length=((ss.drop j).map (cB 5)).flatMap fun x=>[32,124,32]++x:=by
  have e:=Ft [32,124,32] (cB 5 s) (ss.map (cB 5)) j;have e2:Rd.rest z (0+(jT [32,124,32] (cB 5 s) ((ss.take j).map (cB 5))).length)=((ss.drop j).map (cB 5)).flatMap fun x=>[32,124,32]++x:=by
   rw[bL,er];unfold X5;rw[e,<-aIl,aGy,<-aIm]
  rwa[aHk]at e2
 refine' tD (j=ss.length) (fun fin=>?main) ?rst
 case main =>
  refine⟨_,rfl,D,_,rfl,.inl (bV.of hD5),_,_,rfl,rfl,_,rfl,?_⟩
  by_cases j4:j=5
  ·refine iW (decide_eq_false (by rw[aFJ];lia)) ?_;refine iW rfl ?_;exact fin (by lia)
  ·refine nQ (decide_eq_true (by rw[aFJ];lia)) ?_;rcases aHB j ss.length with lt |ge
   ·have dj:ss.drop j=ss[j]::ss.drop (j+1):=aGG lt;have ej:ss[j]? = some ss[j]:=aFM lt;generalize ss[j]=u at dj ej;have mu:u∈s::ss:=aFK _ (aFY ej);rw[dj,aFP,aGR,aFW]at rj;refine⟨_,rfl,x,dx5,_,rfl,hx5,nc _ (by decide) (by decide) _,x,z," | ",_,rfl,r5,by decide,(fun _ H6 k6 r6=>?_),fun np=>absurd (by rw[rj];exact⟨_,rfl⟩) np⟩;refine⟨_,rfl,?_⟩;refine nQ rfl ?_;refine⟨fun σ' H2=>∃ys,σ'=[some (.str z),some (.ref x),some (.ref D)]/\KP Pt x H1 H2/\cA Pt eU gU H2/\cY C H2 x z (jT [32,124,32] (cB 5 s) ((ss.take (j+1)).map (cB 5))).length/\H2 D=some (.lst (ys.map V.ref))/\jU c H2 ys (s::ss.take (j+1)),fun σ' H2 ⟨ys,e1,k2,t2,r2,d2,R2⟩=>⟨_,by lia,j+1,ys,rfl,lt,e1,k2,t2,r2,d2,R2⟩,?_⟩;have tb6:=cA.kx tb5 k6 r5;have hD6:=k6 _ _ (lN r5 hD5 uY) hD5;have R6:=jU.rd (KP.of k6) r5 tb5 R;have rj6:Rd.rest z ((jT [32,124,32] (cB 5 s) ((ss.take j).map (cB 5))).length+(" | " : Str).length)=cB 5 u++((ss.drop (j+1)).map (cB 5)).flatMap fun x=>[32,124,32]++x:=by
     rw[bL,rj]
     rfl
    refine⟨_,rfl,.inl ⟨rfl,_,bV.of hD6⟩,_,rfl,x,z,_,4,u,4,12,_,rfl,r6,oks u mu,by decide,by decide,by decide,by decide,by decide,tb6,rj6,hdT _,fun y7 H7 k7 r7 tb7 st7=>?_⟩;have hD7:=k7.get r6 tb6 hD6 uY fun _ z=>nomatch z
    have R7:=jU.rd k7 r6 tb6 R6;have k07:KP Pt x H1 H7:=(kp.trans (KP.of k6)).trans k7;have tk:ss.take (j+1)=ss.take j++[u]:=take_snoc ej;have pe:(jT [32,124,32] (cB 5 s) ((ss.take j).map (cB 5))).length+(" | " : Str).length+(cB 5 u).length=(jT [32,124,32] (cB 5 s) ((ss.take (j+1)).map (cB 5))).length:=by
     rw[tk,aFQ,aFP,aGD,Ar,aFR,aFR];have:(" | " : Str).length=3:=rfl;have:([32,124,32]:List Nat).length=3:=rfl
     lia
    refine⟨D,_,_,rfl,rfl,hD7,by rw[aFJ];exact aU (by lia),ys++[y7],rfl,k07.upn hD1 _,Bl tb7 hD7,Bj hD7 (r7.mv pe),by rw[aB,aFQ];rfl,?_⟩;rw[tk,<-aGn];exact(jU.over hD7 R7).snoc (wF hD7 st7)
   ·have je:j=ss.length:=by lia
    rw[je,aG7,aGD,aGV,<-je]at rj;refine⟨_,rfl,x,dx5,_,rfl,hx5,nc _ (by decide) (by decide) _,x,z," | ",_,rfl,r5,by decide,(fun pre=>?_),fun _=>?_⟩
    ·exfalso;rw[rj]at pre;obtain⟨w,e⟩:=pre;exact nomatch (show 32::(124::32::w)=[] from e)
    ·refine⟨_,rfl,?_⟩;refine iW rfl ?_;exact fin je
 case rst =>
  intro je;rw[je,aF5]at r5 R hx5;have pl:(jT [32,124,32] (cB 5 s) (ss.map (cB 5))).length=z.length:=by
   have:z.cps.toList.length=z.length:=rfl;rw[<-this,ez]
   rfl
  refine⟨_,rfl,x,dx5,_,rfl,hx5,nc _ (by decide) (by decide) _,x,z,_,rfl,r5,pl,?_⟩;have hD0:H D=none:=by
   cases e:H D with
   |none=>rfl
   |some o=>rw[s1 _ _ e]at hD1;cases hD1
  exact⟨_,rfl,q D ys H5 (fun b o nP e=>kp b o (aR e hx) nP (s1 _ _ e)) tb5 hD0 hD5 R⟩
end
end K86
namespace K86
open PySem L2 TD TP TX Kn Rd
open Builtin.Int (intBits)
section
variable{P:Program}{w:World}{K:PySem.W.Frag}{mg:Str->Option Value}{base:Heap}{Pt:Addr}
theorem BR{n:Nat}{f:Addr}{fd:FuncData}(F:dJ K "read_sort" "read_sort" (top 64) f fd){C:Addr}(rk:zU K C){aCg:Addr}{aAa:FuncData}(aCL:cJ K C "number" aCg)(aCM:aN P w K mg base bT n aCg aAa ["self"] (zJ C))(aCN:Binds K aAa ["self"] []){aBS:Addr}{J_:FuncData}(aCc:cJ K C "passes" aBS)(aCd:aN P w K mg base bT n aBS J_ ["self","signs"] (qM C))(aCe:Binds K J_ ["self","signs"] []){aAj:Addr}{B_:FuncData}(aB4:cJ K C "need" aAj)(aB5:aN P w K mg base bT n aAj B_ ["self","signs"] (oZ C))(aB6:Binds K B_ ["self","signs"] []){p:Ff}(pt:Rg K p){iF:Addr}{iDF:FuncData}{kOF:Nat}(aFc:Mk K p.f iF)(aFd:aN P w K mg base bT kOF iF iDF ["self","count"] (Rk p.f))(aFe:Binds K iDF ["self","count"] [])(aD2:mg "Few" = some (.ref p.f))(aEV:kOF+1<=n)(aCO:Cl P w K mg base n "read_listed" (Ra C p.l))(aCP:Cl P w K mg base n "read_groups" (Qh C p.g)):aN P w K mg base bT (n+1) f fd ["reader"] (RN C p):=by
 refine F.go rB fun cdv A outer s H vs Q E hr h=>?_;obtain⟨x,z,a,S,rfl,hR,so,er,q⟩:=h;have nd:=rB.nd;refine⟨_,(aG (dI (bQ (dH (pv 0) rk.cl aCc aCd hr aCe .nil bC (aA cI aC))) (aJ (aW (jH aFc aFd (hr.mono aEV) rfl aD2 aFe .nil bC (aA (aX (pv 0) rk.cl aCL aCM hr aCN .nil bC) aC)))) bM) (aG (dI (bQ (dH (pv 0) rk.cl aCc aCd hr aCe .nil bC (aA cI aC))) (aJ (aW (aF aCP hr (aA (pv 0) aC)))) bM) (aG (cZ (dH (pv 0) rk.cl aB4 aB5 hr aB6 .nil bC (aA cI aC))) (aJ (aW (aF aCO hr (aA (pv 0) aC))))))),?_⟩;obtain⟨⟨dx,hx⟩,hp,hz⟩:=id hR;have nc:∀f:Str,(f==("text" : Str))=false->(f==("place" : Str))=false->∀p,(oM z p).lookup f=none:=fun f a b p=>by unfold oM;rw[aFX,a,aFX,b];rfl
 have c1:("few " : Str).cps.toList=[102,101,119,32]:=by decide +kernel
 have c2:("groups " : Str).cps.toList=[103,114,111,117,112,115,32]:=by decide +kernel
 have c3:("listed " : Str).cps.toList=[108,105,115,116,101,100,32]:=by decide +kernel
 cases id so with
 | @few c h0 h6 =>
  have er0:Rd.rest z a=[102,101,119,32]++Rp.dc c:=by
   rw[er];show(Str.ofString "few "++lF c).cps.toList=_;rw[gZ]
   congr 1
  refine⟨_,rfl,x,dx,_,rfl,hx,nc _ (by decide) (by decide) _,x,z,"few ",_,rfl,hR,by decide,(fun _ H1 k1 r1=>?_),fun np=>absurd (by rw[er0,c1];exact⟨_,rfl⟩) np⟩;refine⟨_,rfl,?_⟩;refine nQ rfl ?_;obtain⟨⟨dx1,hx1⟩,_,_⟩:=id r1;have er1:Rd.rest z (a+("few " : Str).length)=Rp.dc c++[]:=by rw[bL,er0,aGJ];rfl
  refine⟨_,rfl,x,dx1,_,rfl,hx1,nc _ (by decide) (by decide) _,x,z,_,c,[],rfl,r1,h0,by omega,er1,Fz,fun H2 k2 r2=>?_⟩;intro y dy hy hdy ndy;have nO:aP H2 (bH (bH H2 dy (.own y)) y (.ins p.f dy [])):=(aD hdy (.own y)).trans (aD (by rw[aK (Ne.symm ndy)];exact hy) _);refine⟨y,dy,c,rfl,aB,h0,h6,rfl,?_⟩;have s2:=nO.upd_new hy (.ins p.f dy [("limit",.int c)]);refine q y _ (k1.trans (k2.trans (KX.of s2))) ((r2.mv ?_).same s2) ⟨dy,aB⟩;show _=a+(Str.ofString "few "++lF c).cps.toList.length;rw[gZ,aFR];have:("few " : Str).length=(Str.ofString "few ").cps.toList.length:=rfl;have:(lF c).cps.toList.length=(Rp.dc c).length:=rfl;omega
 | @groups gs ms g =>
  obtain⟨v,gs,rfl⟩:∃v l,gs=v::l:=by
   cases gs with
   |nil=>exact absurd g.l1 (by decide)
   |cons v l=>exact⟨v,l,rfl⟩
  obtain⟨u,ms,rfl⟩:∃v l,ms=v::l:=by
   cases ms with
   |nil=>exact absurd g.m6 (by decide)
   |cons v l=>exact⟨v,l,rfl⟩
  have er0:Rd.rest z a=[103,114,111,117,112,115,32]++(o4 v gs++([32,47,32]++(o4 u ms++[]))):=by
   rw[er];show(Str.ofString "groups "++pW (v::gs)++Str.ofString " / "++pW (u::ms)).cps.toList=_;rw[gZ,gZ,gZ,zH,zH,aGJ];simp only[aFW]
   rfl
  refine⟨_,rfl,x,dx,_,rfl,hx,nc _ (by decide) (by decide) _,x,z,"few ",_,rfl,hR,by decide,(fun pre=>?_),fun _=>?_⟩
  ·exfalso;rw[er0,c1]at pre;obtain⟨w,e⟩:=pre;exact absurd (aGs.inj e).1 (by decide)
  refine⟨_,rfl,?_⟩;refine iW rfl ?_;refine⟨_,rfl,x,dx,_,rfl,hx,nc _ (by decide) (by decide) _,x,z,"groups ",_,rfl,hR,by decide,(fun _ H1 k1 r1=>?_),fun np=>absurd (by rw[er0,c2];exact⟨_,rfl⟩) np⟩;refine⟨_,rfl,?_⟩;refine nQ rfl ?_;have er1:Rd.rest z (a+("groups " : Str).length)=o4 v gs++([32,47,32]++(o4 u ms++[])):=by rw[bL,er0];rfl
  refine⟨_,rfl,x,z,_,v,u,gs,ms,[],rfl,r1,g,er1,Fz,Ro,fun y H2 k2 r2 gr=>?_⟩;refine q y H2 (k1.trans k2) (r2.mv ?_) gr;show _=a+(Str.ofString "groups "++pW (v::gs)++Str.ofString " / "++pW (u::ms)).cps.toList.length;rw[gZ,gZ,gZ,zH,zH,aFR,aFR,aFR];have:("groups " : Str).length=(Str.ofString "groups ").cps.toList.length:=rfl;have:(Str.ofString " / ").cps.toList.length=3:=rfl;omega
 | @listed ks lt ne kk =>
  cases ks with
  |nil=>exact absurd rfl ne
  |cons v us =>
  have er0:Rd.rest z a=[108,105,115,116,101,100,32]++o4 v us:=by
   rw[er];show(Str.ofString "listed "++pW (v::us)).cps.toList=_;rw[gZ,zH]
   rfl
  refine⟨_,rfl,x,dx,_,rfl,hx,nc _ (by decide) (by decide) _,x,z,"few ",_,rfl,hR,by decide,(fun pre=>?_),fun _=>?_⟩
  ·exfalso;rw[er0,c1]at pre;obtain⟨w,e⟩:=pre;exact absurd (aGs.inj e).1 (by decide)
  refine⟨_,rfl,?_⟩;refine iW rfl ?_;refine⟨_,rfl,x,dx,_,rfl,hx,nc _ (by decide) (by decide) _,x,z,"groups ",_,rfl,hR,by decide,(fun pre=>?_),fun _=>?_⟩
  ·exfalso;rw[er0,c2]at pre;obtain⟨w,e⟩:=pre;exact absurd (aGs.inj e).1 (by decide)
  refine⟨_,rfl,?_⟩;refine iW rfl ?_;refine⟨_,rfl,x,dx,_,rfl,hx,nc _ (by decide) (by decide) _,x,z,"listed ",_,rfl,hR,by decide,by rw[er0,c3];exact⟨_,rfl⟩,fun H1 k1 r1=>?_⟩;have er1:Rd.rest z (a+("listed " : Str).length)=o4 v us:=by rw[bL,er0];rfl
  refine⟨_,rfl,x,z,_,v,us,rfl,r1,so,er1,fun y H2 k2 r2 li=>?_⟩;refine q y H2 (k1.trans k2) (r2.mv ?_) li;show _=a+(Str.ofString "listed "++pW (v::us)).cps.toList.length;rw[gZ,zH,aFR];have:("listed " : Str).length=(Str.ofString "listed ").cps.toList.length:=rfl;omega
end
end K86
namespace K86
open PySem L2 TD
open Builtin.Int (intBits)
section
variable{P:Program}{w:World}{K:PySem.W.Frag}{mg:Str->Option Value}{base:Heap}{Pt:Addr}
theorem Es{n:Nat}{f:Addr}{fd:FuncData}(F:dJ K "_law_row" "_law_row" (top 75) f fd)(h_:Cl P w K mg base n "_law_mixed" Eg)(m_:mg "range" = none):aN P w K mg base bT (n+1) f fd ["_law_cell","_law_bit","_law_many"] NB:=by
 refine F.go vC fun cdv A outer s H vs Q E hr h=>?_;obtain⟨c,b,n,rfl,rfl,q⟩:=h;have nd:=vC.nd;refine⟨_,(aG (d7 3 (m9 aC)) (aG (jQ PassesOwn.never rfl (iH rfl m_ (aA (pv 2) aC)) (jG 4) (aJ (dI (bJ fQ (aV c7 (pv 1) aL) aL (bD _)) (aG (cZ (pY PySem.F.plainAttrs_list PySem.F.slot_list_append PySem.F.type_list_append iI (pv 3) (aA (aV c7 (pv 0) aL) aC))) (aJ (d7 0 (aV jL (pv 0) aL)))) (aJ (cZ (pY PySem.F.plainAttrs_list PySem.F.slot_list_append PySem.F.type_list_append iI (pv 3) (aA (aF h_ hr (aA (pv 0) (aA (pv 4) aC))) aC))))))) (aJ (aW (pv 3))))),?_⟩;refine⟨aGe _,fun r hr0=>?_⟩;have n1:=aD hr0 (.lst []);refine⟨_,rfl,901,rfl,by decide,by decide,?_⟩;refine uB (n:=(901:Int).toNat) (fun i σ H'=>∃c v ns,σ = [some (.int c),some (.int b),some (.int 901),some (.ref r),v]/\aP H H'/\H' r=some (.lst (Is ns))/\ns.length=i) ⟨c,none,[],rfl,n1,aB,rfl⟩ ?turn ?done
 case done =>
  rintro σ H' ⟨c,v,ns,rfl,hs,hr1,nl⟩;exact⟨_,rfl,q r H' ns hs hr0 hr1 nl⟩
 case turn =>
  rintro i σ H' hi ⟨c,v,ns,rfl,hs,hr1,nl⟩;have hi':i<901:=hi;refine⟨_,rfl,_,_,rfl,rfl,(by show(0:Int)<2;decide),rfl,_,rfl,?_⟩;have push:∀(z:Int),aP H (bH H' r (.lst (Is ns++[V.int z])))/\bH H' r (.lst (Is ns++[V.int z])) r=some (.lst (Is (ns++[z])))/\(ns++[z]).length=i+1:=fun z=>⟨hs.upd_new hr0 _,by rw[aB,wK],by rw[aFR,nl];rfl⟩
  refine qZ (fun _=>?_) (fun _=>?_)
  ·refine⟨_,rfl,.inl ⟨rfl,_,bV.of hr1⟩,_,rfl,_,_,rfl,rfl,(by show(0:Int)<2147483647;decide),r,_,_,rfl,rfl,hr1,by rw[gH];exact aU (by omega),?_⟩;refine⟨_,rfl,_,_,rfl,rfl,⟨by decide,by decide⟩,?_⟩;obtain⟨a1,a2,a3⟩:=push (c%2147483647);exact⟨_,_,_,rfl,a1,a2,a3⟩
  ·refine⟨_,rfl,.inl ⟨rfl,_,bV.of hr1⟩,_,rfl,_,rfl,c,0+(i:Int),rfl,fun j _ _=>?_⟩;refine⟨r,_,_,rfl,rfl,hr1,by rw[gH];exact aU (by omega),?_⟩;obtain⟨a1,a2,a3⟩:=push j;exact⟨_,_,_,rfl,a1,a2,a3⟩
end
end K86
namespace K86
open PySem L2 TD TX Kn Rd
open Builtin.Int (intBits)
section
variable{P:Program}{w:World}{K:PySem.W.Frag}{mg:Str->Option Value}{base:Heap}{Pt:Addr}
theorem yK{n:Nat}{f:Addr}{fd:FuncData}(F:dJ K "read_plans" "read_plans" (top 67) f fd){n0:Nat}{cl:Cl}{C:Addr}(rk:zU K C){aBS:Addr}{J_:FuncData}(aCc:cJ K C "passes" aBS)(aCd:aN P w K mg base bT n aBS J_ ["self","signs"] (qM C))(aCe:Binds K J_ ["self","signs"] [])(C_:Cl P w K mg base n "read_knot" (Ex cl C n0))(i_:mg "len" = none){j_:Value}(gV:mg "MOST_STAGE_ROWS" = some j_)(g_:RelV (.int 4) j_):aN P w K mg base bT (n+1) f fd ["reader","knots"] (Jz cl C n0):=by
 refine F.go qD fun cdv A outer s H vs Q E hr h=>?_;obtain⟨x,z,p,kk,t,ts,d,tl,rfl,hR,ok,l3,dn,dk,k9,er,q⟩:=h;have nd:=qD.nd;refine⟨_,(aG (d7 2 (m9 (aA (aF C_ hr (aA (pv 0) (aA (pv 1) aC))) aC))) (aG (kI PassesOwn.never (PW.pt (m5 (bJ uU (aQ cQ rfl i_ gP (aA (pv 2) aC)) (bU (v:=.int 4) rfl gV g_) (bD _)) (jW (bQ (dH (pv 0) rk.cl aCc aCd hr aCe .nil bC (aA cI aC)))))) (aJ (cZ (pY PySem.F.plainAttrs_list PySem.F.slot_list_append PySem.F.type_list_append iI (pv 2) (aA (aF C_ hr (aA (pv 0) (aA (pv 1) aC))) aC))))) (aJ (aW (pv 2))))),?_⟩;obtain⟨⟨dx,hx⟩,hp,hz⟩:=id hR;have nc:∀f:Str,(f==("text" : Str))=false->(f==("place" : Str))=false->∀p,(oM z p).lookup f=none:=fun f a b p=>by unfold oM;rw[aFX,a,aFX,b];rfl
 have m0:t∈t::ts:=aFL;refine⟨_,rfl,_,rfl,x,z,p,kk,t,d,_,rfl,hR,(ok t m0).1,(ok t m0).2,dn,dk,k9,by rw[er];unfold jT;rw[aFW],fun y1 H1 k1 r1 kn1=>?_⟩;refine⟨Qn,fun D hD=>?_⟩;have hD0:H D=none:=KX.new k1 r1 hD;have n1:=aD hD (.lst [.ref y1]);refine⟨fun mm σ H'=>∃j ys,mm=ts.length-j/\j<=ts.length/\σ = [some (.ref x),some (.int kk),some (.ref D)]/\KX x H H'/\cY C H' x z (p+(jT [44,32] (cP n0 t) ((ts.take j).map (cP n0))).length)/\H' D=some (.lst (ys.map V.ref))/\iK cl H' ys (t::ts.take j),⟨_,0,[y1],rfl,aGe _,rfl,KX.upn k1 hD0 _,by rw[aHC,aGD,BW];exact r1.same n1,aB,iK.snoc (ys:=[]) (ts:=[]) ⟨rfl,fun i y s a=>by simp at a⟩ (kn1.same n1)⟩,?_⟩;rintro mm σ H5 ⟨j,ys,rfl,jl,rfl,kp,r5,hD5,R⟩;obtain⟨⟨dx5,hx5⟩,hp5,_⟩:=id r5;have ql:ys.length=j+1:=by rw[R.1,aF8,aGh];lia
 have rj:Rd.rest z (p+(jT [44,32] (cP n0 t) ((ts.take j).map (cP n0))).length)=(((ts.drop j).map (cP n0)).flatMap fun x=>[44,32]++x)++41::tl:=by
  have e:=Ft [44,32] (cP n0 t) (ts.map (cP n0)) j;rw[bL,er,e,aFW,<-aIl,aGy,<-aIm]
 refine' tD (j=ts.length) (fun fin=>?main) ?rst
 case main =>
  refine⟨_,rfl,D,_,rfl,.inl (bV.of hD5),_,_,rfl,rfl,_,rfl,?_⟩
  by_cases j4:j=3
  ·refine iW (decide_eq_false (by rw[aFJ];lia)) ?_;refine iW rfl ?_;exact fin (by lia)
  ·refine nQ (decide_eq_true (by rw[aFJ];lia)) ?_;rcases aHB j ts.length with lt |ge
   ·have dj:ts.drop j=ts[j]::ts.drop (j+1):=aGG lt;have ej:ts[j]? = some ts[j]:=aFM lt;generalize ts[j]=u at dj ej;have mu:u∈t::ts:=aFK _ (aFY ej);rw[dj,aFP,aGR,aFW,aFW]at rj;refine⟨_,rfl,x,dx5,_,rfl,hx5,nc _ (by decide) (by decide) _,x,z,", ",_,rfl,r5,by decide,(fun _ H6 k6 r6=>?_),fun np=>absurd (by rw[rj];exact⟨_,rfl⟩) np⟩;refine⟨_,rfl,?_⟩;refine nQ rfl ?_;refine⟨fun σ' H2=>∃ys,σ'=[some (.ref x),some (.int kk),some (.ref D)]/\KX x H H2/\cY C H2 x z (p+(jT [44,32] (cP n0 t) ((ts.take (j+1)).map (cP n0))).length)/\H2 D=some (.lst (ys.map V.ref))/\iK cl H2 ys (t::ts.take (j+1)),fun σ' H2 ⟨ys,e1,k2,r2,d2,R2⟩=>⟨_,by lia,j+1,ys,rfl,lt,e1,k2,r2,d2,R2⟩,?_⟩;have hD6:=k6 _ _ (lN r5 hD5 uY) hD5;have R6:=iK.rd k6 r5 R;have rj6:Rd.rest z (p+(jT [44,32] (cP n0 t) ((ts.take j).map (cP n0))).length+(", " : Str).length)=cP n0 u++((((ts.drop (j+1)).map (cP n0)).flatMap fun x=>[44,32]++x)++41::tl):=by
     rw[bL,rj]
     rfl
    refine⟨_,rfl,.inl ⟨rfl,_,bV.of hD6⟩,_,rfl,_,rfl,x,z,_,kk,u,d,_,rfl,r6,(ok u mu).1,(ok u mu).2,dn,dk,k9,rj6,fun y7 H7 k7 r7 kn7=>?_⟩;have hD7:=k7 _ _ (lN r6 hD6 uY) hD6;have R7:=iK.rd k7 r6 R6;have k07:KX x H H7:=(kp.trans k6).trans k7;have tk:ts.take (j+1)=ts.take j++[u]:=take_snoc ej;have pe:p+(jT [44,32] (cP n0 t) ((ts.take j).map (cP n0))).length+(", " : Str).length+(cP n0 u).length=p+(jT [44,32] (cP n0 t) ((ts.take (j+1)).map (cP n0))).length:=by
     rw[tk,aFQ,aFP,aGD,Ar,aFR,aFR];have:(", " : Str).length=2:=rfl;have:([44,32]:List Nat).length=2:=rfl
     lia
    refine⟨D,_,_,rfl,rfl,hD7,by rw[aFJ];exact aU (by lia),ys++[y7],rfl,KX.upn k07 hD0 _,Bj hD7 (r7.mv pe),by rw[aB,aFQ];rfl,?_⟩;rw[tk,<-aGn];exact(iK.over hD7 R7).snoc (Rd.IW hD7 kn7)
   ·have je:j=ts.length:=by lia
    rw[je,aG7,aGD,aGV,aGo,<-je]at rj;refine⟨_,rfl,x,dx5,_,rfl,hx5,nc _ (by decide) (by decide) _,x,z,", ",_,rfl,r5,by decide,(fun pre=>?_),fun _=>?_⟩
    ·exfalso;rw[rj]at pre;obtain⟨w,e⟩:=pre;have:=(aGs.inj (show 44::(32::w)=41::tl from e)).1
     lia
    ·refine⟨_,rfl,?_⟩;refine iW rfl ?_;exact fin je
 case rst =>
  intro je;rw[je,aF5]at r5 R;exact⟨_,rfl,q D ys H5 kp r5 hD5 R⟩
end
end K86
namespace K86
open PySem L2 TD Rd
open Builtin.Int (intBits)
section
variable{P:Program}{w:World}{K:PySem.W.Frag}{mg:Str->Option Value}{base:Heap}{Pt:Addr}
variable{n:Nat}{f C:Addr}{fd:FuncData}
theorem vU(F:dJ K "comes" "Reader.comes" (inClass (top 57) 1) f fd)(rk:zU K C)(i_:mg "len" = none):aN P w K mg base bT (n+1) f fd ["self","signs"] (Bx C):=by
 refine F.go nT fun cdv A outer s H vs Q E hr h=>?_;obtain⟨x,z,s,p,rfl,hR,s9,k1,k2⟩:=h;have nd:=nT.nd;refine⟨_,(aJ (aW (pM fQ (Df Nr (cH (pv 0) rfl) (wL (cH (pv 0) rfl)) (wL (aV dM (cH (pv 0) rfl) (aQ j6 rfl i_ gP (aA (pv 1) aC))))) (pv 1) (bD _)))),?_⟩;obtain⟨⟨dx,hx⟩,hp,hz⟩:=hR;have z9:z.length<=sizeLine:=aFN hz (by decide);refine⟨_,rfl,x,C,dx,_,_,rfl,hx,rk.cl,rk.nt,wO z p,?_⟩;refine⟨_,rfl,x,C,dx,_,_,rfl,hx,rk.cl,rk.np,j5 z p,_,rfl,?_⟩;refine⟨_,rfl,x,C,dx,_,_,rfl,hx,rk.cl,rk.np,j5 z p,?_⟩;refine⟨_,rfl,s,rfl,aFN s9 (by decide),_,_,rfl,rfl,_,rfl,z,rfl,z9,_,rfl,?_⟩;have e:=Mh (z:=z) (s:=s) hp
 by_cases h:s.cps.toList <+: rest z p
 ·have y:=e.mpr h;refine⟨rfl,?_⟩;rw[decide_eq_true (by rw[y])];exact k1 h
 ·refine⟨rfl,?_⟩;rw[decide_eq_false fun w=>h (e.mp (V.str.inj w))];exact k2 h
variable{aDe:FuncData}
theorem uH(F:dJ K "passes" "Reader.passes" (inClass (top 57) 2) f fd)(rk:zU K C){aD3:Addr}(aEq:cJ K C "comes" aD3)(aEr:aN P w K mg base bT n aD3 aDe ["self","signs"] (Bx C))(aEs:Binds K aDe ["self","signs"] [])(i_:mg "len" = none):aN P w K mg base bT (n+1) f fd ["self","signs"] (qM C):=by
 refine F.go lY fun cdv A outer s H vs Q E hr h=>?_;obtain⟨x,z,s,p,rfl,hR,s9,k1,k2⟩:=h;have nd:=lY.nd;refine⟨_,(aG (dI (cF (bQ (dH (pv 0) rk.cl aEq aEr hr aEs .nil bC (aA (pv 1) aC)))) (aJ (aW mR)) bM) (aG (gB (pv 0) (aV dM (cH (pv 0) rfl) (aQ j6 rfl i_ gP (aA (pv 1) aC))) rfl) (aJ (aW mR)))),?_⟩;obtain⟨⟨dx,hx⟩,hp,hz⟩:=id hR;have nc:∀f:Str,(f==("text" : Str))=false->(f==("place" : Str))=false->(oM z p).lookup f=none:=fun f a b=>by unfold oM;rw[aFX,a,aFX,b];rfl
 refine⟨_,rfl,x,dx,_,rfl,hx,nc _ (by decide) (by decide),_,rfl,x,z,s,p,rfl,hR,s9,fun h=>?_,fun h=>?_⟩
 ·refine⟨_,rfl,?_⟩;refine dW ?_;refine⟨_,rfl,x,C,dx,_,_,rfl,hx,rk.cl,rk.np,j5 z p,?_⟩;refine⟨_,rfl,s,rfl,aFN s9 (by decide),_,_,rfl,rfl,?_⟩;refine⟨_,rfl,x,C,dx,_,rfl,hx,rk.cl,rk.np,by show 2<1000;decide,?_⟩;have kx:KX x H (bH H x (.ins C dx (oM z (p+s.length)))):=fun b o ne e=>by rw[aK ne];exact e
  exact k1 h _ kx ⟨⟨dx,aB⟩,Vk hp h,hz⟩
 ·refine⟨_,rfl,?_⟩;refine iZ ?_;exact k2 h
theorem xG(F:dJ K "need" "Reader.need" (inClass (top 57) 3) f fd)(rk:zU K C){aBS:Addr}{J_:FuncData}(aCc:cJ K C "passes" aBS)(aCd:aN P w K mg base bT n aBS J_ ["self","signs"] (qM C))(aCe:Binds K J_ ["self","signs"] []):aN P w K mg base bT (n+1) f fd ["self","signs"] (oZ C):=by
 refine F.go pA fun cdv A outer s H vs Q E hr h=>?_;obtain⟨x,z,s,p,rfl,hR,s9,pre,q⟩:=h;have nd:=pA.nd;refine⟨_,(aJ (dI (cF (bQ (dH (pv 0) rk.cl aCc aCd hr aCe .nil bC (aA (pv 1) aC)))) (aJ fW) bM)),?_⟩;obtain⟨⟨dx,hx⟩,hp,hz⟩:=id hR;have nc:∀f:Str,(f==("text" : Str))=false->(f==("place" : Str))=false->(oM z p).lookup f=none:=fun f a b=>by unfold oM;rw[aFX,a,aFX,b];rfl
 refine⟨_,rfl,x,dx,_,rfl,hx,nc _ (by decide) (by decide),_,rfl,x,z,s,p,rfl,hR,s9,fun h H' kx r=>?_,fun h=>absurd pre h⟩;refine⟨_,rfl,?_⟩;refine dW ?_;exact q H' kx r
theorem uF(F:dJ K "at_end" "Reader.at_end" (inClass (top 57) 4) f fd)(rk:zU K C)(i_:mg "len" = none):aN P w K mg base bT (n+1) f fd ["self"] (Ba C):=by
 refine F.go mL fun cdv A outer s H vs Q E hr h=>?_;obtain⟨x,z,p,rfl,hR,q⟩:=h;have nd:=mL.nd;refine⟨_,(aJ (aW (pM fQ (cH (pv 0) rfl) (aQ j6 rfl i_ gP (aA (cH (pv 0) rfl) aC)) (bD _)))),?_⟩;obtain⟨⟨dx,hx⟩,hp,hz⟩:=hR;have z9:z.length<=sizeLine:=aFN hz (by decide);refine⟨_,rfl,x,C,dx,_,_,rfl,hx,rk.cl,rk.np,j5 z p,?_⟩;refine⟨_,rfl,x,C,dx,_,_,rfl,hx,rk.cl,rk.nt,wO z p,?_⟩;refine⟨z,rfl,z9,?_⟩;have e:decide (V.int (p:Int)=V.int (z.length:Int))=decide (p=z.length):=by
  by_cases h:p=z.length
  ·rw[decide_eq_true h,decide_eq_true (by rw[h])]
  ·rw[decide_eq_false h,decide_eq_false fun w=>h (by have:=V.int.inj w;lia)]
 refine⟨rfl,?_⟩;rw[e];exact q
variable{aDf:FuncData}
theorem qY(F:dJ K "need_end" "Reader.need_end" (inClass (top 57) 5) f fd)(rk:zU K C){aD4:Addr}(aEW:cJ K C "at_end" aD4)(aEX:aN P w K mg base bT n aD4 aDf ["self"] (Ba C))(aEY:Binds K aDf ["self"] []):aN P w K mg base bT (n+1) f fd ["self"] (pR C):=by
 refine F.go kJ fun cdv A outer s H vs Q E hr h=>?_;obtain⟨x,z,p,rfl,hR,e,q⟩:=h;have nd:=kJ.nd;refine⟨_,(aJ (dI (cF (bQ (aX (pv 0) rk.cl aEW aEX hr aEY .nil bC))) (aJ fW) bM)),?_⟩;obtain⟨⟨dx,hx⟩,hp,hz⟩:=id hR;have nc:∀f:Str,(f==("text" : Str))=false->(f==("place" : Str))=false->(oM z p).lookup f=none:=fun f a b=>by unfold oM;rw[aFX,a,aFX,b];rfl
 refine⟨_,rfl,x,dx,_,rfl,hx,nc _ (by decide) (by decide),x,z,p,rfl,hR,?_⟩;refine⟨_,rfl,?_⟩;rw[decide_eq_true e];refine dW ?_;exact q
theorem uG(F:dJ K "number" "Reader.number" (inClass (top 57) 6) f fd)(rk:zU K C){aD4:Addr}(aEW:cJ K C "at_end" aD4)(aEX:aN P w K mg base bT n aD4 aDf ["self"] (Ba C))(aEY:Binds K aDf ["self"] []){aCZ:Value}(aCn:mg "FIGURES" = some aCZ)(aCo:RelV (.str "0123456789") aCZ)(aBh:mg "int" = none)(i_:mg "len" = none){aBT:Value}(U_:mg "MOST_FIGURES" = some aBT)(V_:RelV (.int 10) aBT):aN P w K mg base bT (n+1) f fd ["self"] (zJ C):=by
 refine F.go mF fun cdv A outer s H vs Q E hr h=>?_;obtain⟨x,z,p,v,tl,rfl,hR,v0,v9,er,tlh,q⟩:=h;have nd:=mF.nd;refine⟨_,(aG (d7 1 (cH (pv 0) rfl)) (aG (kI PassesOwn.never (PW.pt (m5 (cF (bQ (aX (pv 0) rk.cl aEW aEX hr aEY .nil bC))) (jW (bJ JR (eE Kr (cH (pv 0) rfl) (cH (pv 0) rfl) (fun _ _=>rfl)) (bU (v:=.str "0123456789") rfl aCn aCo) rfl)))) (aJ (gB (pv 0) (aV dM (cH (pv 0) rfl) aL) rfl))) (aG (d7 2 (Df Nr (cH (pv 0) rfl) (wL (pv 1)) (wL (cH (pv 0) rfl)))) (aG (dI (PW.pt (iU (cF (xT rW rW aL (aQ j6 rfl i_ gP (aA (pv 2) aC)) (bU (v:=.int 10) rfl U_ V_))) (gM (PW.pt (m5 (bJ fQ (eE Kr (pv 2) aL (fun _ _=>rfl)) cI (bD _)) (jW (bJ zL (pv 2) cI (bD _)))))))) (aJ fW) bM) (aJ (aW (dD JS rfl aBh Bv (aA (pv 2) aC)))))))),?_⟩;obtain⟨⟨dx,hx⟩,hp,hz⟩:=id hR;have z9:z.length<=sizeLine:=aFN hz (by decide);have nc:∀f:Str,(f==("text" : Str))=false->(f==("place" : Str))=false->∀p,(oM z p).lookup f=none:=fun f a b p=>by unfold oM;rw[aFX,a,aFX,b];rfl
 have l10:=Rp.Kv v0 v9;have rl:(rest z p).length=z.length-p:=xO;have ll:(rest z p).length=(Rp.dc v).length+tl.length:=by rw[er,aFR]
 refine⟨_,rfl,x,C,dx,_,_,rfl,hx,rk.cl,rk.np,j5 z p,?_⟩;refine⟨fun m σ H'=>∃j v2,m=(Rp.dc v).length-j/\j<=(Rp.dc v).length/\σ = [some (.ref x),some (.int (p:Int)),v2]/\KX x H H'/\cY C H' x z (p+j),⟨_,0,none,rfl,aGe _,rfl,fun _ _ _ e=>e,hR⟩,?_⟩;rintro m σ H' ⟨j,v2,rfl,jl,rfl,kx,hR'⟩;obtain⟨⟨dx',hx'⟩,hp',_⟩:=id hR';refine⟨_,rfl,x,dx',_,rfl,hx',nc _ (by decide) (by decide) _,x,z,p+j,rfl,hR',?_⟩;refine⟨_,rfl,?_⟩;have rj:rest z (p+j)=(Rp.dc v).drop j++tl:=by rw[bL,er,List.drop_append_of_le_length jl]
 have at_:∀{c:Nat}{l:List Nat},rest z (p+j)=c::l->p+j<z.length/\Gh z.cps.toList ((p+j:Nat):Int)=some c:=fun{c l} e=>by
  have h1:(rest z (p+j)).length=z.length-(p+j):=xO;rw[e]at h1;have h2:p+j<z.length:=by simp at h1;lia
  refine⟨h2,?_⟩;have h3:(z.cps.toList.drop (p+j))[0]? = some c:=by have:z.cps.toList.drop (p+j)=c::l:=e;rw[this];rfl
  rw[List.getElem?_drop,Nat.add_zero]at h3;exact m7 h3
 refine' tD (j=(Rp.dc v).length) (fun fin=>?main) ?rst
 case main =>
  rcases aHB j (Rp.dc v).length with lt |ge
  ·
   have dj:(Rp.dc v).drop j=(Rp.dc v)[j]::(Rp.dc v).drop (j+1):=aGG lt;have fg:=Rp.xA v0 _ (aGB lt);rw[dj]at rj;generalize (Rp.dc v)[j]=c at dj fg rj;obtain⟨lz,ac⟩:=at_ (show _=c::(_++tl)from rj);refine nQ (by rw[decide_eq_false (by lia)];rfl) ?_;refine⟨_,rfl,x,C,dx',_,_,rfl,hx',rk.cl,rk.nt,wO z _,?_⟩;refine⟨_,rfl,x,C,dx',_,_,rfl,hx',rk.cl,rk.np,j5 z _,?_⟩;refine⟨z,_,c,rfl,rfl,z9,ac,_,_,rfl,rfl,_,rfl,?_⟩;refine nQ (Tv fg) ?_;refine⟨fun σ' H2=>∃v2,σ'=[some (.ref x),some (.int (p:Int)),v2]/\KX x H H2/\cY C H2 x z (p+(j+1)),fun σ' H2 ⟨v2,e1,k2,r2⟩=>⟨_,by lia,j+1,v2,rfl,lt,e1,k2,r2⟩,?_⟩;refine⟨_,rfl,x,C,dx',_,_,rfl,hx',rk.cl,rk.np,j5 z _,_,_,rfl,rfl,?_⟩;refine⟨_,rfl,x,C,dx',_,rfl,hx',rk.cl,rk.np,by show 2<1000;decide,?_⟩;exact⟨v2,rfl,kx.trans fun b o ne e=>by rw[aK ne];exact e,⟨dx',aB⟩,lz,hz⟩
  ·have je:j=(Rp.dc v).length:=by lia
   cases tl with
   |nil =>
    have:p+j=z.length:=by rw[aHr]at ll;lia
    refine iW (by rw[decide_eq_true this];rfl) ?_;refine iW rfl ?_;exact fin je
   |cons c tl =>
    rw[je,aG7,aGo,<-je]at rj;obtain⟨lz,ac⟩:=at_ rj;refine nQ (by rw[decide_eq_false (by lia)];rfl) ?_;refine⟨_,rfl,x,C,dx',_,_,rfl,hx',rk.cl,rk.nt,wO z _,?_⟩;refine⟨_,rfl,x,C,dx',_,_,rfl,hx',rk.cl,rk.np,j5 z _,?_⟩;refine⟨z,_,c,rfl,rfl,z9,ac,_,_,rfl,rfl,_,rfl,?_⟩;refine iW (tlh c rfl) ?_;exact fin je
 case rst =>
  intro je;refine⟨_,rfl,x,C,dx',_,_,rfl,hx',rk.cl,rk.nt,wO z _,?_⟩;refine⟨_,rfl,_,rfl,_,rfl,x,C,dx',_,_,rfl,hx',rk.cl,rk.np,j5 z _,_,rfl,z,rfl,z9,?_⟩;have es:Txt.slice z (some (p:Int)) (some ((p+j:Nat):Int))=Str.ofString (toString v):=by
   refine KZ ?_;have e:=Am z (k:=j) hp;rw[show((p+j:Nat):Int)=(p:Int)+(j:Int) by push_cast;rfl,e,show z.cps.toList.drop p=Rp.dc v++tl from er,je,List.take_left]
   rfl
  rw[es];have sl:(Str.ofString (toString v)).length=(Rp.dc v).length:=(Rp.Us _).symm;refine⟨_,rfl,_,rfl,by lia,_,_,rfl,rfl,_,rfl,?_⟩;have dn:=Qi v0;obtain⟨c,l,ed⟩:∃c l,Rp.dc v=c::l:=by
   cases e:Rp.dc v with
   |nil=>exact absurd e dn
   |cons c l=>exact⟨c,l,rfl⟩
  have l1:1<=(Rp.dc v).length:=by rw[ed];simp
  have ten:(10:Int)^10=10000000000:=by decide
  have nr:=PySem.W.KIN.num_reads v0 (show v<10^10 by rw[ten];lia);have fin2:Q (.int v) H':=q H' kx (je ▸ hR');have ec:(Str.ofString (toString v)).cps.toList=c::l:=ed;generalize Str.ofString (toString v)=S at sl nr ec;refine nQ (decide_eq_true (by lia)) ?_;refine⟨_,_,rfl,rfl,_,rfl,?_⟩;refine iW (by rw[decide_eq_true (by lia)];rfl) ?_;refine⟨_,rfl,S,0,c,rfl,rfl,by lia,by rw[ec];exact m7 (xs:=c::l) (j:=0) rfl,rfl,_,rfl,?_⟩;have retn:K7 (YF (fun xs H Q=>∃z n,xs=[V.str z]/\z.length<=640/\intText? z=some n/\Q (V.int n) H) (oG (vV 2) nC)) { nx:=fun x H'=>Q V.non H',rt:=Q } ([some (V.ref x),some (V.int (p:Int)),v2].set 2 (some (V.str S))) H':=⟨_,rfl,S,v,rfl,by lia,nr,fin2⟩
  by_cases c0:c=48
  ·subst c0;have d1:=QX v0 (by rw[ed];rfl);rw[ed]at d1;refine nQ (decide_eq_true rfl) ?_;refine⟨_,rfl,rfl,_,rfl,?_⟩;have:S = "0":=KZ (by rw[ec,d1];rfl);refine iW (by rw[this];rfl) ?_;exact retn
  ·refine iW (decide_eq_false fun w=>c0 (by have t:[c]=[48]:=congrArg (fun s:Str=>s.cps.toList) (V.str.inj w);exact(aGs.inj t).1)) ?_;refine iW rfl ?_;exact retn
variable{aAa B_:FuncData}
theorem rN(F:dJ K "numbers" "Reader.numbers" (inClass (top 57) 7) f fd)(rk:zU K C){aCg:Addr}(aCL:cJ K C "number" aCg)(aCM:aN P w K mg base bT n aCg aAa ["self"] (zJ C))(aCN:Binds K aAa ["self"] []){aD3:Addr}(aEq:cJ K C "comes" aD3)(aEr:aN P w K mg base bT n aD3 aDe ["self","signs"] (Bx C))(aEs:Binds K aDe ["self","signs"] []){aAj:Addr}(aB4:cJ K C "need" aAj)(aB5:aN P w K mg base bT n aAj B_ ["self","signs"] (oZ C))(aB6:Binds K B_ ["self","signs"] []):aN P w K mg base bT (n+1) f fd ["self"] (By C):=by
 refine F.go lQ fun cdv A outer s H vs Q E hr h=>?_;obtain⟨x,z,p,v,us,tl,rfl,hR,hu,u9,er,tlh,Zi,q⟩:=h;have nd:=lQ.nd;refine⟨_,(aG (d7 1 (m9 (aA (aX (pv 0) rk.cl aCL aCM hr aCN .nil bC) aC))) (aG (kI PassesOwn.never (PW.pt (m5 (bQ (dH (pv 0) rk.cl aEq aEr hr aEs .nil bC (aA cI aC))) (jW (cF (bQ (dH (pv 0) rk.cl aEq aEr hr aEs .nil bC (aA cI aC))))))) (aG (cZ (dH (pv 0) rk.cl aB4 aB5 hr aB6 .nil bC (aA cI aC))) (aJ (cZ (pY PySem.F.plainAttrs_list PySem.F.slot_list_append PySem.F.type_list_append iI (pv 1) (aA (aX (pv 0) rk.cl aCL aCM hr aCN .nil bC) aC)))))) (aJ (aW (pv 1))))),?_⟩;obtain⟨⟨dx,hx⟩,hp,hz⟩:=id hR;have nc:∀f:Str,(f==("text" : Str))=false->(f==("place" : Str))=false->∀p,(oM z p).lookup f=none:=fun f a b p=>by unfold oM;rw[aFX,a,aFX,b];rfl
 obtain⟨v0,v9⟩:=hu v aFL;have hd32:∀c:Nat,((us.flatMap fun u=>32::Rp.dc u)++tl).head? = some c->CQ c=false:=fun c h=>by
  cases us with
  |nil=>exact tlh c h
  |cons u us=>cases h;decide +kernel
 refine⟨_,rfl,x,dx,_,rfl,hx,nc _ (by decide) (by decide) _,x,z,p,v,_,rfl,hR,v0,v9,by rw[er];unfold o4;rw[aFW],hd32,fun H1 k1 r1=>?_⟩;refine⟨Qn,fun D hD=>?_⟩;obtain⟨⟨dx1,hx1⟩,_,_⟩:=id r1;have nD:D≠x:=fun z=>by rw[z,hx1]at hD;cases hD
 have hD0:H D=none:=by
  cases e:H D with
  |none=>rfl
  |some o=>rw[k1 _ _ nD e]at hD;cases hD
 have n1:=aD hD (.lst [.int v]);refine⟨fun m σ H'=>∃j,m=us.length-j/\j<=us.length/\σ = [some (.ref x),some (.ref D)]/\KX x H H'/\cY C H' x z (p+(o4 v (us.take j)).length)/\H' D=some (.lst (Is (v::us.take j))),⟨_,0,rfl,aGe _,rfl,k1.trans (KX.of n1),by rw[aHC,PN];exact r1.same n1,by rw[aHC];exact aB⟩,?_⟩;rintro m σ H' ⟨j,rfl,jl,rfl,kx,hR',hD'⟩;obtain⟨⟨dx',hx'⟩,hp',_⟩:=id hR';have rj:rest z (p+(o4 v (us.take j)).length)=((us.drop j).flatMap fun u=>32::Rp.dc u)++tl:=by
  rw[bL,er];have e:o4 v us=o4 v (us.take j)++(us.drop j).flatMap fun u=>32::Rp.dc u:=by
   unfold o4
   conv=>lhs;rw[<-aGZ j us]
   rw[aG4,aFW]
  rw[e,aFW,aGy]
 have c1:(" " : Str).cps.toList=[32]:=rfl;have c2:(" /" : Str).cps.toList=[32,47]:=rfl;have Dx:D≠x:=nD
 refine' tD (j=us.length) (fun fin=>?main) ?rst
 case main =>
  rcases aHB j us.length with lt |ge
  ·have dj:us.drop j=us[j]::us.drop (j+1):=aGG lt;have ej:us[j]? = some us[j]:=aFM lt;generalize us[j]=u at dj ej;obtain⟨u0,u9'⟩:=hu u (aFK _ (aFY ej));rw[dj,aGR,aFW]at rj;have dn:=Qi u0;obtain⟨c,l,ed⟩:∃c l,Rp.dc u=c::l:=by
    cases e:Rp.dc u with
    |nil=>exact absurd e dn
    |cons c l=>exact⟨c,l,rfl⟩
   have cd:=Rp.xA u0 c (by rw[ed];exact aFL);have p1:[32] <+: rest z (p+(o4 v (us.take j)).length):=by rw[rj];exact⟨_,rfl⟩
   have p2:¬ [32,47] <+: rest z (p+(o4 v (us.take j)).length):=by
    rw[rj,ed];rintro⟨w,e⟩;have:=(aGs.inj (aGs.inj e).2).1
    lia
   refine⟨_,rfl,x,dx',_,rfl,hx',nc _ (by decide) (by decide) _,x,z," ",_,rfl,hR',by decide,fun _=>?_,fun pre=>absurd p1 pre⟩;refine⟨_,rfl,?_⟩;refine nQ rfl ?_;refine⟨_,rfl,x,dx',_,rfl,hx',nc _ (by decide) (by decide) _,x,z," /",_,rfl,hR',by decide,fun pre=>absurd pre p2,fun _=>?_⟩;refine⟨_,rfl,?_⟩;refine nQ rfl ?_;refine⟨fun σ' H2=>σ'=[some (.ref x),some (.ref D)]/\KX x H H2/\cY C H2 x z (p+(o4 v (us.take (j+1))).length)/\H2 D=some (.lst (Is (v::us.take (j+1)))),fun σ' H2 ⟨e1,k2,r2,d2⟩=>⟨_,by lia,j+1,rfl,lt,e1,k2,r2,d2⟩,?_⟩;refine⟨_,rfl,x,dx',_,rfl,hx',nc _ (by decide) (by decide) _,x,z," ",_,rfl,hR',by decide,p1,fun H2 k2 r2=>?_⟩;have d2:=k2 _ _ Dx hD';obtain⟨⟨dx2,hx2⟩,_,_⟩:=id r2;have rk2:rest z (p+(o4 v (us.take j)).length+(" " : Str).length)=Rp.dc u++(((us.drop (j+1)).flatMap fun u=>32::Rp.dc u)++tl):=by
    rw[bL,rj]
    rfl
   have hd2:∀c:Nat,(((us.drop (j+1)).flatMap fun u=>32::Rp.dc u)++tl).head? = some c->CQ c=false:=fun c h=>by
    cases e:us.drop (j+1)with
    |nil=>rw[e]at h;exact tlh c h
    |cons u us=>rw[e]at h;cases h;decide +kernel
   refine⟨_,rfl,.inl ⟨rfl,_,bV.of d2⟩,_,rfl,x,dx2,_,rfl,hx2,nc _ (by decide) (by decide) _,x,z,_,u,_,rfl,r2,u0,u9',rk2,hd2,fun H3 k3 r3=>?_⟩;have d3:=k3 _ _ Dx d2;have kxD:∀o,KX x H (bH H3 D o):=fun o b o' ne e=>by
    have nb:b≠D:=fun z=>by rw[z,hD0]at e;cases e
    rw[aK nb];exact k3 _ _ ne (k2 _ _ ne (kx _ _ ne e))
   obtain⟨⟨dx3,hx3⟩,hp3,hz3⟩:=id r3;have tk:us.take (j+1)=us.take j++[u]:=take_snoc ej;refine⟨D,_,_,rfl,rfl,d3,by rw[gH,aF8,aGh];exact aU (by lia),rfl,kxD _,?_,?_⟩
   ·have pe:p+(o4 v (us.take j)).length+(" " : Str).length+(Rp.dc u).length=p+(o4 v (us.take (j+1))).length:=by
     rw[tk,Nt,aFR,aF8];have:(" " : Str).length=1:=rfl
     lia
    rw[pe]at hx3 hp3;exact⟨⟨dx3,by rw[aK (Ne.symm Dx)];exact hx3⟩,hp3,hz3⟩
   ·rw[aB,tk];have e:Is (v::us.take j)++Is [u]=Is ((v::us.take j)++[u]):=(wK ..).symm;exact congrArg (fun l=>some (HO.lst l)) e
  ·have je:j=us.length:=by lia
   rw[je,aG7,aGV,aGo,<-je]at rj;refine⟨_,rfl,x,dx',_,rfl,hx',nc _ (by decide) (by decide) _,x,z," ",_,rfl,hR',by decide,fun pre=>?_,fun pre=>?_⟩
   ·refine⟨_,rfl,?_⟩;refine nQ rfl ?_;rw[c1,rj]at pre;refine⟨_,rfl,x,dx',_,rfl,hx',nc _ (by decide) (by decide) _,x,z," /",_,rfl,hR',by decide,fun _=>?_,fun pre2=>absurd (by rw[rj];exact Zi pre) pre2⟩;refine⟨_,rfl,?_⟩;refine iW rfl ?_;exact fin je
   ·refine⟨_,rfl,?_⟩;refine iW rfl ?_;refine iW rfl ?_;exact fin je
 case rst =>
  intro je;rw[je,aF5]at hR' hD';exact⟨_,rfl,q D H' kx hD0 nD hR' hD'⟩
theorem qU(F:dJ K "__init__" "Reader.__init__" (inClass (top 57) 0) f fd)(rk:zU K C)(a_:mg "isinstance" = none)(u_:mg "str" = none):aN P w K mg base bT (n+1) f fd ["self","text"] (JF C):=by
 refine F.go lC fun cdv A outer s H vs Q E hr h=>?_;obtain⟨x,dx,z,rfl,hx,hz,q⟩:=h;have nd:=lC.nd;refine⟨_,(aG (dI (cF (bQ (aQ (cV (T:="str")) rfl a_ aZ (aA (pv 1) (aA (eY (v:=.ty "str") rfl u_ j8 rfl) aC))))) (aJ fW) bM) (aG (gB (pv 0) (pv 1) rfl) (aJ (gB (pv 0) aL rfl)))),?_⟩;refine⟨_,rfl,_,_,_,rfl,.str z,fP _,_,rfl,?_⟩;refine dW ?_;refine⟨_,rfl,_,rfl,x,C,dx,[],rfl,hx,rk.cl,rk.nt,by decide,?_⟩;have e1:bH H x (.ins C dx (iY "text" (.str z) [])) x=some (.ins C dx [("text",.str z)]):=aB;refine⟨_,rfl,x,C,dx,_,rfl,e1,rk.cl,rk.np,by show 1<1000;decide,?_⟩;refine q _ (fun b o ne e=>by rw[aK ne,aK ne];exact e) ⟨⟨dx,aB⟩,aGe _,hz⟩
theorem oK(F:dJ K "read_number_of_box" "read_number_of_box" (top 66) f fd)(rk:zU K C){aCg:Addr}(aCL:cJ K C "number" aCg)(aCM:aN P w K mg base bT n aCg aAa ["self"] (zJ C))(aCN:Binds K aAa ["self"] []){aAj:Addr}(aB4:cJ K C "need" aAj)(aB5:aN P w K mg base bT n aAj B_ ["self","signs"] (oZ C))(aB6:Binds K B_ ["self","signs"] []){k_:Value}(d_:mg "MOST_BOXES" = some k_)(e_:RelV (.int 6) k_):aN P w K mg base bT (n+1) f fd ["reader"] (RZ C):=by
 refine F.go jA fun cdv A outer s H vs Q E hr h=>?_;obtain⟨x,z,p,v,tl,rfl,hR,v0,v5,er,q⟩:=h;have nd:=jA.nd;refine⟨_,(aG (d7 1 (aX (pv 0) rk.cl aCL aCM hr aCN .nil bC)) (aG (dI (bJ Rh (pv 1) (bU (v:=.int 6) rfl d_ e_) (bD _)) (aJ fW) bM) (aG (cZ (dH (pv 0) rk.cl aB4 aB5 hr aB6 .nil bC (aA cI aC))) (aJ (aW (pv 1)))))),?_⟩;obtain⟨⟨dx,hx⟩,hp,hz⟩:=id hR;have nc:∀f:Str,(f==("text" : Str))=false->(f==("place" : Str))=false->∀p,(oM z p).lookup f=none:=fun f a b p=>by unfold oM;rw[aFX,a,aFX,b];rfl
 refine⟨_,rfl,x,dx,_,rfl,hx,nc _ (by decide) (by decide) _,x,z,p,v,_,rfl,hR,v0,by lia,er,fun c h=>by cases h;decide +kernel,fun H1 k1 r1=>?_⟩;obtain⟨⟨dx1,hx1⟩,_,_⟩:=id r1;refine⟨_,rfl,_,_,rfl,rfl,_,rfl,?_⟩;refine iW (decide_eq_false (by lia)) ?_;have pre:[32] <+: rest z (p+(Rp.dc v).length):=by rw[bL,er,aGy];exact⟨tl,rfl⟩
 refine⟨_,rfl,x,dx1,_,rfl,hx1,nc _ (by decide) (by decide) _,x,z," ",_,rfl,r1,by decide,pre,fun H2 k2 r2=>?_⟩;exact⟨_,rfl,q H2 (k1.trans k2) r2⟩
end
end K86
namespace L2
open PySem PySem.Spec PyProof.Rows
structure TF (K:PySem.W.Frag)(x:Str)(st:Stmt)(f:Addr)(fd:FuncData):Prop where
 a:PySem.W.nsIn K mainGlobals x=some (some (.ref f))
 F:dJ K x x st f fd
structure MF (K:PySem.W.Frag)(C:Addr)(m q:Str)(st:Stmt)(f:Addr)(fd:FuncData):Prop where
 a:PySem.W.findIn K (.ref C) m=some (some (.ref f))
 i:PySem.W.isFn K (.ref f)=true
 F:dJ K m q st f fd
structure TD (K:PySem.W.Frag)(x:Str)(st:Stmt)(dT f:Addr)(fd:FuncData):Prop where
 a:PySem.W.nsIn K mainGlobals x=some (some (.ref f))
 F:aAG K dT x x st f fd
noncomputable def Wr (K:PySem.W.Frag)(l:List Str):Bool:=l.all fun x=>match PySem.W.nsIn K mainGlobals x with |some none=>true |_=>false
def Zb (mg:Str->Option Value):List Str->Prop
 | []=>True
 |x::r=>mg x=none/\Zb mg r
section
variable{P:Program}{w:World}{K:PySem.W.Frag}{mg:Str->Option Value}{base h:Heap}{x m q:Str}{st:Stmt}{f C:Addr}{fd:FuncData}{ps:List Str}{sp:Sp}{n:Nat}
theorem Xa(X:K.In h)(G:h.Ns mainGlobals mg):∀{l:List Str},Wr K l=true->Zb mg l
 | [],_=>trivial
 |y::r,e=>by
  have e':((match PySem.W.nsIn K mainGlobals y with |some none=>true |_=>false)&&Wr K r)=true:=e;rw[aGA]at e';refine⟨PySem.W.mg_none_of X G ?_,Xa X G e'.2⟩;have e1:=e'.1;revert e1;cases PySem.W.nsIn K mainGlobals y with
  |none=>intro z;cases z
  |some o=>cases o with
   |none=>intro _;rfl
   |some v=>intro z;cases z
theorem MF.mt(T:MF K C m q st f fd):cJ K C m f:=⟨T.a,T.i,T.F.kp⟩
theorem TF.cal(T:TF K x st f fd)(X:K.In h)(G:h.Ns mainGlobals mg)(g:aN P w K mg base bT n f fd ps sp)(b:Binds K fd ps []):Rc P w K mg base n x ps sp f fd:=⟨g,b,T.F.kp,PySem.W.mg_of X G T.a⟩
theorem aN.u{CX:Av}{m:Nat}(g:aN P w K mg base CX n f fd ps sp)(h:n<=m:=by omega):aN P w K mg base CX m f fd ps sp:=g.mono h
theorem vO{CX:Av}(_:aN P w K mg base CX n f fd ps sp)(b:Binds K fd ps []):Binds K fd ps []:=b
abbrev Y4 (x q:Str)(st:Stmt)(us:List Value)(r:List (Str×Value)):Prop:=∀(kV doc pm:Value) (an:Option Addr) (cdv ct:Value),bindArgs (PySem.W.fnOf x q (jX st) (iC st) (aH st) .none kV doc pm an cdv ct) ⟨us,[]⟩=pure r
variable{a:Str}
theorem dJ.bd1(F:dJ K x q st f fd)(h:∀u,Y4 x q st [u] [(a,u)]:=by intros;exact fun _ _ _ _ _ _=>rfl):Binds K fd [a] []:=F.binds fun _ _ _ _ _ _ us hl=>match us,hl with | [_],_=>h _ _ _ _ _ _ _
theorem dJ.bd2{b:Str}(F:dJ K x q st f fd)(h:∀u v,Y4 x q st [u,v] [(a,u),(b,v)]:=by intros;exact fun _ _ _ _ _ _=>rfl):Binds K fd [a,b] []:=F.binds fun _ _ _ _ _ _ us hl=>match us,hl with | [_,_],_=>h _ _ _ _ _ _ _ _
variable{c:Str}
theorem dJ.bd3{b:Str}(F:dJ K x q st f fd)(h:∀u v y,Y4 x q st [u,v,y] [(a,u),(b,v),(c,y)]:=by intros;exact fun _ _ _ _ _ _=>rfl):Binds K fd [a,b,c] []:=F.binds fun _ _ _ _ _ _ us hl=>match us,hl with | [_,_,_],_=>h _ _ _ _ _ _ _ _ _
theorem dJ.bd4{b d:Str}(F:dJ K x q st f fd)(h:∀u v y z,Y4 x q st [u,v,y,z] [(a,u),(b,v),(c,y),(d,z)]:=by intros;exact fun _ _ _ _ _ _=>rfl):Binds K fd [a,b,c,d] []:=F.binds fun _ _ _ _ _ _ us hl=>match us,hl with | [_,_,_,_],_=>h _ _ _ _ _ _ _ _ _ _
theorem dJ.bd5{b d e:Str}(F:dJ K x q st f fd)(h:∀u v y z t,Y4 x q st [u,v,y,z,t] [(a,u),(b,v),(c,y),(d,z),(e,t)]:=by intros;exact fun _ _ _ _ _ _=>rfl):Binds K fd [a,b,c,d,e] []:=F.binds fun _ _ _ _ _ _ us hl=>match us,hl with | [_,_,_,_,_],_=>h _ _ _ _ _ _ _ _ _ _ _
theorem Oa{CX:Av}{b:Nat}{sp:Nat->Sp}(z:∀vs H Q E,¬ sp 0 vs H Q E)(s:∀d,aN P w K mg base CX (b+d) f fd ps (sp d)->aN P w K mg base CX (b+d+1) f fd ps (sp (d+1))):∀d,aN P w K mg base CX (b+d) f fd ps (sp d)
 | 0=>⟨fun vs H Q E y=>absurd y (z vs H Q E),fun A outer s H args us vs Q E _ _ _ _ y=>absurd y (z vs H Q E)⟩
 |d+1=>s d (Oa z s d)
end
end L2
namespace K86
open PySem L2 TD TP TX Kn Rd PyProof.Rows
theorem SQ{l:W.OpenLaw}{w:World}{K:W.Frag}{h:Heap}{mg:Str->Option Value}{fa cR Pt f1 f2 f3 f4 f5 f6 f7 f8 f9 f10 f11 f12 f13 f14 f15 f16 f17 f18 f19 f20 f21 f22 f23 f24 f25 f26 f27 f28 f29 f30 f31 f32 f33 f34 f35 f36 f37 f38 f39 f40 f41 f42 f43 f44 f45 f46 f47 f48 f49 f50 f51 f52 f53 f54 f55 f56 f57 f58 f59 f60 f61 f62 f63 f64 f65 f66 f67 f68 f69 f70 f71 f72 f73 f74 f75 f76 f77 f78 f79 cSt cE cS z_ cFw cGr cLi cSp cTk cOp cPl cRd cPt:Addr}{g1 g2 g3 g4 g5 g6 g7 g8 g9 Zo Zj Zt Zy Zu Zh g16 Zx g18 g19 g20 g21 g22 g23 g24 g25 g26 g27 g28 g29 g30 g31 g32 g33 g34 g35 g36 g37 g38 g39 g40 g41 g42 g43 g44 g45 g46 g47 g48 g49 g50 g51 g52 g53 g54 g55 g56 g57 g58 g59 g60 g61 g62 g63 g64 g65 g66 g67 g68 g69 g70 g71 g72 g73 g74 g75 g76 g77 g78 g79:FuncData}(X:K.In h)(G:h.Ns mainGlobals mg)(hfa:mg "law" = some (.ref fa))
  (aD5:W.nsIn K mainGlobals "Stand" = some (some (.ref cSt)))
  (aEZ:W.nsIn K mainGlobals "End" = some (some (.ref cE)))
  (aD6:W.nsIn K mainGlobals "Stage" = some (some (.ref cS)))
  (aD7:W.nsIn K mainGlobals "NoBox" = some (some (.ref z_)))
  (aE0:W.nsIn K mainGlobals "Few" = some (some (.ref cFw)))
  (aDx:W.nsIn K mainGlobals "Groups" = some (some (.ref cGr)))
  (aDy:W.nsIn K mainGlobals "Listed" = some (some (.ref cLi)))
  (aEt:W.nsIn K mainGlobals "Stop" = some (some (.ref cSp)))
  (aEu:W.nsIn K mainGlobals "Take" = some (some (.ref cTk)))
  (aEv:W.nsIn K mainGlobals "Open" = some (some (.ref cOp)))
  (aEw:W.nsIn K mainGlobals "Plan" = some (some (.ref cPl)))
  (aDz:W.nsIn K mainGlobals "Reader" = some (some (.ref cRd)))
  (aDo:W.nsIn K mainGlobals "Pattern" = some (some (.ref cPt)))
  (T1:TF K "is_whole" (top 7) f1 g1)
  (T2:TF K "common_divisor" (top 8) f2 g2)
  (T3:TF K "common_multiple" (top 9) f3 g3)
  (T4:TF K "share" (top 10) f4 g4)
  (T5:TF K "whole" (top 11) f5 g5)
  (T6:TF K "below" (top 12) f6 g6)
  (T7:TF K "lesser" (top 13) f7 g7)
  (T8:TF K "rising" (top 17) f8 g8)
  (T9:TF K "in_form" (top 18) f9 g9)
  (T10:TF K "all_weights" (top 19) f10 Zo)
  (T11:TF K "capped" (top 20) f11 Zj)
  (T12:TF K "mixed" (top 21) f12 Zt)
  (T13:TF K "level_for" (top 22) f13 Zy)
  (T14:TF K "is_stand" (top 32) f14 Zu)
  (T15:TF K "is_stage_row" (top 33) f15 Zh)
  (T16:TF K "is_stage_rows" (top 34) f16 g16)
  (T17:TF K "is_numbers" (top 37) f17 Zx)
  (T18:TF K "write_whole" (top 51) f18 g18)
  (T19:TF K "write_wholes" (top 52) f19 g19)
  (T20:TF K "write_box" (top 53) f20 g20)
  (T21:TF K "write_boxes" (top 54) f21 g21)
  (T22:TF K "write_pattern" (top 55) f22 g22)
  (T23:TF K "write_plan" (top 56) f23 g23)
  (T24:TF K "read_row" (top 58) f24 g24)
  (T25:TF K "read_stand" (top 59) f25 g25)
  (T26:TF K "read_boxes" (top 60) f26 g26)
  (T27:TF K "read_box" (top 61) f27 g27)
  (T28:TF K "read_listed" (top 62) f28 g28)
  (T29:TF K "read_groups" (top 63) f29 g29)
  (T30:TF K "read_sort" (top 64) f30 g30)
  (T31:TF K "read_pattern" (top 65) f31 g31)
  (T32:TF K "read_number_of_box" (top 66) f32 g32)
  (T33:TF K "read_plans" (top 67) f33 g33)
  (T34:TF K "read_knot" (top 68) f34 g34)
  (T35:TF K "read_plan" (top 69) f35 g35)
  (T36:TF K "_law_cell_at" (top 71) f36 g36)
  (T37:TF K "_law_mixed" (top 72) f37 g37)
  (T38:TF K "_law_plain" (top 73) f38 g38)
  (T39:TF K "_law_same" (top 74) f39 g39)
  (T40:TF K "_law_row" (top 75) f40 g40)
  (T41:TF K "_law_box" (top 76) f41 g41)
  (T42:TF K "_law_plan" (top 77) f42 g42)
  (T43:TF K "_law_plan_written" (top 78) f43 g43)
  (T44:TF K "_law_sort" (top 79) f44 g44)
  (T45:TF K "_law_sort_written" (top 80) f45 g45)
  (T46:TF K "_law_numbers" (top 81) f46 g46)
  (T47:TF K "_law_written" (top 82) f47 g47)
  (T48:TF K "_law_boxes_good" (top 83) f48 g48)
  (T49:TF K "_law_good" (top 84) f49 g49)
  (T50:TF K "law" (top 85) f50 g50)
  (T51:MF K cSt "__init__" "Stand.__init__" (inClass (top 29) 0) f51 g51)
  (T52:MF K cSt "ends" "Stand.ends" (inClass (top 29) 1) f52 g52)
  (T53:MF K cSt "stages" "Stand.stages" (inClass (top 29) 2) f53 g53)
  (T54:MF K cSt "caps" "Stand.caps" (inClass (top 29) 4) f54 g54)
  (T55:MF K cE "__init__" "End.__init__" (inClass (top 30) 0) f55 g55)
  (T56:MF K cE "is_end" "End.is_end" (inClass (top 30) 1) f56 g56)
  (T57:MF K cE "told" "End.told" (inClass (top 30) 4) f57 g57)
  (T58:MF K cS "__init__" "Stage.__init__" (inClass (top 31) 0) f58 g58)
  (T59:MF K cS "is_end" "Stage.is_end" (inClass (top 31) 1) f59 g59)
  (T60:MF K cS "told" "Stage.told" (inClass (top 31) 6) f60 g60)
  (T61:MF K cFw "__init__" "Few.__init__" (inClass (top 39) 0) f61 g61)
  (T62:MF K cFw "told" "Few.told" (inClass (top 39) 2) f62 g62)
  (T63:MF K cGr "__init__" "Groups.__init__" (inClass (top 40) 0) f63 g63)
  (T64:MF K cGr "told" "Groups.told" (inClass (top 40) 2) f64 g64)
  (T65:MF K cLi "__init__" "Listed.__init__" (inClass (top 41) 0) f65 g65)
  (T66:MF K cLi "told" "Listed.told" (inClass (top 41) 2) f66 g66)
  (T67:MF K cSp "told" "Stop.told" (inClass (top 44) 0) f67 g67)
  (T68:MF K cTk "__init__" "Take.__init__" (inClass (top 45) 0) f68 g68)
  (T69:MF K cTk "told" "Take.told" (inClass (top 45) 1) f69 g69)
  (T70:MF K cOp "__init__" "Open.__init__" (inClass (top 46) 0) f70 g70)
  (T71:MF K cOp "told" "Open.told" (inClass (top 46) 1) f71 g71)
  (T72:MF K cRd "__init__" "Reader.__init__" (inClass (top 57) 0) f72 g72)
  (T73:MF K cRd "comes" "Reader.comes" (inClass (top 57) 1) f73 g73)
  (T74:MF K cRd "passes" "Reader.passes" (inClass (top 57) 2) f74 g74)
  (T75:MF K cRd "need" "Reader.need" (inClass (top 57) 3) f75 g75)
  (T76:MF K cRd "at_end" "Reader.at_end" (inClass (top 57) 4) f76 g76)
  (T77:MF K cRd "need_end" "Reader.need_end" (inClass (top 57) 5) f77 g77)
  (T78:MF K cRd "number" "Reader.number" (inClass (top 57) 6) f78 g78)
  (T79:MF K cRd "numbers" "Reader.numbers" (inClass (top 57) 7) f79 g79)
  (ck:TD.CK K ⟨cE,cS⟩)
  (ct:CT K ⟨cE,cS⟩)
  (mkE:W.makesIn K cE=true)
  (kcE:W.keepIn K (.ref cE)=true)
  (aEx:W.findIn K (.ref cE) "ends" = some (some (.ref f52)))
  (aDA:W.findIn K (.ref cE) "stages" = some (some (.ref f53)))
  (aEy:W.findIn K (.ref cE) "caps" = some (some (.ref f54)))
  (mkS:W.makesIn K cS=true)
  (kcS:W.keepIn K (.ref cS)=true)
  (aEz:W.findIn K (.ref cS) "ends" = some (some (.ref f52)))
  (aDB:W.findIn K (.ref cS) "stages" = some (some (.ref f53)))
  (aEA:W.findIn K (.ref cS) "caps" = some (some (.ref f54)))
  (aDu:Qf K cSt "__init__" f51)
  (xcl:JG K z_)
  (cn:CN K ⟨cE,cS⟩)
  (pt:Rg K ⟨cFw,cGr,cLi⟩)
  (kn:Kn.CK K ⟨cSp,cTk,cOp⟩ cPl)
  (MSp0:ZJ K cSp)
  (rk:zU K cRd)
  (mkFw:W.makesIn K cFw=true)
  (kcFw:W.keepIn K (.ref cFw)=true)
  (mkGr:W.makesIn K cGr=true)
  (kcGr:W.keepIn K (.ref cGr)=true)
  (mkLi:W.makesIn K cLi=true)
  (kcLi:W.keepIn K (.ref cLi)=true)
  (mkTk:W.makesIn K cTk=true)
  (kcTk:W.keepIn K (.ref cTk)=true)
  (mkOp:W.makesIn K cOp=true)
  (kcOp:W.keepIn K (.ref cOp)=true)
  (mkRd:W.makesIn K cRd=true)
  (kcRd:W.keepIn K (.ref cRd)=true)
  (nkF:W.findIn K (.ref cFw) "limit" = some none)
  (nkG:W.findIn K (.ref cGr) "groups" = some none)
  (nkM:W.findIn K (.ref cGr) "most" = some none)
  (nkS:W.findIn K (.ref cLi) "sets" = some none)
  (qET:W.kitOne K (.ref cE) (.ref cSt)=some true)
  (qST:W.kitOne K (.ref cS) (.ref cSt)=some true)
  (qFP:W.kitOne K (.ref cFw) (.ref cPt)=some true)
  (qGP:W.kitOne K (.ref cGr) (.ref cPt)=some true)
  (qLP:W.kitOne K (.ref cLi) (.ref cPt)=some true)
  (y_:Wr K ["abs","all","bool","int","isinstance","len","list","max","min","range","reversed","set","sorted","str","sum","tuple"]=true)
  {aBU:Tok} (aCH:W.nsIn K mainGlobals "MOST_WEIGHT" = some (some (.int 1000 aBU)))
  {W_:Tok} (aB7:W.nsIn K mainGlobals "MOST_STAGE_ROWS" = some (some (.int 4 W_)))
  {aBV:Tok} (aCI:W.nsIn K mainGlobals "MOST_STAGES" = some (some (.int 4 aBV)))
  {aBY:Tok} (aCQ:W.nsIn K mainGlobals "MOST_BOXES" = some (some (.int 6 aBY)))
  {aBZ:Tok} (aCR:W.nsIn K mainGlobals "MOST_KNOTS" = some (some (.int 40 aBZ)))
  {aB0:Tok} (aCS:W.nsIn K mainGlobals "MOST_WORTH" = some (some (.int 1000000000 aB0)))
  {aCh:Tok} (aC3:W.nsIn K mainGlobals "MOST_ENDS" = some (some (.int 12 aCh)))
  {aB1:Tok} (aCT:W.nsIn K mainGlobals "MOST_PRICE" = some (some (.int 1000000000 aB1)))
  {aCi:Tok} (aC4:W.nsIn K mainGlobals "MOST_SETS" = some (some (.int 64 aCi)))
  {aBp:Tok} (aCy:W.nsIn K mainGlobals "MOST_FIGURES" = some (some (.int 10 aBp)))
  {aCJ:Tok} (aDp:W.nsIn K mainGlobals "FIGURES" = some (some (.str "0123456789" aCJ)))
  (gcR:g8.code=.ref cR)
  (tb:W.tabIn K "rising" = some (cR,Pt)) (ch:W.codeHdIn K cR Pt=true) (np:K.lookup Pt=none)
  : ∃(fd:FuncData) (c P:Addr),(∀(s:Shared) (v:Value),BindsTo s fd ⟨[v],[]⟩ [("_law_script",v)])/\W.tabIn K "rising" = some (c,P)/\W.codeHdIn K c P=true/\K.lookup P=none/\∀base:Heap,K.In base->base.Ns mainGlobals mg->W.CodeHd base c P->base.BuiltinsAt mg P->aN l.prog w K mg base bT 94 fa fd ["_law_script"] (vY K P eU):=by
 obtain⟨c,rfl,rfl⟩:∃c:Cs,c.e=cE/\c.s=cS:=⟨⟨cE,cS⟩,rfl,rfl⟩
 replace ck:TD.CK K c:=ck;replace ct:CT K c:=ct;replace cn:CN K c:=cn;obtain⟨p,rfl,rfl,rfl⟩:∃p:Ff,p.f=cFw/\p.g=cGr/\p.l=cLi:=⟨⟨cFw,cGr,cLi⟩,rfl,rfl,rfl⟩
 replace pt:Rg K p:=pt;obtain⟨cl,rfl,rfl,rfl⟩:∃cl:Kn.Cl,cl.cS=cSp/\cl.cT=cTk/\cl.cO=cOp:=⟨⟨cSp,cTk,cOp⟩,rfl,rfl,rfl⟩
 replace kn:Kn.CK K cl cPl:=kn;have MSp:ZJ K cl.cS:=MSp0;cases hfa.symm.trans (W.mg_of X G T50.a);have⟨aCU,aCX,aAr,aBh,a_,i_,o_,aB8,aCY,m_,aB2,aDO,D_,u_,aCV,b_,_⟩:=Xa X G y_;have M_:=W.mg_of X G aD5;have aCW:=W.mg_of X G aEZ;have aBW:=W.mg_of X G aD6;have aAy:=W.mg_of X G aD7;have aD2:=W.mg_of X G aE0;have aCF:=W.mg_of X G aDx;have aCD:=W.mg_of X G aDy;have aCk:=W.mg_of X G aEt;have aCl:=W.mg_of X G aEu;have aDn:=W.mg_of X G aEv;have aDl:=W.mg_of X G aEw;have F_:=W.mg_of X G aDz;have aCm:=W.mg_of X G aDo;have aAb:=W.mg_of X G aCH;have aAc:RelV (.int 1000) (.int 1000 aBU):=⟨_,rfl⟩
 have gV:=W.mg_of X G aB7;have g_:RelV (.int 4) (.int 4 W_):=⟨_,rfl⟩
 have p_:=W.mg_of X G aCI;have q_:RelV (.int 4) (.int 4 aBV):=⟨_,rfl⟩
 have d_:=W.mg_of X G aCQ;have e_:RelV (.int 6) (.int 6 aBY):=⟨_,rfl⟩
 have aA3:=W.mg_of X G aCR;have aBd:RelV (.int 40) (.int 40 aBZ):=⟨_,rfl⟩
 have aAP:=W.mg_of X G aCS;have aAU:RelV (.int 1000000000) (.int 1000000000 aB0):=⟨_,rfl⟩
 have aBs:=W.mg_of X G aC3;have aBu:RelV (.int 12) (.int 12 aCh):=⟨_,rfl⟩
 have aAZ:=W.mg_of X G aCT;have aA2:RelV (.int 1000000000) (.int 1000000000 aB1):=⟨_,rfl⟩
 have X_:=W.mg_of X G aC4;have Y_:RelV (.int 64) (.int 64 aCi):=⟨_,rfl⟩
 have U_:=W.mg_of X G aCy;have V_:RelV (.int 10) (.int 10 aBp):=⟨_,rfl⟩
 have aCn:=W.mg_of X G aDp;have aCo:RelV (.str "0123456789") (.str "0123456789" aCJ):=⟨_,rfl⟩
 refine⟨g50,cR,Pt,fun s v=>?_,tb,ch,np,fun base _ _ hC hB=>?_⟩
 ·obtain⟨_,_,_,_,_,_,_,_,_,rfl,_⟩:=T50.F.ex;exact .of_eq rfl
 have R {CX n f g ps sp} (z:aN l.prog w K mg base CX n f g ps sp):=z;have ME:Mk K c.e f55:=⟨mkE,T55.a,T55.i,kcE⟩
 have MS:Mk K c.s f58:=⟨mkS,T58.a,T58.i,kcS⟩
 have aEB:cJ K c.e "ends" f52:=⟨aEx,T52.i,T52.F.kp⟩
 have aEC:cJ K c.s "ends" f52:=⟨aEz,T52.i,T52.F.kp⟩
 have aDC:cJ K c.e "stages" f53:=⟨aDA,T53.i,T53.F.kp⟩
 have aDD:cJ K c.s "stages" f53:=⟨aDB,T53.i,T53.F.kp⟩
 have aED:cJ K c.e "caps" f54:=⟨aEy,T54.i,T54.F.kp⟩
 have aEE:cJ K c.s "caps" f54:=⟨aEA,T54.i,T54.F.kp⟩
 have mt56:=T56.mt;have mt57:=T57.mt;have mt59:=T59.mt;have mt60:=T60.mt;have mt62:=T62.mt;have mt64:=T64.mt;have mt66:=T66.mt;have mt67:=T67.mt;have mt69:=T69.mt;have mt71:=T71.mt;have mt73:=T73.mt;have mt74:=T74.mt;have mt75:=T75.mt;have mt76:=T76.mt;have mt77:=T77.mt;have mt78:=T78.mt;have mt79:=T79.mt;have MFw:Mk K p.f f61:=⟨mkFw,T61.a,T61.i,kcFw⟩
 have MGr:Mk K p.g f63:=⟨mkGr,T63.a,T63.i,kcGr⟩
 have MLi:Mk K p.l f65:=⟨mkLi,T65.a,T65.i,kcLi⟩
 have MTk:Mk K cl.cT f68:=⟨mkTk,T68.a,T68.i,kcTk⟩
 have MOp:Mk K cl.cO f70:=⟨mkOp,T70.a,T70.i,kcOp⟩
 have MRd:Mk K cRd f72:=⟨mkRd,T72.a,T72.i,kcRd⟩
 have G1:=R (Fe (n:=0) T1.F a_ aAr aBh);have C1:=T1.cal X G G1 T1.F.bd3;have G2:=R (rR (n:=0) T2.F aCU);have C2:=T2.cal X G G2 T2.F.bd2;have G3:=R (qQ (n:=1) T3.F C2.l);have C3:=T3.cal X G G3 T3.F.bd1;have G4:=R (MT (n:=1) T4.F C2.l);have C4:=T4.cal X G G4 T4.F.bd2;have G5:=R (N5 (n:=0) T5.F );have C5:=T5.cal X G G5 T5.F.bd1;have G6:=R (Ly (n:=0) T6.F );have C6:=T6.cal X G G6 T6.F.bd2;have G7:=R (J9 (n:=1) T7.F C6.l);have C7:=T7.cal X G G7 T7.F.bd2;have G8:=R (JH (n:=0) T8.F gcR hC hB D_ aB8);have C8:=T8.cal X G G8 T8.F.bd1;have G9:=R (Gi (n:=1) T9.F C8.l C2.l o_);have C9:=T9.cal X G G9 T9.F.bd1;have G10:=R (xV (n:=0) T10.F aCV);have C10:=T10.cal X G G10 T10.F.bd1;have G11:=R (JK (n:=2) T11.F C9.l C7.l);have C11:=T11.cal X G G11 T11.F.bd2;have G12:=R (Ni (n:=2) T12.F C9.l C10.l C3.l);have C12:=T12.cal X G G12 T12.F.bd1;have G13:=R (Ay (n:=2) T13.F C4.l C10.l C3.l aB2);have C13:=T13.cal X G G13 T13.F.bd2;have G14:=R (Dy (n:=0) T14.F ck ct cn aCW aBW a_);have C14:=T14.cal X G G14 T14.F.bd1;have G15:=R (vW (n:=1) T15.F (c:=c) C14.l C1.l i_ a_ b_ aAb aAc);have C15:=T15.cal X G G15 T15.F.bd1;have G16:=R (tU (n:=2) T16.F (c:=c) C15.l aCX i_ a_ o_ gV g_);have C16:=T16.cal X G G16 T16.F.bd1;have G17:=R (yI (n:=1) T17.F (T1.cal X G (Ir G1) T1.F.bd3).l aCX i_ a_ o_);have C17:=T17.cal X G G17 T17.F.bd4;have G18:=R (wY (n:=0) T18.F u_ aCU);have C18:=T18.cal X G G18 T18.F.bd1;have G19:=R (vP (n:=1) T19.F C18.l);have C19:=T19.cal X G G19 T19.F.bd1;have G56:=R (yU (n:=0) T56.F (c:=c));have b56:=vO G56 T56.F.bd1;have G59:=R (vR (n:=0) T59.F (c:=c));have b59:=vO G59 T59.F.bd1;have b20:Binds K g20 ["stand"] []:=T20.F.bd1;have G20:=Oa (b:=2) (sp:=NQ c) (fun vs H Q E z=>by obtain⟨_,_,_,_,_,_,_,_,h,_⟩:=z;exact absurd h (aHs _)) (fun d z=>R (BL (n:=2+d) T20.F ck mt56 G56.u b56 mt59 G59.u b59 C18.l (T20.cal X G z b20).l)) 5;have C20:=T20.cal X G G20 b20;have G21:=R (xF (n:=7) T21.F (c:=c) C20.l);have C21:=T21.cal X G G21 T21.F.bd1;have G62:=R (DK (n:=0) T62.F pt.cf nkF);have b62:=vO G62 T62.F.bd1;have G64:=R (xP (n:=0) T64.F pt.cg nkG nkM);have b64:=vO G64 T64.F.bd1;have G66:=R (xR (n:=0) T66.F pt.cl nkS);have b66:=vO G66 T66.F.bd1;have G22:=R (uQ (n:=2) T22.F pt mt62 G62.u b62 mt64 G64.u b64 mt66 G66.u b66 C19.l C18.l);have C22:=T22.cal X G G22 T22.F.bd1;have b23:Binds K g23 ["plan"] []:=T23.F.bd1;have G23:=Oa (b:=2) (sp:=Oz cl) (fun vs H Q E z=>by obtain⟨_,_,_,_,_,_,pk,h,_⟩:=z;cases pk <;> omega) (fun d z=>R (yN (n:=2+d) T23.F kn aCk aCl (T23.cal X G z b23).l C18.l a_)) 41;have C23:=T23.cal X G G23 b23;have G76:=R (uF (n:=0) T76.F rk  i_);have b76:=vO G76 T76.F.bd1;have G78:=R (uG (n:=1) T78.F rk mt76 G76.u b76 aCn aCo aBh i_ U_ V_);have b78:=vO G78 T78.F.bd1;have G73:=R (vU (n:=0) T73.F rk  i_);have b73:=vO G73 T73.F.bd2;have G74:=R (uH (n:=1) T74.F rk mt73 G73.u b73 i_);have b74:=vO G74 T74.F.bd2;have G75:=R (xG (n:=2) T75.F rk mt74 G74.u b74);have b75:=vO G75 T75.F.bd2;have G51:=R (tK (n:=0) T51.F ck b_);have b51:=vO G51 T51.F.bd5;have G55:=R (vG (n:=1) T55.F ck M_ aDu G51.u b51 aAy xcl C5.l C1.l aAP aAU);have b55:=vO G55 T55.F.bd2;have G52:=R (yR (n:=0) T52.F ck);have b52:=vO G52 T52.F.bd1;have G53:=R (vH (n:=0) T53.F ck);have b53:=vO G53 T53.F.bd1;have G54:=R (yO (n:=0) T54.F ck o_);have b54:=vO G54 T54.F.bd1;have G58:=R (tG (n:=3) T58.F ck M_ aDu G51.u b51 ck.ce ck.cs aEB aEC G52.u b52 aDC aDD G53.u b53 aED aEE G54.u b54 aAy xcl C11.l C13.l C12.l C16.l C1.l b_ aB8 aCV p_ q_ aBs aBu aAZ aA2);have b58:=vO G58 T58.F.bd3;have b25:Binds K g25 ["reader","stages"] []:=T25.F.bd2;have b24:Binds K g24 ["reader","stages"] []:=T24.F.bd2;have G25:=QF (b:=5) (sp1:=Hc c cRd Pt eU) (sp2:=Nh c cRd Pt eU) (fun vs H Q E z=>by obtain⟨_,_,_,_,_,_,_,_,_,_,_,h,_⟩:=z;exact absurd h (aHs _))
  (fun d z=>R (Ed (n:=5+2*d) T24.F rk mt78 G78.u b78 mt75 G75.u b75 (T25.cal X G z b25).l ))
  (fun d z y=>R (yJ (n:=5+2*d+1) T25.F rk mt78 G78.u b78 mt74 G74.u b74 mt75 G75.u b75 ME G55 b55 aCW (by omega) MS G58 b58 aBW (by omega) (T24.cal X G y b24).l i_ gV g_)) 5
 have C25:=T25.cal X G G25 b25;have G77:=R (qY (n:=1) T77.F rk mt76 G76.u b76);have b77:=vO G77 T77.F.bd1;have G72:=R (qU (n:=0) T72.F rk  a_ u_);have b72:=vO G72 T72.F.bd2;have G26:=R (yF (n:=18) T26.F (c:=c) rk mt74 G74.u b74 mt77 G77.u b77 MRd G72 b72 F_ (by omega) C25.l i_ p_ q_ d_ e_);have C26:=T26.cal X G G26 T26.F.bd1;have G27:=R (EY (n:=19) T27.F (c:=c) C26.l i_);have C27:=T27.cal X G G27 T27.F.bd1;have G79:=R (rN (n:=3) T79.F rk mt78 G78.u b78 mt73 G73.u b73 mt75 G75.u b75);have b79:=vO G79 T79.F.bd1;have G65:=R (qW (n:=2) T65.F pt.cl nkS C17.l b_ D_ i_ aDO X_ Y_);have b65:=vO G65 T65.F.bd2;have G28:=R (xZ (n:=5) T28.F rk mt79 G79.u b79 pt MLi G65 b65 aCD (by omega) D_);have C28:=T28.cal X G G28 T28.F.bd1;have G63:=R (qO (n:=2) T63.F pt.cg nkG nkM C17.l b_ d_ e_);have b63:=vO G63 T63.F.bd3;have G29:=R (xU (n:=5) T29.F rk mt79 G79.u b79 mt75 G75.u b75 pt MGr G63 b63 aCF (by omega));have C29:=T29.cal X G G29 T29.F.bd1;have G61:=R (vM (n:=1) T61.F pt.cf nkF (T1.cal X G (Ir G1) T1.F.bd3).l d_ e_);have b61:=vO G61 T61.F.bd2;have G30:=R (BR (n:=7) T30.F rk mt78 G78.u b78 mt74 G74.u b74 mt75 G75.u b75 pt MFw G61 b61 aD2 (by omega) C28.l C29.l);have C30:=T30.cal X G G30 T30.F.bd1;have G31:=R (vJ (n:=9) T31.F (p:=p) rk mt77 G77.u b77 MRd G72 b72 F_ (by omega) C30.l);have C31:=T31.cal X G G31 T31.F.bd1;have G32:=R (oK (n:=3) T32.F rk mt78 G78.u b78 mt75 G75.u b75 d_ e_);have C32:=T32.cal X G G32 T32.F.bd1;have G68:=R (tX (n:=0) T68.F kn);have b68:=vO G68 T68.F.bd3;have G70:=R (uL (n:=0) T70.F kn b_);have b70:=vO G70 T70.F.bd3;have b34:Binds K g34 ["reader","knots"] []:=T34.F.bd2;have b33:Binds K g33 ["reader","knots"] []:=T33.F.bd2;have G34:=QF (b:=5) (sp1:=Ex cl cRd) (sp2:=Jz cl cRd) (fun vs H Q E z=>by obtain⟨_,_,_,_,_,_,_,_,_,dp,_,h,_⟩:=z;cases dp <;> omega)
  (fun d z=>R (yK (n:=5+2*d) T33.F rk mt74 G74.u b74 (T34.cal X G z b34).l i_ gV g_))
  (fun d z y=>R (Ax (n:=5+2*d+1) T34.F rk mt74 G74.u b74 mt75 G75.u b75 MSp aCk MTk G68 b68 aCl (by omega) MOp G70 b70 aDn (by omega) (T33.cal X G y b33).l C32.l (T34.cal X G z b34).l )) 41
 have C34:=T34.cal X G G34 b34;have G35:=R (BZ (n:=90) T35.F rk mt77 G77.u b77 MRd G72 b72 F_ (by omega) C34.l aA3 aBd);have C35:=T35.cal X G G35 T35.F.bd1;have G36:=R (vI (n:=0) T36.F i_);have C36:=T36.cal X G G36 T36.F.bd2;have G37:=R (yG (n:=0) T37.F );have C37:=T37.cal X G G37 T37.F.bd2;have b38:Binds K g38 ["_law_thing"] []:=T38.F.bd1;have G38:=Oa (b:=0) (sp:=fun d=>Nat.casesOn d Xl Je) (fun _ _ _ _ z=>z) (fun d z=>match d,z with
  | 0,z=>R (wN (n:=0) T38.F (T38.cal X G z b38).l a_ aAr aBh u_ o_ b_)
  |d+1,z=>R (yH (n:=0+(d+1)) T38.F (T38.cal X G z b38).l a_ aAr aBh u_ o_ b_)) 83
 have C38:=T38.cal X G (sp:=Je 82) G38 b38;have G39:=R (Bd (n:=84) T39.F C38.l);have C39:=T39.cal X G G39 T39.F.bd2;have G40:=R (Es (n:=1) T40.F C37.l m_);have C40:=T40.cal X G G40 T40.F.bd3;have b41:Binds K g41 ["_law_row_here","_law_deep","_law_most","_law_scale"] []:=T41.F.bd4;have G41:=Oa (b:=1) (sp:=Ie) (fun vs H Q E z=>by obtain⟨_,_,_,_,_,_,_,h,_⟩:=z;exact absurd h (aHs _)) (fun d z=>R (Ej (n:=1+d) T41.F (T41.cal X G z b41).l b_ m_ aCY)) 5;have C41:=T41.cal X G G41 b41;have b42:Binds K g42 ["_law_cell","_law_k","_law_deep","_law_most"] []:=T42.F.bd4;have G42:=Oa (b:=2) (sp:=Kl) (fun vs H Q E z=>by obtain⟨_,_,_,_,_,h1,h2,_⟩:=z;omega) (fun d z=>R (Cg (n:=2+d) T42.F (T42.cal X G z b42).l C37.l b_ m_)) 41;have C42:=T42.cal X G G42 b42;have b43:Binds K g43 ["_law_told"] []:=T43.F.bd1;have G43:=Oa (b:=1) (sp:=Hd) (fun vs H Q E z=>by obtain⟨_,_,_,_,_,_,pk,h,_⟩:=z;cases pk <;> omega) (fun d z=>R (oN (n:=1+d) T43.F (T43.cal X G z b43).l u_)) 41;have C43:=T43.cal X G G43 b43;have G44:=R (BP (n:=1) T44.F C37.l b_ m_);have C44:=T44.cal X G G44 T44.F.bd1;have G46:=R (vN (n:=0) T46.F u_);have C46:=T46.cal X G G46 T46.F.bd1;have G45:=R (pI (n:=1) T45.F C46.l u_);have C45:=T45.cal X G G45 T45.F.bd1;have b47:Binds K g47 ["_law_told"] []:=T47.F.bd1;have G47:=Oa (b:=1) (sp:=HX) (fun vs H Q E z=>by obtain⟨_,_,_,_,_,_,_,h,_⟩:=z;exact absurd h (aHs _)) (fun d z=>R (vL (n:=1+d) T47.F (T47.cal X G z b47).l u_)) 5;have C47:=T47.cal X G G47 b47;have G57:=R (Ef (n:=0) T57.F ck);have b57:=vO G57 T57.F.bd1;have b60:Binds K g60 ["self"] []:=T60.F.bd1;have G60:=Oa (b:=2) (sp:=N8 c) (fun vs H Q E z=>by obtain⟨_,_,_,_,_,_,_,h,_⟩:=z;exact absurd h (aHs _)) (fun d z=>R (yQ (n:=2+d) T60.F ck ck.ce ck.cs mt57 G57.u b57 mt60 z b60 b_)) 5;have G48:=R (qT (n:=85) T48.F ck ct M_ qET qST mt57 G57.u b57 mt60 G60.u b60 C26.l C21.l C39.l C20.l C27.l C47.l i_ a_ o_);have C48:=T48.cal X G G48 T48.F.bd1;have b67:Binds K g67 ["self"] []:=T67.F.bd1;have b69:Binds K g69 ["self"] []:=T69.F.bd1;have b71:Binds K g71 ["self"] []:=T71.F.bd1;have⟨G67,G69,G71⟩:=Dq (P:=l.prog) (w:=w) (mg:=mg) (base:=base) kn T67.F mt67 b67 T69.F mt69 b69 T71.F mt71 b71 b_ 40;have G49:=R (Ce (n:=92) T49.F (c:=c) pt aCm qFP qGP qLP mt62 G62.u b62 mt64 G64.u b64 mt66 G66.u b66 kn aDl mt67 G67.u b67 mt69 G69.u b69 mt71 G71.u b71 C23.l C43.l C22.l C45.l C39.l C35.l C42.l C37.l C31.l C44.l C48.l C41.l C40.l a_ m_);have C49:=T49.cal X G G49 T49.F.bd2;exact Vu (n:=93) T50.F C49.l C36.l m_ aB8 aCY i_
theorem walk{l:W.OpenLaw}{q:Program}{loose:List Str}{XP:(Str->Option Value)->Heap->Prop}{YP:World->Heap->Prop}{d d0:DefRec}{K:Params->W.Frag}(hn:l.most=some 63)(hdf:d.params.defaults=[])
  (h0:(recsOf q).find? (fun e=>e.name==("rising" : Str))=some d0)
  (hY:∀(w:World) (h:Heap),YP w h->(K w.params).In h)
  (F:∀(w:World) (mg:Str->Option Value) (fa:Addr) (h:Heap),(K w.params).In h->h.Ns mainGlobals mg->mg d.name=some (.ref fa) ->
   ∃(fd:FuncData) (c P:Addr),(∀(s:Shared) (u:Value),BindsTo s fd ⟨[u],[]⟩ [("_law_script",u)])/\W.tabIn (K w.params) "rising" = some (c,P)/\W.codeHdIn (K w.params) c P=true/\(K w.params).lookup P=none/\∀base:Heap,(K w.params).In base->base.Ns mainGlobals mg->W.CodeHd base c P->base.BuiltinsAt mg P->aN l.prog w (K w.params) mg base bT 94 fa fd ["_law_script"] (vY (K w.params) P eU)) :
  W.WalkO q loose XP YP l.row.toRowW d [] (fun f vs=>PySem.call f vs) :=
 L2.Nx (n:=63) (k:=94) (x:="_law_script") (x0:="rising") (CX:=fun _=>bT) (sp:=fun w P=>vY (K w.params) P eU) hn (by decide) hdf ⟨rfl,by decide,by decide,rfl⟩ h0 hY F (fun _ _ a P ns hl hP hS=>⟨a,ns,rfl,hS,hl,hP,fun _=>rfl⟩) fun _ _ _ _ _ z=>z
end K86
open PySem PySem.W PyProof.Rows
set_option maxRecDepth 100000 in
set_option maxHeartbeats 0 in
theorem PySem.Challenge.cw_lidprice_k86_whole_written_and_read_holds : PySem.Challenge.rw_lidprice_k86_whole_written_and_read.Holds := by
 w_on
 refine PySem.W.holds_law K86.Zc fun said=>?_;refine PySem.W.holds_open (N:=13066) (q:=K86K.vw) (loose:=[]) (Xt:=K86K.xtK) (XP:=PySem.W.XL K86K.vw [])
  (Yf:=PySem.W.Hook.obs (PySem.W.kHook K86K.zT K86K.XX K86K.Dz)) (Ya:=PySem.W.Hook.val (PySem.W.kHook K86K.zT K86K.XX K86K.Dz))
  (YP:=PySem.W.Hook.says (PySem.W.kHook K86K.zT K86K.XX K86K.Dz)) K86K.Yk
  (PySem.W.Hook.of _) (PySem.W.Hook.keeps _) (fun s e=>PySem.W.xl_of s (aIi.mp e).1) PySem.W.XL.keeps
  (by rfl) (by rfl) (by rfl) (fun s e=>PySem.W.recFacts_of (aIi.mp e).2)
  (by rfl) (by first |assumption |decide +kernel) (by decide +kernel)
  ⟨rfl,rfl,rfl,rfl,rfl,by decide +kernel⟩ ?hw ?hc
 case hw=>w_witness2
 k_fill
 refine K86.walk (l:=PySem.Challenge.rw_lidprice_k86_whole_written_and_read) rfl rfl rfl (fun w h Y=>by first |exact PySem.W.kIn_of Y |exact PySem.W.km_in_of Y) ?F
 case F =>
  intro w mg fa h KX G hmg;apply K86.SQ (cR:=123) (Pt:=121) KX G hmg
  all_goals first |k_is |kit_is |exact⟨by k_is,L2.Ln (by k_is) (by k_is) (by k_is)⟩ |exact⟨by k_is,by k_is,L2.Ln (by k_is) (by k_is) (by k_is)⟩ | (refine⟨⟨?_,?_,?_,?_⟩,⟨?_,?_,?_,?_⟩,?_,?_,?_,?_,?_,?_,?_,?_,?_,?_,?_⟩ <;> first |k_is |kit_is |kernel_rfl | (unfold L2.b8;kernel_rfl) |decide) | (refine⟨?_,?_,?_,?_,?_,?_,?_,?_,?_⟩ <;> first |k_is |kit_is |kernel_rfl | (unfold L2.b8;kernel_rfl) |decide) | (refine⟨?_,?_,?_,?_,?_⟩ <;> first |k_is |kit_is |kernel_rfl | (unfold L2.b8;kernel_rfl) |decide) | (refine⟨?_⟩ <;> first |k_is |kit_is |kernel_rfl | (unfold L2.b8;kernel_rfl) |decide) | (refine TD.CN.of ?_ ?_ <;> first |k_is |kit_is |kernel_rfl | (unfold L2.b8;kernel_rfl) |decide) | (refine⟨?_,?_,⟨?_,?_,?_,?_⟩,⟨?_,?_,?_,?_⟩,⟨?_,?_,?_,?_⟩,?_,?_,?_,?_,?_,?_,?_,?_,?_,?_,?_,?_⟩ <;> first |k_is |kit_is |kernel_rfl | (unfold L2.b8;kernel_rfl) |decide) | (refine⟨?_,?_,⟨⟨?_,?_,?_,?_⟩,?_,?_⟩,⟨⟨?_,?_,?_,?_⟩,?_,?_⟩,⟨⟨?_,?_,?_,?_⟩,?_,?_⟩,?_,?_,?_,?_,?_,?_,?_,?_,?_,?_,?_,?_,?_,?_,?_,?_⟩ <;> first |k_is |kit_is |kernel_rfl | (unfold L2.b8;kernel_rfl) |decide) | (refine⟨?_,?_,?_⟩ <;> first |k_is |kit_is |kernel_rfl | (unfold L2.b8;kernel_rfl) |decide) | (refine⟨⟨?_,?_,?_,?_⟩,?_,?_⟩ <;> first |k_is |kit_is |kernel_rfl | (unfold L2.b8;kernel_rfl) |decide) |kernel_rfl |exact rfl |decide
