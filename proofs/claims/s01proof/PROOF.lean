import PyProof.Rows.All
import Wide.All
import OpenK.AllK
import Wide.FinOn
import PyProof.EqAt
import PyProof.EqKinds
import PyProof.TupleCall
import Open.SpecLaws
import KE.OsGo
import HandS.ForSpec
import HandS.ExcInit
import KE.KExcInit
import HandS.ForMost
import HandS.Codes
import HandS.IsInst
import HandS.CallLocal
import HandS.SetFor
import HandS.Zip
import HandS.Evl
import HandS.Steps
import HandS.Walk
import PyFlatLaws
import HandS.HeadHook1
import PySem.Challenge.RW_partedwordsdesk_s01_answers
set_option Elab.async false
set_option linter.all false
set_option maxRecDepth 100000
set_option maxHeartbeats 2000000
/-! The program's own error Fault(code, place), over Exception: made, raised, its two fields read in the handler. -/
namespace FltX
open PySem PySem.W PySem.Calls PyProof.Rows PySem.HandSPX
def argsOf (p1 p2 p3 : Pos) : Arguments := { posonlyargs := [], args := [{ arg := "self", annotation := none, pos := p1 }, { arg := "code", annotation := none, pos := p2 }, { arg := "place", annotation := none, pos := p3 }], vararg := none, kwonlyargs := [], kw_defaults := [], kwarg := none, defaults := [] }
def bodyOf (q1 q2 q3 q4 q5 q6 q7 q8 : Pos) : List Stmt := [.Assign [.Attribute (.Name "self" q1) "code" q2] (.Name "code" q3) q4, .Assign [.Attribute (.Name "self" q5) "place" q6] (.Name "place" q7) q8]
def scopeOf : Scope := { kind := .function, names := [(PySem.Str.ofString "self", .local), (PySem.Str.ofString "code", .local), (PySem.Str.ofString "place", .local)], isGenerator := false, isCoroutine := false, more := [] }
abbrev exTail : List Value := [.type "Exception", .type "BaseException", .type "object"]
/-- what the written part says of Fault, at C, and of its __init__, at fI -/
structure FltTxt (K : Frag) (mg : Str → Option Value) (C fI : Addr) : Prop where
  gC : mg "Fault" = some (.ref C)
  cls : ∃ nm q N bs sn sub ab col dd k0 k1 k2 k3 k5, K.lookup C = some (excClassObj nm q C N bs exTail true sn sub ab col dd k0 k1 k2 k3 k5 "Exception.__new__")
  sa : findIn K (.ref C) "__setattr__" = some (some (.builtin "object.__setattr__"))
  ga : findIn K (.ref C) "__getattribute__" = some (some (.builtin "BaseException.__getattribute__"))
  gg : findIn K (.ref C) "__getattr__" = some none
  noC : findIn K (.ref C) "code" = some none
  noP : findIn K (.ref C) "place" = some none
  iC : findIn K (.ref C) "__init__" = some (some (.ref fI))
  tC : typeIn K (.ref fI) = some (.type "function")
  kC : keepIn K (.ref C) = true
  exC : subIn K (.ref C) (.type "BaseException") = some true
  tyC : typeIn K (.ref C) = some (.type "type")
  hdC : hasDictIn K C = true
  te : exmOne K (.ref C) (.ref C) = some true
  fn : ∃ (oc : Value) (od : Option Addr) (doc pm : Value) (an : Option Addr) (cdv ct : Value) (osl : Array (Option Value)) (p1 p2 p3 q1 q2 q3 q4 q5 q6 q7 q8 : Pos),
    K.lookup fI = some ⟨oc, od, .func (fnOf "__init__" "Fault.__init__" (argsOf p1 p2 p3) (bodyOf q1 q2 q3 q4 q5 q6 q7 q8) scopeOf .none .none doc pm an cdv ct), osl⟩ ∧ codeIn K cdv "Fault.__init__" = true

/-- what __init__ leaves of a fresh exception at x -/
structure InitEnd (h h' : Heap) (x C dx t1 : Addr) (v1 v2 : Value) : Prop where
  keep : ∀ b o, b ≠ x → h.get? b = some o → h'.get? b = some o
  obj : h'.get? x = some { cls := .ref C, dict := some dx, data := .fields #[.ref t1, .none, .none, .none, .bool false, .none] }
  dbig : h.objs.size ≤ dx
  dne : dx ≠ x
  ns : h'.Ns1 dx (fun y => if y = "place" then some v2 else if y = "code" then some v1 else none)
/-- a made Fault -/
structure FaultMade (h h' : Heap) (e C d : Addr) (v1 v2 : Value) : Prop where
  keep : ∀ b o, h.get? b = some o → h'.get? b = some o
  new : h.objs.size ≤ e
  obj : ∃ oe vs, h'.get? e = some oe ∧ oe.cls = .ref C ∧ oe.dict = some d ∧ oe.data = .fields vs ∧ vs[1]? = some .none
  dbig : h.objs.size ≤ d
  dne : d ≠ e
  ns : h'.Ns1 d (fun y => if y = "place" then some v2 else if y = "code" then some v1 else none)
section
open Builtin Builtin.ObjectAttr
variable {prog : Program} {w : World} {A : Around} {E : Value → Shared → Prop} {R : Result → Shared → Prop} {hp : Heap} {g : Array GenState} {d : Drawn} {t : Nat} {os : OsState} {K : Frag} {C : Addr}
theorem over_of {nm q : Str} {N : Addr} {bs : List Value} {sn : List Str} {sub : List Value} {ab : Bool} {col : Option Bool} {dd : Option Addr} {k0 k1 k2 k3 k5 : Option Value}
    (hC : K.lookup C = some (excClassObj nm q C N bs exTail true sn sub ab col dd k0 k1 k2 k3 k5 "Exception.__new__")) : excOver K C exTail = true := by
  unfold excOver clsIn
  rw [hC]
  show (C == C && excTail exTail exTail) = true
  rw [beq_self_eq_true]
  rfl
theorem taker_none {name : Str} (h : findIn K (.ref C) name = some none) : takerIn K C name = some none := by
  unfold takerIn
  rw [h]
  rfl
theorem flt_first {name : Str} {tk : Tok} {v : Value} {x : Addr} {fv : Array Value} {cd : ClassData} (X : K.In hp) (hx : hp.get? x = some { cls := .ref C, data := .fields fv }) (ov : excOver K C exTail = true) (hcd : clsIn K C = some cd) (hh : cd.hasDict = true) (ha : findIn K (.ref C) name = some none)
    (hq : ∀ h' tk' dx, (∀ b o, b ≠ x → hp.get? b = some o → h'.get? b = some o) → hp.objs.size ≤ dx → dx ≠ x → h'.get? x = some { cls := .ref C, dict := some dx, data := .fields fv } → h'.Ns1 dx (fun y => if y = name then some v else none) → R (.ok (.ret .none)) ⟨h', g, d, tk', os⟩) :
    codeAny (model prog w) A (.call (.builtin "object.__setattr__") ⟨[.ref x, .str name tk, v], []⟩) R ⟨hp, g, d, t, os⟩ := by
  have lx : x ≠ hp.objs.size := Nat.ne_of_lt (Heap.lt_size hx)
  refine osa_openX (od := none) (ox := { cls := .ref C, data := .fields fv }) F.store_Exception X ⟨hx, rfl, rfl, trivial⟩ ov (taker_none ha) fun b => ?_
  have lc : Looks (model prog w) hp (classData C) cd := looks_clsIn X hcd
  obtain ⟨nm, bs, mro, ns, qn, hd, sn, sb, ab, col, del⟩ := cd
  dsimp only at hh
  subst hh
  show wpAny _ _ (storeInOwnDict (.ref x) (.ref C) (.str name tk) name v b) _ _ _
  unfold storeInOwnDict ownDictForStores
  repeat (first | with_reducible refine lc.at ?_ | with_reducible refine store_in_new ?_ ?_ | with_reducible refine wpAny_loadPart_at hx ?_ | wp_step)
  · exact ⟨_, #[], _, (Heap.get?_update_ne _ _ _ _ lx.symm).trans (Heap.get?_push_at rfl rfl), rfl, fun e he => absurd he (by simp), fun _ => rfl⟩
  · intro h' tk' nsD but
    have hx1 : (hp.push { cls := .type "dict", data := .dict #[] }).get? x = some { cls := .ref C, data := .fields fv } := Heap.get?_push_of_some _ hx
    refine hq h' tk' hp.objs.size (fun c o hc ho => ?_) (Nat.le_refl _) lx.symm ?_ nsD
    · have q1 := Heap.get?_update_ne (h := hp.push { cls := .type "dict", data := .dict #[] }) (a := x) (b := c) (f := fun o => { o with dict := some hp.objs.size })
      exact (but.2 c (Nat.ne_of_lt (Heap.lt_size ho))).trans ((Heap.get?_update_ne _ _ _ _ hc).trans (Heap.get?_push_of_some _ ho))
    · exact (but.2 x lx).trans (Heap.get?_update_self _ hx1 rfl)
theorem flt_later {name : Str} {tk : Tok} {v : Value} {x dx : Addr} {fv : Array Value} {cd : ClassData} {m0 : Str → Option Value} {nl : List Str} (X : K.In hp) (hx : hp.get? x = some { cls := .ref C, dict := some dx, data := .fields fv }) (hns : hp.Ns1 dx m0) (hw : PySem.Within m0 nl) (hz : nl.length ≤ 1000)
    (ov : excOver K C exTail = true) (hcd : clsIn K C = some cd) (hh : cd.hasDict = true) (ha : findIn K (.ref C) name = some none)
    (hq : ∀ h' tk', (∀ b o, b ≠ dx → hp.get? b = some o → h'.get? b = some o) → h'.Ns1 dx (fun y => if y = name then some v else m0 y) → R (.ok (.ret .none)) ⟨h', g, d, tk', os⟩) :
    codeAny (model prog w) A (.call (.builtin "object.__setattr__") ⟨[.ref x, .str name tk, v], []⟩) R ⟨hp, g, d, t, os⟩ := by
  obtain ⟨oD, _, _, hoD, _, _⟩ := hns.count hw
  refine osa_openX (od := some oD) (ox := { cls := .ref C, dict := some dx, data := .fields fv }) F.store_Exception X ⟨hx, rfl, rfl, hoD⟩ ov (taker_none ha) fun b => ?_
  have lc : Looks (model prog w) hp (classData C) cd := looks_clsIn X hcd
  obtain ⟨nm, bs, mro, ns, qn, hd, sn, sb, ab, col, del⟩ := cd
  dsimp only at hh
  subst hh
  show wpAny _ _ (storeInOwnDict (.ref x) (.ref C) (.str name tk) name v b) _ _ _
  unfold storeInOwnDict ownDictForStores
  repeat (first | with_reducible refine lc.at ?_ | with_reducible refine PySem.OEX.store_in_old hns hw hz ?_ | with_reducible refine wpAny_loadPart_at hx ?_ | wp_step)
  intro h' tk' nsD but
  exact hq h' tk' (fun c o hc ho => (but.2 c hc).trans ho) nsD
end
section
variable {prog : Program} {w : World} {A : Around} {E : Value → Shared → Prop} {R : Result → Shared → Prop} {s : Shared} {K : Frag} {mg : Str → Option Value} {C fI : Addr}
theorem some_size (vs : List Value) (h : vs.length ≤ 16) : vs.length ≤ sizeLine := by
  rw [sizeLine_eq]
  omega
theorem local_at {M : Model} {name : Str} {scope : Scope} {L a : Addr} {cd : Value} {m : Str → Option Value} {x : Str} {pos : Pos} {v : Value} {Q : Value → Shared → Prop} (hn : s.heap.Ns L m) (hv : m x = some v) (h : Q v s)
    (hk : scope.kind = .function := by rfl) (hl : (envOfC name scope L a cd).kindOf x = some .local := by rfl) (hd : (x == ("__debug__" : Str)) = false := by decide) :
    wpAny M A (eval (.Name x pos) (envOfC name scope L a cd)) Q E s := wpAny_Name (wpAny_loadName_local hk hl hn hv h) hd
theorem flt_init (T : FltTxt K mg C fI) {x t0 : Addr} {v1 v2 : Value} (X : K.In s.heap) (hlim : s.heap.NoLimit) (hx : s.heap.get? x = some (excO C t0)) (hnx : K.lookup x = none) (hroom : A.depth < recursionLimit)
    (hq : ∀ h' tk dx, InitEnd s.heap h' x C dx t0 v1 v2 → R (.ok (.ret .none)) { s with heap := h', toks := tk }) :
    codeAny (model prog w) A (.call (.ref fI) ⟨[.ref x, v1, v2], []⟩) R s := by
  obtain ⟨oc, od, doc, pm, an, cdv, ct, osl, p1, p2, p3, q1, q2, q3, q4, q5, q6, q7, q8, ho, hcd⟩ := T.fn
  obtain ⟨nm, q, N, bs, sn, sub, ab, col, dd, k0, k1, k2, k3, k5, hC⟩ := T.cls
  have ov := over_of hC
  have hcl : clsIn K C = some { name := nm, bases := bs, mro := .ref C :: exTail, ns := N, qualname := q, hasDict := true, slotNames := sn, subclasses := sub, abstract := ab, collection := col, hasDel := false } := by unfold clsIn; rw [hC] <;> rfl
  refine Att.call_fn (binds := [("self", .ref x), ("code", v1), ("place", v2)]) X hlim ho hcd hroom (BindsTo.of_eq (by first | rfl | with_unfolding_all rfl)) (by first | rfl | decide | with_unfolding_all rfl) (fun s₁ IC => ?_) rfl rfl rfl
  obtain ⟨h₁, tk₁, rfl⟩ := IC.toInCall.same
  have k : ∀ b o, s.heap.get? b = some o → h₁.get? b = some o := IC.toInCall.keep
  have hn := IC.toInCall.ns
  have hxL : s.heap.objs.size ≠ x := Nat.ne_of_gt (Heap.lt_size hx)
  have X₁ : K.In h₁ := X.keeps k
  have hx₁ := k _ _ hx
  have z : s.heap.objs.size < h₁.objs.size := hn.lt
  -- self.code = code
  show wpAny _ _ (execs _ _) _ _ _
  refine wpAny_execs_cons (plainObj_wpAny_Assign_Attribute ?_)
  refine local_at (v := v1) hn (by first | rfl | with_unfolding_all rfl | kernel_rfl) (local_at (v := .ref x) hn (by first | rfl | with_unfolding_all rfl | kernel_rfl) ?_)
  refine set_plain X₁ (ox := excO C t0) (od := none) ⟨hx₁, rfl, rfl, trivial⟩ T.sa ?_
  refine flt_first X₁ hx₁ ov hcl rfl T.noC (fun h₃ tk₃ dx k₃ dn dne hx₃ hn₃ => ?_)
  -- self.place = place
  have hnL := hn.at fun o e => k₃ _ o hxL e
  have X₃ : K.In h₃ := fun a o e => k₃ a o (fun y => by rw [y, hnx] at e; cases e) (X₁ a o e)
  show wpAny _ _ (execs _ _) _ _ _
  refine wpAny_execs_cons (plainObj_wpAny_Assign_Attribute ?_)
  refine local_at (v := v2) hnL (by first | rfl | with_unfolding_all rfl | kernel_rfl) (local_at (v := .ref x) hnL (by first | rfl | with_unfolding_all rfl | kernel_rfl) ?_)
  obtain ⟨oD, _, _, hoD, _, _⟩ := hn₃.count (Within.cons ("code" : Str) v1 Within.nil)
  refine set_plain X₃ (ox := { cls := .ref C, dict := some dx, data := .fields #[.ref t0, .none, .none, .none, .bool false, .none] }) (od := some oD) ⟨hx₃, rfl, rfl, hoD⟩ T.sa ?_
  refine flt_later X₃ hx₃ hn₃ (Within.cons ("code" : Str) v1 Within.nil) (by decide) ov hcl rfl T.noP (fun h₄ tk₄ k₄ hn₄ => ?_)
  show wpAny _ _ (execs _ _) _ _ _
  have old : ∀ b o, b ≠ x → s.heap.get? b = some o → h₄.get? b = some o := fun b o hb e => k₄ b o (Nat.ne_of_lt (Nat.lt_of_lt_of_le (Nat.lt_trans (Heap.lt_size e) z) dn)) (k₃ b o hb (k b o e))
  exact wpAny_execs_nil (hq h₄ tk₄ dx ⟨old, k₄ x _ (Ne.symm dne) hx₃, Nat.le_of_lt (Nat.lt_of_lt_of_le z dn), dne, hn₄⟩)
theorem flt_made (T : FltTxt K mg C fI) {v1 v2 : Value} (X : K.In s.heap) (hlim : s.heap.NoLimit) (hroom : A.depth + 1 < recursionLimit)
    (hq : ∀ h' tk e d, FaultMade s.heap h' e C d v1 v2 → R (.ok (.ret (.ref e))) { s with heap := h', toks := tk }) :
    codeAny (model prog w) A (.call (.ref C) ⟨[v1, v2], []⟩) R s := by
  obtain ⟨nm, q, N, bs, sn, sub, ab, col, dd, k0, k1, k2, k3, k5, hC⟩ := T.cls
  obtain ⟨hp, g, dr, tk, os⟩ := s
  have k : ∀ b o, hp.get? b = some o → ((hp.push (kdv_tup [v1, v2])).push (excO C hp.objs.size)).get? b = some o := fun b o e => Heap.get?_push_of_some _ (Heap.get?_push_of_some _ e)
  have hget : ((hp.push (kdv_tup [v1, v2])).push (excO C hp.objs.size)).get? (hp.objs.size + 1) = some (excO C hp.objs.size) := by heap_get
  have hnx : K.lookup (hp.objs.size + 1) = none := by
    cases e : K.lookup (hp.objs.size + 1) with
    | none => rfl
    | some o => exact absurd (Nat.lt_of_succ_lt (Heap.lt_size (show hp.get? (hp.objs.size + 1) = some o from X _ _ e))) (Nat.lt_irrefl _)
  refine call_own F.excBase_Exception (fun X => rfl) (X _ _ hC) (looks_findIn X T.iC) (fun self => bind_fn X self T.tC) (some_size [v1, v2] (by show 2 ≤ 16; decide)) ?_
  refine flt_init (s := ⟨(hp.push (kdv_tup [v1, v2])).push (excO C hp.objs.size), g, dr, tk, os⟩) T (X.keeps k) (hlim.keeps k) hget hnx (by exact hroom) fun h' tk' dx ⟨k', hx, dn, dne, hns⟩ => ?_
  have old : ∀ b o, hp.get? b = some o → h'.get? b = some o := fun b o e => k' b o (Nat.ne_of_lt (Nat.lt_succ_of_lt (Heap.lt_size e))) (k b o e)
  have z : hp.objs.size + 1 + 1 ≤ dx := by
    have q := dn
    rw [Heap.size_push, Heap.size_push] at q
    exact q
  exact ⟨rfl, hq h' tk' (hp.objs.size + 1) dx ⟨old, Nat.le_succ _, ⟨_, _, hx, rfl, rfl, rfl, rfl⟩, Nat.le_trans (Nat.le_trans (Nat.le_succ _) (Nat.le_succ _)) z, dne, hns⟩⟩
end
end FltX

namespace FltX
open PySem PySem.Spec PyProof.Rows L2
/-- the two fields of a Fault -/
def flds (x y : V) : List (Str × V) := [(("code" : Str), x), (("place" : Str), y)]
theorem flds_code (x y : V) : List.lookup ("code" : Str) (flds x y) = some x := by simp [flds, List.lookup]
theorem flds_place (x y : V) : List.lookup ("place" : Str) (flds x y) = some y := by
  have e : (("place" : Str) == ("code" : Str)) = false := by decide +kernel
  simp [flds, List.lookup, e]
theorem flds_rel {x y : V} {v1 v2 : Value} (r1 : RelV x v1) (r2 : RelV y v2) (f : Str) : RelO (List.lookup f (flds x y)) (if f = "place" then some v2 else if f = "code" then some v1 else none) := by
  by_cases hp : f = "place"
  · subst hp
    rw [if_pos rfl, flds_place]
    exact r2
  · rw [if_neg hp]
    by_cases hc : f = "code"
    · subst hc
      rw [if_pos rfl, flds_code]
      exact r1
    · rw [if_neg hc]
      have q1 : (f == ("code" : Str)) = false := by simpa using hc
      have q2 : (f == ("place" : Str)) = false := by simpa using hp
      have q3 : List.lookup f (flds x y) = none := by simp [flds, List.lookup, q1, q2]
      rw [q3]
      trivial
section
variable {X : Cx} {C fI : Addr}
/-- Fault(a, b) -/
def tMkF (C : Addr) (ta : TA) : L2.St → Hp → XK → Prop := fun σ H Q => ta σ H fun vs H1 => ∃ x y, vs = [x, y] ∧ ∀ d, H1 d = none → Q (.ref C) (some d) (upd H1 d (.xd (flds x y)))
theorem pmk_flt {a b : Expr} {ta : TA} {p pos : Pos} {k : Nat} (T : FltTxt X.K X.mg C fI) (hr : Room k X.A) (ha : PA X [a, b] ta) (hg : Gl X "Fault" := by rfl)
    (he : starEach [a, b] X.env = (false, eval a X.env) :: starEach [b] X.env := by rfl) (hpl : (backTo pos (starEach [b] X.env)).any (·.1) = false := by rfl) :
    PMk X (.Call (.Name "Fault" p) [a, b] [] pos) (tMkF C ta) := by
  intro pins s σ H Q I h
  refine wpAny_Call_Name_kw (ld_glob I hg T.gC ?_)
  refine PySem.W.callWith_K (h₀ := X.base) I.ok.mod.kin T.kC (thn (ha.run pos pins s σ H _ I h) fun us s1 hh => ?_) he hpl
  obtain ⟨vs, H1, I1, r1, v, v2, ev, q1⟩ := hh
  subst ev
  refine ⟨I1.kIn, ?_⟩
  obtain ⟨u1, u2, rfl, ra, rb⟩ := vals2 r1
  show wpAny _ _ (call (.ref C) [u1, u2]) _ _ _
  have hlim := I1.nolimit
  obtain ⟨hp, g, dr, tk, os⟩ := s1
  refine wpAny_call (flt_made T I1.kIn hlim (by have := hr.dp; omega) fun h' tk' e d M => ?_)
  show MkP X pins σ Q (.ref e) ⟨h', g, dr, tk', os⟩
  obtain ⟨oe, fv, hoe, hc, hd, hdat, h1⟩ := M.obj
  have hns := M.ns
  obtain ⟨G', g1, g2⟩ := restrict h' fun b => decide (b ≠ e)
  have gk : ∀ b, b ≠ e → G'.get? b = h'.get? b := fun b hb => g1 b (decide_eq_true hb)
  have ge : G'.get? e = none := g2 e (by simp)
  have old : ∀ b o, hp.get? b = some o → G'.get? b = some o := fun b o q => (gk b (Nat.ne_of_lt (Nat.lt_of_lt_of_le (Heap.lt_size q) M.new))).trans (M.keep b o q)
  have ob : ObjOk X.prog X.w (upd H1 d (.xd (flds v v2))) G' d (.xd (flds v v2)) := ⟨_, hns.at (fun o q => (gk d M.dne).trans q), fun f => flds_rel ra rb f⟩
  have J : Inv X pins σ (upd H1 d (.xd (flds v v2))) ⟨G', g, dr, tk', os⟩ := I1.laid (t' := tk') old M.dbig ob
  refine ⟨e, oe, fv, ⟨G', g, dr, tk', os⟩, _, .ref C, some d, rfl, J, fun b o q => ?_, ge, hoe, ⟨hc, hd⟩, hdat, h1, ?_, rfl, I1.bare, raises_own T.exC T.tyC, q1 d (I1.hok.fresh M.dbig)⟩
  · by_cases hb : b = e
    · have q' : G'.get? b = some o := q
      rw [hb, ge] at q'
      cases q'
    · exact (gk b hb).symm.trans q
  · rw [upd_ne (Ne.symm M.dne)]
    exact I1.hok.fresh M.new
/-- raise Fault(a, b) -/
def tRaiseF (C : Addr) (W : WX) (ta : TA) : TS := fun _ σ H => tMkF C ta σ H fun cls d H' => W cls d σ H'
theorem ps_raiseF {a b : Expr} {ta : TA} {W : WX} {p pos pos2 : Pos} {k : Nat} (hc : X.calm = true) (T : FltTxt X.K X.mg C fI) (hr : Room k X.A) (tk : Takes X W) (ha : PA X [a, b] ta) (hg : Gl X "Fault" := by rfl)
    (he : starEach [a, b] X.env = (false, eval a X.env) :: starEach [b] X.env := by rfl) (hpl : (backTo pos (starEach [b] X.env)).any (·.1) = false := by rfl) :
    PS X (.Raise (some (.Call (.Name "Fault" p) [a, b] [] pos)) none pos2) (tRaiseF C W ta) := ps_raise hc tk (pmk_flt T hr ha hg he hpl)
/-- fault.f, fault the exception that the suite holds (at a; its class cls, its dict d) -/
def tByF (C : Addr) (f : Str) (a : Addr) (cls : Value) (d : Option Addr) (te : TE) : TE := fun σ H Q => te σ H fun x H1 => x = .ref a ∧ cls = .ref C ∧ ∃ (dd : Addr) (fs : List (Str × V)) (v : V), d = some dd ∧ H1 dd = some (.xd fs) ∧ fs.lookup f = some v ∧ Q v H1
theorem pe_byF {f : Str} {a : Addr} {oe : Obj} {cls : Value} {d : Option Addr} {pn : List (Addr × Obj)} {e : Expr} {te : TE} {pos : Pos} (T : FltTxt X.K X.mg C fI) (no : PySem.W.findIn X.K (.ref C) f = some none) (hz : Zc cls d oe) (hf : ∃ vs, oe.data = .fields vs) (he : PE (X.suite a ((a, oe) :: pn)) e te)
    (hb : attributeBase e f X.env (eval e X.env) = eval e X.env := by rfl) :
    PE (X.suite a ((a, oe) :: pn)) (.Attribute e f pos) (tByF C f a cls d te) := by
  refine ⟨fun pins s σ H Q I h => ?_⟩
  refine attr_of hb (thn (he.run pins s σ H _ I h) fun u s1 hh => ?_)
  obtain ⟨x, H1, I1, rx, ex, ec, dd, fs, v, ed, ea, l, q⟩ := hh
  subst ex
  obtain rfl : u = Value.ref a := rx
  subst ec
  subst ed
  obtain ⟨ha, _⟩ := I1.pin (a, oe) (List.mem_append_left _ List.mem_cons_self)
  obtain ⟨vs, hd⟩ := hf
  have hx : ObjOk X.prog X.w H1 s1.heap dd (.xd fs) := I1.hok dd _ ea
  obtain ⟨mA, hns, hr⟩ := hx
  obtain ⟨od, ho, hl⟩ := lookIn_ns hns
  obtain ⟨u, hu, ru⟩ := RelO.some_of (v := v) (o := mA f) (by rw [← l]; exact hr f)
  have J : PySem.W.InstAt s1.heap a oe C (some od) := ⟨ha, hz.1, by unfold PySem.W.notCls; rw [hd] <;> rfl, by rw [hz.2]; exact ho⟩
  exact HandSPX.exc_get I1.kIn J T.ga T.gg T.exC (PySem.W.findObj_own T.hdC no rfl (by rw [hl, hu])) (handed_of ru) ⟨v, H1, I1.tok _, ru, q⟩
end
end FltX
set_option Elab.async false
set_option linter.all false
set_option maxRecDepth 100000
set_option maxHeartbeats 2000000
/-! The program's text by names; what its top has written. Printed by tools/gen_base.py. -/
namespace Pw
open PySem PySem.Spec PyProof.Rows L2
def top (i : Nat) : Stmt := PySem.Challenge.pw_partedwordsdesk_s01_answers.main.body.getD i (.Pass ⟨0, 0, 0, 0⟩)
abbrev s_Word_init : Stmt := inClass (top 7) 0
theorem sc_Word_init : FnScope ["self", "chunk", "letters", "gaps"] ["self", "chunk", "letters", "gaps"] (defScope s_Word_init) := ⟨rfl, rfl, rfl, by decide +kernel, rfl, by decide +kernel, by decide +kernel⟩
abbrev s_Pattern_init : Stmt := inClass (top 8) 0
theorem sc_Pattern_init : FnScope ["self", "chunk", "letters", "digits", "first", "last"] ["self", "chunk", "letters", "digits", "first", "last"] (defScope s_Pattern_init) := ⟨rfl, rfl, rfl, by decide +kernel, rfl, by decide +kernel, by decide +kernel⟩
abbrev s_Listing_init : Stmt := inClass (top 9) 0
theorem sc_Listing_init : FnScope ["self", "left", "right", "words", "patterns"] ["self", "left", "right", "words", "patterns"] (defScope s_Listing_init) := ⟨rfl, rfl, rfl, by decide +kernel, rfl, by decide +kernel, by decide +kernel⟩
abbrev s_is_word_long : Stmt := top 10
theorem sc_is_word_long : FnScope ["letters"] ["letters"] (defScope s_is_word_long) := ⟨rfl, rfl, rfl, by decide +kernel, rfl, by decide +kernel, by decide +kernel⟩
abbrev s_word_of : Stmt := top 11
theorem sc_word_of : FnScope ["chunk", "gaps", "letters", "part"] ["chunk"] (defScope s_word_of) := ⟨rfl, rfl, rfl, by decide +kernel, rfl, by decide +kernel, by decide +kernel⟩
abbrev s_without_points : Stmt := top 12
theorem sc_without_points : FnScope ["chunk", "first", "last"] ["chunk", "first", "last"] (defScope s_without_points) := ⟨rfl, rfl, rfl, by decide +kernel, rfl, by decide +kernel, by decide +kernel⟩
abbrev s_pattern_of : Stmt := top 13
theorem sc_pattern_of : FnScope ["chunk", "first", "last", "letters", "digits", "sign"] ["chunk"] (defScope s_pattern_of) := ⟨rfl, rfl, rfl, by decide +kernel, rfl, by decide +kernel, by decide +kernel⟩
abbrev s_number_of : Stmt := top 14
theorem sc_number_of : FnScope ["entries", "key", "number", "entry"] ["entries", "key"] (defScope s_number_of) := ⟨rfl, rfl, rfl, by decide +kernel, rfl, by decide +kernel, by decide +kernel⟩
abbrev s_one_form : Stmt := top 15
theorem sc_one_form : FnScope ["listing", "lines", "word", "pattern", "sign"] ["listing"] (defScope s_one_form) := ⟨rfl, rfl, rfl, by decide +kernel, rfl, by decide +kernel, by decide +kernel⟩
abbrev s_fits_at : Stmt := top 18
theorem sc_fits_at : FnScope ["pattern", "letters", "place", "end"] ["pattern", "letters", "place"] (defScope s_fits_at) := ⟨rfl, rfl, rfl, by decide +kernel, rfl, by decide +kernel, by decide +kernel⟩
abbrev s_fitting_places : Stmt := top 19
theorem sc_fitting_places : FnScope ["pattern", "letters", "place"] ["pattern", "letters"] (defScope s_fitting_places) := ⟨rfl, rfl, rfl, by decide +kernel, rfl, by decide +kernel, by decide +kernel⟩
abbrev s_fitting_patterns : Stmt := top 20
theorem sc_fitting_patterns : FnScope ["patterns", "letters", "number", "pattern"] ["patterns", "letters"] (defScope s_fitting_patterns) := ⟨rfl, rfl, rfl, by decide +kernel, rfl, by decide +kernel, by decide +kernel⟩
abbrev s_levels : Stmt := top 21
theorem sc_levels : FnScope ["patterns", "letters", "found", "pattern", "place", "offset", "digit"] ["patterns", "letters"] (defScope s_levels) := ⟨rfl, rfl, rfl, by decide +kernel, rfl, by decide +kernel, by decide +kernel⟩
abbrev s_greatest_level : Stmt := top 22
theorem sc_greatest_level : FnScope ["patterns", "letters"] ["patterns", "letters"] (defScope s_greatest_level) := ⟨rfl, rfl, rfl, by decide +kernel, rfl, by decide +kernel, by decide +kernel⟩
abbrev s_odd_gaps : Stmt := top 23
theorem sc_odd_gaps : FnScope ["patterns", "letters", "found", "gap"] ["patterns", "letters"] (defScope s_odd_gaps) := ⟨rfl, rfl, rfl, by decide +kernel, rfl, by decide +kernel, by decide +kernel⟩
abbrev s_within : Stmt := top 24
theorem sc_within : FnScope ["gaps", "size", "left", "right", "gap"] ["gaps", "size", "left", "right"] (defScope s_within) := ⟨rfl, rfl, rfl, by decide +kernel, rfl, by decide +kernel, by decide +kernel⟩
abbrev s_parted_gaps : Stmt := top 25
theorem sc_parted_gaps : FnScope ["listing", "letters", "odd"] ["listing", "letters"] (defScope s_parted_gaps) := ⟨rfl, rfl, rfl, by decide +kernel, rfl, by decide +kernel, by decide +kernel⟩
abbrev s_held_against : Stmt := top 26
theorem sc_held_against : FnScope ["word", "odd", "left", "right", "parted", "allowed", "hits", "gap"] ["word", "odd", "left", "right"] (defScope s_held_against) := ⟨rfl, rfl, rfl, by decide +kernel, rfl, by decide +kernel, by decide +kernel⟩
abbrev s_wrongs : Stmt := top 27
theorem sc_wrongs : FnScope ["words", "odds", "left", "right", "found", "word", "odd", "counts"] ["words", "odds", "left", "right"] (defScope s_wrongs) := ⟨rfl, rfl, rfl, by decide +kernel, rfl, by decide +kernel, by decide +kernel⟩
abbrev s_tried_margins : Stmt := top 28
theorem sc_tried_margins : FnScope ["listing", "odds", "best", "exact", "left", "right", "found", "word"] ["listing"] (defScope s_tried_margins) := ⟨rfl, rfl, rfl, by decide +kernel, rfl, by decide +kernel, by decide +kernel⟩
abbrev s_with_entry : Stmt := top 30
theorem sc_with_entry : FnScope ["entries", "entry", "number"] ["entries", "entry"] (defScope s_with_entry) := ⟨rfl, rfl, rfl, by decide +kernel, rfl, by decide +kernel, by decide +kernel⟩
abbrev s_with_item : Stmt := top 31
theorem sc_with_item : FnScope ["listing", "item"] ["listing", "item"] (defScope s_with_item) := ⟨rfl, rfl, rfl, by decide +kernel, rfl, by decide +kernel, by decide +kernel⟩
abbrev s_without_entry : Stmt := top 32
theorem sc_without_entry : FnScope ["entries", "number"] ["entries", "number"] (defScope s_without_entry) := ⟨rfl, rfl, rfl, by decide +kernel, rfl, by decide +kernel, by decide +kernel⟩
abbrev s_without_word : Stmt := top 33
theorem sc_without_word : FnScope ["listing", "number"] ["listing", "number"] (defScope s_without_word) := ⟨rfl, rfl, rfl, by decide +kernel, rfl, by decide +kernel, by decide +kernel⟩
abbrev s_without_pattern : Stmt := top 34
theorem sc_without_pattern : FnScope ["listing", "number"] ["listing", "number"] (defScope s_without_pattern) := ⟨rfl, rfl, rfl, by decide +kernel, rfl, by decide +kernel, by decide +kernel⟩
abbrev s_is_too_long : Stmt := top 35
theorem sc_is_too_long : FnScope ["listing"] ["listing"] (defScope s_is_too_long) := ⟨rfl, rfl, rfl, by decide +kernel, rfl, by decide +kernel, by decide +kernel⟩
abbrev s_is_touched : Stmt := top 36
theorem sc_is_touched : FnScope ["word", "before", "after"] ["word", "before", "after"] (defScope s_is_touched) := ⟨rfl, rfl, rfl, by decide +kernel, rfl, by decide +kernel, by decide +kernel⟩
abbrev s_touched : Stmt := top 37
theorem sc_touched : FnScope ["before", "after", "number", "word"] ["before", "after"] (defScope s_touched) := ⟨rfl, rfl, rfl, by decide +kernel, rfl, by decide +kernel, by decide +kernel⟩
abbrev s_is_listed : Stmt := top 39
theorem sc_is_listed : FnScope ["words", "letters"] ["words", "letters"] (defScope s_is_listed) := ⟨rfl, rfl, rfl, by decide +kernel, rfl, by decide +kernel, by decide +kernel⟩
abbrev s_joints : Stmt := top 40
theorem sc_joints : FnScope ["words", "letters", "gap"] ["words", "letters"] (defScope s_joints) := ⟨rfl, rfl, rfl, by decide +kernel, rfl, by decide +kernel, by decide +kernel⟩
abbrev s_parted_as_two : Stmt := top 41
theorem sc_parted_as_two : FnScope ["listing", "letters", "gap", "front", "back", "offset"] ["listing", "letters", "gap"] (defScope s_parted_as_two) := ⟨rfl, rfl, rfl, by decide +kernel, rfl, by decide +kernel, by decide +kernel⟩
abbrev s_breaking_gaps : Stmt := top 42
theorem sc_breaking_gaps : FnScope ["listing", "letters", "places", "gap"] ["listing", "letters", "places"] (defScope s_breaking_gaps) := ⟨rfl, rfl, rfl, by decide +kernel, rfl, by decide +kernel, by decide +kernel⟩
abbrev s_Fault_init : Stmt := inClass (top 52) 0
theorem sc_Fault_init : FnScope ["self", "code", "place"] ["self", "code", "place"] (defScope s_Fault_init) := ⟨rfl, rfl, rfl, by decide +kernel, rfl, by decide +kernel, by decide +kernel⟩
abbrev s_chunk_sign : Stmt := top 53
theorem sc_chunk_sign : FnScope ["byte"] ["byte"] (defScope s_chunk_sign) := ⟨rfl, rfl, rfl, by decide +kernel, rfl, by decide +kernel, by decide +kernel⟩
abbrev s_after_remark : Stmt := top 54
theorem sc_after_remark : FnScope ["text", "place"] ["text", "place"] (defScope s_after_remark) := ⟨rfl, rfl, rfl, by decide +kernel, rfl, by decide +kernel, by decide +kernel⟩
abbrev s_after_blanks : Stmt := top 55
theorem sc_after_blanks : FnScope ["text", "place"] ["text", "place"] (defScope s_after_blanks) := ⟨rfl, rfl, rfl, by decide +kernel, rfl, by decide +kernel, by decide +kernel⟩
abbrev s_chunk_at : Stmt := top 56
theorem sc_chunk_at : FnScope ["text", "place", "signs"] ["text", "place"] (defScope s_chunk_at) := ⟨rfl, rfl, rfl, by decide +kernel, rfl, by decide +kernel, by decide +kernel⟩
abbrev s_token_at : Stmt := top 57
theorem sc_token_at : FnScope ["text", "place", "chunk"] ["text", "place"] (defScope s_token_at) := ⟨rfl, rfl, rfl, by decide +kernel, rfl, by decide +kernel, by decide +kernel⟩
abbrev s_tokens_of : Stmt := top 58
theorem sc_tokens_of : FnScope ["text", "found", "place", "signs"] ["text"] (defScope s_tokens_of) := ⟨rfl, rfl, rfl, by decide +kernel, rfl, by decide +kernel, by decide +kernel⟩
abbrev s_Reader_init : Stmt := inClass (top 61) 0
theorem sc_Reader_init : FnScope ["self", "text"] ["self", "text"] (defScope s_Reader_init) := ⟨rfl, rfl, rfl, by decide +kernel, rfl, by decide +kernel, by decide +kernel⟩
abbrev s_Reader_here : Stmt := inClass (top 61) 1
theorem sc_Reader_here : FnScope ["self"] ["self"] (defScope s_Reader_here) := ⟨rfl, rfl, rfl, by decide +kernel, rfl, by decide +kernel, by decide +kernel⟩
abbrev s_Reader_signs : Stmt := inClass (top 61) 2
theorem sc_Reader_signs : FnScope ["self"] ["self"] (defScope s_Reader_signs) := ⟨rfl, rfl, rfl, by decide +kernel, rfl, by decide +kernel, by decide +kernel⟩
abbrev s_Reader_go_on : Stmt := inClass (top 61) 3
theorem sc_Reader_go_on : FnScope ["self"] ["self"] (defScope s_Reader_go_on) := ⟨rfl, rfl, rfl, by decide +kernel, rfl, by decide +kernel, by decide +kernel⟩
abbrev s_Reader_take : Stmt := inClass (top 61) 4
theorem sc_Reader_take : FnScope ["self", "signs"] ["self", "signs"] (defScope s_Reader_take) := ⟨rfl, rfl, rfl, by decide +kernel, rfl, by decide +kernel, by decide +kernel⟩
abbrev s_Reader_chunk_here : Stmt := inClass (top 61) 5
theorem sc_Reader_chunk_here : FnScope ["self"] ["self"] (defScope s_Reader_chunk_here) := ⟨rfl, rfl, rfl, by decide +kernel, rfl, by decide +kernel, by decide +kernel⟩
abbrev s_read_margin : Stmt := top 62
theorem sc_read_margin : FnScope ["reader", "chunk"] ["reader"] (defScope s_read_margin) := ⟨rfl, rfl, rfl, by decide +kernel, rfl, by decide +kernel, by decide +kernel⟩
abbrev s_read_entry : Stmt := top 63
theorem sc_read_entry : FnScope ["reader", "name", "made_of", "earlier", "entry"] ["reader", "name", "made_of", "earlier"] (defScope s_read_entry) := ⟨rfl, rfl, rfl, by decide +kernel, rfl, by decide +kernel, by decide +kernel⟩
abbrev s_read_entries : Stmt := top 64
theorem sc_read_entries : FnScope ["reader", "name", "made_of", "most", "found"] ["reader", "name", "made_of", "most"] (defScope s_read_entries) := ⟨rfl, rfl, rfl, by decide +kernel, rfl, by decide +kernel, by decide +kernel⟩
abbrev s_read_list : Stmt := top 65
theorem sc_read_list : FnScope ["text", "reader", "left", "right", "words", "patterns"] ["text"] (defScope s_read_list) := ⟨rfl, rfl, rfl, by decide +kernel, rfl, by decide +kernel, by decide +kernel⟩
abbrev s_read_item : Stmt := top 66
theorem sc_read_item : FnScope ["text", "reader", "item"] ["text"] (defScope s_read_item) := ⟨rfl, rfl, rfl, by decide +kernel, rfl, by decide +kernel, by decide +kernel⟩
abbrev s_read_letters : Stmt := top 67
theorem sc_read_letters : FnScope ["row", "letters"] ["row"] (defScope s_read_letters) := ⟨rfl, rfl, rfl, by decide +kernel, rfl, by decide +kernel, by decide +kernel⟩
abbrev s_partings : Stmt := top 69
theorem sc_partings : FnScope ["listing", "word"] ["listing"] (defScope s_partings) := ⟨rfl, rfl, rfl, by decide +kernel, rfl, by decide +kernel, by decide +kernel⟩
abbrev s_needless_patterns : Stmt := top 70
theorem sc_needless_patterns : FnScope ["listing", "parted", "found", "number"] ["listing"] (defScope s_needless_patterns) := ⟨rfl, rfl, rfl, by decide +kernel, rfl, by decide +kernel, by decide +kernel⟩
abbrev s_gone_through : Stmt := top 71
theorem sc_gone_through : FnScope ["listing", "parted", "number", "fewer"] ["listing", "parted"] (defScope s_gone_through) := ⟨rfl, rfl, rfl, by decide +kernel, rfl, by decide +kernel, by decide +kernel⟩
abbrev s_slimmed : Stmt := top 72
theorem sc_slimmed : FnScope ["listing", "parted", "before", "after"] ["listing"] (defScope s_slimmed) := ⟨rfl, rfl, rfl, by decide +kernel, rfl, by decide +kernel, by decide +kernel⟩
abbrev s_Desk_init : Stmt := inClass (top 92) 0
theorem sc_Desk_init : FnScope ["self"] ["self"] (defScope s_Desk_init) := ⟨rfl, rfl, rfl, by decide +kernel, rfl, by decide +kernel, by decide +kernel⟩
abbrev s_counted : Stmt := top 93
theorem sc_counted : FnScope ["numbers"] ["numbers"] (defScope s_counted) := ⟨rfl, rfl, rfl, by decide +kernel, rfl, by decide +kernel, by decide +kernel⟩
abbrev s_load : Stmt := top 94
theorem sc_load : FnScope ["desk", "text", "listing", "fault"] ["desk", "text"] (defScope s_load) := ⟨rfl, rfl, rfl, by decide +kernel, rfl, by decide +kernel, by decide +kernel⟩
abbrev s_shown : Stmt := top 95
theorem sc_shown : FnScope ["listing"] ["listing"] (defScope s_shown) := ⟨rfl, rfl, rfl, by decide +kernel, rfl, by decide +kernel, by decide +kernel⟩
abbrev s_has_number : Stmt := top 96
theorem sc_has_number : FnScope ["entries", "number"] ["entries", "number"] (defScope s_has_number) := ⟨rfl, rfl, rfl, by decide +kernel, rfl, by decide +kernel, by decide +kernel⟩
abbrev s_report : Stmt := top 97
theorem sc_report : FnScope ["listing", "number", "word", "odd", "counts", "exact", "level", "fitting"] ["listing", "number"] (defScope s_report) := ⟨rfl, rfl, rfl, by decide +kernel, rfl, by decide +kernel, by decide +kernel⟩
abbrev s_become : Stmt := top 98
theorem sc_become : FnScope ["desk", "changed", "numbers"] ["desk", "changed"] (defScope s_become) := ⟨rfl, rfl, rfl, by decide +kernel, rfl, by decide +kernel, by decide +kernel⟩
abbrev s_put : Stmt := top 99
theorem sc_put : FnScope ["desk", "text", "item", "changed"] ["desk", "text"] (defScope s_put) := ⟨rfl, rfl, rfl, by decide +kernel, rfl, by decide +kernel, by decide +kernel⟩
abbrev s_drop : Stmt := top 100
theorem sc_drop : FnScope ["desk", "kind", "number", "entries"] ["desk", "kind", "number"] (defScope s_drop) := ⟨rfl, rfl, rfl, by decide +kernel, rfl, by decide +kernel, by decide +kernel⟩
abbrev s_slim : Stmt := top 101
theorem sc_slim : FnScope ["desk", "before", "left"] ["desk"] (defScope s_slim) := ⟨rfl, rfl, rfl, by decide +kernel, rfl, by decide +kernel, by decide +kernel⟩
abbrev s_joint : Stmt := top 102
theorem sc_joint : FnScope ["listing", "row", "letters", "found", "told"] ["listing", "row"] (defScope s_joint) := ⟨rfl, rfl, rfl, by decide +kernel, rfl, by decide +kernel, by decide +kernel⟩
abbrev s_line_break : Stmt := top 103
theorem sc_line_break : FnScope ["listing", "places", "row", "letters", "found"] ["listing", "places", "row"] (defScope s_line_break) := ⟨rfl, rfl, rfl, by decide +kernel, rfl, by decide +kernel, by decide +kernel⟩
abbrev s_listed_answer : Stmt := top 104
theorem sc_listed_answer : FnScope ["desk", "call"] ["desk", "call"] (defScope s_listed_answer) := ⟨rfl, rfl, rfl, by decide +kernel, rfl, by decide +kernel, by decide +kernel⟩
abbrev s_answer : Stmt := top 105
theorem sc_answer : FnScope ["desk", "call"] ["desk", "call"] (defScope s_answer) := ⟨rfl, rfl, rfl, by decide +kernel, rfl, by decide +kernel, by decide +kernel⟩
abbrev s_split_calls : Stmt := top 106
theorem sc_split_calls : FnScope ["calls", "found", "place", "call", "kind", "end"] ["calls"] (defScope s_split_calls) := ⟨rfl, rfl, rfl, by decide +kernel, rfl, by decide +kernel, by decide +kernel⟩
abbrev s_answers : Stmt := top 107
theorem sc_answers : FnScope ["calls", "desk", "told", "call", "numbers"] ["calls"] (defScope s_answers) := ⟨rfl, rfl, rfl, by decide +kernel, rfl, by decide +kernel, by decide +kernel⟩
/-- where the classes stand, and the written tuples -/
structure Adr where
  Word : Addr
  Pattern : Addr
  Listing : Addr
  Reader : Addr
  Desk : Addr
  Fault : Addr
  fI : Addr
  t_BLANKS : Addr
  t_MARGIN_CHUNKS : Addr
  t_GIVEN_0 : Addr
  t_GIVEN_1 : Addr
  t_GIVEN_2 : Addr
  t_GIVEN_3 : Addr
  t_GIVEN_4 : Addr
  t_GIVEN_5 : Addr
  t_GIVEN_6 : Addr
  t_GIVEN_7 : Addr
  t_GIVEN_8 : Addr
  t_GIVEN_9 : Addr
  t_GIVEN : Addr
/-- a tuple of the written part -/
def KT (K : PySem.W.Frag) (a : Addr) (xs : List V) : Prop := ∀ H, SqT K H a xs
structure Txt (K : PySem.W.Frag) (mg : Str → Option Value) (A : Adr) : Prop where
  enumerate : mg "enumerate" = none
  ty_int : mg "int" = none
  isinstance : mg "isinstance" = none
  len : mg "len" = none
  ty_list : mg "list" = none
  max : mg "max" = none
  ord : mg "ord" = none
  range : mg "range" = none
  ty_str : mg "str" = none
  sum : mg "sum" = none
  zip : mg "zip" = none
  c_MOST_WORDS : ∃ u, mg "MOST_WORDS" = some u ∧ RelV (.int 24) u
  c_MOST_PATTERNS : ∃ u, mg "MOST_PATTERNS" = some u ∧ RelV (.int 40) u
  c_LEAST_WORD_LETTERS : ∃ u, mg "LEAST_WORD_LETTERS" = some u ∧ RelV (.int 2) u
  c_MOST_WORD_LETTERS : ∃ u, mg "MOST_WORD_LETTERS" = some u ∧ RelV (.int 16) u
  c_MOST_PATTERN_LETTERS : ∃ u, mg "MOST_PATTERN_LETTERS" = some u ∧ RelV (.int 6) u
  c_PATTERN_DIGITS : ∃ u, mg "PATTERN_DIGITS" = some u ∧ RelV (.str "123456789") u
  c_GREATEST_MARGIN : ∃ u, mg "GREATEST_MARGIN" = some u ∧ RelV (.int 5) u
  c_MOST_BYTES : ∃ u, mg "MOST_BYTES" = some u ∧ RelV (.int 4096) u
  c_LONGEST_CHUNK : ∃ u, mg "LONGEST_CHUNK" = some u ∧ RelV (.int 40) u
  c_REMARK : ∃ u, mg "REMARK" = some u ∧ RelV (.int 35) u
  c_LINE_END : ∃ u, mg "LINE_END" = some u ∧ RelV (.int 10) u
  c_BLANKS : ∃ u, mg "BLANKS" = some u ∧ RelV (.ref A.t_BLANKS) u
  c_SEMICOLON : ∃ u, mg "SEMICOLON" = some u ∧ RelV (.int 59) u
  c_LETTERS : ∃ u, mg "LETTERS" = some u ∧ RelV (.str "abcdefghijklmnopqrstuvwxyz") u
  c_DIGITS : ∃ u, mg "DIGITS" = some u ∧ RelV (.str "0123456789") u
  c_MARGIN_CHUNKS : ∃ u, mg "MARGIN_CHUNKS" = some u ∧ RelV (.ref A.t_MARGIN_CHUNKS) u
  c_LOAD : ∃ u, mg "LOAD" = some u ∧ RelV (.int 0) u
  c_SHOWN : ∃ u, mg "SHOWN" = some u ∧ RelV (.int 1) u
  c_REPORT : ∃ u, mg "REPORT" = some u ∧ RelV (.int 2) u
  c_MARGINS : ∃ u, mg "MARGINS" = some u ∧ RelV (.int 3) u
  c_PUT : ∃ u, mg "PUT" = some u ∧ RelV (.int 4) u
  c_DROP : ∃ u, mg "DROP" = some u ∧ RelV (.int 5) u
  c_NEEDLESS : ∃ u, mg "NEEDLESS" = some u ∧ RelV (.int 6) u
  c_SLIM : ∃ u, mg "SLIM" = some u ∧ RelV (.int 7) u
  c_JOINT : ∃ u, mg "JOINT" = some u ∧ RelV (.int 8) u
  c_GIVEN : ∃ u, mg "GIVEN" = some u ∧ RelV (.ref A.t_GIVEN) u
  c_DROPPED_WORD : ∃ u, mg "DROPPED_WORD" = some u ∧ RelV (.int 0) u
  c_DROPPED_PATTERN : ∃ u, mg "DROPPED_PATTERN" = some u ∧ RelV (.int 1) u
  c_MOST_PLACES : ∃ u, mg "MOST_PLACES" = some u ∧ RelV (.int 100) u
  c_NO_LIST : ∃ u, mg "NO_LIST" = some u ∧ RelV (.int (-1)) u
  c_NO_SUCH : ∃ u, mg "NO_SUCH" = some u ∧ RelV (.int (-2)) u
  c_NO_LINE : ∃ u, mg "NO_LINE" = some u ∧ RelV (.int (-3)) u
  c_NOT_RIGHT : ∃ u, mg "NOT_RIGHT" = some u ∧ RelV (.int (-4)) u
  c_TOO_MANY : ∃ u, mg "TOO_MANY" = some u ∧ RelV (.int (-5)) u
  kt_BLANKS : KT K A.t_BLANKS [.int 32, .int 9, .int 10]
  kt_MARGIN_CHUNKS : KT K A.t_MARGIN_CHUNKS [.str "0", .str "1", .str "2", .str "3", .str "4", .str "5"]
  kt_GIVEN_0 : KT K A.t_GIVEN_0 [.str "row"]
  kt_GIVEN_1 : KT K A.t_GIVEN_1 []
  kt_GIVEN_2 : KT K A.t_GIVEN_2 [.str "number"]
  kt_GIVEN_3 : KT K A.t_GIVEN_3 []
  kt_GIVEN_4 : KT K A.t_GIVEN_4 [.str "row"]
  kt_GIVEN_5 : KT K A.t_GIVEN_5 [.str "number", .str "number"]
  kt_GIVEN_6 : KT K A.t_GIVEN_6 []
  kt_GIVEN_7 : KT K A.t_GIVEN_7 []
  kt_GIVEN_8 : KT K A.t_GIVEN_8 [.str "row"]
  kt_GIVEN_9 : KT K A.t_GIVEN_9 [.str "number", .str "row"]
  kt_GIVEN : KT K A.t_GIVEN [.ref A.t_GIVEN_0, .ref A.t_GIVEN_1, .ref A.t_GIVEN_2, .ref A.t_GIVEN_3, .ref A.t_GIVEN_4, .ref A.t_GIVEN_5, .ref A.t_GIVEN_6, .ref A.t_GIVEN_7, .ref A.t_GIVEN_8, .ref A.t_GIVEN_9]
  g_Word : mg "Word" = some (.ref A.Word)
  i_Word : C8.InsC K A.Word
  n_Word_chunk : NoAttr K A.Word "chunk"
  n_Word_letters : NoAttr K A.Word "letters"
  n_Word_gaps : NoAttr K A.Word "gaps"
  n_Word_key : NoAttr K A.Word "key"
  g_Pattern : mg "Pattern" = some (.ref A.Pattern)
  i_Pattern : C8.InsC K A.Pattern
  n_Pattern_chunk : NoAttr K A.Pattern "chunk"
  n_Pattern_letters : NoAttr K A.Pattern "letters"
  n_Pattern_digits : NoAttr K A.Pattern "digits"
  n_Pattern_first : NoAttr K A.Pattern "first"
  n_Pattern_last : NoAttr K A.Pattern "last"
  n_Pattern_key : NoAttr K A.Pattern "key"
  g_Listing : mg "Listing" = some (.ref A.Listing)
  i_Listing : C8.InsC K A.Listing
  n_Listing_left : NoAttr K A.Listing "left"
  n_Listing_right : NoAttr K A.Listing "right"
  n_Listing_words : NoAttr K A.Listing "words"
  n_Listing_patterns : NoAttr K A.Listing "patterns"
  g_Reader : mg "Reader" = some (.ref A.Reader)
  i_Reader : C8.InsC K A.Reader
  n_Reader_tokens : NoAttr K A.Reader "tokens"
  n_Reader_reached : NoAttr K A.Reader "reached"
  g_Desk : mg "Desk" = some (.ref A.Desk)
  i_Desk : C8.InsC K A.Desk
  n_Desk_held : NoAttr K A.Desk "held"
  kit_Pattern : PySem.W.kitOne K (.ref A.Pattern) (.ref A.Word) = some false
  flt : FltX.FltTxt K mg A.Fault A.fI
end Pw
set_option Elab.async false
set_option linter.all false
set_option maxRecDepth 100000
set_option maxHeartbeats 2000000
/-! Calls of defs that may raise; what is said of heaps and values again and again. -/
namespace Pw
open PySem PySem.Spec PyProof.Rows L2
abbrev S := SX.S
abbrev Ex := Evl.Ex
abbrev Bytes := VahypBase.Bytes
section
variable {P : Program} {w : World} {K : PySem.W.Frag} {mg : Str → Option Value} {base : Heap}
/-- a def that may raise, by its name; a method; a class by its __init__ -/
structure CalX (P : Program) (w : World) (K : PySem.W.Frag) (mg : Str → Option Value) (base : Heap) (k : Nat) (x : Str) (sp : Sp) : Prop where
  ex : ∃ (f : Addr) (fd : FuncData) (ps : List Str), FnOk P w K mg base (L2.CX P w) k f fd ps sp ∧ mg x = some (.ref f) ∧ PySem.W.keepIn K (.ref f) = true ∧ Binds K fd ps []
structure MetX (P : Program) (w : World) (K : PySem.W.Frag) (mg : Str → Option Value) (base : Heap) (k : Nat) (C : Addr) (m : Str) (sp : Sp) : Prop where
  ex : ∃ (f : Addr) (fd : FuncData) (ps : List Str), Cls K C ∧ Meth K C m f ∧ FnOk P w K mg base (L2.CX P w) k f fd ps sp ∧ Binds K fd ps []
structure MakX (P : Program) (w : World) (K : PySem.W.Frag) (mg : Str → Option Value) (base : Heap) (k : Nat) (x : Str) (C : Addr) (sp : Sp) : Prop where
  ex : ∃ (f : Addr) (fd : FuncData) (ps : List Str), Mk K C f ∧ FnOk P w K mg base (L2.CX P w) k f fd ps sp ∧ mg x = some (.ref C) ∧ Binds K fd ps []
/-- a def's body, where errors leave it -/
theorem okX {x qual : Str} {st : Stmt} {f : Addr} {fd : FuncData} {N ps : List Str} {k : Nat} {sp : Sp} (F : C8.Fun K x qual st f fd) (sc : FnScope N ps (defScope st)) (len : ∀ vs H Q E, sp vs H Q E → vs.length = ps.length)
    (body : ∀ (cdv : Value) (A : Around) (outer : List Env) (s : Shared) (H : Hp) (vs : List V) (Q : VK) (E : XK), Room k (A.deeper (envOfC qual (defScope st) s.heap.objs.size f cdv)) → sp vs H Q E →
      ∃ t, PSs (cxOf (L2.CX P w) P w K mg base N qual (defScope st) f cdv A outer s H E) (defBody st) t ∧ t { nx := fun _ H' => Q .non H', rt := Q } (start N vs) H) (hA : C8.fnArgs st = defArgs st) (hB : C8.fnBody st = defBody st) (hC : C8.fnScope st = defScope st) : FnOk P w K mg base (L2.CX P w) (k + 1) f fd ps sp := by
  obtain ⟨oc, od, dV, kV, doc, pm, an, cdv, ct, osl, rfl, lk, hcd⟩ := F.ex
  rw [hA, hB, hC] at lk ⊢
  exact fn_of lk hcd sc len fun A outer s H vs Q E hr hsp => body cdv A outer s H vs Q E hr hsp
theorem ok0 {x qual : Str} {st : Stmt} {f : Addr} {fd : FuncData} {N ps : List Str} {k : Nat} {sp : Sp} (F : C8.Fun K x qual st f fd) (sc : FnScope N ps (defScope st)) (len : ∀ vs H Q E, sp vs H Q E → vs.length = ps.length)
    (body : ∀ (cdv : Value) (A : Around) (outer : List Env) (s : Shared) (H : Hp) (vs : List V) (Q : VK) (E : XK), Room k (A.deeper (envOfC qual (defScope st) s.heap.objs.size f cdv)) → sp vs H Q E →
      ∃ t, PSs (cxOf C8.CX0 P w K mg base N qual (defScope st) f cdv A outer s H E).nox (defBody st) t ∧ t { nx := fun _ H' => Q .non H', rt := Q } (start N vs) H) (hA : C8.fnArgs st = defArgs st) (hB : C8.fnBody st = defBody st) (hC : C8.fnScope st = defScope st) : FnOk P w K mg base C8.CX0 (k + 1) f fd ps sp := by
  obtain ⟨oc, od, dV, kV, doc, pm, an, cdv, ct, osl, rfl, lk, hcd⟩ := F.ex
  rw [hA, hB, hC] at lk ⊢
  refine fn_of lk hcd sc len fun A outer s H vs Q E hr hsp => ?_
  obtain ⟨t, h, q⟩ := body cdv A outer s H vs Q E hr hsp
  exact ⟨t, h.nox, q⟩
end
/-- what the end finds of a def: where it stands, its object, how arguments bind -/
structure At (K : PySem.W.Frag) (mg : Str → Option Value) (x : Str) (st : Stmt) (ps : List Str) (f : Addr) (fd : FuncData) : Prop where
  fn : C8.Fun K x x st f fd
  mgf : mg x = some (.ref f)
  kp : PySem.W.keepIn K (.ref f) = true
  b : Binds K fd ps []
structure AtM (K : PySem.W.Frag) (C : Addr) (m qual : Str) (st : Stmt) (ps : List Str) (f : Addr) (fd : FuncData) : Prop where
  fn : C8.Fun K m qual st f fd
  me : Meth K C m f
  b : Binds K fd ps []
section
variable {P : Program} {w : World} {K : PySem.W.Frag} {mg : Str → Option Value} {base : Heap} {x m qual : Str} {C : Addr} {st : Stmt} {ps : List Str} {f : Addr} {fd : FuncData} {k : Nat} {sp : Sp}
theorem At.cal (a : At K mg x st ps f fd) (F : FnOk P w K mg base C8.CX0 k f fd ps sp) : C8.Cal P w K mg base k x sp [] := ⟨f, fd, ps, [], F, a.mgf, a.kp, a.b, .nil⟩
theorem At.calX (a : At K mg x st ps f fd) (F : FnOk P w K mg base (L2.CX P w) k f fd ps sp) : CalX P w K mg base k x sp := ⟨f, fd, ps, F, a.mgf, a.kp, a.b⟩
end
section
variable {X : Cx} {k j : Nat} {C : Addr} {x m : Str} {sp : Sp} {E : XK} {p pos apos : Pos} {e o : Expr} {es : List Expr} {ta : TE} {t : TA}
theorem pe_cX (c : CalX X.prog X.w X.K X.mg X.base k x sp) (hr : Room j X.A) (hk : k ≤ j) (hg : Gl X x) (hx : Passes (L2.CX X.prog X.w) X E) (ha : PA X (e :: es) t)
    (hdb : (x == ("__debug__" : Str)) = false := by decide) (he : starEach (e :: es) X.env = (false, eval e X.env) :: starEach es X.env := by rfl) (hpl : (backTo pos (starEach es X.env)).any (·.1) = false := by rfl) :
    PE X (.Call (.Name x p) (e :: es) [] pos) (tCall sp [] E t) := by
  obtain ⟨f, fd, ps, F, hm, kp, b⟩ := c.ex
  exact pe_call F (hr.mono hk) hg hm kp b .nil hx ha hdb he hpl
/-- within a try -/
theorem pe_cS {W : WX} (c : CalX X.prog X.w X.K X.mg X.base k x sp) (hr : Room j X.A) (hk : k ≤ j) (hg : Gl X x) (tk : Takes X W) (ha : PA X (e :: es) t)
    (hdb : (x == ("__debug__" : Str)) = false := by decide) (he : starEach (e :: es) X.env = (false, eval e X.env) :: starEach es X.env := by rfl) (hpl : (backTo pos (starEach es X.env)).any (·.1) = false := by rfl) :
    PE X (.Call (.Name x p) (e :: es) [] pos) (tCallS sp (WE W) t) := by
  obtain ⟨f, fd, ps, F, hm, kp, b⟩ := c.ex
  exact pe_callS F (hr.mono hk) hg hm kp b (fun σ => passAt tk σ) ha hdb he hpl
theorem pe_makeX (c : MakX X.prog X.w X.K X.mg X.base k x C sp) (hr : Room j X.A) (hk : k + 1 ≤ j) (hg : Gl X x) (hx : Passes (L2.CX X.prog X.w) X E) (ha : PA X (e :: es) t)
    (hdb : (x == ("__debug__" : Str)) = false := by decide) (he : starEach (e :: es) X.env = (false, eval e X.env) :: starEach es X.env := by rfl) (hpl : (backTo pos (starEach es X.env)).any (·.1) = false := by rfl) :
    PE X (.Call (.Name x p) (e :: es) [] pos) (tMake C sp [] E t) := by
  obtain ⟨f, fd, ps, M, F, hm, b⟩ := c.ex
  exact pe_make M F (hr.mono hk) hg hm b .nil hx ha hdb he hpl
theorem pe_mtX {pl : Sem Bool} (c : MetX X.prog X.w X.K X.mg X.base k C m sp) (hr : Room j X.A) (hk : k ≤ j) (hx : Passes (L2.CX X.prog X.w) X E) (he : PE X o ta) (ha : PA X (e :: es) t)
    (hst : starEach (e :: es) X.env = (false, eval e X.env) :: starEach es X.env := by rfl) (hpl : (backTo pos (starEach es X.env)).any (·.1) = false := by rfl)
    (ht : eval (.Call (.Attribute o m apos) (e :: es) [] pos) X.env = (do
      let ov ← eval o X.env
      standAt apos.atName
      let (f, first) ← holding [ov] (getMethod ov m pl)
      callWith pos f first (backTo pos (starEach (e :: es) X.env)) (backToKw pos (keywordEach [] X.env))) := by rfl) :
    PE X (.Call (.Attribute o m apos) (e :: es) [] pos) (tMeth C m sp [] E ta t) := by
  obtain ⟨f, fd, ps, hc, hm, F, b⟩ := c.ex
  exact pe_meth (pl := pl) he hc hm F (hr.mono hk) b .nil hx ha hst hpl ht
theorem pe_mtX0 {pl : Sem Bool} (c : MetX X.prog X.w X.K X.mg X.base k C m sp) (hr : Room j X.A) (hk : k ≤ j) (hx : Passes (L2.CX X.prog X.w) X E) (he : PE X o ta)
    (ht : eval (.Call (.Attribute o m apos) [] [] pos) X.env = (do
      let ov ← eval o X.env
      standAt apos.atName
      let (f, first) ← holding [ov] (getMethod ov m pl)
      callWith pos f first (backTo pos (starEach [] X.env)) (backToKw pos (keywordEach [] X.env))) := by rfl) :
    PE X (.Call (.Attribute o m apos) [] [] pos) (tMeth C m sp [] E ta tNil) := by
  obtain ⟨f, fd, ps, hc, hm, F, b⟩ := c.ex
  exact pe_meth0 (pl := pl) he hc hm F (hr.mono hk) b .nil hx ht
/-- the way out of a def that errors leave -/
theorem outX {W : WX} (tk : Takes X W) (h : W = fun cls d _ H => E cls d H) : Passes (L2.CX X.prog X.w) X E := passes_call tk fun cls d σ H q => by rw [h]; exact q
end

/-! ### rules whose reading names the written part K itself (within a comprehension the frame is another, its K the same) -/
section
variable {X : Cx} {K : PySem.W.Frag}
theorem call_lenK (h : X.K = K) : CallR X (.builtin "len") (Evl.rLenS K) := by
  subst h
  exact call_len_seq
theorem ix_listK (h : X.K = K) : IxR X (rIxL K) := by
  subst h
  exact ix_list
theorem op_inK (h : X.K = K) : OpR X (compareOp .In) (rIn K false) := by
  subst h
  exact op_in_seq
theorem pe_fldK {e : Expr} {f : Str} {te : TE} {pos : Pos} (h : X.K = K) (he : PE X e te) (hb : attributeBase e f X.env (eval e X.env) = eval e X.env := by rfl) : PE X (.Attribute e f pos) (tFld K te f) := by
  subst h
  exact pe_fld he hb
theorem pg_tupK {es : List Expr} {k : Nat} {t : TGs} {n : Nat} {pos : Pos} (hK : X.K = K) (hc : X.calm = true) (h : PGs X es t)
    (hn : (assignEach es X.env).length = n := by rfl) (hst : (assignEach es X.env).findIdx? (·.1) = none := by rfl) : PG X (.Tuple es k pos) (gTup K n t) := by
  subst hK
  exact pg_tup hc h hn hst
end
/-! ### heaps -/
theorem ex_new {H : Hp} {p : Addr} {o : HO} (h : H p = none) : Ex H (upd H p o) := Evl.Ex.new h
theorem ex_at {H H' : Hp} {a : Addr} {o : HO} (e : Ex H H') (h : H a = some o) : H' a = some o := e a o h
/-- what is new in H' -/
def fresh (H H' : Hp) : Hp := fun b => match H b with
  | none => H' b
  | some _ => none
theorem fresh_at {H H' : Hp} {b : Addr} (h : H b = none) : fresh H H' b = H' b := by
  unfold fresh
  rw [h]
theorem fresh_no {H H' : Hp} {b : Addr} {o : HO} (h : H b = some o) : fresh H H' b = none := by
  unfold fresh
  rw [h]
theorem fresh_some {H H' : Hp} {b : Addr} {o : HO} (h : fresh H H' b = some o) : H b = none ∧ H' b = some o := by
  cases e : H b with
  | none =>
    rw [fresh_at e] at h
    exact ⟨rfl, h⟩
  | some u =>
    rw [fresh_no e] at h
    cases h
theorem fresh_ex (H H' : Hp) : Ex (fresh H H') H' := fun _ _ h => (fresh_some h).2
/-- a frozen heap and what is new beside it -/
def join (G N : Hp) : Hp := fun b => match G b with
  | some o => some o
  | none => N b
theorem join_l (G N : Hp) : Ex G (join G N) := fun b o h => by
  unfold join
  rw [h]
theorem join_r {G N : Hp} (h : ∀ b o, N b = some o → G b = none) : Ex N (join G N) := fun b o e => by
  unfold join
  rw [h b o e]
  exact e
theorem join_none {G N : Hp} {b : Addr} (h1 : G b = none) (h2 : N b = none) : join G N b = none := by
  unfold join
  rw [h1]
  exact h2
theorem join_ex {G N H : Hp} (h1 : Ex G H) (h2 : Ex N H) : Ex (join G N) H := fun b o h => by
  unfold join at h
  cases e : G b with
  | some u =>
    rw [e] at h
    rw [← h]
    exact h1 b u e
  | none =>
    rw [e] at h
    exact h2 b o h
/-- all but what stands at r is as it was -/
def ExB (r : Addr) (H H' : Hp) : Prop := ∀ b o, b ≠ r → H b = some o → H' b = some o
theorem ExB.of {r : Addr} {H H' : Hp} (e : Ex H H') : ExB r H H' := fun b o _ h => e b o h
theorem ExB.trans {r : Addr} {H H1 H2 : Hp} (a : ExB r H H1) (b : ExB r H1 H2) : ExB r H H2 := fun c o hc h => b c o hc (a c o hc h)
theorem ExB.upd {r : Addr} {H : Hp} {o : HO} : ExB r H (upd H r o) := fun b u hb h => (upd_ne hb).trans h
theorem ExB.ex {r : Addr} {G H H' : Hp} (b : ExB r H H') (g : Ex G H) (h : G r = none) : Ex G H' := fun c o hc => b c o (fun e => by rw [e, h] at hc; cases hc) (g c o hc)
theorem cond_true {A B : Prop} {c : Bool} (h : c = true) (a : A) : if c = true then A else B := by rw [if_pos h]; exact a
theorem cond_false {A B : Prop} {c : Bool} (h : c = false) (b : B) : if c = true then A else B := by rw [h, if_neg Bool.false_ne_true]; exact b
theorem cy {A B : Prop} {c : Prop} [Decidable c] (h : c) (a : A) : if decide c = true then A else B := cond_true (decide_eq_true h) a
theorem cn {A B : Prop} {c : Prop} [Decidable c] (h : ¬ c) (b : B) : if decide c = true then A else B := cond_false (decide_eq_false h) b
theorem c2 {A B : Prop} {c : Prop} [Decidable c] (h1 : c → A) (h2 : ¬ c → B) : if decide c = true then A else B := by
  by_cases h : c
  · exact cy h (h1 h)
  · exact cn h (h2 h)
theorem ny {A B : Prop} {c : Prop} [Decidable c] (h : ¬ c) (a : A) : if (!decide c) = true then A else B := cond_true (by rw [decide_eq_false h]; rfl) a
theorem nn {A B : Prop} {c : Prop} [Decidable c] (h : c) (b : B) : if (!decide c) = true then A else B := cond_false (by rw [decide_eq_true h]; rfl) b
theorem b2 {A B : Prop} {c : Bool} (h1 : c = true → A) (h2 : c = false → B) : if c = true then A else B := by
  cases c with
  | true => exact cond_true rfl (h1 rfl)
  | false => exact cond_false rfl (h2 rfl)
theorem int_eq {a b : Int} (h : V.int a = V.int b) : a = b := by
  injection h
theorem int_ne {a b : Int} (h : a ≠ b) : ¬ V.int a = V.int b := fun e => h (int_eq e)
theorem str_eq {a b : Str} (h : V.str a = V.str b) : a = b := by
  injection h
theorem str_ne {a b : Str} (h : a ≠ b) : ¬ V.str a = V.str b := fun e => h (str_eq e)
/-- a Fault of this code and place leaves the def -/
def Fails (E : XK) (CF : Addr) (H : Hp) (c p : Nat) : Prop := ∀ H' d, Ex H H' → H' d = some (.xd (FltX.flds (.int (c : Int)) (.int (p : Int)))) → E (.ref CF) (some d) H'
theorem Fails.go {E : XK} {CF : Addr} {H H1 : Hp} {c p : Nat} (h : Fails E CF H c p) (e : Ex H H1) (d : Addr) (hd : H1 d = none) : E (.ref CF) (some d) (upd H1 d (.xd (FltX.flds (.int (c : Int)) (.int (p : Int))))) := h _ d (e.trans (ex_new hd)) upd_same
theorem Fails.mono {E : XK} {CF : Addr} {H H1 : Hp} {c p : Nat} (h : Fails E CF H c p) (e : Ex H H1) : Fails E CF H1 c p := fun H' d e' hd => h H' d (e.trans e') hd
/-! ### bytes as numbers and as texts -/
def bn (b : Bytes) : List Nat := b.map UInt8.toNat
def bS (b : Bytes) : Str := S (bn b)
def bI (b : Bytes) : List V := b.map fun c => V.int (c.toNat : Int)
theorem bI_len (b : Bytes) : (bI b).length = b.length := List.length_map ..
theorem bn_len (b : Bytes) : (bn b).length = b.length := List.length_map ..
theorem bS_len (b : Bytes) : (bS b).length = b.length := (SX.S_len _).trans (bn_len b)
theorem bI_at {b : Bytes} {i : Nat} {c : UInt8} (h : b[i]? = some c) : (bI b)[i]? = some (V.int (c.toNat : Int)) := by
  unfold bI
  rw [List.getElem?_map, h]
  rfl
theorem bI_atI {b : Bytes} {i : Nat} {c : UInt8} (h : b[i]? = some c) : atI (bI b) (i : Int) = some (V.int (c.toNat : Int)) := atI_nat (bI_at h)
theorem bn_inj {a b : Bytes} (h : bn a = bn b) : a = b := by
  refine List.map_inj_right ?_ |>.mp h
  intro x y e
  exact UInt8.toNat_inj.mp e
theorem bS_inj {a b : Bytes} (h : bS a = bS b) : a = b := bn_inj (SX.S_inj h)
theorem bS_app (a b : Bytes) : bS (a ++ b) = bS a ++ bS b := by
  unfold bS bn
  rw [List.map_append, SX.S_cat]

/-! ### expressions and tests that leave the heap as it is (Val, Ans of HandS.Steps), as they stand in the readings -/
section
variable {K : PySem.W.Frag} {σ : L2.St} {H : Hp} {ta tb tc te : TE} {t u : TT} {x y z v : V} {a b : Bool} {i j k : Int} {D : Ends} {t1 t2 : TS}
theorem v_op {r : R2} (ha : Val ta σ H x) (hb : Val tb σ H y) (hr : ∀ Q : VK, Q z H → r x y H Q) : Val (tOp r ta tb) σ H z := fun Q q => ha _ (hb _ (hr _ q))
theorem r_I0 {g : Int → Int → V} : ∀ Q : VK, Q (g i j) H → rI0 g (.int i) (.int j) H Q := fun _ q => ⟨i, j, rfl, rfl, q⟩
theorem v_I0 {g : Int → Int → V} (ha : Val ta σ H (.int i)) (hb : Val tb σ H (.int j)) : Val (tOp (rI0 g) ta tb) σ H (g i j) := v_op ha hb r_I0
theorem w_lt (ha : Val ta σ H (.int i)) (hb : Val tb σ H (.int j)) : Val (tOp (rI0 fun i j => .bl (decide (i < j))) ta tb) σ H (.bl (decide (i < j))) := v_op ha hb fun _ q => ⟨i, j, rfl, rfl, q⟩
theorem w_gt (ha : Val ta σ H (.int i)) (hb : Val tb σ H (.int j)) : Val (tOp (rI0 fun i j => .bl (decide (j < i))) ta tb) σ H (.bl (decide (j < i))) := v_op ha hb fun _ q => ⟨i, j, rfl, rfl, q⟩
theorem w_le (ha : Val ta σ H (.int i)) (hb : Val tb σ H (.int j)) : Val (tOp (rI0 fun i j => .bl (decide (i ≤ j))) ta tb) σ H (.bl (decide (i ≤ j))) := v_op ha hb fun _ q => ⟨i, j, rfl, rfl, q⟩
theorem w_ge (ha : Val ta σ H (.int i)) (hb : Val tb σ H (.int j)) : Val (tOp (rI0 fun i j => .bl (decide (j ≤ i))) ta tb) σ H (.bl (decide (j ≤ i))) := v_op ha hb fun _ q => ⟨i, j, rfl, rfl, q⟩
theorem v_eq (ha : Val ta σ H x) (hb : Val tb σ H y) (hs : scal x y = true) : Val (tOp rEq ta tb) σ H (.bl (decide (x = y))) := v_op ha hb fun _ q => ⟨hs, q⟩
theorem v_ne (ha : Val ta σ H x) (hb : Val tb σ H y) (hs : scal x y = true) : Val (tOp rNe ta tb) σ H (.bl (!decide (x = y))) := v_op ha hb fun _ q => ⟨hs, q⟩
theorem v_eqI (ha : Val ta σ H (.int i)) (hb : Val tb σ H (.int j)) : Val (tOp rEq ta tb) σ H (.bl (decide (i = j))) := v_op ha hb fun _ q => ⟨rfl, by
  have e : decide (V.int i = V.int j) = decide (i = j) := by
    by_cases h : i = j
    · rw [decide_eq_true h, h, decide_eq_true rfl]
    · rw [decide_eq_false h, decide_eq_false (int_ne h)]
  rw [e]
  exact q⟩
theorem v_neI (ha : Val ta σ H (.int i)) (hb : Val tb σ H (.int j)) : Val (tOp rNe ta tb) σ H (.bl (!decide (i = j))) := v_op ha hb fun _ q => ⟨rfl, by
  have e : decide (V.int i = V.int j) = decide (i = j) := by
    by_cases h : i = j
    · rw [decide_eq_true h, h, decide_eq_true rfl]
    · rw [decide_eq_false h, decide_eq_false (int_ne h)]
  rw [e]
  exact q⟩
theorem v_eqS {p q : Str} (ha : Val ta σ H (.str p)) (hb : Val tb σ H (.str q)) : Val (tOp rEq ta tb) σ H (.bl (decide (p = q))) := v_op ha hb fun _ k => ⟨rfl, by
  have e : decide (V.str p = V.str q) = decide (p = q) := by
    by_cases h : p = q
    · rw [decide_eq_true h, h, decide_eq_true rfl]
    · rw [decide_eq_false h, decide_eq_false (str_ne h)]
  rw [e]
  exact k⟩
theorem v_neS {p q : Str} (ha : Val ta σ H (.str p)) (hb : Val tb σ H (.str q)) : Val (tOp rNe ta tb) σ H (.bl (!decide (p = q))) := v_op ha hb fun _ k => ⟨rfl, by
  have e : decide (V.str p = V.str q) = decide (p = q) := by
    by_cases h : p = q
    · rw [decide_eq_true h, h, decide_eq_true rfl]
    · rw [decide_eq_false h, decide_eq_false (str_ne h)]
  rw [e]
  exact k⟩
theorem v_ixL {p : Addr} {xs : List V} (ha : Val ta σ H (.ref p)) (hb : Val tb σ H (.int i)) (h : SqL K H p xs) (he : atI xs i = some v) : Val (tOp (rIxL K) ta tb) σ H v := v_op ha hb fun _ q => ⟨p, xs, i, v, rfl, rfl, h, he, q⟩
theorem v_ixT {p : Addr} {xs : List V} (ha : Val ta σ H (.ref p)) (hb : Val tb σ H (.int i)) (h : SqT K H p xs) (he : atI xs i = some v) : Val (tOp (rIxT K) ta tb) σ H v := v_op ha hb fun _ q => ⟨p, xs, i, v, rfl, rfl, h, he, q⟩
theorem v_lenL {p : Addr} {xs : List V} (ha : Val ta σ H (.ref p)) (h : SqL K H p xs) : Val (tCB (Evl.rLenS K) (tCons ta tNil)) σ H (.int (xs.length : Int)) := fun _ q => ha _ ⟨p, xs, rfl, Or.inl h, q⟩
def rLenStr : List V → Hp → VK → Prop := fun xs H Q => ∃ z, xs = [.str z] ∧ z.length ≤ sizeLine ∧ Q (.int z.length) H
theorem v_lenS {z : Str} (ha : Val ta σ H (.str z)) (h : z.length ≤ 100000) : Val (tCB rLenStr (tCons ta tNil)) σ H (.int (z.length : Int)) := fun _ q => ha _ ⟨z, rfl, Evl.sz_of h, q⟩
theorem v_fld {f : Str} {p C dx : Addr} {fs : List (Str × V)} (ha : Val ta σ H (.ref p)) (ho : H p = some (.ins C dx fs)) (hc : Cls K C) (hn : NoAttr K C f) (hl : fs.lookup f = some v) : Val (tFld K ta f) σ H v := fun _ q => ha _ ⟨p, C, dx, fs, v, rfl, ho, hc, hn, hl, q⟩
theorem a_t (h : Val te σ H (.bl a)) : Ans (tTest te) σ H a := fun _ q => h _ ⟨a, rfl, q⟩
theorem a_v (h : Val te σ H (.bl a)) : Ans (tB te) σ H a := fun _ q => h _ ⟨a, rfl, q⟩
theorem a_and (h1 : Ans t σ H a) (h2 : a = true → Ans u σ H b) : Ans (tAnd t u) σ H (a && b) := fun Q q => h1 _ (by
  cases a with
  | true => exact cond_true rfl (h2 rfl _ q)
  | false => exact cond_false rfl q)
theorem a_or (h1 : Ans t σ H a) (h2 : a = false → Ans u σ H b) : Ans (tOr t u) σ H (a || b) := fun Q q => h1 _ (by
  cases a with
  | true => exact cond_true rfl q
  | false => exact cond_false rfl (h2 rfl _ q))
theorem a_not (h1 : Ans t σ H a) : Ans (tNot t) σ H (!a) := fun _ q => h1 _ q
theorem a_le2 (ha : Val ta σ H (.int i)) (hb : Val tb σ H (.int j)) (hc : Val tc σ H (.int k)) : Ans (tTest (tChain (rI0 fun i j => .bl (decide (i ≤ j))) (rI0 fun i j => .bl (decide (i ≤ j))) ta tb tc)) σ H (decide (i ≤ j) && decide (j ≤ k)) :=
  fun Q q => ha _ (hb _ ⟨i, j, rfl, rfl, _, rfl, by
    by_cases h : i ≤ j
    · rw [decide_eq_true h, Bool.true_and] at q
      exact cy h (hc _ ⟨j, k, rfl, rfl, _, rfl, q⟩)
    · rw [decide_eq_false h, Bool.false_and] at q
      exact cn h ⟨_, rfl, q⟩⟩)
theorem if2 {c : TT} (h : Ans c σ H b) (h1 : b = true → t1 D σ H) (h2 : b = false → t2 D σ H) : tIfS c t1 t2 D σ H := h _ (b2 h1 h2)
theorem when2 {c : TT} (h : Ans c σ H b) (h1 : b = true → t1 { D with nx := t2 D } σ H) (h2 : b = false → t2 D σ H) : tSeq (tIfS c t1 tNext) t2 D σ H := h _ (b2 h1 h2)
theorem while2 {c : TT} {tw : TS} (W : Nat → L2.St → Hp → Prop) (m0 : Nat) (h0 : W m0 σ H)
    (hs : ∀ m σ' H', W m σ' H' → ∃ b, Ans c σ' H' b ∧ (b = true → tw { D with nx := fun σ2 H2 => ∃ m', m' < m ∧ W m' σ2 H2, ct := fun σ2 H2 => ∃ m', m' < m ∧ W m' σ2 H2, bk := D.nx } σ' H') ∧ (b = false → D.nx σ' H')) : tWhile c tw D σ H := by
  refine ⟨W, ⟨m0, h0⟩, fun m σ' H' w => ?_⟩
  obtain ⟨b, hb, h1, h2⟩ := hs m σ' H' w
  exact hb _ (b2 (fun e => ⟨_, fun _ _ n => n, h1 e⟩) h2)
end
/-- arguments that leave the heap as it is -/
def ValA (ta : TA) (σ : L2.St) (H : Hp) (vs : List V) : Prop := ∀ Q : List V → Hp → Prop, Q vs H → ta σ H Q
theorem va_nil {σ : L2.St} {H : Hp} : ValA tNil σ H [] := fun _ q => q
theorem va_cons {σ : L2.St} {H : Hp} {te : TE} {tr : TA} {v : V} {vs : List V} (h : Val te σ H v) (hr : ValA tr σ H vs) : ValA (tCons te tr) σ H (v :: vs) := fun _ q => h _ (hr _ q)
theorem v_call {σ : L2.St} {H : Hp} {ta : TA} {sp : Sp} {dvs vs : List V} {E : XK} {z : V} (h : ValA ta σ H vs) (hs : ∀ Q : VK, Q z H → sp (vs ++ dvs) H Q E) : Val (tCall sp dvs E ta) σ H z := fun Q q => h _ (hs Q q)
theorem upd2 {H : Hp} {a : Addr} {o u : HO} : upd (upd H a o) a u = upd H a u := by
  funext b
  by_cases h : b = a
  · rw [h, upd_same, upd_same]
  · rw [upd_ne h, upd_ne h, upd_ne h]
theorem sq_new {K : PySem.W.Frag} {H : Hp} {a l : Addr} {xs : List V} {o : HO} (h : SqL K H a xs) (hl : H l = none) : SqL K (upd H l o) a xs := Evl.ex_l (ex_new hl) h
/-- a comprehension without a test -/
theorem tyes {σ : L2.St} {H : Hp} {te : TE} {Q : VK} {R : Hp → Prop} (h : te σ H Q) : tYes σ H fun b H3 => if b = true then te σ H3 Q else R H3 := by
  show (if true = true then te σ H Q else R H)
  exact cond_true rfl h
theorem some_at {α : Type} {l : List α} {i : Nat} (h : i < l.length) : l[i]? = some l[i] := List.getElem?_eq_getElem h
theorem drop_at {α : Type} {l : List α} {i : Nat} {c : α} (h : l[i]? = some c) : l.drop i = c :: l.drop (i + 1) := by
  obtain ⟨h1, h2⟩ := List.getElem?_eq_some_iff.mp h
  rw [← h2]
  exact List.drop_eq_getElem_cons h1
end Pw
set_option linter.all false
/-! The specification's lexer without its fuel. -/
namespace Pw
open VahypBase
def Lx (p : Nat) (l : Bytes) : Except Fault Toks := lex (l.length + 1) p l
theorem token_pos {l : Bytes} {x : Tok × Nat} (h : token l = some x) : 0 < x.2 ∧ l ≠ [] := by
  cases l with
  | nil => cases h
  | cons b r =>
    refine ⟨?_, List.cons_ne_nil _ _⟩
    unfold token at h
    by_cases hb : inChunk b = true
    · simp only [hb, if_true] at h
      split at h
      · cases h
      · cases h
        rw [List.takeWhile_cons, if_pos hb]
        exact Nat.succ_pos _
    · simp only [hb] at h
      split at h
      · rename_i h1; exact absurd h1 (by decide)
      · split at h
        · cases h
          exact Nat.one_pos
        · cases h
theorem drop_len (l : Bytes) : l.dropWhile (· != 10) = l.drop (l.takeWhile (· != 10)).length := by
  induction l with
  | nil => rfl
  | cons a r ih =>
    rw [List.dropWhile_cons, List.takeWhile_cons]
    split
    · rw [ih, List.length_cons, List.drop_succ_cons]
    · rfl
theorem lex_fuel : ∀ (k : Nat) (l : Bytes) (p n m : Nat), l.length ≤ k → l.length < n → l.length < m → lex n p l = lex m p l
  | k, l, p, 0, _, _, h, _ => absurd h (Nat.not_lt_zero _)
  | k, l, p, n + 1, 0, _, _, h => absurd h (Nat.not_lt_zero _)
  | k, [], p, n + 1, m + 1, _, _, _ => rfl
  | 0, b :: r, p, n + 1, m + 1, h, _, _ => absurd h (Nat.not_succ_le_zero _)
  | k + 1, b :: r, p, n + 1, m + 1, hk, hn, hm => by
    have hr : r.length ≤ k := Nat.le_of_succ_le_succ hk
    have hn' : r.length < n := Nat.lt_of_succ_lt_succ hn
    have hm' : r.length < m := Nat.lt_of_succ_lt_succ hm
    unfold lex
    split
    · exact lex_fuel k r (p + 1) n m hr hn' hm'
    · split
      · rw [drop_len]
        exact lex_fuel k _ _ n m (Nat.le_trans (by rw [List.length_drop]; omega) hr) (Nat.lt_of_le_of_lt (by rw [List.length_drop]; omega) hn') (Nat.lt_of_le_of_lt (by rw [List.length_drop]; omega) hm')
      · split
        · rfl
        · rename_i x hx
          have hp := (token_pos hx).1
          have e : ((b :: r).drop x.2).length ≤ r.length := by rw [List.length_drop, List.length_cons]; omega
          rw [lex_fuel k _ _ n m (Nat.le_trans e hr) (Nat.lt_of_le_of_lt e hn') (Nat.lt_of_le_of_lt e hm')]
theorem Lx_nil (p : Nat) : Lx p [] = .ok [⟨p, .last⟩] := rfl
theorem Lx_blank {p : Nat} {b : UInt8} {r : Bytes} (h : isBlank b = true) : Lx p (b :: r) = Lx (p + 1) r := by
  show lex (r.length + 1 + 1) p (b :: r) = _
  unfold lex
  rw [if_pos h]
  rfl
theorem Lx_rem {p : Nat} {r : Bytes} : Lx p (35 :: r) = Lx (p + 1 + (r.takeWhile (· != 10)).length) (r.drop (r.takeWhile (· != 10)).length) := by
  show lex (r.length + 1 + 1) p (35 :: r) = _
  unfold lex
  rw [if_neg (by decide), if_pos (by decide), drop_len]
  exact lex_fuel r.length _ _ _ _ (by rw [List.length_drop]; omega) (by rw [List.length_drop]; omega) (Nat.lt_succ_self _)
theorem Lx_bad {p : Nat} {b : UInt8} {r : Bytes} (h1 : isBlank b = false) (h2 : b ≠ 35) (h : token (b :: r) = none) : Lx p (b :: r) = .error ⟨2, p⟩ := by
  show lex (r.length + 1 + 1) p (b :: r) = _
  unfold lex
  rw [if_neg (by rw [h1]; exact Bool.false_ne_true), if_neg (by simpa using h2), h]
theorem Lx_tok {p : Nat} {b : UInt8} {r : Bytes} {x : Tok × Nat} (h1 : isBlank b = false) (h2 : b ≠ 35) (h : token (b :: r) = some x) : Lx p (b :: r) = (Lx (p + x.2) ((b :: r).drop x.2)).map fun l => ⟨p, x.1⟩ :: l := by
  show lex (r.length + 1 + 1) p (b :: r) = _
  unfold lex
  rw [if_neg (by rw [h1]; exact Bool.false_ne_true), if_neg (by simpa using h2), h]
  have hp := (token_pos h).1
  have e : ((b :: r).drop x.2).length ≤ r.length := by rw [List.length_drop, List.length_cons]; omega
  unfold Lx
  show Except.map _ (lex (r.length + 1) (p + x.2) ((b :: r).drop x.2)) = _
  rw [lex_fuel r.length _ _ (r.length + 1) (((b :: r).drop x.2).length + 1) e (by omega) (by omega)]
theorem tokens_eq (b : Bytes) : tokens b = if TEXT < b.length then .error ⟨1, TEXT⟩ else Lx 0 b := rfl
/-- the end, or a place where a token has to stand -/
def Stop (bs : Bytes) (p : Nat) : Prop := p = bs.length ∨ ∃ c, bs[p]? = some c ∧ isBlank c = false ∧ c ≠ 35

/-! ### tokens that the lexer gives -/
def TokOk : Tok → Prop
  | .chunk b => b ≠ [] ∧ (∀ c ∈ b, inChunk c = true) ∧ b.length ≤ 40
  | .sign c => c = 59
  | .last => False
theorem all_takeWhile {p : UInt8 → Bool} : ∀ (l : Bytes), ∀ c ∈ l.takeWhile p, p c = true
  | [], c, h => by cases h
  | a :: r, c, h => by
    rw [List.takeWhile_cons] at h
    split at h
    · rename_i ha
      rcases List.mem_cons.mp h with h | h
      · rw [h]
        exact ha
      · exact all_takeWhile r c h
    · cases h
theorem token_cases (b : UInt8) (r : Bytes) : token (b :: r) =
    if inChunk b = true then (if 40 < ((b :: r).takeWhile inChunk).length then none else some (.chunk ((b :: r).takeWhile inChunk), ((b :: r).takeWhile inChunk).length)) else if b = 59 then some (.sign 59, 1) else none := by
  unfold token
  by_cases h : inChunk b = true
  · simp only [h, if_true]
    rfl
  · by_cases h2 : b = 59
    · simp only [h, h2]
      simp
      rfl
    · simp only [h, h2]
      simp [h2]
theorem token_ok {l : Bytes} {x : Tok × Nat} (h : token l = some x) : TokOk x.1 := by
  cases l with
  | nil => cases h
  | cons b r =>
    rw [token_cases] at h
    by_cases hb : inChunk b = true
    · rw [if_pos hb] at h
      by_cases h2 : 40 < ((b :: r).takeWhile inChunk).length
      · rw [if_pos h2] at h
        cases h
      · rw [if_neg h2] at h
        cases h
        refine ⟨?_, all_takeWhile _, by omega⟩
        rw [List.takeWhile_cons, if_pos hb]
        exact List.cons_ne_nil _ _
    · rw [if_neg hb] at h
      split at h
      · cases h
        rfl
      · cases h
/-- all but the last one are chunks and signs -/
def Good (l : Toks) : Prop := ∃ (pre : Toks) (e : Nat), l = pre ++ [⟨e, .last⟩] ∧ ∀ t ∈ pre, TokOk t.tok
theorem Good.cons {l : Toks} {t : PTok} (h : Good l) (k : TokOk t.tok) : Good (t :: l) := by
  obtain ⟨pre, e, rfl, h⟩ := h
  exact ⟨t :: pre, e, rfl, fun x hx => by
    rcases List.mem_cons.mp hx with hx | hx
    · rw [hx]
      exact k
    · exact h x hx⟩
theorem lex_good : ∀ (n p : Nat) (l : Bytes) (ts : Toks), lex n p l = .ok ts → Good ts
  | 0, p, l, ts, h => by
    cases h
    exact ⟨[], p, rfl, fun _ h => by cases h⟩
  | n + 1, p, [], ts, h => by
    cases h
    exact ⟨[], p, rfl, fun _ h => by cases h⟩
  | n + 1, p, b :: r, ts, h => by
    unfold lex at h
    split at h
    · exact lex_good n _ _ _ h
    · split at h
      · exact lex_good n _ _ _ h
      · split at h
        · cases h
        · rename_i x hx
          cases e : lex n (p + x.2) ((b :: r).drop x.2) with
          | error f => rw [e] at h; cases h
          | ok l => rw [e] at h; cases h; exact (lex_good n _ _ _ e).cons (token_ok hx)
theorem tokens_good {b : Bytes} {ts : Toks} (h : tokens b = .ok ts) : Good ts := by
  unfold tokens at h
  split at h
  · cases h
  · exact lex_good _ _ _ _ h
end Pw
set_option Elab.async false
set_option linter.all false
set_option maxRecDepth 100000
set_option maxHeartbeats 2000000
/-! tokens.py -/
namespace Pw
open PySem PySem.Spec PyProof.Rows L2
open VahypBase (inChunk isLetter isDigit isBlank PTok Toks lex token)
section
variable {P : Program} {w : World} {K : PySem.W.Frag} {mg : Str → Option Value} {base : Heap} {A : Adr}
/-! ### chunk_sign -/
def spSign : Sp := fun vs H Q _ => ∃ c : UInt8, vs = [.int (c.toNat : Int)] ∧ Q (.str (S (if inChunk c = true then [c.toNat] else []))) H
theorem at_letters : ∀ n : Nat, n < 26 → atI (Str.ofString "abcdefghijklmnopqrstuvwxyz").cps.toList (n : Int) = some (97 + n) := by
  have h : ((List.range 26).all fun n => atI (Str.ofString "abcdefghijklmnopqrstuvwxyz").cps.toList (n : Int) == some (97 + n)) = true := by decide +kernel
  intro n hn
  exact eq_of_beq (List.all_eq_true.mp h n (List.mem_range.mpr hn))
theorem at_digits : ∀ n : Nat, n < 10 → atI (Str.ofString "0123456789").cps.toList (n : Int) = some (48 + n) := by
  have h : ((List.range 10).all fun n => atI (Str.ofString "0123456789").cps.toList (n : Int) == some (48 + n)) = true := by decide +kernel
  intro n hn
  exact eq_of_beq (List.all_eq_true.mp h n (List.mem_range.mpr hn))
theorem inChunk_letter {c : UInt8} (h : 97 ≤ c.toNat ∧ c.toNat ≤ 122) : inChunk c = true := by
  unfold inChunk isLetter
  rw [decide_eq_true h]
  rfl
theorem inChunk_digit {c : UInt8} (h : 48 ≤ c.toNat ∧ c.toNat ≤ 57) : inChunk c = true := by
  unfold inChunk isDigit
  rw [decide_eq_true h, Bool.true_or, Bool.or_true]
theorem u8 {c : UInt8} {n : Nat} (hn : n < 256) : c.toNat = n ↔ c = UInt8.ofNat n := by
  constructor
  · intro h
    apply UInt8.toNat_inj.mp
    rw [h, UInt8.toNat_ofNat']
    omega
  · intro h
    rw [h, UInt8.toNat_ofNat']
    omega
theorem inChunk_iff {c : UInt8} : inChunk c = true ↔ (97 ≤ c.toNat ∧ c.toNat ≤ 122) ∨ (48 ≤ c.toNat ∧ c.toNat ≤ 57) ∨ c.toNat = 45 ∨ c.toNat = 46 := by
  unfold inChunk isLetter isDigit
  rw [Bool.or_eq_true, Bool.or_eq_true, Bool.or_eq_true, decide_eq_true_iff, decide_eq_true_iff, beq_iff_eq, beq_iff_eq, u8 (n := 45) (by decide), u8 (n := 46) (by decide)]
  exact Iff.rfl
theorem ok_chunk_sign {f : Addr} {fd : FuncData} (T : Txt K mg A) (a : At K mg "chunk_sign" s_chunk_sign ["byte"] f fd) : C8.Cal P w K mg base 1 "chunk_sign" spSign [] := by
  refine a.cal (ok0 a.fn sc_chunk_sign (fun vs H Q E h => ?_) (fun cdv A outer s H vs Q E hr h => ⟨_, (pss_cons (ps_if (pt_chain op_le op_le pe_int (pv 0) pe_int) (pss_one (ps_ret (pe_ix ix_str (C8.pe_gc rfl T.c_LETTERS) (pe_op op_sub (pv 0) pe_int) (fun _ _ => rfl)))) pss_nil)
  (pss_cons (ps_if (pt_chain op_le op_le pe_int (pv 0) pe_int) (pss_one (ps_ret (pe_ix ix_str (C8.pe_gc rfl T.c_DIGITS) (pe_op op_sub (pv 0) pe_int) (fun _ _ => rfl)))) pss_nil)
  (pss_cons (ps_if (pt_cmpR op_eq (pv 0) pe_int (nomark _)) (pss_one (ps_ret pe_str)) pss_nil)
  (pss_cons (ps_if (pt_cmpR op_eq (pv 0) pe_int (nomark _)) (pss_one (ps_ret pe_str)) pss_nil)
  (pss_one (ps_ret pe_str)))))), ?_⟩) rfl rfl rfl)
  · obtain ⟨c, rfl, _⟩ := h
    rfl
  · obtain ⟨c, rfl, q⟩ := h
    have hc := UInt8.toNat_lt c
    have one : ∀ n : Nat, c.toNat = n → inChunk c = true → (S (if inChunk c = true then [c.toNat] else [])) = ⟨#[n]⟩ := fun n e i => by
      rw [if_pos i, e]
    refine when2 (a_le2 (i := 97) (j := c.toNat) (k := 122) val_c (val_var rfl) val_c) (fun h => ?_) (fun h1 => ?_)
    · rw [Bool.and_eq_true, decide_eq_true_iff, decide_eq_true_iff] at h
      have i := inChunk_letter (c := c) (by omega)
      refine ⟨_, rfl, _, _, rfl, rfl, _, _, 97 + (c.toNat - 97), rfl, rfl, (by decide +kernel), ?_, ?_⟩
      · have e : (c.toNat : Int) - 97 = ((c.toNat - 97 : Nat) : Int) := by omega
        rw [e]
        exact at_letters _ (by omega)
      · rw [one (97 + (c.toNat - 97)) (by omega) i] at q
        exact q
    refine when2 (a_le2 (i := 48) (j := c.toNat) (k := 57) val_c (val_var rfl) val_c) (fun h => ?_) (fun h2 => ?_)
    · rw [Bool.and_eq_true, decide_eq_true_iff, decide_eq_true_iff] at h
      have i := inChunk_digit (c := c) (by omega)
      refine ⟨_, rfl, _, _, rfl, rfl, _, _, 48 + (c.toNat - 48), rfl, rfl, (by decide +kernel), ?_, ?_⟩
      · have e : (c.toNat : Int) - 48 = ((c.toNat - 48 : Nat) : Int) := by omega
        rw [e]
        exact at_digits _ (by omega)
      · rw [one (48 + (c.toNat - 48)) (by omega) i] at q
        exact q
    refine when2 (a_t (v_eqI (val_var rfl) val_c)) (fun h => ?_) (fun h3 => ?_)
    · have e : c.toNat = 45 := by have := of_decide_eq_true h; omega
      rw [one 45 e (inChunk_iff.mpr (by omega))] at q
      exact q
    refine when2 (a_t (v_eqI (val_var rfl) val_c)) (fun h => ?_) (fun h4 => ?_)
    · have e : c.toNat = 46 := by have := of_decide_eq_true h; omega
      rw [one 46 e (inChunk_iff.mpr (by omega))] at q
      exact q
    have n : ¬ inChunk c = true := by
      rw [inChunk_iff]
      have := of_decide_eq_false h3
      have := of_decide_eq_false h4
      rw [Bool.and_eq_false_iff, decide_eq_false_iff_not, decide_eq_false_iff_not] at h1 h2
      omega
    rw [if_neg n] at q
    exact q

/-! ### after_remark -/
def remEnd (bs : Bytes) (p : Nat) : Nat := p + ((bs.drop p).takeWhile (· != 10)).length
theorem remEnd_on {bs : Bytes} {p : Nat} {c : UInt8} (h : bs[p]? = some c) (hc : c ≠ 10) : remEnd bs (p + 1) = remEnd bs p := by
  unfold remEnd
  rw [drop_at h, List.takeWhile_cons, if_pos (by simpa using hc), List.length_cons]
  omega
theorem remEnd_at {bs : Bytes} {p : Nat} (h : bs[p]? = some 10) : remEnd bs p = p := by
  unfold remEnd
  rw [drop_at h, List.takeWhile_cons, if_neg (by decide)]
  rfl
theorem remEnd_end {bs : Bytes} {p : Nat} (h : bs.length ≤ p) : remEnd bs p = p := by
  unfold remEnd
  rw [List.drop_eq_nil_of_le h]
  rfl
theorem remEnd_le {bs : Bytes} {p : Nat} (h : p ≤ bs.length) : remEnd bs p ≤ bs.length := by
  unfold remEnd
  have := (List.takeWhile_sublist (p := (· != 10)) (l := bs.drop p)).length_le
  rw [List.length_drop] at this
  omega
def spRemark (K : PySem.W.Frag) : Sp := fun vs H Q _ => ∃ (a : Addr) (bs : Bytes) (p : Nat), vs = [.ref a, .int (p : Int)] ∧ SqL K H a (bI bs) ∧ p ≤ bs.length ∧ Q (.int (remEnd bs p : Int)) H
theorem ok_after_remark {f : Addr} {fd : FuncData} (T : Txt K mg A) (a : At K mg "after_remark" s_after_remark ["text", "place"] f fd) : C8.Cal P w K mg base 1 "after_remark" (spRemark K) [] := by
  refine a.cal (ok0 a.fn sc_after_remark (fun vs H Q E h => ?_) (fun cdv A outer s H vs Q E hr h => ⟨_, (pss_cons (ps_while PassesOwn.never (PW.pt (pw_and (pt_cmpR op_lt (pv 1) (pe_callB call_len_seq rfl T.len (by decide +kernel) (pa_cons (pv 0) pa_nil)) (nomark _)) (pw_and1 (pt_cmpR op_ne (pe_ix ix_list (pv 0) (pv 1) (fun _ _ => rfl)) (C8.pe_gc rfl T.c_LINE_END) (nomark _))))) (pss_one (ps_aug (i := 1) sc_after_remark.nd rfl (Or.inl rfl) pe_int ip_add)))
  (pss_one (ps_ret (pv 1)))), ?_⟩) rfl rfl rfl)
  · obtain ⟨_, _, _, rfl, _⟩ := h
    rfl
  · obtain ⟨l, bs, p, rfl, hS, hp, q⟩ := h
    refine st_seq (while2 (fun m σ' H' => ∃ p' : Nat, σ' = [some (.ref l), some (.int (p' : Int))] ∧ H' = H ∧ p' ≤ bs.length ∧ m = bs.length - p' ∧ remEnd bs p' = remEnd bs p) _ ⟨p, rfl, rfl, hp, rfl, rfl⟩ ?_)
    rintro m σ H' ⟨p', rfl, rfl, hp', rfl, he⟩
    have hl := v_lenL (K := K) (σ := [some (.ref l), some (.int (p' : Int))]) (ta := tVar 0) (val_var rfl) hS
    rw [bI_len] at hl
    by_cases hlt : p' < bs.length
    · have hc := some_at hlt
      refine ⟨_, a_and (a_t (v_I0 (val_var rfl) hl)) (fun _ => a_t (v_neI (v_ixL (val_var rfl) (val_var rfl) hS (bI_atI hc)) val_c)), fun h => ?_, fun h => ?_⟩
      · rw [Bool.and_eq_true, Bool.not_eq_true', decide_eq_false_iff_not] at h
        have hn : bs[p'] ≠ 10 := fun e => h.2 (by rw [e] <;> rfl)
        refine ⟨_, rfl, _, _, rfl, rfl, bs.length - (p' + 1), by omega, p' + 1, rfl, rfl, by omega, rfl, ?_⟩
        rw [remEnd_on hc hn]
        exact he
      · rw [Bool.and_eq_false_iff, decide_eq_false_iff_not, Bool.not_eq_false', decide_eq_true_iff] at h
        have hn : bs[p'] = 10 := by
          rcases h with h | h
          · exact absurd (by omega) h
          · exact UInt8.toNat_inj.mp (by have : (10 : UInt8).toNat = 10 := rfl; omega)
        rw [hn] at hc
        rw [← he, remEnd_at hc] at q
        exact ⟨_, rfl, q⟩
    · refine ⟨_, a_and (b := false) (a_t (v_I0 (val_var rfl) hl)) (fun h => absurd (of_decide_eq_true h) (by omega)), fun h => ?_, fun h => ?_⟩
      · rw [Bool.and_false] at h
        cases h
      · rw [← he, remEnd_end (by omega)] at q
        exact ⟨_, rfl, q⟩

/-! ### after_blanks -/
theorem Lx_rem_at {bs : Bytes} {p : Nat} (h : bs[p]? = some 35) : Lx p (bs.drop p) = Lx (remEnd bs p) (bs.drop (remEnd bs p)) ∧ p < remEnd bs p := by
  have e1 : remEnd bs p = p + 1 + ((bs.drop (p + 1)).takeWhile (· != 10)).length := (remEnd_on h (by decide)).symm
  constructor
  · rw [drop_at h, Lx_rem, List.drop_drop, e1]
  · omega
theorem blank_iff {c : UInt8} : isBlank c = true ↔ c.toNat = 32 ∨ c.toNat = 9 ∨ c.toNat = 10 := by
  unfold isBlank
  rw [Bool.or_eq_true, Bool.or_eq_true, beq_iff_eq, beq_iff_eq, beq_iff_eq, u8 (n := 32) (by decide), u8 (n := 9) (by decide), u8 (n := 10) (by decide)]
  exact Iff.rfl
theorem inV_blank (c : UInt8) : inV (.int (c.toNat : Int)) [.int 32, .int 9, .int 10] = isBlank c := by
  refine Bool.eq_iff_iff.mpr ?_
  rw [blank_iff]
  show ((32 : Int) == (c.toNat : Int) || ((9 : Int) == (c.toNat : Int) || ((10 : Int) == (c.toNat : Int) || false))) = true ↔ _
  simp only [Bool.or_eq_true, beq_iff_eq, Bool.or_false]
  omega
def spBlanks (K : PySem.W.Frag) : Sp := fun vs H Q _ => ∃ (a : Addr) (bs : Bytes) (p : Nat), vs = [.ref a, .int (p : Int)] ∧ SqL K H a (bI bs) ∧ p ≤ bs.length ∧
  ∀ p' : Nat, p ≤ p' → p' ≤ bs.length → Stop bs p' → Lx p (bs.drop p) = Lx p' (bs.drop p') → Q (.int (p' : Int)) H
theorem ok_after_blanks {f : Addr} {fd : FuncData} (T : Txt K mg A) (a : At K mg "after_blanks" s_after_blanks ["text", "place"] f fd) (d_after_remark : C8.Cal P w K mg base 1 "after_remark" (spRemark K) []) : C8.Cal P w K mg base 2 "after_blanks" (spBlanks K) [] := by
  refine a.cal (ok0 a.fn sc_after_blanks (fun vs H Q E h => ?_) (fun cdv A outer s H vs Q E hr h => ⟨_, (pss_cons (ps_while PassesOwn.never (pt_cmpR op_lt (pv 1) (pe_callB call_len_seq rfl T.len (by decide +kernel) (pa_cons (pv 0) pa_nil)) (nomark _)) (pss_one (ps_if (pt_cmpR op_eq (pe_ix ix_list (pv 0) (pv 1) (fun _ _ => rfl)) (C8.pe_gc rfl T.c_REMARK) (nomark _)) (pss_one (ps_set (i := 1) sc_after_blanks.nd rfl (Or.inl rfl) (C8.pe_c d_after_remark hr (by decide) rfl (by exact (pa_cons (pv 0) (pa_cons (pv 1) pa_nil)))))) (pss_one (ps_if (pt_cmpR op_in_seq (pe_ix ix_list (pv 0) (pv 1) (fun _ _ => rfl)) (C8.pe_gc rfl T.c_BLANKS) (by rfl)) (pss_one (ps_aug (i := 1) sc_after_blanks.nd rfl (Or.inl rfl) pe_int ip_add)) (pss_one (ps_ret (pv 1))))))))
  (pss_one (ps_ret (pv 1)))), ?_⟩) rfl rfl rfl)
  · obtain ⟨_, _, _, rfl, _⟩ := h
    rfl
  · obtain ⟨l, bs, p, rfl, hS, hp, q⟩ := h
    refine st_seq (while2 (fun m σ' H' => ∃ p' : Nat, σ' = [some (.ref l), some (.int (p' : Int))] ∧ H' = H ∧ p ≤ p' ∧ p' ≤ bs.length ∧ m = bs.length - p' ∧ Lx p (bs.drop p) = Lx p' (bs.drop p')) _ ⟨p, rfl, rfl, Nat.le_refl _, hp, rfl, rfl⟩ ?_)
    rintro m σ H' ⟨p', rfl, rfl, hpp, hp', rfl, he⟩
    have hl := v_lenL (K := K) (σ := [some (.ref l), some (.int (p' : Int))]) (ta := tVar 0) (val_var rfl) hS
    rw [bI_len] at hl
    refine ⟨_, a_t (v_I0 (val_var rfl) hl), fun h => ?_, fun h => ?_⟩
    · have hlt : p' < bs.length := by have := of_decide_eq_true h; omega
      have hc := some_at hlt
      refine if2 (a_t (v_eqI (v_ixL (val_var rfl) (val_var rfl) hS (bI_atI hc)) val_c)) (fun h => ?_) (fun h => ?_)
      · have e : bs[p'] = 35 := UInt8.toNat_inj.mp (by have := of_decide_eq_true h; have : (35 : UInt8).toNat = 35 := rfl; omega)
        rw [e] at hc
        obtain ⟨r1, r2⟩ := Lx_rem_at hc
        refine ⟨_, rfl, _, rfl, l, bs, p', rfl, hS, hp', ?_⟩
        have r3 := remEnd_le (bs := bs) (p := p') hp'
        exact ⟨bs.length - remEnd bs p', by omega, remEnd bs p', rfl, rfl, by omega, r3, rfl, he.trans r1⟩
      · have n35 : bs[p'] ≠ 35 := fun e => by
          rw [e] at h
          exact absurd h (by decide)
        have hv := inV_blank bs[p']
        refine if2 (b := isBlank bs[p']) (fun Q q => ⟨_, rfl, _, rfl, _, _, _, _, rfl, rfl, hS, bI_atI hc, _, _, rfl, Or.inr (T.kt_BLANKS _), rfl, rfl, _, rfl, by rw [hv]; exact q⟩) (fun hb => ?_) (fun hb => ?_)
        · refine ⟨_, rfl, _, _, rfl, rfl, bs.length - (p' + 1), by omega, p' + 1, rfl, rfl, by omega, by omega, rfl, ?_⟩
          rw [he, drop_at hc, Lx_blank hb]
        · exact ⟨_, rfl, q p' hpp hp' (.inr ⟨_, hc, hb, n35⟩) he⟩
    · have hge : p' = bs.length := by have := of_decide_eq_false h; omega
      exact ⟨_, rfl, q p' hpp hp' (.inl hge) he⟩

/-! ### chunk_at -/
theorem joinL_single : ∀ l : List Nat, TL.joinL [] (l.map fun c => [c]) = l
  | [] => rfl
  | [a] => rfl
  | a :: b :: r => by
    have ih := joinL_single (b :: r)
    show [a] ++ ([] ++ TL.joinL [] ((b :: r).map fun c => [c])) = a :: b :: r
    rw [ih]
    rfl
theorem join_single (l : List Nat) : Txt.join (Str.ofString "") (l.map fun c => S [c]) = S l := by
  have e : Str.ofString "" = S [] := by decide +kernel
  have h := SX.join_S [] (l.map fun c => [c])
  rw [List.map_map, joinL_single] at h
  rw [e]
  exact h
def sgn (c : UInt8) : Str := S (if inChunk c = true then [c.toNat] else [])
theorem sgn_empty (c : UInt8) : (!decide (sgn c = Str.ofString "")) = inChunk c := by
  have e : Str.ofString "" = S [] := by decide +kernel
  unfold sgn
  rw [e]
  by_cases h : inChunk c = true
  · rw [if_pos h, h, decide_eq_false (fun z => by have := SX.S_inj z; cases this)]
    rfl
  · rw [if_neg h, decide_eq_true rfl]
    simpa using h
def sgs (cs : Bytes) : List V := cs.map fun c => V.str (S [c.toNat])
def spChunk (K : PySem.W.Frag) : Sp := fun vs H Q _ => ∃ (a : Addr) (bs : Bytes) (p : Nat), vs = [.ref a, .int (p : Int)] ∧ SqL K H a (bI bs) ∧ p ≤ bs.length ∧ bs.length ≤ 8192 ∧
  ∀ H', Ex H H' → Q (.str (bS ((bs.drop p).takeWhile inChunk))) H'
theorem ok_chunk_at {f : Addr} {fd : FuncData} (T : Txt K mg A) (a : At K mg "chunk_at" s_chunk_at ["text", "place"] f fd) (d_chunk_sign : C8.Cal P w K mg base 1 "chunk_sign" spSign []) : C8.Cal P w K mg base 2 "chunk_at" (spChunk K) [] := by
  refine a.cal (ok0 a.fn sc_chunk_at (fun vs H Q E h => ?_) (fun cdv A outer s H vs Q E hr h => ⟨_, (pss_cons (ps_set (i := 2) sc_chunk_at.nd rfl (Or.inl rfl) (pe_lst pa_nil))
  (pss_cons (ps_while PassesOwn.never (PW.pt (pw_and (pt_cmpR op_lt (pv 1) (pe_callB call_len_seq rfl T.len (by decide +kernel) (pa_cons (pv 0) pa_nil)) (nomark _)) (pw_and1 (pt_cmpR op_ne (C8.pe_c d_chunk_sign hr (by decide) rfl (by exact (pa_cons (pe_ix ix_list (pv 0) (pv 1) (fun _ _ => rfl)) pa_nil))) pe_str (nomark _))))) (pss_cons (ps_expr (pe_bm PySem.F.plainAttrs_list PySem.F.slot_list_append PySem.F.type_list_append mt_append (pv 2) (pa_cons (C8.pe_c d_chunk_sign hr (by decide) rfl (by exact (pa_cons (pe_ix ix_list (pv 0) (pv 1) (fun _ _ => rfl)) pa_nil))) pa_nil)))
    (pss_one (ps_aug (i := 1) sc_chunk_at.nd rfl (Or.inl rfl) pe_int ip_add))))
  (pss_one (ps_ret (pe_join pe_str (pv 2)))))), ?_⟩) rfl rfl rfl)
  · obtain ⟨_, _, _, rfl, _⟩ := h
    rfl
  · obtain ⟨tx, bs, p, rfl, hS, hp, hz, q⟩ := h
    refine ⟨by show 0 ≤ sizeLine; decide, fun l hl => ?_⟩
    refine st_seq (while2 (fun m σ' H' => ∃ (p' : Nat) (cs : Bytes), σ' = [some (.ref tx), some (.int (p' : Int)), some (.ref l)] ∧ H' = upd H l (.lst (sgs cs)) ∧ p' ≤ bs.length ∧ m = bs.length - p' ∧ cs.length ≤ p' ∧
      (∀ c ∈ cs, inChunk c = true) ∧ (bs.drop p).takeWhile inChunk = cs ++ (bs.drop p').takeWhile inChunk) _ ⟨p, [], rfl, rfl, hp, rfl, Nat.zero_le _, (fun _ h => by cases h), rfl⟩ ?_)
    rintro m σ H' ⟨p', cs, rfl, rfl, hp', rfl, hcs, hall, he⟩
    have hS' : SqL K (upd H l (.lst (sgs cs))) tx (bI bs) := sq_new hS hl
    have hlen := v_lenL (K := K) (σ := [some (.ref tx), some (.int (p' : Int)), some (.ref l)]) (ta := tVar 0) (val_var rfl) hS'
    rw [bI_len] at hlen
    have fin : (bs.drop p').takeWhile inChunk = [] → tRet (tM1 (fun x xs H Q => ∃ a p ys, x = V.str a ∧ xs = [V.ref p] ∧ (SqL K H p (List.map V.str ys) ∨ SqT K H p (List.map V.str ys)) ∧ List.sum (List.map (fun x => Str.length x) ys) + List.length ys * Str.length a ≤ 16777216 ∧ Q (V.str (Txt.join a ys)) H) (tC (.str (Str.ofString ""))) (tVar 2)) { nx := fun _ H' => Q .non H', rt := Q } [some (.ref tx), some (.int (p' : Int)), some (.ref l)] (upd H l (.lst (sgs cs))) := fun hnil => by
      rw [hnil, List.append_nil] at he
      have hm : sgs cs = (cs.map fun c => S [c.toNat]).map V.str := by rw [List.map_map]; rfl
      refine ⟨⟨_, rfl⟩, _, rfl, _, l, cs.map fun c => S [c.toNat], rfl, rfl, .inl (SqL.of (by rw [upd_same, hm])), ?_, ?_⟩
      · have e0 : (Str.ofString "").length = 0 := by decide +kernel
        have e1 : ∀ l : Bytes, ((l.map fun c => S [c.toNat]).map fun x => Str.length x).sum = l.length := fun l => by
          induction l with
          | nil => rfl
          | cons a r ih =>
            rw [List.map_cons, List.map_cons, List.sum_cons, ih, SX.S_len, List.length_cons]
            show 1 + r.length = r.length + 1
            omega
        rw [e0, e1]
        omega
      · have ej : Txt.join (Str.ofString "") (cs.map fun c => S [c.toNat]) = bS cs := by
          have := join_single (bn cs)
          unfold bn at this
          rw [List.map_map] at this
          exact this
        rw [ej, ← he]
        exact q _ (ex_new hl)
    by_cases hlt : p' < bs.length
    · have hc := some_at hlt
      have hix : Val (tOp (rIxL K) (tVar 0) (tVar 1)) [some (.ref tx), some (.int (p' : Int)), some (.ref l)] (upd H l (.lst (sgs cs))) (.int (bs[p'].toNat : Int)) := v_ixL (val_var rfl) (val_var rfl) hS' (bI_atI hc)
      have hsg : Val (tCall spSign [] C8.E0 (tCons (tOp (rIxL K) (tVar 0) (tVar 1)) tNil)) [some (.ref tx), some (.int (p' : Int)), some (.ref l)] (upd H l (.lst (sgs cs))) (.str (sgn bs[p'])) :=
        v_call (va_cons hix va_nil) fun _ q => ⟨bs[p'], rfl, q⟩
      refine ⟨_, a_and (a_t (v_I0 (val_var rfl) hlen)) (fun _ => a_t (v_neS hsg val_c)), fun h => ?_, fun h => ?_⟩
      · rw [Bool.and_eq_true, sgn_empty] at h
        have hd : (bs.drop p').takeWhile inChunk = bs[p'] :: (bs.drop (p' + 1)).takeWhile inChunk := by rw [drop_at hc, List.takeWhile_cons, if_pos h.2]
        refine ⟨_, rfl, .inl ⟨rfl, _, SqL.of upd_same⟩, ?_⟩
        refine hsg _ ?_
        refine ⟨l, sgs cs, _, rfl, rfl, upd_same, Evl.sz_lt (by unfold sgs; rw [List.length_map]; omega), ?_⟩
        refine ⟨_, rfl, _, _, rfl, rfl, bs.length - (p' + 1), by omega, p' + 1, cs ++ [bs[p']], rfl, ?_, by omega, rfl, by rw [List.length_append]; show cs.length + 1 ≤ _; omega, ?_, ?_⟩
        · rw [upd2]
          unfold sgs sgn
          rw [List.map_append, if_pos h.2]
          rfl
        · intro c hm
          rcases List.mem_append.mp hm with hm | hm
          · exact hall c hm
          · rw [List.mem_singleton.mp hm]
            exact h.2
        · rw [he, hd, List.append_assoc]
          rfl
      · rw [sgn_empty, decide_eq_true (show (p' : Int) < (bs.length : Int) by omega), Bool.true_and] at h
        refine fin ?_
        rw [drop_at hc, List.takeWhile_cons, if_neg (by rw [h]; exact Bool.false_ne_true)]
    · refine ⟨_, a_and (b := false) (a_t (v_I0 (val_var rfl) hlen)) (fun h => absurd (of_decide_eq_true h) (by omega)), fun h => ?_, fun h => ?_⟩
      · rw [Bool.and_false] at h
        cases h
      · refine fin ?_
        rw [List.drop_eq_nil_of_le (by omega)]
        rfl

/-! ### token_at -/
def tokS : VahypBase.Tok → Str
  | .chunk b => bS b
  | .sign c => S [c]
  | .last => S []
theorem semi : Str.ofString ";" = S [59] := by decide +kernel
theorem emp : Str.ofString "" = S [] := by decide +kernel
def spToken (K : PySem.W.Frag) (CF : Addr) : Sp := fun vs H Q E => ∃ (a : Addr) (bs : Bytes) (p : Nat), vs = [.ref a, .int (p : Int)] ∧ SqL K H a (bI bs) ∧ p < bs.length ∧ bs.length ≤ 8192 ∧
  (token (bs.drop p) = none → Fails E CF H 2 p) ∧ (∀ x, token (bs.drop p) = some x → ∀ H', Ex H H' → Q (.str (tokS x.1)) H')
theorem ok_token_at {f : Addr} {fd : FuncData} (T : Txt K mg A) (a : At K mg "token_at" s_token_at ["text", "place"] f fd) (d_chunk_at : C8.Cal P w K mg base 2 "chunk_at" (spChunk K) []) : CalX P w K mg base 4 "token_at" (spToken K A.Fault) := by
  refine a.calX (okX a.fn sc_token_at (fun vs H Q E h => ?_) (fun cdv A outer s H vs Q E hr h => ⟨_, (pss_cons (ps_if (pt_cmpR op_eq (pe_ix ix_list (pv 0) (pv 1) (fun _ _ => rfl)) (C8.pe_gc rfl T.c_SEMICOLON) (nomark _)) (pss_one (ps_ret pe_str)) pss_nil)
  (pss_cons (ps_set (i := 2) sc_token_at.nd rfl (Or.inl rfl) (C8.pe_c d_chunk_at hr (by decide) rfl (by exact (pa_cons (pv 0) (pa_cons (pv 1) pa_nil)))))
  (pss_cons (ps_if (PW.pt (pw_or (pt_cmpR op_eq (pv 2) pe_str (nomark _)) (pw_or1 (pt_cmpR op_gt (pe_callB call_len_str rfl T.len (by decide +kernel) (pa_cons (pv 2) pa_nil)) (C8.pe_gc rfl T.c_LONGEST_CHUNK) (nomark _))))) (pss_one (FltX.ps_raiseF rfl T.flt hr (takes_of rfl rfl rfl rfl) (by exact (pa_cons pe_int (pa_cons (pv 1) pa_nil))))) pss_nil)
  (pss_one (ps_ret (pv 2)))))), ?_⟩) rfl rfl rfl)
  · obtain ⟨_, _, _, rfl, _⟩ := h
    rfl
  · obtain ⟨tx, bs, p, rfl, hS, hp, hz, qE, q⟩ := h
    have hc := some_at hp
    have hd := drop_at hc
    have tc := token_cases bs[p] (bs.drop (p + 1))
    rw [← hd] at tc
    refine when2 (a_t (v_eqI (v_ixL (val_var rfl) (val_var rfl) hS (bI_atI hc)) val_c)) (fun h => ?_) (fun h => ?_)
    · have e : bs[p] = 59 := UInt8.toNat_inj.mp (by have := of_decide_eq_true h; have : (59 : UInt8).toNat = 59 := rfl; omega)
      rw [e, if_neg (by decide), if_pos rfl] at tc
      have := q _ tc H (Evl.Ex.refl _)
      have e2 : tokS (.sign 59) = Str.ofString ";" := semi.symm
      rw [e2] at this
      exact this
    · have n59 : bs[p] ≠ 59 := fun e => by
        rw [e] at h
        exact absurd h (by decide)
      rw [if_neg n59] at tc
      refine ⟨_, rfl, _, rfl, tx, bs, p, rfl, hS, Nat.le_of_lt hp, hz, fun H1 e1 => ?_⟩
      have hln : ((bs.drop p).takeWhile inChunk).length ≤ bs.length := by
        have := (List.takeWhile_sublist (p := inChunk) (l := bs.drop p)).length_le
        rw [List.length_drop] at this
        omega
      have hv : Val (tVar 2) [some (.ref tx), some (.int (p : Int)), some (.str (bS ((bs.drop p).takeWhile inChunk)))] H1 (.str (bS ((bs.drop p).takeWhile inChunk))) := val_var rfl
      have hlen := v_lenS hv (by rw [bS_len]; omega)
      rw [bS_len] at hlen
      refine when2 (a_or (a_t (v_eqS hv val_c)) (fun _ => a_t (v_I0 hlen val_c))) (fun h => ?_) (fun h => ?_)
      · have tn : token (bs.drop p) = none := by
          rw [tc]
          by_cases hb : inChunk bs[p] = true
          · rw [if_pos hb]
            rw [Bool.or_eq_true, decide_eq_true_iff, decide_eq_true_iff] at h
            rcases h with h | h
            · rw [emp] at h
              have h0 := congrArg Str.length h
              rw [bS_len, SX.S_len, hd, List.takeWhile_cons, if_pos hb] at h0
              cases h0
            · rw [if_pos (by omega)]
          · rw [if_neg hb]
        exact ⟨_, rfl, _, _, rfl, fun d hd => (qE tn).go e1 d hd⟩
      · rw [Bool.or_eq_false_iff, decide_eq_false_iff_not, decide_eq_false_iff_not] at h
        have hb : inChunk bs[p] = true := by
          by_cases hb : inChunk bs[p] = true
          · exact hb
          · refine absurd ?_ h.1
            rw [hd, List.takeWhile_cons, if_neg hb, emp]
            rfl
        rw [if_pos hb, if_neg (by omega)] at tc
        exact ⟨_, rfl, q _ tc H1 e1⟩
/-! ### tokens_of -/
/-- the tuples of tokens, by their addresses -/
def TokRefs (H : Hp) (as : List Addr) (ts : Toks) : Prop := as.length = ts.length ∧ ∀ (i : Nat) (a : Addr) (t : PTok), as[i]? = some a → ts[i]? = some t → H a = some (.tup [.int (t.place : Int), .str (tokS t.tok)])
def ToksAt (H : Hp) (t : Addr) (ts : Toks) : Prop := ∃ as : List Addr, H t = some (.lst (as.map V.ref)) ∧ TokRefs H as ts
theorem TokRefs.mono {H H' : Hp} {as : List Addr} {ts : Toks} (h : TokRefs H as ts) (e : Ex H H') : TokRefs H' as ts := ⟨h.1, fun i a t h1 h2 => e a _ (h.2 i a t h1 h2)⟩
theorem ToksAt.mono {H H' : Hp} {t : Addr} {ts : Toks} (h : ToksAt H t ts) (e : Ex H H') : ToksAt H' t ts := by
  obtain ⟨as, h1, h2⟩ := h
  exact ⟨as, e _ _ h1, h2.mono e⟩
theorem TokRefs.push {H : Hp} {as : List Addr} {ts : Toks} {l q : Addr} {xs ys : List V} {t : PTok} (h : TokRefs H as ts) (hl : H l = some (.lst xs)) (hq : H q = none) :
    TokRefs (upd (upd H q (.tup [.int (t.place : Int), .str (tokS t.tok)])) l (.lst ys)) (as ++ [q]) (ts ++ [t]) := by
  have ql : q ≠ l := fun e => by rw [e, hl] at hq; cases hq
  refine ⟨by rw [List.length_append, List.length_append, h.1]; rfl, fun i a u h1 h2 => ?_⟩
  by_cases hi : i < as.length
  · rw [List.getElem?_append_left hi] at h1
    rw [List.getElem?_append_left (by rw [← h.1]; exact hi)] at h2
    have ha := h.2 i a u h1 h2
    have al : a ≠ l := fun e => by rw [e, hl] at ha; cases ha
    have aq : a ≠ q := fun e => by rw [e, hq] at ha; cases ha
    rw [upd_ne al, upd_ne aq]
    exact ha
  · have hi' : i = as.length := by
      have := (List.getElem?_eq_some_iff.mp h1).1
      rw [List.length_append] at this
      have : [q].length = 1 := rfl
      omega
    subst hi'
    rw [List.getElem?_append_right (Nat.le_refl _), Nat.sub_self] at h1
    rw [List.getElem?_append_right (by rw [h.1]; exact Nat.le_refl _), h.1, Nat.sub_self] at h2
    cases h1
    cases h2
    rw [upd_ne ql, upd_same]
def spTokens (K : PySem.W.Frag) (CF : Addr) : Sp := fun vs H Q E => ∃ (a : Addr) (bs : Bytes), vs = [.ref a] ∧ SqL K H a (bI bs) ∧ bs.length ≤ 8192 ∧
  (∀ f, VahypBase.tokens bs = .error f → Fails E CF H f.code f.place) ∧ (∀ ts, VahypBase.tokens bs = .ok ts → ∀ H' t, Ex H H' → H t = none → ToksAt H' t ts → Q (.ref t) H')
theorem ok_tokens_of {f : Addr} {fd : FuncData} (T : Txt K mg A) (a : At K mg "tokens_of" s_tokens_of ["text"] f fd) (d_after_blanks : C8.Cal P w K mg base 2 "after_blanks" (spBlanks K) []) (d_token_at : CalX P w K mg base 4 "token_at" (spToken K A.Fault)) : CalX P w K mg base 5 "tokens_of" (spTokens K A.Fault) := by
  refine a.calX (okX a.fn sc_tokens_of (fun vs H Q E h => ?_) (fun cdv A outer s H vs Q E hr h => ⟨_, (pss_cons (ps_if (pt_cmpR op_gt (pe_callB call_len_seq rfl T.len (by decide +kernel) (pa_cons (pv 0) pa_nil)) (C8.pe_gc rfl T.c_MOST_BYTES) (nomark _)) (pss_one (FltX.ps_raiseF rfl T.flt hr (takes_of rfl rfl rfl rfl) (by exact (pa_cons pe_int (pa_cons (C8.pe_gc rfl T.c_MOST_BYTES) pa_nil))))) pss_nil)
  (pss_cons (ps_set (i := 1) sc_tokens_of.nd rfl (Or.inl rfl) (pe_lst pa_nil))
  (pss_cons (ps_set (i := 2) sc_tokens_of.nd rfl (Or.inl rfl) (C8.pe_c d_after_blanks hr (by decide) rfl (by exact (pa_cons (pv 0) (pa_cons pe_int pa_nil)))))
  (pss_cons (ps_while (passes_of rfl) (pt_cmpR op_lt (pv 2) (pe_callB call_len_seq rfl T.len (by decide +kernel) (pa_cons (pv 0) pa_nil)) (nomark _)) (pss_cons (ps_set (i := 3) sc_tokens_of.nd rfl (Or.inl rfl) (pe_cX d_token_at hr (by decide) rfl (outX (takes_of rfl rfl rfl rfl) rfl) (by exact (pa_cons (pv 0) (pa_cons (pv 2) pa_nil)))))
    (pss_cons (ps_expr (pe_bm PySem.F.plainAttrs_list PySem.F.slot_list_append PySem.F.type_list_append mt_append (pv 1) (pa_cons (pe_tup (pa_cons (pv 2) (pa_cons (pv 3) pa_nil))) pa_nil)))
    (pss_one (ps_set (i := 2) sc_tokens_of.nd rfl (Or.inl rfl) (C8.pe_c d_after_blanks hr (by decide) rfl (by exact (pa_cons (pv 0) (pa_cons (pe_op op_add (pv 2) (pe_callB call_len_str rfl T.len (by decide +kernel) (pa_cons (pv 3) pa_nil))) pa_nil)))))))))
  (pss_cons (ps_expr (pe_bm PySem.F.plainAttrs_list PySem.F.slot_list_append PySem.F.type_list_append mt_append (pv 1) (pa_cons (pe_tup (pa_cons (pe_callB call_len_seq rfl T.len (by decide +kernel) (pa_cons (pv 0) pa_nil)) (pa_cons pe_str pa_nil))) pa_nil)))
  (pss_one (ps_ret (pv 1)))))))), ?_⟩) rfl rfl rfl)
  · obtain ⟨_, _, rfl, _⟩ := h
    rfl
  · obtain ⟨tx, bs, rfl, hS, hz, qE, q⟩ := h
    have hlen := v_lenL (K := K) (σ := [some (.ref tx), none, none, none]) (ta := tVar 0) (val_var rfl) hS
    rw [bI_len] at hlen
    refine when2 (a_t (v_I0 hlen val_c)) (fun h => ?_) (fun h => ?_)
    · have hb : VahypBase.TEXT < bs.length := by have := of_decide_eq_true h; show 4096 < bs.length; omega
      have ht : VahypBase.tokens bs = .error ⟨1, VahypBase.TEXT⟩ := by rw [tokens_eq, if_pos hb]
      exact ⟨_, _, rfl, fun d hd => (qE _ ht).go (Evl.Ex.refl _) d hd⟩
    · have hb : ¬ VahypBase.TEXT < bs.length := by have := of_decide_eq_false h; show ¬ 4096 < bs.length; omega
      have hb' : bs.length ≤ 4096 := Nat.le_of_not_lt hb
      have ht : VahypBase.tokens bs = Lx 0 bs := by rw [tokens_eq, if_neg hb]
      refine ⟨by show 0 ≤ sizeLine; decide, fun l hl => ?_⟩
      refine ⟨_, rfl, tx, bs, 0, rfl, sq_new hS hl, Nat.zero_le _, fun p0 _ hp0 hst0 he0 => ?_⟩
      rw [List.drop_zero] at he0
      refine st_seq (while2 (fun m σ' H' => ∃ (p : Nat) (pre : Toks) (as : List Addr) (v : Option V), σ' = [some (.ref tx), some (.ref l), some (.int (p : Int)), v] ∧ Ex H H' ∧ H' l = some (.lst (as.map V.ref)) ∧ TokRefs H' as pre ∧ p ≤ bs.length ∧ m = bs.length - p ∧
        as.length ≤ p ∧ Stop bs p ∧ Lx 0 bs = (Lx p (bs.drop p)).map fun r => pre ++ r) _ ⟨p0, [], [], none, rfl, ex_new hl, upd_same, ⟨rfl, fun i a t h => by cases h⟩, hp0, rfl, Nat.zero_le _, hst0, ?_⟩ ?_)
      · rw [he0]
        cases Lx p0 (bs.drop p0) <;> rfl
      rintro m σ H' ⟨p, pre, as, v, rfl, eH, hL, hT, hp, rfl, has, hst, he⟩
      have hS' : SqL K H' tx (bI bs) := Evl.ex_l eH hS
      have hlen' := v_lenL (K := K) (σ := [some (.ref tx), some (.ref l), some (.int (p : Int)), v]) (ta := tVar 0) (val_var rfl) hS'
      rw [bI_len] at hlen'
      refine ⟨_, a_t (v_I0 (val_var rfl) hlen'), fun h => ?_, fun h => ?_⟩
      · have hlt : p < bs.length := by have := of_decide_eq_true h; omega
        obtain ⟨c, hc, hnb, hn35⟩ : ∃ c, bs[p]? = some c ∧ isBlank c = false ∧ c ≠ 35 := by
          rcases hst with hst | hst
          · omega
          · exact hst
        have hd := drop_at hc
        refine ⟨_, rfl, _, rfl, tx, bs, p, rfl, hS', hlt, hz, fun tn => ?_, fun x tx' H1 e1 => ?_⟩
        · rw [hd] at tn
          rw [hd, Lx_bad hnb hn35 tn] at he
          exact (qE _ (ht.trans he)).mono eH
        · rw [hd] at tx'
          rw [hd, Lx_tok hnb hn35 tx', ← hd] at he
          have hpos := (token_pos tx').1
          have hxl : x.2 = (tokS x.1).length := by
            rw [token_cases] at tx'
            split at tx'
            · split at tx'
              · cases tx'
              · cases tx'
                exact (bS_len _).symm
            · split at tx'
              · cases tx'
                rfl
              · cases tx'
          have hxm : p + x.2 ≤ bs.length := by
            rw [token_cases] at tx'
            split at tx'
            · split at tx'
              · cases tx'
              · cases tx'
                have := (List.takeWhile_sublist (p := inChunk) (l := c :: bs.drop (p + 1))).length_le
                rw [← hd, List.length_drop] at this
                show p + ((c :: bs.drop (p + 1)).takeWhile inChunk).length ≤ _
                rw [← hd]
                omega
            · split at tx'
              · cases tx'
                show p + 1 ≤ _
                omega
              · cases tx'
          have hL1 : H1 l = some (.lst (as.map V.ref)) := e1 _ _ hL
          refine ⟨_, rfl, .inl ⟨rfl, _, SqL.of hL1⟩, _, rfl, _, rfl, by show 2 ≤ sizeLine; decide, fun t0 ht0 => ?_⟩
          have t0l : t0 ≠ l := fun e => by rw [e, hL1] at ht0; cases ht0
          refine ⟨l, _, _, rfl, rfl, (by rw [upd_ne (Ne.symm t0l)]; exact hL1), Evl.sz_lt (by rw [List.length_map]; omega), ?_⟩
          have hT2 : TokRefs (upd (upd H1 t0 (.tup [.int (p : Int), .str (tokS x.1)])) l (.lst (as.map V.ref ++ [.ref t0]))) (as ++ [t0]) (pre ++ [⟨p, x.1⟩]) := (hT.mono e1).push (t := ⟨p, x.1⟩) hL1 ht0
          have eH2 : Ex H (upd (upd H1 t0 (.tup [.int (p : Int), .str (tokS x.1)])) l (.lst (as.map V.ref ++ [.ref t0]))) := Evl.Ex.mut ((eH.trans e1).trans (ex_new ht0)) hl
          have hx40 : (tokS x.1).length ≤ 100000 := by rw [← hxl]; omega
          refine ⟨_, rfl, _, rfl, _, rfl, _, rfl, Evl.sz_of hx40, _, _, rfl, rfl, tx, bs, p + x.2, ?_, Evl.ex_l eH2 hS, hxm, fun p2 hp2 hp2' hst2 he2 => ?_⟩
          · rw [← hxl]
            rfl
          · refine ⟨bs.length - p2, by omega, p2, pre ++ [⟨p, x.1⟩], as ++ [t0], _, rfl, eH2, ?_, hT2, hp2', rfl, ?_, hst2, ?_⟩
            · rw [upd_same, List.map_append]
              rfl
            · rw [List.length_append]
              show as.length + 1 ≤ p2
              omega
            · rw [he, List.drop_drop, he2]
              cases Lx p2 (bs.drop p2) with
              | error f => rfl
              | ok r =>
                show Except.ok (pre ++ (⟨p, x.1⟩ :: r)) = Except.ok (pre ++ [⟨p, x.1⟩] ++ r)
                rw [List.append_assoc]
                rfl
      · have hge : p = bs.length := by have := of_decide_eq_false h; omega
        subst hge
        rw [List.drop_length, Lx_nil] at he
        refine ⟨_, rfl, .inl ⟨rfl, _, SqL.of hL⟩, _, rfl, tx, bI bs, rfl, .inl hS', by show 2 ≤ sizeLine; decide, fun t0 ht0 => ?_⟩
        have t0l : t0 ≠ l := fun e => by rw [e, hL] at ht0; cases ht0
        refine ⟨l, _, _, rfl, rfl, (by rw [upd_ne (Ne.symm t0l)]; exact hL), Evl.sz_lt (by rw [List.length_map]; omega), _, rfl, ?_⟩
        have hT2 := hT.push (t := ⟨bs.length, .last⟩) (ys := as.map V.ref ++ [.ref t0]) hL ht0
        rw [bI_len]
        refine q _ (ht.trans he) _ l (Evl.Ex.mut (eH.trans (ex_new ht0)) hl) hl ⟨as ++ [t0], ?_, ?_⟩
        · rw [upd_same, List.map_append]
          rfl
        · have es : tokS .last = Str.ofString "" := emp.symm
          rw [es] at hT2
          exact hT2
end
end Pw
set_option linter.all false
/-! Words and patterns read: the specification's readers against the program's way (split at -, sign by sign). -/
namespace Pw
open VahypBase Vahypa
/-! ### words -/
/-- cut at each - -/
def cutB : Bytes → Bytes → List Bytes
  | acc, [] => [acc]
  | acc, c :: r => if c = 45 then acc :: cutB [] r else cutB (acc ++ [c]) r
/-- the program's loop: letters so far, the length behind each part -/
def wordParts : List Bytes → Bytes → List Nat → Option (Bytes × List Nat)
  | [], x, gs => some (x, gs)
  | p :: r, x, gs => if p ≠ [] ∧ p.all isLetter = true then wordParts r (x ++ p) (gs ++ [(x ++ p).length]) else none
def wfin (p : Bytes × List Nat) : Word := ⟨p.1, p.2.dropLast⟩
theorem wordBy_cons (n : Nat) (c : UInt8) (r x : Bytes) (cs : List Nat) : wordBy (n + 1) (c :: r) x cs =
    if isLetter c = true then wordBy n r (x ++ [c]) cs
    else if (c == 45) = true ∧ x ≠ [] ∧ cs.contains x.length = false then (match r with
        | d :: _ => if isLetter d = true then wordBy n r x (cs ++ [x.length]) else none
        | [] => none)
      else none := by
  conv => lhs; unfold wordBy
  cases r <;> rfl
theorem wordBy_nil (n : Nat) (x : Bytes) (cs : List Nat) : wordBy (n + 1) [] x cs = some ⟨x, cs⟩ := by
  conv => lhs; unfold wordBy
theorem notLetter_45 : isLetter 45 = false := by decide
theorem cutB_head : ∀ (l acc : Bytes), ∃ e r, cutB acc l = (acc ++ e) :: r
  | [], acc => ⟨[], [], by rw [List.append_nil]; rfl⟩
  | c :: r, acc => by
    unfold cutB
    split
    · exact ⟨[], cutB [] r, by rw [List.append_nil]⟩
    · obtain ⟨e, s, h⟩ := cutB_head r (acc ++ [c])
      exact ⟨c :: e, s, by rw [h, List.append_assoc]; rfl⟩
theorem wordParts_bad {acc l : Bytes} {x : Bytes} {gs : List Nat} (h : acc.all isLetter = false) : wordParts (cutB acc l) x gs = none := by
  obtain ⟨e, r, h2⟩ := cutB_head l acc
  rw [h2]
  unfold wordParts
  rw [if_neg]
  intro z
  have := z.2
  rw [List.all_append, h] at this
  cases this
theorem wordBy_parts : ∀ (k : Nat) (l acc x : Bytes) (gs : List Nat) (n : Nat), l.length ≤ k → l.length < n → acc ≠ [] → acc.all isLetter = true → (∀ g ∈ gs, g ≤ x.length) →
    wordBy n l (x ++ acc) gs = (wordParts (cutB acc l) x gs).map wfin
  | k, l, acc, x, gs, 0, _, h, _, _, _ => absurd h (Nat.not_lt_zero _)
  | k, [], acc, x, gs, n + 1, _, _, ha, hl, _ => by
    rw [wordBy_nil]
    unfold cutB wordParts
    rw [if_pos ⟨ha, hl⟩]
    unfold wordParts
    show some (Word.mk (x ++ acc) gs) = some (Word.mk (x ++ acc) (gs ++ [(x ++ acc).length]).dropLast)
    rw [List.dropLast_concat]
  | 0, c :: r, acc, x, gs, n + 1, hk, _, _, _, _ => absurd hk (Nat.not_succ_le_zero _)
  | k + 1, c :: r, acc, x, gs, n + 1, hk, hn, ha, hl, hg => by
    have hk' : r.length ≤ k := Nat.le_of_succ_le_succ hk
    have hn' : r.length < n := Nat.lt_of_succ_lt_succ hn
    rw [wordBy_cons]
    unfold cutB
    by_cases hc : isLetter c = true
    · have n45 : c ≠ 45 := fun e => by rw [e, notLetter_45] at hc; cases hc
      rw [if_neg n45]
      simp only [hc, if_true]
      rw [List.append_assoc]
      exact wordBy_parts k r (acc ++ [c]) x gs n hk' hn' (by simp) (by rw [List.all_append, hl]; simp [hc]) hg
    · by_cases h45 : c = 45
      · have hpos : (x ++ acc) ≠ [] := by simp [ha]
        have hlen : x.length < (x ++ acc).length := by
          rw [List.length_append]
          have := List.length_pos_iff.mpr ha
          omega
        have hcont : gs.contains (x ++ acc).length = false := by
          cases h : gs.contains (x ++ acc).length with
          | false => rfl
          | true =>
            have := hg _ (List.contains_iff_mem.mp h)
            omega
        rw [if_pos h45]
        simp only [hc]
        subst h45
        simp only [beq_self_eq_true, true_and, hpos, hcont, ne_eq, not_false_eq_true, and_self, if_true]
        simp only [show isLetter 45 = false from notLetter_45, Bool.false_eq_true, if_false]
        rw [wordParts, if_pos ⟨ha, hl⟩]
        cases r with
        | nil => rfl
        | cons d s =>
          by_cases hd : isLetter d = true
          · have d45 : d ≠ 45 := fun e => by rw [e, notLetter_45] at hd; cases hd
            simp only [hd, if_true]
            cases n with
            | zero => exact absurd hn' (Nat.not_lt_zero _)
            | succ n =>
              have e1 : wordBy (n + 1) (d :: s) (x ++ acc) (gs ++ [(x ++ acc).length]) = wordBy n s (x ++ acc ++ [d]) (gs ++ [(x ++ acc).length]) := by
                rw [wordBy_cons, if_pos hd]
              have e2 : cutB [] (d :: s) = cutB [d] s := by
                rw [cutB, if_neg d45]
                rfl
              rw [e1, e2]
              cases k with
              | zero => exact absurd hk' (Nat.not_succ_le_zero _)
              | succ k =>
                exact wordBy_parts (k + 1) s [d] (x ++ acc) (gs ++ [(x ++ acc).length]) n (Nat.le_of_succ_le hk') (Nat.lt_of_succ_lt_succ hn') (by simp) (by simp [hd]) (fun g hm => by
                  rcases List.mem_append.mp hm with hm | hm
                  · exact Nat.le_trans (hg g hm) (Nat.le_of_lt hlen)
                  · rw [List.mem_singleton.mp hm]
                    exact Nat.le_refl _)
          · simp only [hd]
            have e2 : wordParts (cutB [] (d :: s)) (x ++ acc) (gs ++ [(x ++ acc).length]) = none := by
              unfold cutB
              split
              · unfold wordParts
                rw [if_neg (fun z => z.1 rfl)]
              · exact wordParts_bad (by simpa using hd)
            rw [e2]
            rfl
      · rw [if_neg h45]
        have hb : (c == 45) = false := by simpa using h45
        simp only [hc, hb]
        rw [wordParts_bad (by rw [List.all_append]; simp [hc])]
        rfl
/-- the program's word -/
theorem wordOf_parts {b : Bytes} (hb : b ≠ []) : wordOf b = ((wordParts (cutB [] b) [] []).map wfin).bind fun w => if w.x.length < 2 ∨ 16 < w.x.length then none else some w := by
  have key : wordBy (b.length + 1) b [] [] = (wordParts (cutB [] b) [] []).map wfin := by
    cases b with
    | nil => exact absurd rfl hb
    | cons c r =>
      by_cases hc : isLetter c = true
      · have n45 : c ≠ 45 := fun e => by rw [e, notLetter_45] at hc; cases hc
        rw [wordBy_cons, cutB, if_neg n45, if_pos hc]
        exact wordBy_parts r.length r [c] [] [] _ (Nat.le_refl _) (Nat.lt_succ_self _) (by simp) (by simp [hc]) (fun _ h => by cases h)
      · rw [wordBy_cons, if_neg hc]
        have e2 : wordParts (cutB [] (c :: r)) [] [] = none := by
          unfold cutB
          split
          · unfold wordParts
            rw [if_neg (fun z => z.1 rfl)]
          · exact wordParts_bad (by simpa using hc)
        rw [e2]
        simp
  unfold wordOf
  rw [key]
  rfl
/-- what holds of a word read -/
structure WOk (w : Word) : Prop where
  two : 2 ≤ w.x.length
  most : w.x.length ≤ 16
  let_ : ∀ c ∈ w.x, isLetter c = true
  up : w.cuts.Pairwise (· < ·)
  ins : ∀ g ∈ w.cuts, 0 < g ∧ g < w.x.length
theorem wordBy_ok : ∀ (n : Nat) (l x : Bytes) (cs : List Nat) (w : Word), wordBy n l x cs = some w → (∀ c ∈ x, isLetter c = true) → cs.Pairwise (· < ·) → (∀ g ∈ cs, 0 < g ∧ g ≤ x.length) → (x.length ∈ cs → ∃ c r, l = c :: r ∧ isLetter c = true) →
    (∀ c ∈ w.x, isLetter c = true) ∧ w.cuts.Pairwise (· < ·) ∧ (∀ g ∈ w.cuts, 0 < g ∧ g < w.x.length)
  | 0, l, x, cs, w, h, _, _, _, _ => by cases h
  | n + 1, [], x, cs, w, h, hx, hp, hg, hn => by
    cases h
    refine ⟨hx, hp, fun g hm => ⟨(hg g hm).1, Nat.lt_of_le_of_ne (hg g hm).2 fun e => ?_⟩⟩
    subst e
    obtain ⟨c, r, e, _⟩ := hn hm
    cases e
  | n + 1, c :: r, x, cs, w, h, hx, hp, hg, hn => by
    rw [wordBy_cons] at h
    by_cases hc : isLetter c = true
    · simp only [hc, if_true] at h
      refine wordBy_ok n r (x ++ [c]) cs w h (fun d hd => ?_) hp (fun g hm => ⟨(hg g hm).1, ?_⟩) (fun hm => ?_)
      · rcases List.mem_append.mp hd with hd | hd
        · exact hx d hd
        · rw [List.mem_singleton.mp hd]
          exact hc
      · rw [List.length_append]
        exact Nat.le_trans (hg g hm).2 (Nat.le_add_right _ _)
      · have := (hg _ hm).2
        rw [List.length_append] at this
        have e : [c].length = 1 := rfl
        omega
    · simp only [hc] at h
      split at h
      · rename_i hz; exact absurd hz (by decide)
      · split at h
        · rename_i hq
          cases r with
          | nil => cases h
          | cons d s =>
            simp only at h
            split at h
            · rename_i hd
              refine wordBy_ok n (d :: s) x (cs ++ [x.length]) w h hx ?_ (fun g hm => ?_) (fun _ => ⟨d, s, rfl, hd⟩)
              · rw [List.pairwise_append]
                refine ⟨hp, List.pairwise_singleton _ _, fun a ha b hb => ?_⟩
                rw [List.mem_singleton.mp hb]
                refine Nat.lt_of_le_of_ne (hg a ha).2 fun e => ?_
                subst e
                rw [List.contains_iff_mem.mpr ha] at hq
                exact Bool.noConfusion hq.2.2
              · rcases List.mem_append.mp hm with hm | hm
                · exact hg g hm
                · rw [List.mem_singleton.mp hm]
                  exact ⟨List.length_pos_iff.mpr hq.2.1, Nat.le_refl _⟩
            · cases h
        · cases h
theorem wordOf_ok {b : Bytes} {w : Word} (h : wordOf b = some w) : WOk w := by
  unfold wordOf at h
  cases e : wordBy (b.length + 1) b [] [] with
  | none => rw [e] at h; cases h
  | some v =>
    rw [e] at h
    have h' : (if v.x.length < 2 ∨ 16 < v.x.length then none else some v) = some w := h
    split at h'
    · cases h'
    · rename_i hn
      cases h'
      obtain ⟨h1, h2, h3⟩ := wordBy_ok _ _ _ _ _ e (fun _ h => by cases h) List.Pairwise.nil (fun _ h => by cases h) (fun h => by cases h)
      exact ⟨by omega, by omega, h1, h2, h3⟩
theorem hyph_snoc (x : Bytes) (c : UInt8) (cs : List Nat) : hyphened (x ++ [c]) cs = hyphened x cs ++ (if cs.contains x.length = true ∧ 0 < x.length then [45, c] else [c]) := by
  unfold hyphened
  rw [List.zipIdx_append, List.flatMap_append]
  congr 1
  simp
theorem hyph_more {x : Bytes} {cs : List Nat} : hyphened x (cs ++ [x.length]) = hyphened x cs := by
  unfold hyphened
  rw [List.flatMap_def, List.flatMap_def]
  congr 1
  refine List.map_congr_left fun p hp => ?_
  have hl : p.2 < x.length := by
    have := List.mem_zipIdx hp
    omega
  have e : (cs ++ [x.length]).contains p.2 = cs.contains p.2 := by
    rw [Bool.eq_iff_iff, List.contains_iff_mem, List.contains_iff_mem, List.mem_append, List.mem_singleton]
    constructor
    · rintro (h | h)
      · exact h
      · omega
    · exact .inl
  rw [e]
theorem wordBy_shown : ∀ (n : Nat) (l x : Bytes) (cs : List Nat) (w : Word), wordBy n l x cs = some w → (∀ g ∈ cs, 0 < g ∧ g ≤ x.length) → (x.length ∈ cs → ∃ c r, l = c :: r ∧ isLetter c = true) →
    hyphened w.x w.cuts = hyphened x cs ++ ((if cs.contains x.length = true then [45] else []) ++ l)
  | 0, l, x, cs, w, h, _, _ => by cases h
  | n + 1, [], x, cs, w, h, hg, hn => by
    cases h
    have : ¬ cs.contains x.length = true := fun z => by
      obtain ⟨c, r, e, _⟩ := hn (List.contains_iff_mem.mp z)
      cases e
    rw [if_neg this, List.append_nil, List.append_nil]
  | n + 1, c :: r, x, cs, w, h, hg, hn => by
    rw [wordBy_cons] at h
    by_cases hc : isLetter c = true
    · simp only [hc, if_true] at h
      have ih := wordBy_shown n r (x ++ [c]) cs w h (fun g hm => ⟨(hg g hm).1, by rw [List.length_append]; exact Nat.le_trans (hg g hm).2 (Nat.le_add_right _ _)⟩) (fun hm => by
        have := (hg _ hm).2
        rw [List.length_append] at this
        have e : [c].length = 1 := rfl
        omega)
      have hnc : ¬ cs.contains (x ++ [c]).length = true := fun z => by
        have := (hg _ (List.contains_iff_mem.mp z)).2
        rw [List.length_append] at this
        have e : [c].length = 1 := rfl
        omega
      rw [ih, if_neg hnc, hyph_snoc]
      by_cases hz : cs.contains x.length = true
      · have h0 := (hg _ (List.contains_iff_mem.mp hz)).1
        rw [if_pos ⟨hz, h0⟩, if_pos hz]
        simp
      · rw [if_neg (fun z => hz z.1), if_neg hz]
        simp
    · simp only [hc] at h
      split at h
      · rename_i hz; exact absurd hz (by decide)
      · split at h
        · rename_i hq
          cases r with
          | nil => cases h
          | cons d s =>
            simp only at h
            split at h
            · rename_i hd
              have ih := wordBy_shown n (d :: s) x (cs ++ [x.length]) w h (fun g hm => by
                rcases List.mem_append.mp hm with hm | hm
                · exact hg g hm
                · rw [List.mem_singleton.mp hm]
                  exact ⟨List.length_pos_iff.mpr hq.2.1, Nat.le_refl _⟩) (fun _ => ⟨d, s, rfl, hd⟩)
              have h45 : c = 45 := by simpa using hq.1
              rw [ih, hyph_more, if_pos (by simp), if_neg (by rw [hq.2.2]; exact Bool.false_ne_true), h45]
              rfl
            · cases h
        · cases h
theorem wordOf_shown {b : Bytes} {w : Word} (h : wordOf b = some w) : hyphened w.x w.cuts = b := by
  unfold wordOf at h
  cases e : wordBy (b.length + 1) b [] [] with
  | none => rw [e] at h; cases h
  | some v =>
    rw [e] at h
    have h' : (if v.x.length < 2 ∨ 16 < v.x.length then none else some v) = some w := h
    split at h'
    · cases h'
    · cases h'
      have := wordBy_shown _ _ _ _ _ e (fun _ h => by cases h) (fun h => by cases h)
      rw [this]
      rfl
end Pw
set_option linter.all false
/-! Patterns read. -/
namespace Pw
open VahypBase Vahypa
theorem patBy_eq (n : Nat) (l x : Bytes) (vs : List Nat) : patBy (n + 1) l x vs =
    (let v : Nat := match l with
      | b :: _ => if isDigit b = true then b.toNat - 48 else 0
      | [] => 0
    let zero : Bool := match l with
      | b :: _ => b == 48
      | [] => false
    let r := match l with
      | b :: r => if isDigit b = true then r else l
      | [] => l
    if zero = true then none else match r with
      | b :: s => if isLetter b = true then patBy n s (x ++ [b]) (vs ++ [v]) else some (x, vs ++ [v], r)
      | [] => some (x, vs ++ [v], [])) := by
  conv => lhs; unfold patBy
  rfl
theorem patBy_nil (n : Nat) (x : Bytes) (vs : List Nat) : patBy (n + 1) [] x vs = some (x, vs ++ [0], []) := by
  rw [patBy_eq]
  rfl
theorem letter_digit {c : UInt8} (h : isLetter c = true) : isDigit c = false := by
  unfold isLetter at h
  unfold isDigit
  rw [decide_eq_true_iff] at h
  rw [decide_eq_false_iff_not]
  omega
theorem digit_letter {c : UInt8} (h : isDigit c = true) : isLetter c = false := by
  cases e : isLetter c with
  | false => rfl
  | true => rw [letter_digit e] at h; cases h
theorem patBy_letter {n : Nat} {c : UInt8} {r x : Bytes} {vs : List Nat} (h : isLetter c = true) : patBy (n + 1) (c :: r) x vs = patBy n r (x ++ [c]) (vs ++ [0]) := by
  have hd := letter_digit h
  have h48 : (c == 48) = false := by
    cases e : c == 48 with
    | false => rfl
    | true => rw [eq_of_beq e] at hd; exact absurd hd (by decide)
  rw [patBy_eq]
  simp only [hd, h48, h, Bool.false_eq_true, if_false, if_true]
theorem patBy_zero {n : Nat} {r x : Bytes} {vs : List Nat} : patBy (n + 1) (48 :: r) x vs = none := by
  rw [patBy_eq]
  simp only [beq_self_eq_true, if_true]
theorem patBy_digit_end {n : Nat} {c : UInt8} {x : Bytes} {vs : List Nat} (h : isDigit c = true) (h0 : c ≠ 48) : patBy (n + 1) [c] x vs = some (x, vs ++ [c.toNat - 48], []) := by
  have h48 : (c == 48) = false := by simpa using h0
  rw [patBy_eq]
  simp only [h, h48, Bool.false_eq_true, if_false, if_true]
theorem patBy_digit {n : Nat} {c d : UInt8} {r x : Bytes} {vs : List Nat} (h : isDigit c = true) (h0 : c ≠ 48) : patBy (n + 1) (c :: d :: r) x vs = if isLetter d = true then patBy n r (x ++ [d]) (vs ++ [c.toNat - 48]) else some (x, vs ++ [c.toNat - 48], d :: r) := by
  have h48 : (c == 48) = false := by simpa using h0
  rw [patBy_eq]
  simp only [h, h48, Bool.false_eq_true, if_false, if_true]
theorem patBy_stop {n : Nat} {c : UInt8} {r x : Bytes} {vs : List Nat} (h : isLetter c = false) (hd : isDigit c = false) : patBy (n + 1) (c :: r) x vs = some (x, vs ++ [0], c :: r) := by
  have h48 : (c == 48) = false := by
    cases e : c == 48 with
    | false => rfl
    | true => rw [eq_of_beq e] at hd; exact absurd hd (by decide)
  rw [patBy_eq]
  simp only [hd, h48, h, Bool.false_eq_true, if_false]
/-- the program's loop over the signs between the points: letters, a digit for each gap so far -/
def patLoop : Bytes → Bytes → List Nat → Option (Bytes × List Nat)
  | [], x, ds => some (x, ds)
  | c :: r, x, ds => if isLetter c = true then patLoop r (x ++ [c]) (ds ++ [0])
    else if isDigit c = true ∧ c ≠ 48 ∧ ds.getLast? = some 0 then patLoop r x (ds.dropLast ++ [c.toNat - 48]) else none
def endIs (e : Bytes) (p : Bytes × List Nat × Bytes) : Option (Bytes × List Nat) := if p.2.2 = e then some (p.1, p.2.1) else none
theorem patLoop_stuck {v : Nat} (hv : v ≠ 0) : ∀ (c : UInt8) (r x : Bytes) (vs : List Nat), isLetter c = false → patLoop (c :: r) x (vs ++ [v]) = none := fun c r x vs h => by
  unfold patLoop
  rw [if_neg (by rw [h]; exact Bool.false_ne_true), if_neg]
  rintro ⟨_, _, h2⟩
  rw [List.getLast?_concat] at h2
  exact hv (Option.some.inj h2)
theorem digit_pos {c : UInt8} (h : isDigit c = true) (h0 : c ≠ 48) : c.toNat - 48 ≠ 0 := by
  unfold isDigit at h
  rw [decide_eq_true_iff] at h
  intro e
  exact h0 (UInt8.toNat_inj.mp (by have : (48 : UInt8).toNat = 48 := rfl; omega))
/-- e: what may stand behind: nothing, or the last point -/
theorem patBy_loop : ∀ (k : Nat) (m e x : Bytes) (vs : List Nat) (n : Nat), m.length ≤ k → (m ++ e).length < n → (e = [] ∨ e = [46]) → (patBy n (m ++ e) x vs).bind (endIs e) = patLoop m x (vs ++ [0])
  | k, m, e, x, vs, 0, _, h, _ => absurd h (Nat.not_lt_zero _)
  | k, [], e, x, vs, n + 1, _, _, he => by
    rcases he with he | he
    · subst he
      rw [List.append_nil, patBy_nil]
      rfl
    · subst he
      rw [List.nil_append, patBy_stop (by decide) (by decide)]
      rfl
  | 0, c :: m, e, x, vs, n + 1, h, _, _ => absurd h (Nat.not_succ_le_zero _)
  | k + 1, c :: m, e, x, vs, n + 1, hk, hn, he => by
    have hk' : m.length ≤ k := Nat.le_of_succ_le_succ hk
    have hn' : (m ++ e).length < n := Nat.lt_of_succ_lt_succ hn
    rw [List.cons_append]
    by_cases hc : isLetter c = true
    · rw [patBy_letter hc, patLoop, if_pos hc, patBy_loop k m e (x ++ [c]) (vs ++ [0]) n hk' hn' he]
    · have hcf : isLetter c = false := by simpa using hc
      by_cases hd : isDigit c = true
      · by_cases h0 : c = 48
        · subst h0
          rw [patBy_zero, patLoop, if_neg hc, if_neg (fun z => z.2.1 rfl)]
          rfl
        · have hv := digit_pos hd h0
          rw [patLoop, if_neg hc, if_pos ⟨hd, h0, by rw [List.getLast?_concat]⟩, List.dropLast_concat]
          cases m with
          | nil =>
            rcases he with he | he
            · subst he
              rw [List.append_nil, patBy_digit_end hd h0]
              rfl
            · subst he
              rw [List.nil_append, patBy_digit hd h0, if_neg (by decide)]
              rfl
          | cons d r =>
            rw [List.cons_append, patBy_digit hd h0]
            by_cases hl : isLetter d = true
            · rw [if_pos hl, patLoop, if_pos hl]
              cases k with
              | zero => exact absurd hk' (Nat.not_succ_le_zero _)
              | succ k => exact patBy_loop (k + 1) r e (x ++ [d]) (vs ++ [c.toNat - 48]) n (Nat.le_of_succ_le hk') (by rw [List.cons_append] at hn'; exact Nat.lt_of_succ_lt hn') he
            · rw [if_neg hl, patLoop_stuck hv d r x vs (by simpa using hl)]
              show endIs e (x, vs ++ [c.toNat - 48], d :: (r ++ e)) = none
              unfold endIs
              rw [if_neg]
              intro z
              have := congrArg List.length z
              rw [List.length_cons, List.length_append] at this
              omega
      · have hdf : isDigit c = false := by simpa using hd
        rw [patBy_stop hcf hdf, patLoop, if_neg hc, if_neg (fun z => hd z.1)]
        show endIs e (x, vs ++ [0], c :: (m ++ e)) = none
        unfold endIs
        rw [if_neg]
        intro z
        have := congrArg List.length z
        rw [List.length_cons, List.length_append] at this
        omega
/-- what stands behind is the text's end; what stands ahead of it are letters and digits -/
theorem patBy_rest : ∀ (n : Nat) (l x : Bytes) (vs : List Nat) (p : Bytes × List Nat × Bytes), patBy n l x vs = some p → ∃ m, l = m ++ p.2.2 ∧ ∀ c ∈ m, (isLetter c || isDigit c) = true
  | 0, l, x, vs, p, h => by cases h
  | n + 1, [], x, vs, p, h => by
    rw [patBy_nil] at h
    cases h
    exact ⟨[], rfl, fun _ h => by cases h⟩
  | n + 1, c :: r, x, vs, p, h => by
    by_cases hc : isLetter c = true
    · rw [patBy_letter hc] at h
      obtain ⟨m, e, k⟩ := patBy_rest n _ _ _ _ h
      refine ⟨c :: m, by rw [List.cons_append, ← e], fun d hd => ?_⟩
      rcases List.mem_cons.mp hd with hd | hd
      · rw [hd, hc]
        rfl
      · exact k d hd
    · by_cases hd : isDigit c = true
      · have hd1 : (isLetter c || isDigit c) = true := by rw [hd, Bool.or_true]
        by_cases h0 : c = 48
        · subst h0
          rw [patBy_zero] at h
          cases h
        · cases r with
          | nil =>
            rw [patBy_digit_end hd h0] at h
            cases h
            exact ⟨[c], rfl, fun d hm => by rw [List.mem_singleton.mp hm]; exact hd1⟩
          | cons d r =>
            rw [patBy_digit hd h0] at h
            split at h
            · rename_i hl
              obtain ⟨m, e, k⟩ := patBy_rest n _ _ _ _ h
              refine ⟨c :: d :: m, by rw [List.cons_append, List.cons_append, ← e], fun a ha => ?_⟩
              rcases List.mem_cons.mp ha with ha | ha
              · rw [ha]
                exact hd1
              · rcases List.mem_cons.mp ha with ha | ha
                · rw [ha, hl]
                  rfl
                · exact k a ha
            · cases h
              exact ⟨[c], rfl, fun d hm => by rw [List.mem_singleton.mp hm]; exact hd1⟩
      · rw [patBy_stop (by simpa using hc) (by simpa using hd)] at h
        cases h
        exact ⟨[], rfl, fun _ h => by cases h⟩
theorem ifz {A B Z D : Prop} [Decidable A] [Decidable B] [Decidable Z] [Decidable D] {α : Type} {x y : α} (z : ¬ Z) : (if A ∨ B ∨ Z ∨ D then x else y) = if A ∨ B ∨ D then x else y := by
  simp only [z, false_or]
/-- the program's pattern -/
def patM (b : Bytes) : Option Pat :=
  let f := b.head? == some 46
  let s := b.getLast? == some 46
  let m := if f = true then b.drop 1 else b
  let m2 := if s = true then m.dropLast else m
  (patLoop m2 [] [0]).bind fun p => if p.1.length < 1 ∨ 6 < p.1.length ∨ p.2.all (fun v => v == 0) = true then none else some ⟨f, p.1, s, p.2⟩
theorem patOf_eq {b : Bytes} (hb : b ≠ []) : patOf b = patM b := by
  unfold patOf patM
  dsimp only
  by_cases h46 : b = [46]
  · subst h46
    rfl
  -- what stands behind the first point, if there is one
  generalize hm : (if (b.head? == some 46) = true then b.drop 1 else b) = m
  have hne : m ≠ [] := by
    intro e
    cases b with
    | nil => exact hb rfl
    | cons c r =>
      by_cases hf : ((c :: r).head? == some 46) = true
      · rw [if_pos hf] at hm
        rw [e] at hm
        have hr : r = [] := hm
        subst hr
        have : c = 46 := by simpa using hf
        exact h46 (by rw [this])
      · rw [if_neg hf] at hm
        rw [e] at hm
        cases hm
  have hlast : b.getLast? = m.getLast? := by
    cases b with
    | nil => exact absurd rfl hb
    | cons c r =>
      by_cases hf : ((c :: r).head? == some 46) = true
      · rw [if_pos hf] at hm
        have hr : r = m := hm
        subst hr
        cases r with
        | nil => exact absurd rfl hne
        | cons d s => rw [List.getLast?_cons_cons]
      · rw [if_neg hf] at hm
        rw [hm]
  have hlen : m.length ≤ b.length := by
    rw [← hm]
    split
    · rw [List.length_drop]
      omega
    · exact Nat.le_refl _
  rw [hlast]
  by_cases hs : m.getLast? = some 46
  · have hse : (m.getLast? == some 46) = true := by rw [hs]; rfl
    rw [hse, if_pos rfl]
    have e2 : m.dropLast ++ [46] = m := by
      obtain ⟨ys, hy⟩ := List.getLast?_eq_some_iff.mp hs
      rw [hy, List.dropLast_concat]
    have key := patBy_loop m.dropLast.length m.dropLast [46] [] [] (b.length + 1) (Nat.le_refl _) (by rw [e2]; omega) (.inr rfl)
    rw [e2, List.nil_append] at key
    rw [← key]
    cases hp : patBy (b.length + 1) m [] [] with
    | none => rfl
    | some p =>
      show (if p.1.length < 1 ∨ PIECE < p.1.length ∨ (p.2.2 ≠ [] ∧ (p.2.2 == [46]) = false) ∨ p.2.1.all (fun v => v == 0) = true then none else some (Pat.mk _ p.1 (p.2.2 == [46]) p.2.1)) = (endIs [46] p).bind _
      unfold endIs
      by_cases h4 : p.2.2 = [46]
      · have h4' : (p.2.2 == [46]) = true := by rw [h4]; rfl
        have z : ¬ (p.2.2 ≠ [] ∧ (p.2.2 == [46]) = false) := fun z => by rw [h4'] at z; cases z.2
        rw [if_pos h4]
        show _ = if p.1.length < 1 ∨ 6 < p.1.length ∨ p.2.1.all (fun v => v == 0) = true then none else some (Pat.mk _ p.1 true p.2.1)
        rw [ifz z, h4']
        rfl
      · rw [if_neg h4]
        refine if_pos ?_
        obtain ⟨q, hq⟩ := patBy_rest _ _ _ _ _ hp
        refine .inr (.inr (.inl ⟨fun h0 => ?_, by simpa using h4⟩))
        -- the last sign is the point: something stands behind
        rw [h0, List.append_nil] at hq
        have := hq.2 46 (by rw [← hq.1, ← e2]; simp)
        exact absurd this (by decide)
  · have hse : (m.getLast? == some 46) = false := by simpa using hs
    rw [hse, if_neg Bool.false_ne_true]
    have key := patBy_loop m.length m [] [] [] (b.length + 1) (Nat.le_refl _) (by rw [List.append_nil]; omega) (.inl rfl)
    rw [List.append_nil, List.nil_append] at key
    rw [← key]
    cases hp : patBy (b.length + 1) m [] [] with
    | none => rfl
    | some p =>
      show (if p.1.length < 1 ∨ PIECE < p.1.length ∨ (p.2.2 ≠ [] ∧ (p.2.2 == [46]) = false) ∨ p.2.1.all (fun v => v == 0) = true then none else some (Pat.mk _ p.1 (p.2.2 == [46]) p.2.1)) = (endIs [] p).bind _
      unfold endIs
      by_cases h4 : p.2.2 = []
      · have h4' : (p.2.2 == [46]) = false := by rw [h4]; rfl
        have z : ¬ (p.2.2 ≠ [] ∧ (p.2.2 == [46]) = false) := fun z => z.1 h4
        rw [if_pos h4]
        show _ = if p.1.length < 1 ∨ 6 < p.1.length ∨ p.2.1.all (fun v => v == 0) = true then none else some (Pat.mk _ p.1 false p.2.1)
        rw [ifz z, h4']
        rfl
      · rw [if_neg h4]
        refine if_pos (.inr (.inr (.inl ⟨h4, ?_⟩)))
        obtain ⟨q, hq, _⟩ := patBy_rest _ _ _ _ _ hp
        cases e : (p.2.2 == [46]) with
        | false => rfl
        | true =>
          refine absurd ?_ hs
          rw [hq, eq_of_beq e, List.getLast?_concat]

/-- what holds of a pattern read -/
structure POk (p : Pat) : Prop where
  one : 1 ≤ p.x.length
  most : p.x.length ≤ 6
  let_ : ∀ c ∈ p.x, isLetter c = true
  len : p.levels.length = p.x.length + 1
  nine : ∀ v ∈ p.levels, v ≤ 9
def bodyP (x : Bytes) (vs : List Nat) : Bytes := x.zipIdx.flatMap fun c => digit (vs[c.2]?.getD 0) ++ [c.1]
theorem bodyP_snoc {x : Bytes} {vs : List Nat} (h : vs.length = x.length) (c : UInt8) (v : Nat) : bodyP (x ++ [c]) (vs ++ [v]) = bodyP x vs ++ (digit v ++ [c]) := by
  unfold bodyP
  rw [List.zipIdx_append, List.flatMap_append]
  have e1 : x.zipIdx.flatMap (fun c => digit ((vs ++ [v])[c.2]?.getD 0) ++ [c.1]) = x.zipIdx.flatMap fun c => digit (vs[c.2]?.getD 0) ++ [c.1] := by
    rw [List.flatMap_def, List.flatMap_def]
    congr 1
    refine List.map_congr_left fun p hp => ?_
    have hl : p.2 < x.length := by
      have := List.mem_zipIdx hp
      omega
    rw [List.getElem?_append_left (by omega)]
  rw [e1]
  congr 1
  have e2 : (vs ++ [v])[x.length]? = some v := by rw [← h, List.getElem?_concat_length]
  simp [e2]
theorem digit_of : ∀ n : Nat, 48 < n → n ≤ 57 → digit (n - 48) = [UInt8.ofNat n] := by
  have h : ((List.range 58).all fun n => if 48 < n then digit (n - 48) == [UInt8.ofNat n] else true) = true := by decide +kernel
  intro n h1 h2
  have := List.all_eq_true.mp h n (List.mem_range.mpr (by omega))
  rw [if_pos h1] at this
  exact eq_of_beq this
theorem digit_is {c : UInt8} (h : isDigit c = true) (h0 : c ≠ 48) : digit (c.toNat - 48) = [c] := by
  unfold isDigit at h
  rw [decide_eq_true_iff] at h
  have : c.toNat ≠ 48 := fun e => h0 (UInt8.toNat_inj.mp e)
  rw [digit_of _ (by omega) h.2, UInt8.ofNat_toNat]
theorem digit_nine {c : UInt8} (h : isDigit c = true) : c.toNat - 48 ≤ 9 := by
  unfold isDigit at h
  rw [decide_eq_true_iff] at h
  omega
theorem digit_zero : digit 0 = [] := rfl
structure PatTold (l x : Bytes) (vs : List Nat) (p : Bytes × List Nat × Bytes) : Prop where
  len : p.2.1.length = p.1.length + 1
  let_ : (∀ c ∈ x, isLetter c = true) → ∀ c ∈ p.1, isLetter c = true
  nine : (∀ v ∈ vs, v ≤ 9) → ∀ v ∈ p.2.1, v ≤ 9
  told : bodyP p.1 p.2.1 ++ (digit (p.2.1[p.1.length]?.getD 0) ++ p.2.2) = bodyP x vs ++ l
theorem end_at {x : Bytes} {vs : List Nat} (h : vs.length = x.length) (v : Nat) : (vs ++ [v])[x.length]?.getD 0 = v := by
  rw [← h, List.getElem?_concat_length]
  rfl
theorem bodyP_more {x : Bytes} {vs : List Nat} (h : vs.length = x.length) (v : Nat) : bodyP x (vs ++ [v]) = bodyP x vs := by
  unfold bodyP
  rw [List.flatMap_def, List.flatMap_def]
  congr 1
  refine List.map_congr_left fun p hp => ?_
  have hl : p.2 < x.length := by
    have := List.mem_zipIdx hp
    omega
  rw [List.getElem?_append_left (by omega)]
theorem told_stop {l x : Bytes} {vs : List Nat} {v : Nat} {r : Bytes} (h : vs.length = x.length) (hv : v ≤ 9) (e : digit v ++ r = l) : PatTold l x vs (x, vs ++ [v], r) where
  len := by rw [List.length_append, h]; rfl
  let_ := fun hx => hx
  nine := fun hn w hw => by
    rcases List.mem_append.mp hw with hw | hw
    · exact hn w hw
    · rw [List.mem_singleton.mp hw]
      exact hv
  told := by
    show bodyP x (vs ++ [v]) ++ (digit ((vs ++ [v])[x.length]?.getD 0) ++ r) = _
    rw [end_at h, bodyP_more h, e]
theorem told_on {l x r : Bytes} {vs : List Nat} {v : Nat} {c : UInt8} {p : Bytes × List Nat × Bytes} (h : vs.length = x.length) (hv : v ≤ 9) (hc : isLetter c = true) (e : digit v ++ c :: r = l) (k : PatTold r (x ++ [c]) (vs ++ [v]) p) : PatTold l x vs p where
  len := k.len
  let_ := fun hx => k.let_ fun d hd => by
    rcases List.mem_append.mp hd with hd | hd
    · exact hx d hd
    · rw [List.mem_singleton.mp hd]
      exact hc
  nine := fun hn => k.nine fun w hw => by
    rcases List.mem_append.mp hw with hw | hw
    · exact hn w hw
    · rw [List.mem_singleton.mp hw]
      exact hv
  told := by
    rw [k.told, bodyP_snoc h, ← e]
    simp
theorem patBy_told : ∀ (n : Nat) (l x : Bytes) (vs : List Nat) (p : Bytes × List Nat × Bytes), patBy n l x vs = some p → vs.length = x.length → PatTold l x vs p
  | 0, l, x, vs, p, h, _ => by cases h
  | n + 1, [], x, vs, p, h, hl => by
    rw [patBy_nil] at h
    cases h
    exact told_stop hl (Nat.zero_le _) rfl
  | n + 1, c :: r, x, vs, p, h, hl => by
    have hl2 : ∀ v : Nat, ∀ c : UInt8, (vs ++ [v]).length = (x ++ [c]).length := fun v c => by rw [List.length_append, List.length_append, hl]; rfl
    by_cases hc : isLetter c = true
    · rw [patBy_letter hc] at h
      exact told_on hl (Nat.zero_le _) hc rfl (patBy_told n _ _ _ _ h (hl2 _ _))
    · by_cases hd : isDigit c = true
      · by_cases h0 : c = 48
        · subst h0
          rw [patBy_zero] at h
          cases h
        · cases r with
          | nil =>
            rw [patBy_digit_end hd h0] at h
            cases h
            exact told_stop hl (digit_nine hd) (by rw [digit_is hd h0]; rfl)
          | cons d r =>
            rw [patBy_digit hd h0] at h
            split at h
            · rename_i hld
              exact told_on hl (digit_nine hd) hld (by rw [digit_is hd h0]; rfl) (patBy_told n _ _ _ _ h (hl2 _ _))
            · cases h
              exact told_stop hl (digit_nine hd) (by rw [digit_is hd h0]; rfl)
      · rw [patBy_stop (by simpa using hc) (by simpa using hd)] at h
        cases h
        exact told_stop hl (Nat.zero_le _) rfl
theorem patOf_told {b : Bytes} {p : Pat} (h : patOf b = some p) : POk p ∧ showPat p = b := by
  unfold patOf at h
  dsimp only at h
  generalize hm : (if (b.head? == some 46) = true then b.drop 1 else b) = m at h
  cases hp : patBy (b.length + 1) m [] [] with
  | none => rw [hp] at h; cases h
  | some q =>
    rw [hp] at h
    have h' : (if q.1.length < 1 ∨ PIECE < q.1.length ∨ (q.2.2 ≠ [] ∧ (q.2.2 == [46]) = false) ∨ q.2.1.all (fun v => v == 0) = true then none else some (Pat.mk (b.head? == some 46) q.1 (q.2.2 == [46]) q.2.1)) = some p := h
    split at h'
    · cases h'
    · rename_i hn
      cases h'
      have T := patBy_told _ _ _ _ _ hp rfl
      have hP : PIECE = 6 := rfl
      refine ⟨⟨by show 1 ≤ q.1.length; omega, by show q.1.length ≤ 6; omega, T.let_ (fun _ h => by cases h), T.len, T.nine (fun _ h => by cases h)⟩, ?_⟩
      have hrest : (if (q.2.2 == [46]) = true then [46] else []) = q.2.2 := by
        by_cases e : q.2.2 = [46]
        · rw [e]
          rfl
        · rw [if_neg (by simpa using e)]
          by_cases e0 : q.2.2 = []
          · exact e0.symm
          · exact absurd (Or.inr (Or.inr (Or.inl ⟨e0, by simpa using e⟩))) hn
      have ht : bodyP q.1 q.2.1 ++ (digit (q.2.1[q.1.length]?.getD 0) ++ q.2.2) = m := T.told
      unfold showPat
      show (if (b.head? == some 46) = true then [46] else []) ++ (bodyP q.1 q.2.1 ++ (digit (q.2.1[q.1.length]?.getD 0) ++ (if (q.2.2 == [46]) = true then [46] else []))) = b
      rw [hrest, ht, ← hm]
      cases b with
      | nil => rfl
      | cons c r =>
        by_cases hf : ((c :: r).head? == some 46) = true
        · rw [if_pos hf, if_pos hf]
          have : c = 46 := by simpa using hf
          rw [this]
          rfl
        · rw [if_neg hf, if_neg hf]
          rfl
end Pw
set_option Elab.async false
set_option linter.all false
set_option maxRecDepth 100000
set_option maxHeartbeats 2000000
/-! listing.py: words, patterns, lists -/
namespace Pw
open PySem PySem.Spec PyProof.Rows L2
open VahypBase (inChunk isLetter isDigit)
open Vahypa (Word Pat Lst wordOf patOf hyphened showPat)
/-- what the end finds of a class that is made -/
structure AtC (K : PySem.W.Frag) (mg : Str → Option Value) (x qual : Str) (C : Addr) (st : Stmt) (ps : List Str) (f : Addr) (fd : FuncData) : Prop where
  fn : C8.Fun K "__init__" qual st f fd
  made : Mk K C f
  mgC : mg x = some (.ref C)
  b : Binds K fd ps []
def nums (l : List Nat) : List V := l.map fun (n : Nat) => V.int (n : Int)
theorem nums_len (l : List Nat) : (nums l).length = l.length := List.length_map ..
theorem nums_app (a b : List Nat) : nums (a ++ b) = nums a ++ nums b := List.map_append
/-! ### heaps of made things -/
theorem ex_made {H : Hp} {x dx C : Addr} {o : HO} (hx : H x = none) (hd : H dx = none) : Ex H (upd (upd (upd H dx (.own x)) x (.ins C dx [])) x o) := fun a u h => by
  rw [upd2, upd_ne (ne_of_none h hx), upd_ne (ne_of_none h hd)]
  exact h
theorem upd_swap {H : Hp} {a b : Addr} {o u : HO} (h : a ≠ b) : upd (upd H a o) b u = upd (upd H b u) a o := by
  funext c
  by_cases ha : c = a
  · by_cases hb : c = b
    · exact absurd (ha.symm.trans hb) h
    · rw [upd_ne hb, ha, upd_same, upd_same]
  · by_cases hb : c = b
    · rw [hb, upd_same, upd_ne (Ne.symm h), upd_same]
    · rw [upd_ne hb, upd_ne ha, upd_ne ha, upd_ne hb]
section
variable {P : Program} {w : World} {K : PySem.W.Frag} {mg : Str → Option Value} {base : Heap} {A : Adr}
/-! ### what stands in the heap -/
def wF (c l g : V) : List (Str × V) := [("chunk", c), ("letters", l), ("gaps", g), ("key", l)]
def pF (c l d f s k : V) : List (Str × V) := [("chunk", c), ("letters", l), ("digits", d), ("first", f), ("last", s), ("key", k)]
def lF (l r w p : V) : List (Str × V) := [("left", l), ("right", r), ("words", w), ("patterns", p)]
def WordAt (A : Adr) (H : Hp) (a : Addr) (w : Word) : Prop := ∃ dx g, H a = some (.ins A.Word dx (wF (.str (bS (hyphened w.x w.cuts))) (.str (bS w.x)) (.ref g))) ∧ H g = some (.lst (nums w.cuts))
def PatAt (A : Adr) (H : Hp) (a : Addr) (p : Pat) : Prop := ∃ dx d k, H a = some (.ins A.Pattern dx (pF (.str (bS (showPat p))) (.str (bS p.x)) (.ref d) (.bl p.front) (.bl p.halt_) (.ref k))) ∧ H d = some (.lst (nums p.levels)) ∧
  H k = some (.tup [.str (bS p.x), .bl p.front, .bl p.halt_])
theorem WordAt.mono {H H' : Hp} {a : Addr} {w : Word} (h : WordAt A H a w) (e : Ex H H') : WordAt A H' a w := by
  obtain ⟨dx, g, h1, h2⟩ := h
  exact ⟨dx, g, e _ _ h1, e _ _ h2⟩
theorem PatAt.mono {H H' : Hp} {a : Addr} {p : Pat} (h : PatAt A H a p) (e : Ex H H') : PatAt A H' a p := by
  obtain ⟨dx, d, k, h1, h2, h3⟩ := h
  exact ⟨dx, d, k, e _ _ h1, e _ _ h2, e _ _ h3⟩
/-- the addresses as hold the things xs, one each -/
def Each {α : Type} (R : Addr → α → Prop) (as : List Addr) (xs : List α) : Prop := as.length = xs.length ∧ ∀ (i : Nat) (a : Addr) (x : α), as[i]? = some a → xs[i]? = some x → R a x
theorem Each.imp {α : Type} {R S : Addr → α → Prop} {as : List Addr} {xs : List α} (h : Each R as xs) (k : ∀ a x, R a x → S a x) : Each S as xs := ⟨h.1, fun i a x h1 h2 => k a x (h.2 i a x h1 h2)⟩
theorem Each.nil {α : Type} {R : Addr → α → Prop} : Each R [] [] := ⟨rfl, fun i a x h => by cases h⟩
theorem Each.snoc {α : Type} {R : Addr → α → Prop} {as : List Addr} {xs : List α} {a : Addr} {x : α} (h : Each R as xs) (k : R a x) : Each R (as ++ [a]) (xs ++ [x]) := by
  refine ⟨by rw [List.length_append, List.length_append, h.1]; rfl, fun i b y h1 h2 => ?_⟩
  by_cases hi : i < as.length
  · rw [List.getElem?_append_left hi] at h1
    rw [List.getElem?_append_left (by rw [← h.1]; exact hi)] at h2
    exact h.2 i b y h1 h2
  · have hi' : i = as.length := by
      have := (List.getElem?_eq_some_iff.mp h1).1
      rw [List.length_append] at this
      have : [a].length = 1 := rfl
      omega
    subst hi'
    rw [List.getElem?_append_right (Nat.le_refl _), Nat.sub_self] at h1
    rw [List.getElem?_append_right (by rw [h.1]; exact Nat.le_refl _), h.1, Nat.sub_self] at h2
    cases h1
    cases h2
    exact k
/-- a Listing -/
def ListAt (A : Adr) (H : Hp) (a : Addr) (s : Lst) : Prop := ∃ dx lw lp ws ps, H a = some (.ins A.Listing dx (lF (.int (s.l : Int)) (.int (s.r : Int)) (.ref lw) (.ref lp))) ∧ H lw = some (.lst (ws.map V.ref)) ∧ H lp = some (.lst (ps.map V.ref)) ∧
  Each (WordAt A H) ws s.words ∧ Each (PatAt A H) ps s.pats
theorem ListAt.mono {H H' : Hp} {a : Addr} {s : Lst} (h : ListAt A H a s) (e : Ex H H') : ListAt A H' a s := by
  obtain ⟨dx, lw, lp, ws, ps, h1, h2, h3, h4, h5⟩ := h
  exact ⟨dx, lw, lp, ws, ps, e _ _ h1, e _ _ h2, e _ _ h3, h4.imp fun _ _ k => k.mono e, h5.imp fun _ _ k => k.mono e⟩
/-! ### the three classes made -/
def spWordI (A : Adr) : Sp := fun vs H Q _ => ∃ (p dx : Addr) (c l g : V), vs = [.ref p, c, l, g] ∧ H p = some (.ins A.Word dx []) ∧ Q .non (upd H p (.ins A.Word dx (wF c l g)))
theorem ok_Word {f : Addr} {fd : FuncData} (T : Txt K mg A) (a : AtC K mg "Word" "Word.__init__" A.Word s_Word_init ["self", "chunk", "letters", "gaps"] f fd) : C8.Mak P w K mg base 1 "Word" A.Word (spWordI A) [] := by
  refine ⟨f, fd, _, [], a.made, ok0 a.fn sc_Word_init (fun vs H Q E h => ?_) (fun cdv Ar outer s H vs Q E hr h => ⟨_, (pss_cons (ps_fld (pv 0) (pv 1) rfl)
  (pss_cons (ps_fld (pv 0) (pv 2) rfl)
  (pss_cons (ps_fld (pv 0) (pv 3) rfl)
  (pss_one (ps_fld (pv 0) (pv 2) rfl))))), ?_⟩) rfl rfl rfl, a.mgC, a.b, .nil⟩
  · obtain ⟨_, _, _, _, _, rfl, _⟩ := h
    rfl
  · obtain ⟨p, dx, c, l, g, rfl, hp, q⟩ := h
    refine ⟨_, rfl, _, rfl, p, _, dx, _, rfl, hp, T.i_Word.cl, T.n_Word_chunk, (by decide), ?_⟩
    refine ⟨_, rfl, _, rfl, p, _, dx, _, rfl, upd_same, T.i_Word.cl, T.n_Word_letters, (by show 1 < 1000; decide), ?_⟩
    refine ⟨_, rfl, _, rfl, p, _, dx, _, rfl, upd_same, T.i_Word.cl, T.n_Word_gaps, (by show 2 < 1000; decide), ?_⟩
    refine ⟨_, rfl, _, rfl, p, _, dx, _, rfl, upd_same, T.i_Word.cl, T.n_Word_key, (by show 3 < 1000; decide), ?_⟩
    show Q .non _
    rw [upd2, upd2, upd2]
    exact q
def spPatI (A : Adr) : Sp := fun vs H Q _ => ∃ (p dx : Addr) (c l d f s : V), vs = [.ref p, c, l, d, f, s] ∧ H p = some (.ins A.Pattern dx []) ∧
  ∀ k, H k = none → Q .non (upd (upd H k (.tup [l, f, s])) p (.ins A.Pattern dx (pF c l d f s (.ref k))))
theorem ok_Pattern {f : Addr} {fd : FuncData} (T : Txt K mg A) (a : AtC K mg "Pattern" "Pattern.__init__" A.Pattern s_Pattern_init ["self", "chunk", "letters", "digits", "first", "last"] f fd) : C8.Mak P w K mg base 1 "Pattern" A.Pattern (spPatI A) [] := by
  refine ⟨f, fd, _, [], a.made, ok0 a.fn sc_Pattern_init (fun vs H Q E h => ?_) (fun cdv Ar outer s H vs Q E hr h => ⟨_, (pss_cons (ps_fld (pv 0) (pv 1) rfl)
  (pss_cons (ps_fld (pv 0) (pv 2) rfl)
  (pss_cons (ps_fld (pv 0) (pv 3) rfl)
  (pss_cons (ps_fld (pv 0) (pv 4) rfl)
  (pss_cons (ps_fld (pv 0) (pv 5) rfl)
  (pss_one (ps_fld (pv 0) (pe_tup (pa_cons (pv 2) (pa_cons (pv 4) (pa_cons (pv 5) pa_nil)))) rfl))))))), ?_⟩) rfl rfl rfl, a.mgC, a.b, .nil⟩
  · obtain ⟨_, _, _, _, _, _, _, rfl, _⟩ := h
    rfl
  · obtain ⟨p, dx, c, l, d, f, s, rfl, hp, q⟩ := h
    refine ⟨_, rfl, _, rfl, p, _, dx, _, rfl, hp, T.i_Pattern.cl, T.n_Pattern_chunk, (by decide), ?_⟩
    refine ⟨_, rfl, _, rfl, p, _, dx, _, rfl, upd_same, T.i_Pattern.cl, T.n_Pattern_letters, (by show 1 < 1000; decide), ?_⟩
    refine ⟨_, rfl, _, rfl, p, _, dx, _, rfl, upd_same, T.i_Pattern.cl, T.n_Pattern_digits, (by show 2 < 1000; decide), ?_⟩
    refine ⟨_, rfl, _, rfl, p, _, dx, _, rfl, upd_same, T.i_Pattern.cl, T.n_Pattern_first, (by show 3 < 1000; decide), ?_⟩
    refine ⟨_, rfl, _, rfl, p, _, dx, _, rfl, upd_same, T.i_Pattern.cl, T.n_Pattern_last, (by show 4 < 1000; decide), ?_⟩
    refine ⟨_, rfl, _, rfl, _, rfl, (by show 3 ≤ sizeLine; decide), fun k hk => ?_⟩
    rw [upd2, upd2, upd2, upd2] at hk ⊢
    have kp : k ≠ p := fun e => by rw [e, upd_same] at hk; cases hk
    rw [upd_ne kp] at hk
    refine ⟨_, rfl, p, _, dx, _, rfl, (by rw [upd_ne (Ne.symm kp)]; exact upd_same), T.i_Pattern.cl, T.n_Pattern_key, (by show 5 < 1000; decide), ?_⟩
    show Q .non _
    rw [upd_swap (Ne.symm kp), upd2]
    exact q k hk
def spListI (A : Adr) : Sp := fun vs H Q _ => ∃ (p dx : Addr) (l r w s : V), vs = [.ref p, l, r, w, s] ∧ H p = some (.ins A.Listing dx []) ∧ Q .non (upd H p (.ins A.Listing dx (lF l r w s)))
theorem ok_Listing {f : Addr} {fd : FuncData} (T : Txt K mg A) (a : AtC K mg "Listing" "Listing.__init__" A.Listing s_Listing_init ["self", "left", "right", "words", "patterns"] f fd) : C8.Mak P w K mg base 1 "Listing" A.Listing (spListI A) [] := by
  refine ⟨f, fd, _, [], a.made, ok0 a.fn sc_Listing_init (fun vs H Q E h => ?_) (fun cdv Ar outer s H vs Q E hr h => ⟨_, (pss_cons (ps_fld (pv 0) (pv 1) rfl)
  (pss_cons (ps_fld (pv 0) (pv 2) rfl)
  (pss_cons (ps_fld (pv 0) (pv 3) rfl)
  (pss_one (ps_fld (pv 0) (pv 4) rfl))))), ?_⟩) rfl rfl rfl, a.mgC, a.b, .nil⟩
  · obtain ⟨_, _, _, _, _, _, rfl, _⟩ := h
    rfl
  · obtain ⟨p, dx, c, l, g, s, rfl, hp, q⟩ := h
    refine ⟨_, rfl, _, rfl, p, _, dx, _, rfl, hp, T.i_Listing.cl, T.n_Listing_left, (by decide), ?_⟩
    refine ⟨_, rfl, _, rfl, p, _, dx, _, rfl, upd_same, T.i_Listing.cl, T.n_Listing_right, (by show 1 < 1000; decide), ?_⟩
    refine ⟨_, rfl, _, rfl, p, _, dx, _, rfl, upd_same, T.i_Listing.cl, T.n_Listing_words, (by show 2 < 1000; decide), ?_⟩
    refine ⟨_, rfl, _, rfl, p, _, dx, _, rfl, upd_same, T.i_Listing.cl, T.n_Listing_patterns, (by show 3 < 1000; decide), ?_⟩
    show Q .non _
    rw [upd2, upd2, upd2]
    exact q
/-! ### word_of -/
theorem alpha_one : ∀ n : Nat, (97 ≤ n ∧ n ≤ 122) ∨ (48 ≤ n ∧ n ≤ 57) ∨ n = 45 ∨ n = 46 → Unicode.isAlpha n = decide (97 ≤ n ∧ n ≤ 122) := by
  have h : ((List.range 123).all fun n => if (97 ≤ n ∧ n ≤ 122) ∨ (48 ≤ n ∧ n ≤ 57) ∨ n = 45 ∨ n = 46 then Unicode.isAlpha n == decide (97 ≤ n ∧ n ≤ 122) else true) = true := by decide +kernel
  intro n hn
  have := List.all_eq_true.mp h n (List.mem_range.mpr (by omega))
  rw [if_pos hn] at this
  exact eq_of_beq this
theorem alpha_part {p : Bytes} (h : ∀ c ∈ p, inChunk c = true) : Txt.isalpha (bS p) = (decide (p ≠ []) && p.all isLetter) := by
  unfold Txt.isalpha
  have e1 : decide ((bS p).length > 0) = decide (p ≠ []) := by
    rw [bS_len]
    by_cases hp : p = []
    · rw [hp]
      rfl
    · rw [decide_eq_true hp, decide_eq_true (List.length_pos_iff.mpr hp)]
  rw [e1]
  congr 1
  have e2 : (bS p).cps.all Unicode.isAlpha = (bn p).all Unicode.isAlpha := by
    rw [← Array.all_toList]
    rfl
  rw [e2]
  unfold bn
  rw [List.all_map]
  refine Bool.eq_iff_iff.mpr ?_
  rw [List.all_eq_true, List.all_eq_true]
  constructor
  · intro k c hc
    have := k c hc
    have e := alpha_one c.toNat (inChunk_iff.mp (h c hc))
    rw [show (Unicode.isAlpha ∘ UInt8.toNat) c = Unicode.isAlpha c.toNat from rfl, e] at this
    exact this
  · intro k c hc
    have e := alpha_one c.toNat (inChunk_iff.mp (h c hc))
    show Unicode.isAlpha c.toNat = true
    rw [e]
    exact k c hc
theorem spl_cut : ∀ (l acc : Bytes), TL.spl [45] 0 (bn acc) (bn l) = (cutB acc l).map bn
  | [], acc => rfl
  | c :: r, acc => by
    have hp : TL.pre [45] (c.toNat :: bn r) = decide (c = 45) := by
      unfold TL.pre
      show ([c.toNat] == [45]) = _
      by_cases h : c = 45
      · rw [h]
        rfl
      · rw [decide_eq_false h]
        have : c.toNat ≠ 45 := fun e => h (UInt8.toNat_inj.mp e)
        simpa using this
    unfold cutB
    by_cases h : c = 45
    · rw [if_pos h]
      have e := TL.spl_hit (S := [45]) (acc := bn acc) (r := bn r) (c := c.toNat) (by rw [hp, decide_eq_true h])
      refine e.trans ?_
      rw [List.map_cons, ← spl_cut r []]
      rfl
    · rw [if_neg h]
      have e := TL.spl_miss (S := [45]) (acc := bn acc) (r := bn r) (c := c.toNat) (by rw [hp, decide_eq_false h])
      refine e.trans ?_
      rw [← spl_cut r (acc ++ [c])]
      unfold bn
      rw [List.map_append]
      rfl
theorem dash : Str.ofString "-" = S [45] := by decide +kernel
theorem split_cut (b : Bytes) : Txt.split (bS b) (Str.ofString "-") = (cutB [] b).map bS := by
  rw [dash]
  have e := SX.split_S (a := bn b) (b := [45]) (by decide) (by decide)
  refine e.trans ?_
  have := spl_cut b []
  rw [show bn [] = [] from rfl] at this
  rw [this, List.map_map]
  rfl
theorem cutB_mem : ∀ (l acc p : Bytes), p ∈ cutB acc l → ∀ c ∈ p, c ∈ acc ∨ c ∈ l
  | [], acc, p, h, c, hc => by
    rw [cutB, List.mem_singleton] at h
    rw [h] at hc
    exact .inl hc
  | d :: r, acc, p, h, c, hc => by
    unfold cutB at h
    split at h
    · rcases List.mem_cons.mp h with h | h
      · rw [h] at hc
        exact .inl hc
      · rcases cutB_mem r [] p h c hc with k | k
        · cases k
        · exact .inr (List.mem_cons_of_mem _ k)
    · rcases cutB_mem r _ p h c hc with k | k
      · rcases List.mem_append.mp k with k | k
        · exact .inl k
        · rw [List.mem_singleton.mp k]
          exact .inr (List.mem_cons_self ..)
      · exact .inr (List.mem_cons_of_mem _ k)
theorem cutB_flat : ∀ (l acc : Bytes), (cutB acc l).flatten.length ≤ acc.length + l.length ∧ (cutB acc l).length ≤ l.length + 1
  | [], acc => by
    unfold cutB
    simp
  | c :: r, acc => by
    unfold cutB
    split
    · have := cutB_flat r []
      rw [List.flatten_cons, List.length_append, List.length_cons, List.length_cons]
      have e : ([] : Bytes).length = 0 := rfl
      omega
    · have := cutB_flat r (acc ++ [c])
      rw [List.length_append] at this
      rw [List.length_cons]
      have e : [c].length = 1 := rfl
      omega
theorem cutB_ne (l acc : Bytes) : cutB acc l ≠ [] := by
  obtain ⟨e, r, h⟩ := cutB_head l acc
  rw [h]
  exact List.cons_ne_nil _ _
def spWordOf (A : Adr) : Sp := fun vs H Q _ => ∃ b : Bytes, vs = [.str (bS b)] ∧ b ≠ [] ∧ (∀ c ∈ b, inChunk c = true) ∧ b.length ≤ 40 ∧
  (wordOf b = none → ∀ H', Ex H H' → Q .non H') ∧ (∀ w, wordOf b = some w → ∀ H' a, Ex H H' → H a = none → WordAt A (fresh H H') a w → Q (.ref a) H')
def wordLong (x : Bytes) : Bool := decide (2 ≤ x.length) && decide (x.length ≤ 16)
def spWordLong : Sp := fun vs H Q _ => ∃ x : Bytes, vs = [.str (bS x)] ∧ x.length ≤ 100000 ∧ Q (.bl (wordLong x)) H
theorem ok_is_word_long {f : Addr} {fd : FuncData} (T : Txt K mg A) (a : At K mg "is_word_long" s_is_word_long ["letters"] f fd) : C8.Cal P w K mg base 1 "is_word_long" spWordLong [] := by
  refine a.cal (ok0 a.fn sc_is_word_long (fun vs H Q E h => ?_) (fun cdv Ar outer s H vs Q E hr h => ⟨_, (pss_one (ps_ret (pe_chain op_le op_le (C8.pe_gc rfl T.c_LEAST_WORD_LETTERS) (pe_callB call_len_str rfl T.len (by decide +kernel) (pa_cons (pv 0) pa_nil)) (C8.pe_gc rfl T.c_MOST_WORD_LETTERS)))), ?_⟩) rfl rfl rfl)
  · obtain ⟨_, rfl, _⟩ := h
    rfl
  · obtain ⟨x, rfl, hz, q⟩ := h
    refine ⟨_, rfl, _, rfl, Evl.sz_of (by rw [bS_len]; omega), _, _, rfl, rfl, _, rfl, ?_⟩
    rw [bS_len]
    unfold wordLong at q
    refine b2 (fun h => ?_) (fun h => ?_)
    · have h2 : 2 ≤ x.length := by have := of_decide_eq_true h; omega
      rw [decide_eq_true h2, Bool.true_and] at q
      refine ⟨_, _, rfl, rfl, ?_⟩
      show Q (.bl (decide ((x.length : Int) ≤ 16))) H
      have e : decide ((x.length : Int) ≤ 16) = decide (x.length ≤ 16) := by
        by_cases h3 : x.length ≤ 16
        · rw [decide_eq_true h3, decide_eq_true (by omega)]
        · rw [decide_eq_false h3, decide_eq_false (by omega)]
      rw [e]
      exact q
    · have h2 : ¬ 2 ≤ x.length := by have := of_decide_eq_false h; omega
      rw [decide_eq_false h2, Bool.false_and] at q
      exact q
theorem ok_word_of {f : Addr} {fd : FuncData} (T : Txt K mg A) (a : At K mg "word_of" s_word_of ["chunk"] f fd) (d_is_word_long : C8.Cal P w K mg base 1 "is_word_long" spWordLong []) (mk_Word : C8.Mak P w K mg base 1 "Word" A.Word (spWordI A) []) : C8.Cal P w K mg base 3 "word_of" (spWordOf A) [] := by
  refine a.cal (ok0 a.fn sc_word_of (fun vs H Q E h => ?_) (fun cdv Ar outer s H vs Q E hr h => ⟨_, (pss_cons (ps_set (i := 1) sc_word_of.nd rfl (Or.inl rfl) (pe_lst pa_nil))
  (pss_cons (ps_set (i := 2) sc_word_of.nd rfl (Or.inl rfl) pe_str)
  (pss_cons (ps_for PassesOwn.never rfl (pi_list (pe_split (pv 0) pe_str)) (pg_name (i := 3) sc_word_of.nd rfl (Or.inl rfl)) (pss_cons (ps_if (pt_not (pt_val (pe_m0 PySem.F.slot_str_isalpha PySem.F.type_str_isalpha mt_isalpha (pv 3)))) (pss_one (ps_ret pe_non)) pss_nil)
    (pss_cons (ps_set (i := 2) sc_word_of.nd rfl (Or.inl rfl) (pe_op op_add_str (pv 2) (pv 3)))
    (pss_one (ps_expr (pe_bm PySem.F.plainAttrs_list PySem.F.slot_list_append PySem.F.type_list_append mt_append (pv 1) (pa_cons (pe_callB call_len_str rfl T.len (by decide +kernel) (pa_cons (pv 2) pa_nil)) pa_nil)))))))
  (pss_cons (ps_expr (pe_bm0 PySem.F.plainAttrs_list PySem.F.slot_list_pop PySem.F.type_list_pop mt_pop (pv 1)))
  (pss_cons (ps_if (pt_not (pt_val (C8.pe_c d_is_word_long hr (by decide) rfl (by exact (pa_cons (pv 2) pa_nil))))) (pss_one (ps_ret pe_non)) pss_nil)
  (pss_one (ps_ret (C8.pe_mk mk_Word hr (by decide) rfl (pa_cons (pv 0) (pa_cons (pv 2) (pa_cons (pv 1) pa_nil))))))))))), ?_⟩) rfl rfl rfl)
  · obtain ⟨_, rfl, _⟩ := h
    rfl
  · obtain ⟨b, rfl, hb, hin, hz, qN, qS⟩ := h
    have hW := wordOf_parts hb
    refine ⟨by show 0 ≤ sizeLine; decide, fun g hg => ?_⟩
    refine ⟨_, rfl, ⟨_, rfl⟩, bS b, Str.ofString "-", rfl, rfl, (by decide +kernel), Evl.sz_of (by rw [bS_len]; omega), fun p hp => ?_⟩
    have pg : p ≠ g := fun e => by rw [e, upd_same] at hp; cases hp
    have hp0 : H p = none := by rw [upd_ne pg] at hp; exact hp
    have hsp : (Txt.split (bS b) (Str.ofString "-")).map V.str = ((cutB [] b).map bS).map V.str := by rw [split_cut]
    rw [hsp]
    have hlen : (((cutB [] b).map bS).map V.str).length = (cutB [] b).length := by rw [List.length_map, List.length_map]
    refine ⟨p, rfl, ⟨_, SqL.of upd_same⟩, for_list (K := K) (a := p) (xs := ((cutB [] b).map bS).map V.str) (fun i σ H' => ∃ (x : Bytes) (gs : List Nat) (v : Option V), σ = [some (.str (bS b)), some (.ref g), some (.str (bS x)), v] ∧ Ex H H' ∧ H' p = some (.lst (((cutB [] b).map bS).map V.str)) ∧ H' g = some (.lst (nums gs)) ∧
      x = ((cutB [] b).take i).flatten ∧ gs.length = i ∧ wordParts ((cutB [] b).drop i) x gs = wordParts (cutB [] b) [] [])
      ⟨[], [], none, ?_, ?_, upd_same, ?_, rfl, rfl, rfl⟩ (fun i σ H' _ ⟨_, _, _, _, _, h1, _⟩ => SqL.of h1) ?_ ?_⟩
    · show [some (V.str (bS b)), some (.ref g), some (.str (Str.ofString "")), none] = _
      rw [emp]
      rfl
    · exact fun c o h => by rw [upd_ne (ne_of_none h hp0), upd_ne (ne_of_none h hg)]; exact h
    · rw [upd_ne (Ne.symm pg)]
      exact upd_same
    · rintro i y σ H' hi ⟨x, gs, v, rfl, eH, h1, h2, hx, hgl, hwp⟩
      obtain ⟨part, hpart, rfl⟩ : ∃ part, (cutB [] b)[i]? = some part ∧ y = .str (bS part) := by
        rw [List.getElem?_map, List.getElem?_map] at hi
        cases e : (cutB [] b)[i]? with
        | none => rw [e] at hi; cases hi
        | some z => rw [e] at hi; exact ⟨z, rfl, (Option.some.inj hi).symm⟩
      have hmem : part ∈ cutB [] b := List.mem_of_getElem? hpart
      have hpin : ∀ c ∈ part, inChunk c = true := fun c hc => by
        rcases cutB_mem b [] part hmem c hc with k | k
        · cases k
        · exact hin c k
      have hxl : (x ++ part).length ≤ 40 := by
        have h4 := cutB_flat b []
        have h5 : ((cutB [] b).take (i + 1)).flatten.length ≤ (cutB [] b).flatten.length := by
          have := congrArg (fun l => (List.flatten l).length) (List.take_append_drop (i + 1) (cutB [] b))
          simp only [List.flatten_append, List.length_append] at this
          omega
        have h6 : ((cutB [] b).take (i + 1)).flatten = x ++ part := by
          rw [hx, List.take_add_one, hpart, List.flatten_append]
          simp
        rw [h6] at h5
        have e : ([] : Bytes).length = 0 := rfl
        omega
      have hil : i < (cutB [] b).length := (List.getElem?_eq_some_iff.mp hpart).1
      have hil2 := (cutB_flat b []).2
      have hdrop := drop_at hpart
      have hal := alpha_part hpin
      refine when2 (b := !(Txt.isalpha (bS part))) (fun Q q => ⟨_, rfl, ⟨_, rfl⟩, _, rfl, rfl, trivial, _, rfl, q⟩) (fun h => ?_) (fun h => ?_)
      · rw [Bool.not_eq_true', hal] at h
        have hn : wordParts (cutB [] b) [] [] = none := by
          rw [← hwp, hdrop, wordParts, if_neg]
          rintro ⟨z1, z2⟩
          rw [decide_eq_true z1, z2] at h
          cases h
        rw [hn] at hW
        exact qN hW _ eH
      · rw [Bool.not_eq_false', hal, Bool.and_eq_true, decide_eq_true_iff] at h
        refine ⟨_, rfl, _, rfl, _, _, rfl, rfl, Evl.sz_of (by rw [bS_len, bS_len, ← List.length_append]; omega), ?_⟩
        rw [← bS_app]
        refine ⟨_, rfl, .inl ⟨rfl, _, SqL.of h2⟩, _, rfl, _, rfl, Evl.sz_of (by rw [bS_len]; omega), g, _, _, rfl, rfl, h2, Evl.sz_lt (by rw [nums_len]; omega), ?_⟩
        have gp : g ≠ p := Ne.symm pg
        refine ⟨x ++ part, gs ++ [(x ++ part).length], _, rfl, Evl.Ex.mut eH hg, ?_, ?_, ?_, by rw [List.length_append, hgl]; rfl, ?_⟩
        · rw [upd_ne pg]
          exact h1
        · rw [upd_same, nums_app, bS_len]
          rfl
        · rw [hx, List.take_add_one, hpart, List.flatten_append]
          simp
        · rw [← hwp, hdrop, wordParts, if_pos h]
    · rintro σ H' ⟨x, gs, v, rfl, eH, h1, h2, hx, hgl, hwp⟩
      rw [hlen] at hgl hwp hx
      rw [List.drop_length] at hwp
      rw [List.take_length] at hx
      have hws : wordParts (cutB [] b) [] [] = some (x, gs) := hwp.symm
      have hxl : x.length ≤ 40 := by
        have := (cutB_flat b []).1
        rw [← hx] at this
        have e : ([] : Bytes).length = 0 := rfl
        omega
      have hne : gs ≠ [] := fun e => by
        rw [e] at hgl
        exact cutB_ne b [] (List.length_eq_zero_iff.mp hgl.symm)
      obtain ⟨gs', last, hgs⟩ : ∃ gs' last, gs = gs' ++ [last] := ⟨gs.dropLast, gs.getLast hne, (List.dropLast_concat_getLast hne).symm⟩
      subst hgs
      have hiL : nums (gs' ++ [last]) = nums gs' ++ [.int (last : Int)] := nums_app _ _
      rw [hiL] at h2
      refine ⟨_, rfl, .inl ⟨rfl, _, SqL.of h2⟩, g, _, .int (last : Int), rfl, rfl, h2, ?_, ?_⟩
      · rw [List.length_append]
        show (nums gs' ++ [V.int (last : Int)])[(nums gs').length + 1 - 1]? = _
        rw [Nat.add_sub_cancel, List.getElem?_concat_length]
      rw [List.dropLast_concat]
      rw [hws] at hW
      have hW2 : wordOf b = if x.length < 2 ∨ 16 < x.length then none else some ⟨x, (gs' ++ [last]).dropLast⟩ := hW
      rw [List.dropLast_concat] at hW2
      have gp : g ≠ p := Ne.symm pg
      have eH2 : Ex H (upd H' g (.lst (nums gs'))) := Evl.Ex.mut eH hg
      have hlong : wordLong x = !decide (x.length < 2 ∨ 16 < x.length) := by
        unfold wordLong
        by_cases h1 : x.length < 2
        · rw [decide_eq_false (show ¬ 2 ≤ x.length by omega), decide_eq_true (Or.inl h1)]
          rfl
        · by_cases h2 : 16 < x.length
          · rw [decide_eq_false (show ¬ x.length ≤ 16 by omega), decide_eq_true (Or.inr h2), Bool.and_false]
            rfl
          · rw [decide_eq_true (show 2 ≤ x.length by omega), decide_eq_true (show x.length ≤ 16 by omega), decide_eq_false (show ¬ (x.length < 2 ∨ 16 < x.length) by omega)]
            rfl
      dsimp only
      refine when2 (b := !wordLong x) (fun Q q => ⟨_, rfl, x, rfl, by omega, _, rfl, q⟩) (fun h => ?_) (fun h => ?_)
      · rw [hlong, Bool.not_not, decide_eq_true_iff] at h
        refine qN ?_ _ eH2
        rw [hW2, if_pos (by omega)]
      · rw [hlong, Bool.not_not, decide_eq_false_iff_not] at h
        have hws2 : wordOf b = some ⟨x, gs'⟩ := by rw [hW2, if_neg (by omega)]
        refine ⟨_, rfl, _, rfl, _, rfl, fun o dx ho hd hdo => ?_⟩
        refine ⟨o, dx, _, _, _, rfl, upd_same, rfl, ?_⟩
        have e3 := ex_made (C := A.Word) (o := .ins A.Word dx (wF (.str (bS b)) (.str (bS x)) (.ref g))) ho hd
        refine qS _ hws2 _ o (eH2.trans e3) (Evl.fresh_back eH2 ho) ⟨dx, g, ?_, ?_⟩
        · rw [fresh_at (Evl.fresh_back eH2 ho), upd_same, wordOf_shown hws2]
        · rw [fresh_at hg]
          exact e3 _ _ upd_same
end
end Pw
set_option linter.all false
/-! Texts read as lists and items: the specification's readers, told one entry at a time. -/
namespace Pw
open VahypBase Vahypa
/-- what a word or a pattern is known by -/
inductive EKey where
  | w (b : Bytes)
  | p (b : Bytes) (f s : Bool)
deriving DecidableEq
def wKey (w : Word) : EKey := .w w.x
def pKey (p : Pat) : EKey := .p p.x p.front p.halt_
/-- the two kinds of entries -/
structure Kd (α : Type) where
  nm : Bytes
  made : Bytes → Option α
  key : α → EKey
def wKd : Kd Word := ⟨word "word", wordOf, wKey⟩
def pKd : Kd Pat := ⟨word "pattern", patOf, pKey⟩
/-- one entry, from its name to its sign -/
def entryM {α : Type} (K : Kd α) (es : List α) (l : Toks) : Except Fault (α × Toks) := (taken (.chunk K.nm) l).bind fun l1 => (takeChunk l1).bind fun x => match K.made x.2.1 with
  | none => .error ⟨7, x.1⟩
  | some e => if es.any (fun v => decide (K.key v = K.key e)) = true then .error ⟨5, x.1⟩ else (takeSign 59 x.2.2).map fun m => (e, m)
def entriesM {α : Type} (K : Kd α) (most : Nat) : Nat → List α → Toks → Except Fault (List α × Toks)
  | 0, _, l => wrong l
  | n + 1, es, l => if next (.chunk K.nm) l = true then (if most ≤ es.length then .error ⟨4, here l⟩ else (entryM K es l).bind fun y => entriesM K most n (es ++ [y.1]) y.2) else .ok (es, l)
theorem any_key {ws : List Word} {w : Word} : ws.any (fun v => v.x == w.x) = ws.any fun v => decide (wKey v = wKey w) := by
  congr 1
  funext v
  by_cases h : v.x = w.x
  · have : wKey v = wKey w := congrArg EKey.w h
    rw [decide_eq_true this]
    exact beq_iff_eq.mpr h
  · have : ¬ wKey v = wKey w := fun e => h (by injection e)
    rw [decide_eq_false this]
    simpa using h
theorem any_pkey {ps : List Pat} {p : Pat} : ps.any (fun q => q.x == p.x && (q.front == p.front && q.halt_ == p.halt_)) = ps.any fun v => decide (pKey v = pKey p) := by
  congr 1
  funext q
  rw [Bool.eq_iff_iff]
  simp only [Bool.and_eq_true, beq_iff_eq, decide_eq_true_iff]
  unfold pKey
  constructor
  · rintro ⟨h1, h2, h3⟩
    rw [h1, h2, h3]
  · intro h
    injection h with h1 h2 h3
    exact ⟨h1, h2, h3⟩
theorem takeWords_eq : ∀ (n : Nat) (ws : List Word) (l : Toks), takeWords n ws l = entriesM wKd 24 n ws l
  | 0, ws, l => rfl
  | n + 1, ws, l => by
    unfold takeWords entriesM
    show (if next (.chunk (word "word")) l = true then _ else _) = (if next (.chunk (word "word")) l = true then _ else _)
    by_cases h : next (.chunk (word "word")) l = true
    · rw [if_pos h, if_pos h]
      show (if 24 ≤ ws.length then _ else _) = (if 24 ≤ ws.length then _ else _)
      by_cases h2 : 24 ≤ ws.length
      · rw [if_pos h2, if_pos h2]
      · rw [if_neg h2, if_neg h2]
        unfold entryM taken
        rw [show wKd.nm = word "word" from rfl, if_pos h]
        show (takeChunk (l.drop 1)).bind _ = ((takeChunk (l.drop 1)).bind _).bind _
        cases hc : takeChunk (l.drop 1) with
        | error f => rfl
        | ok x =>
          cases hw : wordOf x.2.1 with
          | none =>
            have hw' : wKd.made x.2.1 = none := hw
            simp only [Except.bind, hw, hw']
          | some w =>
            have hw' : wKd.made x.2.1 = some w := hw
            simp only [Except.bind, hw, hw']
            rw [any_key, show wKd.key = wKey from rfl]
            by_cases ha : ws.any (fun v => decide (wKey v = wKey w)) = true
            · rw [if_pos ha, if_pos ha]
            · rw [if_neg ha, if_neg ha]
              cases takeSign 59 x.2.2 with
              | error f => rfl
              | ok m => exact takeWords_eq n _ _
    · rw [if_neg h, if_neg h]
theorem takePats_eq : ∀ (n : Nat) (ps : List Pat) (l : Toks), takePats n ps l = (entriesM pKd 40 n ps l).bind fun y => if next .last y.2 = true then .ok y.1 else wrong y.2
  | 0, ps, l => rfl
  | n + 1, ps, l => by
    unfold takePats entriesM
    show (if next .last l = true then _ else _) = (if next (.chunk (word "pattern")) l = true then _ else _ : Except Fault (List Pat × Toks)).bind _
    by_cases h : next .last l = true
    · have h0 : ¬ next (.chunk (word "pattern")) l = true := by
        unfold next at h ⊢
        cases l with
        | nil => exact fun z => by cases z
        | cons t r =>
          simp only at h ⊢
          cases ht : t.tok with
          | chunk b => rw [ht] at h; cases h
          | sign c => rw [ht] at h; cases h
          | last => exact fun z => by cases z
      rw [if_pos h, if_neg h0]
      show _ = if next .last l = true then Except.ok ps else wrong l
      rw [if_pos h]
    · rw [if_neg h]
      show (taken (.chunk (word "pattern")) l).bind _ = _
      by_cases h2 : next (.chunk (word "pattern")) l = true
      · rw [if_pos h2]
        have ht : taken (.chunk (word "pattern")) l = .ok (l.drop 1) := by
          unfold taken
          rw [if_pos h2]
        rw [ht]
        show (if 40 ≤ ps.length then _ else _) = (if 40 ≤ ps.length then _ else _ : Except Fault (List Pat × Toks)).bind _
        by_cases h3 : 40 ≤ ps.length
        · rw [if_pos h3, if_pos h3]
          rfl
        · rw [if_neg h3, if_neg h3]
          unfold entryM
          rw [show pKd.nm = word "pattern" from rfl, ht]
          show (takeChunk (l.drop 1)).bind _ = (((takeChunk (l.drop 1)).bind _).bind _).bind _
          cases hc : takeChunk (l.drop 1) with
          | error f => rfl
          | ok x =>
            cases hw : patOf x.2.1 with
            | none =>
              have hw' : pKd.made x.2.1 = none := hw
              simp only [Except.bind, hw, hw']
            | some p =>
              have hw' : pKd.made x.2.1 = some p := hw
              simp only [Except.bind, hw, hw']
              rw [any_pkey, show pKd.key = pKey from rfl]
              by_cases ha : ps.any (fun v => decide (pKey v = pKey p)) = true
              · rw [if_pos ha, if_pos ha]
              · rw [if_neg ha, if_neg ha]
                cases takeSign 59 x.2.2 with
                | error f => rfl
                | ok m => exact takePats_eq n _ _
      · rw [if_neg h2]
        have ht : taken (.chunk (word "pattern")) l = wrong l := by
          unfold taken
          rw [if_neg h2]
        rw [ht]
        show wrong l = if next .last l = true then Except.ok ps else wrong l
        rw [if_neg h]
/-! ### an entry takes three tokens -/
theorem entry_three {α : Type} {K : Kd α} {es : List α} {l : Toks} {y : α × Toks} (h : entryM K es l = .ok y) : y.2 = l.drop 3 ∧ 3 ≤ l.length ∧ (∃ b, K.made b = some y.1) ∧ next (.chunk K.nm) l = true := by
  unfold entryM at h
  cases ht : taken (.chunk K.nm) l with
  | error f => rw [ht] at h; cases h
  | ok l1 =>
    rw [ht] at h
    have hn : next (.chunk K.nm) l = true ∧ l1 = l.drop 1 := by
      unfold taken at ht
      split at ht
      · rename_i hn
        cases ht
        exact ⟨hn, rfl⟩
      · cases ht
    obtain ⟨hn, rfl⟩ := hn
    cases hc : takeChunk (l.drop 1) with
    | error f =>
      have h' : ((takeChunk (l.drop 1)).bind _ : Except Fault (α × Toks)) = .ok y := h
      rw [hc] at h'
      cases h'
    | ok x =>
      have h' : ((takeChunk (l.drop 1)).bind _ : Except Fault (α × Toks)) = .ok y := h
      rw [hc] at h'
      have h2 : (match K.made x.2.1 with | none => Except.error _ | some e => _ : Except Fault (α × Toks)) = .ok y := h'
      have hx : ∃ p b, l.drop 1 = ⟨p, .chunk b⟩ :: x.2.2 := by
        unfold takeChunk at hc
        split at hc
        · rename_i p b r he
          cases hc
          exact ⟨p, b, he⟩
        · cases hc
      obtain ⟨p, b, hx⟩ := hx
      cases hm : K.made x.2.1 with
      | none => rw [hm] at h2; cases h2
      | some e =>
        rw [hm] at h2
        have h3 : (if es.any (fun v => decide (K.key v = K.key e)) = true then Except.error _ else (takeSign 59 x.2.2).map fun m => (e, m) : Except Fault (α × Toks)) = .ok y := h2
        split at h3
        · cases h3
        · cases hs : takeSign 59 x.2.2 with
          | error f => rw [hs] at h3; cases h3
          | ok m =>
            rw [hs] at h3
            cases h3
            have hm2 : m = x.2.2.drop 1 ∧ x.2.2 ≠ [] := by
              unfold takeSign taken at hs
              split at hs
              · rename_i hq
                cases hs
                refine ⟨rfl, fun z => ?_⟩
                rw [z] at hq
                cases hq
              · cases hs
            have hd2 : l.drop 2 = x.2.2 := by
              have := congrArg (List.drop 1) hx
              rw [List.drop_drop] at this
              exact this
            refine ⟨?_, ?_, ⟨_, hm⟩, hn⟩
            · show m = l.drop 3
              rw [hm2.1, ← hd2, List.drop_drop]
            · have h5 : 0 < x.2.2.length := List.length_pos_iff.mpr hm2.2
              have h6 := congrArg List.length hx
              rw [List.length_drop, List.length_cons] at h6
              omega
theorem entries_fuel {α : Type} (K : Kd α) (most : Nat) : ∀ (k : Nat) (l : Toks) (es : List α) (n m : Nat), l.length ≤ k → l.length < n → l.length < m → entriesM K most n es l = entriesM K most m es l
  | k, l, es, 0, _, _, h, _ => absurd h (Nat.not_lt_zero _)
  | k, l, es, n + 1, 0, _, _, h => absurd h (Nat.not_lt_zero _)
  | k, l, es, n + 1, m + 1, hk, hn, hm => by
    unfold entriesM
    split
    · split
      · rfl
      · cases he : entryM K es l with
        | error f => rfl
        | ok y =>
          obtain ⟨h1, h2, _, _⟩ := entry_three he
          show entriesM K most n (es ++ [y.1]) y.2 = entriesM K most m (es ++ [y.1]) y.2
          rw [h1]
          cases k with
          | zero => omega
          | succ k =>
            have e : (l.drop 3).length = l.length - 3 := List.length_drop ..
            exact entries_fuel K most k (l.drop 3) _ n m (by omega) (by omega) (by omega)
    · rfl
/-- the entries without their fuel -/
def EM {α : Type} (K : Kd α) (most : Nat) (es : List α) (l : Toks) : Except Fault (List α × Toks) := entriesM K most (l.length + 1) es l
theorem EM_end {α : Type} {K : Kd α} {most : Nat} {es : List α} {l : Toks} (h : ¬ next (.chunk K.nm) l = true) : EM K most es l = .ok (es, l) := by
  unfold EM entriesM
  rw [if_neg h]
theorem EM_many {α : Type} {K : Kd α} {most : Nat} {es : List α} {l : Toks} (h : next (.chunk K.nm) l = true) (h2 : most ≤ es.length) : EM K most es l = .error ⟨4, here l⟩ := by
  unfold EM entriesM
  rw [if_pos h, if_pos h2]
theorem EM_bad {α : Type} {K : Kd α} {most : Nat} {es : List α} {l : Toks} {f : Fault} (h : next (.chunk K.nm) l = true) (h2 : ¬ most ≤ es.length) (h3 : entryM K es l = .error f) : EM K most es l = .error f := by
  unfold EM entriesM
  rw [if_pos h, if_neg h2, h3]
  rfl
theorem EM_step {α : Type} {K : Kd α} {most : Nat} {es : List α} {l : Toks} {e : α} (h2 : ¬ most ≤ es.length) (h3 : entryM K es l = .ok (e, l.drop 3)) : EM K most es l = EM K most (es ++ [e]) (l.drop 3) := by
  obtain ⟨_, hl, _, hn⟩ := entry_three h3
  have e3 : (l.drop 3).length = l.length - 3 := List.length_drop ..
  unfold EM
  conv => lhs; unfold entriesM
  rw [if_pos hn, if_neg h2, h3]
  show entriesM K most l.length (es ++ [e]) (l.drop 3) = _
  exact entries_fuel K most l.length _ _ _ _ (by omega) (by omega) (by omega)
theorem read_eq (b : Bytes) : Vahypa.read b = (tokens b).bind fun l => (taken (.chunk (word "margins")) l).bind fun l => (takeMargin l).bind fun a => (takeMargin a.2).bind fun z => (takeSign 59 z.2).bind fun l => (EM wKd 24 [] l).bind fun ws => (EM pKd 40 [] ws.2).bind fun ps => if next .last ps.2 = true then .ok ⟨a.1, z.1, ws.1, ps.1⟩ else wrong ps.2 := by
  unfold Vahypa.read
  show (tokens b).bind _ = (tokens b).bind _
  congr 1
  funext l
  show (taken (.chunk (word "margins")) l).bind _ = _
  congr 1
  funext l
  congr 1
  funext a
  congr 1
  funext z
  congr 1
  funext l
  rw [takeWords_eq]
  show (EM wKd 24 [] l).bind _ = _
  cases hw : EM wKd 24 [] l with
  | error f => rfl
  | ok ws =>
    show (takePats (l.length + 1) [] ws.2).map _ = (EM pKd 40 [] ws.2).bind _
    rw [takePats_eq]
    have hle : ∀ (n : Nat) (es : List Word) (l : Toks) (y : List Word × Toks), entriesM wKd 24 n es l = .ok y → y.2.length ≤ l.length := fun n => by
      induction n with
      | zero => intro es l y h; cases h
      | succ n ih =>
        intro es l y h
        unfold entriesM at h
        split at h
        · split at h
          · cases h
          · cases he : entryM wKd es l with
            | error f => rw [he] at h; cases h
            | ok z =>
              rw [he] at h
              have := ih _ _ _ h
              rw [(entry_three he).1, List.length_drop] at this
              omega
        · cases h
          exact Nat.le_refl _
    have hl := hle _ _ _ _ hw
    have ef : entriesM pKd 40 (l.length + 1) [] ws.2 = EM pKd 40 [] ws.2 := entries_fuel pKd 40 ws.2.length _ _ _ _ (Nat.le_refl _) (by omega) (Nat.lt_succ_self _)
    rw [ef]
    cases EM pKd 40 [] ws.2 with
    | error f => rfl
    | ok ps =>
      show (if next .last ps.2 = true then Except.ok ps.1 else wrong ps.2 : Except Fault (List Pat)).map _ = if next .last ps.2 = true then _ else _
      split
      · rfl
      · rfl
end Pw
set_option Elab.async false
set_option linter.all false
set_option maxRecDepth 100000
set_option maxHeartbeats 2000000
/-! listing.py: patterns -/
namespace Pw
open PySem PySem.Spec PyProof.Rows L2
open VahypBase (inChunk isLetter isDigit)
open Vahypa (Word Pat Lst wordOf patOf hyphened showPat)
theorem dot : Str.ofString "." = S [46] := by decide +kernel
theorem starts_dot (b : Bytes) : Txt.startswith (bS b) (Str.ofString ".") = (b.head? == some 46) := by
  unfold Txt.startswith
  rw [dot, StrLaws.subAt_eq, SX.S_len, bS_len]
  cases b with
  | nil => rfl
  | cons c r =>
    have e : ((TL.tl (bS (c :: r))).drop 0).take 1 = [c.toNat] := rfl
    show (decide (0 + 1 ≤ r.length + 1) && (((TL.tl (bS (c :: r))).drop 0).take 1 == [46])) = _
    rw [e, decide_eq_true (by omega), Bool.true_and]
    show ([c.toNat] == [46]) = (some c == some 46)
    by_cases h : c = 46
    · rw [h]
      rfl
    · have h1 : c.toNat ≠ 46 := fun e => h (UInt8.toNat_inj.mp e)
      have h2 : (some c == some (46 : UInt8)) = false := by simpa using h
      have h3 : ([c.toNat] == [46]) = false := by simpa using h1
      rw [h2, h3]
theorem ends_dot (b : Bytes) : Txt.endswith (bS b) (Str.ofString ".") = (b.getLast? == some 46) := by
  unfold Txt.endswith
  rw [dot, StrLaws.subAt_eq, SX.S_len, bS_len]
  by_cases hb : b = []
  · rw [hb]
    rfl
  · obtain ⟨r, c, hr⟩ : ∃ r c, b = r ++ [c] := ⟨b.dropLast, b.getLast hb, (List.dropLast_concat_getLast hb).symm⟩
    subst hr
    have hlen : (r ++ [c]).length = r.length + 1 := by rw [List.length_append]; rfl
    have e : ((TL.tl (bS (r ++ [c]))).drop ((r ++ [c]).length - [46].length)).take 1 = [c.toNat] := by
      have e0 : TL.tl (bS (r ++ [c])) = bn r ++ [c.toNat] := by
        show bn (r ++ [c]) = _
        unfold bn
        rw [List.map_append]
        rfl
      rw [e0, hlen]
      show ((bn r ++ [c.toNat]).drop (r.length + 1 - 1)).take 1 = _
      rw [Nat.add_sub_cancel, List.drop_left' (bn_len r)]
      rfl
    show (decide (0 + 1 ≤ (r ++ [c]).length) && (((TL.tl (bS (r ++ [c]))).drop ((r ++ [c]).length - [46].length)).take 1 == [46])) = _
    rw [e, decide_eq_true (by omega), Bool.true_and, List.getLast?_concat]
    by_cases h : c = 46
    · rw [h]
      rfl
    · have h1 : c.toNat ≠ 46 := fun e => h (UInt8.toNat_inj.mp e)
      have h2 : (some c == some (46 : UInt8)) = false := by simpa using h
      have h3 : ([c.toNat] == [46]) = false := by simpa using h1
      rw [h2, h3]
theorem cut_front (b : Bytes) : cutS (bS b) (some 1) none = bS (b.drop 1) := by
  rw [C8.cutS_slice]
  refine (SX.slice_from (a := bn b) (i := 1) (by decide)).trans ?_
  unfold bS bn
  rw [List.map_drop]
  rfl
theorem cut_last (b : Bytes) : cutS (bS b) none (some (-1)) = bS b.dropLast := by
  rw [C8.cutS_slice]
  by_cases hb : b = []
  · rw [hb]
    decide +kernel
  · refine (SX.slice_butlast (a := bn b) (fun e => hb (List.map_eq_nil_iff.mp e))).trans ?_
    unfold bS bn
    rw [List.dropLast_eq_take, List.map_take, List.length_map]
section
variable {P : Program} {w : World} {K : PySem.W.Frag} {mg : Str → Option Value} {base : Heap} {A : Adr}
def cutDots (b : Bytes) (f s : Bool) : Bytes :=
  let m := if f = true then b.drop 1 else b
  if s = true then m.dropLast else m
theorem cutDots_len (b : Bytes) (f s : Bool) : (cutDots b f s).length ≤ b.length := by
  unfold cutDots
  cases f <;> cases s <;> simp <;> omega
theorem cutDots_mem {b : Bytes} {f s : Bool} {c : UInt8} (h : c ∈ cutDots b f s) : c ∈ b := by
  unfold cutDots at h
  cases f <;> cases s <;> simp only [if_true, if_false, Bool.false_eq_true] at h
  · exact h
  · exact (List.dropLast_sublist _).mem h
  · exact List.mem_of_mem_drop h
  · exact List.mem_of_mem_drop ((List.dropLast_sublist _).mem h)
def spCutDots : Sp := fun vs H Q _ => ∃ (b : Bytes) (f s : Bool), vs = [.str (bS b), .bl f, .bl s] ∧ b.length ≤ 40 ∧ Q (.str (bS (cutDots b f s))) H
theorem ok_without_points {f : Addr} {fd : FuncData} (T : Txt K mg A) (a : At K mg "without_points" s_without_points ["chunk", "first", "last"] f fd) : C8.Cal P w K mg base 1 "without_points" spCutDots [] := by
  refine a.cal (ok0 a.fn sc_without_points (fun vs H Q E h => ?_) (fun cdv Ar outer s H vs Q E hr h => ⟨_, (pss_cons (ps_if (pt_val (pv 1)) (pss_one (ps_set (i := 0) sc_without_points.nd rfl (Or.inl rfl) (pe_slice sl_str (pv 0) (po_some pe_int) po_none))) pss_nil)
  (pss_cons (ps_if (pt_val (pv 2)) (pss_one (ps_set (i := 0) sc_without_points.nd rfl (Or.inl rfl) (pe_slice sl_str (pv 0) po_none (po_some (pe_un un_neg pe_int))))) pss_nil)
  (pss_one (ps_ret (pv 0))))), ?_⟩) rfl rfl rfl)
  · obtain ⟨_, _, _, rfl, _⟩ := h
    rfl
  · obtain ⟨b, ff, ss, rfl, hz, q⟩ := h
    have step : ∀ m : Bytes, m.length ≤ 40 → (Q (.str (bS (if ss = true then m.dropLast else m))) H) → tSeq (tIfS (tB (tVar 2)) (tAsg (tSl (fun x lo hi H Q => ∃ z, x = V.str z ∧ z.length ≤ sizeLine ∧ Q (V.str (cutS z lo hi)) H) (tVar 0) tNoPart (tPart (tUn (rU fun i => .int (-i)) (tC (.int 1))))) (gName 0)) tNext) (tRet (tVar 0)) { nx := fun _ H' => Q .non H', rt := Q } [some (.str (bS m)), some (.bl ff), some (.bl ss)] H := fun m hm q => by
      refine when2 (a_v (val_var rfl)) (fun h => ?_) (fun h => ?_)
      · rw [h, if_pos rfl, ← cut_last] at q
        exact ⟨_, rfl, 1, rfl, _, rfl, _, rfl, Evl.sz_of (by rw [bS_len]; omega), _, rfl, q⟩
      · rw [h, if_neg Bool.false_ne_true] at q
        exact ⟨_, rfl, q⟩
    refine when2 (a_v (val_var rfl)) (fun h => ?_) (fun h => ?_)
    · have hq : Q (.str (bS (if ss = true then (b.drop 1).dropLast else b.drop 1))) H := by
        unfold cutDots at q
        rw [h] at q
        exact q
      refine ⟨_, rfl, _, rfl, _, rfl, Evl.sz_of (by rw [bS_len]; omega), ?_⟩
      rw [cut_front]
      exact step (b.drop 1) (by rw [List.length_drop]; omega) hq
    · have hq : Q (.str (bS (if ss = true then b.dropLast else b))) H := by
        unfold cutDots at q
        rw [h] at q
        exact q
      exact step b hz hq

/-! ### pattern_of -/
theorem in_digits : ∀ n : Nat, n < 256 → (!(Builtin.Str.occurrences (Str.ofString "123456789") (S [n]) 0 (Str.ofString "123456789").length 1).isEmpty) = decide (49 ≤ n ∧ n ≤ 57) := by
  intro n hn
  have e : Str.ofString "123456789" = S [49, 50, 51, 52, 53, 54, 55, 56, 57] := by decide +kernel
  rw [e, SX.in_one]
  by_cases h : 49 ≤ n ∧ n ≤ 57
  · rw [decide_eq_true h]
    have : n ∈ [49, 50, 51, 52, 53, 54, 55, 56, 57] := by
      simp only [List.mem_cons, List.not_mem_nil, or_false]
      omega
    exact decide_eq_true this
  · rw [decide_eq_false h]
    have : n ∉ [49, 50, 51, 52, 53, 54, 55, 56, 57] := by
      simp only [List.mem_cons, List.not_mem_nil, or_false]
      omega
    exact decide_eq_false this
theorem int_digit {c : UInt8} (h : 48 ≤ c.toNat ∧ c.toNat ≤ 57) : intText? (S [c.toNat]) = some ((c.toNat - 48 : Nat) : Int) := by
  have e := SX.int_S (a := [c.toNat]) (by simp [h.1, h.2]) (by simp) (by simp)
  rw [e]
  have d : NumText.digitsVal [c.toNat] = c.toNat - 48 := by
    unfold NumText.digitsVal
    simp
  rw [d]
theorem one_sign (c : UInt8) : bS [c] = S [c.toNat] := rfl
theorem sign_at {m : Bytes} {i c : Nat} (h : (bS m).cps[i]? = some c) : ∃ b : UInt8, m[i]? = some b ∧ c = b.toNat := by
  have e : (bS m).cps[i]? = (bn m)[i]? := by
    rw [← Array.getElem?_toList]
    rfl
  rw [e] at h
  unfold bn at h
  rw [List.getElem?_map] at h
  cases k : m[i]? with
  | none => rw [k] at h; cases h
  | some b => rw [k] at h; exact ⟨b, rfl, (Option.some.inj h).symm⟩
theorem bS_size (m : Bytes) : (bS m).cps.size = m.length := by
  have : (bS m).length = m.length := bS_len m
  exact this
theorem atI_last_num {ds : List Nat} {v : Nat} : atI (nums (ds ++ [v])) (-1) = some (.int (v : Int)) := by
  rw [nums_app]
  exact atI_last _ _
theorem ixN_last (n : Nat) : ixN (n + 1) (-1) = some n := by
  unfold ixN
  rw [if_neg (by decide), if_pos (by omega)]
  congr 1
  omega
/-- the greatest of some numbers -/
def maxL (l : List Nat) : Nat := l.foldl Nat.max 0
theorem foldl_max : ∀ (l : List Nat) (m : Nat), m ≤ l.foldl Nat.max m ∧ (∀ v ∈ l, v ≤ l.foldl Nat.max m) ∧ (l.foldl Nat.max m = m ∨ l.foldl Nat.max m ∈ l)
  | [], m => ⟨Nat.le_refl _, (fun _ h => by cases h), .inl rfl⟩
  | a :: r, m => by
    obtain ⟨h1, h2, h3⟩ := foldl_max r (Nat.max m a)
    have hm : m ≤ Nat.max m a := Nat.le_max_left ..
    have ha : a ≤ Nat.max m a := Nat.le_max_right ..
    show m ≤ r.foldl Nat.max (Nat.max m a) ∧ (∀ v ∈ a :: r, v ≤ r.foldl Nat.max (Nat.max m a)) ∧ (r.foldl Nat.max (Nat.max m a) = m ∨ r.foldl Nat.max (Nat.max m a) ∈ a :: r)
    refine ⟨Nat.le_trans hm h1, fun v hv => ?_, ?_⟩
    · rcases List.mem_cons.mp hv with hv | hv
      · rw [hv]
        exact Nat.le_trans ha h1
      · exact h2 v hv
    · rcases h3 with h3 | h3
      · rw [h3]
        by_cases h : m ≤ a
        · exact .inr (by rw [show Nat.max m a = a from Nat.max_eq_right h]; exact List.mem_cons_self ..)
        · exact .inl (Nat.max_eq_left (by omega))
      · exact .inr (List.mem_cons_of_mem _ h3)
theorem maxL_mem {l : List Nat} (h : l ≠ []) : maxL l ∈ l := by
  obtain ⟨_, h2, h3⟩ := foldl_max l 0
  rcases h3 with h3 | h3
  · obtain ⟨a, ha⟩ := List.exists_mem_of_ne_nil l h
    have := h2 a ha
    rw [h3] at this
    have e : a = 0 := by omega
    show l.foldl Nat.max 0 ∈ l
    rw [h3, ← e]
    exact ha
  · exact h3
theorem maxL_le {l : List Nat} {v : Nat} (h : v ∈ l) : v ≤ maxL l := (foldl_max l 0).2.1 v h
theorem v_maxL {K : PySem.W.Frag} {σ : L2.St} {H : Hp} {ta : TE} {p : Addr} {l : List Nat} (ha : Val ta σ H (.ref p)) (h : SqL K H p (nums l)) (hl : l ≠ []) : Val (tCB (rMax K) (tCons ta tNil)) σ H (.int (maxL l : Int)) := fun Q q => ha _ (by
  refine ⟨p, l.map Int.ofNat, rfl, ?_, ?_, fun m hm hle => ?_⟩
  · rw [List.map_map]
    exact h
  · rw [List.length_map]
    exact List.length_pos_iff.mpr hl
  · obtain ⟨v, hv, rfl⟩ := List.mem_map.mp hm
    have h1 := hle (Int.ofNat (maxL l)) (List.mem_map.mpr ⟨_, maxL_mem hl, rfl⟩)
    have h2 := maxL_le hv
    have e : v = maxL l := by
      have h3 : ((maxL l : Nat) : Int) ≤ (v : Int) := h1
      omega
    rw [e]
    exact q)
theorem set_last {ds : List Nat} {u v : Nat} : (nums (ds ++ [u])).set ds.length (.int (v : Int)) = nums (ds ++ [v]) := by
  rw [nums_app, nums_app]
  rw [← nums_len ds, List.set_append_right _ _ (Nat.le_refl _), Nat.sub_self]
  rfl
def spPatternOf (A : Adr) : Sp := fun vs H Q _ => ∃ b : Bytes, vs = [.str (bS b)] ∧ b ≠ [] ∧ (∀ c ∈ b, inChunk c = true) ∧ b.length ≤ 40 ∧
  (patOf b = none → ∀ H', Ex H H' → Q .non H') ∧ (∀ p, patOf b = some p → ∀ H' a, Ex H H' → H a = none → PatAt A (fresh H H') a p → Q (.ref a) H')
theorem ok_pattern_of {f : Addr} {fd : FuncData} (T : Txt K mg A) (a : At K mg "pattern_of" s_pattern_of ["chunk"] f fd) (d_without_points : C8.Cal P w K mg base 1 "without_points" spCutDots []) (mk_Pattern : C8.Mak P w K mg base 1 "Pattern" A.Pattern (spPatI A) []) :
    C8.Cal P w K mg base 3 "pattern_of" (spPatternOf A) [] := by
  refine a.cal (ok0 a.fn sc_pattern_of (fun vs H Q E h => ?_) (fun cdv Ar outer s H vs Q E hr h => ⟨_, (pss_cons (ps_set (i := 1) sc_pattern_of.nd rfl (Or.inl rfl) (pe_m1 PySem.F.slot_str_startswith PySem.F.type_str_startswith mt_startswith (pv 0) pe_str))
  (pss_cons (ps_set (i := 2) sc_pattern_of.nd rfl (Or.inl rfl) (pe_m1 PySem.F.slot_str_endswith PySem.F.type_str_endswith mt_endswith (pv 0) pe_str))
  (pss_cons (ps_set (i := 3) sc_pattern_of.nd rfl (Or.inl rfl) pe_str)
  (pss_cons (ps_set (i := 4) sc_pattern_of.nd rfl (Or.inl rfl) (pe_lst (pa_cons pe_int pa_nil)))
  (pss_cons (ps_for PassesOwn.never rfl (pi_str (C8.pe_c d_without_points hr (by decide) rfl (by exact (pa_cons (pv 0) (pa_cons (pv 1) (pa_cons (pv 2) pa_nil)))))) (pg_name (i := 5) sc_pattern_of.nd rfl (Or.inl rfl)) (pss_one (ps_if (pt_val (pe_m0 PySem.F.slot_str_isalpha PySem.F.type_str_isalpha mt_isalpha (pv 5))) (pss_cons (ps_set (i := 3) sc_pattern_of.nd rfl (Or.inl rfl) (pe_op op_add_str (pv 3) (pv 5)))
      (pss_one (ps_expr (pe_bm PySem.F.plainAttrs_list PySem.F.slot_list_append PySem.F.type_list_append mt_append (pv 4) (pa_cons pe_int pa_nil))))) (pss_one (ps_if (PW.pt (pw_and (pt_cmpR op_in_str (pv 5) (C8.pe_gc rfl T.c_PATTERN_DIGITS) (by rfl)) (pw_and1 (pt_cmpR op_eq (pe_ix ix_list (pv 4) (pe_un un_neg pe_int) (fun _ _ => rfl)) pe_int (nomark _))))) (pss_one (ps_asg (pe_callTy call_int_str rfl T.ty_int (by decide +kernel) (pa_cons (pv 5) pa_nil)) (pg_sub (pv 4) (pe_un un_neg pe_int) set_list))) (pss_one (ps_ret pe_non)))))))
  (pss_cons (ps_if (PW.pt (pw_or (pt_cmpR op_eq (pv 3) pe_str (nomark _)) (pw_or (pt_cmpR op_gt (pe_callB call_len_str rfl T.len (by decide +kernel) (pa_cons (pv 3) pa_nil)) (C8.pe_gc rfl T.c_MOST_PATTERN_LETTERS) (nomark _)) (pw_or1 (pt_cmpR op_eq (pe_callB (cr_max rfl) rfl T.max (by decide +kernel) (pa_cons (pv 4) pa_nil)) pe_int (nomark _)))))) (pss_one (ps_ret pe_non)) pss_nil)
  (pss_one (ps_ret (C8.pe_mk mk_Pattern hr (by decide) rfl (pa_cons (pv 0) (pa_cons (pv 3) (pa_cons (pv 4) (pa_cons (pv 1) (pa_cons (pv 2) pa_nil)))))))))))))), ?_⟩) rfl rfl rfl)
  · obtain ⟨_, rfl, _⟩ := h
    rfl
  · obtain ⟨b, rfl, hb, hin, hz, qN, qS⟩ := h
    have hP := patOf_eq hb
    unfold patM at hP
    dsimp only at hP
    refine ⟨_, rfl, ⟨_, rfl⟩, _, _, rfl, rfl, _, rfl, ⟨_, rfl⟩, _, _, rfl, rfl, ?_⟩
    rw [starts_dot, ends_dot]
    generalize hf : (b.head? == some 46) = ff at hP ⊢
    generalize hs : (b.getLast? == some 46) = ss at hP ⊢
    have hm : (if ss = true then (if ff = true then b.drop 1 else b).dropLast else if ff = true then b.drop 1 else b) = cutDots b ff ss := rfl
    rw [hm] at hP
    generalize hmm : cutDots b ff ss = m at hP
    have hml : m.length ≤ 40 := by rw [← hmm]; exact Nat.le_trans (cutDots_len _ _ _) hz
    have hmin : ∀ c ∈ m, inChunk c = true := fun c hc => hin c (cutDots_mem (by rw [hmm]; exact hc))
    refine ⟨by show 1 ≤ sizeLine; decide, fun g hg => ?_⟩
    refine ⟨_, rfl, _, rfl, _, rfl, b, ff, ss, rfl, hz, bS m, by rw [hmm], ?_⟩
    refine for_it (walk_str (z := bS m)) (fun i σ H' => ∃ (x : Bytes) (ds : List Nat) (u : Nat) (v : Option V), σ = [some (.str (bS b)), some (.bl ff), some (.bl ss), some (.str (bS x)), some (.ref g), v] ∧ Ex H H' ∧ H' g = some (.lst (nums (ds ++ [u]))) ∧
      x.length ≤ i ∧ ds.length ≤ i ∧ patLoop (m.drop i) x (ds ++ [u]) = patLoop m [] [0]) ⟨[], [], 0, none, ?_, ex_new hg, upd_same, Nat.le_refl _, Nat.le_refl _, rfl⟩ (fun _ _ _ _ _ => trivial) ?_ ?_
    · show [some (V.str (bS b)), some (.bl ff), some (.bl ss), some (V.str (Str.ofString "")), some (.ref g), none] = _
      rw [emp]
      rfl
    · rintro i y σ H0 H' hi ⟨x, ds, u, v, rfl, eH, h2, hx, hds, hpl⟩ ⟨rfl, c0, hc0, hy⟩
      rw [bS_size] at hi
      obtain ⟨c, hc, rfl⟩ := sign_at hc0
      have hy2 : y = .str (bS [c]) := hy
      subst hy2
      have hci := hmin c (List.mem_of_getElem? hc)
      have hdrop := drop_at hc
      have hal : Txt.isalpha (bS [c]) = isLetter c := by
        have := alpha_part (p := [c]) (fun d hd => by rw [List.mem_singleton.mp hd]; exact hci)
        rw [this]
        simp
      refine if2 (b := isLetter c) (fun Q q => ⟨_, rfl, ⟨_, rfl⟩, _, rfl, rfl, trivial, _, rfl, by rw [hal]; exact q⟩) (fun h => ?_) (fun h => ?_)
      · refine ⟨_, rfl, _, rfl, _, _, rfl, rfl, Evl.sz_of (by rw [bS_len, bS_len]; show x.length + 1 ≤ _; omega), ?_⟩
        rw [← bS_app]
        refine ⟨_, rfl, .inl ⟨rfl, _, SqL.of h2⟩, g, _, _, rfl, rfl, h2, Evl.sz_lt (by rw [nums_len, List.length_append]; show ds.length + 1 < _; omega), ?_⟩
        refine ⟨x ++ [c], ds ++ [u], 0, _, rfl, Evl.Ex.mut eH hg, ?_, by rw [List.length_append]; show x.length + 1 ≤ _; omega, by rw [List.length_append]; show ds.length + 1 ≤ _; omega, ?_⟩
        · rw [upd_same, nums_app (ds ++ [u])]
          rfl
        · rw [← hpl, hdrop, patLoop, if_pos h]
      · have hlast : atI (nums (ds ++ [u])) (-1) = some (.int (u : Int)) := atI_last_num
        have c256 : c.toNat < 256 := UInt8.toNat_lt c
        have hdig : Ans (tTest (tOp (fun x y H Q => ∃ i j, x = V.str i ∧ y = V.str j ∧ Q (.bl (!(Builtin.Str.occurrences j i 0 j.length 1).isEmpty)) H) (tVar 5) (tC (.str (Str.ofString "123456789"))))) [some (.str (bS b)), some (.bl ff), some (.bl ss), some (.str (bS x)), some (.ref g), some (.str (bS [c]))] H' (decide (49 ≤ c.toNat ∧ c.toNat ≤ 57)) := fun Q q =>
          ⟨_, rfl, _, _, rfl, rfl, _, rfl, by rw [one_sign, in_digits _ c256]; exact q⟩
        have hla : Val (tOp (rIxL K) (tVar 4) (tUn (rU fun i => .int (-i)) (tC (.int 1)))) [some (.str (bS b)), some (.bl ff), some (.bl ss), some (.str (bS x)), some (.ref g), some (.str (bS [c]))] H' (.int (u : Int)) := fun Q q =>
          ⟨_, rfl, 1, rfl, g, _, _, _, rfl, rfl, SqL.of h2, hlast, q⟩
        refine if2 (a_and hdig (fun _ => a_t (v_eqI hla val_c))) (fun h3 => ?_) (fun h3 => ?_)
        · rw [Bool.and_eq_true, decide_eq_true_iff, decide_eq_true_iff] at h3
          have hu : u = 0 := by omega
          have hd : isDigit c = true := by
            unfold isDigit
            exact decide_eq_true (by omega)
          have hc48 : c ≠ 48 := fun e => by
            rw [e] at h3
            exact absurd h3.1.1 (by decide)
          refine ⟨_, rfl, _, _, rfl, int_digit (c := c) (by omega), by rw [bS_len]; show 1 ≤ 640; decide, _, rfl, 1, rfl, g, _, _, ds.length, rfl, rfl, h2, ?_, ?_⟩
          · rw [nums_len, List.length_append]
            exact ixN_last _
          · rw [set_last]
            refine ⟨x, ds, c.toNat - 48, _, rfl, Evl.Ex.mut eH hg, upd_same, by omega, by omega, ?_⟩
            rw [← hpl, hdrop, patLoop, if_neg (by rw [h]; exact Bool.false_ne_true), if_pos ⟨hd, hc48, by rw [List.getLast?_concat, hu]⟩, List.dropLast_concat]
        · rw [Bool.and_eq_false_iff, decide_eq_false_iff_not, decide_eq_false_iff_not] at h3
          have hn : patLoop m [] [0] = none := by
            rw [← hpl, hdrop, patLoop, if_neg (by rw [h]; exact Bool.false_ne_true), if_neg]
            rintro ⟨z1, z2, z3⟩
            rw [List.getLast?_concat] at z3
            have z4 := Option.some.inj z3
            unfold isDigit at z1
            rw [decide_eq_true_iff] at z1
            have z5 : c.toNat ≠ 48 := fun e => z2 (UInt8.toNat_inj.mp e)
            rcases h3 with h3 | h3
            · omega
            · omega
          rw [hn] at hP
          exact qN hP _ eH
    · rintro σ H' ⟨x, ds, u, v, rfl, eH, h2, hx, hds, hpl⟩
      rw [bS_size] at hx hds hpl
      rw [List.drop_length] at hpl
      have hpl2 : patLoop m [] [0] = some (x, ds ++ [u]) := hpl.symm
      rw [hpl2] at hP
      have hP2 : patOf b = if x.length < 1 ∨ 6 < x.length ∨ (ds ++ [u]).all (fun v => v == 0) = true then none else some ⟨ff, x, ss, ds ++ [u]⟩ := hP
      have hv : Val (tVar 3) [some (.str (bS b)), some (.bl ff), some (.bl ss), some (.str (bS x)), some (.ref g), v] H' (.str (bS x)) := val_var rfl
      have hln := v_lenS hv (by rw [bS_len]; omega)
      rw [bS_len] at hln
      have hmv : Val (tCB (rMax K) (tCons (tVar 4) tNil)) [some (.str (bS b)), some (.bl ff), some (.bl ss), some (.str (bS x)), some (.ref g), v] H' (.int (maxL (ds ++ [u]) : Int)) := v_maxL (val_var rfl) (SqL.of h2) (by simp)
      have hmx : maxL (ds ++ [u]) = 0 ↔ (ds ++ [u]).all (fun v => v == 0) = true := by
        rw [List.all_eq_true]
        constructor
        · intro h0 x hx
          have := maxL_le hx
          rw [h0] at this
          exact beq_iff_eq.mpr (by omega)
        · intro h0
          exact beq_iff_eq.mp (h0 _ (maxL_mem (by simp)))
      refine when2 (a_or (a_t (v_eqS hv val_c)) (fun _ => a_or (a_t (w_gt hln val_c)) (fun _ => a_t (v_eqI hmv val_c)))) (fun h => ?_) (fun h => ?_)
      · rw [Bool.or_eq_true, Bool.or_eq_true, decide_eq_true_iff, decide_eq_true_iff, decide_eq_true_iff] at h
        refine qN ?_ _ eH
        rw [hP2]
        refine if_pos ?_
        rcases h with h | h | h
        · have := congrArg Str.length h
          rw [bS_len, emp, SX.S_len] at this
          have e : ([] : List Nat).length = 0 := rfl
          omega
        · omega
        · exact .inr (.inr (hmx.mp (by omega)))
      · rw [Bool.or_eq_false_iff, Bool.or_eq_false_iff, decide_eq_false_iff_not, decide_eq_false_iff_not, decide_eq_false_iff_not] at h
        have hx1 : ¬ x.length < 1 := fun z => h.1 (by
          have : x = [] := List.length_eq_zero_iff.mp (by omega)
          rw [this, emp]
          rfl)
        have hP3 : patOf b = some ⟨ff, x, ss, ds ++ [u]⟩ := by
          rw [hP2]
          refine if_neg ?_
          rintro (z | z | z)
          · exact hx1 z
          · omega
          · exact h.2.2 (by have := hmx.mpr z; omega)
        refine ⟨_, rfl, _, rfl, _, rfl, _, rfl, _, rfl, fun o dx ho hd hdo => ?_⟩
        refine ⟨o, dx, _, _, _, _, _, rfl, upd_same, fun k hk => ⟨rfl, ?_⟩⟩
        have ko : k ≠ o := fun e => by rw [e, upd_same] at hk; cases hk
        rw [upd_ne ko] at hk
        have kd : k ≠ dx := fun e => by rw [e, upd_same] at hk; cases hk
        rw [upd_ne kd] at hk
        have e3 : Ex H' (upd (upd (upd (upd H' dx (.own o)) o (.ins A.Pattern dx [])) k (.tup [.str (bS x), .bl ff, .bl ss])) o (.ins A.Pattern dx (pF (.str (bS b)) (.str (bS x)) (.ref g) (.bl ff) (.bl ss) (.ref k)))) := fun c u h => by
          rw [upd_ne (ne_of_none h ho), upd_ne (ne_of_none h hk), upd_ne (ne_of_none h ho), upd_ne (ne_of_none h hd)]
          exact h
        refine qS _ hP3 _ o (eH.trans e3) (Evl.fresh_back eH ho) ⟨dx, g, k, ?_, ?_, ?_⟩
        · rw [fresh_at (Evl.fresh_back eH ho), upd_same, (patOf_told hP3).2]
        · rw [fresh_at hg]
          exact e3 _ _ h2
        · rw [fresh_at (Evl.fresh_back eH hk), upd_ne ko, upd_same]
end
end Pw
set_option linter.all false
/-! Parting: the specification's numbers against the program's ways. -/
namespace Pw
open VahypBase Vahypa
theorem fits_last {p : Pat} (h : 1 ≤ p.x.length) (x : Bytes) : fitsAt p x x.length = false := by
  unfold fitsAt
  rw [decide_eq_false (by omega), Bool.false_and]
/-- the program's own test -/
def fitsM (p : Pat) (x : Bytes) (o : Nat) : Bool :=
  if p.front = true ∧ 0 < o then false else if p.halt_ = true ∧ o + p.x.length < x.length then false else decide ((x.drop o).take p.x.length = p.x)
theorem fitsM_eq {p : Pat} (h : 1 ≤ p.x.length) (x : Bytes) (o : Nat) : fitsM p x o = fitsAt p x o := by
  unfold fitsM fitsAt
  by_cases he : (x.drop o).take p.x.length = p.x
  · have hl : o + p.x.length ≤ x.length := by
      have := congrArg List.length he
      rw [List.length_take, List.length_drop] at this
      omega
    rw [decide_eq_true he, decide_eq_true hl, Bool.true_and]
    have hb : ((x.drop o).take p.x.length == p.x) = true := beq_iff_eq.mpr he
    rw [hb, Bool.true_and]
    cases hf : p.front <;> cases hh : p.halt_
    · simp
    all_goals
      simp
      rw [Bool.eq_iff_iff]
      simp
      omega
  · rw [decide_eq_false he]
    have hb : ((x.drop o).take p.x.length == p.x) = false := by simpa using he
    rw [hb, Bool.false_and, Bool.and_false]
    split
    · rfl
    · split <;> rfl
/-- the places where it fits -/
def fitsIn (p : Pat) (x : Bytes) : List Nat := (List.range x.length).filter (fitsAt p x)
theorem fitsIn_mem {p : Pat} {x : Bytes} {o : Nat} (h : o ∈ fitsIn p x) : o + p.x.length ≤ x.length := by
  unfold fitsIn at h
  have := (List.mem_filter.mp h).2
  unfold fitsAt at this
  simp only [Bool.and_eq_true, decide_eq_true_iff] at this
  exact this.1
theorem any_fits {p : Pat} (h : 1 ≤ p.x.length) (x : Bytes) : (List.range (x.length + 1)).any (fitsAt p x) = decide (0 < (fitsIn p x).length) := by
  rw [List.range_succ, List.any_append]
  have e : [x.length].any (fitsAt p x) = false := by
    simp [fits_last h]
  rw [e, Bool.or_false]
  refine Bool.eq_iff_iff.mpr ?_
  rw [decide_eq_true_iff, List.length_pos_iff, List.any_eq_true]
  unfold fitsIn
  constructor
  · rintro ⟨o, ho, hf⟩ e
    have := List.mem_filter.mpr ⟨ho, hf⟩
    rw [e] at this
    cases this
  · intro hne
    obtain ⟨o, ho⟩ := List.exists_mem_of_ne_nil _ hne
    exact ⟨o, (List.mem_filter.mp ho).1, (List.mem_filter.mp ho).2⟩
/-- the greatest level that a pattern's fits leave at a gap -/
def upTo (p : Pat) (x : Bytes) (g : Nat) (os : List Nat) (m : Nat) : Nat := os.foldl (fun m o => Nat.max m (tells p x o g)) m
theorem upTo_filter (p : Pat) (x : Bytes) (g : Nat) : ∀ (os : List Nat) (m : Nat), upTo p x g (os.filter (fitsAt p x)) m = upTo p x g os m
  | [], m => rfl
  | o :: r, m => by
    by_cases h : fitsAt p x o = true
    · rw [List.filter_cons, if_pos h]
      exact upTo_filter p x g r _
    · rw [List.filter_cons, if_neg h]
      have e : tells p x o g = 0 := if_neg fun z => h z.1
      have e2 : upTo p x g (o :: r) m = upTo p x g r (Nat.max m 0) := by
        show r.foldl _ (Nat.max m (tells p x o g)) = _
        rw [e]
        rfl
      rw [e2, show Nat.max m 0 = m from Nat.max_eq_left (Nat.zero_le _)]
      exact upTo_filter p x g r m
theorem upTo_all {p : Pat} (h : 1 ≤ p.x.length) (x : Bytes) (g m : Nat) : (List.range (x.length + 1)).foldl (fun m o => Nat.max m (tells p x o g)) m = upTo p x g (fitsIn p x) m := by
  unfold fitsIn
  rw [upTo_filter, List.range_succ]
  unfold upTo
  rw [List.foldl_append]
  show Nat.max _ (tells p x x.length g) = _
  have e : tells p x x.length g = 0 := if_neg fun z => by rw [fits_last h] at z; cases z.1
  rw [e]
  exact Nat.max_eq_left (Nat.zero_le _)
theorem level_more {ps : List Pat} {i : Nat} {p : Pat} (h : ps[i]? = some p) (h1 : 1 ≤ p.x.length) (x : Bytes) (g : Nat) : levelAt (ps.take (i + 1)) x g = upTo p x g (fitsIn p x) (levelAt (ps.take i) x g) := by
  rw [List.take_add_one, h]
  unfold levelAt
  rw [List.foldl_append]
  show (List.range (x.length + 1)).foldl (fun m o => Nat.max m (tells p x o g)) _ = _
  exact upTo_all h1 x g _
theorem upTo_more {p : Pat} {x : Bytes} {g j o m : Nat} {os : List Nat} (h : os[j]? = some o) : upTo p x g (os.take (j + 1)) m = Nat.max (upTo p x g (os.take j) m) (tells p x o g) := by
  rw [List.take_add_one, h]
  unfold upTo
  rw [List.foldl_append]
  rfl
/-- a gap's number when some of the pattern's levels have been written from o on -/
def part (p : Pat) (o k : Nat) (m : Nat → Nat) (g : Nat) : Nat := if o ≤ g ∧ g < o + k then Nat.max (m g) (p.levels[g - o]?.getD 0) else m g
theorem part_zero (p : Pat) (o : Nat) (m : Nat → Nat) (g : Nat) : part p o 0 m g = m g := if_neg (by omega)
theorem part_all {p : Pat} {x : Bytes} {o : Nat} (hf : fitsAt p x o = true) (m : Nat → Nat) (g : Nat) : part p o p.levels.length m g = Nat.max (m g) (tells p x o g) := by
  show (if o ≤ g ∧ g < o + p.levels.length then Nat.max (m g) (p.levels[g - o]?.getD 0) else m g) = Nat.max (m g) (if fitsAt p x o = true ∧ o ≤ g then p.levels[g - o]?.getD 0 else 0)
  have z : m g = Nat.max (m g) 0 := (Nat.max_eq_left (Nat.zero_le _)).symm
  by_cases h : o ≤ g
  · rw [if_pos (show fitsAt p x o = true ∧ o ≤ g from ⟨hf, h⟩)]
    by_cases h2 : g < o + p.levels.length
    · rw [if_pos ⟨h, h2⟩]
    · rw [if_neg (fun z => h2 z.2), List.getElem?_eq_none (by omega)]
      exact z
  · rw [if_neg (fun z => h z.1), if_neg (fun z => h z.2)]
    exact z
theorem part_more {p : Pat} {o k v : Nat} (m : Nat → Nat) (h : p.levels[k]? = some v) (n : Nat) (hn : o + k ≤ n) :
    (((List.range (n + 1)).map (part p o k m)).set (o + k) (Nat.max (part p o k m (o + k)) v)) = (List.range (n + 1)).map (part p o (k + 1) m) := by
  refine List.ext_getElem? fun i => ?_
  rw [List.getElem?_set]
  by_cases hi : o + k = i
  · subst hi
    rw [if_pos rfl, if_pos (by rw [List.length_map, List.length_range]; omega), List.getElem?_map, List.getElem?_range (by omega)]
    show some _ = some _
    congr 1
    have e1 : part p o k m (o + k) = m (o + k) := if_neg (by omega)
    have e2 : part p o (k + 1) m (o + k) = Nat.max (m (o + k)) (p.levels[o + k - o]?.getD 0) := if_pos ⟨by omega, by omega⟩
    rw [e1, e2, Nat.add_sub_cancel_left, h]
    rfl
  · rw [if_neg hi, List.getElem?_map, List.getElem?_map]
    by_cases hr : i < n + 1
    · rw [List.getElem?_range hr]
      show some _ = some _
      congr 1
      unfold part
      by_cases h1 : o ≤ i ∧ i < o + k
      · rw [if_pos h1, if_pos ⟨h1.1, by omega⟩]
      · rw [if_neg h1, if_neg (by omega)]
    · rw [List.getElem?_eq_none (by rw [List.length_range]; omega)]
      rfl
/-- as many of l are in m as of m in l -/
theorem both_len : ∀ {l m : List Nat}, l.Nodup → m.Nodup → (l.filter fun g => m.contains g).length = (m.filter fun g => l.contains g).length := by
  intro l m hl hm
  refine List.Perm.length_eq ?_
  refine (List.perm_ext_iff_of_nodup (hl.filter _) (hm.filter _)).mpr fun a => ?_
  rw [List.mem_filter, List.mem_filter, List.contains_iff_mem, List.contains_iff_mem]
  exact And.comm
theorem filter_split (l : List Nat) (p : Nat → Bool) : (l.filter p).length + (l.filter fun g => !p g).length = l.length := by
  induction l with
  | nil => rfl
  | cons a r ih =>
    rw [List.filter_cons, List.filter_cons]
    cases h : p a
    · simp only [Bool.false_eq_true, if_false, Bool.not_false, if_true, List.length_cons]
      omega
    · simp only [if_true, Bool.not_true, Bool.false_eq_true, if_false, List.length_cons]
      omega
end Pw
set_option linter.all false
/-! Margins tried. -/
namespace Pw
open VahypBase Vahypa Vahypz
def scoreM (ps : List Pat) (w : Word) (l r : Nat) : Score := scoreWord ⟨l, r, [], ps⟩ w
def wrongM (ps : List Pat) (l r : Nat) (w : Word) : Nat := (scoreM ps w l r).faults + (scoreM ps w l r).misses
/-- faults and misses of each word with these margins -/
def wrongL (s : Lst) (m : Nat × Nat) : List Nat := s.words.map (wrongM s.pats m.1 m.2)
theorem addScore_fold : ∀ (l : List Score) (a : Score), (l.foldl addScore a).faults + (l.foldl addScore a).misses = a.faults + a.misses + (l.map fun z => z.faults + z.misses).sum
  | [], a => by simp
  | z :: r, a => by
    rw [List.foldl_cons, addScore_fold r, List.map_cons, List.sum_cons]
    show a.faults + z.faults + (a.misses + z.misses) + _ = _
    omega
theorem wrongs_sum (s : Lst) (l r : Nat) : wrongs (withMargins s l r) = (wrongL s (l, r)).sum := by
  unfold wrongs scoreOf
  rw [addScore_fold, List.map_map]
  show 0 + 0 + _ = _
  rw [Nat.zero_add]
  rfl
theorem exact_count (s : Lst) (l r : Nat) : exactCount (withMargins s l r) = (wrongL s (l, r)).count 0 := by
  unfold exactCount wrongL
  have h : ∀ ws : List Word, (ws.filter (exact (withMargins s l r))).length = (ws.map (wrongM s.pats l r)).count 0 := fun ws => by
    induction ws with
    | nil => rfl
    | cons w r' ih =>
      rw [List.filter_cons, List.map_cons, List.count_cons]
      have e : exact (withMargins s l r) w = (wrongM s.pats l r w == 0) := by
        show ((scoreM s.pats w l r).faults == 0 && (scoreM s.pats w l r).misses == 0) = ((scoreM s.pats w l r).faults + (scoreM s.pats w l r).misses == 0)
        rw [Bool.eq_iff_iff]
        simp
      rw [e]
      cases hz : (wrongM s.pats l r w == 0)
      · simp only [Bool.false_eq_true, if_false]
        exact ih
      · simp only [if_true, List.length_cons]
        rw [ih]
  exact h s.words
def stepM (s : Lst) (b : Option (Nat × Nat × Nat)) (m : Nat × Nat) : Option (Nat × Nat × Nat) := match b with
  | none => some (m.1, m.2, (wrongL s m).sum)
  | some b => if (wrongL s m).sum < b.2.2 then some (m.1, m.2, (wrongL s m).sum) else some b
def bestTo (s : Lst) (k : Nat) : Option (Nat × Nat × Nat) := (allMargins.take k).foldl (stepM s) none
theorem best_some (s : Lst) : ∀ (l : List (Nat × Nat)) (b : Nat × Nat × Nat), l.foldl (stepM s) (some b) = some (l.foldl (fun b m => let n := wrongs (withMargins s m.1 m.2); if n < b.2.2 then (m.1, m.2, n) else b) b)
  | [], b => rfl
  | m :: r, b => by
    rw [List.foldl_cons, List.foldl_cons]
    show r.foldl (stepM s) (if (wrongL s m).sum < b.2.2 then some (m.1, m.2, (wrongL s m).sum) else some b) = some (r.foldl _ (if wrongs (withMargins s m.1 m.2) < b.2.2 then (m.1, m.2, wrongs (withMargins s m.1 m.2)) else b))
    rw [wrongs_sum]
    split
    · exact best_some s r _
    · exact best_some s r _
theorem best_all (s : Lst) : bestTo s 36 = some (bestMargins s) := by
  unfold bestTo bestMargins
  have e : allMargins = (0, 0) :: allMargins.drop 1 := by decide
  have e2 : allMargins.take 36 = allMargins := by decide
  rw [e2, e, List.foldl_cons, List.foldl_cons]
  show (allMargins.drop 1).foldl (stepM s) (some (0, 0, (wrongL s (0, 0)).sum)) = _
  rw [best_some]
  show some _ = some ((allMargins.drop 1).foldl _ (if wrongs (withMargins s 0 0) < wrongs (withMargins s 0 0) then _ else _))
  rw [if_neg (Nat.lt_irrefl _), wrongs_sum]
theorem marg_at : ∀ i j : Nat, i < 6 → j < 6 → allMargins[6 * i + j]? = some (i, j) := by
  have h : ((List.range 6).all fun i => (List.range 6).all fun j => allMargins[6 * i + j]? == some (i, j)) = true := by decide
  intro i j hi hj
  have := List.all_eq_true.mp h i (List.mem_range.mpr hi)
  exact eq_of_beq (List.all_eq_true.mp this j (List.mem_range.mpr hj))
theorem best_more {s : Lst} {k : Nat} {m : Nat × Nat} (h : allMargins[k]? = some m) : bestTo s (k + 1) = stepM s (bestTo s k) m := by
  unfold bestTo
  rw [List.take_add_one, h, List.foldl_append]
  rfl
/-- whether these margins are better than the best so far -/
def beats (s : Lst) (k : Nat) (m : Nat × Nat) : Bool := match bestTo s k with
  | none => true
  | some b => decide ((wrongL s m).sum < b.2.2)
theorem beats_none {s : Lst} {k : Nat} {m : Nat × Nat} (h : bestTo s k = none) : beats s k m = true := by
  unfold beats
  rw [h]
theorem beats_some {s : Lst} {k : Nat} {m : Nat × Nat} {b : Nat × Nat × Nat} (h : bestTo s k = some b) : beats s k m = decide ((wrongL s m).sum < b.2.2) := by
  unfold beats
  rw [h]
theorem best_next {s : Lst} {k : Nat} {m : Nat × Nat} (h : allMargins[k]? = some m) : bestTo s (k + 1) = if beats s k m = true then some (m.1, m.2, (wrongL s m).sum) else bestTo s k := by
  rw [best_more h]
  cases hb : bestTo s k with
  | none =>
    rw [beats_none hb, if_pos rfl]
    rfl
  | some b =>
    rw [beats_some hb]
    show (if (wrongL s m).sum < b.2.2 then some (m.1, m.2, (wrongL s m).sum) else some b) = _
    by_cases h : (wrongL s m).sum < b.2.2
    · rw [if_pos h, if_pos (decide_eq_true h)]
    · rw [if_neg h, if_neg (by rw [decide_eq_false h]; exact Bool.false_ne_true)]
end Pw
set_option Elab.async false
set_option linter.all false
set_option maxRecDepth 100000
set_option maxHeartbeats 2000000
/-! listing.py: number_of, one_form -/
namespace Pw
open PySem PySem.Spec PyProof.Rows L2
open VahypBase (inChunk isLetter isDigit word showNat)
open Vahypa (Word Pat Lst wordOf patOf hyphened showPat digit)
def keyD : EKey → PyData
  | .w b => .str (bS b)
  | .p b f s => .tuple [.str (bS b), .bool f, .bool s]
def KeyIs (H : Hp) (v : V) : EKey → Prop
  | .w b => v = .str (bS b)
  | .p b f s => ∃ t, v = .ref t ∧ H t = some (.tup [.str (bS b), .bl f, .bl s])
theorem KeyIs.mono {H H' : Hp} {v : V} {k : EKey} (h : KeyIs H v k) (e : Ex H H') : KeyIs H' v k := by
  cases k with
  | w b => exact h
  | p b f s =>
    obtain ⟨t, h1, h2⟩ := h
    exact ⟨t, h1, e _ _ h2⟩
theorem KeyIs.dp {K : PySem.W.Frag} {H : Hp} {v : V} {k : EKey} (h : KeyIs H v k) : Dp K H v (keyD k) := by
  cases k with
  | w b =>
    cases (show v = .str (bS b) from h)
    exact .str _
  | p b f s =>
    obtain ⟨t, rfl, h2⟩ := h
    exact .tup (SqT.of h2) (.cons (.str _) (.cons (.bl _) (.cons (.bl _) .nil)))
theorem strOk_b (b : Bytes) : PyData.strOk (bS b) = true := by
  unfold PyData.strOk
  rw [← Array.all_toList, List.all_eq_true]
  intro c hc
  obtain ⟨d, _, rfl⟩ := List.mem_map.mp (show c ∈ b.map UInt8.toNat from hc)
  have := UInt8.toNat_lt d
  exact decide_eq_true (by omega)
theorem keyD_shaped (k : EKey) : SeqAt.shaped (keyD k) = true := by
  unfold SeqAt.shaped
  cases k with
  | w b =>
    simp only [keyD, PyData.canLay0, PyData.depth, strOk_b]
    rfl
  | p b f s =>
    simp only [keyD, PyData.canLay0, PyData.canLayAll0, PyData.depth, PyData.depthAll, strOk_b]
    rfl
theorem keyD_eqv (a b : EKey) : PyData.eqv (keyD a) (keyD b) = decide (a = b) := by
  have sb : ∀ x y : Bytes, (bS x == bS y) = decide (x = y) := fun x y => by
    by_cases h : x = y
    · rw [h, decide_eq_true rfl]
      exact beq_self_eq_true _
    · rw [decide_eq_false h]
      have : bS x ≠ bS y := fun e => h (bS_inj e)
      simpa using this
  cases a with
  | w x =>
    cases b with
    | w y =>
      show (bS x == bS y) = _
      rw [sb]
      by_cases h : x = y
      · rw [h, decide_eq_true rfl, decide_eq_true rfl]
      · rw [decide_eq_false h, decide_eq_false (fun e => h (by injection e))]
    | p y f s => rfl
  | p x f s =>
    cases b with
    | w y => rfl
    | p y g t =>
      show ((bS x == bS y) && ((f == g) && ((s == t) && true))) = _
      rw [sb]
      by_cases h : x = y
      · by_cases h1 : f = g
        · by_cases h2 : s = t
          · rw [h, h1, h2, decide_eq_true rfl, decide_eq_true rfl]
            cases g <;> cases t <;> rfl
          · rw [decide_eq_false (show ¬ EKey.p x f s = EKey.p y g t from fun e => h2 (by injection e))]
            have : (s == t) = false := by simpa using h2
            rw [this]
            simp
        · rw [decide_eq_false (show ¬ EKey.p x f s = EKey.p y g t from fun e => h1 (by injection e))]
          have : (f == g) = false := by simpa using h1
          rw [this]
          simp
      · rw [decide_eq_false h, decide_eq_false (show ¬ EKey.p x f s = EKey.p y g t from fun e => h (by injection e))]
        rfl
/-- an entry: an instance whose key is k -/
def KeyAt (K : PySem.W.Frag) (H : Hp) (a : Addr) (k : EKey) : Prop := ∃ (C dx : Addr) (fs : List (Str × V)) (v : V), H a = some (.ins C dx fs) ∧ Cls K C ∧ NoAttr K C "key" ∧ fs.lookup ("key" : Str) = some v ∧ KeyIs H v k
theorem KeyAt.mono {K : PySem.W.Frag} {H H' : Hp} {a : Addr} {k : EKey} (h : KeyAt K H a k) (e : Ex H H') : KeyAt K H' a k := by
  obtain ⟨C, dx, fs, v, h1, h2, h3, h4, h5⟩ := h
  exact ⟨C, dx, fs, v, e _ _ h1, h2, h3, h4, h5.mono e⟩
/-- the place of the first one with this key -/
def firstAt (ks : List EKey) (k : EKey) : Nat := ks.findIdx fun e => decide (e = k)
section
variable {P : Program} {w : World} {K : PySem.W.Frag} {mg : Str → Option Value} {base : Heap} {A : Adr}
theorem WordAt.key {H : Hp} {a : Addr} {w : Word} (T : Txt K mg A) (h : WordAt A H a w) : KeyAt K H a (wKey w) := by
  obtain ⟨dx, g, h1, h2⟩ := h
  exact ⟨_, dx, _, _, h1, T.i_Word.cl, T.n_Word_key, rfl, rfl⟩
theorem PatAt.key {H : Hp} {a : Addr} {p : Pat} (T : Txt K mg A) (h : PatAt A H a p) : KeyAt K H a (pKey p) := by
  obtain ⟨dx, d, k, h1, h2, h3⟩ := h
  exact ⟨_, dx, _, _, h1, T.i_Pattern.cl, T.n_Pattern_key, rfl, k, rfl, h3⟩
theorem Each.map {α β : Type} {R : Addr → α → Prop} {S : Addr → β → Prop} {as : List Addr} {xs : List α} (h : Each R as xs) (f : α → β) (k : ∀ a x, R a x → S a (f x)) : Each S as (xs.map f) := by
  refine ⟨by rw [List.length_map]; exact h.1, fun i a y h1 h2 => ?_⟩
  rw [List.getElem?_map] at h2
  cases e : xs[i]? with
  | none => rw [e] at h2; cases h2
  | some x =>
    rw [e] at h2
    cases h2
    exact k a x (h.2 i a x h1 e)
theorem Each.at {α : Type} {R : Addr → α → Prop} {as : List Addr} {xs : List α} (h : Each R as xs) {i : Nat} {a : Addr} (hi : as[i]? = some a) : ∃ x, xs[i]? = some x ∧ R a x := by
  have hl := (List.getElem?_eq_some_iff.mp hi).1
  rw [h.1] at hl
  exact ⟨xs[i], some_at hl, h.2 i a _ hi (some_at hl)⟩
theorem refs_at {as : List Addr} {i : Nat} {y : V} (h : (as.map V.ref)[i]? = some y) : ∃ a, as[i]? = some a ∧ y = .ref a := by
  rw [List.getElem?_map] at h
  cases e : as[i]? with
  | none => rw [e] at h; cases h
  | some a => rw [e] at h; exact ⟨a, rfl, (Option.some.inj h).symm⟩
theorem refs_len (as : List Addr) : (as.map V.ref).length = as.length := List.length_map ..
def spNumber (K : PySem.W.Frag) : Sp := fun vs H Q _ => ∃ (l : Addr) (as : List Addr) (ks : List EKey) (k : EKey) (kv : V), vs = [.ref l, kv] ∧ SqL K H l (as.map V.ref) ∧ Each (KeyAt K H) as ks ∧ KeyIs H kv k ∧ ∀ H', Ex H H' → Q (.int (firstAt ks k : Int)) H'
theorem ok_number_of {f : Addr} {fd : FuncData} (T : Txt K mg A) (a : At K mg "number_of" s_number_of ["entries", "key"] f fd) : C8.Cal P w K mg base 1 "number_of" (spNumber K) [] := by
  refine a.cal (ok0 a.fn sc_number_of (fun vs H Q E h => ?_) (fun cdv Ar outer s H vs Q E hr h => ⟨_, (pss_cons (ps_for PassesOwn.never rfl (pi_enum rfl T.enumerate (pa_cons (pv 0) pa_nil)) (pg_tup rfl (pgs_cons (pg_name (i := 2) sc_number_of.nd rfl (Or.inl rfl)) (pgs_cons (pg_name (i := 3) sc_number_of.nd rfl (Or.inl rfl)) pgs_nil))) (pss_one (ps_if (pt_cmpR (op_eqD hr.units) (pe_fld (pv 3) rfl) (pv 1) (nomark _)) (pss_one (ps_ret (pv 2))) pss_nil)))
  (pss_one (ps_ret (pe_callB call_len_seq rfl T.len (by decide +kernel) (pa_cons (pv 0) pa_nil))))), ?_⟩) rfl rfl rfl)
  · obtain ⟨_, _, _, _, _, rfl, _⟩ := h
    rfl
  · obtain ⟨l, as, ks, k, kv, rfl, hS, hE, hk, q⟩ := h
    refine ⟨_, rfl, l, _, rfl, hS, ?_⟩
    refine for_it (walk_enum (K := K) (a := l) (xs := as.map V.ref)) (fun i σ H' => ∃ v1 v2 : Option V, σ = [some (.ref l), some kv, v1, v2] ∧ Ex H H' ∧ firstAt ks k = i + firstAt (ks.drop i) k) ⟨none, none, rfl, Evl.Ex.refl _, by rw [Nat.zero_add]; rfl⟩ (fun i σ H' _ ⟨_, _, _, e, _⟩ => Evl.ex_l e hS) ?_ ?_
    · rintro i y σ H0 H' hi ⟨v1, v2, rfl, e0, hf⟩ ⟨t, x, y2, rfl, ht, hH, hx, hy⟩
      obtain ⟨a0, ha0, rfl⟩ := refs_at hy
      have hx2 : x = .int (i : Int) := (Option.some.inj hx).symm
      subst hx2
      obtain ⟨k0, hk0, C, dx, fs, v, h1, h2, h3, h4, h5⟩ := hE.at ha0
      subst hH
      have e1 : Ex H (upd H0 t (.tup [.int (i : Int), .ref a0])) := e0.trans (ex_new ht)
      refine ⟨t, _, rfl, SqT.of upd_same, rfl, _, _, rfl, _, _, rfl, rfl, ?_⟩
      refine if2 (b := decide (k0 = k)) (fun Q q => ⟨_, rfl, a0, C, dx, fs, v, rfl, e1 _ _ h1, h2, h3, h4, _, rfl, keyD k0, keyD k, (h5.mono e1).dp, (hk.mono e1).dp, keyD_shaped _, keyD_shaped _, _, rfl, by rw [keyD_eqv]; exact q⟩) (fun h => ?_) (fun h => ?_)
      · have he : k0 = k := of_decide_eq_true h
        have hfi : firstAt (ks.drop i) k = 0 := by
          rw [drop_at hk0]
          unfold firstAt
          rw [List.findIdx_cons, h]
          rfl
        rw [hfi, Nat.add_zero] at hf
        refine ⟨_, rfl, ?_⟩
        rw [hf] at q
        exact q _ e1
      · refine ⟨_, _, rfl, e1, ?_⟩
        rw [hf, drop_at hk0]
        unfold firstAt
        rw [List.findIdx_cons, h]
        show i + ((ks.drop (i + 1)).findIdx (fun e => decide (e = k)) + 1) = _
        omega
    · rintro σ H' ⟨v1, v2, rfl, e0, hf⟩
      refine ⟨_, rfl, l, _, rfl, .inl (Evl.ex_l e0 hS), ?_⟩
      rw [refs_len] at hf
      have hn : firstAt (ks.drop as.length) k = 0 := by
        rw [hE.1, List.drop_length]
        rfl
      rw [hn, Nat.add_zero] at hf
      rw [refs_len, ← hf]
      exact q _ e0
/-! ### one_form -/
/-- what holds of a list that is held -/
structure LOk (s : Lst) : Prop where
  l5 : s.l ≤ 5
  r5 : s.r ≤ 5
  w24 : s.words.length ≤ 24
  p40 : s.pats.length ≤ 40
  ws : ∀ w ∈ s.words, WOk w
  ps : ∀ p ∈ s.pats, POk p
theorem hyph_len (x : Bytes) (cs : List Nat) : (hyphened x cs).length ≤ 2 * x.length := by
  unfold hyphened
  have : ∀ l : List (UInt8 × Nat), (l.flatMap fun c => if cs.contains c.2 = true ∧ 0 < c.2 then [45, c.1] else [c.1]).length ≤ 2 * l.length := fun l => by
    induction l with
    | nil => exact Nat.le_refl _
    | cons a r ih =>
      rw [List.flatMap_cons, List.length_append, List.length_cons]
      have : (if cs.contains a.2 = true ∧ 0 < a.2 then [45, a.1] else [a.1]).length ≤ 2 := by
        split
        · exact Nat.le_refl _
        · exact Nat.le_succ _
      omega
  have h := this x.zipIdx
  rw [List.length_zipIdx] at h
  exact h
theorem digit_len : ∀ v : Nat, v ≤ 9 → (digit v).length ≤ 1 := by
  have h : ((List.range 10).all fun v => decide ((digit v).length ≤ 1)) = true := by decide +kernel
  intro v hv
  exact of_decide_eq_true (List.all_eq_true.mp h v (List.mem_range.mpr (by omega)))
theorem showPat_len {p : Pat} (h : POk p) : (showPat p).length ≤ 15 := by
  have d : ∀ i : Nat, (digit (p.levels[i]?.getD 0)).length ≤ 1 := fun i => by
    refine digit_len _ ?_
    cases e : p.levels[i]? with
    | none => exact Nat.zero_le _
    | some v => exact h.nine v (List.mem_of_getElem? e)
  unfold showPat
  rw [List.length_append, List.length_append, List.length_append]
  have h1 : (if p.front = true then [46] else ([] : Bytes)).length ≤ 1 := by split <;> simp
  have h2 : (if p.halt_ = true then [46] else ([] : Bytes)).length ≤ 1 := by split <;> simp
  have h3 : ∀ l : List (UInt8 × Nat), (l.flatMap fun c => digit (p.levels[c.2]?.getD 0) ++ [c.1]).length ≤ 2 * l.length := fun l => by
    induction l with
    | nil => exact Nat.le_refl _
    | cons a r ih =>
      simp only [List.flatMap_cons, List.length_append, List.length_cons, List.length_nil]
      have := d a.2
      omega
  have h4 := h3 p.x.zipIdx
  rw [List.length_zipIdx] at h4
  have := d p.x.length
  have := h.most
  omega
theorem joinL_nil : ∀ l : List (List Nat), TL.joinL [] l = l.flatten
  | [] => rfl
  | [a] => by
    show a = [a].flatten
    simp
  | a :: b :: r => by
    have ih := joinL_nil (b :: r)
    show a ++ ([] ++ TL.joinL [] (b :: r)) = _
    rw [ih]
    simp
theorem join_flat (l : List Bytes) : Txt.join (Str.ofString "") (l.map bS) = bS l.flatten := by
  have h := SX.join_S [] (l.map bn)
  rw [List.map_map, joinL_nil] at h
  rw [emp]
  refine h.trans ?_
  unfold bS bn
  rw [List.map_flatten]
theorem num5 : ∀ n : Nat, n ≤ 5 → Str.ofString (toString (n : Int)) = bS (showNat n) := by
  have h : ((List.range 6).all fun n => Str.ofString (toString (n : Int)) == bS (showNat n)) = true := by decide +kernel
  intro n hn
  exact eq_of_beq (List.all_eq_true.mp h n (List.mem_range.mpr (by omega)))
theorem showNat5 : ∀ n : Nat, n ≤ 5 → (showNat n).length = 1 := by
  have h : ((List.range 6).all fun n => (showNat n).length == 1) = true := by decide +kernel
  intro n hn
  exact eq_of_beq (List.all_eq_true.mp h n (List.mem_range.mpr (by omega)))
theorem log5 : ∀ n : Nat, n ≤ 5 → ((n : Int).natAbs.log2) < 1920 := by
  have h : ((List.range 6).all fun n => decide (((n : Nat) : Int).natAbs.log2 < 1920)) = true := by decide +kernel
  intro n hn
  exact of_decide_eq_true (List.all_eq_true.mp h n (List.mem_range.mpr (by omega)))
def headLine (s : Lst) : Bytes := word "margins " ++ (showNat s.l ++ (word " " ++ (showNat s.r ++ word " ;\n")))
def wordLine (w : Word) : Bytes := word "word " ++ (hyphened w.x w.cuts ++ word " ;\n")
def patLine (p : Pat) : Bytes := word "pattern " ++ (showPat p ++ word " ;\n")
def formLines (s : Lst) : List Bytes := headLine s :: (s.words.map wordLine ++ s.pats.map patLine)
theorem form_shown (s : Lst) : (formLines s).flatten = Vahypa.shown s := by
  have en : word " ;\n" = word " ;" ++ [10] := by decide +kernel
  unfold formLines Vahypa.shown
  rw [List.flatten_cons, List.flatten_append]
  have e1 : headLine s = Vahypa.line (word "margins " ++ (showNat s.l ++ (word " " ++ (showNat s.r ++ word " ;")))) := by
    unfold headLine Vahypa.line
    rw [en]
    simp only [List.append_assoc]
  have e2 : (s.words.map wordLine).flatten = s.words.flatMap fun w => Vahypa.line (word "word " ++ (hyphened w.x w.cuts ++ word " ;")) := by
    rw [List.flatMap_def]
    congr 1
    refine List.map_congr_left fun w _ => ?_
    unfold wordLine Vahypa.line
    rw [en]
    simp only [List.append_assoc]
  have e3 : (s.pats.map patLine).flatten = s.pats.flatMap fun p => Vahypa.line (word "pattern " ++ (showPat p ++ word " ;")) := by
    rw [List.flatMap_def]
    congr 1
    refine List.map_congr_left fun w _ => ?_
    unfold patLine Vahypa.line
    rw [en]
    simp only [List.append_assoc]
  rw [e1, e2, e3]
theorem wordLine_len {w : Word} (h : WOk w) : (wordLine w).length ≤ 50 := by
  have h1 := hyph_len w.x w.cuts
  have h2 := h.most
  unfold wordLine
  rw [List.length_append, List.length_append]
  have e1 : (word "word ").length = 5 := by decide +kernel
  have e2 : (word " ;\n").length = 3 := by decide +kernel
  omega
theorem patLine_len {p : Pat} (h : POk p) : (patLine p).length ≤ 50 := by
  have h1 := showPat_len h
  unfold patLine
  rw [List.length_append, List.length_append]
  have e1 : (word "pattern ").length = 8 := by decide +kernel
  have e2 : (word " ;\n").length = 3 := by decide +kernel
  omega
theorem headLine_len {s : Lst} (h : LOk s) : (headLine s).length ≤ 50 := by
  unfold headLine
  rw [List.length_append, List.length_append, List.length_append, List.length_append, showNat5 _ h.l5, showNat5 _ h.r5]
  have e1 : (word "margins ").length = 8 := by decide +kernel
  have e2 : (word " ;\n").length = 3 := by decide +kernel
  have e3 : (word " ").length = 1 := by decide +kernel
  omega
theorem flat_len : ∀ (l : List Bytes), (∀ b ∈ l, b.length ≤ 50) → l.flatten.length ≤ 50 * l.length
  | [], _ => Nat.le_refl _
  | a :: r, h => by
    have h1 := h a (List.mem_cons_self ..)
    have h2 := flat_len r fun b hb => h b (List.mem_cons_of_mem _ hb)
    rw [List.flatten_cons, List.length_append, List.length_cons]
    omega
theorem formLines_len {s : Lst} (h : LOk s) : ∀ b ∈ formLines s, b.length ≤ 50 := by
  intro b hb
  rcases List.mem_cons.mp hb with hb | hb
  · rw [hb]
    exact headLine_len h
  · rcases List.mem_append.mp hb with hb | hb
    · obtain ⟨w, hw, rfl⟩ := List.mem_map.mp hb
      exact wordLine_len (h.ws w hw)
    · obtain ⟨p, hp, rfl⟩ := List.mem_map.mp hb
      exact patLine_len (h.ps p hp)
theorem shown_len {s : Lst} (h : LOk s) : (Vahypa.shown s).length ≤ 3300 := by
  rw [← form_shown]
  have := flat_len _ (formLines_len h)
  have e : (formLines s).length = 1 + (s.words.length + s.pats.length) := by
    unfold formLines
    rw [List.length_cons, List.length_append, List.length_map, List.length_map]
    omega
  have := h.w24
  have := h.p40
  omega
def lstr (l : List Bytes) : List V := l.map fun b => V.str (bS b)
theorem lstr_app (a b : List Bytes) : lstr (a ++ b) = lstr a ++ lstr b := List.map_append
theorem lstr_len (l : List Bytes) : (lstr l).length = l.length := List.length_map ..
def spForm (A : Adr) : Sp := fun vs H Q _ => ∃ (a : Addr) (s : Lst), vs = [.ref a] ∧ ListAt A H a s ∧ LOk s ∧ ∀ H' l, Ex H H' → H l = none → H' l = some (.lst (bI (Vahypa.shown s))) → Q (.ref l) H'
theorem ok_one_form {f : Addr} {fd : FuncData} (T : Txt K mg A) (a : At K mg "one_form" s_one_form ["listing"] f fd) : C8.Cal P w K mg base 1 "one_form" (spForm A) [] := by
  refine a.cal (ok0 a.fn sc_one_form (fun vs H Q E h => ?_) (fun cdv Ar outer s H vs Q E hr h => ⟨_, (pss_cons (ps_set (i := 1) sc_one_form.nd rfl (Or.inl rfl) (pe_lst (pa_cons (pe_op op_add_str (pe_op op_add_str (pe_op op_add_str (pe_op op_add_str pe_str (pe_callTy call_str_int rfl T.ty_str (by decide +kernel) (pa_cons (pe_fld (pv 0) rfl) pa_nil))) pe_str) (pe_callTy call_str_int rfl T.ty_str (by decide +kernel) (pa_cons (pe_fld (pv 0) rfl) pa_nil))) pe_str) pa_nil)))
  (pss_cons (ps_for PassesOwn.never rfl (pi_list (pe_fld (pv 0) rfl)) (pg_name (i := 2) sc_one_form.nd rfl (Or.inl rfl)) (pss_one (ps_expr (pe_bm PySem.F.plainAttrs_list PySem.F.slot_list_append PySem.F.type_list_append mt_append (pv 1) (pa_cons (pe_op op_add_str (pe_op op_add_str pe_str (pe_fld (pv 2) rfl)) pe_str) pa_nil)))))
  (pss_cons (ps_for PassesOwn.never rfl (pi_list (pe_fld (pv 0) rfl)) (pg_name (i := 3) sc_one_form.nd rfl (Or.inl rfl)) (pss_one (ps_expr (pe_bm PySem.F.plainAttrs_list PySem.F.slot_list_append PySem.F.type_list_append mt_append (pv 1) (pa_cons (pe_op op_add_str (pe_op op_add_str pe_str (pe_fld (pv 3) rfl)) pe_str) pa_nil)))))
  (pss_one (ps_ret (pe_lc (own := [("sign", 4)]) rfl sc_one_form.nd (pi_str (pe_join pe_str (pv 1))) (blkOk_by (own := [("sign", 4)]) (N := ["listing", "lines", "word", "pattern", "sign"]) (sc := defScope s_one_form) (by decide +kernel)) (fun _ _ _ _ _ => by exact (pg_name (i := 4) sc_one_form.nd rfl (Or.inl rfl))) (fun _ _ _ _ _ => by exact pts_nil) (fun _ _ _ _ _ => by exact (pe_callB call_ord rfl T.ord (by decide +kernel) (pa_cons (pv 4) pa_nil))))))))), ?_⟩) rfl rfl rfl)
  · obtain ⟨_, _, rfl, _⟩ := h
    rfl
  · obtain ⟨a, sl, rfl, hL, hO, q⟩ := h
    obtain ⟨dx, lw, lp, ws, ps, h1, h2, h3, h4, h5⟩ := hL
    have l1 : Str.ofString "margins " = bS (word "margins ") := by decide +kernel
    have l2 : Str.ofString " " = bS (word " ") := by decide +kernel
    have l3 : Str.ofString " ;\n" = bS (word " ;\n") := by decide +kernel
    have l4 : Str.ofString "word " = bS (word "word ") := by decide +kernel
    have l5 : Str.ofString "pattern " = bS (word "pattern ") := by decide +kernel
    have z1 : (word "margins ").length = 8 := by decide +kernel
    have z2 : (word " ").length = 1 := by decide +kernel
    have z3 : (word " ;\n").length = 3 := by decide +kernel
    have z4 : (word "word ").length = 5 := by decide +kernel
    have z5 : (word "pattern ").length = 8 := by decide +kernel
    have n1 := num5 sl.l hO.l5
    have n2 := num5 sl.r hO.r5
    have y1 := showNat5 sl.l hO.l5
    have y2 := showNat5 sl.r hO.r5
    have sz : ∀ n : Nat, n ≤ 100 → n ≤ sizeLine := fun n hn => Evl.sz_of (Nat.le_trans hn (by decide))
    refine ⟨_, rfl, a, _, dx, _, _, rfl, h1, T.i_Listing.cl, T.n_Listing_left, rfl, _, rfl, log5 _ hO.l5, ?_⟩
    rw [n1]
    refine ⟨_, _, rfl, rfl, sz _ (by rw [l1, bS_len, bS_len, z1, y1]; decide), ?_⟩
    rw [l1, ← bS_app]
    refine ⟨_, _, rfl, rfl, sz _ (by rw [l2, bS_len, bS_len, List.length_append, z1, y1, z2]; decide), ?_⟩
    rw [l2, ← bS_app]
    refine ⟨_, rfl, a, _, dx, _, _, rfl, h1, T.i_Listing.cl, T.n_Listing_right, rfl, _, rfl, log5 _ hO.r5, ?_⟩
    rw [n2]
    refine ⟨_, _, rfl, rfl, sz _ (by rw [bS_len, bS_len, List.length_append, List.length_append, z1, y1, z2, y2]; decide), ?_⟩
    rw [← bS_app]
    refine ⟨_, _, rfl, rfl, sz _ (by rw [l3, bS_len, bS_len, List.length_append, List.length_append, List.length_append, z1, y1, z2, y2, z3]; decide), ?_⟩
    rw [l3, ← bS_app]
    have hh : word "margins " ++ showNat sl.l ++ word " " ++ showNat sl.r ++ word " ;\n" = headLine sl := by
      unfold headLine
      simp only [List.append_assoc]
    rw [hh]
    refine ⟨by show 1 ≤ sizeLine; decide, fun l hl => ?_⟩
    have sqw : ∀ H', Ex H H' → SqL K H' lw (ws.map V.ref) := fun H' e => SqL.of (e _ _ h2)
    have sqp : ∀ H', Ex H H' → SqL K H' lp (ps.map V.ref) := fun H' e => SqL.of (e _ _ h3)
    refine ⟨_, rfl, a, _, dx, _, _, rfl, ex_new hl _ _ h1, T.i_Listing.cl, T.n_Listing_words, rfl, lw, rfl, ⟨_, sqw _ (ex_new hl)⟩, ?_⟩
    refine for_list (K := K) (a := lw) (xs := ws.map V.ref) (fun i σ H' => ∃ v : Option V, σ = [some (.ref a), some (.ref l), v, none, none] ∧ Ex H H' ∧ H' l = some (.lst (lstr (headLine sl :: (sl.words.take i).map wordLine)))) ⟨none, rfl, ex_new hl, upd_same⟩ (fun i σ H' _ ⟨_, _, e, _⟩ => sqw H' e) ?_ ?_
    · rintro i y σ H' hi ⟨v, rfl, e, hl2⟩
      obtain ⟨aw, haw, rfl⟩ := refs_at hi
      obtain ⟨wd, hwd, dw, gw, w1, w2⟩ := h4.at haw
      have hwo := hO.ws wd (List.mem_of_getElem? hwd)
      have hyl := hyph_len wd.x wd.cuts
      have h16 := hwo.most
      have hil := (List.getElem?_eq_some_iff.mp hwd).1
      have h24 := hO.w24
      refine ⟨_, rfl, .inl ⟨rfl, _, SqL.of hl2⟩, _, rfl, aw, _, dw, _, _, rfl, e _ _ w1, T.i_Word.cl, T.n_Word_chunk, rfl, _, _, rfl, rfl, sz _ (by rw [l4, bS_len, bS_len, z4]; omega), ?_⟩
      rw [l4, ← bS_app]
      refine ⟨_, _, rfl, rfl, sz _ (by rw [bS_len, bS_len, List.length_append, z4, z3]; omega), ?_⟩
      rw [← bS_app]
      refine ⟨l, _, _, rfl, rfl, hl2, Evl.sz_lt (by rw [lstr_len, List.length_cons, List.length_map, List.length_take]; omega), _, rfl, Evl.Ex.mut e hl, ?_⟩
      rw [upd_same, List.take_add_one, hwd, List.map_append, ← List.cons_append, lstr_app, List.append_assoc]
      rfl
    · rintro σ H' ⟨v, rfl, e, hl2⟩
      rw [refs_len, h4.1, List.take_length] at hl2
      refine ⟨_, rfl, a, _, dx, _, _, rfl, e _ _ h1, T.i_Listing.cl, T.n_Listing_patterns, rfl, lp, rfl, ⟨_, sqp _ e⟩, ?_⟩
      refine for_list (K := K) (a := lp) (xs := ps.map V.ref) (fun i σ H' => ∃ v2 : Option V, σ = [some (.ref a), some (.ref l), v, v2, none] ∧ Ex H H' ∧ H' l = some (.lst (lstr (headLine sl :: (sl.words.map wordLine ++ (sl.pats.take i).map patLine))))) ⟨none, rfl, e, by rw [hl2, List.take_zero, List.map_nil, List.append_nil]⟩ (fun i σ H' _ ⟨_, _, e, _⟩ => sqp H' e) ?_ ?_
      · rintro i y σ H2 hi ⟨v2, rfl, e2, hl3⟩
        obtain ⟨ap, hap, rfl⟩ := refs_at hi
        obtain ⟨pt, hpt, dp, dd, kp, p1, p2, p3⟩ := h5.at hap
        have hpo := hO.ps pt (List.mem_of_getElem? hpt)
        have hsl := showPat_len hpo
        have hil := (List.getElem?_eq_some_iff.mp hpt).1
        have h24 := hO.w24
        have h40 := hO.p40
        refine ⟨_, rfl, .inl ⟨rfl, _, SqL.of hl3⟩, _, rfl, ap, _, dp, _, _, rfl, e2 _ _ p1, T.i_Pattern.cl, T.n_Pattern_chunk, rfl, _, _, rfl, rfl, sz _ (by rw [l5, bS_len, bS_len, z5]; omega), ?_⟩
        rw [l5, ← bS_app]
        refine ⟨_, _, rfl, rfl, sz _ (by rw [bS_len, bS_len, List.length_append, z5, z3]; omega), ?_⟩
        rw [← bS_app]
        refine ⟨l, _, _, rfl, rfl, hl3, Evl.sz_lt (by rw [lstr_len, List.length_cons, List.length_append, List.length_map, List.length_map, List.length_take]; omega), _, rfl, Evl.Ex.mut e2 hl, ?_⟩
        rw [upd_same, List.take_add_one, hpt]
        simp only [lstr, List.map_cons, List.map_append, List.append_assoc, Option.toList, List.map_nil, List.cons_append]
        rfl
      · rintro σ H2 ⟨v2, rfl, e2, hl3⟩
        rw [refs_len, h5.1, List.take_length] at hl3
        have hl4 : H2 l = some (.lst (lstr (formLines sl))) := hl3
        have hsum : ∀ bl : List Bytes, ((bl.map bS).map fun x => Str.length x).sum = bl.flatten.length := fun bl => by
          induction bl with
          | nil => rfl
          | cons b r ih => rw [List.map_cons, List.map_cons, List.sum_cons, ih, bS_len, List.flatten_cons, List.length_append]
        have hshl := shown_len hO
        refine ⟨⟨_, rfl⟩, _, rfl, _, l, (formLines sl).map bS, rfl, rfl, .inl (SqL.of (by rw [hl4, List.map_map]; rfl)), ?_, ?_⟩
        · have e0 : (Str.ofString "").length = 0 := by decide +kernel
          rw [e0, hsum, form_shown]
          omega
        rw [join_flat, form_shown]
        refine ⟨_, rfl, fun D hD => ?_⟩
        refine lc_it (walk_str (z := bS (Vahypa.shown sl))) (fun i H3 => Ex H2 H3 ∧ H3 D = some (.lst (bI ((Vahypa.shown sl).take i)))) ⟨ex_new hD, upd_same⟩ (fun _ _ _ _ => trivial) ?_ ?_
        · rintro i x H0 H3 hi ⟨e3, hD3⟩ ⟨rfl, c0, hc0, hy⟩
          rw [bS_size] at hi
          obtain ⟨c, hc, rfl⟩ := sign_at hc0
          refine ⟨rfl, ?_⟩
          subst hy
          refine tyes ⟨_, rfl, _, rfl, rfl, _, hD3, Evl.sz_lt (by rw [bI_len, List.length_take]; omega), Evl.Ex.mut e3 hD, ?_⟩
          rw [upd_same, List.take_add_one, hc]
          unfold bI
          rw [List.map_append]
          rfl
        · rintro H3 ⟨e3, hD3⟩
          rw [bS_size, List.take_length] at hD3
          exact q _ D (e2.trans e3) (Evl.fresh_back e2 hD) hD3
end
end Pw
set_option Elab.async false
set_option linter.all false
set_option maxRecDepth 100000
set_option maxHeartbeats 2000000
/-! parting.py -/
namespace Pw
open PySem PySem.Spec PyProof.Rows L2
open VahypBase (inChunk isLetter isDigit)
open Vahypa (Word Pat Lst wordOf patOf hyphened showPat fitsAt levelAt gaps tells)
theorem cut_mid {x : Bytes} {o n : Nat} (ho : o ≤ x.length) : cutS (bS x) (some (o : Int)) (some ((o : Int) + (n : Int))) = bS ((x.drop o).take n) := by
  unfold cutS
  rw [bS_len]
  have e1 : (o : Int) + (n : Int) = ((o + n : Nat) : Int) := by omega
  rw [e1, HT.sIx_nat, HT.sIx_nat, Nat.min_eq_left ho]
  have e2 : (bS x).cps.toList = bn x := rfl
  rw [e2]
  unfold bS bn
  rw [← List.map_drop, ← List.map_take]
  congr 2
  have e3 : (x.drop o).length = x.length - o := List.length_drop ..
  by_cases h : o + n ≤ x.length
  · rw [Nat.min_eq_left h, Nat.add_sub_cancel_left]
  · rw [Nat.min_eq_right (by omega), List.take_of_length_le (by omega), List.take_of_length_le (by omega)]
section
variable {P : Program} {w : World} {K : PySem.W.Frag} {mg : Str → Option Value} {base : Heap} {A : Adr}
def spFits (A : Adr) : Sp := fun vs H Q _ => ∃ (a : Addr) (p : Pat) (x : Bytes) (o : Nat), vs = [.ref a, .str (bS x), .int (o : Int)] ∧ PatAt A H a p ∧ POk p ∧ x.length ≤ 16 ∧ o ≤ x.length ∧ Q (.bl (fitsAt p x o)) H
theorem ok_fits_at {f : Addr} {fd : FuncData} (T : Txt K mg A) (a : At K mg "fits_at" s_fits_at ["pattern", "letters", "place"] f fd) : C8.Cal P w K mg base 1 "fits_at" (spFits A) [] := by
  refine a.cal (ok0 a.fn sc_fits_at (fun vs H Q E h => ?_) (fun cdv Ar outer s H vs Q E hr h => ⟨_, (pss_cons (ps_set (i := 3) sc_fits_at.nd rfl (Or.inl rfl) (pe_op op_add (pv 2) (pe_callB call_len_str rfl T.len (by decide +kernel) (pa_cons (pe_fld (pv 0) rfl) pa_nil))))
  (pss_cons (ps_if (PW.pt (pw_and (pt_val (pe_fld (pv 0) rfl)) (pw_and1 (pt_cmpR op_gt (pv 2) pe_int (nomark _))))) (pss_one (ps_ret pe_bl)) pss_nil)
  (pss_cons (ps_if (PW.pt (pw_and (pt_val (pe_fld (pv 0) rfl)) (pw_and1 (pt_cmpR op_lt (pv 3) (pe_callB call_len_str rfl T.len (by decide +kernel) (pa_cons (pv 1) pa_nil)) (nomark _))))) (pss_one (ps_ret pe_bl)) pss_nil)
  (pss_one (ps_ret (pe_cmpR op_eq (pe_slice sl_str (pv 1) (po_some (pv 2)) (po_some (pv 3))) (pe_fld (pv 0) rfl) (nomark _))))))), ?_⟩) rfl rfl rfl)
  · obtain ⟨_, _, _, _, rfl, _⟩ := h
    rfl
  · obtain ⟨a, p, x, o, rfl, ⟨dx, d, k, h1, h2, h3⟩, hp, hx, ho, q⟩ := h
    rw [← fitsM_eq hp.one] at q
    have h6 := hp.most
    refine ⟨_, rfl, _, rfl, a, _, dx, _, _, rfl, h1, T.i_Pattern.cl, T.n_Pattern_letters, rfl, _, rfl, Evl.sz_of (by rw [bS_len]; omega), _, _, rfl, rfl, ?_⟩
    rw [bS_len]
    have lx : Val (tCB rLenStr (tCons (tVar 1) tNil)) [some (.ref a), some (.str (bS x)), some (.int (o : Int)), some (.int ((o : Int) + (p.x.length : Int)))] H (.int (x.length : Int)) := by
      have := v_lenS (σ := [some (.ref a), some (.str (bS x)), some (.int (o : Int)), some (.int ((o : Int) + (p.x.length : Int)))]) (ta := tVar 1) (H := H) (val_var rfl) (z := bS x) (by rw [bS_len]; omega)
      rw [bS_len] at this
      exact this
    refine when2 (a_and (a_v (v_fld (val_var rfl) h1 T.i_Pattern.cl T.n_Pattern_first rfl)) (fun _ => a_t (w_gt (val_var rfl) val_c))) (fun h => ?_) (fun hf => ?_)
    · rw [Bool.and_eq_true, decide_eq_true_iff] at h
      unfold fitsM at q
      rw [if_pos ⟨h.1, by omega⟩] at q
      exact q
    have n1 : ¬ (p.front = true ∧ 0 < o) := fun z => by
      rw [z.1, decide_eq_true (show (0 : Int) < (o : Int) by omega)] at hf
      cases hf
    refine when2 (a_and (a_v (v_fld (val_var rfl) h1 T.i_Pattern.cl T.n_Pattern_last rfl)) (fun _ => a_t (w_lt (val_var rfl) lx))) (fun h => ?_) (fun hl => ?_)
    · rw [Bool.and_eq_true, decide_eq_true_iff] at h
      unfold fitsM at q
      rw [if_neg n1, if_pos ⟨h.1, by omega⟩] at q
      exact q
    · have n2 : ¬ (p.halt_ = true ∧ o + p.x.length < x.length) := fun z => by
        rw [z.1, decide_eq_true (show (o : Int) + (p.x.length : Int) < (x.length : Int) by omega)] at hl
        cases hl
      unfold fitsM at q
      rw [if_neg n1, if_neg n2] at q
      refine ⟨_, rfl, _, rfl, _, rfl, _, rfl, _, rfl, _, rfl, Evl.sz_of (by rw [bS_len]; omega), _, rfl, a, _, dx, _, _, rfl, h1, T.i_Pattern.cl, T.n_Pattern_letters, rfl, rfl, ?_⟩
      rw [cut_mid ho]
      have e : decide (V.str (bS ((x.drop o).take p.x.length)) = V.str (bS p.x)) = decide ((x.drop o).take p.x.length = p.x) := by
        by_cases h : (x.drop o).take p.x.length = p.x
        · rw [h, decide_eq_true rfl, decide_eq_true rfl]
        · rw [decide_eq_false h, decide_eq_false (fun z => h (bS_inj (str_eq z)))]
      rw [e]
      exact q
/-- a promise: a new list of these numbers -/
def GivesL (Q : VK) (H : Hp) (l : List Nat) : Prop := ∀ H' p, Ex H H' → H p = none → H' p = some (.lst (nums l)) → Q (.ref p) H'
theorem GivesL.mono {Q : VK} {H H1 : Hp} {l : List Nat} (h : GivesL Q H l) (e : Ex H H1) : GivesL Q H1 l := fun H' p e' hp h' => h H' p (e.trans e') (Evl.fresh_back e hp) h'
/-- the numbers of a comprehension over 0, 1 .. so far -/
theorem range_filter (f : Nat → Bool) (i : Nat) : (List.range (i + 1)).filter f = (List.range i).filter f ++ (if f i = true then [i] else []) := by
  rw [List.range_succ, List.filter_append, List.filter_cons]
  rfl
theorem filter_len (f : Nat → Bool) (i : Nat) : ((List.range i).filter f).length ≤ i := by
  have := List.length_filter_le f (List.range i)
  rw [List.length_range] at this
  exact this
/-- a turn of a comprehension that keeps i if f i -/
theorem lc_keep {H H' : Hp} {D : Addr} {f : Nat → Bool} {i : Nat} {v : V} (hv : v = .int (i : Int)) (hD : H D = none) (e : Ex H H') (hd : H' D = some (.lst (nums ((List.range i).filter f)))) (hi : i < 90000) (b : Bool) (hb : b = f i) {te : TE} {σ : L2.St} (hte : ∀ Q : VK, Q v H' → te σ H' Q) :
    if b = true then te σ H' fun y H4 => ∃ acc, H4 D = some (.lst acc) ∧ acc.length < sizeLine ∧ (Ex H (upd H4 D (.lst (acc ++ [y]))) ∧ upd H4 D (.lst (acc ++ [y])) D = some (.lst (nums ((List.range (i + 1)).filter f))))
    else Ex H H' ∧ H' D = some (.lst (nums ((List.range (i + 1)).filter f))) := by
  rw [range_filter, ← hb]
  refine b2 (fun h => hte _ ⟨_, hd, Evl.sz_lt (by rw [nums_len]; have := filter_len f i; omega), Evl.Ex.mut e hD, ?_⟩) (fun h => ⟨e, ?_⟩)
  · rw [upd_same, if_pos h, nums_app, hv]
    rfl
  · rw [if_neg (by rw [h]; exact Bool.false_ne_true), List.append_nil]
    exact hd
theorem take_range (n i : Nat) (h : i < n) : (List.range n)[i]? = some i := List.getElem?_range h
theorem no_fit {p : Pat} {x : Bytes} (h : (!(Builtin.Str.occurrences (bS x) (bS p.x) 0 (bS x).length 1).isEmpty) = false) : fitsIn p x = [] := by
  unfold fitsIn
  refine List.filter_eq_nil_iff.mpr fun o _ hf => ?_
  have hne := StrLaws.found_iff (bS x) (bS p.x)
  unfold fitsAt at hf
  simp only [Bool.and_eq_true, decide_eq_true_iff, beq_iff_eq] at hf
  have : (!(Builtin.Str.occurrences (bS x) (bS p.x) 0 (bS x).length 1).isEmpty) = true := hne.mpr ⟨o, by rw [bS_len, bS_len]; exact hf.1, by
    rw [StrLaws.subAt_eq, bS_len]
    show (((bn x).drop o).take p.x.length == bn p.x) = true
    unfold bn
    rw [← List.map_drop, ← List.map_take, hf.2.1]
    exact beq_self_eq_true _⟩
  rw [this] at h
  cases h
def spPlaces (A : Adr) : Sp := fun vs H Q _ => ∃ (a : Addr) (p : Pat) (x : Bytes), vs = [.ref a, .str (bS x)] ∧ PatAt A H a p ∧ POk p ∧ x.length ≤ 16 ∧ GivesL Q H (fitsIn p x)
theorem ok_fitting_places {f : Addr} {fd : FuncData} (T : Txt K mg A) (a : At K mg "fitting_places" s_fitting_places ["pattern", "letters"] f fd) (d_fits_at : C8.Cal P w K mg base 1 "fits_at" (spFits A) []) : C8.Cal P w K mg base 3 "fitting_places" (spPlaces A) [] := by
  refine a.cal (ok0 a.fn sc_fitting_places (fun vs H Q E h => ?_) (fun cdv Ar outer s H vs Q E hr h => ⟨_, (pss_cons (ps_if (pt_cmpR op_notIn_str (pe_fld (pv 0) rfl) (pv 1) (by rfl)) (pss_one (ps_ret (pe_lst pa_nil))) pss_nil)
  (pss_one (ps_ret (pe_lc (own := [("place", 2)]) rfl sc_fitting_places.nd (pi_range1 rfl T.range (pa_cons (pe_callB call_len_str rfl T.len (by decide +kernel) (pa_cons (pv 1) pa_nil)) pa_nil)) (blkOk_by (own := [("place", 2)]) (N := ["pattern", "letters", "place"]) (sc := defScope s_fitting_places) (by decide +kernel)) (fun _ _ _ _ _ => by exact (pg_name (i := 2) sc_fitting_places.nd rfl (Or.inl rfl))) (fun _ _ _ _ _ => by exact (pts_one (pt_val (C8.pe_c d_fits_at hr (by decide) rfl (by exact (pa_cons (pv 0) (pa_cons (pv 1) (pa_cons (pv 2) pa_nil)))))))) (fun _ _ _ _ _ => by exact (pv 2)))))), ?_⟩) rfl rfl rfl)
  · obtain ⟨_, _, _, rfl, _⟩ := h
    rfl
  · obtain ⟨a, p, x, rfl, hP, hp, hx, q⟩ := h
    obtain ⟨dx, d, k, p1, p2, p3⟩ := id hP
    refine when2 (b := !(!(Builtin.Str.occurrences (bS x) (bS p.x) 0 (bS x).length 1).isEmpty)) (fun Q q => ⟨_, rfl, a, _, dx, _, _, rfl, p1, T.i_Pattern.cl, T.n_Pattern_letters, rfl, _, rfl, _, _, rfl, rfl, _, rfl, q⟩) (fun h => ?_) (fun _ => ?_)
    · rw [no_fit (by rw [← Bool.not_not (!(Builtin.Str.occurrences (bS x) (bS p.x) 0 (bS x).length 1).isEmpty), h]; rfl)] at q
      exact ⟨by show 0 ≤ sizeLine; decide, fun l hl => q _ l (ex_new hl) hl upd_same⟩
    refine ⟨_, rfl, _, rfl, Evl.sz_of (by rw [bS_len]; omega), ?_⟩
    rw [bS_len]
    refine ⟨_, rfl, (by omega), (by omega), fun D hD => ?_⟩
    rw [Int.toNat_natCast]
    refine lc_range (lo := 0) (n := x.length) (fun i H' => Ex H H' ∧ H' D = some (.lst (nums ((List.range i).filter (fitsAt p x))))) ⟨ex_new hD, upd_same⟩ ?_ ?_
    · rintro i H' hi ⟨e, hd⟩
      have e0 : (0 : Int) + (i : Int) = (i : Int) := Int.zero_add _
      rw [e0]
      refine ⟨rfl, ?_⟩
      exact ⟨_, rfl, _, rfl, _, rfl, a, p, x, i, rfl, hP.mono e, hp, hx, Nat.le_of_lt hi, _, rfl, lc_keep rfl hD e hd (by omega) _ rfl (fun Q q => ⟨_, rfl, q⟩)⟩
    · rintro H' ⟨e, hd⟩
      exact q _ D e hD hd

/-- a list of patterns, of words -/
def PatsAt (A : Adr) (H : Hp) (l : Addr) (ps : List Pat) : Prop := ∃ as : List Addr, H l = some (.lst (as.map V.ref)) ∧ Each (PatAt A H) as ps
def WordsAt (A : Adr) (H : Hp) (l : Addr) (ws : List Word) : Prop := ∃ as : List Addr, H l = some (.lst (as.map V.ref)) ∧ Each (WordAt A H) as ws
theorem PatsAt.mono {H H' : Hp} {l : Addr} {ps : List Pat} (h : PatsAt A H l ps) (e : Ex H H') : PatsAt A H' l ps := by
  obtain ⟨as, h1, h2⟩ := h
  exact ⟨as, e _ _ h1, h2.imp fun _ _ k => k.mono e⟩
theorem WordsAt.mono {H H' : Hp} {l : Addr} {ws : List Word} (h : WordsAt A H l ws) (e : Ex H H') : WordsAt A H' l ws := by
  obtain ⟨as, h1, h2⟩ := h
  exact ⟨as, e _ _ h1, h2.imp fun _ _ k => k.mono e⟩
theorem Each.at2 {α : Type} {R : Addr → α → Prop} {as : List Addr} {xs : List α} (h : Each R as xs) {i : Nat} (hi : i < (as.map V.ref).length) : ∃ a x, as[i]? = some a ∧ xs[i]? = some x ∧ R a x := by
  rw [refs_len] at hi
  obtain ⟨x, hx, hr⟩ := h.at (some_at hi)
  exact ⟨_, x, some_at hi, hx, hr⟩
def fitNums (ps : List Pat) (x : Bytes) : List Nat := (List.range ps.length).filter fun i => (ps[i]?).any fun p => (List.range (x.length + 1)).any (fitsAt p x)
def spFitting (A : Adr) : Sp := fun vs H Q _ => ∃ (l : Addr) (ps : List Pat) (x : Bytes), vs = [.ref l, .str (bS x)] ∧ PatsAt A H l ps ∧ (∀ p ∈ ps, POk p) ∧ ps.length ≤ 100 ∧ x.length ≤ 16 ∧ GivesL Q H (fitNums ps x)
theorem ok_fitting_patterns {f : Addr} {fd : FuncData} (T : Txt K mg A) (a : At K mg "fitting_patterns" s_fitting_patterns ["patterns", "letters"] f fd) (d_fitting_places : C8.Cal P w K mg base 3 "fitting_places" (spPlaces A) []) : C8.Cal P w K mg base 4 "fitting_patterns" (spFitting A) [] := by
  refine a.cal (ok0 a.fn sc_fitting_patterns (fun vs H Q E h => ?_) (fun cdv Ar outer s H vs Q E hr h => ⟨_, (pss_one (ps_ret (pe_lc (own := [("number", 2), ("pattern", 3)]) rfl sc_fitting_patterns.nd (pi_enum rfl T.enumerate (pa_cons (pv 0) pa_nil)) (blkOk_by (own := [("number", 2), ("pattern", 3)]) (N := ["patterns", "letters", "number", "pattern"]) (sc := defScope s_fitting_patterns) (by decide +kernel)) (fun _ _ _ _ _ => by exact (pg_tupK (K := K) (n := 2) rfl rfl (pgs_cons (pg_name (i := 2) sc_fitting_patterns.nd rfl (Or.inl rfl)) (pgs_cons (pg_name (i := 3) sc_fitting_patterns.nd rfl (Or.inl rfl)) pgs_nil)))) (fun _ _ _ _ _ => by exact (pts_one (pt_cmpR op_gt (pe_callB (call_lenK (K := K) rfl) rfl T.len (by decide +kernel) (pa_cons (C8.pe_c d_fitting_places hr (by decide) rfl (by exact (pa_cons (pv 3) (pa_cons (pv 1) pa_nil)))) pa_nil)) pe_int (nomark _)))) (fun _ _ _ _ _ => by exact (pv 2))))), ?_⟩) rfl rfl rfl)
  · obtain ⟨_, _, _, rfl, _⟩ := h
    rfl
  · obtain ⟨l, ps, x, rfl, hP, hp, hn, hx, q⟩ := h
    obtain ⟨as, h1, h2⟩ := hP
    refine ⟨_, rfl, l, _, rfl, SqL.of h1, fun D hD => ?_⟩
    refine lc_it (walk_enum (K := K) (a := l) (xs := as.map V.ref)) (fun i H' => Ex H H' ∧ H' D = some (.lst (nums ((List.range i).filter fun i => (ps[i]?).any fun p => (List.range (x.length + 1)).any (fitsAt p x))))) ⟨ex_new hD, upd_same⟩ (fun i H' _ ⟨e, _⟩ => SqL.of (e _ _ h1)) ?_ ?_
    · rintro i y H0 H' hi ⟨e0, hd0⟩ ⟨t, z, y2, rfl, ht, hH, hx0, hy⟩
      obtain ⟨a0, p, ha0, hp0, hpat⟩ := h2.at2 hi
      have hz : z = .int (i : Int) := (Option.some.inj hx0).symm
      subst hz
      have hy2 : y2 = .ref a0 := by
        have : (as.map V.ref)[i]? = some y2 := hy
        rw [List.getElem?_map, ha0] at this
        exact (Option.some.inj this).symm
      subst hy2
      subst hH
      have e1 : Ex H (upd H0 t (.tup [.int (i : Int), .ref a0])) := e0.trans (ex_new ht)
      have hd1 : upd H0 t (.tup [.int (i : Int), .ref a0]) D = some (.lst (nums ((List.range i).filter fun i => (ps[i]?).any fun p => (List.range (x.length + 1)).any (fitsAt p x)))) := ex_new ht _ _ hd0
      have hpo := hp p (List.mem_of_getElem? hp0)
      rw [refs_len, h2.1] at hi
      refine ⟨t, _, rfl, SqT.of upd_same, rfl, _, _, rfl, _, _, rfl, rfl, rfl, ?_⟩
      refine ⟨_, rfl, _, rfl, a0, p, x, rfl, hpat.mono e1, hpo, hx, fun H2 r e2 hr h3 => ?_⟩
      refine ⟨r, _, rfl, .inl (SqL.of h3), _, _, rfl, rfl, _, rfl, ?_⟩
      refine lc_keep rfl hD (e1.trans e2) (e2 _ _ hd1) (by omega) _ ?_ (fun Q q => ⟨_, rfl, q⟩)
      rw [hp0]
      show decide _ = (List.range (x.length + 1)).any (fitsAt p x)
      rw [any_fits hpo.one, nums_len]
      by_cases h : 0 < (fitsIn p x).length
      · rw [decide_eq_true h, decide_eq_true (by omega)]
      · rw [decide_eq_false h, decide_eq_false (by omega)]
    · rintro H' ⟨e, hd⟩
      rw [refs_len, h2.1] at hd
      exact q _ D e hD hd
/-! ### levels -/
def lvs (n : Nat) (m : Nat → Nat) : List Nat := (List.range (n + 1)).map m
theorem lvs_len (n : Nat) (m : Nat → Nat) : (lvs n m).length = n + 1 := by
  unfold lvs
  rw [List.length_map, List.length_range]
theorem lvs_at {n g : Nat} {m : Nat → Nat} (h : g ≤ n) : (lvs n m)[g]? = some (m g) := by
  unfold lvs
  rw [List.getElem?_map, List.getElem?_range (by omega)]
  rfl
theorem max_nat (u v : Nat) : (if (v : Int) > (u : Int) then (v : Int) else (u : Int)) = ((Nat.max u v : Nat) : Int) := by
  by_cases h : (v : Int) > (u : Int)
  · rw [if_pos h, show Nat.max u v = v from Nat.max_eq_right (by omega)]
  · rw [if_neg h, show Nat.max u v = u from Nat.max_eq_left (by omega)]
theorem nums_set {l : List Nat} {i v : Nat} : (nums l).set i (.int (v : Int)) = nums (l.set i v) := by
  unfold nums
  rw [List.map_set]
theorem nums_at {l : List Nat} {i v : Nat} (h : l[i]? = some v) : atI (nums l) (i : Int) = some (.int (v : Int)) := by
  refine atI_nat ?_
  unfold nums
  rw [List.getElem?_map, h]
  rfl
theorem ixN_nat {n i : Nat} (h : i < n) : ixN n (i : Int) = some i := by
  unfold ixN
  rw [if_pos (by omega), if_pos (by omega), Int.toNat_natCast]
def spLevels (A : Adr) : Sp := fun vs H Q _ => ∃ (l : Addr) (ps : List Pat) (x : Bytes), vs = [.ref l, .str (bS x)] ∧ PatsAt A H l ps ∧ (∀ p ∈ ps, POk p) ∧ x.length ≤ 16 ∧ GivesL Q H (lvs x.length (levelAt ps x))
theorem ok_levels {f : Addr} {fd : FuncData} (T : Txt K mg A) (a : At K mg "levels" s_levels ["patterns", "letters"] f fd) (d_fitting_places : C8.Cal P w K mg base 3 "fitting_places" (spPlaces A) []) : C8.Cal P w K mg base 4 "levels" (spLevels A) [] := by
  refine a.cal (ok0 a.fn sc_levels (fun vs H Q E h => ?_) (fun cdv Ar outer s H vs Q E hr h => ⟨_, (pss_cons (ps_set (i := 2) sc_levels.nd rfl (Or.inl rfl) (pe_op op_rep (pe_lst (pa_cons pe_int pa_nil)) (pe_op op_add (pe_callB call_len_str rfl T.len (by decide +kernel) (pa_cons (pv 1) pa_nil)) pe_int)))
  (pss_cons (ps_for PassesOwn.never rfl (pi_list (pv 0)) (pg_name (i := 3) sc_levels.nd rfl (Or.inl rfl)) (pss_one (ps_for PassesOwn.never rfl (pi_list (C8.pe_c d_fitting_places hr (by decide) rfl (by exact (pa_cons (pv 3) (pa_cons (pv 1) pa_nil))))) (pg_name (i := 4) sc_levels.nd rfl (Or.inl rfl)) (pss_one (ps_for PassesOwn.never rfl (pi_enum rfl T.enumerate (pa_cons (pe_fld (pv 3) rfl) pa_nil)) (pg_tup rfl (pgs_cons (pg_name (i := 5) sc_levels.nd rfl (Or.inl rfl)) (pgs_cons (pg_name (i := 6) sc_levels.nd rfl (Or.inl rfl)) pgs_nil))) (pss_one (ps_asg (pe_callB (call_max2 rfl) rfl T.max (by decide +kernel) (pa_cons (pe_ix ix_list (pv 2) (pe_op op_add (pv 4) (pv 5)) (fun _ _ => rfl)) (pa_cons (pv 6) pa_nil))) (pg_sub (pv 2) (pe_op op_add (pv 4) (pv 5)) set_list))))))))
  (pss_one (ps_ret (pv 2))))), ?_⟩) rfl rfl rfl)
  · obtain ⟨_, _, _, rfl, _⟩ := h
    rfl
  · obtain ⟨l, ps, x, rfl, hP, hp, hx, q⟩ := h
    obtain ⟨as, h1, h2⟩ := hP
    refine ⟨by show 1 ≤ sizeLine; decide, fun z hz => ?_⟩
    refine ⟨_, rfl, _, rfl, Evl.sz_of (by rw [bS_len]; omega), _, _, rfl, rfl, ?_⟩
    rw [bS_len]
    refine ⟨z, _, _, rfl, rfl, upd_same, (by omega), (by omega), Evl.sz_of (by show 1 * ((x.length : Int) + 1).toNat ≤ 100000; omega), fun fl hfl => ?_⟩
    have flz : fl ≠ z := fun e => by rw [e, upd_same] at hfl; cases hfl
    have hfl0 : H fl = none := by rw [upd_ne flz] at hfl; exact hfl
    have hrep : (List.replicate ((x.length : Int) + 1).toNat [V.int 0]).flatten = nums (lvs x.length (levelAt (ps.take 0) x)) := by
      have e1 : ((x.length : Int) + 1).toNat = x.length + 1 := by omega
      have e2 : ∀ n : Nat, (List.replicate n [V.int 0]).flatten = nums ((List.range n).map fun _ => 0) := fun n => by
        have : (List.range n).map (fun _ => 0) = List.replicate n 0 := by
          rw [List.map_const', List.length_range]
        rw [this]
        unfold nums
        induction n with
        | zero => rfl
        | succ n ih => rw [List.replicate_succ, List.flatten_cons, ih (by rw [List.map_const', List.length_range]), List.replicate_succ]; rfl
      rw [e1, e2]
      rfl
    rw [hrep]
    have eH0 : Ex H (upd (upd H z (.lst [.int 0])) fl (.lst (nums (lvs x.length (levelAt (ps.take 0) x))))) := fun c o h => by
      rw [upd_ne (ne_of_none h hfl0), upd_ne (ne_of_none h hz)]
      exact h
    refine ⟨_, rfl, l, rfl, ⟨_, SqL.of (eH0 _ _ h1)⟩, for_list (K := K) (a := l) (xs := as.map V.ref) (fun i σ H' => ∃ v3 v4 v5 v6 : Option V, σ = [some (.ref l), some (.str (bS x)), some (.ref fl), v3, v4, v5, v6] ∧ Ex H H' ∧ H' fl = some (.lst (nums (lvs x.length (levelAt (ps.take i) x)))))
      ⟨none, none, none, none, rfl, eH0, upd_same⟩ (fun i σ H' _ ⟨_, _, _, _, _, e, _⟩ => SqL.of (e _ _ h1)) ?_ ?_⟩
    · rintro i y σ H1 hi ⟨v3, v4, v5, v6, rfl, e1, hf1⟩
      obtain ⟨ap, hap, rfl⟩ := refs_at hi
      obtain ⟨p, hp0, hpat⟩ := h2.at hap
      have hpo := hp p (List.mem_of_getElem? hp0)
      refine ⟨_, rfl, _, rfl, ap, p, x, rfl, hpat.mono e1, hpo, hx, fun H2 q2 e2 hq2 h3 => ?_⟩
      have hf2 := e2 _ _ hf1
      have q2fl : q2 ≠ fl := fun e => by rw [e, hf1] at hq2; cases hq2
      have hq2H : H q2 = none := Evl.fresh_back e1 hq2
      refine ⟨q2, rfl, ⟨_, SqL.of h3⟩, for_list (K := K) (a := q2) (xs := nums (fitsIn p x)) (fun j σ H' => ∃ v4 v5 v6 : Option V, σ = [some (.ref l), some (.str (bS x)), some (.ref fl), some (.ref ap), v4, v5, v6] ∧ Ex H H' ∧ H' q2 = some (.lst (nums (fitsIn p x))) ∧
        H' fl = some (.lst (nums (lvs x.length fun g => upTo p x g ((fitsIn p x).take j) (levelAt (ps.take i) x g))))) ⟨v4, v5, v6, rfl, e1.trans e2, h3, hf2⟩ (fun j σ H' _ ⟨_, _, _, _, _, e, _⟩ => SqL.of e) ?_ ?_⟩
      · rintro j y σ H3 hj ⟨v4, v5, v6, rfl, e3, hq3, hf3⟩
        obtain ⟨o, ho, rfl⟩ : ∃ o, (fitsIn p x)[j]? = some o ∧ y = .int (o : Int) := by
          unfold nums at hj
          rw [List.getElem?_map] at hj
          cases e : (fitsIn p x)[j]? with
          | none => rw [e] at hj; cases hj
          | some o => rw [e] at hj; exact ⟨o, rfl, (Option.some.inj hj).symm⟩
        have hom := List.mem_of_getElem? ho
        have hob := fitsIn_mem hom
        have hof : fitsAt p x o = true := (List.mem_filter.mp hom).2
        obtain ⟨dx, d, k, p1, p2, p3⟩ := hpat
        have hlen := hpo.len
        refine ⟨_, rfl, ap, _, dx, _, _, rfl, e3 _ _ p1, T.i_Pattern.cl, T.n_Pattern_digits, rfl, d, _, rfl, SqL.of (e3 _ _ p2), ?_⟩
        refine for_it (walk_enum (K := K) (a := d) (xs := nums p.levels)) (fun k σ H' => ∃ v5 v6 : Option V, σ = [some (.ref l), some (.str (bS x)), some (.ref fl), some (.ref ap), some (.int (o : Int)), v5, v6] ∧ Ex H H' ∧ H' q2 = some (.lst (nums (fitsIn p x))) ∧
          H' fl = some (.lst (nums (lvs x.length (part p o k fun g => upTo p x g ((fitsIn p x).take j) (levelAt (ps.take i) x g)))))) ⟨v5, v6, rfl, e3, hq3, ?_⟩ (fun k σ H' _ ⟨_, _, _, e, _⟩ => SqL.of (e _ _ p2)) ?_ ?_
        · rw [hf3]
          congr 3
          unfold lvs
          refine List.map_congr_left fun g _ => ?_
          rw [part_zero]
        · rintro k y σ H4 H5 hk ⟨v5, v6, rfl, e4, hq4, hf4⟩ ⟨t, z1, z2, rfl, ht, hH5, hz1, hz2⟩
          have hz1' : z1 = .int (k : Int) := (Option.some.inj hz1).symm
          subst hz1'
          rw [nums_len] at hk
          have hv := some_at hk
          have hz2' : z2 = .int ((p.levels[k] : Nat) : Int) := by
            have : (nums p.levels)[k]? = some z2 := hz2
            unfold nums at this
            rw [List.getElem?_map, hv] at this
            exact (Option.some.inj this).symm
          subst hz2'
          subst hH5
          have tfl : t ≠ fl := fun e => by rw [e, hf4] at ht; cases ht
          have tq : t ≠ q2 := fun e => by rw [e, hq4] at ht; cases ht
          have e5 : Ex H (upd H4 t (.tup [.int (k : Int), .int ((p.levels[k] : Nat) : Int)])) := e4.trans (ex_new ht)
          have hf5 : upd H4 t (.tup [.int (k : Int), .int ((p.levels[k] : Nat) : Int)]) fl = _ := (upd_ne (Ne.symm tfl)).trans hf4
          have ek : (o : Int) + (k : Int) = ((o + k : Nat) : Int) := by omega
          have hok : o + k ≤ x.length := by omega
          refine ⟨t, _, rfl, SqT.of upd_same, rfl, _, _, rfl, _, _, rfl, rfl, ?_⟩
          have hat : atI (nums (lvs x.length (part p o k fun g => upTo p x g ((fitsIn p x).take j) (levelAt (ps.take i) x g)))) ((o : Int) + (k : Int)) = some (.int ((part p o k (fun g => upTo p x g ((fitsIn p x).take j) (levelAt (ps.take i) x g)) (o + k) : Nat) : Int)) := by
            rw [ek]
            exact nums_at (lvs_at hok)
          refine ⟨_, rfl, _, rfl, _, rfl, _, _, rfl, rfl, fl, _, _, _, rfl, rfl, SqL.of hf5, hat, _, rfl, _, _, rfl, ?_⟩
          rw [max_nat]
          refine ⟨_, rfl, _, rfl, _, rfl, _, _, rfl, rfl, fl, _, _, o + k, rfl, rfl, hf5, ?_, ?_⟩
          · rw [ek, nums_len, lvs_len]
            exact ixN_nat (by omega)
          refine ⟨_, _, rfl, Evl.Ex.mut e5 hfl0, ?_, ?_⟩
          · rw [upd_ne q2fl, upd_ne (Ne.symm tq)]
            exact hq4
          · rw [upd_same, nums_set]
            unfold lvs
            rw [part_more _ hv x.length hok]
        · rintro σ H4 ⟨v5, v6, rfl, e4, hq4, hf4⟩
          refine ⟨_, _, _, rfl, e4, hq4, ?_⟩
          rw [hf4, nums_len]
          congr 3
          unfold lvs
          refine List.map_congr_left fun g _ => ?_
          rw [part_all hof, upTo_more ho]
      · rintro σ H3 ⟨v4, v5, v6, rfl, e3, hq3, hf3⟩
        refine ⟨_, _, _, _, rfl, e3, ?_⟩
        rw [hf3, nums_len, List.take_length]
        congr 3
        unfold lvs
        refine List.map_congr_left fun g _ => ?_
        exact (level_more hp0 hpo.one x g).symm
    · rintro σ H1 ⟨v3, v4, v5, v6, rfl, e1, hf1⟩
      rw [refs_len, h2.1, List.take_length] at hf1
      exact ⟨_, rfl, q _ fl e1 hfl0 hf1⟩

/-! ### greatest_level, odd_gaps, within, parted_gaps -/
theorem cut_ends (x : Bytes) (m : Nat → Nat) (h : 2 ≤ x.length) : cutV (nums (lvs x.length m)) (some 1) (some (-1)) = nums ((gaps x).map m) := by
  unfold cutV
  rw [nums_len, lvs_len]
  have e1 : HT.sIx (x.length + 1) 0 (some 1) = 1 := by
    have := HT.sIx_nat (x.length + 1) 0 1
    rw [show ((1 : Nat) : Int) = 1 from rfl] at this
    rw [this]
    omega
  have e2 : HT.sIx (x.length + 1) (x.length + 1) (some (-1)) = x.length := by
    unfold HT.sIx
    show (if (-1 : Int) < 0 then ((-1 : Int) + ((x.length + 1 : Nat) : Int)).toNat else _) = _
    rw [if_pos (by decide)]
    omega
  rw [e1, e2]
  unfold nums lvs gaps
  rw [← List.map_drop, ← List.map_take, ← List.map_drop, ← List.map_take]
  congr 1
  rw [List.map_map]
  refine List.ext_getElem? fun i => ?_
  rw [List.getElem?_map, List.getElem?_map, List.getElem?_take]
  by_cases hi : i < x.length - 1
  · rw [if_pos hi, List.getElem?_drop, List.getElem?_range (by omega), List.getElem?_range hi]
    show some (m (1 + i)) = some (m (i + 1))
    rw [Nat.add_comm]
  · rw [if_neg hi, List.getElem?_eq_none (by rw [List.length_range]; omega)]
    rfl
theorem gaps_ne {x : Bytes} (h : 2 ≤ x.length) : gaps x ≠ [] := fun e => by
  have := congrArg List.length e
  unfold gaps at this
  rw [List.length_map, List.length_range] at this
  have e0 : ([] : List Nat).length = 0 := rfl
  omega
def spGreatest (A : Adr) : Sp := fun vs H Q _ => ∃ (l : Addr) (ps : List Pat) (x : Bytes), vs = [.ref l, .str (bS x)] ∧ PatsAt A H l ps ∧ (∀ p ∈ ps, POk p) ∧ 2 ≤ x.length ∧ x.length ≤ 16 ∧ ∀ H', Ex H H' → Q (.int (((Vahypa.levels ps x).foldl Nat.max 0 : Nat) : Int)) H'
theorem ok_greatest_level {f : Addr} {fd : FuncData} (T : Txt K mg A) (a : At K mg "greatest_level" s_greatest_level ["patterns", "letters"] f fd) (d_levels : C8.Cal P w K mg base 4 "levels" (spLevels A) []) : C8.Cal P w K mg base 5 "greatest_level" (spGreatest A) [] := by
  refine a.cal (ok0 a.fn sc_greatest_level (fun vs H Q E h => ?_) (fun cdv Ar outer s H vs Q E hr h => ⟨_, (pss_one (ps_ret (pe_callB (cr_max rfl) rfl T.max (by decide +kernel) (pa_cons (pe_slice sl_list (C8.pe_c d_levels hr (by decide) rfl (by exact (pa_cons (pv 0) (pa_cons (pv 1) pa_nil)))) (po_some pe_int) (po_some (pe_un un_neg pe_int))) pa_nil)))), ?_⟩) rfl rfl rfl)
  · obtain ⟨_, _, _, rfl, _⟩ := h
    rfl
  · obtain ⟨l, ps, x, rfl, hP, hp, h2, hx, q⟩ := h
    refine ⟨_, rfl, _, rfl, l, ps, x, rfl, hP, hp, hx, fun H1 r e1 hr1 h3 => ?_⟩
    refine ⟨_, rfl, _, rfl, _, rfl, r, _, rfl, SqL.of h3, fun r2 hr2 => ?_⟩
    rw [cut_ends x _ h2]
    have hne : (gaps x).map (levelAt ps x) ≠ [] := fun e => gaps_ne h2 (List.map_eq_nil_iff.mp e)
    have := v_maxL (K := K) (σ := [some (.ref r2)]) (ta := tVar 0) (p := r2) (l := (gaps x).map (levelAt ps x)) (val_var rfl) (SqL.of (upd_same (H := H1) (a := r2))) hne
    have hm := this (fun v H' => Q v H') (q _ (e1.trans (ex_new hr2)))
    obtain ⟨v, hv, k⟩ := hm
    cases (Option.some.inj (Option.some.inj hv) : V.ref r2 = v)
    exact k
def spOdd (A : Adr) : Sp := fun vs H Q _ => ∃ (l : Addr) (ps : List Pat) (x : Bytes), vs = [.ref l, .str (bS x)] ∧ PatsAt A H l ps ∧ (∀ p ∈ ps, POk p) ∧ x.length ≤ 16 ∧ GivesL Q H ((gaps x).filter fun g => levelAt ps x g % 2 == 1)
theorem gaps_filter (x : Bytes) (f : Nat → Bool) (i : Nat) (h : i < x.length - 1) : (((List.range (i + 1)).map fun k => k + 1).filter f) = ((List.range i).map fun k => k + 1).filter f ++ (if f (i + 1) = true then [i + 1] else []) := by
  rw [List.range_succ, List.map_append, List.filter_append]
  congr 1
  show [i + 1].filter f = _
  rw [List.filter_cons]
  rfl
theorem ok_odd_gaps {f : Addr} {fd : FuncData} (T : Txt K mg A) (a : At K mg "odd_gaps" s_odd_gaps ["patterns", "letters"] f fd) (d_levels : C8.Cal P w K mg base 4 "levels" (spLevels A) []) : C8.Cal P w K mg base 5 "odd_gaps" (spOdd A) [] := by
  refine a.cal (ok0 a.fn sc_odd_gaps (fun vs H Q E h => ?_) (fun cdv Ar outer s H vs Q E hr h => ⟨_, (pss_cons (ps_set (i := 2) sc_odd_gaps.nd rfl (Or.inr rfl) (C8.pe_c d_levels hr (by decide) rfl (by exact (pa_cons (pv 0) (pa_cons (pv 1) pa_nil)))))
  (pss_one (ps_ret (pe_lc (own := [("gap", 3)]) rfl sc_odd_gaps.nd (pi_range2 rfl T.range (pa_cons pe_int (pa_cons (pe_callB call_len_str rfl T.len (by decide +kernel) (pa_cons (pv 1) pa_nil)) pa_nil))) (blkOk_by (own := [("gap", 3)]) (N := ["patterns", "letters", "found", "gap"]) (sc := defScope s_odd_gaps) (by decide +kernel)) (fun _ _ _ _ _ => by exact (pg_name (i := 3) sc_odd_gaps.nd rfl (Or.inl rfl))) (fun _ _ _ _ _ => by exact (pts_one (pt_cmpR op_eq (pe_op op_mod (pe_ix (ix_listK (K := K) rfl) (pv 2) (pv 3) (fun _ _ => rfl)) pe_int) pe_int (nomark _)))) (fun _ _ _ _ _ => by exact (pv 3)))))), ?_⟩) rfl rfl rfl)
  · obtain ⟨_, _, _, rfl, _⟩ := h
    rfl
  · obtain ⟨l, ps, x, rfl, hP, hp, hx, q⟩ := h
    refine ⟨_, rfl, _, rfl, l, ps, x, rfl, hP, hp, hx, fun H1 r e1 hr1 h3 => ?_⟩
    refine ⟨_, rfl, _, rfl, Evl.sz_of (by rw [bS_len]; omega), ?_⟩
    rw [bS_len]
    refine ⟨1, _, rfl, ⟨by omega, by omega, by omega, by omega⟩, fun D hD => ?_⟩
    have hn : ((x.length : Int) - 1).toNat = x.length - 1 := by omega
    rw [hn]
    refine lc_range (lo := 1) (n := x.length - 1) (fun i H' => Ex H1 H' ∧ H' D = some (.lst (nums (((List.range i).map fun k => k + 1).filter fun g => levelAt ps x g % 2 == 1)))) ⟨ex_new hD, upd_same⟩ ?_ ?_
    · rintro i H' hi ⟨e, hd⟩
      have e0 : (1 : Int) + (i : Int) = ((i + 1 : Nat) : Int) := by omega
      rw [e0]
      refine ⟨rfl, ?_⟩
      refine ⟨_, rfl, _, rfl, r, _, _, _, rfl, rfl, SqL.of (e _ _ h3), nums_at (lvs_at (by omega)), _, _, rfl, rfl, (by show (0 : Int) < 2; decide), rfl, _, rfl, ?_⟩
      have hb : decide (V.int ((levelAt ps x (i + 1) : Int) % 2) = V.int 1) = (levelAt ps x (i + 1) % 2 == 1) := by
        by_cases h : levelAt ps x (i + 1) % 2 = 1
        · rw [h, decide_eq_true (congrArg V.int (by omega))]
          rfl
        · rw [decide_eq_false (int_ne (by omega))]
          simpa using h
      rw [hb, gaps_filter x _ i hi]
      refine b2 (fun h => ⟨_, rfl, _, hd, Evl.sz_lt (by rw [nums_len]; have := List.length_filter_le (fun g => levelAt ps x g % 2 == 1) ((List.range i).map fun k => k + 1); rw [List.length_map, List.length_range] at this; omega), Evl.Ex.mut e hD, ?_⟩) (fun h => ⟨e, ?_⟩)
      · rw [upd_same, if_pos h, nums_app]
        rfl
      · rw [if_neg (by rw [h]; exact Bool.false_ne_true), List.append_nil]
        exact hd
    · rintro H' ⟨e, hd⟩
      exact q _ D (e1.trans e) (Evl.fresh_back e1 hD) hd

/-! ### within, parted_gaps -/
def keepIn (gs : List Nat) (n l r : Nat) : List Nat := gs.filter fun g => decide (l ≤ g ∧ g + r ≤ n)
def spWithin (K : PySem.W.Frag) : Sp := fun vs H Q _ => ∃ (a : Addr) (gs : List Nat) (n l r : Nat), vs = [.ref a, .int (n : Int), .int (l : Int), .int (r : Int)] ∧ SqL K H a (nums gs) ∧ gs.length ≤ 100 ∧ GivesL Q H (keepIn gs n l r)
theorem filter_take {f : Nat → Bool} {gs : List Nat} {i g : Nat} (h : gs[i]? = some g) : (gs.take (i + 1)).filter f = (gs.take i).filter f ++ (if f g = true then [g] else []) := by
  rw [List.take_add_one, h, List.filter_append]
  congr 1
  show [g].filter f = _
  rw [List.filter_cons]
  rfl
theorem filter_take_len (f : Nat → Bool) (gs : List Nat) (i : Nat) : ((gs.take i).filter f).length ≤ gs.length := by
  have h1 := List.length_filter_le f (gs.take i)
  rw [List.length_take] at h1
  omega
theorem nums_get {l : List Nat} {i : Nat} {y : V} (h : (nums l)[i]? = some y) : ∃ g, l[i]? = some g ∧ y = .int (g : Int) := by
  unfold nums at h
  rw [List.getElem?_map] at h
  cases e : l[i]? with
  | none => rw [e] at h; cases h
  | some g => rw [e] at h; exact ⟨g, rfl, (Option.some.inj h).symm⟩
/-- a turn of a comprehension over a list that keeps its item g if f g -/
theorem lc_kept {H H' : Hp} {D : Addr} {f : Nat → Bool} {gs : List Nat} {i g : Nat} {v : V} (hg : gs[i]? = some g) (hz : gs.length ≤ 90000) (hv : v = .int (g : Int)) (hD : H D = none) (e : Ex H H') (hd : H' D = some (.lst (nums ((gs.take i).filter f)))) (b : Bool) (hb : b = f g) {te : TE} {σ : L2.St} (hte : ∀ Q : VK, Q v H' → te σ H' Q) :
    if b = true then te σ H' fun y H4 => ∃ acc, H4 D = some (.lst acc) ∧ acc.length < sizeLine ∧ (Ex H (upd H4 D (.lst (acc ++ [y]))) ∧ upd H4 D (.lst (acc ++ [y])) D = some (.lst (nums ((gs.take (i + 1)).filter f))))
    else Ex H H' ∧ H' D = some (.lst (nums ((gs.take (i + 1)).filter f))) := by
  rw [filter_take hg, ← hb]
  refine b2 (fun h => hte _ ⟨_, hd, Evl.sz_lt (by rw [nums_len]; have := filter_take_len f gs i; omega), Evl.Ex.mut e hD, ?_⟩) (fun h => ⟨e, ?_⟩)
  · rw [upd_same, if_pos h, nums_app, hv]
    rfl
  · rw [if_neg (by rw [h]; exact Bool.false_ne_true), List.append_nil]
    exact hd
theorem ok_within {f : Addr} {fd : FuncData} (T : Txt K mg A) (a : At K mg "within" s_within ["gaps", "size", "left", "right"] f fd) : C8.Cal P w K mg base 1 "within" (spWithin K) [] := by
  refine a.cal (ok0 a.fn sc_within (fun vs H Q E h => ?_) (fun cdv Ar outer s H vs Q E hr h => ⟨_, (pss_one (ps_ret (pe_lc (own := [("gap", 4)]) rfl sc_within.nd (pi_list (pv 0)) (blkOk_by (own := [("gap", 4)]) (N := ["gaps", "size", "left", "right", "gap"]) (sc := defScope s_within) (by decide +kernel)) (fun _ _ _ _ _ => by exact (pg_name (i := 4) sc_within.nd rfl (Or.inl rfl))) (fun _ _ _ _ _ => by exact (pts_one (PW.pt (pw_and (pt_cmpR op_ge (pv 4) (pv 2) (nomark _)) (pw_and1 (pt_cmpR op_ge (pe_op op_sub (pv 1) (pv 4)) (pv 3) (nomark _))))))) (fun _ _ _ _ _ => by exact (pv 4))))), ?_⟩) rfl rfl rfl)
  · obtain ⟨_, _, _, _, _, rfl, _⟩ := h
    rfl
  · obtain ⟨a, gs, n, lo, hi, rfl, hS, hz, q⟩ := h
    refine ⟨_, rfl, a, rfl, ⟨_, hS⟩, fun D hD => ?_⟩
    refine lc_list (K := K) (a := a) (xs := nums gs) (fun i H' => Ex H H' ∧ H' D = some (.lst (nums ((gs.take i).filter fun g => decide (lo ≤ g ∧ g + hi ≤ n))))) ⟨ex_new hD, upd_same⟩ (fun i H' _ ⟨e, _⟩ => Evl.ex_l e hS) ?_ ?_
    · rintro i y H' hy ⟨e, hd⟩
      obtain ⟨g, hg, rfl⟩ := nums_get hy
      refine ⟨rfl, ?_⟩
      refine (a_and (a_t (w_ge (i := (g : Int)) (j := (lo : Int)) (val_var rfl) (val_var rfl))) (fun _ => a_t (w_ge (i := (n : Int) - (g : Int)) (j := (hi : Int)) (v_I0 (val_var rfl) (val_var rfl)) (val_var rfl)))) _ ?_
      refine lc_kept hg (by omega) rfl hD e hd _ ?_ (fun Q q => ⟨_, rfl, q⟩)
      refine Bool.eq_iff_iff.mpr ?_
      rw [Bool.and_eq_true, decide_eq_true_iff, decide_eq_true_iff, decide_eq_true_iff]
      omega
    · rintro H' ⟨e, hd⟩
      rw [nums_len, List.take_length] at hd
      exact q _ D e hD hd
def spParted (A : Adr) : Sp := fun vs H Q _ => ∃ (a : Addr) (s : Lst) (x : Bytes), vs = [.ref a, .str (bS x)] ∧ ListAt A H a s ∧ (∀ p ∈ s.pats, POk p) ∧ x.length ≤ 16 ∧ GivesL Q H (Vahypa.parts s x)
theorem parts_keep (s : Lst) (x : Bytes) : Vahypa.parts s x = keepIn ((gaps x).filter fun g => levelAt s.pats x g % 2 == 1) x.length s.l s.r := by
  unfold Vahypa.parts Vahypa.partsBy keepIn Vahypa.within
  rw [List.filter_filter]
  congr 1
  funext g
  exact Bool.and_comm _ _
theorem odd_len (ps : List Pat) (x : Bytes) : ((gaps x).filter fun g => levelAt ps x g % 2 == 1).length ≤ x.length := by
  have := List.length_filter_le (fun g => levelAt ps x g % 2 == 1) (gaps x)
  unfold gaps at this ⊢
  rw [List.length_map, List.length_range] at this
  omega
theorem ok_parted_gaps {f : Addr} {fd : FuncData} (T : Txt K mg A) (a : At K mg "parted_gaps" s_parted_gaps ["listing", "letters"] f fd) (d_odd_gaps : C8.Cal P w K mg base 5 "odd_gaps" (spOdd A) []) (d_within : C8.Cal P w K mg base 1 "within" (spWithin K) []) : C8.Cal P w K mg base 6 "parted_gaps" (spParted A) [] := by
  refine a.cal (ok0 a.fn sc_parted_gaps (fun vs H Q E h => ?_) (fun cdv Ar outer s H vs Q E hr h => ⟨_, (pss_cons (ps_set (i := 2) sc_parted_gaps.nd rfl (Or.inl rfl) (C8.pe_c d_odd_gaps hr (by decide) rfl (by exact (pa_cons (pe_fld (pv 0) rfl) (pa_cons (pv 1) pa_nil)))))
  (pss_one (ps_ret (C8.pe_c d_within hr (by decide) rfl (by exact (pa_cons (pv 2) (pa_cons (pe_callB call_len_str rfl T.len (by decide +kernel) (pa_cons (pv 1) pa_nil)) (pa_cons (pe_fld (pv 0) rfl) (pa_cons (pe_fld (pv 0) rfl) pa_nil))))))))), ?_⟩) rfl rfl rfl)
  · obtain ⟨_, _, _, rfl, _⟩ := h
    rfl
  · obtain ⟨a, sl, x, rfl, ⟨dx, lw, lp, ws, ps, h1, h2, h3, h4, h5⟩, hp, hx, q⟩ := h
    refine ⟨_, rfl, a, _, dx, _, _, rfl, h1, T.i_Listing.cl, T.n_Listing_patterns, rfl, _, rfl, lp, sl.pats, x, rfl, ⟨ps, h3, h5⟩, hp, hx, fun H1 r e1 hr1 hr2 => ?_⟩
    refine ⟨_, rfl, _, rfl, _, rfl, Evl.sz_of (by rw [bS_len]; omega), ?_⟩
    rw [bS_len]
    refine ⟨_, rfl, a, _, dx, _, _, rfl, e1 _ _ h1, T.i_Listing.cl, T.n_Listing_left, rfl, _, rfl, a, _, dx, _, _, rfl, e1 _ _ h1, T.i_Listing.cl, T.n_Listing_right, rfl, r, _, x.length, sl.l, sl.r, rfl, SqL.of hr2, Nat.le_trans (odd_len _ _) (by omega), ?_⟩
    rw [parts_keep] at q
    exact q.mono e1
/-! ### held_against -/
def oddsOf (ps : List Pat) (x : Bytes) : List Nat := (gaps x).filter fun g => levelAt ps x g % 2 == 1
def spHeld (A : Adr) (K : PySem.W.Frag) : Sp := fun vs H Q _ => ∃ (aw ao : Addr) (wd : Word) (ps : List Pat) (l r : Nat), vs = [.ref aw, .ref ao, .int (l : Int), .int (r : Int)] ∧ WordAt A H aw wd ∧ WOk wd ∧ SqL K H ao (nums (oddsOf ps wd.x)) ∧
  ∀ H' t, Ex H H' → H t = none → H' t = some (.tup [.int ((scoreM ps wd l r).hits : Int), .int ((scoreM ps wd l r).faults : Int), .int ((scoreM ps wd l r).misses : Int)]) → Q (.ref t) H'
theorem gaps_nodup (x : Bytes) : (gaps x).Nodup := by
  unfold gaps
  exact List.Pairwise.map _ (fun a b h e => h (by omega)) List.nodup_range
theorem up_len : ∀ (l : List Nat) (lo hi : Nat), l.Pairwise (· < ·) → (∀ x ∈ l, lo ≤ x ∧ x < hi) → l.length ≤ hi - lo
  | [], _, _, _, _ => Nat.zero_le _
  | a :: r, lo, hi, h, hb => by
    have h1 := hb a (List.mem_cons_self ..)
    have h2 := up_len r (a + 1) hi (List.pairwise_cons.mp h).2 fun x hx => ⟨(List.pairwise_cons.mp h).1 x hx, (hb x (List.mem_cons_of_mem _ hx)).2⟩
    rw [List.length_cons]
    omega
theorem score_prog (ps : List Pat) (wd : Word) (l r : Nat) (hw : WOk wd) :
    (let parted := keepIn (oddsOf ps wd.x) wd.x.length l r
     let allowed := keepIn wd.cuts wd.x.length l r
     let hits := (parted.filter fun g => allowed.contains g).length
     (scoreM ps wd l r).hits = hits ∧ (scoreM ps wd l r).faults + hits = parted.length ∧ (scoreM ps wd l r).misses + hits = allowed.length) := by
  have hp : keepIn (oddsOf ps wd.x) wd.x.length l r = Vahypa.parts ⟨l, r, [], ps⟩ wd.x := (parts_keep ⟨l, r, [], ps⟩ wd.x).symm
  intro parted allowed hits
  have hparted : parted = Vahypa.parts ⟨l, r, [], ps⟩ wd.x := hp
  have hnp : parted.Nodup := ((gaps_nodup wd.x).filter _).filter _
  have hnc : wd.cuts.Nodup := hw.up.imp (fun h => Nat.ne_of_lt h)
  have hna : allowed.Nodup := hnc.filter _
  have e1 : (parted.filter fun g => allowed.contains g) = parted.filter fun g => wd.cuts.contains g := by
    refine List.filter_congr fun g hg => ?_
    have hin := (List.mem_filter.mp hg).2
    rw [Bool.eq_iff_iff, List.contains_iff_mem, List.contains_iff_mem]
    constructor
    · intro h
      exact (List.mem_filter.mp h).1
    · intro h
      exact List.mem_filter.mpr ⟨h, hin⟩
  have hh : hits = (parted.filter fun g => wd.cuts.contains g).length := congrArg List.length e1
  have hh2 : hits = (allowed.filter fun g => parted.contains g).length := both_len hnp hna
  refine ⟨?_, ?_, ?_⟩
  · rw [hh, hparted]
    rfl
  · rw [hh]
    have := filter_split parted (fun g => wd.cuts.contains g)
    have e : (scoreM ps wd l r).faults = (parted.filter fun g => !wd.cuts.contains g).length := by
      rw [hparted]
      rfl
    omega
  · rw [hh2]
    have := filter_split allowed (fun g => parted.contains g)
    have e : (scoreM ps wd l r).misses = (allowed.filter fun g => !parted.contains g).length := by
      rw [hparted]
      show ((wd.cuts.filter fun g => decide (l ≤ g ∧ g + r ≤ wd.x.length) && !(Vahypa.parts ⟨l, r, [], ps⟩ wd.x).contains g)).length = _
      show _ = ((wd.cuts.filter fun g => decide (l ≤ g ∧ g + r ≤ wd.x.length)).filter _).length
      rw [List.filter_filter]
      congr 2
      funext g
      exact Bool.and_comm _ _
    omega
theorem inV_nums (g : Nat) (l : List Nat) : inV (.int (g : Int)) (nums l) = l.contains g := by
  unfold inV nums
  rw [List.any_map]
  refine Bool.eq_iff_iff.mpr ?_
  rw [List.any_eq_true, List.contains_iff_mem]
  constructor
  · rintro ⟨v, hv, h⟩
    have h' : ((v : Int) == (g : Int)) = true := h
    rw [beq_iff_eq] at h'
    have : v = g := by omega
    rw [← this]
    exact hv
  · intro h
    exact ⟨g, h, by show ((g : Int) == (g : Int)) = true; exact beq_self_eq_true _⟩
theorem nums_flat (l : List Nat) : (nums l).all flatV = true := by
  unfold nums
  rw [List.all_map, List.all_eq_true]
  intro _ _
  rfl
theorem ok_held_against {f : Addr} {fd : FuncData} (T : Txt K mg A) (a : At K mg "held_against" s_held_against ["word", "odd", "left", "right"] f fd) (d_within : C8.Cal P w K mg base 1 "within" (spWithin K) []) : C8.Cal P w K mg base 2 "held_against" (spHeld A K) [] := by
  refine a.cal (ok0 a.fn sc_held_against (fun vs H Q E h => ?_) (fun cdv Ar outer s H vs Q E hr h => ⟨_, (pss_cons (ps_set (i := 4) sc_held_against.nd rfl (Or.inl rfl) (C8.pe_c d_within hr (by decide) rfl (by exact (pa_cons (pv 1) (pa_cons (pe_callB call_len_str rfl T.len (by decide +kernel) (pa_cons (pe_fld (pv 0) rfl) pa_nil)) (pa_cons (pv 2) (pa_cons (pv 3) pa_nil)))))))
  (pss_cons (ps_set (i := 5) sc_held_against.nd rfl (Or.inr rfl) (C8.pe_c d_within hr (by decide) rfl (by exact (pa_cons (pe_fld (pv 0) rfl) (pa_cons (pe_callB call_len_str rfl T.len (by decide +kernel) (pa_cons (pe_fld (pv 0) rfl) pa_nil)) (pa_cons (pv 2) (pa_cons (pv 3) pa_nil)))))))
  (pss_cons (ps_set (i := 6) sc_held_against.nd rfl (Or.inl rfl) (pe_callB call_len_seq rfl T.len (by decide +kernel) (pa_cons (pe_lc (own := [("gap", 7)]) rfl sc_held_against.nd (pi_list (pv 4)) (blkOk_by (own := [("gap", 7)]) (N := ["word", "odd", "left", "right", "parted", "allowed", "hits", "gap"]) (sc := defScope s_held_against) (by decide +kernel)) (fun _ _ _ _ _ => by exact (pg_name (i := 7) sc_held_against.nd rfl (Or.inl rfl))) (fun _ _ _ _ _ => by exact (pts_one (pt_cmpR (op_inK (K := K) rfl) (pv 7) (pv 5) (by rfl)))) (fun _ _ _ _ _ => by exact (pv 7))) pa_nil)))
  (pss_one (ps_ret (pe_tup (pa_cons (pv 6) (pa_cons (pe_op op_sub (pe_callB call_len_seq rfl T.len (by decide +kernel) (pa_cons (pv 4) pa_nil)) (pv 6)) (pa_cons (pe_op op_sub (pe_callB call_len_seq rfl T.len (by decide +kernel) (pa_cons (pv 5) pa_nil)) (pv 6)) pa_nil))))))))), ?_⟩) rfl rfl rfl)
  · obtain ⟨_, _, _, _, _, _, rfl, _⟩ := h
    rfl
  · obtain ⟨aw, ao, wd, ps, l, r, rfl, ⟨dx, g, w1, w2⟩, hw, hS, q⟩ := h
    have h16 := hw.most
    obtain ⟨s1, s2, s3⟩ := score_prog ps wd l r hw
    have hol : (oddsOf ps wd.x).length ≤ 16 := Nat.le_trans (odd_len _ _) h16
    have hcl : wd.cuts.length ≤ 16 := by
      have := up_len wd.cuts 0 16 hw.up fun x hx => ⟨Nat.zero_le _, by have := hw.ins x hx; omega⟩
      omega
    refine ⟨_, rfl, _, rfl, aw, _, dx, _, _, rfl, w1, T.i_Word.cl, T.n_Word_letters, rfl, _, rfl, Evl.sz_of (by rw [bS_len]; omega), _, rfl, _, rfl, ao, _, wd.x.length, l, r, (by rw [bS_len]; rfl), hS, by omega, fun H1 r1 e1 hr1 hv1 => ?_⟩
    refine ⟨_, rfl, aw, _, dx, _, _, rfl, e1 _ _ w1, T.i_Word.cl, T.n_Word_gaps, rfl, _, rfl, aw, _, dx, _, _, rfl, e1 _ _ w1, T.i_Word.cl, T.n_Word_letters, rfl, _, rfl, Evl.sz_of (by rw [bS_len]; omega), _, rfl, _, rfl, g, wd.cuts, wd.x.length, l, r, (by rw [bS_len]; rfl), SqL.of (e1 _ _ w2), by omega, fun H2 r2 e2 hr2 hv2 => ?_⟩
    have hv1' := e2 _ _ hv1
    refine ⟨_, rfl, r1, rfl, ⟨_, SqL.of hv1'⟩, fun D hD => ?_⟩
    refine lc_list (K := K) (a := r1) (xs := nums (keepIn (oddsOf ps wd.x) wd.x.length l r)) (fun i H' => Ex H2 H' ∧ H' D = some (.lst (nums (((keepIn (oddsOf ps wd.x) wd.x.length l r).take i).filter fun g => (keepIn wd.cuts wd.x.length l r).contains g)))) ⟨ex_new hD, upd_same⟩ (fun i H' _ ⟨e, _⟩ => SqL.of (e _ _ hv1')) ?_ ?_
    · rintro i y H' hy ⟨e, hd⟩
      obtain ⟨g0, hg0, rfl⟩ := nums_get hy
      refine ⟨rfl, ?_⟩
      refine ⟨_, rfl, _, rfl, r2, _, rfl, .inl (SqL.of (e _ _ hv2)), rfl, nums_flat _, _, rfl, ?_⟩
      rw [inV_nums]
      refine lc_kept hg0 ?_ rfl hD e hd _ rfl (fun Q q => ⟨_, rfl, q⟩)
      have := List.length_filter_le (fun g => decide (l ≤ g ∧ g + r ≤ wd.x.length)) (oddsOf ps wd.x)
      show ((oddsOf ps wd.x).filter _).length ≤ _
      omega
    · rintro H3 ⟨e3, hd⟩
      rw [nums_len, List.take_length] at hd
      refine ⟨D, _, rfl, .inl (SqL.of hd), ?_⟩
      refine ⟨_, rfl, _, rfl, r1, _, rfl, .inl (SqL.of (e3 _ _ hv1')), _, rfl, _, _, rfl, rfl, _, rfl, r2, _, rfl, .inl (SqL.of (e3 _ _ hv2)), _, rfl, _, _, rfl, rfl, by show 3 ≤ sizeLine; decide, fun t ht => ?_⟩
      have eAll : Ex H H3 := (e1.trans e2).trans e3
      refine q _ t (eAll.trans (ex_new ht)) (Evl.fresh_back eAll ht) ?_
      rw [upd_same, nums_len, nums_len, nums_len]
      have f1 : ((scoreM ps wd l r).hits : Int) = (((keepIn (oddsOf ps wd.x) wd.x.length l r).filter fun g => (keepIn wd.cuts wd.x.length l r).contains g).length : Int) := by omega
      have f2 : ((scoreM ps wd l r).faults : Int) = ((keepIn (oddsOf ps wd.x) wd.x.length l r).length : Int) - (((keepIn (oddsOf ps wd.x) wd.x.length l r).filter fun g => (keepIn wd.cuts wd.x.length l r).contains g).length : Int) := by omega
      have f3 : ((scoreM ps wd l r).misses : Int) = ((keepIn wd.cuts wd.x.length l r).length : Int) - (((keepIn (oddsOf ps wd.x) wd.x.length l r).filter fun g => (keepIn wd.cuts wd.x.length l r).contains g).length : Int) := by omega
      rw [f1, f2, f3]
end
end Pw
set_option Elab.async false
set_option linter.all false
set_option maxRecDepth 100000
set_option maxHeartbeats 2000000
/-! parting.py: margins tried -/
namespace Pw
open PySem PySem.Spec PyProof.Rows L2
open Vahypa (Word Pat Lst levelAt gaps)
open Vahypz (allMargins bestMargins exactCount withMargins)
section
variable {P : Program} {w : World} {K : PySem.W.Frag} {mg : Str → Option Value} {base : Heap} {A : Adr}
/-- the lists of odd gaps, one a word -/
def OddsAt (H : Hp) (l : Addr) (ps : List Pat) (ws : List Word) : Prop := ∃ as : List Addr, H l = some (.lst (as.map V.ref)) ∧ Each (fun a w => H a = some (.lst (nums (oddsOf ps w.x)))) as ws
theorem OddsAt.mono {H H' : Hp} {l : Addr} {ps : List Pat} {ws : List Word} (h : OddsAt H l ps ws) (e : Ex H H') : OddsAt H' l ps ws := by
  obtain ⟨as, h1, h2⟩ := h
  exact ⟨as, e _ _ h1, h2.imp fun _ _ k => e _ _ k⟩
def spWrongs (A : Adr) : Sp := fun vs H Q _ => ∃ (lw lo : Addr) (ws : List Word) (ps : List Pat) (l r : Nat), vs = [.ref lw, .ref lo, .int (l : Int), .int (r : Int)] ∧ WordsAt A H lw ws ∧ OddsAt H lo ps ws ∧ (∀ w ∈ ws, WOk w) ∧ ws.length ≤ 100 ∧ GivesL Q H (ws.map (wrongM ps l r))
theorem ok_wrongs {f : Addr} {fd : FuncData} (T : Txt K mg A) (a : At K mg "wrongs" s_wrongs ["words", "odds", "left", "right"] f fd) (d_held_against : C8.Cal P w K mg base 2 "held_against" (spHeld A K) []) : C8.Cal P w K mg base 3 "wrongs" (spWrongs A) [] := by
  refine a.cal (ok0 a.fn sc_wrongs (fun vs H Q E h => ?_) (fun cdv Ar outer s H vs Q E hr h => ⟨_, (pss_cons (ps_set (i := 4) sc_wrongs.nd rfl (Or.inl rfl) (pe_lst pa_nil))
  (pss_cons (ps_for PassesOwn.never rfl (pi_zip rfl T.zip (pa_cons (pv 0) (pa_cons (pv 1) pa_nil))) (pg_tup rfl (pgs_cons (pg_name (i := 5) sc_wrongs.nd rfl (Or.inl rfl)) (pgs_cons (pg_name (i := 6) sc_wrongs.nd rfl (Or.inl rfl)) pgs_nil))) (pss_cons (ps_set (i := 7) sc_wrongs.nd rfl (Or.inl rfl) (C8.pe_c d_held_against hr (by decide) rfl (by exact (pa_cons (pv 5) (pa_cons (pv 6) (pa_cons (pv 2) (pa_cons (pv 3) pa_nil)))))))
    (pss_one (ps_expr (pe_bm PySem.F.plainAttrs_list PySem.F.slot_list_append PySem.F.type_list_append mt_append (pv 4) (pa_cons (pe_op op_add (pe_ix ix_tup (pv 7) pe_int (fun _ _ => rfl)) (pe_ix ix_tup (pv 7) pe_int (fun _ _ => rfl))) pa_nil))))))
  (pss_one (ps_ret (pv 4))))), ?_⟩) rfl rfl rfl)
  · obtain ⟨_, _, _, _, _, _, rfl, _⟩ := h
    rfl
  · obtain ⟨lw, lo, ws, ps, l, r, rfl, ⟨as, h1, h2⟩, ⟨os, h3, h4⟩, hw, hz, q⟩ := h
    refine ⟨by show 0 ≤ sizeLine; decide, fun fl hfl => ?_⟩
    have hz0 : (as.map V.ref).length = min (as.map V.ref).length (os.map V.ref).length := by
      rw [refs_len, refs_len, h2.1, h4.1, Nat.min_self]
    refine ⟨_, rfl, _, rfl, lw, lo, _, _, rfl, SqL.of (ex_new hfl _ _ h1), SqL.of (ex_new hfl _ _ h3), ?_⟩
    refine for_it (walk_zip (K := K) (a := lw) (b := lo) (xs := as.map V.ref) (ys := os.map V.ref) hz0) (fun i σ H' => ∃ v5 v6 v7 : Option V, σ = [some (.ref lw), some (.ref lo), some (.int (l : Int)), some (.int (r : Int)), some (.ref fl), v5, v6, v7] ∧ Ex H H' ∧ H' fl = some (.lst (nums ((ws.take i).map (wrongM ps l r)))))
      ⟨none, none, none, rfl, ex_new hfl, upd_same⟩ (fun i σ H' _ ⟨_, _, _, _, e, _⟩ => ⟨SqL.of (e _ _ h1), SqL.of (e _ _ h3)⟩) ?_ ?_
    · rintro i y σ H0 H1 hi ⟨v5, v6, v7, rfl, e0, hf0⟩ ⟨t, x1, x2, rfl, ht, hH, hx1, hx2⟩
      obtain ⟨aw, haw, rfl⟩ := refs_at hx1
      obtain ⟨ao, hao, rfl⟩ := refs_at hx2
      obtain ⟨wd, hwd, hwa⟩ := h2.at haw
      have hoa := h4.2 i ao wd hao hwd
      have hwo := hw wd (List.mem_of_getElem? hwd)
      subst hH
      have e1 := e0.trans (ex_new (o := .tup [.ref aw, .ref ao]) ht)
      have tfl : t ≠ fl := fun e => by rw [e, hf0] at ht; cases ht
      rw [refs_len, h2.1] at hi
      refine ⟨t, _, rfl, SqT.of upd_same, rfl, _, _, rfl, _, _, rfl, rfl, ?_⟩
      refine ⟨_, rfl, _, rfl, _, rfl, _, rfl, aw, ao, wd, ps, l, r, rfl, hwa.mono e1, hwo, SqL.of (e1 _ _ hoa), fun H2 c e2 hc hc2 => ?_⟩
      have hf2 : H2 fl = some (.lst (nums ((ws.take i).map (wrongM ps l r)))) := e2 _ _ ((upd_ne (Ne.symm tfl)).trans hf0)
      refine ⟨_, rfl, .inl ⟨rfl, _, SqL.of hf2⟩, _, rfl, c, _, 1, _, rfl, rfl, SqT.of hc2, rfl, _, rfl, c, _, 2, _, rfl, rfl, SqT.of hc2, rfl, _, _, rfl, rfl, fl, _, _, rfl, rfl, hf2, Evl.sz_lt (by rw [nums_len, List.length_map, List.length_take]; omega), ?_⟩
      refine ⟨_, _, _, rfl, Evl.Ex.mut (e1.trans e2) hfl, ?_⟩
      rw [upd_same, List.take_add_one, hwd, List.map_append, nums_app]
      rfl
    · rintro σ H1 ⟨v5, v6, v7, rfl, e0, hf0⟩
      rw [refs_len, h2.1, List.take_length] at hf0
      exact ⟨_, rfl, q _ fl e0 hfl hf0⟩
def bestV (b : Option (Nat × Nat × Nat)) : List Nat := match b with
  | none => []
  | some b => [b.1, b.2.1, b.2.2]
def marginNums (s : Lst) : List Nat := bestV (some (bestMargins s)) ++ allMargins.map fun m => exactCount (withMargins s m.1 m.2)
def spMargins (A : Adr) : Sp := fun vs H Q _ => ∃ (a : Addr) (s : Lst), vs = [.ref a] ∧ ListAt A H a s ∧ LOk s ∧ GivesL Q H (marginNums s)
theorem sum_nat (l : List Nat) : (l.map Int.ofNat).sum = ((l.sum : Nat) : Int) := by
  induction l with
  | nil => rfl
  | cons a r ih =>
    rw [List.map_cons, List.sum_cons, List.sum_cons, ih]
    show (a : Int) + (r.sum : Int) = _
    omega
theorem count_nat (l : List Nat) : (l.map Int.ofNat).count 0 = l.count 0 := by
  induction l with
  | nil => rfl
  | cons a r ih =>
    rw [List.map_cons, List.count_cons, List.count_cons, ih]
    congr 1
    have : (Int.ofNat a == 0) = (a == 0) := by
      rw [Bool.eq_iff_iff, beq_iff_eq, beq_iff_eq]
      constructor
      · intro h
        have : (a : Int) = 0 := h
        omega
      · intro h
        rw [h]
        rfl
    rw [this]
theorem sq_nums {H : Hp} {a : Addr} {l : List Nat} (h : SqL K H a (nums l)) : SqL K H a ((l.map Int.ofNat).map V.int) := by
  rw [List.map_map]
  exact h
theorem dp_nums {H : Hp} {a : Addr} {l : List Nat} (h : H a = some (.lst (nums l))) : Dp K H (.ref a) (.list (l.map fun (n : Nat) => PyData.int (n : Int))) := by
  refine .lst (SqL.of h) ?_
  have : ∀ l : List Nat, DpAll K H (nums l) (l.map fun (n : Nat) => PyData.int (n : Int)) := fun l => by
    induction l with
    | nil => exact .nil
    | cons a r ih => exact .cons (.int _) ih
  exact this l
theorem shaped_nums (l : List Nat) : SeqAt.shaped (.list (l.map fun (n : Nat) => PyData.int (n : Int))) = true := by
  unfold SeqAt.shaped
  have h1 : ∀ l : List Nat, PyData.canLayAll0 (l.map fun (n : Nat) => PyData.int (n : Int)) = true := fun l => by
    induction l with
    | nil => simp [PyData.canLayAll0]
    | cons a r ih => simp [PyData.canLayAll0, PyData.canLay0] at ih ⊢; exact ih
  have h2 : ∀ l : List Nat, PyData.depthAll (l.map fun (n : Nat) => PyData.int (n : Int)) = 0 := fun l => by
    induction l with
    | nil => simp [PyData.depthAll]
    | cons a r ih => simp [PyData.depthAll, PyData.depth] at ih ⊢; exact ih
  simp only [PyData.canLay0, PyData.depth, h1, h2]
  decide
theorem eqv_empty (l : List Nat) : PyData.eqv (.list (l.map fun (n : Nat) => PyData.int (n : Int))) (.list []) = decide (l = []) := by
  cases l with
  | nil => simp [PyData.eqv, PyData.eqvAll]
  | cons a r => simp [PyData.eqv, PyData.eqvAll]
theorem ok_tried_margins {f : Addr} {fd : FuncData} (T : Txt K mg A) (a : At K mg "tried_margins" s_tried_margins ["listing"] f fd) (d_odd_gaps : C8.Cal P w K mg base 5 "odd_gaps" (spOdd A) []) (d_wrongs : C8.Cal P w K mg base 3 "wrongs" (spWrongs A) []) : C8.Cal P w K mg base 6 "tried_margins" (spMargins A) [] := by
  refine a.cal (ok0 a.fn sc_tried_margins (fun vs H Q E h => ?_) (fun cdv Ar outer s H vs Q E hr h => ⟨_, (pss_cons (ps_setLc (i := 1) (own := [("word", 7)]) rfl sc_tried_margins.nd rfl rfl (sw_true rfl rfl rfl (by decide +kernel)) (pi_list (pe_fld (pv 0) rfl)) (blkOk_by (own := [("word", 7)]) (N := ["listing", "odds", "best", "exact", "left", "right", "found", "word"]) (sc := defScope s_tried_margins) (by decide +kernel)) (fun _ _ _ _ _ => by exact (pg_name (i := 7) sc_tried_margins.nd rfl (Or.inl rfl))) (fun _ _ _ _ _ => by exact pts_nil) (fun _ _ _ _ _ => by exact (C8.pe_c d_odd_gaps hr (by decide) rfl (by exact (pa_cons (pe_fldK (K := K) rfl (pv 0) rfl) (pa_cons (pe_fldK (K := K) rfl (pv 7) rfl) pa_nil))))))
  (pss_cons (ps_set (i := 2) sc_tried_margins.nd rfl (Or.inl rfl) (pe_lst pa_nil))
  (pss_cons (ps_set (i := 3) sc_tried_margins.nd rfl (Or.inl rfl) (pe_lst pa_nil))
  (pss_cons (ps_for PassesOwn.never rfl (pi_range1 rfl T.range (pa_cons (pe_op op_add (C8.pe_gc rfl T.c_GREATEST_MARGIN) pe_int) pa_nil)) (pg_name (i := 4) sc_tried_margins.nd rfl (Or.inl rfl)) (pss_one (ps_for PassesOwn.never rfl (pi_range1 rfl T.range (pa_cons (pe_op op_add (C8.pe_gc rfl T.c_GREATEST_MARGIN) pe_int) pa_nil)) (pg_name (i := 5) sc_tried_margins.nd rfl (Or.inl rfl)) (pss_cons (ps_set (i := 6) sc_tried_margins.nd rfl (Or.inl rfl) (C8.pe_c d_wrongs hr (by decide) rfl (by exact (pa_cons (pe_fld (pv 0) rfl) (pa_cons (pv 1) (pa_cons (pv 4) (pa_cons (pv 5) pa_nil)))))))
      (pss_cons (ps_if (PW.pt (pw_or (pt_cmpR (op_eqD hr.units) (pv 2) (pe_lst pa_nil) (nomark _)) (pw_or1 (pt_cmpR op_lt (pe_callB (cr_sum rfl) rfl T.sum (by decide +kernel) (pa_cons (pv 6) pa_nil)) (pe_ix ix_list (pv 2) pe_int (fun _ _ => rfl)) (nomark _))))) (pss_one (ps_set (i := 2) sc_tried_margins.nd rfl (Or.inl rfl) (pe_lst (pa_cons (pv 4) (pa_cons (pv 5) (pa_cons (pe_callB (cr_sum rfl) rfl T.sum (by decide +kernel) (pa_cons (pv 6) pa_nil)) pa_nil)))))) pss_nil)
      (pss_one (ps_expr (pe_bm PySem.F.plainAttrs_list PySem.F.slot_list_append PySem.F.type_list_append mt_append (pv 3) (pa_cons (pe_bm PySem.F.plainAttrs_list PySem.F.slot_list_count PySem.F.type_list_count mt_lcount (pv 6) (pa_cons pe_int pa_nil)) pa_nil)))))))))
  (pss_one (ps_ret (pe_op op_cat (pv 2) (pv 3)))))))), ?_⟩) rfl rfl rfl)
  · obtain ⟨_, _, rfl, _⟩ := h
    rfl
  · obtain ⟨a, sl, rfl, ⟨dx, lw, lp, ws, ps, h1, h2, h3, h4, h5⟩, hO, q⟩ := h
    have h24 := hO.w24
    refine ⟨_, rfl, a, _, dx, _, _, rfl, h1, T.i_Listing.cl, T.n_Listing_words, rfl, lw, rfl, ⟨_, SqL.of h2⟩, fun D hD => ?_⟩
    refine lc_list (K := K) (a := lw) (xs := ws.map V.ref) (fun i H' => Ex H H' ∧ ∃ as : List Addr, H' D = some (.lst (as.map V.ref)) ∧ Each (fun a w => a ≠ D ∧ H' a = some (.lst (nums (oddsOf sl.pats w.x)))) as (sl.words.take i)) ⟨ex_new hD, [], upd_same, Each.nil⟩ (fun i H' _ ⟨e, _⟩ => SqL.of (e _ _ h2)) ?_ ?_
    · rintro i y H' hi ⟨e, as, hd, hE⟩
      obtain ⟨aw, haw, rfl⟩ := refs_at hi
      obtain ⟨wd, hwd, dw, gw, w1, w2⟩ := h4.at haw
      have hwo := hO.ws wd (List.mem_of_getElem? hwd)
      have hil := (List.getElem?_eq_some_iff.mp hwd).1
      refine ⟨rfl, ?_⟩
      refine tyes ⟨_, rfl, a, _, dx, _, _, rfl, e _ _ h1, T.i_Listing.cl, T.n_Listing_patterns, rfl, _, rfl, aw, _, dw, _, _, rfl, e _ _ w1, T.i_Word.cl, T.n_Word_letters, rfl, lp, sl.pats, wd.x, rfl, ⟨ps, e _ _ h3, h5.imp fun _ _ k => k.mono e⟩, hO.ps, hwo.most, fun H2 r e2 hr2 hr3 => ?_⟩
      have hasl : as.length ≤ 24 := by
        rw [hE.1, List.length_take]
        omega
      have rD : r ≠ D := fun z => by rw [z, hd] at hr2; cases hr2
      refine ⟨_, e2 _ _ hd, Evl.sz_lt (by rw [refs_len]; omega), Evl.Ex.mut (e.trans e2) hD, as ++ [r], ?_, ?_⟩
      · rw [upd_same, List.map_append]
        rfl
      · rw [List.take_add_one, hwd]
        refine Each.snoc (hE.imp fun b w hb => ?_) ?_
        · exact ⟨hb.1, by rw [upd_ne hb.1]; exact e2 _ _ hb.2⟩
        · exact ⟨rD, by rw [upd_ne rD]; exact hr3⟩
    rintro H1 ⟨e1, as, hd, hE⟩
    rw [refs_len, h4.1, List.take_length] at hE
    have hOdds : OddsAt H1 D sl.pats sl.words := ⟨as, hd, hE.imp fun _ _ k => k.2⟩
    refine ⟨by show 0 ≤ sizeLine; decide, fun b0 hb0 => ?_⟩
    refine ⟨by show 0 ≤ sizeLine; decide, fun x0 hx0 => ?_⟩
    have xb : x0 ≠ b0 := fun e => by rw [e, upd_same] at hx0; cases hx0
    have hx1 : H1 x0 = none := by rw [upd_ne xb] at hx0; exact hx0
    have eS : Ex H1 (upd (upd H1 b0 (.lst [])) x0 (.lst [])) := (ex_new hb0).trans (ex_new hx0)
    -- the state: behind so many of all margins
    let St : Nat → L2.St → Hp → Prop := fun k σ H' => ∃ (bb : Addr) (v4 v5 v6 : Option V), σ = [some (.ref a), some (.ref D), some (.ref bb), some (.ref x0), v4, v5, v6, none] ∧ Ex H1 H' ∧ H1 bb = none ∧ bb ≠ x0 ∧ H' bb = some (.lst (nums (bestV (bestTo sl k)))) ∧
      H' x0 = some (.lst (nums ((allMargins.take k).map fun m => exactCount (withMargins sl m.1 m.2))))
    have st0 : St 0 [some (.ref a), some (.ref D), some (.ref b0), some (.ref x0), none, none, none, none] (upd (upd H1 b0 (.lst [])) x0 (.lst [])) := by
      refine ⟨b0, none, none, none, rfl, eS, hb0, Ne.symm xb, ?_, upd_same⟩
      rw [upd_ne (Ne.symm xb)]
      exact upd_same
    refine ⟨_, _, rfl, rfl, _, rfl, (by decide), (by decide), ?_⟩
    refine for_range (lo := 0) (n := 6) (fun i σ H' => St (6 * i) σ H') st0 ?_ ?_
    · rintro i σ H' hi hst
      have e0 : (0 : Int) + (i : Int) = (i : Int) := Int.zero_add _
      rw [e0]
      obtain ⟨bb, v4, v5, v6, rfl, eH, hbb, hbx, hb, hx⟩ := hst
      refine ⟨_, _, rfl, rfl, _, rfl, (by decide), (by decide), ?_⟩
      refine for_range (lo := 0) (n := 6) (fun j σ H' => ∃ (bb : Addr) (v5 v6 : Option V), σ = [some (.ref a), some (.ref D), some (.ref bb), some (.ref x0), some (.int (i : Int)), v5, v6, none] ∧ Ex H1 H' ∧ H1 bb = none ∧ bb ≠ x0 ∧ H' bb = some (.lst (nums (bestV (bestTo sl (6 * i + j))))) ∧
        H' x0 = some (.lst (nums ((allMargins.take (6 * i + j)).map fun m => exactCount (withMargins sl m.1 m.2))))) ⟨bb, v5, v6, rfl, eH, hbb, hbx, hb, hx⟩ ?_ ?_
      · rintro j σ H2 hj ⟨bb, v5, v6, rfl, eH, hbb, hbx, hb, hx⟩
        have e0 : (0 : Int) + (j : Int) = (j : Int) := Int.zero_add _
        rw [e0]
        have hm := marg_at i j hi hj
        have eA : Ex H H2 := e1.trans eH
        refine ⟨_, rfl, a, _, dx, _, _, rfl, eA _ _ h1, T.i_Listing.cl, T.n_Listing_words, rfl, _, rfl, _, rfl, _, rfl, lw, D, sl.words, sl.pats, i, j, rfl, ⟨ws, eA _ _ h2, h4.imp fun _ _ k => k.mono eA⟩, hOdds.mono eH, hO.ws, by omega, fun H3 fo e3 hfo hf3 => ?_⟩
        have hfx : fo ≠ x0 := fun z => by rw [z, hx] at hfo; cases hfo
        have hb3 := e3 _ _ hb
        have hx3 := e3 _ _ hx
        have eH3 := eH.trans e3
        have hsum : ((((sl.words.map (wrongM sl.pats i j)).map Int.ofNat).sum : Int)) = (((wrongL sl (i, j)).sum : Nat) : Int) := sum_nat _
        have hcnt : (((sl.words.map (wrongM sl.pats i j)).map Int.ofNat).count 0) = exactCount (withMargins sl i j) := by
          rw [count_nat, exact_count]
          rfl
        have fin : ∀ (nb : Addr) (H4 : Hp) (De : Ends), Ex H1 H4 → H1 nb = none → nb ≠ x0 → H4 nb = some (.lst (nums (bestV (bestTo sl (6 * i + j + 1))))) → H4 x0 = some (.lst (nums ((allMargins.take (6 * i + j)).map fun m => exactCount (withMargins sl m.1 m.2)))) →
            H4 fo = some (.lst (nums (sl.words.map (wrongM sl.pats i j)))) → (∀ σ H', (∃ (bb : Addr) (v5 v6 : Option V), σ = [some (.ref a), some (.ref D), some (.ref bb), some (.ref x0), some (.int (i : Int)), v5, v6, none] ∧ Ex H1 H' ∧ H1 bb = none ∧ bb ≠ x0 ∧ H' bb = some (.lst (nums (bestV (bestTo sl (6 * i + (j + 1)))))) ∧
              H' x0 = some (.lst (nums ((allMargins.take (6 * i + (j + 1))).map fun m => exactCount (withMargins sl m.1 m.2))))) → De.nx σ H') →
            tDrop (tBM K "list" rAppend (tVar 3) (tCons (tBM K "list" (rCntI K) (tVar 6) (tCons (tC (.int 0)) tNil)) tNil)) De [some (.ref a), some (.ref D), some (.ref nb), some (.ref x0), some (.int (i : Int)), some (.int (j : Int)), some (.ref fo), none] H4 := fun nb H4 De e4 hn0 hnx hn4 hx4 hf4 k => by
          have hsz : (nums ((allMargins.take (6 * i + j)).map fun m => exactCount (withMargins sl m.1 m.2))).length < 100000 := by
            have : allMargins.length = 36 := by decide
            rw [nums_len, List.length_map, List.length_take]
            omega
          refine ⟨_, rfl, .inl ⟨rfl, _, SqL.of hx4⟩, _, rfl, .inl ⟨rfl, _, SqL.of hf4⟩, fo, _, 0, rfl, rfl, sq_nums (SqL.of hf4), x0, _, _, rfl, rfl, hx4, Evl.sz_lt hsz, ?_⟩
          refine k _ _ ⟨nb, _, _, rfl, Evl.Ex.mut e4 hx1, hn0, hnx, ?_, ?_⟩
          · rw [upd_ne hnx]
            exact hn4
          · rw [upd_same, ← Nat.add_assoc, List.take_add_one, hm, List.map_append, nums_app, hcnt]
            rfl
        -- the test
        have test : ∀ Q : Bool → Hp → Prop, (∀ e, H3 e = none → Q (beats sl (6 * i + j) (i, j)) (upd H3 e (.lst []))) → tOr (tTest (tOp (rEqD K) (tVar 2) (tLst tNil))) (tTest (tOp (rI0 fun i j => .bl (decide (i < j))) (tCB (rSum K) (tCons (tVar 6) tNil)) (tOp (rIxL K) (tVar 2) (tC (.int 2)))))
            [some (.ref a), some (.ref D), some (.ref bb), some (.ref x0), some (.int (i : Int)), some (.int (j : Int)), some (.ref fo), none] H3 Q := fun Q k => by
          refine ⟨_, rfl, by show 0 ≤ sizeLine; decide, fun e he => ?_⟩
          have hb4 : upd H3 e (.lst []) bb = _ := (upd_ne (ne_of_none hb3 he)).trans hb3
          have hf4 : upd H3 e (.lst []) fo = _ := (upd_ne (ne_of_none hf3 he)).trans hf3
          refine ⟨_, .list [], dp_nums hb4, .lst (SqL.of upd_same) .nil, shaped_nums _, rfl, _, rfl, ?_⟩
          rw [eqv_empty]
          have ke := k e he
          cases hbt : bestTo sl (6 * i + j) with
          | none =>
            rw [beats_none hbt] at ke
            exact cond_true rfl ke
          | some b =>
            rw [beats_some hbt] at ke
            rw [hbt] at hb4
            refine cond_false rfl ?_
            refine ⟨_, rfl, fo, _, rfl, sq_nums (SqL.of hf4), _, rfl, bb, _, _, .int (b.2.2 : Int), rfl, rfl, SqL.of hb4, rfl, _, _, rfl, rfl, _, rfl, ?_⟩
            rw [hsum]
            have hd : decide ((((wrongL sl (i, j)).sum : Nat) : Int) < (b.2.2 : Int)) = decide ((wrongL sl (i, j)).sum < b.2.2) := by
              by_cases h : (wrongL sl (i, j)).sum < b.2.2
              · rw [decide_eq_true h, decide_eq_true (by omega)]
              · rw [decide_eq_false h, decide_eq_false (by omega)]
            rw [hd]
            exact ke
        have hnext := best_next (s := sl) hm
        refine test _ fun e he => ?_
        have eE : Ex H3 (upd H3 e (.lst [])) := ex_new he
        refine b2 (fun hc => ?_) (fun hc => ?_)
        · rw [hc, if_pos rfl] at hnext
          refine ⟨_, rfl, _, rfl, _, rfl, fo, _, rfl, sq_nums (SqL.of (eE _ _ hf3)), by show 3 ≤ sizeLine; decide, fun nb hnb => ?_⟩
          have hnb3 : H3 nb = none := Evl.fresh_back eE hnb
          have eN : Ex H3 (upd (upd H3 e (.lst [])) nb (.lst [.int (i : Int), .int (j : Int), .int ((sl.words.map (wrongM sl.pats i j)).map Int.ofNat).sum])) := eE.trans (ex_new hnb)
          refine fin nb _ _ (eH3.trans eN) (Evl.fresh_back eH3 hnb3) (fun z => by rw [z, hx3] at hnb3; cases hnb3) ?_ (eN _ _ hx3) (eN _ _ hf3) (fun σ H' h => h)
          rw [upd_same, hsum, hnext]
          rfl
        · rw [hc, if_neg Bool.false_ne_true] at hnext
          refine fin bb _ _ (eH3.trans eE) hbb hbx ?_ (eE _ _ hx3) (eE _ _ hf3) (fun σ H' h => h)
          rw [hnext]
          exact eE _ _ hb3
      · rintro σ H2 ⟨bb, v5, v6, rfl, eH, hbb, hbx, hb, hx⟩
        exact ⟨bb, _, v5, v6, rfl, eH, hbb, hbx, hb, hx⟩
    · rintro σ H' ⟨bb, v4, v5, v6, rfl, eH, hbb, hbx, hb, hx⟩
      have e36 : allMargins.take (6 * 6) = allMargins := by decide
      have l36 : allMargins.length = 36 := by decide
      rw [show 6 * 6 = 36 from rfl, best_all] at hb
      rw [e36] at hx
      refine ⟨_, rfl, _, rfl, bb, x0, _, _, rfl, rfl, hb, hx, Evl.sz_of (by rw [nums_len, nums_len, List.length_map, l36]; show 3 + 36 ≤ _; decide), fun r hr => ?_⟩
      have eAll := e1.trans eH
      refine q _ r (eAll.trans (ex_new hr)) (Evl.fresh_back eAll hr) ?_
      rw [upd_same]
      unfold marginNums
      rw [nums_app]
end
end Pw
set_option Elab.async false
set_option linter.all false
set_option maxRecDepth 100000
set_option maxHeartbeats 2000000
/-! reading.py: the reader -/
namespace Pw
open PySem PySem.Spec PyProof.Rows L2
open VahypBase (inChunk isLetter isDigit PTok Toks next here taken takeChunk takeSign wrong word)
open Vahypa (Word Pat Lst wordOf patOf hyphened showPat takeMargin)
/-- a chunk, a sign, or the end -/
def Tv (t : VahypBase.Tok) : Prop := TokOk t ∨ t = .last
theorem Good.tv {ts : Toks} (h : Good ts) {k : Nat} {tk : PTok} (hk : ts[k]? = some tk) : Tv tk.tok := by
  obtain ⟨pre, e, rfl, hp⟩ := h
  have hm := List.mem_of_getElem? hk
  rcases List.mem_append.mp hm with hm | hm
  · exact .inl (hp tk hm)
  · rw [List.mem_singleton.mp hm]
    exact .inr rfl
theorem Good.more {ts : Toks} (h : Good ts) {k : Nat} {tk : PTok} (hk : ts[k]? = some tk) (hn : tk.tok ≠ .last) : ∃ u, ts[k + 1]? = some u := by
  obtain ⟨pre, e, rfl, hp⟩ := h
  by_cases hi : k < pre.length
  · have : k + 1 < (pre ++ ([⟨e, VahypBase.Tok.last⟩] : Toks)).length := by
      rw [List.length_append]
      show k + 1 < pre.length + 1
      omega
    exact ⟨_, some_at this⟩
  · rw [List.getElem?_append_right (by omega)] at hk
    have : k - pre.length = 0 := by
      have := (List.getElem?_eq_some_iff.mp hk).1
      have e1 : [(⟨e, VahypBase.Tok.last⟩ : PTok)].length = 1 := rfl
      omega
    rw [this] at hk
    cases hk
    exact absurd rfl hn
theorem tok_word {tk : PTok} {r : Toks} {nm : Bytes} (h : Tv tk.tok) (h1 : nm ≠ []) (h2 : nm ≠ [59]) : decide (tokS tk.tok = bS nm) = next (.chunk nm) (tk :: r) := by
  show _ = VahypBase.tokEq tk.tok (.chunk nm)
  cases ht : tk.tok with
  | chunk b =>
    show decide (bS b = bS nm) = (b == nm)
    by_cases hb : b = nm
    · rw [hb, decide_eq_true rfl]
      exact (beq_self_eq_true _).symm
    · rw [decide_eq_false (fun e => hb (bS_inj e))]
      exact (by simpa using hb : (b == nm) = false).symm
  | sign c =>
    rw [ht] at h
    have hc : c = 59 := by
      rcases h with h | h
      · exact h
      · cases h
    subst hc
    show decide (S [59] = bS nm) = false
    refine decide_eq_false fun e => h2 ?_
    have e2 : bS [59] = bS nm := e
    exact (bS_inj e2).symm
  | last =>
    show decide (S [] = bS nm) = false
    refine decide_eq_false fun e => h1 ?_
    have e2 : bS [] = bS nm := e
    exact (bS_inj e2).symm
theorem tok_semi {tk : PTok} {r : Toks} (h : Tv tk.tok) : decide (tokS tk.tok = S [59]) = next (.sign 59) (tk :: r) := by
  show _ = VahypBase.tokEq tk.tok (.sign 59)
  cases ht : tk.tok with
  | chunk b =>
    rw [ht] at h
    have hb : TokOk (.chunk b) := by
      rcases h with h | h
      · exact h
      · cases h
    show decide (bS b = S [59]) = false
    refine decide_eq_false fun e => ?_
    have e2 : bS b = bS [59] := e
    have := hb.2.1 59 (by rw [bS_inj e2]; exact List.mem_singleton.mpr rfl)
    exact absurd this (by decide)
  | sign c =>
    rw [ht] at h
    have hc : c = 59 := by
      rcases h with h | h
      · exact h
      · cases h
    subst hc
    exact decide_eq_true rfl
  | last =>
    show decide (S [] = S [59]) = false
    exact decide_eq_false fun e => by have := SX.S_inj e; cases this
theorem tok_last {tk : PTok} {r : Toks} (h : Tv tk.tok) : decide (tokS tk.tok = S []) = next .last (tk :: r) := by
  show _ = VahypBase.tokEq tk.tok .last
  cases ht : tk.tok with
  | chunk b =>
    rw [ht] at h
    have hb : TokOk (.chunk b) := by
      rcases h with h | h
      · exact h
      · cases h
    show decide (bS b = S []) = false
    refine decide_eq_false fun e => hb.1 ?_
    have e2 : bS b = bS [] := e
    exact bS_inj e2
  | sign c =>
    show decide (S [c] = S []) = false
    exact decide_eq_false fun e => by have := SX.S_inj e; cases this
  | last => exact decide_eq_true rfl
section
variable {P : Program} {w : World} {K : PySem.W.Frag} {mg : Str → Option Value} {base : Heap} {A : Adr}
def rF (t : Addr) (k : Nat) : List (Str × V) := [("tokens", .ref t), ("reached", .int (k : Int))]
/-- a reader at r that has reached token k of ts -/
structure RAt (A : Adr) (H : Hp) (r dx t : Addr) (ts : Toks) (k : Nat) : Prop where
  at_ : H r = some (.ins A.Reader dx (rF t k))
  toks : ToksAt H t ts
theorem RAt.ext {H H' : Hp} {r dx t : Addr} {ts : Toks} {k : Nat} (h : RAt A H r dx t ts k) (e : Ex H H') : RAt A H' r dx t ts k := ⟨e _ _ h.at_, h.toks.mono e⟩
theorem ToksAt.upd_ins {H : Hp} {r t C dx : Addr} {fs gs : List (Str × V)} {ts : Toks} (h : ToksAt H t ts) (hr : H r = some (.ins C dx fs)) : ToksAt (upd H r (.ins C dx gs)) t ts := by
  obtain ⟨as, h1, h2⟩ := h
  refine ⟨as, ?_, h2.1, fun i a u ha hu => ?_⟩
  · rw [upd_ne (fun e => by rw [e, hr] at h1; cases h1)]
    exact h1
  · have := h2.2 i a u ha hu
    rw [upd_ne (fun e => by rw [e, hr] at this; cases this)]
    exact this
theorem RAt.go {H : Hp} {r dx t : Addr} {ts : Toks} {k j : Nat} (h : RAt A H r dx t ts k) : RAt A (upd H r (.ins A.Reader dx (rF t j))) r dx t ts j := ⟨upd_same, h.toks.upd_ins h.at_⟩
def spReaderI (A : Adr) (K : PySem.W.Frag) : Sp := fun vs H Q E => ∃ (p dx a : Addr) (bs : Bytes), vs = [.ref p, .ref a] ∧ H p = some (.ins A.Reader dx []) ∧ SqL K H a (bI bs) ∧ bs.length ≤ 8192 ∧
  (∀ f, VahypBase.tokens bs = .error f → Fails E A.Fault H f.code f.place) ∧ (∀ ts, VahypBase.tokens bs = .ok ts → ∀ H' t, Ex H H' → H t = none → ToksAt H' t ts → Q .non (upd H' p (.ins A.Reader dx (rF t 0))))
theorem ok_Reader {f : Addr} {fd : FuncData} (T : Txt K mg A) (a : AtC K mg "Reader" "Reader.__init__" A.Reader s_Reader_init ["self", "text"] f fd) (d_tokens_of : CalX P w K mg base 5 "tokens_of" (spTokens K A.Fault)) : MakX P w K mg base 6 "Reader" A.Reader (spReaderI A K) := by
  refine ⟨f, fd, _, a.made, okX a.fn sc_Reader_init (fun vs H Q E h => ?_) (fun cdv Ar outer s H vs Q E hr h => ⟨_, (pss_cons (ps_fld (pv 0) (pe_cX d_tokens_of hr (by decide) rfl (outX (takes_of rfl rfl rfl rfl) rfl) (by exact (pa_cons (pv 1) pa_nil))) rfl)
  (pss_one (ps_fld (pv 0) pe_int rfl))), ?_⟩) rfl rfl rfl, a.mgC, a.b⟩
  · obtain ⟨_, _, _, _, rfl, _⟩ := h
    rfl
  · obtain ⟨p, dx, a, bs, rfl, hp, hS, hz, qE, q⟩ := h
    refine ⟨_, rfl, a, bs, rfl, hS, hz, qE, fun ts hts H1 t e1 ht hT => ?_⟩
    refine ⟨_, rfl, p, _, dx, _, rfl, e1 _ _ hp, T.i_Reader.cl, T.n_Reader_tokens, (by decide), ?_⟩
    refine ⟨_, rfl, p, _, dx, _, rfl, upd_same, T.i_Reader.cl, T.n_Reader_reached, (by show 1 < 1000; decide), ?_⟩
    show Q .non _
    rw [upd2]
    exact q ts hts H1 t e1 ht hT
def spHere (A : Adr) : Sp := fun vs H Q _ => ∃ (r dx t : Addr) (ts : Toks) (k : Nat) (tk : PTok), vs = [.ref r] ∧ RAt A H r dx t ts k ∧ ts[k]? = some tk ∧ Q (.int (tk.place : Int)) H
def spSigns (A : Adr) : Sp := fun vs H Q _ => ∃ (r dx t : Addr) (ts : Toks) (k : Nat) (tk : PTok), vs = [.ref r] ∧ RAt A H r dx t ts k ∧ ts[k]? = some tk ∧ Q (.str (tokS tk.tok)) H
def spGoOn (A : Adr) : Sp := fun vs H Q _ => ∃ (r dx t : Addr) (ts : Toks) (k : Nat), vs = [.ref r] ∧ RAt A H r dx t ts k ∧ Q .non (upd H r (.ins A.Reader dx (rF t (k + 1))))
theorem tok_at {H : Hp} {t : Addr} {ts : Toks} {k : Nat} {tk : PTok} (h : ToksAt H t ts) (hk : ts[k]? = some tk) : ∃ as : List Addr, ∃ a, H t = some (.lst (as.map V.ref)) ∧ atI (as.map V.ref) (k : Int) = some (.ref a) ∧ H a = some (.tup [.int (tk.place : Int), .str (tokS tk.tok)]) := by
  obtain ⟨as, h1, h2⟩ := h
  have hl : k < as.length := by
    rw [h2.1]
    exact (List.getElem?_eq_some_iff.mp hk).1
  refine ⟨as, as[k], h1, atI_nat ?_, h2.2 k _ tk (some_at hl) hk⟩
  rw [List.getElem?_map, some_at hl]
  rfl
theorem ok_here {f : Addr} {fd : FuncData} (T : Txt K mg A) (a : AtM K A.Reader "here" "Reader.here" s_Reader_here ["self"] f fd) : C8.Met P w K mg base 1 A.Reader "here" (spHere A) [] := by
  refine ⟨f, fd, _, [], T.i_Reader.cl, a.me, ok0 a.fn sc_Reader_here (fun vs H Q E h => ?_) (fun cdv Ar outer s H vs Q E hr h => ⟨_, (pss_one (ps_ret (pe_ix ix_tup (pe_ix ix_list (pe_fld (pv 0) rfl) (pe_fld (pv 0) rfl) (fun _ _ => rfl)) pe_int (fun _ _ => rfl)))), ?_⟩) rfl rfl rfl, a.b, .nil⟩
  · obtain ⟨_, _, _, _, _, _, rfl, _⟩ := h
    rfl
  · obtain ⟨r, dx, t, ts, k, tk, rfl, R, hk, q⟩ := h
    obtain ⟨as, ta, h1, h2, h3⟩ := tok_at R.toks hk
    exact ⟨_, rfl, r, _, dx, _, _, rfl, R.at_, T.i_Reader.cl, T.n_Reader_tokens, rfl, _, rfl, r, _, dx, _, _, rfl, R.at_, T.i_Reader.cl, T.n_Reader_reached, rfl, t, _, _, _, rfl, rfl, SqL.of h1, h2, ta, _, 0, _, rfl, rfl, SqT.of h3, rfl, q⟩
theorem ok_signs {f : Addr} {fd : FuncData} (T : Txt K mg A) (a : AtM K A.Reader "signs" "Reader.signs" s_Reader_signs ["self"] f fd) : C8.Met P w K mg base 1 A.Reader "signs" (spSigns A) [] := by
  refine ⟨f, fd, _, [], T.i_Reader.cl, a.me, ok0 a.fn sc_Reader_signs (fun vs H Q E h => ?_) (fun cdv Ar outer s H vs Q E hr h => ⟨_, (pss_one (ps_ret (pe_ix ix_tup (pe_ix ix_list (pe_fld (pv 0) rfl) (pe_fld (pv 0) rfl) (fun _ _ => rfl)) pe_int (fun _ _ => rfl)))), ?_⟩) rfl rfl rfl, a.b, .nil⟩
  · obtain ⟨_, _, _, _, _, _, rfl, _⟩ := h
    rfl
  · obtain ⟨r, dx, t, ts, k, tk, rfl, R, hk, q⟩ := h
    obtain ⟨as, ta, h1, h2, h3⟩ := tok_at R.toks hk
    exact ⟨_, rfl, r, _, dx, _, _, rfl, R.at_, T.i_Reader.cl, T.n_Reader_tokens, rfl, _, rfl, r, _, dx, _, _, rfl, R.at_, T.i_Reader.cl, T.n_Reader_reached, rfl, t, _, _, _, rfl, rfl, SqL.of h1, h2, ta, _, 1, _, rfl, rfl, SqT.of h3, rfl, q⟩
theorem ok_go_on {f : Addr} {fd : FuncData} (T : Txt K mg A) (a : AtM K A.Reader "go_on" "Reader.go_on" s_Reader_go_on ["self"] f fd) : C8.Met P w K mg base 1 A.Reader "go_on" (spGoOn A) [] := by
  refine ⟨f, fd, _, [], T.i_Reader.cl, a.me, ok0 a.fn sc_Reader_go_on (fun vs H Q E h => ?_) (fun cdv Ar outer s H vs Q E hr h => ⟨_, (pss_one (ps_fldaug (pv 0) pe_int in_add)), ?_⟩) rfl rfl rfl, a.b, .nil⟩
  · obtain ⟨_, _, _, _, _, rfl, _⟩ := h
    rfl
  · obtain ⟨r, dx, t, ts, k, rfl, R, q⟩ := h
    refine ⟨_, rfl, r, _, dx, _, _, rfl, R.at_, T.i_Reader.cl, T.n_Reader_reached, rfl, _, _, rfl, rfl, dx, _, R.at_, (by show 2 < 1000; decide), ?_⟩
    exact q
/-! ### take, chunk_here -/
def spTake (A : Adr) : Sp := fun vs H Q E => ∃ (r dx t : Addr) (ts : Toks) (k : Nat) (tk : PTok) (z : Str), vs = [.ref r, .str z] ∧ RAt A H r dx t ts k ∧ ts[k]? = some tk ∧
  (decide (tokS tk.tok = z) = false → Fails E A.Fault H 3 tk.place) ∧ (decide (tokS tk.tok = z) = true → Q .non (upd H r (.ins A.Reader dx (rF t (k + 1)))))
theorem ok_take {f : Addr} {fd : FuncData} (T : Txt K mg A) (a : AtM K A.Reader "take" "Reader.take" s_Reader_take ["self", "signs"] f fd) (m_signs : C8.Met P w K mg base 1 A.Reader "signs" (spSigns A) []) (m_here : C8.Met P w K mg base 1 A.Reader "here" (spHere A) [])
    (m_go_on : C8.Met P w K mg base 1 A.Reader "go_on" (spGoOn A) []) : MetX P w K mg base 3 A.Reader "take" (spTake A) := by
  refine ⟨f, fd, _, T.i_Reader.cl, a.me, okX a.fn sc_Reader_take (fun vs H Q E h => ?_) (fun cdv Ar outer s H vs Q E hr h => ⟨_, (pss_cons (ps_if (pt_cmpR op_ne (C8.pe_mt0 m_signs hr (by decide) (pv 0)) (pv 1) (nomark _)) (pss_one (FltX.ps_raiseF rfl T.flt hr (takes_of rfl rfl rfl rfl) (by exact (pa_cons pe_int (pa_cons (C8.pe_mt0 m_here hr (by decide) (pv 0)) pa_nil))))) pss_nil)
  (pss_one (ps_expr (C8.pe_mt0 m_go_on hr (by decide) (pv 0))))), ?_⟩) rfl rfl rfl, a.b⟩
  · obtain ⟨_, _, _, _, _, _, _, rfl, _⟩ := h
    rfl
  · obtain ⟨r, dx, t, ts, k, tk, z, rfl, R, hk, qE, q⟩ := h
    have hsig : Val (tMeth A.Reader "signs" (spSigns A) [] C8.E0 (tVar 0) tNil) [some (.ref r), some (.str z)] H (.str (tokS tk.tok)) := fun Q q => ⟨_, rfl, r, dx, _, rfl, R.at_, rfl, r, dx, t, ts, k, tk, rfl, R, hk, q⟩
    refine when2 (a_t (v_neS hsig (val_var rfl))) (fun h => ?_) (fun h => ?_)
    · rw [Bool.not_eq_true'] at h
      exact ⟨_, rfl, r, dx, _, rfl, R.at_, rfl, r, dx, t, ts, k, tk, rfl, R, hk, _, _, rfl, fun d hd => (qE h).go (Evl.Ex.refl _) d hd⟩
    · rw [Bool.not_eq_false'] at h
      exact ⟨_, rfl, r, dx, _, rfl, R.at_, rfl, r, dx, t, ts, k, rfl, R, q h⟩
def isChunk : VahypBase.Tok → Bool
  | .chunk _ => true
  | _ => false
def spChunkHere (A : Adr) : Sp := fun vs H Q E => ∃ (r dx t : Addr) (ts : Toks) (k : Nat) (tk : PTok), vs = [.ref r] ∧ RAt A H r dx t ts k ∧ ts[k]? = some tk ∧ Tv tk.tok ∧
  (isChunk tk.tok = false → Fails E A.Fault H 3 tk.place) ∧ (isChunk tk.tok = true → Q (.str (tokS tk.tok)) H)
theorem ok_chunk_here {f : Addr} {fd : FuncData} (T : Txt K mg A) (a : AtM K A.Reader "chunk_here" "Reader.chunk_here" s_Reader_chunk_here ["self"] f fd) (m_signs : C8.Met P w K mg base 1 A.Reader "signs" (spSigns A) []) (m_here : C8.Met P w K mg base 1 A.Reader "here" (spHere A) []) : MetX P w K mg base 3 A.Reader "chunk_here" (spChunkHere A) := by
  refine ⟨f, fd, _, T.i_Reader.cl, a.me, okX a.fn sc_Reader_chunk_here (fun vs H Q E h => ?_) (fun cdv Ar outer s H vs Q E hr h => ⟨_, (pss_cons (ps_if (PW.pt (pw_or (pt_cmpR op_eq (C8.pe_mt0 m_signs hr (by decide) (pv 0)) pe_str (nomark _)) (pw_or1 (pt_cmpR op_eq (C8.pe_mt0 m_signs hr (by decide) (pv 0)) pe_str (nomark _))))) (pss_one (FltX.ps_raiseF rfl T.flt hr (takes_of rfl rfl rfl rfl) (by exact (pa_cons pe_int (pa_cons (C8.pe_mt0 m_here hr (by decide) (pv 0)) pa_nil))))) pss_nil)
  (pss_one (ps_ret (C8.pe_mt0 m_signs hr (by decide) (pv 0))))), ?_⟩) rfl rfl rfl, a.b⟩
  · obtain ⟨_, _, _, _, _, _, rfl, _⟩ := h
    rfl
  · obtain ⟨r, dx, t, ts, k, tk, rfl, R, hk, hv, qE, q⟩ := h
    have hsig : Val (tMeth A.Reader "signs" (spSigns A) [] C8.E0 (tVar 0) tNil) [some (.ref r)] H (.str (tokS tk.tok)) := fun Q q => ⟨_, rfl, r, dx, _, rfl, R.at_, rfl, r, dx, t, ts, k, tk, rfl, R, hk, q⟩
    have e1 := tok_semi (r := []) hv
    have e2 := tok_last (r := []) hv
    refine when2 (a_or (a_t (v_eqS hsig val_c)) (fun _ => a_t (v_eqS hsig val_c))) (fun h => ?_) (fun h => ?_)
    · rw [semi, emp, e1, e2] at h
      have hn : isChunk tk.tok = false := by
        cases ht : tk.tok with
        | chunk b =>
          have z1 : next (.sign 59) [tk] = false := by
            show VahypBase.tokEq tk.tok (.sign 59) = false
            rw [ht]
            rfl
          have z2 : next .last [tk] = false := by
            show VahypBase.tokEq tk.tok .last = false
            rw [ht]
            rfl
          rw [z1, z2] at h
          cases h
        | sign c => rfl
        | last => rfl
      exact ⟨_, rfl, r, dx, _, rfl, R.at_, rfl, r, dx, t, ts, k, tk, rfl, R, hk, _, _, rfl, fun d hd => (qE hn).go (Evl.Ex.refl _) d hd⟩
    · rw [semi, emp, e1, e2, Bool.or_eq_false_iff] at h
      have hn : isChunk tk.tok = true := by
        cases ht : tk.tok with
        | chunk b => rfl
        | sign c =>
          have hc : c = 59 := by
            rw [ht] at hv
            rcases hv with hv | hv
            · exact hv
            · cases hv
          have z1 : next (.sign 59) [tk] = true := by
            show VahypBase.tokEq tk.tok (.sign 59) = true
            rw [ht, hc]
            rfl
          rw [z1] at h
          cases h.1
        | last =>
          have z2 : next .last [tk] = true := by
            show VahypBase.tokEq tk.tok .last = true
            rw [ht]
            rfl
          rw [z2] at h
          cases h.2
      refine hsig _ ?_
      exact q hn
end
end Pw
set_option Elab.async false
set_option linter.all false
set_option maxRecDepth 100000
set_option maxHeartbeats 2000000
/-! reading.py: margins, entries -/
namespace Pw
open PySem PySem.Spec PyProof.Rows L2
open VahypBase (inChunk isLetter isDigit PTok Toks next here taken takeChunk takeSign wrong word)
open Vahypa (Word Pat Lst wordOf patOf hyphened showPat takeMargin)
section
variable {P : Program} {w : World} {K : PySem.W.Frag} {mg : Str → Option Value} {base : Heap} {A : Adr}
def marginB : Bytes → Option Nat
  | [d] => if isDigit d = true ∧ d.toNat - 48 ≤ 5 then some (d.toNat - 48) else none
  | _ => none
theorem takeMargin_chunk {p : Nat} {b : Bytes} {r : Toks} : takeMargin (⟨p, .chunk b⟩ :: r) = match marginB b with
    | none => .error ⟨7, p⟩
    | some m => .ok (m, r) := by
  unfold takeMargin takeChunk
  show (match b with | [d] => if isDigit d = true ∧ d.toNat - 48 ≤ Vahypa.MARGIN then Except.ok (d.toNat - 48, r) else Except.error ⟨7, p⟩ | _ => Except.error ⟨7, p⟩ : Except VahypBase.Fault (Nat × Toks)) = _
  match b with
  | [] => rfl
  | [d] =>
    show (if isDigit d = true ∧ d.toNat - 48 ≤ 5 then Except.ok (d.toNat - 48, r) else Except.error ⟨7, p⟩ : Except VahypBase.Fault (Nat × Toks)) = match (if isDigit d = true ∧ d.toNat - 48 ≤ 5 then some (d.toNat - 48) else none) with | none => _ | some m => _
    split <;> rfl
  | _ :: _ :: _ => rfl
theorem inV_margin (b : Bytes) : inV (.str (bS b)) [.str (Str.ofString "0"), .str (Str.ofString "1"), .str (Str.ofString "2"), .str (Str.ofString "3"), .str (Str.ofString "4"), .str (Str.ofString "5")] = (marginB b).isSome := by
  have e0 : Str.ofString "0" = bS [48] := by decide +kernel
  have e1 : Str.ofString "1" = bS [49] := by decide +kernel
  have e2 : Str.ofString "2" = bS [50] := by decide +kernel
  have e3 : Str.ofString "3" = bS [51] := by decide +kernel
  have e4 : Str.ofString "4" = bS [52] := by decide +kernel
  have e5 : Str.ofString "5" = bS [53] := by decide +kernel
  rw [e0, e1, e2, e3, e4, e5]
  have sb : ∀ x : Bytes, (bS x == bS b) = decide (b = x) := fun x => by
    by_cases h : b = x
    · rw [h, decide_eq_true rfl]
      exact beq_self_eq_true _
    · rw [decide_eq_false h]
      have : bS x ≠ bS b := fun e => h (bS_inj e).symm
      simpa using this
  show ((bS [48] == bS b) || ((bS [49] == bS b) || ((bS [50] == bS b) || ((bS [51] == bS b) || ((bS [52] == bS b) || ((bS [53] == bS b) || false)))))) = _
  rw [sb, sb, sb, sb, sb, sb]
  match b with
  | [] => rfl
  | [d] =>
    show _ = (if isDigit d = true ∧ d.toNat - 48 ≤ 5 then some (d.toNat - 48) else none).isSome
    have hs : ∀ n : UInt8, ([d] = [n]) ↔ d.toNat = n.toNat := fun n => by
      constructor
      · intro h
        injection h with h
        rw [h]
      · intro h
        rw [UInt8.toNat_inj.mp h]
    have hd : isDigit d = true ↔ 48 ≤ d.toNat ∧ d.toNat ≤ 57 := by
      unfold isDigit
      exact decide_eq_true_iff
    have t0 : (48 : UInt8).toNat = 48 := rfl
    have t1 : (49 : UInt8).toNat = 49 := rfl
    have t2 : (50 : UInt8).toNat = 50 := rfl
    have t3 : (51 : UInt8).toNat = 51 := rfl
    have t4 : (52 : UInt8).toNat = 52 := rfl
    have t5 : (53 : UInt8).toNat = 53 := rfl
    rw [Bool.eq_iff_iff]
    simp only [Bool.or_eq_true, decide_eq_true_iff, hs, t0, t1, t2, t3, t4, t5, Bool.false_eq_true, or_false]
    by_cases h : isDigit d = true ∧ d.toNat - 48 ≤ 5
    · rw [if_pos h]
      have := hd.mp h.1
      simp
      omega
    · rw [if_neg h]
      have : ¬ ((48 ≤ d.toNat ∧ d.toNat ≤ 57) ∧ d.toNat - 48 ≤ 5) := fun z => h ⟨hd.mpr z.1, z.2⟩
      simp
      omega
  | a :: c :: r =>
    simp [marginB]
theorem marginB_some {b : Bytes} {m : Nat} (h : marginB b = some m) : ∃ d : UInt8, b = [d] ∧ 48 ≤ d.toNat ∧ d.toNat ≤ 57 ∧ m = d.toNat - 48 ∧ m ≤ 5 := by
  match b with
  | [] => cases h
  | [d] =>
    have h' : (if isDigit d = true ∧ d.toNat - 48 ≤ 5 then some (d.toNat - 48) else none) = some m := h
    split at h'
    · rename_i hd
      cases h'
      have h1 : 48 ≤ d.toNat ∧ d.toNat ≤ 57 := by
        have := hd.1
        unfold isDigit at this
        exact of_decide_eq_true this
      exact ⟨d, rfl, h1.1, h1.2, rfl, hd.2⟩
    · cases h'
  | _ :: _ :: _ => cases h
/-- what a def that reads from token k on may be handed: r's fault, or the next state of the reader -/
def spMargin (A : Adr) : Sp := fun vs H Q E => ∃ (r dx t : Addr) (ts : Toks) (k : Nat), vs = [.ref r] ∧ RAt A H r dx t ts k ∧ Good ts ∧ k < ts.length ∧
  (∀ f, takeMargin (ts.drop k) = .error f → Fails E A.Fault H f.code f.place) ∧ (∀ m, takeMargin (ts.drop k) = .ok (m, ts.drop (k + 1)) → m ≤ 5 → k + 1 < ts.length → Q (.int (m : Int)) (upd H r (.ins A.Reader dx (rF t (k + 1)))))
theorem ok_read_margin {f : Addr} {fd : FuncData} (T : Txt K mg A) (a : At K mg "read_margin" s_read_margin ["reader"] f fd) (m_chunk_here : MetX P w K mg base 3 A.Reader "chunk_here" (spChunkHere A)) (m_here : C8.Met P w K mg base 1 A.Reader "here" (spHere A) [])
    (m_go_on : C8.Met P w K mg base 1 A.Reader "go_on" (spGoOn A) []) : CalX P w K mg base 5 "read_margin" (spMargin A) := by
  refine a.calX (okX a.fn sc_read_margin (fun vs H Q E h => ?_) (fun cdv Ar outer s H vs Q E hr h => ⟨_, (pss_cons (ps_set (i := 1) sc_read_margin.nd rfl (Or.inl rfl) (pe_mtX0 m_chunk_here hr (by decide) (outX (takes_of rfl rfl rfl rfl) rfl) (pv 0)))
  (pss_cons (ps_if (pt_cmpR op_notIn_seq (pv 1) (C8.pe_gc rfl T.c_MARGIN_CHUNKS) (by rfl)) (pss_one (FltX.ps_raiseF rfl T.flt hr (takes_of rfl rfl rfl rfl) (by exact (pa_cons pe_int (pa_cons (C8.pe_mt0 m_here hr (by decide) (pv 0)) pa_nil))))) pss_nil)
  (pss_cons (ps_expr (C8.pe_mt0 m_go_on hr (by decide) (pv 0)))
  (pss_one (ps_ret (pe_callTy call_int_str rfl T.ty_int (by decide +kernel) (pa_cons (pv 1) pa_nil))))))), ?_⟩) rfl rfl rfl)
  · obtain ⟨_, _, _, _, _, rfl, _⟩ := h
    rfl
  · obtain ⟨r, dx, t, ts, k, rfl, R, G, hlt, qE, q⟩ := h
    have hk := some_at hlt
    have hd := drop_at hk
    have hv := G.tv hk
    refine ⟨_, rfl, r, dx, _, rfl, R.at_, rfl, r, dx, t, ts, k, ts[k], rfl, R, hk, hv, fun hn => ?_, fun hn => ?_⟩
    · refine qE ⟨3, ts[k].place⟩ ?_
      rw [hd]
      unfold takeMargin takeChunk
      generalize ts[k] = tk at hn ⊢
      obtain ⟨p, tt⟩ := tk
      cases tt with
      | chunk b => cases hn
      | sign c => rfl
      | last => rfl
    · obtain ⟨p, b, htk⟩ : ∃ p b, ts[k] = ⟨p, .chunk b⟩ := by
        generalize ts[k] = tk at hn ⊢
        obtain ⟨p, tt⟩ := tk
        cases tt with
        | chunk b => exact ⟨p, b, rfl⟩
        | sign c => cases hn
        | last => cases hn
      rw [htk] at hd hk
      have hmore := G.more hk (by simp)
      have hlt2 : k + 1 < ts.length := by
        obtain ⟨u, hu⟩ := hmore
        exact (List.getElem?_eq_some_iff.mp hu).1
      have htm := takeMargin_chunk (p := p) (b := b) (r := ts.drop (k + 1))
      rw [← hd] at htm
      have e1 : tokS ts[k].tok = bS b := by rw [htk]; rfl
      rw [e1]
      dsimp only [gName]
      refine when2 (b := !(marginB b).isSome) (fun Q q => ⟨_, rfl, _, _, rfl, .inr (T.kt_MARGIN_CHUNKS _), rfl, rfl, _, rfl, by rw [inV_margin]; exact q⟩) (fun h => ?_) (fun h => ?_)
      · have hmn : marginB b = none := by
          cases e : marginB b with
          | none => rfl
          | some m => rw [e] at h; cases h
        rw [hmn] at htm
        exact ⟨_, rfl, r, dx, _, rfl, R.at_, rfl, r, dx, t, ts, k, _, rfl, R, hk, _, _, rfl, fun d hd => (qE _ htm).go (Evl.Ex.refl _) d hd⟩
      · obtain ⟨m, hm⟩ : ∃ m, marginB b = some m := by
          cases e : marginB b with
          | none => rw [e] at h; cases h
          | some m => exact ⟨m, rfl⟩
        rw [hm] at htm
        obtain ⟨d, rfl, h48, h57, hmd, hm5⟩ := marginB_some hm
        refine ⟨_, rfl, r, dx, _, rfl, R.at_, rfl, r, dx, t, ts, k, rfl, R, ?_⟩
        refine ⟨_, rfl, _, _, rfl, int_digit (c := d) ⟨h48, h57⟩, by rw [bS_len]; show 1 ≤ 640; decide, ?_⟩
        rw [← hmd]
        exact q m htm hm5 hlt2
/-! ### entries -/
/-- one of the two kinds, with what stands in the heap and the def that makes it -/
structure EK (α : Type) (K : PySem.W.Frag) (A : Adr) (fw fp : Addr) where
  kd : Kd α
  At : Hp → Addr → α → Prop
  fA : Addr
  sp : Sp
  mono : ∀ {H H' : Hp} {a : Addr} {e : α}, At H a e → Ex H H' → At H' a e
  key : ∀ {H : Hp} {a : Addr} {e : α}, At H a e → KeyAt K H a (kd.key e)
  nm1 : kd.nm ≠ []
  nm2 : kd.nm ≠ [59]
  side : ∀ {i : Nat} {t : TA} {σ : L2.St} {H : Hp} {Q : VK}, σ[i]? = some (some (.ref fA)) → (t σ H fun vs H1 => sp vs H1 Q C8.E0) → C8.tCallV i fw fp (spWordOf A) (spPatternOf A) t σ H Q
  call : ∀ {b : Bytes} {H : Hp} {Q : VK} {E : XK}, b ≠ [] → (∀ c ∈ b, inChunk c = true) → b.length ≤ 40 → (kd.made b = none → ∀ H', Ex H H' → Q .non H') → (∀ e, kd.made b = some e → ∀ H' a, Ex H H' → H a = none → At (fresh H H') a e → Q (.ref a) H') → sp [.str (bS b)] H Q E
def wEK (T : Txt K mg A) (fw fp : Addr) : EK Word K A fw fp where
  kd := wKd
  At := WordAt A
  fA := fw
  sp := spWordOf A
  mono := fun h e => h.mono e
  key := fun h => h.key T
  nm1 := by decide +kernel
  nm2 := by decide +kernel
  side := fun h k => .inl ⟨h, k⟩
  call := fun h1 h2 h3 k1 k2 => ⟨_, rfl, h1, h2, h3, k1, k2⟩
def pEK (T : Txt K mg A) (fw fp : Addr) : EK Pat K A fw fp where
  kd := pKd
  At := PatAt A
  fA := fp
  sp := spPatternOf A
  mono := fun h e => h.mono e
  key := fun h => h.key T
  nm1 := by decide +kernel
  nm2 := by decide +kernel
  side := fun h k => .inr ⟨h, k⟩
  call := fun h1 h2 h3 k1 k2 => ⟨_, rfl, h1, h2, h3, k1, k2⟩
theorem first_any {α : Type} (key : α → EKey) (k : EKey) : ∀ es : List α, decide (firstAt (es.map key) k < es.length) = es.any fun v => decide (key v = k)
  | [] => rfl
  | e :: r => by
    have ih := first_any key k r
    unfold firstAt at ih ⊢
    rw [List.map_cons, List.findIdx_cons, List.any_cons, ← ih, List.length_cons]
    cases h : decide (key e = k)
    · show decide (_ + 1 < r.length + 1) = (false || _)
      rw [Bool.false_or]
      by_cases hl : (r.map key).findIdx (fun e => decide (e = k)) < r.length
      · rw [decide_eq_true hl, decide_eq_true (by omega)]
      · rw [decide_eq_false hl, decide_eq_false (by omega)]
    · show decide (0 < r.length + 1) = (true || _)
      rw [Bool.true_or]
      exact decide_eq_true (by omega)
/-- the program's own error, wherever it is raised: all else than r is as it was -/
def FailsB (r : Addr) (E : XK) (CF : Addr) (H : Hp) (c p : Nat) : Prop := ∀ H' d, ExB r H H' → H' d = some (.xd (FltX.flds (.int (c : Int)) (.int (p : Int)))) → E (.ref CF) (some d) H'
theorem FailsB.to {r : Addr} {E : XK} {CF : Addr} {H H1 : Hp} {c p : Nat} (h : FailsB r E CF H c p) (e : ExB r H H1) : Fails E CF H1 c p := fun H' d e1 hd => h H' d (e.trans (.of e1)) hd
theorem FailsB.mono {r : Addr} {E : XK} {CF : Addr} {H H1 : Hp} {c p : Nat} (h : FailsB r E CF H c p) (e : ExB r H H1) : FailsB r E CF H1 c p := fun H' d e1 hd => h H' d (e.trans e1) hd
def spEntry {α : Type} {fw fp : Addr} (ek : EK α K A fw fp) : Sp := fun vs H Q E => ∃ (r dx t le : Addr) (ts : Toks) (k : Nat) (as : List Addr) (es : List α), vs = [.ref r, .str (bS ek.kd.nm), .ref ek.fA, .ref le] ∧ RAt A H r dx t ts k ∧ Good ts ∧ k < ts.length ∧
  H le = some (.lst (as.map V.ref)) ∧ Each (fun a e => KeyAt K H a (ek.kd.key e) ∧ a ≠ r) as es ∧
  (∀ f, entryM ek.kd es (ts.drop k) = .error f → FailsB r E A.Fault H f.code f.place) ∧
  (∀ e, entryM ek.kd es (ts.drop k) = .ok (e, ts.drop (k + 3)) → k + 3 < ts.length → ∀ H' a, ExB r H H' → H' r = some (.ins A.Reader dx (rF t (k + 3))) → H a = none → ek.At (fresh H H') a e → Q (.ref a) H')
theorem KeyIs.upd {H : Hp} {r : Addr} {o : HO} {v : V} {k : EKey} (h : KeyIs H v k) (hr : ∀ vs, H r ≠ some (.tup vs)) : KeyIs (upd H r o) v k := by
  cases k with
  | w b => exact h
  | p b f s =>
    obtain ⟨t, h1, h2⟩ := h
    exact ⟨t, h1, (upd_ne (fun e => by rw [e] at h2; exact hr _ h2)).trans h2⟩
theorem KeyAt.upd {H : Hp} {a r : Addr} {o : HO} {k : EKey} (h : KeyAt K H a k) (hn : a ≠ r) (hr : ∀ vs, H r ≠ some (.tup vs)) : KeyAt K (upd H r o) a k := by
  obtain ⟨C, dx, fs, v, h1, h2, h3, h4, h5⟩ := h
  exact ⟨C, dx, fs, v, (upd_ne hn).trans h1, h2, h3, h4, h5.upd hr⟩
theorem fault_ne {H H1 : Hp} {r dx t : Addr} {k : Nat} (h : H r = some (.ins A.Reader dx (rF t k))) (vs : List V) : H r ≠ some (.tup vs) := fun e => by rw [h] at e; cases e
theorem ok_read_entry {α : Type} {fw fp : Addr} {f : Addr} {fd : FuncData} (T : Txt K mg A) (ek : EK α K A fw fp) (a : At K mg "read_entry" s_read_entry ["reader", "name", "made_of", "earlier"] f fd)
    (c_word : C8.CalAt P w K mg base 3 fw (spWordOf A)) (c_pat : C8.CalAt P w K mg base 3 fp (spPatternOf A))
    (m_take : MetX P w K mg base 3 A.Reader "take" (spTake A)) (m_chunk_here : MetX P w K mg base 3 A.Reader "chunk_here" (spChunkHere A)) (m_here : C8.Met P w K mg base 1 A.Reader "here" (spHere A) [])
    (m_go_on : C8.Met P w K mg base 1 A.Reader "go_on" (spGoOn A) []) (d_number_of : C8.Cal P w K mg base 1 "number_of" (spNumber K) []) : CalX P w K mg base 5 "read_entry" (spEntry ek) := by
  refine a.calX (okX a.fn sc_read_entry (fun vs H Q E h => ?_) (fun cdv Ar outer s H vs Q E hr h => ⟨_, (pss_cons (ps_expr (pe_mtX m_take hr (by decide) (outX (takes_of rfl rfl rfl rfl) rfl) (pv 0) (pa_cons (pv 1) pa_nil)))
  (pss_cons (ps_set (i := 4) sc_read_entry.nd rfl (Or.inl rfl) (C8.pe_cv (i := 2) c_word c_pat hr (by decide) (by decide) rfl (Or.inl rfl) (by exact(pa_cons (pe_mtX0 m_chunk_here hr (by decide) (outX (takes_of rfl rfl rfl rfl) rfl) (pv 0)) pa_nil))))
  (pss_cons (ps_if (pt_cmpR op_isN (pv 4) pe_non (nomark _)) (pss_one (FltX.ps_raiseF rfl T.flt hr (takes_of rfl rfl rfl rfl) (by exact (pa_cons pe_int (pa_cons (C8.pe_mt0 m_here hr (by decide) (pv 0)) pa_nil))))) pss_nil)
  (pss_cons (ps_if (pt_cmpR op_lt (C8.pe_c d_number_of hr (by decide) rfl (by exact (pa_cons (pv 3) (pa_cons (pe_fld (pv 4) rfl) pa_nil)))) (pe_callB call_len_seq rfl T.len (by decide +kernel) (pa_cons (pv 3) pa_nil)) (nomark _)) (pss_one (FltX.ps_raiseF rfl T.flt hr (takes_of rfl rfl rfl rfl) (by exact (pa_cons pe_int (pa_cons (C8.pe_mt0 m_here hr (by decide) (pv 0)) pa_nil))))) pss_nil)
  (pss_cons (ps_expr (C8.pe_mt0 m_go_on hr (by decide) (pv 0)))
  (pss_cons (ps_expr (pe_mtX m_take hr (by decide) (outX (takes_of rfl rfl rfl rfl) rfl) (pv 0) (pa_cons pe_str pa_nil)))
  (pss_one (ps_ret (pv 4))))))))), ?_⟩) rfl rfl rfl)
  · obtain ⟨_, _, _, _, _, _, _, _, rfl, _⟩ := h
    rfl
  · obtain ⟨r, dx, t, le, ts, k, as, es, rfl, R, G, hlt, hle, hE, qE, q⟩ := h
    have hk := some_at hlt
    have hd := drop_at hk
    have hv := G.tv hk
    have hw := tok_word (r := ts.drop (k + 1)) hv ek.nm1 ek.nm2
    rw [← hd] at hw
    have B1 : ExB r H (upd H r (.ins A.Reader dx (rF t (k + 1)))) := .upd
    refine ⟨_, rfl, r, dx, _, rfl, R.at_, rfl, _, rfl, r, dx, t, ts, k, _, _, rfl, R, hk, fun hn => ?_, fun hn => ?_⟩
    · rw [hn] at hw
      refine (qE ⟨3, ts[k].place⟩ ?_).to (.of (Evl.Ex.refl _))
      have ht : taken (.chunk ek.kd.nm) (ts.drop k) = .error ⟨3, ts[k].place⟩ := by
        unfold taken
        rw [← hw, hd]
        rfl
      unfold entryM
      rw [ht]
      rfl
    rw [hn] at hw
    have ht : taken (.chunk ek.kd.nm) (ts.drop k) = .ok (ts.drop (k + 1)) := by
      unfold taken
      rw [← hw, hd]
      rfl
    have hne : ts[k].tok ≠ .last := fun e => by
      unfold next at hw
      rw [hd] at hw
      simp only [e] at hw
      cases hw
    obtain ⟨tk1, hk1⟩ := G.more hk hne
    have hd1 := drop_at hk1
    have hv1 := G.tv hk1
    have R1 : RAt A _ r dx t ts (k + 1) := R.go (j := k + 1)
    have hex : ∀ f : VahypBase.Fault, ((takeChunk (ts.drop (k + 1))).bind fun x => match ek.kd.made x.2.1 with
        | none => .error ⟨7, x.1⟩
        | some e => if es.any (fun v => decide (ek.kd.key v = ek.kd.key e)) = true then .error ⟨5, x.1⟩ else (takeSign 59 x.2.2).map fun m => (e, m) : Except VahypBase.Fault (α × Toks)) = .error f → entryM ek.kd es (ts.drop k) = .error f := fun f hf => by
      unfold entryM
      rw [ht]
      exact hf
    dsimp only
    refine ek.side rfl ⟨_, rfl, r, dx, _, rfl, R1.at_, rfl, r, dx, t, ts, k + 1, tk1, rfl, R1, hk1, hv1, fun hn1 => ?_, fun hn1 => ?_⟩
    · refine (qE ⟨3, tk1.place⟩ (hex _ ?_)).to B1
      rw [hd1]
      obtain ⟨p, tt⟩ := tk1
      cases tt with
      | chunk b => cases hn1
      | sign c => rfl
      | last => rfl
    obtain ⟨p, b, rfl⟩ : ∃ p b, tk1 = ⟨p, .chunk b⟩ := by
      obtain ⟨p, tt⟩ := tk1
      cases tt with
      | chunk b => exact ⟨p, b, rfl⟩
      | sign c => cases hn1
      | last => cases hn1
    obtain ⟨hb0, hbin, hb40⟩ : TokOk (.chunk b) := by
      rcases hv1 with hv1 | hv1
      · exact hv1
      · cases hv1
    obtain ⟨tk2, hk2⟩ := G.more hk1 (by simp)
    have hd2 := drop_at hk2
    have hv2 := G.tv hk2
    have htc : takeChunk (ts.drop (k + 1)) = .ok (p, b, ts.drop (k + 2)) := by
      rw [hd1]
      rfl
    rw [htc] at hex
    refine ek.call hb0 hbin hb40 (fun hm H2 e2 => ?_) (fun e hm H2 a e2 ha hA => ?_)
    · have R2 := R1.ext e2
      dsimp only [gName]
      refine when2 (b := true) (fun Q q => ⟨_, rfl, rfl, true, rfl, q⟩) (fun _ => ?_) (fun h => by cases h)
      refine ⟨_, rfl, r, dx, _, rfl, R2.at_, rfl, r, dx, t, ts, k + 1, _, rfl, R2, hk1, _, _, rfl, fun d hd => ?_⟩
      refine ((qE ⟨7, p⟩ (hex _ ?_)).to (B1.trans (.of e2))).go (Evl.Ex.refl _) d hd
      show (match ek.kd.made b with | none => Except.error _ | some e => _ : Except VahypBase.Fault (α × Toks)) = _
      rw [hm]
    have R2 := R1.ext e2
    have B2 := B1.trans (.of e2)
    dsimp only [gName]
    refine when2 (b := false) (fun Q q => ⟨_, rfl, rfl, false, rfl, q⟩) (fun h => by cases h) (fun _ => ?_)
    have hKA := (ek.key hA).mono (fresh_ex _ H2)
    obtain ⟨C, dxa, fs, kv, ha2, hcl, hno, hlk, hki⟩ := hKA
    have hlr : le ≠ r := fun e => by rw [e, R.at_] at hle; cases hle
    have hE2 : Each (KeyAt K H2) as (es.map ek.kd.key) := hE.map ek.kd.key fun a x h => (h.1.upd h.2 (fault_ne (H1 := H) R.at_)).mono e2
    have hle2 : H2 le = some (.lst (as.map V.ref)) := B2 _ _ hlr hle
    refine ⟨_, rfl, _, rfl, a, C, dxa, fs, kv, rfl, ha2, hcl, hno, hlk, le, as, _, _, kv, rfl, SqL.of hle2, hE2, hki, fun H3 e3 => ?_⟩
    have R3 := R2.ext e3
    have B3 := B2.trans (.of e3)
    have hany : decide (((firstAt (es.map ek.kd.key) (ek.kd.key e) : Nat) : Int) < (((as.map V.ref).length : Nat) : Int)) = es.any (fun v => decide (ek.kd.key v = ek.kd.key e)) := by
      rw [← first_any, refs_len, hE.1]
      by_cases h : firstAt (es.map ek.kd.key) (ek.kd.key e) < es.length
      · rw [decide_eq_true h, decide_eq_true (by omega)]
      · rw [decide_eq_false h, decide_eq_false (by omega)]
    refine ⟨_, rfl, le, _, rfl, .inl (SqL.of (e3 _ _ hle2)), _, _, rfl, rfl, _, rfl, ?_⟩
    rw [hany]
    refine b2 (fun h => ?_) (fun h => ?_)
    · refine ⟨_, rfl, r, dx, _, rfl, R3.at_, rfl, r, dx, t, ts, k + 1, _, rfl, R3, hk1, _, _, rfl, fun d hd => ?_⟩
      refine ((qE ⟨5, p⟩ (hex _ ?_)).to B3).go (Evl.Ex.refl _) d hd
      show (match ek.kd.made b with | none => Except.error _ | some e => _ : Except VahypBase.Fault (α × Toks)) = _
      rw [hm]
      show (if _ then _ else _) = _
      rw [if_pos h]
    have R4 : RAt A _ r dx t ts (k + 2) := R3.go (j := k + 2)
    have hs2 := tok_semi (r := ts.drop (k + 3)) hv2
    rw [← hd2] at hs2
    have htk : ∀ f : Except VahypBase.Fault (α × Toks), (takeSign 59 (ts.drop (k + 2))).map (fun m => (e, m)) = f → entryM ek.kd es (ts.drop k) = f := fun f hf => by
      unfold entryM
      rw [ht]
      show ((takeChunk (ts.drop (k + 1))).bind _ : Except VahypBase.Fault (α × Toks)) = _
      rw [htc]
      show (match ek.kd.made b with | none => Except.error _ | some e => _ : Except VahypBase.Fault (α × Toks)) = _
      rw [hm]
      show (if _ then _ else _) = _
      rw [if_neg (by rw [h]; exact Bool.false_ne_true)]
      exact hf
    refine ⟨_, rfl, r, dx, _, rfl, R3.at_, rfl, r, dx, t, ts, k + 1, rfl, R3, ?_⟩
    refine ⟨_, rfl, r, dx, _, rfl, R4.at_, rfl, r, dx, t, ts, k + 2, tk2, _, rfl, R4, hk2, fun hn2 => ?_, fun hn2 => ?_⟩
    · rw [semi, hs2] at hn2
      refine (qE ⟨3, tk2.place⟩ (htk _ ?_)).to (B3.trans .upd)
      unfold takeSign taken
      rw [hn2, hd2]
      rfl
    · rw [semi, hs2] at hn2
      have hne2 : tk2.tok ≠ .last := fun e => by
        unfold next at hn2
        rw [hd2] at hn2
        simp only [e] at hn2
        cases hn2
      obtain ⟨u, hu⟩ := G.more hk2 hne2
      have hr1 : ∀ b, (upd H r (.ins A.Reader dx (rF t (k + 1)))) b = none → b ≠ r ∧ H b = none := fun b hb => by
        have hbr : b ≠ r := fun e => by rw [e, upd_same] at hb; cases hb
        exact ⟨hbr, (upd_ne hbr).symm.trans hb⟩
      refine ⟨_, rfl, q e (htk _ ?_) (List.getElem?_eq_some_iff.mp hu).1 _ a ((B3.trans .upd).trans .upd) upd_same (hr1 a ha).2 (ek.mono hA fun b o hb => ?_)⟩
      · unfold takeSign taken
        rw [hn2, hd2]
        rfl
      · obtain ⟨h1, h2⟩ := fresh_some hb
        obtain ⟨h3, h4⟩ := hr1 b h1
        rw [fresh_at h4, upd_ne h3, upd_ne h3]
        exact e3 _ _ h2
end
end Pw
set_option Elab.async false
set_option linter.all false
set_option maxRecDepth 100000
set_option maxHeartbeats 2000000
/-! reading.py: all entries -/
namespace Pw
open PySem PySem.Spec PyProof.Rows L2
open VahypBase (inChunk isLetter isDigit PTok Toks next here taken takeChunk takeSign wrong word)
open Vahypa (Word Pat Lst wordOf patOf hyphened showPat takeMargin)
theorem ToksAt.mb {H H' : Hp} {r t C dx : Addr} {fs : List (Str × V)} {ts : Toks} (h : ToksAt H t ts) (hr : H r = some (.ins C dx fs)) (e : ExB r H H') : ToksAt H' t ts := by
  obtain ⟨as, h1, h2⟩ := h
  refine ⟨as, e _ _ (fun e => by rw [e, hr] at h1; cases h1) h1, h2.1, fun i a u ha hu => ?_⟩
  have := h2.2 i a u ha hu
  exact e _ _ (fun e => by rw [e, hr] at this; cases this) this
/-- one new list at l that grows -/
theorem fresh_step {H0 H' H2 H3 : Hp} {r l : Addr} {C dx : Addr} {fs gs : List (Str × V)} {xs ys : List V} (hr : H0 r = some (.ins C dx fs)) (hr' : H' r = some (.ins C dx gs)) (hl : H0 l = some (.lst xs)) (hl' : H' l = some (.lst ys))
    (h0 : ∀ b o, b ≠ r → b ≠ l → H0 b = some o → H' b = some o) (h1 : ExB r H' H2) (h2 : ∀ b, b ≠ l → H3 b = H2 b) : Ex (fresh H0 H') (fresh H0 H3) ∧ Ex (fresh H' H2) (fresh H0 H3) := by
  constructor
  · intro b o hb
    obtain ⟨a1, a2⟩ := fresh_some hb
    have hbr : b ≠ r := fun e => by rw [e, hr] at a1; cases a1
    have hbl : b ≠ l := fun e => by rw [e, hl] at a1; cases a1
    rw [fresh_at a1, h2 b hbl]
    exact h1 b o hbr a2
  · intro b o hb
    obtain ⟨a1, a2⟩ := fresh_some hb
    have hbr : b ≠ r := fun e => by rw [e, hr'] at a1; cases a1
    have hbl : b ≠ l := fun e => by rw [e, hl'] at a1; cases a1
    have a0 : H0 b = none := by
      cases e : H0 b with
      | none => rfl
      | some u => rw [h0 b u hbr hbl e] at a1; cases a1
    rw [fresh_at a0, h2 b hbl]
    exact a2
section
variable {P : Program} {w : World} {K : PySem.W.Frag} {mg : Str → Option Value} {base : Heap} {A : Adr}
def spEntries {α : Type} {fw fp : Addr} (ek : EK α K A fw fp) : Sp := fun vs H Q E => ∃ (r dx t : Addr) (ts : Toks) (k most : Nat), vs = [.ref r, .str (bS ek.kd.nm), .ref ek.fA, .int (most : Int)] ∧ most ≤ 100 ∧ RAt A H r dx t ts k ∧ Good ts ∧ k < ts.length ∧
  (∀ f, EM ek.kd most [] (ts.drop k) = .error f → FailsB r E A.Fault H f.code f.place) ∧
  (∀ es j, EM ek.kd most [] (ts.drop k) = .ok (es, ts.drop j) → k ≤ j → j < ts.length → es.length ≤ most → ∀ H' l as, ExB r H H' → H' r = some (.ins A.Reader dx (rF t j)) → H l = none → H' l = some (.lst (as.map V.ref)) → Each (ek.At (fresh H H')) as es → Q (.ref l) H')
theorem ok_read_entries {α : Type} {fw fp : Addr} {f : Addr} {fd : FuncData} (T : Txt K mg A) (ek : EK α K A fw fp) (a : At K mg "read_entries" s_read_entries ["reader", "name", "made_of", "most"] f fd)
    (m_signs : C8.Met P w K mg base 1 A.Reader "signs" (spSigns A) []) (m_here : C8.Met P w K mg base 1 A.Reader "here" (spHere A) [])
    (d_read_entry : CalX P w K mg base 5 "read_entry" (spEntry ek)) : CalX P w K mg base 6 "read_entries" (spEntries ek) := by
  refine a.calX (okX a.fn sc_read_entries (fun vs H Q E h => ?_) (fun cdv Ar outer s H vs Q E hr h => ⟨_, (pss_cons (ps_set (i := 4) sc_read_entries.nd rfl (Or.inl rfl) (pe_lst pa_nil))
  (pss_cons (ps_while (passes_of rfl) (pt_cmpR op_eq (C8.pe_mt0 m_signs hr (by decide) (pv 0)) (pv 1) (nomark _)) (pss_cons (ps_if (pt_cmpR op_eq (pe_callB call_len_seq rfl T.len (by decide +kernel) (pa_cons (pv 4) pa_nil)) (pv 3) (nomark _)) (pss_one (FltX.ps_raiseF rfl T.flt hr (takes_of rfl rfl rfl rfl) (by exact (pa_cons pe_int (pa_cons (C8.pe_mt0 m_here hr (by decide) (pv 0)) pa_nil))))) pss_nil)
    (pss_one (ps_expr (pe_bm PySem.F.plainAttrs_list PySem.F.slot_list_append PySem.F.type_list_append mt_append (pv 4) (pa_cons (pe_cX d_read_entry hr (by decide) rfl (outX (takes_of rfl rfl rfl rfl) rfl) (by exact (pa_cons (pv 0) (pa_cons (pv 1) (pa_cons (pv 2) (pa_cons (pv 4) pa_nil)))))) pa_nil))))))
  (pss_one (ps_ret (pv 4))))), ?_⟩) rfl rfl rfl)
  · obtain ⟨_, _, _, _, _, _, rfl, _⟩ := h
    rfl
  · obtain ⟨r, dx, t, ts, k, most, rfl, hmost, R, G, hlt, qE, q⟩ := h
    refine ⟨by show 0 ≤ sizeLine; decide, fun l hl => ?_⟩
    have hlr : l ≠ r := fun e => by rw [e, R.at_] at hl; cases hl
    dsimp only [gName]
    refine st_seq (while2 (fun m σ' H' => ∃ (j : Nat) (as : List Addr) (es : List α), σ' = [some (.ref r), some (.str (bS ek.kd.nm)), some (.ref ek.fA), some (.int (most : Int)), some (.ref l)] ∧ ExB r H H' ∧ H' r = some (.ins A.Reader dx (rF t j)) ∧ H' l = some (.lst (as.map V.ref)) ∧
      Each (ek.At (fresh (upd H l (.lst [])) H')) as es ∧ k ≤ j ∧ j < ts.length ∧ m = ts.length - j ∧ es.length ≤ most ∧ EM ek.kd most [] (ts.drop k) = EM ek.kd most es (ts.drop j)) _ ⟨k, [], [], rfl, .of (ex_new hl), ?_, upd_same, .nil, Nat.le_refl _, hlt, rfl, Nat.zero_le _, rfl⟩ ?_)
    · rw [upd_ne (Ne.symm hlr)]
      exact R.at_
    rintro m σ H' ⟨j, as, es, rfl, eB, hr', hL, hE, hkj, hj, rfl, hes, he⟩
    have hj0 := some_at hj
    have hdj := drop_at hj0
    have hv := G.tv hj0
    have R' : RAt A H' r dx t ts j := ⟨hr', R.toks.mb R.at_ eB⟩
    have hw := tok_word (r := ts.drop (j + 1)) hv ek.nm1 ek.nm2
    rw [← hdj] at hw
    have hsig : Val (tMeth A.Reader "signs" (spSigns A) [] C8.E0 (tVar 0) tNil) [some (.ref r), some (.str (bS ek.kd.nm)), some (.ref ek.fA), some (.int (most : Int)), some (.ref l)] H' (.str (tokS ts[j].tok)) := fun Q q => ⟨_, rfl, r, dx, _, rfl, R'.at_, rfl, r, dx, t, ts, j, _, rfl, R', hj0, q⟩
    refine ⟨_, a_t (v_eqS hsig (val_var rfl)), fun h => ?_, fun h => ?_⟩
    · rw [hw] at h
      have hlen := v_lenL (K := K) (σ := [some (.ref r), some (.str (bS ek.kd.nm)), some (.ref ek.fA), some (.int (most : Int)), some (.ref l)]) (ta := tVar 4) (val_var rfl) (SqL.of hL)
      rw [refs_len, hE.1] at hlen
      refine when2 (a_t (v_eqI hlen (val_var rfl))) (fun h2 => ?_) (fun h2 => ?_)
      · have h3 : most ≤ es.length := by have := of_decide_eq_true h2; omega
        refine ⟨_, rfl, r, dx, _, rfl, R'.at_, rfl, r, dx, t, ts, j, _, rfl, R', hj0, _, _, rfl, fun d hd => ?_⟩
        refine ((qE ⟨4, ts[j].place⟩ ?_).to eB).go (Evl.Ex.refl _) d hd
        rw [he, EM_many h h3, hdj]
        rfl
      · have h3 : ¬ most ≤ es.length := by have := of_decide_eq_false h2; omega
        have hKE : Each (fun a e => KeyAt K H' a (ek.kd.key e) ∧ a ≠ r) as es := hE.imp fun a x h => ⟨(ek.key h).mono (fresh_ex _ H'), fun e => by
          obtain ⟨C, dxa, fs, kv, ha, _⟩ := ek.key h
          have := (fresh_some ha).1
          rw [e, upd_ne (Ne.symm hlr), R.at_] at this
          cases this⟩
        refine ⟨_, rfl, .inl ⟨rfl, _, SqL.of hL⟩, _, rfl, _, rfl, _, rfl, _, rfl, r, dx, t, l, ts, j, as, es, rfl, R', G, hj, hL, hKE, fun f hf => ?_, fun e hM hj3 H2 a e2 hr2 ha hA => ?_⟩
        · refine (qE f ?_).mono eB
          rw [he, EM_bad h h3 hf]
        · have hl2 : H2 l = some (.lst (as.map V.ref)) := e2 _ _ hlr hL
          refine ⟨l, _, _, rfl, rfl, hl2, Evl.sz_lt (by rw [refs_len, hE.1]; omega), ?_⟩
          have hst := fresh_step (H3 := upd H2 l (.lst (as.map V.ref ++ [.ref a]))) (show (upd H l (.lst [])) r = _ from (upd_ne (Ne.symm hlr)).trans R.at_) hr' upd_same hL
            (fun b o hbr hbl hb => eB b o hbr ((upd_ne hbl).symm.trans hb)) e2 (fun b hb => upd_ne hb)
          refine ⟨ts.length - (j + 3), by omega, j + 3, as ++ [a], es ++ [e], rfl, ?_, ?_, ?_, (hE.imp fun a x h => ek.mono h hst.1).snoc (ek.mono hA hst.2), by omega, hj3, rfl, ?_, ?_⟩
          · exact fun b o hb h => (upd_ne (fun e => by rw [e, hl] at h; cases h)).trans ((eB.trans e2) b o hb h)
          · rw [upd_ne (Ne.symm hlr)]
            exact hr2
          · rw [upd_same, List.map_append]
            rfl
          · rw [List.length_append]
            show es.length + 1 ≤ most
            omega
          · rw [he]
            have hd3 : (ts.drop j).drop 3 = ts.drop (j + 3) := List.drop_drop ..
            have := EM_step (most := most) h3 (hM.trans (by rw [hd3]))
            rw [this, hd3]
    · rw [hw] at h
      refine ⟨_, rfl, q es j (he.trans (EM_end (by rw [h]; exact Bool.false_ne_true))) hkj hj hes H' l as eB hr' hl hL (hE.imp fun a x h => ek.mono h fun b o hb => ?_)⟩
      obtain ⟨h1, h2⟩ := fresh_some hb
      have hbl : b ≠ l := fun e => by rw [e, upd_same] at h1; cases h1
      rw [fresh_at ((upd_ne hbl).symm.trans h1)]
      exact h2
end
end Pw
set_option Elab.async false
set_option linter.all false
set_option maxRecDepth 100000
set_option maxHeartbeats 2000000
/-! reading.py: lists and items -/
namespace Pw
open PySem PySem.Spec PyProof.Rows L2
open VahypBase (inChunk isLetter isDigit PTok Toks next here taken takeChunk takeSign wrong word)
open Vahypa (Word Pat Lst wordOf patOf hyphened showPat takeMargin)
theorem EM_all {α : Type} {kd : Kd α} {most : Nat} {l : Toks} {y : List α × Toks} (h : EM kd most [] l = .ok y) : ∀ e ∈ y.1, ∃ b, kd.made b = some e := by
  have go : ∀ (n : Nat) (es : List α) (l : Toks) (y : List α × Toks), entriesM kd most n es l = .ok y → (∀ e ∈ es, ∃ b, kd.made b = some e) → ∀ e ∈ y.1, ∃ b, kd.made b = some e := fun n => by
    induction n with
    | zero => intro es l y h; cases h
    | succ n ih =>
      intro es l y h he
      unfold entriesM at h
      split at h
      · split at h
        · cases h
        · cases hM : entryM kd es l with
          | error f => rw [hM] at h; cases h
          | ok z =>
            rw [hM] at h
            refine ih _ _ _ h fun e hm => ?_
            rcases List.mem_append.mp hm with hm | hm
            · exact he e hm
            · rw [List.mem_singleton.mp hm]
              exact (entry_three hM).2.2.1
      · cases h
        exact he
  exact go _ _ _ _ h fun e hm => by cases hm
theorem taken_t {c : VahypBase.Tok} {ts : Toks} {k : Nat} {tk : PTok} (hk : ts[k]? = some tk) (h : next c (ts.drop k) = true) : taken c (ts.drop k) = .ok (ts.drop (k + 1)) := by
  unfold taken
  rw [if_pos h, drop_at hk]
  rfl
theorem taken_f {c : VahypBase.Tok} {ts : Toks} {k : Nat} {tk : PTok} (hk : ts[k]? = some tk) (h : next c (ts.drop k) = false) : taken c (ts.drop k) = .error ⟨3, tk.place⟩ := by
  unfold taken
  rw [if_neg (by rw [h]; exact Bool.false_ne_true), drop_at hk]
  rfl
theorem wrong_at {α : Type} {ts : Toks} {k : Nat} {tk : PTok} (hk : ts[k]? = some tk) : (wrong (ts.drop k) : Except VahypBase.Fault α) = .error ⟨3, tk.place⟩ := by
  rw [drop_at hk]
  rfl
theorem not_last {c : VahypBase.Tok} {ts : Toks} {k : Nat} {tk : PTok} (hc : c ≠ .last) (hk : ts[k]? = some tk) (h : next c (ts.drop k) = true) : tk.tok ≠ .last := fun e => by
  rw [drop_at hk] at h
  have h2 : VahypBase.tokEq tk.tok c = true := h
  rw [e] at h2
  cases c with
  | chunk b => cases h2
  | sign b => cases h2
  | last => exact hc rfl
theorem fresh_in {H Hn Hn' Hf : Hp} {x : Addr} {o : HO} (e : Ex H Hn) (hx : Hn x = some o) (e2 : ExB x Hn' Hf) : Ex (fresh Hn Hn') (fresh H Hf) := fun b u hb => by
  obtain ⟨h1, h2⟩ := fresh_some hb
  have hbx : b ≠ x := fun z => by rw [z, hx] at h1; cases h1
  rw [fresh_at (Evl.fresh_back e h1)]
  exact e2 b u hbx h2
section
variable {P : Program} {w : World} {K : PySem.W.Frag} {mg : Str → Option Value} {base : Heap} {A : Adr}
theorem take_ok {H : Hp} {Q : VK} {E : XK} {r dx t : Addr} {ts : Toks} {k : Nat} {tk : PTok} {z : Str} {c : VahypBase.Tok} (R : RAt A H r dx t ts k) (hk : ts[k]? = some tk) (hz : decide (tokS tk.tok = z) = next c (tk :: ts.drop (k + 1)))
    (hE : taken c (ts.drop k) = .error ⟨3, tk.place⟩ → next c (ts.drop k) = false → Fails E A.Fault H 3 tk.place)
    (hQ : taken c (ts.drop k) = .ok (ts.drop (k + 1)) → next c (ts.drop k) = true → Q .non (upd H r (.ins A.Reader dx (rF t (k + 1))))) : spTake A [.ref r, .str z] H Q E := by
  rw [← drop_at hk] at hz
  exact ⟨r, dx, t, ts, k, tk, z, rfl, R, hk, fun h => hE (taken_f hk (hz.symm.trans h)) (hz.symm.trans h), fun h => hQ (taken_t hk (hz.symm.trans h)) (hz.symm.trans h)⟩
theorem tk_go {σ : L2.St} {H : Hp} {Q : VK} {E : XK} {x : Addr} {z : Str} (h : spTake A [.ref x, .str z] H Q E) : tCons (tC (.str z)) tNil σ H (fun vs H2 => spTake A (.ref x :: (vs ++ [])) H2 Q E) := h
def spReadList (A : Adr) (K : PySem.W.Frag) : Sp := fun vs H Q E => ∃ (a : Addr) (bs : Bytes), vs = [.ref a] ∧ SqL K H a (bI bs) ∧ bs.length ≤ 8192 ∧ (∀ f, Vahypa.read bs = .error f → Fails E A.Fault H f.code f.place) ∧
  (∀ s, Vahypa.read bs = .ok s → LOk s → ∀ H' p, Ex H H' → H p = none → ListAt A (fresh H H') p s → Q (.ref p) H')
theorem ok_read_list {fw fp : Addr} {f : Addr} {fd : FuncData} (T : Txt K mg A) (a : At K mg "read_list" s_read_list ["text"] f fd)
    (v_word_of : ∃ u, mg "word_of" = some u ∧ RelV (.ref fw) u) (v_pattern_of : ∃ u, mg "pattern_of" = some u ∧ RelV (.ref fp) u) (mk_Reader : MakX P w K mg base 6 "Reader" A.Reader (spReaderI A K))
    (m_take : MetX P w K mg base 3 A.Reader "take" (spTake A)) (d_read_margin : CalX P w K mg base 5 "read_margin" (spMargin A)) (d_read_entries : CalX P w K mg base 6 "read_entries" (spEntries (wEK T fw fp)))
    (d_read_entriesP : CalX P w K mg base 6 "read_entries" (spEntries (pEK T fw fp))) (mk_Listing : C8.Mak P w K mg base 1 "Listing" A.Listing (spListI A) []) : CalX P w K mg base 8 "read_list" (spReadList A K) := by
  refine a.calX (okX a.fn sc_read_list (fun vs H Q E h => ?_) (fun cdv Ar outer s H vs Q E hr h => ⟨_, (pss_cons (ps_set (i := 1) sc_read_list.nd rfl (Or.inl rfl) (pe_makeX mk_Reader hr (by decide) rfl (outX (takes_of rfl rfl rfl rfl) rfl) (pa_cons (pv 0) pa_nil)))
  (pss_cons (ps_expr (pe_mtX m_take hr (by decide) (outX (takes_of rfl rfl rfl rfl) rfl) (pv 1) (pa_cons pe_str pa_nil)))
  (pss_cons (ps_set (i := 2) sc_read_list.nd rfl (Or.inl rfl) (pe_cX d_read_margin hr (by decide) rfl (outX (takes_of rfl rfl rfl rfl) rfl) (by exact (pa_cons (pv 1) pa_nil))))
  (pss_cons (ps_set (i := 3) sc_read_list.nd rfl (Or.inl rfl) (pe_cX d_read_margin hr (by decide) rfl (outX (takes_of rfl rfl rfl rfl) rfl) (by exact (pa_cons (pv 1) pa_nil))))
  (pss_cons (ps_expr (pe_mtX m_take hr (by decide) (outX (takes_of rfl rfl rfl rfl) rfl) (pv 1) (pa_cons pe_str pa_nil)))
  (pss_cons (ps_set (i := 4) sc_read_list.nd rfl (Or.inl rfl) (pe_cX d_read_entries hr (by decide) rfl (outX (takes_of rfl rfl rfl rfl) rfl) (by exact (pa_cons (pv 1) (pa_cons pe_str (pa_cons (C8.pe_gc rfl v_word_of) (pa_cons (C8.pe_gc rfl T.c_MOST_WORDS) pa_nil)))))))
  (pss_cons (ps_set (i := 5) sc_read_list.nd rfl (Or.inl rfl) (pe_cX d_read_entriesP hr (by decide) rfl (outX (takes_of rfl rfl rfl rfl) rfl) (by exact (pa_cons (pv 1) (pa_cons pe_str (pa_cons (C8.pe_gc rfl v_pattern_of) (pa_cons (C8.pe_gc rfl T.c_MOST_PATTERNS) pa_nil)))))))
  (pss_cons (ps_expr (pe_mtX m_take hr (by decide) (outX (takes_of rfl rfl rfl rfl) rfl) (pv 1) (pa_cons pe_str pa_nil)))
  (pss_one (ps_ret (C8.pe_mk mk_Listing hr (by decide) rfl (pa_cons (pv 2) (pa_cons (pv 3) (pa_cons (pv 4) (pa_cons (pv 5) pa_nil))))))))))))))), ?_⟩) rfl rfl rfl)
  · obtain ⟨_, _, rfl, _⟩ := h
    rfl
  · obtain ⟨ta, bs, rfl, hS, hz, qE, q⟩ := h
    have hread := read_eq bs
    have w1 : Str.ofString "margins" = bS (word "margins") := by decide +kernel
    have w2 : Str.ofString "word" = bS (word "word") := by decide +kernel
    have w3 : Str.ofString "pattern" = bS (word "pattern") := by decide +kernel
    refine ⟨_, rfl, fun x dx hx hdx hne => ?_⟩
    have hx1 : (upd H dx (.own x)) x = none := (upd_ne (Ne.symm hne)).trans hx
    have e0 : Ex H (upd (upd H dx (.own x)) x (.ins A.Reader dx [])) := (ex_new hdx).trans (ex_new hx1)
    refine ⟨x, dx, ta, bs, rfl, upd_same, Evl.ex_l e0 hS, hz, fun f hf => (qE f ?_).mono e0, fun ts hts H1 t e1 ht hT => ⟨rfl, ?_⟩⟩
    · rw [hread, hf]
      rfl
    have h1 : Vahypa.read bs = (taken (.chunk (word "margins")) (ts.drop 0)).bind fun l => (takeMargin l).bind fun a => (takeMargin a.2).bind fun z => (takeSign 59 z.2).bind fun l => (EM wKd 24 [] l).bind fun ws => (EM pKd 40 [] ws.2).bind fun ps => if next .last ps.2 = true then .ok ⟨a.1, z.1, ws.1, ps.1⟩ else wrong ps.2 := by
      rw [hread, hts]
      rfl
    clear hread
    have G := tokens_good hts
    have h0 : 0 < ts.length := by
      obtain ⟨pre, e, rfl, _⟩ := G
      rw [List.length_append]
      show 0 < pre.length + 1
      omega
    have hk0 := some_at h0
    have R0 : RAt A (upd H1 x (.ins A.Reader dx (rF t 0))) x dx t ts 0 := ⟨upd_same, hT.upd_ins (e1 _ _ upd_same)⟩
    have b0 : ExB x H (upd H1 x (.ins A.Reader dx (rF t 0))) := (ExB.of (e0.trans e1)).trans .upd
    have bx : ∀ {H' : Hp}, ExB x H H' → Ex H H' := fun b => b.ex (Evl.Ex.refl _) hx
    -- margins
    refine ⟨_, rfl, x, dx, _, rfl, R0.at_, rfl, ?_⟩
    refine tk_go (take_ok (c := .chunk (word "margins")) R0 hk0 (by rw [w1]; exact tok_word (G.tv hk0) (by decide +kernel) (by decide +kernel)) (fun ht _ => ?_) (fun ht hn => ?_))
    · refine (qE ⟨3, ts[0].place⟩ ?_).mono (bx b0)
      rw [h1, ht]
      rfl
    have h2 : Vahypa.read bs = (takeMargin (ts.drop 1)).bind fun a => (takeMargin a.2).bind fun z => (takeSign 59 z.2).bind fun l => (EM wKd 24 [] l).bind fun ws => (EM pKd 40 [] ws.2).bind fun ps => if next .last ps.2 = true then .ok ⟨a.1, z.1, ws.1, ps.1⟩ else wrong ps.2 := by
      rw [h1, ht]
      rfl
    clear h1
    obtain ⟨tk1, hk1⟩ := G.more hk0 (not_last (by simp) hk0 hn)
    have R1 : RAt A _ x dx t ts 1 := R0.go (j := 1)
    have b1 := b0.trans (ExB.upd (o := .ins A.Reader dx (rF t 1)))
    refine ⟨_, rfl, x, dx, t, ts, 1, rfl, R1, G, (List.getElem?_eq_some_iff.mp hk1).1, fun f hf => ?_, fun l hl hl5 hlt2 => ?_⟩
    · refine (qE f ?_).mono (bx b1)
      rw [h2, hf]
      rfl
    have h3 : Vahypa.read bs = (takeMargin (ts.drop 2)).bind fun z => (takeSign 59 z.2).bind fun m => (EM wKd 24 [] m).bind fun ws => (EM pKd 40 [] ws.2).bind fun ps => if next .last ps.2 = true then .ok ⟨l, z.1, ws.1, ps.1⟩ else wrong ps.2 := by
      rw [h2, hl]
      rfl
    clear h2
    have R2 : RAt A _ x dx t ts 2 := R1.go (j := 2)
    have b2' := b1.trans (ExB.upd (o := .ins A.Reader dx (rF t 2)))
    refine ⟨_, rfl, x, dx, t, ts, 2, rfl, R2, G, hlt2, fun f hf => ?_, fun m hm hm5 hlt3 => ?_⟩
    · refine (qE f ?_).mono (bx b2')
      rw [h3, hf]
      rfl
    have h4 : Vahypa.read bs = (takeSign 59 (ts.drop 3)).bind fun z => (EM wKd 24 [] z).bind fun ws => (EM pKd 40 [] ws.2).bind fun ps => if next .last ps.2 = true then .ok ⟨l, m, ws.1, ps.1⟩ else wrong ps.2 := by
      rw [h3, hm]
      rfl
    clear h3
    have R3 : RAt A _ x dx t ts 3 := R2.go (j := 3)
    have b3 := b2'.trans (ExB.upd (o := .ins A.Reader dx (rF t 3)))
    have hk3 := some_at hlt3
    refine ⟨_, rfl, x, dx, _, rfl, R3.at_, rfl, ?_⟩
    refine tk_go (take_ok (c := .sign 59) R3 hk3 (by rw [semi]; exact tok_semi (G.tv hk3)) (fun ht _ => ?_) (fun ht hn => ?_))
    · refine (qE ⟨3, ts[3].place⟩ ?_).mono (bx b3)
      rw [h4]
      unfold takeSign
      rw [ht]
      rfl
    have h5 : Vahypa.read bs = (EM wKd 24 [] (ts.drop 4)).bind fun ws => (EM pKd 40 [] ws.2).bind fun ps => if next .last ps.2 = true then .ok ⟨l, m, ws.1, ps.1⟩ else wrong ps.2 := by
      rw [h4]
      unfold takeSign
      rw [ht]
      rfl
    clear h4
    obtain ⟨tk4, hk4⟩ := G.more hk3 (not_last (by simp) hk3 hn)
    have R4 : RAt A _ x dx t ts 4 := R3.go (j := 4)
    have b4 := b3.trans (ExB.upd (o := .ins A.Reader dx (rF t 4)))
    refine ⟨_, rfl, x, dx, t, ts, 4, 24, by rw [w2]; rfl, by decide, R4, G, (List.getElem?_eq_some_iff.mp hk4).1, fun f hf H' d e' hd => ?_, fun ws j hws h4j hj hw24 H5 lw was b5 hr5 hlw5 hlw hWs => ?_⟩
    · refine (qE f ?_) H' d (bx (b4.trans e')) hd
      rw [h5, show EM wKd 24 [] (ts.drop 4) = _ from hf]
      rfl
    have h6 : Vahypa.read bs = (EM pKd 40 [] (ts.drop j)).bind fun ps => if next .last ps.2 = true then .ok ⟨l, m, ws, ps.1⟩ else wrong ps.2 := by
      rw [h5, show EM wKd 24 [] (ts.drop 4) = _ from hws]
      rfl
    have R5 : RAt A H5 x dx t ts j := ⟨hr5, R4.toks.mb R4.at_ b5⟩
    have b5' := b4.trans b5
    refine ⟨_, rfl, x, dx, t, ts, j, 40, by rw [w3]; rfl, by decide, R5, G, hj, fun f hf H' d e' hd => ?_, fun ps i hps hji hi hp40 H6 lp pas b6 hr6 hlp6 hlp hPs => ?_⟩
    · refine (qE f ?_) H' d (bx (b5'.trans e')) hd
      rw [h6, show EM pKd 40 [] (ts.drop j) = _ from hf]
      rfl
    have h7 : Vahypa.read bs = if next .last (ts.drop i) = true then .ok ⟨l, m, ws, ps⟩ else wrong (ts.drop i) := by
      rw [h6, show EM pKd 40 [] (ts.drop j) = _ from hps]
      rfl
    have R6 : RAt A H6 x dx t ts i := ⟨hr6, R5.toks.mb R5.at_ b6⟩
    have b6' := b5'.trans b6
    have hki := some_at hi
    refine ⟨_, rfl, x, dx, _, rfl, R6.at_, rfl, ?_⟩
    refine tk_go (take_ok (c := .last) R6 hki (by rw [emp]; exact tok_last (G.tv hki)) (fun ht hn => ?_) (fun ht hn => ?_))
    · refine (qE ⟨3, ts[i].place⟩ ?_).mono (bx b6')
      rw [h7, if_neg (by rw [hn]; exact Bool.false_ne_true), wrong_at hki]
    rw [if_pos hn] at h7
    have b7 := b6'.trans (ExB.upd (o := .ins A.Reader dx (rF t (i + 1))))
    refine ⟨_, rfl, _, rfl, _, rfl, _, rfl, fun o dy ho hdy hno => ?_⟩
    have ho1 : (upd (upd H6 x (.ins A.Reader dx (rF t (i + 1)))) dy (.own o)) o = none := (upd_ne (Ne.symm hno)).trans ho
    refine ⟨o, dy, _, _, _, _, rfl, upd_same, rfl, ?_⟩
    have e9 : Ex (upd H6 x (.ins A.Reader dx (rF t (i + 1)))) (upd (upd (upd (upd H6 x (.ins A.Reader dx (rF t (i + 1)))) dy (.own o)) o (.ins A.Listing dy [])) o (.ins A.Listing dy (lF (.int (l : Int)) (.int (m : Int)) (.ref lw) (.ref lp)))) := fun c u h => by
      rw [upd_ne (ne_of_none h ho), upd_ne (ne_of_none h ho), upd_ne (ne_of_none h hdy)]
      exact h
    have b69 := (ExB.upd (r := x) (H := H6) (o := .ins A.Reader dx (rF t (i + 1)))).trans (.of e9)
    have hlwx : lw ≠ x := fun e => by rw [e, R4.at_] at hlw5; cases hlw5
    have hlpx : lp ≠ x := fun e => by rw [e, R5.at_] at hlp6; cases hlp6
    refine q ⟨l, m, ws, ps⟩ h7 ⟨hl5, hm5, hw24, hp40, fun w hw => ?_, fun p hp => ?_⟩ _ o ((bx b7).trans e9) (Evl.fresh_back (bx b7) ho) ⟨dy, lw, lp, was, pas, ?_, ?_, ?_, hWs.imp fun a w h => ?_, hPs.imp fun a p h => ?_⟩
    · obtain ⟨b, hb⟩ := EM_all hws w hw
      exact wordOf_ok hb
    · obtain ⟨b, hb⟩ := EM_all hps p hp
      exact (patOf_told hb).1
    · rw [fresh_at (Evl.fresh_back (bx b7) ho), upd_same]
    · rw [fresh_at (Evl.fresh_back (bx b4) hlw5)]
      exact b69 _ _ hlwx (b6 _ _ hlwx hlw)
    · rw [fresh_at (Evl.fresh_back (bx b5') hlp6)]
      exact b69 _ _ hlpx hlp
    · exact WordAt.mono h (fresh_in (bx b4) R4.at_ (b6.trans b69))
    · exact PatAt.mono h (fresh_in (bx b5') R5.at_ b69)
end
end Pw
set_option Elab.async false
set_option linter.all false
set_option maxRecDepth 100000
set_option maxHeartbeats 2000000
/-! reading.py: items -/
namespace Pw
open PySem PySem.Spec PyProof.Rows L2
open VahypBase (inChunk isLetter isDigit PTok Toks next here taken takeChunk takeSign wrong word)
open Vahypa (Word Pat Lst wordOf patOf hyphened showPat takeMargin)
/-- one entry and the end -/
def oneM {α : Type} (kd : Kd α) (l : Toks) : Option α := match entryM kd [] l with
  | .error _ => none
  | .ok y => if next .last y.2 = true then some y.1 else none
theorem next_one {l : Toks} {b : VahypBase.Bytes} (h : next (.chunk b) l = true) : next .last l = false := by
  unfold next at h ⊢
  cases l with
  | nil => cases h
  | cons t r =>
    simp only at h ⊢
    cases ht : t.tok with
    | chunk b => rfl
    | sign c => rfl
    | last => rw [ht] at h; cases h
theorem entries2 {α : Type} (kd : Kd α) (most : Nat) (hm : 2 ≤ most) (l : Toks) : (∃ f, entriesM kd most 2 [] l = .error f ∧ (next (.chunk kd.nm) l = true) ∧ oneM kd l = none) ∨ (next (.chunk kd.nm) l = false ∧ entriesM kd most 2 [] l = .ok ([], l)) ∨
    ∃ y, next (.chunk kd.nm) l = true ∧ entryM kd [] l = .ok y ∧ entriesM kd most 2 [] l = .ok ([y.1], y.2) := by
  unfold entriesM
  by_cases h : next (.chunk kd.nm) l = true
  · rw [if_pos h, if_neg (show ¬ most ≤ ([] : List α).length from by show ¬ most ≤ 0; omega)]
    cases hM : entryM kd [] l with
    | error f =>
      refine .inl ⟨f, rfl, h, ?_⟩
      unfold oneM
      rw [hM]
    | ok y =>
      show (∃ f, entriesM kd most 1 [y.1] y.2 = .error f ∧ next (.chunk kd.nm) l = true ∧ oneM kd l = none) ∨ (next (.chunk kd.nm) l = false ∧ entriesM kd most 1 [y.1] y.2 = .ok ([], l)) ∨ ∃ z : α × Toks, next (.chunk kd.nm) l = true ∧ Except.ok y = (Except.ok z : Except VahypBase.Fault (α × Toks)) ∧ entriesM kd most 1 [y.1] y.2 = .ok ([z.1], z.2)
      unfold entriesM
      by_cases h2 : next (.chunk kd.nm) y.2 = true
      · rw [if_pos h2, if_neg (show ¬ most ≤ [y.1].length from by show ¬ most ≤ 1; omega)]
        have ho : oneM kd l = none := by
          unfold oneM
          rw [hM]
          show (if next .last y.2 = true then some y.1 else none) = none
          rw [next_one h2]
          rfl
        cases hM2 : entryM kd [y.1] y.2 with
        | error f => exact .inl ⟨f, rfl, h, ho⟩
        | ok z => exact .inl ⟨_, rfl, h, ho⟩
      · rw [if_neg h2]
        exact .inr (.inr ⟨y, h, rfl, rfl⟩)
  · rw [if_neg h]
    exact .inr (.inl ⟨by simpa using h, rfl⟩)
theorem one_not {α : Type} {kd : Kd α} {l : Toks} (h : next (.chunk kd.nm) l = false) : oneM kd l = none := by
  unfold oneM entryM taken
  rw [if_neg (by rw [h]; exact Bool.false_ne_true)]
  rfl
theorem readItem_eq (b : VahypBase.Bytes) : Vahypz.readItem b = match VahypBase.tokens b with
    | .error _ => none
    | .ok l => if next (.chunk (word "word")) l = true then (oneM wKd l).map Vahypz.Item.word else (oneM pKd l).map Vahypz.Item.pat := by
  unfold Vahypz.readItem
  cases VahypBase.tokens b with
  | error f => rfl
  | ok l =>
    show (if next (.chunk (word "word")) l = true then _ else _) = if next (.chunk (word "word")) l = true then _ else _
    by_cases h : next (.chunk (word "word")) l = true
    · rw [if_pos h, if_pos h, takeWords_eq]
      rcases entries2 wKd 24 (by decide) l with ⟨f, h1, _, h3⟩ | ⟨h1, _⟩ | ⟨y, _, h1, h2⟩
      · rw [h1, h3]
        rfl
      · rw [show next (.chunk wKd.nm) l = true from h] at h1
        cases h1
      · rw [h2]
        unfold oneM
        rw [h1]
        show (if next .last y.2 = true then some (Vahypz.Item.word y.1) else none) = Option.map _ (if next .last y.2 = true then some y.1 else none)
        split <;> rfl
    · rw [if_neg h, if_neg h, takePats_eq]
      rcases entries2 pKd 40 (by decide) l with ⟨f, h1, _, h3⟩ | ⟨h1, h2⟩ | ⟨y, _, h1, h2⟩
      · rw [h1, h3]
        rfl
      · rw [h2, one_not h1]
        show (match (if next .last l = true then Except.ok [] else wrong l : Except VahypBase.Fault (List Pat)) with | .ok [p] => some (Vahypz.Item.pat p) | _ => none) = none
        split
        · rename_i p hp
          split at hp
          · injection hp with hp
            cases hp
          · cases hp
        · rfl
      · rw [h2]
        unfold oneM
        rw [h1]
        show (match (if next .last y.2 = true then Except.ok [y.1] else wrong y.2 : Except VahypBase.Fault (List Pat)) with | .ok [p] => some (Vahypz.Item.pat p) | _ => none) = Option.map _ (if next .last y.2 = true then some y.1 else none)
        by_cases h5 : next .last y.2 = true
        · rw [if_pos h5, if_pos h5]
          rfl
        · rw [if_neg h5, if_neg h5]
          rfl
section
variable {P : Program} {w : World} {K : PySem.W.Frag} {mg : Str → Option Value} {base : Heap} {A : Adr}
/-- a Fault of whatever code and place -/
def FailsAny (E : XK) (CF : Addr) (H : Hp) : Prop := ∀ c p, Fails E CF H c p
def spReadItem (A : Adr) (K : PySem.W.Frag) : Sp := fun vs H Q E => ∃ (a : Addr) (bs : Bytes), vs = [.ref a] ∧ SqL K H a (bI bs) ∧ bs.length ≤ 8192 ∧ (Vahypz.readItem bs = none → FailsAny E A.Fault H) ∧
  (∀ v, Vahypz.readItem bs = some (.word v) → WOk v → ∀ H' p, Ex H H' → H p = none → WordAt A (fresh H H') p v → Q (.ref p) H') ∧
  (∀ v, Vahypz.readItem bs = some (.pat v) → POk v → ∀ H' p, Ex H H' → H p = none → PatAt A (fresh H H') p v → Q (.ref p) H')
theorem one_some {α : Type} {kd : Kd α} {l m : Toks} {e : α} (h : entryM kd [] l = .ok (e, m)) : oneM kd l = if next .last m = true then some e else none := by
  unfold oneM
  rw [h]
theorem one_err {α : Type} {kd : Kd α} {l : Toks} {f : VahypBase.Fault} (h : entryM kd [] l = .error f) : oneM kd l = none := by
  unfold oneM
  rw [h]
theorem ok_read_item {fw fp : Addr} {f : Addr} {fd : FuncData} (T : Txt K mg A) (a : At K mg "read_item" s_read_item ["text"] f fd)
    (v_word_of : ∃ u, mg "word_of" = some u ∧ RelV (.ref fw) u) (v_pattern_of : ∃ u, mg "pattern_of" = some u ∧ RelV (.ref fp) u) (mk_Reader : MakX P w K mg base 6 "Reader" A.Reader (spReaderI A K))
    (m_take : MetX P w K mg base 3 A.Reader "take" (spTake A)) (m_signs : C8.Met P w K mg base 1 A.Reader "signs" (spSigns A) []) (d_read_entry : CalX P w K mg base 5 "read_entry" (spEntry (wEK T fw fp)))
    (d_read_entryP : CalX P w K mg base 5 "read_entry" (spEntry (pEK T fw fp))) : CalX P w K mg base 8 "read_item" (spReadItem A K) := by
  refine a.calX (okX a.fn sc_read_item (fun vs H Q E h => ?_) (fun cdv Ar outer s H vs Q E hr h => ⟨_, (pss_cons (ps_set (i := 1) sc_read_item.nd rfl (Or.inl rfl) (pe_makeX mk_Reader hr (by decide) rfl (outX (takes_of rfl rfl rfl rfl) rfl) (pa_cons (pv 0) pa_nil)))
  (pss_cons (ps_if (pt_cmpR op_eq (C8.pe_mt0 m_signs hr (by decide) (pv 1)) pe_str (nomark _)) (pss_one (ps_set (i := 2) sc_read_item.nd rfl (Or.inl rfl) (pe_cX d_read_entry hr (by decide) rfl (outX (takes_of rfl rfl rfl rfl) rfl) (by exact (pa_cons (pv 1) (pa_cons pe_str (pa_cons (C8.pe_gc rfl v_word_of) (pa_cons (pe_lst pa_nil) pa_nil)))))))) (pss_one (ps_set (i := 2) sc_read_item.nd rfl (Or.inl rfl) (pe_cX d_read_entryP hr (by decide) rfl (outX (takes_of rfl rfl rfl rfl) rfl) (by exact (pa_cons (pv 1) (pa_cons pe_str (pa_cons (C8.pe_gc rfl v_pattern_of) (pa_cons (pe_lst pa_nil) pa_nil)))))))))
  (pss_cons (ps_expr (pe_mtX m_take hr (by decide) (outX (takes_of rfl rfl rfl rfl) rfl) (pv 1) (pa_cons pe_str pa_nil)))
  (pss_one (ps_ret (pv 2)))))), ?_⟩) rfl rfl rfl)
  · obtain ⟨_, _, rfl, _⟩ := h
    rfl
  · obtain ⟨ta, bs, rfl, hS, hz, qE, qW, qP⟩ := h
    have hread := readItem_eq bs
    have w2 : Str.ofString "word" = bS (word "word") := by decide +kernel
    have w3 : Str.ofString "pattern" = bS (word "pattern") := by decide +kernel
    refine ⟨_, rfl, fun x dx hx hdx hne => ?_⟩
    have hx1 : (upd H dx (.own x)) x = none := (upd_ne (Ne.symm hne)).trans hx
    have e0 : Ex H (upd (upd H dx (.own x)) x (.ins A.Reader dx [])) := (ex_new hdx).trans (ex_new hx1)
    refine ⟨x, dx, ta, bs, rfl, upd_same, Evl.ex_l e0 hS, hz, fun f hf => (qE ?_ f.code f.place).mono e0, fun ts hts H1 t e1 ht hT => ⟨rfl, ?_⟩⟩
    · rw [hread, hf]
    have h1 : Vahypz.readItem bs = if next (.chunk (word "word")) (ts.drop 0) = true then (oneM wKd (ts.drop 0)).map Vahypz.Item.word else (oneM pKd (ts.drop 0)).map Vahypz.Item.pat := by
      rw [hread, hts]
      rfl
    clear hread
    have G := tokens_good hts
    have h0 : 0 < ts.length := by
      obtain ⟨pre, e, rfl, _⟩ := G
      rw [List.length_append]
      show 0 < pre.length + 1
      omega
    have hk0 := some_at h0
    have R0 : RAt A (upd H1 x (.ins A.Reader dx (rF t 0))) x dx t ts 0 := ⟨upd_same, hT.upd_ins (e1 _ _ upd_same)⟩
    have b0 : ExB x H (upd H1 x (.ins A.Reader dx (rF t 0))) := (ExB.of (e0.trans e1)).trans .upd
    have bx : ∀ {H' : Hp}, ExB x H H' → Ex H H' := fun b => b.ex (Evl.Ex.refl _) hx
    have hw := tok_word (r := ts.drop 1) (nm := word "word") (G.tv hk0) (by decide +kernel) (by decide +kernel)
    rw [← drop_at hk0, ← w2] at hw
    have hsig : Val (tMeth A.Reader "signs" (spSigns A) [] C8.E0 (tVar 1) tNil) [some (.ref ta), some (.ref x), none] (upd H1 x (.ins A.Reader dx (rF t 0))) (.str (tokS ts[0].tok)) := fun Q q => ⟨_, rfl, x, dx, _, rfl, R0.at_, rfl, x, dx, t, ts, 0, _, rfl, R0, hk0, q⟩
    refine st_seq (if2 (a_t (v_eqS hsig val_c)) (fun h => ?_) (fun h => ?_))
    · rw [hw] at h
      rw [if_pos h] at h1
      refine ⟨_, rfl, by show 0 ≤ sizeLine; decide, fun le hle => ?_⟩
      have hlx : le ≠ x := fun e => by rw [e, upd_same] at hle; cases hle
      have b1 := b0.trans (.of (ex_new (o := .lst []) hle))
      have R1 := R0.ext (ex_new (o := .lst []) hle)
      refine ⟨x, dx, t, le, ts, 0, [], [], by rw [w2]; rfl, R1, G, h0, upd_same, .nil, fun f hf H' d e' hd => ?_, fun e hM hj H' p e' hr' hp hA => ?_⟩
      · refine qE ?_ f.code f.place H' d (bx (b1.trans e')) hd
        rw [h1, one_err (kd := wKd) hf]
        rfl
      · have h2 : Vahypz.readItem bs = (if next .last (ts.drop 3) = true then some e else none).map Vahypz.Item.word := by
          rw [h1, one_some (kd := wKd) hM]
        have R3 : RAt A H' x dx t ts 3 := ⟨hr', R1.toks.mb R1.at_ e'⟩
        have hk3 := some_at hj
        have b3 := b1.trans e'
        refine ⟨_, rfl, x, dx, _, rfl, R3.at_, rfl, ?_⟩
        refine tk_go (take_ok (c := .last) R3 hk3 (by rw [emp]; exact tok_last (G.tv hk3)) (fun ht hn => ?_) (fun ht hn => ?_))
        · refine (qE ?_ _ _).mono (bx b3)
          rw [h2, if_neg (by rw [hn]; exact Bool.false_ne_true)]
          rfl
        · rw [if_pos hn] at h2
          obtain ⟨b, hb⟩ := (entry_three hM).2.2.1
          have b4 := b3.trans (ExB.upd (o := .ins A.Reader dx (rF t 4)))
          exact ⟨_, rfl, qW e h2 (wordOf_ok hb) _ p (bx b4) (Evl.fresh_back (bx b1) hp) (WordAt.mono hA (fresh_in (bx b1) R1.at_ .upd))⟩
    · rw [hw] at h
      rw [if_neg (by rw [h]; exact Bool.false_ne_true)] at h1
      refine ⟨_, rfl, by show 0 ≤ sizeLine; decide, fun le hle => ?_⟩
      have hlx : le ≠ x := fun e => by rw [e, upd_same] at hle; cases hle
      have b1 := b0.trans (.of (ex_new (o := .lst []) hle))
      have R1 := R0.ext (ex_new (o := .lst []) hle)
      refine ⟨x, dx, t, le, ts, 0, [], [], by rw [w3]; rfl, R1, G, h0, upd_same, .nil, fun f hf H' d e' hd => ?_, fun e hM hj H' p e' hr' hp hA => ?_⟩
      · refine qE ?_ f.code f.place H' d (bx (b1.trans e')) hd
        rw [h1, one_err (kd := pKd) hf]
        rfl
      · have h2 : Vahypz.readItem bs = (if next .last (ts.drop 3) = true then some e else none).map Vahypz.Item.pat := by
          rw [h1, one_some (kd := pKd) hM]
        have R3 : RAt A H' x dx t ts 3 := ⟨hr', R1.toks.mb R1.at_ e'⟩
        have hk3 := some_at hj
        have b3 := b1.trans e'
        refine ⟨_, rfl, x, dx, _, rfl, R3.at_, rfl, ?_⟩
        refine tk_go (take_ok (c := .last) R3 hk3 (by rw [emp]; exact tok_last (G.tv hk3)) (fun ht hn => ?_) (fun ht hn => ?_))
        · refine (qE ?_ _ _).mono (bx b3)
          rw [h2, if_neg (by rw [hn]; exact Bool.false_ne_true)]
          rfl
        · rw [if_pos hn] at h2
          obtain ⟨b, hb⟩ := (entry_three hM).2.2.1
          have b4 := b3.trans (ExB.upd (o := .ins A.Reader dx (rF t 4)))
          exact ⟨_, rfl, qP e h2 (patOf_told hb).1 _ p (bx b4) (Evl.fresh_back (bx b1) hp) (PatAt.mono hA (fresh_in (bx b1) R1.at_ .upd))⟩
end
end Pw
set_option Elab.async false
set_option linter.all false
set_option maxRecDepth 100000
set_option maxHeartbeats 2000000
/-! changes.py -/
namespace Pw
open PySem PySem.Spec PyProof.Rows L2
open VahypBase (inChunk isLetter isDigit PTok Toks)
open Vahypa (Word Pat Lst wordOf patOf hyphened showPat)
/-! ### one that takes its place -/
def putAt {α : Type} (n : Nat) (x : α) (xs : List α) : List α := xs.take n ++ [x] ++ xs.drop (n + 1)
theorem putAt_nil {α : Type} {n : Nat} {x : α} : putAt n x [] = [x] := by
  unfold putAt
  rw [List.take_nil, List.drop_nil]
  rfl
theorem putAt_zero {α : Type} {x y : α} {xs : List α} : putAt 0 x (y :: xs) = x :: xs := rfl
theorem putAt_succ {α : Type} {n : Nat} {x y : α} {xs : List α} : putAt (n + 1) x (y :: xs) = y :: putAt n x xs := rfl
theorem firstAt_cons {k e : EKey} {r : List EKey} : firstAt (e :: r) k = if e = k then 0 else firstAt r k + 1 := by
  unfold firstAt
  rw [List.findIdx_cons]
  by_cases h : e = k
  · rw [if_pos h, decide_eq_true h]
    rfl
  · rw [if_neg h, decide_eq_false h]
    rfl
theorem putWord_eq (v : Word) : ∀ ws : List Word, Vahypz.putWord v ws = putAt (firstAt (ws.map wKey) (wKey v)) v ws
  | [] => putAt_nil.symm
  | u :: r => by
    rw [List.map_cons, firstAt_cons]
    show (if u.x = v.x then v :: r else u :: Vahypz.putWord v r) = _
    by_cases h : u.x = v.x
    · rw [if_pos h, if_pos (show wKey u = wKey v from congrArg EKey.w h)]
      rfl
    · rw [if_neg h, if_neg (show ¬ wKey u = wKey v from fun e => h (by injection e)), putAt_succ, putWord_eq v r]
theorem samePlace_key (p q : Pat) : Vahypz.samePlace p q = true ↔ pKey q = pKey p := by
  unfold Vahypz.samePlace pKey
  simp only [Bool.and_eq_true, beq_iff_eq]
  constructor
  · rintro ⟨h1, h2, h3⟩
    rw [h1, h2, h3]
  · intro h
    injection h with h1 h2 h3
    exact ⟨h1, h2, h3⟩
theorem putPat_eq (p : Pat) : ∀ ps : List Pat, Vahypz.putPat p ps = putAt (firstAt (ps.map pKey) (pKey p)) p ps
  | [] => putAt_nil.symm
  | q :: r => by
    rw [List.map_cons, firstAt_cons]
    show (if Vahypz.samePlace p q = true then p :: r else q :: Vahypz.putPat p r) = _
    by_cases h : Vahypz.samePlace p q = true
    · rw [if_pos h, if_pos ((samePlace_key p q).mp h)]
      rfl
    · rw [if_neg h, if_neg (fun e => h ((samePlace_key p q).mpr e)), putAt_succ, putPat_eq p r]
theorem putAt_map {α β : Type} (f : α → β) (n : Nat) (x : α) (xs : List α) : (putAt n x xs).map f = putAt n (f x) (xs.map f) := by
  unfold putAt
  rw [List.map_append, List.map_append, List.map_take, List.map_drop]
  rfl
theorem putAt_len {α : Type} (n : Nat) (x : α) (xs : List α) : (putAt n x xs).length ≤ xs.length + 1 := by
  unfold putAt
  rw [List.length_append, List.length_append, List.length_take, List.length_drop]
  show min n xs.length + 1 + _ ≤ _
  omega
theorem Each.cons {α : Type} {R : Addr → α → Prop} {as : List Addr} {xs : List α} {a : Addr} {x : α} (k : R a x) (h : Each R as xs) : Each R (a :: as) (x :: xs) := by
  refine ⟨congrArg (· + 1) h.1, fun i b y h1 h2 => ?_⟩
  cases i with
  | zero =>
    cases h1
    cases h2
    exact k
  | succ i => exact h.2 i b y h1 h2
theorem Each.uncons {α : Type} {R : Addr → α → Prop} {as : List Addr} {xs : List α} {a : Addr} {x : α} (h : Each R (a :: as) (x :: xs)) : R a x ∧ Each R as xs :=
  ⟨h.2 0 a x rfl rfl, Nat.succ.inj h.1, fun i b y h1 h2 => h.2 (i + 1) b y h1 h2⟩
theorem Each.put {α : Type} {R : Addr → α → Prop} {a : Addr} {x : α} (k : R a x) : ∀ {n : Nat} {as : List Addr} {xs : List α}, Each R as xs → Each R (putAt n a as) (putAt n x xs)
  | n, [], [], _ => by
    rw [putAt_nil, putAt_nil]
    exact .cons k .nil
  | 0, b :: as, y :: xs, h => .cons k h.uncons.2
  | n + 1, b :: as, y :: xs, h => by
    rw [putAt_succ, putAt_succ]
    exact .cons h.uncons.1 (Each.put k h.uncons.2)
  | _, [], _ :: _, h => by cases h.1
  | _, _ :: _, [], h => by cases h.1
theorem cut_to {xs : List V} {n : Nat} : cutV xs none (some (n : Int)) = xs.take n := by
  unfold cutV
  rw [HT.sIx_nat]
  show (xs.drop 0).take (min n xs.length - 0) = xs.take n
  rw [List.drop_zero, Nat.sub_zero]
  by_cases h : n ≤ xs.length
  · rw [Nat.min_eq_left h]
  · rw [Nat.min_eq_right (by omega), List.take_of_length_le (Nat.le_refl _), List.take_of_length_le (by omega)]
theorem cut_from {xs : List V} {n : Nat} : cutV xs (some (n : Int)) none = xs.drop n := by
  unfold cutV
  rw [HT.sIx_nat]
  show (xs.drop (min n xs.length)).take (xs.length - min n xs.length) = xs.drop n
  by_cases h : n ≤ xs.length
  · rw [Nat.min_eq_left h]
    exact List.take_of_length_le (by rw [List.length_drop]; omega)
  · rw [Nat.min_eq_right (by omega), List.drop_of_length_le (Nat.le_refl _), List.drop_of_length_le (by omega)]
    exact List.take_nil
section
variable {P : Program} {w : World} {K : PySem.W.Frag} {mg : Str → Option Value} {base : Heap} {A : Adr}
def spWith (K : PySem.W.Frag) : Sp := fun vs H Q _ => ∃ (l a : Addr) (as : List Addr) (ks : List EKey) (k : EKey), vs = [.ref l, .ref a] ∧ H l = some (.lst (as.map V.ref)) ∧ as.length ≤ 1000 ∧ Each (KeyAt K H) as ks ∧ KeyAt K H a k ∧
  ∀ H' p, Ex H H' → H p = none → H' p = some (.lst ((putAt (firstAt ks k) a as).map V.ref)) → Q (.ref p) H'
theorem ok_with_entry {f : Addr} {fd : FuncData} (T : Txt K mg A) (a : At K mg "with_entry" s_with_entry ["entries", "entry"] f fd) (d_number_of : C8.Cal P w K mg base 1 "number_of" (spNumber K) []) : C8.Cal P w K mg base 2 "with_entry" (spWith K) [] := by
  refine a.cal (ok0 a.fn sc_with_entry (fun vs H Q E h => ?_) (fun cdv Ar outer s H vs Q E hr h => ⟨_, (pss_cons (ps_set (i := 2) sc_with_entry.nd rfl (Or.inl rfl) (C8.pe_c d_number_of hr (by decide) rfl (by exact (pa_cons (pv 0) (pa_cons (pe_fld (pv 1) rfl) pa_nil)))))
  (pss_one (ps_ret (pe_op op_cat (pe_op op_cat (pe_slice sl_list (pv 0) po_none (po_some (pv 2))) (pe_lst (pa_cons (pv 1) pa_nil))) (pe_slice sl_list (pv 0) (po_some (pe_op op_add (pv 2) pe_int)) po_none))))), ?_⟩) rfl rfl rfl)
  · obtain ⟨_, _, _, _, _, rfl, _⟩ := h
    rfl
  · obtain ⟨l, a, as, ks, k, rfl, hl, hn, hE, hK, q⟩ := h
    obtain ⟨C, dx, fs, kv, ha, hcl, hno, hlk, hki⟩ := hK
    refine ⟨_, rfl, _, rfl, a, C, dx, fs, kv, rfl, ha, hcl, hno, hlk, l, as, ks, k, kv, rfl, SqL.of hl, hE, hki, fun H1 e1 => ?_⟩
    refine ⟨_, rfl, _, rfl, _, rfl, l, _, rfl, SqL.of (e1 _ _ hl), fun p1 hp1 => ?_⟩
    have hl1 := ex_new (o := .lst (cutV (as.map V.ref) none (some (firstAt ks k : Int)))) hp1 _ _ (e1 _ _ hl)
    refine ⟨_, rfl, by show 1 ≤ sizeLine; decide, fun p2 hp2 => ?_⟩
    have hl2 := ex_new (o := .lst [V.ref a]) hp2 _ _ hl1
    refine ⟨p1, p2, _, _, rfl, rfl, ex_new hp2 _ _ upd_same, upd_same, ?_, fun p3 hp3 => ?_⟩
    · have := cutV_length (as.map V.ref) none (some (firstAt ks k : Int))
      rw [refs_len] at this
      exact Evl.sz_of (show _ + 1 ≤ 100000 by omega)
    have hl3 := ex_new (o := .lst (cutV (as.map V.ref) none (some (firstAt ks k : Int)) ++ [V.ref a])) hp3 _ _ hl2
    refine ⟨_, rfl, _, rfl, _, _, rfl, rfl, _, rfl, l, _, rfl, SqL.of hl3, fun p4 hp4 => ?_⟩
    refine ⟨p3, p4, _, _, rfl, rfl, ex_new hp4 _ _ upd_same, upd_same, ?_, fun p5 hp5 => ?_⟩
    · have h1 := cutV_length (as.map V.ref) none (some (firstAt ks k : Int))
      have h2 := cutV_length (as.map V.ref) (some ((firstAt ks k : Int) + 1)) none
      rw [refs_len] at h1 h2
      rw [List.length_append]
      exact Evl.sz_of (show _ + 1 + _ ≤ 100000 by omega)
    · refine q _ p5 (Evl.Ex.trans ?e (ex_new hp5)) (Evl.fresh_back ?e hp5) ?_
      case e => exact (((e1.trans (ex_new hp1)).trans (ex_new hp2)).trans (ex_new hp3)).trans (ex_new hp4)
      rw [upd_same, cut_to, show ((firstAt ks k : Int) + 1) = ((firstAt ks k + 1 : Nat) : Int) from rfl, cut_from]
      unfold putAt
      rw [List.map_append, List.map_append, List.map_take, List.map_drop]
      rfl
/-- a new list, as it stands in each heap that holds what was frozen and what is new -/
def GivesLst (A : Adr) (G H H' : Hp) (o : Addr) (s : Lst) : Prop := ∀ N, Ex G N → Ex (fresh H H') N → ListAt A N o s
def spWithItem (A : Adr) : Sp := fun vs H Q _ => ∃ (a p : Addr) (G : Hp) (s : Lst) (i : Vahypz.Item), vs = [.ref a, .ref p] ∧ Ex G H ∧ ListAt A G a s ∧ s.words.length ≤ 100 ∧ s.pats.length ≤ 100 ∧
  (match i with | .word v => WordAt A G p v | .pat v => PatAt A G p v) ∧ ∀ H' o, Ex H H' → H o = none → GivesLst A G H H' o (Vahypz.put s i) → Q (.ref o) H'
theorem ok_with_item {f : Addr} {fd : FuncData} (T : Txt K mg A) (a : At K mg "with_item" s_with_item ["listing", "item"] f fd) (d_with_entry : C8.Cal P w K mg base 2 "with_entry" (spWith K) [])
    (mk_Listing : C8.Mak P w K mg base 1 "Listing" A.Listing (spListI A) []) : C8.Cal P w K mg base 4 "with_item" (spWithItem A) [] := by
  refine a.cal (ok0 a.fn sc_with_item (fun vs H Q E h => ?_) (fun cdv Ar outer s H vs Q E hr h => ⟨_, (pss_cons (ps_if (pt_val (pe_callB call_isi rfl T.isinstance (by decide +kernel) (pa_cons (pv 1) (pa_cons (pe_glob (v := .ref A.Word) rfl T.g_Word rfl) pa_nil)))) (pss_one (ps_ret (C8.pe_mk mk_Listing hr (by decide) rfl (pa_cons (pe_fld (pv 0) rfl) (pa_cons (pe_fld (pv 0) rfl) (pa_cons (C8.pe_c d_with_entry hr (by decide) rfl (by exact (pa_cons (pe_fld (pv 0) rfl) (pa_cons (pv 1) pa_nil)))) (pa_cons (pe_fld (pv 0) rfl) pa_nil))))))) pss_nil)
  (pss_one (ps_ret (C8.pe_mk mk_Listing hr (by decide) rfl (pa_cons (pe_fld (pv 0) rfl) (pa_cons (pe_fld (pv 0) rfl) (pa_cons (pe_fld (pv 0) rfl) (pa_cons (C8.pe_c d_with_entry hr (by decide) rfl (by exact (pa_cons (pe_fld (pv 0) rfl) (pa_cons (pv 1) pa_nil)))) pa_nil)))))))), ?_⟩) rfl rfl rfl)
  · obtain ⟨_, _, _, _, _, rfl, _⟩ := h
    rfl
  · obtain ⟨a, p, G, s, i, rfl, eG, hL, hw, hp, hi, q⟩ := h
    obtain ⟨dx, lw, lp, ws, ps, h1, h2, h3, h4, h5⟩ := hL
    cases i with
    | word v =>
      have hv : WordAt A G p v := hi
      obtain ⟨dv, g, hv1, hv2⟩ := id hv
      refine when2 (b := true) (fun Q q => ⟨_, rfl, _, _, _, _, true, rfl, .own _, .base (TyOf.ins (eG _ _ hv1) T.i_Word.cl T.i_Word.ha T.i_Word.hn T.i_Word.htk T.i_Word.hm), T.i_Word.me, true, rfl, q⟩) (fun _ => ?_) (fun h => by cases h)
      refine ⟨_, rfl, a, _, dx, _, _, rfl, eG _ _ h1, T.i_Listing.cl, T.n_Listing_left, rfl, _, rfl, a, _, dx, _, _, rfl, eG _ _ h1, T.i_Listing.cl, T.n_Listing_right, rfl, ?_⟩
      refine ⟨_, rfl, a, _, dx, _, _, rfl, eG _ _ h1, T.i_Listing.cl, T.n_Listing_words, rfl, _, rfl, lw, p, ws, _, _, rfl, eG _ _ h2, by rw [h4.1]; omega, h4.map wKey (fun b x hx => (WordAt.key T hx).mono eG), (WordAt.key T hv).mono eG, fun H1 l1 e1 hl1 hl2 => ?_⟩
      refine ⟨_, rfl, a, _, dx, _, _, rfl, e1 _ _ (eG _ _ h1), T.i_Listing.cl, T.n_Listing_patterns, rfl, fun o dy ho hdy hno => ⟨o, dy, _, _, _, _, rfl, upd_same, rfl, ?_⟩⟩
      have ho1 : (upd H1 dy (.own o)) o = none := (upd_ne (Ne.symm hno)).trans ho
      have e9 : Ex H1 (upd (upd (upd H1 dy (.own o)) o (.ins A.Listing dy [])) o (.ins A.Listing dy (lF (.int (s.l : Int)) (.int (s.r : Int)) (.ref l1) (.ref lp)))) := fun c u h => by
        rw [upd_ne (ne_of_none h ho), upd_ne (ne_of_none h ho), upd_ne (ne_of_none h hdy)]
        exact h
      have ho0 := Evl.fresh_back e1 ho
      refine q _ o (e1.trans e9) ho0 fun N eN fN => ⟨dy, l1, lp, putAt (firstAt (s.words.map wKey) (wKey v)) p ws, ps, fN _ _ ((fresh_at ho0).trans upd_same), fN _ _ ((fresh_at hl1).trans (e9 _ _ hl2)), eN _ _ h3, ?_, h5.imp fun _ _ k => k.mono eN⟩
      show Each _ _ (Vahypz.putWord v s.words)
      rw [putWord_eq]
      exact Each.put (hv.mono eN) (h4.imp fun _ _ k => k.mono eN)
    | pat v =>
      have hv : PatAt A G p v := hi
      obtain ⟨dv, d, k, hv1, hv2, hv3⟩ := id hv
      refine when2 (b := false) (fun Q q => ⟨_, rfl, _, _, _, _, false, rfl, .own _, .base (TyOf.ins (eG _ _ hv1) T.i_Pattern.cl T.i_Pattern.ha T.i_Pattern.hn T.i_Pattern.htk T.i_Pattern.hm), T.kit_Pattern, false, rfl, q⟩) (fun h => by cases h) (fun _ => ?_)
      refine ⟨_, rfl, a, _, dx, _, _, rfl, eG _ _ h1, T.i_Listing.cl, T.n_Listing_left, rfl, _, rfl, a, _, dx, _, _, rfl, eG _ _ h1, T.i_Listing.cl, T.n_Listing_right, rfl, ?_⟩
      refine ⟨_, rfl, a, _, dx, _, _, rfl, eG _ _ h1, T.i_Listing.cl, T.n_Listing_words, rfl, ?_⟩
      refine ⟨_, rfl, a, _, dx, _, _, rfl, eG _ _ h1, T.i_Listing.cl, T.n_Listing_patterns, rfl, _, rfl, lp, p, ps, _, _, rfl, eG _ _ h3, by rw [h5.1]; omega, h5.map pKey (fun b x hx => (PatAt.key T hx).mono eG), (PatAt.key T hv).mono eG, fun H1 l1 e1 hl1 hl2 => ?_⟩
      refine fun o dy ho hdy hno => ⟨o, dy, _, _, _, _, rfl, upd_same, rfl, ?_⟩
      have ho1 : (upd H1 dy (.own o)) o = none := (upd_ne (Ne.symm hno)).trans ho
      have e9 : Ex H1 (upd (upd (upd H1 dy (.own o)) o (.ins A.Listing dy [])) o (.ins A.Listing dy (lF (.int (s.l : Int)) (.int (s.r : Int)) (.ref lw) (.ref l1)))) := fun c u h => by
        rw [upd_ne (ne_of_none h ho), upd_ne (ne_of_none h ho), upd_ne (ne_of_none h hdy)]
        exact h
      have ho0 := Evl.fresh_back e1 ho
      refine q _ o (e1.trans e9) ho0 fun N eN fN => ⟨dy, lw, l1, ws, putAt (firstAt (s.pats.map pKey) (pKey v)) p ps, fN _ _ ((fresh_at ho0).trans upd_same), eN _ _ h2, fN _ _ ((fresh_at hl1).trans (e9 _ _ hl2)), h4.imp fun _ _ k => k.mono eN, ?_⟩
      show Each _ _ (Vahypz.putPat v s.pats)
      rw [putPat_eq]
      exact Each.put (hv.mono eN) (h5.imp fun _ _ k => k.mono eN)
def spTooLong (A : Adr) : Sp := fun vs H Q _ => ∃ (a : Addr) (s : Lst), vs = [.ref a] ∧ ListAt A H a s ∧ Q (.bl (!Vahypz.fits s)) H
theorem ok_is_too_long {f : Addr} {fd : FuncData} (T : Txt K mg A) (a : At K mg "is_too_long" s_is_too_long ["listing"] f fd) : C8.Cal P w K mg base 1 "is_too_long" (spTooLong A) [] := by
  refine a.cal (ok0 a.fn sc_is_too_long (fun vs H Q E h => ?_) (fun cdv Ar outer s H vs Q E hr h => ⟨_, (pss_one (ps_ret (pe_or (pe_cmpR op_gt (pe_callB call_len_seq rfl T.len (by decide +kernel) (pa_cons (pe_fld (pv 0) rfl) pa_nil)) (C8.pe_gc rfl T.c_MOST_WORDS) (nomark _)) (pe_one (pe_cmpR op_gt (pe_callB call_len_seq rfl T.len (by decide +kernel) (pa_cons (pe_fld (pv 0) rfl) pa_nil)) (C8.pe_gc rfl T.c_MOST_PATTERNS) (nomark _)))))), ?_⟩) rfl rfl rfl)
  · obtain ⟨_, _, rfl, _⟩ := h
    rfl
  · obtain ⟨a, s, rfl, hL, q⟩ := h
    obtain ⟨dx, lw, lp, ws, ps, h1, h2, h3, h4, h5⟩ := hL
    have hw : Val (tCB (Evl.rLenS K) (tCons (tFld K (tVar 0) "words") tNil)) [some (.ref a)] H (.int (ws.length : Int)) := by
      have := v_lenL (K := K) (v_fld (val_var (σ := [some (.ref a)]) (i := 0) rfl) h1 T.i_Listing.cl T.n_Listing_words rfl) (SqL.of h2)
      rw [refs_len] at this
      exact this
    have hp : Val (tCB (Evl.rLenS K) (tCons (tFld K (tVar 0) "patterns") tNil)) [some (.ref a)] H (.int (ps.length : Int)) := by
      have := v_lenL (K := K) (v_fld (val_var (σ := [some (.ref a)]) (i := 0) rfl) h1 T.i_Listing.cl T.n_Listing_patterns rfl) (SqL.of h3)
      rw [refs_len] at this
      exact this
    refine w_gt hw val_c _ ⟨_, rfl, b2 (fun h => ?_) (fun h => w_gt hp val_c _ ?_)⟩
    · have : Vahypz.fits s = false := by
        unfold Vahypz.fits
        refine decide_eq_false fun z => ?_
        have h1 := z.1
        have h2 : s.words.length ≤ 24 := h1
        have := of_decide_eq_true h
        rw [h4.1] at this
        omega
      rw [this] at q
      exact q
    · have : (!Vahypz.fits s) = decide ((40 : Int) < (ps.length : Int)) := by
        unfold Vahypz.fits
        have h0 := of_decide_eq_false h
        rw [h4.1] at h0
        rw [h5.1]
        by_cases hz : s.pats.length ≤ 40
        · rw [decide_eq_true (show s.words.length ≤ Vahypa.WORDS ∧ s.pats.length ≤ Vahypa.PATS from ⟨by show s.words.length ≤ 24; omega, hz⟩), decide_eq_false (by omega)]
          rfl
        · rw [decide_eq_false (show ¬ (s.words.length ≤ Vahypa.WORDS ∧ s.pats.length ≤ Vahypa.PATS) from fun z => hz z.2), decide_eq_true (by omega)]
          rfl
      rw [this] at q
      exact q
/-! ### touched -/
theorem eqv_nums : ∀ l m : List Nat, PyData.eqvAll (l.map fun (n : Nat) => PyData.int (n : Int)) (m.map fun (n : Nat) => PyData.int (n : Int)) = decide (l = m)
  | [], [] => rfl
  | [], _ :: _ => rfl
  | _ :: _, [] => rfl
  | a :: r, b :: t => by
    have ih := eqv_nums r t
    show (((a : Int) == (b : Int)) && PyData.eqvAll (r.map fun (n : Nat) => PyData.int (n : Int)) (t.map fun (n : Nat) => PyData.int (n : Int))) = _
    rw [ih]
    by_cases h : a = b
    · by_cases h2 : r = t
      · rw [h, h2, decide_eq_true rfl, decide_eq_true rfl]
        simp
      · rw [decide_eq_false h2, decide_eq_false (fun e => h2 (by injection e)), Bool.and_false]
    · have : ((a : Int) == (b : Int)) = false := by
        rw [beq_eq_false_iff_ne]
        omega
      rw [this, Bool.false_and, decide_eq_false (show ¬ a :: r = b :: t from fun e => h (by injection e))]
theorem zip_filter {α : Type} (f : α × Nat → Bool) : ∀ (xs : List α) (k : Nat), ((xs.zipIdx k).filter f).map (fun w => w.2) = ((List.range xs.length).filter fun i => (xs[i]?).any fun x => f (x, k + i)).map fun i => k + i
  | [], k => rfl
  | x :: r, k => by
    have ih := zip_filter f r (k + 1)
    rw [List.zipIdx_cons, List.filter_cons, List.length_cons, List.range_succ_eq_map, List.filter_cons, List.filter_map]
    have e1 : ((fun i => ((x :: r)[i]?).any fun x => f (x, k + i)) ∘ Nat.succ) = fun i => (r[i]?).any fun x => f (x, k + 1 + i) := by
      funext i
      show (r[i]?).any (fun x => f (x, k + (i + 1))) = _
      congr 1
      funext x
      rw [show k + (i + 1) = k + 1 + i from by omega]
    have e2 : (((x :: r)[0]?).any fun x => f (x, k + 0)) = f (x, k) := rfl
    rw [e1, e2]
    have e3 : ∀ l : List Nat, (l.map Nat.succ).map (fun i => k + i) = l.map fun i => k + 1 + i := fun l => by
      rw [List.map_map]
      congr 1
      funext i
      show k + (i + 1) = _
      omega
    by_cases h : f (x, k) = true
    · rw [if_pos h, if_pos h, List.map_cons, List.map_cons, ih, e3]
      rfl
    · rw [if_neg h, if_neg h, ih, e3]
theorem beq_dec {α : Type} [DecidableEq α] [BEq α] [LawfulBEq α] (a b : α) : (a == b) = decide (a = b) := by
  rw [Bool.eq_iff_iff, beq_iff_eq, decide_eq_true_iff]
theorem eqv_list (l m : List Nat) : PyData.eqv (.list (l.map fun (n : Nat) => PyData.int (n : Int))) (.list (m.map fun (n : Nat) => PyData.int (n : Int))) = decide (l = m) := by
  rw [← eqv_nums]
  simp [PyData.eqv]
theorem eqv_int (i j : Int) : PyData.eqv (.int i) (.int j) = decide (i = j) := by
  simp only [PyData.eqv]
  exact beq_dec i j
theorem firstAt_le (ks : List EKey) (k : EKey) : firstAt ks k ≤ ks.length := List.findIdx_le_length
def isT (s t : Lst) (v : Word) : Bool := t.words.any (fun u => u.x == v.x) && Vahypa.parts s v.x != Vahypa.parts t v.x
theorem touched_eq (s t : Lst) : Vahypz.touched s t = (List.range s.words.length).filter fun i => (s.words[i]?).any fun v => isT s t v := by
  unfold Vahypz.touched
  rw [zip_filter _ _ 0]
  have : (fun i => 0 + i) = (id : Nat → Nat) := by
    funext i
    exact Nat.zero_add i
  rw [this, List.map_id]
  rfl
def spIsTouched (A : Adr) : Sp := fun vs H Q _ => ∃ (p a b : Addr) (s t : Lst) (v : Word), vs = [.ref p, .ref a, .ref b] ∧ WordAt A H p v ∧ WOk v ∧ ListAt A H a s ∧ ListAt A H b t ∧ (∀ p ∈ s.pats, POk p) ∧ (∀ p ∈ t.pats, POk p) ∧ ∀ H', Ex H H' → Q (.bl (isT s t v)) H'
theorem ok_is_touched {f : Addr} {fd : FuncData} (T : Txt K mg A) (a : At K mg "is_touched" s_is_touched ["word", "before", "after"] f fd) (d_number_of : C8.Cal P w K mg base 1 "number_of" (spNumber K) [])
    (d_parted_gaps : C8.Cal P w K mg base 6 "parted_gaps" (spParted A) []) : C8.Cal P w K mg base 7 "is_touched" (spIsTouched A) [] := by
  refine a.cal (ok0 a.fn sc_is_touched (fun vs H Q E h => ?_) (fun cdv Ar outer s H vs Q E hr h => ⟨_, (pss_cons (ps_if (pt_cmpR (op_eqD hr.units) (C8.pe_c d_number_of hr (by decide) rfl (by exact (pa_cons (pe_fld (pv 2) rfl) (pa_cons (pe_fld (pv 0) rfl) pa_nil)))) (pe_callB call_len_seq rfl T.len (by decide +kernel) (pa_cons (pe_fld (pv 2) rfl) pa_nil)) (nomark _)) (pss_one (ps_ret pe_bl)) pss_nil)
  (pss_one (ps_ret (pe_cmpR (op_neD hr.units) (C8.pe_c d_parted_gaps hr (by decide) rfl (by exact (pa_cons (pv 1) (pa_cons (pe_fld (pv 0) rfl) pa_nil)))) (C8.pe_c d_parted_gaps hr (by decide) rfl (by exact (pa_cons (pv 2) (pa_cons (pe_fld (pv 0) rfl) pa_nil)))) (nomark _))))), ?_⟩) rfl rfl rfl)
  · obtain ⟨_, _, _, _, _, _, rfl, _⟩ := h
    rfl
  · obtain ⟨p, a, b, s, t, v, rfl, hW, hO, hS, hT, hps, hpt, q⟩ := h
    obtain ⟨dv, g, hv1, hv2⟩ := id hW
    obtain ⟨dx, lw, lp, ws, ps, h1, h2, h3, h4, h5⟩ := id hT
    refine ⟨_, rfl, b, _, dx, _, _, rfl, h1, T.i_Listing.cl, T.n_Listing_words, rfl, _, rfl, p, _, dv, _, _, rfl, hv1, T.i_Word.cl, T.n_Word_key, rfl, lw, ws, _, wKey v, _, rfl, SqL.of h2, h4.map wKey (fun b x hx => WordAt.key T hx), rfl, fun H1 e1 => ?_⟩
    refine ⟨_, rfl, b, _, dx, _, _, rfl, e1 _ _ h1, T.i_Listing.cl, T.n_Listing_words, rfl, lw, _, rfl, .inl (SqL.of (e1 _ _ h2)), _, _, .int _, .int _, rfl, rfl, _, rfl, ?_⟩
    rw [eqv_int, refs_len, h4.1]
    have hany := first_any wKey (wKey v) t.words
    have hle := firstAt_le (t.words.map wKey) (wKey v)
    rw [List.length_map] at hle
    have hany2 : t.words.any (fun u => u.x == v.x) = t.words.any fun u => decide (wKey u = wKey v) := any_key
    refine b2 (fun h => ?_) (fun h => ?_)
    · have h' := of_decide_eq_true h
      rw [decide_eq_false (show ¬ firstAt (t.words.map wKey) (wKey v) < t.words.length by omega)] at hany
      have : isT s t v = false := by
        unfold isT
        rw [hany2, ← hany]
        rfl
      have q1 := q H1 e1
      rw [this] at q1
      exact q1
    · have h' := of_decide_eq_false h
      rw [decide_eq_true (show firstAt (t.words.map wKey) (wKey v) < t.words.length by omega)] at hany
      have : isT s t v = !decide (Vahypa.parts s v.x = Vahypa.parts t v.x) := by
        unfold isT
        rw [hany2, ← hany, Bool.true_and]
        show (!(Vahypa.parts s v.x == Vahypa.parts t v.x)) = _
        rw [beq_dec]
      refine ⟨_, rfl, _, rfl, p, _, dv, _, _, rfl, e1 _ _ hv1, T.i_Word.cl, T.n_Word_letters, rfl, a, s, v.x, rfl, hS.mono e1, hps, hO.most, fun H2 l1 e2 hl1 hl2 => ?_⟩
      refine ⟨_, rfl, _, rfl, p, _, dv, _, _, rfl, e2 _ _ (e1 _ _ hv1), T.i_Word.cl, T.n_Word_letters, rfl, b, t, v.x, rfl, (hT.mono e1).mono e2, hpt, hO.most, fun H3 l3 e3 hl3 hl4 => ?_⟩
      refine ⟨_, _, dp_nums (e3 _ _ hl2), dp_nums hl4, shaped_nums _, shaped_nums _, ?_⟩
      rw [eqv_list, ← this]
      exact q H3 ((e1.trans e2).trans e3)
def spTouched (A : Adr) : Sp := fun vs H Q _ => ∃ (a b : Addr) (s t : Lst), vs = [.ref a, .ref b] ∧ ListAt A H a s ∧ ListAt A H b t ∧ s.words.length ≤ 100 ∧ (∀ v ∈ s.words, WOk v) ∧ (∀ p ∈ s.pats, POk p) ∧ (∀ p ∈ t.pats, POk p) ∧ GivesL Q H (Vahypz.touched s t)
theorem ok_touched {f : Addr} {fd : FuncData} (T : Txt K mg A) (a : At K mg "touched" s_touched ["before", "after"] f fd) (d_is_touched : C8.Cal P w K mg base 7 "is_touched" (spIsTouched A) []) : C8.Cal P w K mg base 8 "touched" (spTouched A) [] := by
  refine a.cal (ok0 a.fn sc_touched (fun vs H Q E h => ?_) (fun cdv Ar outer s H vs Q E hr h => ⟨_, (pss_one (ps_ret (pe_lc (own := [("number", 2), ("word", 3)]) rfl sc_touched.nd (pi_enum rfl T.enumerate (pa_cons (pe_fld (pv 0) rfl) pa_nil)) (blkOk_by (own := [("number", 2), ("word", 3)]) (N := ["before", "after", "number", "word"]) (sc := defScope s_touched) (by decide +kernel)) (fun _ _ _ _ _ => by exact (pg_tupK (K := K) (n := 2) rfl rfl (pgs_cons (pg_name (i := 2) sc_touched.nd rfl (Or.inl rfl)) (pgs_cons (pg_name (i := 3) sc_touched.nd rfl (Or.inl rfl)) pgs_nil)))) (fun _ _ _ _ _ => by exact (pts_one (pt_val (C8.pe_c d_is_touched hr (by decide) rfl (by exact (pa_cons (pv 3) (pa_cons (pv 0) (pa_cons (pv 1) pa_nil)))))))) (fun _ _ _ _ _ => by exact (pv 2))))), ?_⟩) rfl rfl rfl)
  · obtain ⟨_, _, _, _, rfl, _⟩ := h
    rfl
  · obtain ⟨a, b, s, t, rfl, hS, hT, hn, hO, hps, hpt, q⟩ := h
    obtain ⟨dx, lw, lp, ws, ps, h1, h2, h3, h4, h5⟩ := id hS
    rw [touched_eq] at q
    refine ⟨_, rfl, a, _, dx, _, _, rfl, h1, T.i_Listing.cl, T.n_Listing_words, rfl, lw, _, rfl, SqL.of h2, fun D hD => ?_⟩
    refine lc_it (walk_enum (K := K) (a := lw) (xs := ws.map V.ref)) (fun i H' => Ex H H' ∧ H' D = some (.lst (nums ((List.range i).filter fun i => (s.words[i]?).any fun v => isT s t v)))) ⟨ex_new hD, upd_same⟩ (fun i H' _ ⟨e, _⟩ => SqL.of (e _ _ h2)) ?_ ?_
    · rintro i y H0 H' hi ⟨e0, hd0⟩ ⟨tp, z, y2, rfl, ht, hH, hx0, hy⟩
      obtain ⟨a0, v, ha0, hv0, hW⟩ := h4.at2 hi
      have hz : z = .int (i : Int) := (Option.some.inj hx0).symm
      subst hz
      have hy2 : y2 = .ref a0 := by
        have : (ws.map V.ref)[i]? = some y2 := hy
        rw [List.getElem?_map, ha0] at this
        exact (Option.some.inj this).symm
      subst hy2
      subst hH
      have e1 : Ex H (upd H0 tp (.tup [.int (i : Int), .ref a0])) := e0.trans (ex_new ht)
      have hd1 : upd H0 tp (.tup [.int (i : Int), .ref a0]) D = some (.lst (nums ((List.range i).filter fun i => (s.words[i]?).any fun v => isT s t v))) := ex_new ht _ _ hd0
      rw [refs_len, h4.1] at hi
      refine ⟨tp, _, rfl, SqT.of upd_same, rfl, _, _, rfl, _, _, rfl, rfl, rfl, ?_⟩
      refine ⟨_, rfl, _, rfl, _, rfl, a0, a, b, s, t, v, rfl, hW.mono e1, hO v (List.mem_of_getElem? hv0), hS.mono e1, hT.mono e1, hps, hpt, fun H2 e2 => ⟨_, rfl, ?_⟩⟩
      refine lc_keep rfl hD (e1.trans e2) (e2 _ _ hd1) (by omega) _ ?_ (fun Q q => ⟨_, rfl, q⟩)
      rw [hv0]
      rfl
    · rintro H' ⟨e, hd⟩
      rw [refs_len, h4.1] at hd
      exact q _ D e hD hd
end
end Pw
set_option Elab.async false
set_option linter.all false
set_option maxRecDepth 100000
set_option maxHeartbeats 2000000
/-! patterns.py: load, shown, put -/
namespace Pw
open PySem PySem.Spec PyProof.Rows L2
open VahypBase (inChunk isLetter isDigit PTok Toks)
open Vahypa (Word Pat Lst wordOf patOf hyphened showPat)
section
variable {P : Program} {w : World} {K : PySem.W.Frag} {mg : Str → Option Value} {base : Heap} {A : Adr}
theorem no_out {X : Cx} : Takes X (fun _ _ _ _ => False) := fun _ _ x => by
  obtain ⟨_, _, _, _, _, _, _, _, _, _, _, _, _, _, _, _, h⟩ := x
  exact h.elim
def GivesB (Q : VK) (H : Hp) (l : List V) : Prop := ∀ H' p, Ex H H' → H p = none → H' p = some (.lst l) → Q (.ref p) H'
def spCounted : Sp := fun vs H Q _ => ∃ (l : Addr) (xs : List V), vs = [.ref l] ∧ H l = some (.lst xs) ∧ xs.length ≤ 90000 ∧ GivesB Q H (.int (xs.length : Int) :: xs)
theorem ok_counted {f : Addr} {fd : FuncData} (T : Txt K mg A) (a : At K mg "counted" s_counted ["numbers"] f fd) : C8.Cal P w K mg base 1 "counted" spCounted [] := by
  refine a.cal (ok0 a.fn sc_counted (fun vs H Q E h => ?_) (fun cdv Ar outer s H vs Q E hr h => ⟨_, (pss_one (ps_ret (pe_op op_cat (pe_lst (pa_cons (pe_callB call_len_seq rfl T.len (by decide +kernel) (pa_cons (pv 0) pa_nil)) pa_nil)) (pv 0)))), ?_⟩) rfl rfl rfl)
  · obtain ⟨_, _, rfl, _⟩ := h
    rfl
  · obtain ⟨l, xs, rfl, h1, hz, q⟩ := h
    refine ⟨_, rfl, l, _, rfl, .inl (SqL.of h1), by show 1 ≤ sizeLine; decide, fun p1 hp1 => ?_⟩
    refine ⟨_, rfl, p1, l, _, _, rfl, rfl, upd_same, ex_new hp1 _ _ h1, Evl.sz_of (show 1 + _ ≤ 100000 by omega), fun p2 hp2 => ?_⟩
    exact q _ p2 (Evl.Ex.trans (ex_new hp1) (ex_new hp2)) (Evl.fresh_back (ex_new hp1) hp2) upd_same
def hasNo (i : Int) (n : Nat) : Bool := decide (0 ≤ i) && decide (i < (n : Int))
def spHas : Sp := fun vs H Q _ => ∃ (l : Addr) (xs : List V) (i : Int), vs = [.ref l, .int i] ∧ H l = some (.lst xs) ∧ Q (.bl (hasNo i xs.length)) H
theorem ok_has_number {f : Addr} {fd : FuncData} (T : Txt K mg A) (a : At K mg "has_number" s_has_number ["entries", "number"] f fd) : C8.Cal P w K mg base 1 "has_number" spHas [] := by
  refine a.cal (ok0 a.fn sc_has_number (fun vs H Q E h => ?_) (fun cdv Ar outer s H vs Q E hr h => ⟨_, (pss_one (ps_ret (pe_chain op_le op_lt pe_int (pv 1) (pe_callB call_len_seq rfl T.len (by decide +kernel) (pa_cons (pv 0) pa_nil))))), ?_⟩) rfl rfl rfl)
  · obtain ⟨_, _, _, rfl, _⟩ := h
    rfl
  · obtain ⟨l, xs, i, rfl, h1, q⟩ := h
    unfold hasNo at q
    refine ⟨_, rfl, _, _, rfl, rfl, _, rfl, b2 (fun h => ?_) (fun h => ?_)⟩
    · rw [h, Bool.true_and] at q
      exact ⟨_, rfl, l, _, rfl, .inl (SqL.of h1), _, _, rfl, rfl, q⟩
    · rw [h, Bool.false_and] at q
      exact q
theorem index_has {i : Int} {n : Nat} : VahypBase.index i n = if hasNo i n = true then some i.toNat else none := by
  unfold VahypBase.index hasNo
  by_cases h : 0 ≤ i ∧ i < (n : Int)
  · rw [if_pos h, decide_eq_true h.1, decide_eq_true h.2]
    rfl
  · rw [if_neg h, if_neg]
    rw [Bool.and_eq_true, decide_eq_true_iff, decide_eq_true_iff]
    exact h
theorem hasNo_iff {i : Int} {n : Nat} (h : hasNo i n = true) : ∃ k : Nat, i = (k : Int) ∧ k < n := by
  unfold hasNo at h
  rw [Bool.and_eq_true, decide_eq_true_iff, decide_eq_true_iff] at h
  exact ⟨i.toNat, by omega, by omega⟩
def heldF (v : V) : List (Str × V) := [("held", v)]
def spLoad (A : Adr) (K : PySem.W.Frag) : Sp := fun vs H Q _ => ∃ (d dd a : Addr) (bs : Bytes) (hv : V), vs = [.ref d, .ref a] ∧ H d = some (.ins A.Desk dd (heldF hv)) ∧ SqL K H a (bI bs) ∧ bs.length ≤ 8192 ∧
  (∀ f, Vahypa.read bs = .error f → ∀ H' l, Ex H H' → H l = none → H' l = some (.lst (nums [0, f.code, f.place])) → Q (.ref l) H') ∧
  (∀ s, Vahypa.read bs = .ok s → LOk s → ∀ H' l p, ExB d H H' → H' d = some (.ins A.Desk dd (heldF (.ref p))) → H l = none → H' l = some (.lst (nums [1, s.words.length, s.pats.length])) → H p = none → p ≠ l → ListAt A (fresh H H') p s → Q (.ref l) H')
theorem ok_load {f : Addr} {fd : FuncData} (T : Txt K mg A) (a : At K mg "load" s_load ["desk", "text"] f fd) (d_read_list : CalX P w K mg base 8 "read_list" (spReadList A K)) : C8.Cal P w K mg base 9 "load" (spLoad A K) [] := by
  refine a.cal (ok0 a.fn sc_load (fun vs H Q E h => ?_) (fun cdv Ar outer s H vs Q E hr h => ⟨_, (pss_cons (ps_try_as (i := 3) (tb := fun W => tAsg (tCallS (spReadList A K) (WE W) (tCons (tVar 1) tNil)) (gName 2))
      (ts := fun a cls d => tRet (tLst (tCons (tC (.int 0)) (tCons (FltX.tByF A.Fault "code" a cls d (tVar 3)) (tCons (FltX.tByF A.Fault "place" a cls d (tVar 3)) tNil))))) (Wout := fun _ _ _ _ => False) rfl rfl sc_load.nd rfl rfl ⟨rfl, by decide, Or.inl T.flt.gC⟩ no_out
      (fun W pn xe tk _ => pss_one (ps_set (i := 2) sc_load.nd rfl (Or.inl rfl) (by exact (pe_cS d_read_list hr (by decide) rfl tk (by exact (pa_cons (pv 1) pa_nil))))))
      (fun a oe cls d pn hz hf => pss_one (ps_ret (by exact (pe_lst (pa_cons pe_int (pa_cons (FltX.pe_byF T.flt T.flt.noC hz hf (pv 3)) (pa_cons (FltX.pe_byF T.flt T.flt.noP hz hf (pv 3)) pa_nil))))))))
    (pss_cons (ps_fld (pv 0) (pv 2) rfl)
    (pss_one (ps_ret (pe_lst (pa_cons pe_int (pa_cons (pe_callB call_len_seq rfl T.len (by decide +kernel) (pa_cons (pe_fld (pv 2) rfl) pa_nil)) (pa_cons (pe_callB call_len_seq rfl T.len (by decide +kernel) (pa_cons (pe_fld (pv 2) rfl) pa_nil)) pa_nil)))))))), ?_⟩) rfl rfl rfl)
  · obtain ⟨_, _, _, _, _, rfl, _⟩ := h
    rfl
  · obtain ⟨d, dd, ta, bs, hv, rfl, hd, hS, hz, qE, q⟩ := h
    refine ⟨_, rfl, ta, bs, rfl, hS, hz, fun f hf H' x e hx => ⟨true, T.flt.te, fun _ ax hax => ?_, fun h => by cases h⟩, fun s hs hO H1 p e1 hp hL => ?_⟩
    · refine ⟨_, rfl, rfl, rfl, x, _, _, rfl, hx, FltX.flds_code _ _, _, rfl, rfl, rfl, x, _, _, rfl, hx, FltX.flds_place _ _, by show 3 ≤ sizeLine; decide, fun l hl => ?_⟩
      exact qE f hf _ l (e.trans (ex_new hl)) (Evl.fresh_back e hl) upd_same
    · obtain ⟨dl, lw, lp, ws, ps, h1, h2, h3, h4, h5⟩ := id hL
      have f1 := (fresh_ex H H1) _ _ h1
      have f2 := (fresh_ex H H1) _ _ h2
      have f3 := (fresh_ex H H1) _ _ h3
      have pd : p ≠ d := fun e => by rw [e, hd] at hp; cases hp
      have wd : lw ≠ d := fun e => by have := (fresh_some h2).1; rw [e, hd] at this; cases this
      have qd : lp ≠ d := fun e => by have := (fresh_some h3).1; rw [e, hd] at this; cases this
      refine ⟨_, rfl, _, rfl, d, _, dd, _, rfl, e1 _ _ hd, T.i_Desk.cl, T.n_Desk_held, (by show 1 < 1000; decide), ?_⟩
      refine ⟨_, rfl, p, _, dl, _, _, rfl, (upd_ne pd).trans f1, T.i_Listing.cl, T.n_Listing_words, rfl, lw, _, rfl, .inl (SqL.of ((upd_ne wd).trans f2)), ?_⟩
      refine ⟨_, rfl, p, _, dl, _, _, rfl, (upd_ne pd).trans f1, T.i_Listing.cl, T.n_Listing_patterns, rfl, lp, _, rfl, .inl (SqL.of ((upd_ne qd).trans f3)), by show 3 ≤ sizeLine; decide, fun l hl => ?_⟩
      have hl1 : H1 l = none := by
        by_cases e : l = d
        · rw [e, upd_same] at hl
          cases hl
        · exact (upd_ne e).symm.trans hl
      have hl0 := Evl.fresh_back e1 hl1
      have ld : l ≠ d := fun e => by rw [e, hd] at hl0; cases hl0
      have pl : p ≠ l := fun e => by rw [← e, f1] at hl1; cases hl1
      refine q s hs hO _ l p (((ExB.of e1).trans .upd).trans (.of (ex_new hl))) ?_ hl0 ?_ hp pl (hL.mono fun b o hb => ?_)
      · rw [upd_ne (Ne.symm ld), upd_same]
        rfl
      · rw [upd_same, refs_len, refs_len, h4.1, h5.1]
        rfl
      · obtain ⟨h6, h7⟩ := fresh_some hb
        have bd : b ≠ d := fun e => by rw [e, hd] at h6; cases h6
        have bl : b ≠ l := fun e => by rw [e, hl1] at h7; cases h7
        rw [fresh_at h6, upd_ne bl, upd_ne bd]
        exact h7
def spShown (A : Adr) : Sp := fun vs H Q _ => ∃ (a : Addr) (s : Lst), vs = [.ref a] ∧ ListAt A H a s ∧ LOk s ∧ GivesB Q H (.int ((Vahypa.shown s).length : Int) :: bI (Vahypa.shown s))
theorem ok_shown {f : Addr} {fd : FuncData} (T : Txt K mg A) (a : At K mg "shown" s_shown ["listing"] f fd) (d_one_form : C8.Cal P w K mg base 1 "one_form" (spForm A) []) (d_counted : C8.Cal P w K mg base 1 "counted" spCounted []) : C8.Cal P w K mg base 2 "shown" (spShown A) [] := by
  refine a.cal (ok0 a.fn sc_shown (fun vs H Q E h => ?_) (fun cdv Ar outer s H vs Q E hr h => ⟨_, (pss_one (ps_ret (C8.pe_c d_counted hr (by decide) rfl (by exact (pa_cons (C8.pe_c d_one_form hr (by decide) rfl (by exact (pa_cons (pv 0) pa_nil))) pa_nil))))), ?_⟩) rfl rfl rfl)
  · obtain ⟨_, _, rfl, _⟩ := h
    rfl
  · obtain ⟨a, s, rfl, hL, hO, q⟩ := h
    refine ⟨_, rfl, a, s, rfl, hL, hO, fun H1 l e1 hl h1 => ?_⟩
    refine ⟨l, _, rfl, h1, ?_, fun H2 p e2 hp h2 => ?_⟩
    · have := shown_len hO
      rw [bI_len]
      omega
    · refine q _ p (e1.trans e2) (Evl.fresh_back e1 hp) (h2.trans ?_)
      rw [bI_len]
/-! ### put -/
theorem mem_putAt {α : Type} {n : Nat} {x y : α} {xs : List α} (h : y ∈ putAt n x xs) : y = x ∨ y ∈ xs := by
  unfold putAt at h
  rcases List.mem_append.mp h with h | h
  · rcases List.mem_append.mp h with h | h
    · exact .inr (List.mem_of_mem_take h)
    · exact .inl (List.mem_singleton.mp h)
  · exact .inr (List.mem_of_mem_drop h)
/-- the list with an item, when it isn't too long -/
theorem put_ok {s : Lst} {i : Vahypz.Item} (h : LOk s) (hi : match i with | .word v => WOk v | .pat p => POk p) (hf : Vahypz.fits (Vahypz.put s i) = true) : LOk (Vahypz.put s i) := by
  have hf' := of_decide_eq_true hf
  cases i with
  | word v =>
    refine ⟨h.l5, h.r5, hf'.1, hf'.2, fun u hu => ?_, h.ps⟩
    have hu' : u ∈ Vahypz.putWord v s.words := hu
    rw [putWord_eq] at hu'
    rcases mem_putAt hu' with e | hm
    · rw [e]
      exact hi
    · exact h.ws u hm
  | pat p =>
    refine ⟨h.l5, h.r5, hf'.1, hf'.2, h.ws, fun u hu => ?_⟩
    have hu' : u ∈ Vahypz.putPat p s.pats := hu
    rw [putPat_eq] at hu'
    rcases mem_putAt hu' with e | hm
    · rw [e]
      exact hi
    · exact h.ps u hm
theorem put_pats {s : Lst} {i : Vahypz.Item} (h : LOk s) (hi : match i with | .word v => WOk v | .pat p => POk p) : ∀ p ∈ (Vahypz.put s i).pats, POk p := by
  cases i with
  | word v => exact h.ps
  | pat p =>
    intro u hu
    have hu' : u ∈ Vahypz.putPat p s.pats := hu
    rw [putPat_eq] at hu'
    rcases mem_putAt hu' with e | hm
    · rw [e]
      exact hi
    · exact h.ps u hm
/-- the object d holds the list s, which stands in the frozen G -/
structure Held (A : Adr) (G H : Hp) (d dd p : Addr) (s : Lst) : Prop where
  desk : H d = some (.ins A.Desk dd (heldF (.ref p)))
  frz : Ex G H
  out : G d = none
  lst : ListAt A G p s
  ok : LOk s
theorem fresh_join {G H H' : Hp} (e : Ex G H) : Ex (fresh H H') (join G (fresh H H')) := join_r fun b o h => Evl.fresh_back e (fresh_some h).1
/-- what a change of the object gives back -/
def GivesHeld (A : Adr) (Q : VK) (G H : Hp) (d dd : Addr) (s : Lst) (l : List V) : Prop := ∀ H' r p G', ExB d H H' → H r = none → H' r = some (.lst l) → Held A G' H' d dd p s → (∀ b, G b = none → H b ≠ none → G' b = none) → Q (.ref r) H'
def changeNums (s t : Lst) : List Nat := let l := Vahypz.touched s t; t.words.length :: t.pats.length :: l.length :: l
def spPut (A : Adr) (K : PySem.W.Frag) : Sp := fun vs H Q _ => ∃ (d dd a p : Addr) (G : Hp) (bs : Bytes) (s : Lst), vs = [.ref d, .ref a] ∧ Held A G H d dd p s ∧ SqL K H a (bI bs) ∧ bs.length ≤ 8192 ∧
  (Vahypz.readItem bs = none → GivesB Q H [.int (-4)]) ∧ (∀ i, Vahypz.readItem bs = some i → Vahypz.fits (Vahypz.put s i) = false → GivesB Q H [.int (-5)]) ∧
  (∀ i, Vahypz.readItem bs = some i → Vahypz.fits (Vahypz.put s i) = true → GivesHeld A Q G H d dd (Vahypz.put s i) (nums (changeNums s (Vahypz.put s i))))
theorem readItem_of {a : Addr} {bs : Bytes} {H : Hp} {Q : VK} {E : XK} (hS : SqL K H a (bI bs)) (hz : bs.length ≤ 8192) (hE : Vahypz.readItem bs = none → FailsAny E A.Fault H)
    (main : ∀ i, Vahypz.readItem bs = some i → (match i with | .word v => WOk v | .pat p => POk p) → ∀ H1 p1, Ex H H1 → (match i with | .word v => WordAt A (fresh H H1) p1 v | .pat v => PatAt A (fresh H H1) p1 v) → Q (.ref p1) H1) : spReadItem A K [.ref a] H Q E :=
  ⟨a, bs, rfl, hS, hz, hE, fun v hv ho H' p1 e _ hA => main (.word v) hv ho H' p1 e hA, fun v hv ho H' p1 e _ hA => main (.pat v) hv ho H' p1 e hA⟩
theorem ri_go {σ : L2.St} {H : Hp} {Q : VK} {E : XK} {v : V} (h : spReadItem A K [v] H Q E) : tNil σ H (fun vs H2 => spReadItem A K (v :: vs) H2 Q E) := h
/-- a frozen heap and what is new since H -/
theorem jg3 {G H H' : Hp} (eG : Ex G H) (e : Ex H H') : Ex (join G (fresh H H')) H' := join_ex (eG.trans e) (fresh_ex H H')
theorem jgN {G H H' : Hp} {b : Addr} (hG : G b = none) (hH : H b ≠ none) : (join G (fresh H H')) b = none := by
  obtain ⟨u, hu⟩ := Option.ne_none_iff_exists'.mp hH
  exact join_none hG (fresh_no hu)
def spBecome (A : Adr) : Sp := fun vs H Q _ => ∃ (d dd p o : Addr) (J : Hp) (s t : Lst), vs = [.ref d, .ref o] ∧ H d = some (.ins A.Desk dd (heldF (.ref p))) ∧ ListAt A H p s ∧ LOk s ∧ Ex J H ∧ J d = none ∧ ListAt A J o t ∧ LOk t ∧
  ∀ H' r, ExB d H H' → H r = none → H' r = some (.lst (nums (changeNums s t))) → Held A J H' d dd o t → Q (.ref r) H'
theorem ok_become {f : Addr} {fd : FuncData} (T : Txt K mg A) (a : At K mg "become" s_become ["desk", "changed"] f fd) (d_touched : C8.Cal P w K mg base 8 "touched" (spTouched A) []) (d_counted : C8.Cal P w K mg base 1 "counted" spCounted []) : C8.Cal P w K mg base 9 "become" (spBecome A) [] := by
  refine a.cal (ok0 a.fn sc_become (fun vs H Q E h => ?_) (fun cdv Ar outer s H vs Q E hr h => ⟨_, (pss_cons (ps_set (i := 2) sc_become.nd rfl (Or.inl rfl) (C8.pe_c d_touched hr (by decide) rfl (by exact (pa_cons (pe_fld (pv 0) rfl) (pa_cons (pv 1) pa_nil)))))
  (pss_cons (ps_fld (pv 0) (pv 1) rfl)
  (pss_one (ps_ret (pe_op op_cat (pe_lst (pa_cons (pe_callB call_len_seq rfl T.len (by decide +kernel) (pa_cons (pe_fld (pv 1) rfl) pa_nil)) (pa_cons (pe_callB call_len_seq rfl T.len (by decide +kernel) (pa_cons (pe_fld (pv 1) rfl) pa_nil)) pa_nil))) (C8.pe_c d_counted hr (by decide) rfl (by exact (pa_cons (pv 2) pa_nil)))))))), ?_⟩) rfl rfl rfl)
  · obtain ⟨_, _, _, _, _, _, _, rfl, _⟩ := h
    rfl
  · obtain ⟨d, dd, p, o, J, s, t, rfl, hd, hS, hsO, j4, o2, hL2, htO, q⟩ := h
    have hw := hsO.w24
    refine ⟨_, rfl, d, _, dd, _, _, rfl, hd, T.i_Desk.cl, T.n_Desk_held, rfl, _, rfl, p, o, s, t, rfl, hS, hL2.mono j4, by omega, hsO.ws, hsO.ps, htO.ps, fun H3 l e3 hl3 hnum => ?_⟩
    obtain ⟨dl, lw, lp, ws, ps, h1, h2, h3, h4, h5⟩ := id hL2
    have j5 := j4.trans e3
    have od : o ≠ d := fun e => by rw [e, o2] at h1; cases h1
    have wd : lw ≠ d := fun e => by rw [e, o2] at h2; cases h2
    have qd : lp ≠ d := fun e => by rw [e, o2] at h3; cases h3
    have ld : l ≠ d := fun e => by rw [e, hd] at hl3; cases hl3
    refine ⟨_, rfl, _, rfl, d, _, dd, _, rfl, e3 _ _ hd, T.i_Desk.cl, T.n_Desk_held, (by show 1 < 1000; decide), ?_⟩
    refine ⟨_, rfl, o, _, dl, _, _, rfl, (upd_ne od).trans (j5 _ _ h1), T.i_Listing.cl, T.n_Listing_words, rfl, lw, _, rfl, .inl (SqL.of ((upd_ne wd).trans (j5 _ _ h2))), ?_⟩
    refine ⟨_, rfl, o, _, dl, _, _, rfl, (upd_ne od).trans (j5 _ _ h1), T.i_Listing.cl, T.n_Listing_patterns, rfl, lp, _, rfl, .inl (SqL.of ((upd_ne qd).trans (j5 _ _ h3))), by show 2 ≤ sizeLine; decide, fun p5 hp5 => ?_⟩
    have htl : (Vahypz.touched s t).length ≤ s.words.length := by
      rw [touched_eq]
      exact filter_len _ _
    refine ⟨_, rfl, l, _, rfl, ex_new hp5 _ _ ((upd_ne ld).trans hnum), by rw [nums_len]; omega, fun H6 p6 e6 hp6 h6 => ?_⟩
    refine ⟨p5, p6, _, _, rfl, rfl, e6 _ _ upd_same, h6, ?_, fun p7 hp7 => ?_⟩
    · have := nums_len (Vahypz.touched s t)
      exact Evl.sz_of (show 2 + ((nums (Vahypz.touched s t)).length + 1) ≤ 100000 by omega)
    have b36 := fun o6 : HO => (((ExB.upd (r := d) (H := H3) (o := _)).trans (.of (ex_new hp5))).trans (.of e6)).trans (.of (ex_new (o := o6) hp7))
    have hp7a := Evl.fresh_back (ex_new hp5) (Evl.fresh_back e6 hp7)
    have p7d : p7 ≠ d := fun e => by rw [e, upd_same] at hp7a; cases hp7a
    have p5d : p5 ≠ d := fun e => by rw [e, upd_same] at hp5; cases hp5
    refine q _ p7 ((ExB.of e3).trans (b36 _)) (Evl.fresh_back e3 ((upd_ne p7d).symm.trans hp7a)) ?_ ⟨?_, (b36 _).ex j5 o2, o2, hL2, htO⟩
    · rw [upd_same, refs_len, refs_len, nums_len, h4.1, h5.1]
      rfl
    · rw [upd_ne (Ne.symm p7d)]
      refine e6 _ _ ?_
      rw [upd_ne (Ne.symm p5d), upd_same]
      rfl
theorem ok_put {f : Addr} {fd : FuncData} (T : Txt K mg A) (a : At K mg "put" s_put ["desk", "text"] f fd) (d_read_item : CalX P w K mg base 8 "read_item" (spReadItem A K)) (d_with_item : C8.Cal P w K mg base 4 "with_item" (spWithItem A) [])
    (d_is_too_long : C8.Cal P w K mg base 1 "is_too_long" (spTooLong A) []) (d_become : C8.Cal P w K mg base 9 "become" (spBecome A) []) : C8.Cal P w K mg base 10 "put" (spPut A K) [] := by
  refine a.cal (ok0 a.fn sc_put (fun vs H Q E h => ?_) (fun cdv Ar outer s H vs Q E hr h => ⟨_, (pss_cons (ps_try_only (tb := fun W => tAsg (tCallS (spReadItem A K) (WE W) (tCons (tVar 1) tNil)) (gName 2)) (ts := fun a cls d => tRet (tLst (tCons (tC (.int (-4))) tNil))) (Wout := fun _ _ _ _ => False) rfl rfl ⟨rfl, by decide, Or.inl T.flt.gC⟩ no_out (fun W pn xe tk _ => pss_one (ps_set (i := 2) sc_put.nd rfl (Or.inl rfl) (by exact (pe_cS d_read_item hr (by decide) rfl tk (by exact (pa_cons (pv 1) pa_nil)))))) (fun a oe cls d pn hz hf => pss_one (ps_ret (by exact (pe_lst (pa_cons (C8.pe_gc rfl T.c_NOT_RIGHT) pa_nil))))))
  (pss_cons (ps_set (i := 3) sc_put.nd rfl (Or.inl rfl) (C8.pe_c d_with_item hr (by decide) rfl (by exact (pa_cons (pe_fld (pv 0) rfl) (pa_cons (pv 2) pa_nil)))))
  (pss_cons (ps_if (pt_val (C8.pe_c d_is_too_long hr (by decide) rfl (by exact (pa_cons (pv 3) pa_nil)))) (pss_one (ps_ret (pe_lst (pa_cons (C8.pe_gc rfl T.c_TOO_MANY) pa_nil)))) pss_nil)
  (pss_one (ps_ret (C8.pe_c d_become hr (by decide) rfl (by exact (pa_cons (pv 0) (pa_cons (pv 3) pa_nil))))))))), ?_⟩) rfl rfl rfl)
  · obtain ⟨_, _, _, _, _, _, _, rfl, _⟩ := h
    rfl
  · obtain ⟨d, dd, ta, p, G, bs, s, rfl, HD, hS, hz, q4, q5, q⟩ := h
    refine ⟨_, rfl, ri_go (readItem_of hS hz (fun hn c pl H' x e hx => ⟨true, T.flt.te, fun _ ax hax => ⟨by show 1 ≤ sizeLine; decide, fun l hl => q4 hn _ l (e.trans (ex_new hl)) (Evl.fresh_back e hl) upd_same⟩, fun h => by cases h⟩) ?_)⟩
    intro i hi hio H1 p1 e1 hA
    have j1 : Ex G (join G (fresh H H1)) := join_l _ _
    have j2 : Ex (fresh H H1) (join G (fresh H H1)) := fresh_join HD.frz
    have j3 : Ex (join G (fresh H H1)) H1 := join_ex (HD.frz.trans e1) (fresh_ex H H1)
    have hw := HD.ok.w24
    have hp40 := HD.ok.p40
    refine ⟨_, rfl, d, _, dd, _, _, rfl, e1 _ _ HD.desk, T.i_Desk.cl, T.n_Desk_held, rfl, _, rfl, p, p1, join G (fresh H H1), s, i, rfl, j3, HD.lst.mono j1, by omega, by omega, ?_, fun H2 o e2 ho hG => ?_⟩
    · cases i with
      | word v => exact WordAt.mono hA j2
      | pat v => exact PatAt.mono hA j2
    have hL2 : ListAt A (join (join G (fresh H H1)) (fresh H1 H2)) o (Vahypz.put s i) := hG _ (join_l _ _) (fresh_join j3)
    have j4 : Ex (join (join G (fresh H H1)) (fresh H1 H2)) H2 := join_ex (j3.trans e2) (fresh_ex H1 H2)
    have o2 : (join (join G (fresh H H1)) (fresh H1 H2)) d = none := join_none (join_none HD.out (fresh_no HD.desk)) (fresh_no (e1 _ _ HD.desk))
    have hN : ∀ b, G b = none → H b ≠ none → (join (join G (fresh H H1)) (fresh H1 H2)) b = none := fun b hb hH => by
      obtain ⟨u, hu⟩ := Option.ne_none_iff_exists'.mp hH
      exact join_none (join_none hb (fresh_no hu)) (fresh_no (e1 _ _ hu))
    have hpp := put_pats HD.ok hio
    dsimp only [gName]
    refine when2 (b := !Vahypz.fits (Vahypz.put s i)) (fun Q q => ⟨_, rfl, o, _, rfl, hL2.mono j4, _, rfl, q⟩) (fun h => ?_) (fun h => ?_)
    · have hf : Vahypz.fits (Vahypz.put s i) = false := by simpa using h
      refine ⟨by show 1 ≤ sizeLine; decide, fun l hl => q5 i hi hf _ l ((e1.trans e2).trans (ex_new hl)) (Evl.fresh_back (e1.trans e2) hl) upd_same⟩
    have hf : Vahypz.fits (Vahypz.put s i) = true := by simpa using h
    have hok := put_ok HD.ok hio hf
    have e12 := e1.trans e2
    refine ⟨_, rfl, _, rfl, d, dd, p, o, _, s, Vahypz.put s i, rfl, e12 _ _ HD.desk, HD.lst.mono (HD.frz.trans e12), HD.ok, j4, o2, hL2, hok, fun H' r eB hr h7 hH => ?_⟩
    exact q i hi hf _ r o _ ((ExB.of e12).trans eB) (Evl.fresh_back e12 hr) h7 hH hN
end
end Pw
set_option Elab.async false
set_option linter.all false
set_option maxRecDepth 100000
set_option maxHeartbeats 2000000
/-! patterns.py: report -/
namespace Pw
open PySem PySem.Spec PyProof.Rows L2
open VahypBase (inChunk isLetter isDigit PTok Toks)
open Vahypa (Word Pat Lst wordOf patOf hyphened showPat gaps levelAt)
theorem report_none {s : Lst} {i : Int} (h : VahypBase.index i s.words.length = none) : Vahypz.looked s (.report i) = VahypBase.one (-2) := by
  show (match (VahypBase.index i s.words.length).bind fun k => s.words[k]? with | none => VahypBase.one (-2) | some w => _) = _
  rw [h]
  rfl
def reportNums (s : Lst) (v : Word) : List Nat := let z := Vahypa.scoreWord s v; let l := Vahypz.fitting s v.x; [if Vahypa.exact s v = true then 1 else 0, z.hits, z.faults, z.misses, (Vahypa.levels s.pats v.x).foldl Nat.max 0, l.length] ++ l
/-- an answer, number by number -/
def ansV (a : VahypBase.Answer) : List V := .int a.value :: a.rest.map V.int
theorem report_some {s : Lst} {i : Int} {n : Nat} {v : Word} (h : VahypBase.index i s.words.length = some n) (hv : s.words[n]? = some v) : ansV (Vahypz.looked s (.report i)) = nums (reportNums s v) := by
  show ansV (match (VahypBase.index i s.words.length).bind fun k => s.words[k]? with | none => VahypBase.one (-2) | some w => let z := Vahypa.scoreWord s w; let l := Vahypz.fitting s w.x; ⟨(if Vahypa.exact s w = true then 1 else 0), VahypBase.nats ([z.hits, z.faults, z.misses, (Vahypa.levels s.pats w.x).foldl Nat.max 0, l.length] ++ l)⟩) = _
  rw [h]
  show ansV (match s.words[n]? with | none => VahypBase.one (-2) | some w => let z := Vahypa.scoreWord s w; let l := Vahypz.fitting s w.x; ⟨(if Vahypa.exact s w = true then 1 else 0), VahypBase.nats ([z.hits, z.faults, z.misses, (Vahypa.levels s.pats w.x).foldl Nat.max 0, l.length] ++ l)⟩) = _
  rw [hv]
  show V.int (if Vahypa.exact s v = true then 1 else 0) :: (VahypBase.nats _).map V.int = _
  have e : ∀ l : List Nat, (VahypBase.nats l).map V.int = nums l := fun l => by
    unfold VahypBase.nats nums
    rw [List.map_map]
    rfl
  rw [e]
  unfold reportNums
  by_cases hx : Vahypa.exact s v = true
  · rw [if_pos hx, if_pos hx]
    rfl
  · rw [if_neg hx, if_neg hx]
    rfl
theorem v_ifE {t : TT} {ta tb : TE} {σ : L2.St} {H : Hp} {b : Bool} {x y : V} (h : Ans t σ H b) (ha : Val ta σ H x) (hb : Val tb σ H y) : Val (tIf t ta tb) σ H (if b = true then x else y) := fun Q q => h _ (b2 (fun e => ha _ (by rw [if_pos e] at q; exact q)) (fun e => hb _ (by rw [e, if_neg Bool.false_ne_true] at q; exact q)))
section
variable {P : Program} {w : World} {K : PySem.W.Frag} {mg : Str → Option Value} {base : Heap} {A : Adr}
def spReport (A : Adr) : Sp := fun vs H Q _ => ∃ (a : Addr) (s : Lst) (i : Int), vs = [.ref a, .int i] ∧ ListAt A H a s ∧ LOk s ∧ GivesB Q H (ansV (Vahypz.looked s (.report i)))
theorem ok_report {f : Addr} {fd : FuncData} (T : Txt K mg A) (a : At K mg "report" s_report ["listing", "number"] f fd) (d_odd_gaps : C8.Cal P w K mg base 5 "odd_gaps" (spOdd A) []) (d_held_against : C8.Cal P w K mg base 2 "held_against" (spHeld A K) [])
    (d_greatest_level : C8.Cal P w K mg base 5 "greatest_level" (spGreatest A) []) (d_fitting_patterns : C8.Cal P w K mg base 4 "fitting_patterns" (spFitting A) []) (d_has_number : C8.Cal P w K mg base 1 "has_number" spHas []) (d_counted : C8.Cal P w K mg base 1 "counted" spCounted []) : C8.Cal P w K mg base 6 "report" (spReport A) [] := by
  refine a.cal (ok0 a.fn sc_report (fun vs H Q E h => ?_) (fun cdv Ar outer s H vs Q E hr h => ⟨_, (pss_cons (ps_if (pt_not (pt_val (C8.pe_c d_has_number hr (by decide) rfl (by exact (pa_cons (pe_fld (pv 0) rfl) (pa_cons (pv 1) pa_nil)))))) (pss_one (ps_ret (pe_lst (pa_cons (C8.pe_gc rfl T.c_NO_SUCH) pa_nil)))) pss_nil)
  (pss_cons (ps_set (i := 2) sc_report.nd rfl (Or.inl rfl) (pe_ix ix_list (pe_fld (pv 0) rfl) (pv 1) (fun _ _ => rfl)))
  (pss_cons (ps_set (i := 3) sc_report.nd rfl (Or.inl rfl) (C8.pe_c d_odd_gaps hr (by decide) rfl (by exact (pa_cons (pe_fld (pv 0) rfl) (pa_cons (pe_fld (pv 2) rfl) pa_nil)))))
  (pss_cons (ps_set (i := 4) sc_report.nd rfl (Or.inl rfl) (C8.pe_c d_held_against hr (by decide) rfl (by exact (pa_cons (pv 2) (pa_cons (pv 3) (pa_cons (pe_fld (pv 0) rfl) (pa_cons (pe_fld (pv 0) rfl) pa_nil)))))))
  (pss_cons (ps_set (i := 5) sc_report.nd rfl (Or.inl rfl) (pe_ifExp (PW.pt (pw_and (pt_cmpR op_eq (pe_ix ix_tup (pv 4) pe_int (fun _ _ => rfl)) pe_int (nomark _)) (pw_and1 (pt_cmpR op_eq (pe_ix ix_tup (pv 4) pe_int (fun _ _ => rfl)) pe_int (nomark _))))) pe_int pe_int))
  (pss_cons (ps_set (i := 6) sc_report.nd rfl (Or.inl rfl) (C8.pe_c d_greatest_level hr (by decide) rfl (by exact (pa_cons (pe_fld (pv 0) rfl) (pa_cons (pe_fld (pv 2) rfl) pa_nil)))))
  (pss_cons (ps_set (i := 7) sc_report.nd rfl (Or.inl rfl) (C8.pe_c d_fitting_patterns hr (by decide) rfl (by exact (pa_cons (pe_fld (pv 0) rfl) (pa_cons (pe_fld (pv 2) rfl) pa_nil)))))
  (pss_one (ps_ret (pe_op op_cat (pe_op op_cat (pe_op op_cat (pe_lst (pa_cons (pv 5) pa_nil)) (pe_callTy call_list_of rfl T.ty_list (by decide +kernel) (pa_cons (pv 4) pa_nil))) (pe_lst (pa_cons (pv 6) pa_nil))) (C8.pe_c d_counted hr (by decide) rfl (by exact (pa_cons (pv 7) pa_nil))))))))))))), ?_⟩) rfl rfl rfl)
  · obtain ⟨_, _, _, rfl, _⟩ := h
    rfl
  · obtain ⟨a, s, i, rfl, hL, hO, q⟩ := h
    obtain ⟨dx, lw, lp, ws, ps, h1, h2, h3, h4, h5⟩ := id hL
    refine when2 (b := !hasNo i s.words.length) (fun Q q => ⟨_, rfl, a, _, dx, _, _, rfl, h1, T.i_Listing.cl, T.n_Listing_words, rfl, _, rfl, lw, _, i, rfl, h2, by rw [refs_len, h4.1]; exact ⟨_, rfl, q⟩⟩) (fun h => ?_) (fun h => ?_)
    · have hidx : VahypBase.index i s.words.length = none := by
        rw [index_has, if_neg (by simpa using h)]
      rw [report_none hidx] at q
      exact ⟨by show 1 ≤ sizeLine; decide, fun l hl => q _ l (ex_new hl) hl upd_same⟩
    obtain ⟨n, rfl, hn⟩ := hasNo_iff (by simpa using h)
    have hv := some_at hn
    have hidx : VahypBase.index (n : Int) s.words.length = some n := by
      unfold VahypBase.index
      rw [if_pos (by omega)]
      rfl
    obtain ⟨pw, x0, hpw, hx0, hW⟩ := h4.at2 (i := n) (by rw [refs_len, h4.1]; exact hn)
    obtain rfl : s.words[n] = x0 := Option.some.inj (hv.symm.trans hx0)
    have hWO := hO.ws _ (List.mem_of_getElem? hv)
    obtain ⟨dv, g, hw1, hw2⟩ := id hW
    have hpatw : atI (ws.map V.ref) (n : Int) = some (.ref pw) := atI_nat (by rw [List.getElem?_map, hpw]; rfl)
    have hP : PatsAt A H lp s.pats := ⟨ps, h3, h5⟩
    refine ⟨_, rfl, a, _, dx, _, _, rfl, h1, T.i_Listing.cl, T.n_Listing_words, rfl, _, rfl, lw, _, _, _, rfl, rfl, SqL.of h2, hpatw, ?_⟩
    refine ⟨_, rfl, a, _, dx, _, _, rfl, h1, T.i_Listing.cl, T.n_Listing_patterns, rfl, _, rfl, pw, _, dv, _, _, rfl, hw1, T.i_Word.cl, T.n_Word_letters, rfl, lp, s.pats, s.words[n].x, rfl, hP, hO.ps, hWO.most, fun H1 o e1 ho1 ho2 => ?_⟩
    refine ⟨_, rfl, _, rfl, _, rfl, a, _, dx, _, _, rfl, e1 _ _ h1, T.i_Listing.cl, T.n_Listing_left, rfl, _, rfl, a, _, dx, _, _, rfl, e1 _ _ h1, T.i_Listing.cl, T.n_Listing_right, rfl, pw, o, s.words[n], s.pats, s.l, s.r, rfl, hW.mono e1, hWO, SqL.of ho2, fun H2 t e2 ht1 ht2 => ?_⟩
    rw [report_some hidx hv] at q
    dsimp only [gName]
    have htup : ∀ {σ : L2.St}, σ[4]? = some (some (.ref t)) → ∀ j v, atI [V.int ((Vahypa.scoreWord s s.words[n]).hits : Int), .int ((Vahypa.scoreWord s s.words[n]).faults : Int), .int ((Vahypa.scoreWord s s.words[n]).misses : Int)] j = some v → Val (tOp (rIxT K) (tVar 4) (tC (.int j))) σ H2 v := fun hσ j v hj => v_ixT (val_var hσ) val_c (SqT.of ht2) hj
    refine st_seq (v_ifE (x := .int 1) (y := .int 0) (a_and (a_t (v_eqI (htup rfl 1 (.int ((Vahypa.scoreWord s s.words[n]).faults : Int)) rfl) val_c)) (fun _ => a_t (v_eqI (htup rfl 2 (.int ((Vahypa.scoreWord s s.words[n]).misses : Int)) rfl) val_c))) val_c val_c _ ?_)
    have hex : (decide (((Vahypa.scoreWord s s.words[n]).faults : Int) = 0) && decide (((Vahypa.scoreWord s s.words[n]).misses : Int) = 0)) = Vahypa.exact s s.words[n] := by
      show _ = ((Vahypa.scoreWord s s.words[n]).faults == 0 && (Vahypa.scoreWord s s.words[n]).misses == 0)
      rw [beq_dec, beq_dec]
      congr 1
      · by_cases h0 : (Vahypa.scoreWord s s.words[n]).faults = 0
        · rw [decide_eq_true h0, decide_eq_true (by omega)]
        · rw [decide_eq_false h0, decide_eq_false (by omega)]
      · by_cases h0 : (Vahypa.scoreWord s s.words[n]).misses = 0
        · rw [decide_eq_true h0, decide_eq_true (by omega)]
        · rw [decide_eq_false h0, decide_eq_false (by omega)]
    rw [hex]
    dsimp only [gName]
    have e12 := e1.trans e2
    refine ⟨_, rfl, a, _, dx, _, _, rfl, e12 _ _ h1, T.i_Listing.cl, T.n_Listing_patterns, rfl, _, rfl, pw, _, dv, _, _, rfl, e12 _ _ hw1, T.i_Word.cl, T.n_Word_letters, rfl, lp, s.pats, s.words[n].x, rfl, hP.mono e12, hO.ps, hWO.two, hWO.most, fun H3 e3 => ?_⟩
    have e13 := e12.trans e3
    refine ⟨_, rfl, a, _, dx, _, _, rfl, e13 _ _ h1, T.i_Listing.cl, T.n_Listing_patterns, rfl, _, rfl, pw, _, dv, _, _, rfl, e13 _ _ hw1, T.i_Word.cl, T.n_Word_letters, rfl, lp, s.pats, s.words[n].x, rfl, hP.mono e13, hO.ps, by have := hO.p40; omega, hWO.most, fun H4 l e4 hl1 hl2 => ?_⟩
    have e14 := e13.trans e4
    refine ⟨_, rfl, by show 1 ≤ sizeLine; decide, fun p1 hp1 => ?_⟩
    refine ⟨_, rfl, t, _, rfl, .inr (SqT.of (ex_new hp1 _ _ (e4 _ _ (e3 _ _ ht2)))), fun p2 hp2 => ?_⟩
    refine ⟨p1, p2, _, _, rfl, rfl, ex_new hp2 _ _ upd_same, upd_same, by show 1 + 3 ≤ sizeLine; decide, fun p3 hp3 => ?_⟩
    refine ⟨_, rfl, by show 1 ≤ sizeLine; decide, fun p4 hp4 => ?_⟩
    refine ⟨p3, p4, _, _, rfl, rfl, ex_new hp4 _ _ upd_same, upd_same, by show 4 + 1 ≤ sizeLine; decide, fun p5 hp5 => ?_⟩
    have hfl : (fitNums s.pats s.words[n].x).length ≤ s.pats.length := filter_len _ _
    have hp40 := hO.p40
    refine ⟨_, rfl, l, _, rfl, ex_new hp5 _ _ (ex_new hp4 _ _ (ex_new hp3 _ _ (ex_new hp2 _ _ (ex_new hp1 _ _ hl2)))), by rw [nums_len]; omega, fun H6 p6 e6 hp6 h6 => ?_⟩
    refine ⟨p5, p6, _, _, rfl, rfl, e6 _ _ upd_same, h6, ?_, fun p7 hp7 => ?_⟩
    · have := nums_len (fitNums s.pats s.words[n].x)
      exact Evl.sz_of (show 5 + ((nums (fitNums s.pats s.words[n].x)).length + 1) ≤ 100000 by omega)
    refine q _ p7 (Evl.Ex.trans ?e (ex_new hp7)) (Evl.fresh_back ?e hp7) ?_
    case e => exact (((((e14.trans (ex_new hp1)).trans (ex_new hp2)).trans (ex_new hp3)).trans (ex_new hp4)).trans (ex_new hp5)).trans e6
    rw [upd_same, nums_len]
    unfold reportNums
    by_cases hx : Vahypa.exact s s.words[n] = true
    · rw [if_pos hx, if_pos hx]
      rfl
    · rw [if_neg hx, if_neg hx]
      rfl
end
end Pw
set_option Elab.async false
set_option linter.all false
set_option maxRecDepth 100000
set_option maxHeartbeats 2000000
/-! patterns.py: split_calls -/
namespace Pw
open PySem PySem.Spec PyProof.Rows L2
/-! ### what is given to a call -/
inductive Part where
  | n (x : Int)
  | r (l : List Int)
def Part.flat : Part → List Int
  | .n x => [x]
  | .r l => (l.length : Int) :: l
def Part.kind : Part → V
  | .n _ => .str "number"
  | .r _ => .str "row"
def partsOf : List (List Int) → List Part
  | (_ :: xs) :: rows => xs.map Part.n ++ rows.map Part.r
  | _ => []
def flats (ps : List Part) : List Int := ps.flatMap Part.flat
theorem flats_n (xs : List Int) : flats (xs.map Part.n) = xs := by
  induction xs with
  | nil => rfl
  | cons x r ih =>
    show [x] ++ flats (r.map Part.n) = _
    rw [ih]
    rfl
theorem flats_r (rows : List (List Int)) : flats (rows.map Part.r) = PyFlat.putRows rows := by
  induction rows with
  | nil => rfl
  | cons x r ih =>
    show ((x.length : Int) :: x) ++ flats (r.map Part.r) = _
    rw [ih]
    rfl
theorem flats_app (a b : List Part) : flats (a ++ b) = flats a ++ flats b := by
  unfold flats
  exact List.flatMap_append
theorem put1_parts (p : Int) (xs : List Int) (rows : List (List Int)) : PyFlat.put1 ((p :: xs) :: rows) = p :: flats (partsOf ((p :: xs) :: rows)) := by
  show (p :: xs) ++ PyFlat.putRows rows = p :: flats (xs.map Part.n ++ rows.map Part.r)
  rw [flats_app, flats_n, flats_r]
  rfl
def PartV (H : Hp) (v : V) : Part → Prop
  | .n x => v = .int x
  | .r l => ∃ a, v = .ref a ∧ H a = some (.lst (l.map V.int))
theorem PartV.mono {H H' : Hp} {v : V} {q : Part} (h : PartV H v q) (e : Ex H H') : PartV H' v q := by
  cases q with
  | n x => exact h
  | r l =>
    obtain ⟨a, h1, h2⟩ := h
    exact ⟨a, h1, e _ _ h2⟩
def AllV (H : Hp) : List V → List Part → Prop
  | [], [] => True
  | v :: vs, q :: qs => PartV H v q ∧ AllV H vs qs
  | _, _ => False
theorem AllV.mono {H H' : Hp} (e : Ex H H') : ∀ {vs : List V} {qs : List Part}, AllV H vs qs → AllV H' vs qs
  | [], [], _ => trivial
  | [], _ :: _, h => h.elim
  | _ :: _, [], h => h.elim
  | _ :: _, _ :: _, h => ⟨h.1.mono e, AllV.mono e h.2⟩
theorem AllV.snoc {H : Hp} {v : V} {q : Part} (k : PartV H v q) : ∀ {vs : List V} {qs : List Part}, AllV H vs qs → AllV H (vs ++ [v]) (qs ++ [q])
  | [], [], _ => ⟨k, trivial⟩
  | [], _ :: _, h => h.elim
  | _ :: _, [], h => h.elim
  | _ :: _, _ :: _, h => ⟨h.1, AllV.snoc k h.2⟩
theorem AllV.len {H : Hp} : ∀ {vs : List V} {qs : List Part}, AllV H vs qs → vs.length = qs.length
  | [], [], _ => rfl
  | [], _ :: _, h => h.elim
  | _ :: _, [], h => h.elim
  | _ :: _, _ :: _, h => congrArg (· + 1) (AllV.len h.2)
/-- a call, split -/
def CallAt (H : Hp) (a : Addr) (c : List (List Int)) : Prop := ∃ (p : Int) (xs : List Int) (rows : List (List Int)) (vs : List V), c = (p :: xs) :: rows ∧ H a = some (.lst (.int p :: vs)) ∧ AllV H vs (partsOf c)
theorem CallAt.mono {H H' : Hp} {a : Addr} {c : List (List Int)} (h : CallAt H a c) (e : Ex H H') : CallAt H' a c := by
  obtain ⟨p, xs, rows, vs, h1, h2, h3⟩ := h
  exact ⟨p, xs, rows, vs, h1, e _ _ h2, h3.mono e⟩
theorem cut_int {l : List Int} {i n : Nat} {r s : List Int} (h : l.drop i = r ++ s) (hn : r.length = n) (hi : i ≤ l.length) : cutV (l.map V.int) (some (i : Int)) (some ((i : Int) + (n : Int))) = r.map V.int := by
  unfold cutV
  have hl : (l.map V.int).length = l.length := List.length_map ..
  have h2 : i + n ≤ l.length := by
    have := congrArg List.length h
    rw [List.length_drop, List.length_append] at this
    omega
  rw [hl, show (i : Int) + (n : Int) = ((i + n : Nat) : Int) from rfl, HT.sIx_nat, HT.sIx_nat, Nat.min_eq_left hi, Nat.min_eq_left h2, Nat.add_sub_cancel_left, ← List.map_drop, h, ← List.map_take, ← hn, List.take_left]
/-- what the written table says of each call -/
def GivOk (K : PySem.W.Frag) (gs : List V) : Prop := ∀ (p : Int) (n k : Nat), PyVahypz.shape p = some (n, k) → ∃ g : Addr, atI gs p = some (.ref g) ∧ KT K g (List.replicate n (.str "number") ++ List.replicate k (.str "row"))
theorem kinds_eq (xs : List Int) (rows : List (List Int)) : (xs.map Part.n ++ rows.map Part.r).map Part.kind = List.replicate xs.length (.str "number") ++ List.replicate rows.length (.str "row") := by
  have h1 : ∀ l : List Int, (l.map Part.n).map Part.kind = List.replicate l.length (.str "number") := fun l => by
    induction l with
    | nil => rfl
    | cons x r ih =>
      rw [List.map_cons, List.map_cons, ih]
      rfl
  have h2 : ∀ l : List (List Int), (l.map Part.r).map Part.kind = List.replicate l.length (.str "row") := fun l => by
    induction l with
    | nil => rfl
    | cons x r ih =>
      rw [List.map_cons, List.map_cons, ih]
      rfl
  rw [List.map_append, h1, h2]
theorem len_flats : ∀ ps : List Part, ps.length ≤ (flats ps).length
  | [] => Nat.le_refl _
  | q :: r => by
    have ih := len_flats r
    show r.length + 1 ≤ (q.flat ++ flats r).length
    have : 1 ≤ q.flat.length := by
      cases q with
      | n x => exact Nat.le_refl _
      | r l => exact Nat.succ_le_succ (Nat.zero_le _)
    rw [List.length_append]
    omega
theorem put_app (a b : List (List (List Int))) : PyFlat.put (a ++ b) = PyFlat.put a ++ PyFlat.put b := by
  induction a with
  | nil => rfl
  | cons c r ih =>
    show PyFlat.put1 c ++ PyFlat.put (r ++ b) = PyFlat.put1 c ++ PyFlat.put r ++ PyFlat.put b
    rw [ih, List.append_assoc]
theorem ints_at {l : List Int} {i : Nat} {p : Int} {r : List Int} (h : l.drop i = p :: r) : atI (l.map V.int) (i : Int) = some (.int p) := by
  refine atI_nat ?_
  rw [List.getElem?_map]
  have : l[i]? = some p := by
    have := congrArg (fun z => z[0]?) h
    simpa using this
  rw [this]
  rfl
section
variable {P : Program} {w : World} {K : PySem.W.Frag} {mg : Str → Option Value} {base : Heap} {A : Adr}
def spSplit (K : PySem.W.Frag) : Sp := fun vs H Q _ => ∃ (a : Addr) (l : List Int) (cs : List (List (List Int))), vs = [.ref a] ∧ SqL K H a (l.map V.int) ∧ l.length ≤ 20000 ∧ l = PyFlat.put cs ∧ (∀ c ∈ cs, PyFlat.okCall PyVahypz.shape c) ∧
  ∀ H' r as, Ex H H' → H r = none → H' r = some (.lst (as.map V.ref)) → Each (CallAt (fresh H H')) as cs → Q (.ref r) H'
theorem ok_split_calls {f : Addr} {fd : FuncData} (T : Txt K mg A) (a : At K mg "split_calls" s_split_calls ["calls"] f fd) {gs : List V} (hgs : KT K A.t_GIVEN gs) (hgo : GivOk K gs) : C8.Cal P w K mg base 1 "split_calls" (spSplit K) [] := by
  refine a.cal (ok0 a.fn sc_split_calls (fun vs H Q E h => ?_) (fun cdv Ar outer s H vs Q E hr h => ⟨_, (pss_cons (ps_set (i := 1) sc_split_calls.nd rfl (Or.inl rfl) (pe_lst pa_nil))
  (pss_cons (ps_set (i := 2) sc_split_calls.nd rfl (Or.inl rfl) pe_int)
  (pss_cons (ps_while PassesOwn.never (pt_cmpR op_lt (pv 2) (pe_callB call_len_seq rfl T.len (by decide +kernel) (pa_cons (pv 0) pa_nil)) (nomark _)) (pss_cons (ps_set (i := 3) sc_split_calls.nd rfl (Or.inl rfl) (pe_lst (pa_cons (pe_ix ix_list (pv 0) (pv 2) (fun _ _ => rfl)) pa_nil)))
    (pss_cons (ps_aug (i := 2) sc_split_calls.nd rfl (Or.inl rfl) pe_int ip_add)
    (pss_cons (ps_for PassesOwn.never rfl (pi_tup (pe_ix ix_tup (C8.pe_gc rfl T.c_GIVEN) (pe_ix ix_list (pv 3) pe_int (fun _ _ => rfl)) (fun _ _ => rfl))) (pg_name (i := 4) sc_split_calls.nd rfl (Or.inl rfl)) (pss_one (ps_if (pt_cmpR op_eq (pv 4) pe_str (nomark _)) (pss_cons (ps_expr (pe_bm PySem.F.plainAttrs_list PySem.F.slot_list_append PySem.F.type_list_append mt_append (pv 3) (pa_cons (pe_ix ix_list (pv 0) (pv 2) (fun _ _ => rfl)) pa_nil)))
        (pss_one (ps_aug (i := 2) sc_split_calls.nd rfl (Or.inl rfl) pe_int ip_add))) (pss_cons (ps_set (i := 5) sc_split_calls.nd rfl (Or.inl rfl) (pe_op op_add (pe_op op_add (pv 2) pe_int) (pe_ix ix_list (pv 0) (pv 2) (fun _ _ => rfl))))
        (pss_cons (ps_expr (pe_bm PySem.F.plainAttrs_list PySem.F.slot_list_append PySem.F.type_list_append mt_append (pv 3) (pa_cons (pe_slice sl_list (pv 0) (po_some (pe_op op_add (pv 2) pe_int)) (po_some (pv 5))) pa_nil)))
        (pss_one (ps_set (i := 2) sc_split_calls.nd rfl (Or.inl rfl) (pv 5))))))))
    (pss_one (ps_expr (pe_bm PySem.F.plainAttrs_list PySem.F.slot_list_append PySem.F.type_list_append mt_append (pv 1) (pa_cons (pv 3) pa_nil))))))))
  (pss_one (ps_ret (pv 1)))))), ?_⟩) rfl rfl rfl)
  · obtain ⟨_, _, _, rfl, _⟩ := h
    rfl
  · obtain ⟨a, l, cs, rfl, hS, hz, hl, hok, q⟩ := h
    have hlen : ∀ {σ : L2.St} {H' : Hp}, σ[0]? = some (some (.ref a)) → Ex H H' → Val (tCB (Evl.rLenS K) (tCons (tVar 0) tNil)) σ H' (.int (l.length : Int)) := fun hσ e => by
      have := v_lenL (K := K) (val_var hσ) (Evl.ex_l e hS)
      rw [List.length_map] at this
      exact this
    refine ⟨by show 0 ≤ sizeLine; decide, fun fo hfo => ?_⟩
    dsimp only [gName]
    refine st_seq (while2 (fun m σ' H' => ∃ (dn rs : List (List (List Int))) (as : List Addr) (v3 v4 v5 : Option V), σ' = [some (.ref a), some (.ref fo), some (.int ((PyFlat.put dn).length : Int)), v3, v4, v5] ∧ cs = dn ++ rs ∧ Ex H H' ∧ H' fo = some (.lst (as.map V.ref)) ∧
      Each (CallAt (fresh (upd H fo (.lst [])) H')) as dn ∧ m = rs.length) _ ⟨[], cs, [], none, none, none, rfl, rfl, ex_new hfo, upd_same, .nil, rfl⟩ ?_)
    rintro m σ H' ⟨dn, rs, as, v3, v4, v5, rfl, hcs, eH, hfo', hE, rfl⟩
    have hl2 : l = PyFlat.put dn ++ PyFlat.put rs := by rw [hl, hcs, put_app]
    refine ⟨_, a_t (w_lt (val_var rfl) (hlen rfl eH)), fun h => ?_, fun h => ?_⟩
    · have hlt : (PyFlat.put dn).length < l.length := by have := of_decide_eq_true h; omega
      cases rs with
      | nil =>
        rw [hl2, List.length_append] at hlt
        exact absurd hlt (by show ¬ _ < _ + 0; omega)
      | cons c rs =>
        obtain ⟨p, xs, rows, rfl, hsh⟩ := hok c (by rw [hcs]; exact List.mem_append_right _ (List.mem_cons_self ..))
        have hdr : l.drop (PyFlat.put dn).length = p :: (flats (partsOf ((p :: xs) :: rows)) ++ PyFlat.put rs) := by
          rw [hl2, List.drop_left]
          show PyFlat.put1 ((p :: xs) :: rows) ++ PyFlat.put rs = _
          rw [put1_parts]
          rfl
        obtain ⟨g, hg1, hg2⟩ := hgo p _ _ hsh
        rw [← kinds_eq] at hg2
        have hS' := Evl.ex_l eH hS
        refine ⟨_, rfl, _, rfl, a, _, _, _, rfl, rfl, hS', ints_at hdr, by show 1 ≤ sizeLine; decide, fun ca hca => ?_⟩
        have hcf : ca ≠ fo := fun e => by rw [e, hfo'] at hca; cases hca
        refine ⟨_, rfl, _, _, rfl, rfl, ?_⟩
        refine ⟨_, rfl, ca, _, _, _, rfl, rfl, SqL.of upd_same, rfl, A.t_GIVEN, gs, p, _, rfl, rfl, hgs _, hg1, g, rfl, ⟨_, hg2 _⟩, ?_⟩
        generalize hpp : partsOf ((p :: xs) :: rows) = parts at hdr
        have hpp' : xs.map Part.n ++ rows.map Part.r = parts := hpp
        refine for_it (walk_tup (K := K) (a := g) (xs := (xs.map Part.n ++ rows.map Part.r).map Part.kind)) (fun j σ2 H2 => ∃ (vs : List V) (v4 v5 : Option V), σ2 = [some (.ref a), some (.ref fo), some (.int (((PyFlat.put dn).length + 1 + (flats (parts.take j)).length : Nat) : Int)), some (.ref ca), v4, v5] ∧ Ex H' H2 ∧
          H2 ca = some (.lst (.int p :: vs)) ∧ AllV (fresh (upd H' ca (.lst [.int p])) H2) vs (parts.take j)) ⟨[], v4, v5, rfl, ex_new hca, upd_same, trivial⟩ (fun _ _ _ _ _ => hg2 _) ?_ ?_
        · rintro j y σ2 H2 H3 hj ⟨vs, w4, w5, rfl, e2, hca2, hall⟩ ⟨rfl, hy⟩
          have hd1 : l.drop ((PyFlat.put dn).length + 1) = flats parts ++ PyFlat.put rs := by
            have := congrArg (List.drop 1) hdr
            rw [List.drop_drop] at this
            exact this
          obtain ⟨q0, hq0, hyq⟩ : ∃ q0, parts[j]? = some q0 ∧ y = q0.kind := by
            rw [hpp', List.getElem?_map] at hy
            cases e : parts[j]? with
            | none => rw [e] at hy; cases hy
            | some q0 => rw [e] at hy; exact ⟨q0, rfl, (Option.some.inj hy).symm⟩
          have hfl : flats parts = flats (parts.take j) ++ (q0.flat ++ flats (parts.drop (j + 1))) := by
            conv => lhs; rw [← List.take_append_drop j parts]
            rw [flats_app, drop_at hq0]
            rfl
          have hd2 : l.drop ((PyFlat.put dn).length + 1 + (flats (parts.take j)).length) = q0.flat ++ (flats (parts.drop (j + 1)) ++ PyFlat.put rs) := by
            rw [← List.drop_drop, hd1, hfl, List.append_assoc, List.drop_left, List.append_assoc]
          have htk : parts.take (j + 1) = parts.take j ++ [q0] := by
            rw [List.take_add_one, hq0]
            rfl
          have hln : (flats (parts.take (j + 1))).length = (flats (parts.take j)).length + q0.flat.length := by
            rw [htk, flats_app, List.length_append]
            congr 1
            show (q0.flat ++ []).length = _
            rw [List.append_nil]
          have hvs : vs.length ≤ 20000 := by
            rw [hall.len, List.length_take]
            have h1 := len_flats parts
            have h2 := congrArg List.length hd1
            rw [List.length_drop, List.length_append] at h2
            omega
          have hS2 := Evl.ex_l (eH.trans e2) hS
          have hfr : ∀ o, Ex (fresh (upd H' ca (.lst [.int p])) H3) (fresh (upd H' ca (.lst [.int p])) (upd H3 ca o)) := fun o b u hb => by
            obtain ⟨h1, h2⟩ := fresh_some hb
            have hbc : b ≠ ca := fun e => by rw [e, upd_same] at h1; cases h1
            rw [fresh_at h1, upd_ne hbc]
            exact h2
          subst hyq
          dsimp only [gName]
          cases q0 with
          | n x =>
            refine if2 (b := decide (Str.ofString "number" = Str.ofString "number")) (a_t (v_eqS (val_var rfl) val_c)) (fun _ => ?_) (fun h => absurd h (by rw [decide_eq_true rfl]; exact fun e => Bool.noConfusion e))
            refine ⟨_, rfl, .inl ⟨rfl, _, SqL.of hca2⟩, _, rfl, _, rfl, a, _, _, _, rfl, rfl, hS2, ints_at hd2, ca, _, _, rfl, rfl, hca2, Evl.sz_lt (by rw [List.length_cons]; omega), ?_⟩
            refine ⟨_, rfl, _, _, rfl, rfl, ?_⟩
            refine ⟨vs ++ [.int x], some (.str (Str.ofString "number")), w5, ?_, Evl.Ex.mut e2 hca, ?_, ?_⟩
            · rw [hln]
              rfl
            · rw [upd_same]
              rfl
            · rw [htk]
              exact AllV.snoc (show PartV _ (.int x) (.n x) from rfl) (hall.mono (hfr _))
          | r row =>
            refine if2 (b := decide (Str.ofString "row" = Str.ofString "number")) (a_t (v_eqS (val_var rfl) val_c)) (fun h => absurd h (by decide +kernel)) (fun _ => ?_)
            refine ⟨_, rfl, _, _, rfl, rfl, _, rfl, _, rfl, a, _, _, _, rfl, rfl, hS2, ints_at hd2, _, _, rfl, rfl, ?_⟩
            dsimp only [gName]
            refine ⟨_, rfl, .inl ⟨rfl, _, SqL.of hca2⟩, _, rfl, _, rfl, _, _, rfl, rfl, _, rfl, _, rfl, _, rfl, a, _, rfl, hS2, fun ra hra => ?_⟩
            have hd3 : l.drop ((PyFlat.put dn).length + 1 + (flats (parts.take j)).length + 1) = row ++ (flats (parts.drop (j + 1)) ++ PyFlat.put rs) := by
              have := congrArg (List.drop 1) hd2
              rw [List.drop_drop] at this
              exact this
            have hin : (PyFlat.put dn).length + 1 + (flats (parts.take j)).length + 1 ≤ l.length := by
              have h2 := congrArg List.length hd2
              rw [List.length_drop, List.length_append] at h2
              have h3 : (Part.r row).flat.length = row.length + 1 := rfl
              omega
            have hcut := cut_int hd3 rfl hin
            have hcut2 : cutV (l.map V.int) (some ((((PyFlat.put dn).length + 1 + (flats (parts.take j)).length : Nat) : Int) + 1)) (some ((((PyFlat.put dn).length + 1 + (flats (parts.take j)).length : Nat) : Int) + 1 + (row.length : Int))) = row.map V.int := hcut
            rw [hcut2] at *
            have rca : ra ≠ ca := fun e => by rw [e, hca2] at hra; cases hra
            refine ⟨ca, _, _, rfl, rfl, ex_new hra _ _ hca2, Evl.sz_lt (by rw [List.length_cons]; omega), ?_⟩
            refine ⟨_, rfl, ?_⟩
            have hra0 := Evl.fresh_back e2 hra
            refine ⟨vs ++ [.ref ra], some (.str (Str.ofString "row")), some (.int ((((PyFlat.put dn).length + 1 + (flats (parts.take j)).length : Nat) : Int) + 1 + (row.length : Int))), ?_, Evl.Ex.mut (e2.trans (ex_new hra)) hca, ?_, ?_⟩
            · have e : (((PyFlat.put dn).length + 1 + (flats (parts.take j)).length : Nat) : Int) + 1 + (row.length : Int) = (((PyFlat.put dn).length + 1 + ((flats (parts.take j)).length + (Part.r row).flat.length) : Nat) : Int) := by
                have : (Part.r row).flat.length = row.length + 1 := rfl
                omega
              rw [hln, ← e]
              rfl
            · rw [upd_same]
              rfl
            · rw [htk]
              have hfr2 : Ex (fresh (upd H' ca (.lst [.int p])) H3) (fresh (upd H' ca (.lst [.int p])) (upd H3 ra (.lst (row.map V.int)))) := fun b u hb => by
                obtain ⟨h1, h2⟩ := fresh_some hb
                rw [fresh_at h1, upd_ne (fun e => by rw [e, hra] at h2; cases h2)]
                exact h2
              have hn : (upd H' ca (.lst [.int p])) ra = none := (upd_ne rca).trans hra0
              refine AllV.snoc (show PartV _ (.ref ra) (.r row) from ⟨ra, rfl, ?_⟩) (hall.mono (hfr2.trans fun b u hb => ?_))
              · rw [fresh_at hn, upd_ne rca, upd_same]
              · obtain ⟨h1, h2⟩ := fresh_some hb
                have hbc : b ≠ ca := fun e => by rw [e, upd_same] at h1; cases h1
                rw [fresh_at h1, upd_ne hbc]
                exact h2
        · rintro σ2 H2 ⟨vs, w4, w5, rfl, e2, hca2, hall⟩
          have hkl : ((xs.map Part.n ++ rows.map Part.r).map Part.kind).length = parts.length := by rw [hpp', List.length_map]
          rw [hkl, List.take_length] at hall ⊢
          have hfo2 := e2 _ _ hfo'
          have hca0 := Evl.fresh_back eH hca
          refine ⟨_, rfl, .inl ⟨rfl, _, SqL.of hfo2⟩, _, rfl, fo, _, _, rfl, rfl, hfo2, ?_, ?_⟩
          · have h1 : dn.length ≤ (PyFlat.put dn).length := by
              have : ∀ zs : List (List (List Int)), (∀ c ∈ zs, PyFlat.okCall PyVahypz.shape c) → zs.length ≤ (PyFlat.put zs).length := fun zs => by
                induction zs with
                | nil => exact fun _ => Nat.le_refl _
                | cons c r ih =>
                  intro hz
                  have h2 := ih fun d hd => hz d (List.mem_cons_of_mem _ hd)
                  obtain ⟨p, xs, rows, rfl, _⟩ := hz c (List.mem_cons_self ..)
                  show r.length + 1 ≤ (PyFlat.put1 ((p :: xs) :: rows) ++ PyFlat.put r).length
                  rw [put1_parts, List.length_append, List.length_cons]
                  omega
              exact this dn fun c hc => hok c (by rw [hcs]; exact List.mem_append_left _ hc)
            refine Evl.sz_lt ?_
            rw [refs_len, hE.1]
            omega
          · have hcall : PyFlat.put (dn ++ [(p :: xs) :: rows]) = PyFlat.put dn ++ PyFlat.put1 ((p :: xs) :: rows) := by
              rw [put_app]
              show _ ++ (PyFlat.put1 ((p :: xs) :: rows) ++ []) = _
              rw [List.append_nil]
            have hpl : (PyFlat.put (dn ++ [(p :: xs) :: rows])).length = (PyFlat.put dn).length + 1 + (flats parts).length := by
              rw [hcall, put1_parts, hpp, List.length_append, List.length_cons]
              omega
            have hmono : ∀ o, Ex (fresh (upd H fo (.lst [])) H') (fresh (upd H fo (.lst [])) (upd H2 fo o)) := fun o b u hb => by
              obtain ⟨h1, h2⟩ := fresh_some hb
              have hbf : b ≠ fo := fun e => by rw [e, upd_same] at h1; cases h1
              rw [fresh_at h1, upd_ne hbf]
              exact e2 _ _ h2
            refine ⟨rs.length, by show rs.length < rs.length + 1; omega, dn ++ [(p :: xs) :: rows], rs, as ++ [ca], some (.ref ca), w4, w5, ?_, ?_, Evl.Ex.mut (eH.trans e2) hfo, ?_, (hE.imp fun b c k => k.mono (hmono _)).snoc ⟨p, xs, rows, vs, rfl, ?_, ?_⟩, rfl⟩
            · rw [hpl]
            · rw [hcs, List.append_assoc]
              rfl
            · rw [upd_same, List.map_append]
              rfl
            · rw [fresh_at ((upd_ne hcf).trans hca0), upd_ne hcf]
              exact hca2
            · rw [hpp]
              refine hall.mono fun b u hb => ?_
              obtain ⟨h1, h2⟩ := fresh_some hb
              have hbc : b ≠ ca := fun e => by rw [e, upd_same] at h1; cases h1
              have h3 := (upd_ne hbc).symm.trans h1
              have hbf : b ≠ fo := fun e => by rw [e, hfo'] at h3; cases h3
              rw [fresh_at ((upd_ne hbf).trans (Evl.fresh_back eH h3)), upd_ne hbf]
              exact h2
    · have hge : ¬ (PyFlat.put dn).length < l.length := by have := of_decide_eq_false h; omega
      have hrs : rs = [] := by
        cases rs with
        | nil => rfl
        | cons c rs =>
          obtain ⟨p, xs, rows, rfl, _⟩ := hok c (by rw [hcs]; exact List.mem_append_right _ (List.mem_cons_self ..))
          refine absurd ?_ hge
          rw [hl2, List.length_append]
          show _ < _ + (PyFlat.put1 ((p :: xs) :: rows) ++ PyFlat.put rs).length
          rw [put1_parts, List.length_append, List.length_cons]
          omega
      subst hrs
      rw [List.append_nil] at hcs
      subst hcs
      refine ⟨_, rfl, q H' fo as eH hfo hfo' (hE.imp fun b c k => k.mono fun z o hz => ?_)⟩
      obtain ⟨h1, h2⟩ := fresh_some hz
      have hzf : z ≠ fo := fun e => by rw [e, upd_same] at h1; cases h1
      rw [fresh_at ((upd_ne hzf).symm.trans h1)]
      exact h2
end
end Pw
set_option Elab.async false
set_option linter.all false
set_option maxRecDepth 100000
set_option maxHeartbeats 2000000
/-! patterns.py: the object, answers -/
namespace Pw
open PySem PySem.Spec PyProof.Rows L2
open Vahypa (Lst)
theorem pe_mk0 {X : Cx} {k j : Nat} {C : Addr} {x : Str} {sp : Sp} {dvs : List V} {p pos : Pos} (c : C8.Mak X.prog X.w X.K X.mg X.base k x C sp dvs) (hr : Room j X.A) (hk : k + 1 ≤ j) (hg : Gl X x) (hdb : (x == ("__debug__" : Str)) = false := by decide) :
    PE X (.Call (.Name x p) [] [] pos) (tMake C sp dvs C8.E0 tNil) := by
  obtain ⟨f, fd, ps, ds, M, F, hm, b, d⟩ := c.ex
  exact pe_make0 M F (hr.mono hk) hg hm b d pass0 hdb
section
variable {P : Program} {w : World} {K : PySem.W.Frag} {mg : Str → Option Value} {base : Heap} {A : Adr}
def spDeskI (A : Adr) : Sp := fun vs H Q _ => ∃ (p dx : Addr), vs = [.ref p] ∧ H p = some (.ins A.Desk dx []) ∧ Q .non (upd H p (.ins A.Desk dx (heldF .non)))
theorem ok_Desk {f : Addr} {fd : FuncData} (T : Txt K mg A) (a : AtC K mg "Desk" "Desk.__init__" A.Desk s_Desk_init ["self"] f fd) : C8.Mak P w K mg base 1 "Desk" A.Desk (spDeskI A) [] := by
  refine ⟨f, fd, _, [], a.made, ok0 a.fn sc_Desk_init (fun vs H Q E h => ?_) (fun cdv Ar outer s H vs Q E hr h => ⟨_, (pss_one (ps_fld (pv 0) pe_non rfl)), ?_⟩) rfl rfl rfl, a.mgC, a.b, .nil⟩
  · obtain ⟨_, _, rfl, _⟩ := h
    rfl
  · obtain ⟨p, dx, rfl, hp, q⟩ := h
    exact ⟨_, rfl, p, _, dx, _, rfl, hp, T.i_Desk.cl, T.n_Desk_held, (by decide), q⟩
/-- the object at d holds o, which stands in the frozen G -/
def DeskAt (A : Adr) (G H : Hp) (d dd : Addr) : Vahypz.Obj → Prop
  | none => H d = some (.ins A.Desk dd (heldF .non)) ∧ Ex G H ∧ G d = none
  | some s => ∃ p, Held A G H d dd p s
theorem DeskAt.frz {G H : Hp} {d dd : Addr} {o : Vahypz.Obj} (h : DeskAt A G H d dd o) : Ex G H ∧ G d = none ∧ ∃ fs, H d = some (.ins A.Desk dd fs) := by
  cases o with
  | none => exact ⟨h.2.1, h.2.2, _, h.1⟩
  | some s =>
    obtain ⟨p, k⟩ := h
    exact ⟨k.frz, k.out, _, k.desk⟩
/-- the same object in a heap that is as before where it counts -/
theorem DeskAt.move {G H H' : Hp} {d dd : Addr} {o : Vahypz.Obj} (h : DeskAt A G H d dd o) (hd : H' d = H d) (e : Ex G H') : DeskAt A G H' d dd o := by
  cases o with
  | none => exact ⟨hd.trans h.1, e, h.2.2⟩
  | some s =>
    obtain ⟨p, k⟩ := h
    exact ⟨p, hd.trans k.desk, e, k.out, k.lst, k.ok⟩
def GivesDesk (A : Adr) (Q : VK) (G H : Hp) (d dd : Addr) (o : Vahypz.Obj) (l : List Int) : Prop := ∀ H' r G', ExB d H H' → H r = none → H' r = some (.lst (l.map V.int)) → DeskAt A G' H' d dd o → (∀ b, G b = none → H b ≠ none → G' b = none) → Q (.ref r) H'
def spAnswer (A : Adr) (K : PySem.W.Frag) : Sp := fun vs H Q _ => ∃ (d dd ca : Addr) (G : Hp) (o : Vahypz.Obj) (c : List (List Int)), vs = [.ref d, .ref ca] ∧ DeskAt A G H d dd o ∧ CallAt H ca c ∧ VahypzNeutral.asked1 c = true ∧
  GivesDesk A Q G H d dd (VahypzNeutral.step o c).1 (VahypzNeutral.step o c).2
def spAnswers (K : PySem.W.Frag) : Sp := fun vs H Q _ => ∃ (a : Addr) (l : List Int) (cs : List (List (List Int))), vs = [.ref a] ∧ SqL K H a (l.map V.int) ∧ l.length ≤ 20000 ∧ l = PyFlat.put cs ∧ (∀ c ∈ cs, PyFlat.okCall PyVahypz.shape c) ∧ (∀ c ∈ cs, VahypzNeutral.asked1 c = true) ∧
  (PyFlat.told (PyFlat.played VahypzNeutral.step VahypzNeutral.start cs)).length ≤ 10000000 ∧ ∀ H' r, Ex H H' → H r = none → H' r = some (.lst ((PyFlat.told (PyFlat.played VahypzNeutral.step VahypzNeutral.start cs)).map V.int)) → Q (.ref r) H'
theorem ok_answers {f : Addr} {fd : FuncData} (T : Txt K mg A) (a : At K mg "answers" s_answers ["calls"] f fd) (mk_Desk : C8.Mak P w K mg base 1 "Desk" A.Desk (spDeskI A) []) (d_split_calls : C8.Cal P w K mg base 1 "split_calls" (spSplit K) [])
    (d_answer : C8.Cal P w K mg base 20 "answer" (spAnswer A K) []) : FnOk P w K mg base C8.CX0 21 f fd ["calls"] (spAnswers K) := by
  refine (ok0 a.fn sc_answers (fun vs H Q E h => ?_) (fun cdv Ar outer s H vs Q E hr h => ⟨_, (pss_cons (ps_set (i := 1) sc_answers.nd rfl (Or.inl rfl) (pe_mk0 mk_Desk hr (by decide) rfl))
  (pss_cons (ps_set (i := 2) sc_answers.nd rfl (Or.inl rfl) (pe_lst pa_nil))
  (pss_cons (ps_for PassesOwn.never rfl (pi_list (C8.pe_c d_split_calls hr (by decide) rfl (by exact (pa_cons (pv 0) pa_nil)))) (pg_name (i := 3) sc_answers.nd rfl (Or.inl rfl)) (pss_cons (ps_set (i := 4) sc_answers.nd rfl (Or.inl rfl) (C8.pe_c d_answer hr (by decide) rfl (by exact (pa_cons (pv 1) (pa_cons (pv 3) pa_nil)))))
    (pss_cons (ps_expr (pe_bm PySem.F.plainAttrs_list PySem.F.slot_list_append PySem.F.type_list_append mt_append (pv 2) (pa_cons (pe_callB call_len_seq rfl T.len (by decide +kernel) (pa_cons (pv 4) pa_nil)) pa_nil)))
    (pss_one (ps_expr (pe_bm PySem.F.plainAttrs_list PySem.F.slot_list_extend PySem.F.type_list_extend mt_extend (pv 2) (pa_cons (pv 4) pa_nil)))))))
  (pss_one (ps_ret (pv 2)))))), ?_⟩) rfl rfl rfl)
  · obtain ⟨_, _, _, rfl, _⟩ := h
    rfl
  · obtain ⟨a, l, cs, rfl, hS, hz, hl, hok, hask, hmost, q⟩ := h
    refine fun d dd hd hdd hne => ?_
    have hd1 : (upd H dd (.own d)) d = none := (upd_ne (Ne.symm hne)).trans hd
    refine ⟨d, dd, rfl, upd_same, rfl, ?_⟩
    dsimp only [gName]
    refine ⟨by show 0 ≤ sizeLine; decide, fun tl htl => ?_⟩
    dsimp only [gName]
    have hdn : ∀ {H' : Hp}, H' d ≠ none → True := fun _ => trivial
    have e1 : Ex H (upd (upd (upd H dd (.own d)) d (.ins A.Desk dd [])) d (.ins A.Desk dd (heldF .non))) := fun b u h => by
      rw [upd_ne (ne_of_none h hd), upd_ne (ne_of_none h hd), upd_ne (ne_of_none h hdd)]
      exact h
    have htl0 := Evl.fresh_back e1 htl
    have htd : tl ≠ d := fun e => by rw [e, upd_same] at htl; cases htl
    have e2 := e1.trans (ex_new (o := .lst []) htl)
    refine ⟨_, rfl, a, l, cs, rfl, Evl.ex_l e2 hS, hz, hl, hok, fun H3 sl as e3 hsl hsl2 hE => ?_⟩
    refine ⟨sl, rfl, ⟨_, SqL.of hsl2⟩, ?_⟩
    have h2d := (upd_ne (H := upd (upd (upd H dd (.own d)) d (.ins A.Desk dd [])) d (.ins A.Desk dd (heldF .non))) (o := .lst []) (Ne.symm htd)).trans upd_same
    generalize hN : fresh (upd (upd (upd (upd H dd (.own d)) d (.ins A.Desk dd [])) d (.ins A.Desk dd (heldF .non))) tl (.lst [])) H3 = N at hE
    have nd : N d = none := by
      rw [← hN]
      exact fresh_no h2d
    have ntl : N tl = none := by
      rw [← hN]
      exact fresh_no upd_same
    have nsl : N sl = some (.lst (as.map V.ref)) := by
      rw [← hN, fresh_at hsl]
      exact hsl2
    have eN : Ex N H3 := by
      rw [← hN]
      exact fresh_ex _ _
    refine for_it (walk_list (K := K) (a := sl) (xs := as.map V.ref)) (fun i σ' H' => ∃ (o : Vahypz.Obj) (dn : List Int) (G : Hp) (v3 v4 : Option V), σ' = [some (.ref a), some (.ref d), some (.ref tl), v3, v4] ∧ Ex H H' ∧ Ex N H' ∧ H' tl = some (.lst (dn.map V.int)) ∧ G tl = none ∧ DeskAt A G H' d dd o ∧
      PyFlat.told (PyFlat.played VahypzNeutral.step VahypzNeutral.start cs) = dn ++ PyFlat.told (PyFlat.played VahypzNeutral.step o (cs.drop i))) ⟨none, [], fun _ => none, none, none, rfl, e2.trans e3, eN, e3 _ _ upd_same, rfl, ⟨e3 _ _ h2d, fun b u h => by (cases h), rfl⟩, rfl⟩
      (fun i σ' H' _ ⟨_, _, _, _, _, _, _, e, _⟩ => SqL.of (e _ _ nsl)) ?_ ?_
    · rintro i y σ' H' H'' hi ⟨o, dn, G, v3, v4, rfl, eH, eN', htl', hG, hD, htold⟩ ⟨rfl, hy⟩
      obtain ⟨ca, c, hca, hc, hC⟩ := hE.at2 hi
      have hy2 : y = .ref ca := by
        rw [List.getElem?_map, hca] at hy
        exact (Option.some.inj hy).symm
      subst hy2
      dsimp only [gName]
      refine ⟨_, rfl, _, rfl, d, dd, ca, G, o, c, rfl, hD, hC.mono eN', hask c (List.mem_of_getElem? hc), fun H4 r G' eB hr0 hr2 hD' hN' => ?_⟩
      dsimp only [gName]
      have hst := (htold.trans (by rw [drop_at hc]) : _ = dn ++ PyFlat.told (PyFlat.played VahypzNeutral.step o (c :: cs.drop (i + 1))))
      have hst2 : PyFlat.told (PyFlat.played VahypzNeutral.step VahypzNeutral.start cs) = (dn ++ (((VahypzNeutral.step o c).2.length : Int) :: (VahypzNeutral.step o c).2)) ++ PyFlat.told (PyFlat.played VahypzNeutral.step (VahypzNeutral.step o c).1 (cs.drop (i + 1))) := by
        rw [hst, List.append_assoc]
        rfl
      have hlen := congrArg List.length hst2
      rw [List.length_append, List.length_append, List.length_cons] at hlen
      have hs : (10000000 : Nat) < sizeLine := by decide
      have htl4 : H4 tl = some (.lst (dn.map V.int)) := eB _ _ htd htl'
      have rtl : r ≠ tl := fun e => by rw [e, htl'] at hr0; cases hr0
      refine ⟨_, rfl, .inl ⟨rfl, _, SqL.of htl4⟩, _, rfl, r, _, rfl, .inl (SqL.of hr2), tl, _, _, rfl, rfl, htl4, by rw [List.length_map]; omega, ?_⟩
      refine ⟨_, rfl, .inl ⟨rfl, _, SqL.of upd_same⟩, _, rfl, tl, r, _, _, rfl, rfl, upd_same, (upd_ne rtl).trans hr2, by rw [List.length_append, List.length_map, List.length_map]; show dn.length + 1 + _ ≤ _; omega, ?_⟩
      have hG' : G' tl = none := hN' tl hG (by rw [htl']; exact fun e => by cases e)
      have eo : ∀ {X : Hp} (u1 u2 : HO), X tl = none → Ex X H4 → Ex X (upd (upd H4 tl u1) tl u2) := fun u1 u2 hx e => Evl.Ex.mut (Evl.Ex.mut e hx) hx
      refine ⟨(VahypzNeutral.step o c).1, dn ++ (((VahypzNeutral.step o c).2.length : Int) :: (VahypzNeutral.step o c).2), G', some (.ref ca), some (.ref r), rfl, eo _ _ htl0 (eB.ex eH hd), eo _ _ ntl (eB.ex eN' nd), ?_, hG', hD'.move ?_ (eo _ _ hG' hD'.frz.1), hst2⟩
      · rw [upd_same, List.length_map, List.map_append]
        rw [List.append_assoc]
        rfl
      · rw [upd_ne (Ne.symm htd), upd_ne (Ne.symm htd)]
    · rintro σ' H' ⟨o, dn, G, v3, v4, rfl, eH, _, htl', _, _, htold⟩
      rw [refs_len, hE.1, List.drop_length] at htold
      have : dn = PyFlat.told (PyFlat.played VahypzNeutral.step VahypzNeutral.start cs) := by
        rw [htold]
        exact (List.append_nil _).symm
      rw [this] at htl'
      exact ⟨_, rfl, q H' tl eH htl0 htl'⟩
end
end Pw
set_option Elab.async false
set_option linter.all false
set_option maxRecDepth 100000
set_option maxHeartbeats 2000000
/-! what is asked, of the whole list -/
namespace Pw
open PySem PySem.Spec PyProof.Rows L2
theorem whole_id (c : List (List Int)) : PyVahypz.whole c = c := by
  unfold PyVahypz.whole
  split <;> rfl
theorem map_whole (cs : List (List (List Int))) : cs.map PyVahypz.whole = cs := by
  induction cs with
  | nil => rfl
  | cons c r ih => rw [List.map_cons, whole_id, ih]
theorem asked_ok {l : List Int} (h : PyVahypz.answers_asked l = true) : ∃ cs, l = PyFlat.put cs ∧ (∀ c ∈ cs, PyFlat.okCall PyVahypz.shape c) ∧ (∀ c ∈ cs, VahypzNeutral.asked1 c = true) ∧
    PyVahypz.answers l = PyFlat.told (PyFlat.played VahypzNeutral.step VahypzNeutral.start cs) ∧ (PyFlat.told (PyFlat.played VahypzNeutral.step VahypzNeutral.start cs)).length ≤ 10000000 := by
  unfold PyVahypz.answers_asked at h
  cases e : PyFlat.calls PyVahypz.shape l.length l with
  | none =>
    rw [e] at h
    cases h
  | some cs =>
    rw [e] at h
    have ha : PyVahypz.answers l = PyFlat.told (PyFlat.played VahypzNeutral.step VahypzNeutral.start cs) := by
      unfold PyVahypz.answers PyVahypz.calls
      rw [e]
      show PyFlat.told (PyFlat.played VahypzNeutral.step VahypzNeutral.start (cs.map PyVahypz.whole)) = _
      rw [map_whole]
    have h2 : (!cs.isEmpty && PyFlat.atMost 10 cs && PyInside.calls PyVahypz.bound cs && VahypzNeutral.asked (cs.map PyVahypz.whole) && PyFlat.short 10000000 (PyVahypz.answers l)) = true := h
    rw [map_whole] at h2
    simp only [Bool.and_eq_true] at h2
    obtain ⟨⟨⟨_, _⟩, h3⟩, h4⟩ := h2
    obtain ⟨h5, h6⟩ := PyFlat.put_calls _ _ _ e
    refine ⟨cs, h5, h6, fun c hc => ?_, ha, ?_⟩
    · have h7 : (cs.all VahypzNeutral.asked1 && (decide (1 ≤ cs.length) && decide (cs.length ≤ 10))) = true := h3
      exact List.all_eq_true.mp (Bool.and_eq_true_iff.mp h7).1 c hc
    · rw [← ha]
      exact of_decide_eq_true h4
end Pw
set_option Elab.async false
set_option linter.all false
set_option maxRecDepth 100000
set_option maxHeartbeats 2000000
/-! calls by their numbers: bytes, answers -/
namespace Pw
open PySem PySem.Spec PyProof.Rows L2
open VahypzNeutral (bytesOf)
theorem byte_of {z : Int} (h : VahypzNeutral.natural z 8 = true) : 0 ≤ z ∧ z < 256 := by
  have h2 := Bool.and_eq_true_iff.mp (show (decide (0 ≤ z) && decide (z < 2 ^ 8)) = true from h)
  exact ⟨of_decide_eq_true h2.1, of_decide_eq_true h2.2⟩
theorem bytes_of : ∀ {b : List Int}, (b.all fun (z : Int) => VahypzNeutral.natural z 8) = true → NeutralIO.bytes b = true ∧ bI (bytesOf b) = b.map V.int
  | [], _ => ⟨rfl, rfl⟩
  | z :: r, h => by
    have h2 := Bool.and_eq_true_iff.mp (show (VahypzNeutral.natural z 8 && r.all fun (z : Int) => VahypzNeutral.natural z 8) = true from h)
    obtain ⟨h3, h4⟩ := byte_of h2.1
    obtain ⟨h5, h6⟩ := bytes_of h2.2
    refine ⟨?_, ?_⟩
    · show ((decide (0 ≤ z) && decide (z ≤ 255)) && NeutralIO.bytes r) = true
      rw [h5, decide_eq_true h3, decide_eq_true (by omega : z ≤ 255)]
      rfl
    · show V.int ((UInt8.ofNat z.toNat).toNat : Int) :: bI (bytesOf r) = V.int z :: r.map V.int
      rw [h6]
      congr 2
      rw [UInt8.toNat_ofNat', Nat.mod_eq_of_lt (by show z.toNat < 256; omega)]
      omega
theorem bytesOf_len (b : List Int) : (bytesOf b).length = b.length := List.length_map ..
theorem encode_V (a : VahypBase.Answer) : (VahypzNeutral.encode a).map V.int = ansV a := rfl
theorem step_of {o : Vahypz.Obj} {c : List (List Int)} {k : Vahypz.Call} (h : VahypzNeutral.callOf c = some k) : VahypzNeutral.step o c = ((Vahypz.step o k).1, VahypzNeutral.encode (Vahypz.step o k).2) := by
  unfold VahypzNeutral.step
  rw [h]
theorem call_load {b : List Int} (h : NeutralIO.bytes b = true) : VahypzNeutral.callOf [[0], b] = some (.load (bytesOf b)) := by
  show (if NeutralIO.bytes b = true then _ else _) = _
  rw [if_pos h]
theorem call_put {b : List Int} (h : NeutralIO.bytes b = true) : VahypzNeutral.callOf [[4], b] = some (.put (bytesOf b)) := by
  show (if NeutralIO.bytes b = true then _ else _) = _
  rw [if_pos h]
theorem call_joint {b : List Int} (h : NeutralIO.bytes b = true) : VahypzNeutral.callOf [[8], b] = some (.joint (bytesOf b)) := by
  show (if NeutralIO.bytes b = true then _ else _) = _
  rw [if_pos h]
theorem call_break {n : Int} {b : List Int} (h : NeutralIO.bytes b = true) : VahypzNeutral.callOf [[9, n], b] = some (.break_ n (bytesOf b)) := by
  show (if NeutralIO.bytes b = true then _ else _) = _
  rw [if_pos h]
/-- the ten calls that may be asked -/
inductive Asked : List (List Int) → Vahypz.Call → Prop
  | load (b : List Int) (h : (b.all fun (z : Int) => VahypzNeutral.natural z 8) = true) (hl : b.length ≤ 8192) : Asked [[0], b] (.load (bytesOf b))
  | shown : Asked [[1]] .shown
  | report (i : Int) : Asked [[2, i]] (.report i)
  | margins : Asked [[3]] .margins
  | put (b : List Int) (h : (b.all fun (z : Int) => VahypzNeutral.natural z 8) = true) (hl : b.length ≤ 8192) : Asked [[4], b] (.put (bytesOf b))
  | drop (k i : Int) : Asked [[5, k, i]] (.drop k i)
  | needless : Asked [[6]] .needless
  | slim : Asked [[7]] .slim
  | joint (b : List Int) (h : (b.all fun (z : Int) => VahypzNeutral.natural z 8) = true) (hl : b.length ≤ 8192) : Asked [[8], b] (.joint (bytesOf b))
  | brk (n : Int) (b : List Int) (h : (b.all fun (z : Int) => VahypzNeutral.natural z 8) = true) (hl : b.length ≤ 8192) : Asked [[9, n], b] (.break_ n (bytesOf b))
theorem asked_call {c : List (List Int)} (h : VahypzNeutral.asked1 c = true) : ∃ k, Asked c k ∧ VahypzNeutral.callOf c = some k := by
  unfold VahypzNeutral.asked1 at h
  split at h
  · have h2 := Bool.and_eq_true_iff.mp h
    exact ⟨_, .load _ h2.1 (of_decide_eq_true h2.2), call_load (bytes_of h2.1).1⟩
  · exact ⟨_, .shown, rfl⟩
  · exact ⟨_, .report _, rfl⟩
  · exact ⟨_, .margins, rfl⟩
  · have h2 := Bool.and_eq_true_iff.mp h
    exact ⟨_, .put _ h2.1 (of_decide_eq_true h2.2), call_put (bytes_of h2.1).1⟩
  · exact ⟨_, .drop _ _, rfl⟩
  · exact ⟨_, .needless, rfl⟩
  · exact ⟨_, .slim, rfl⟩
  · have h2 := Bool.and_eq_true_iff.mp h
    exact ⟨_, .joint _ h2.1 (of_decide_eq_true h2.2), call_joint (bytes_of h2.1).1⟩
  · have h1 := Bool.and_eq_true_iff.mp h
    have h2 := Bool.and_eq_true_iff.mp h1.2
    exact ⟨_, .brk _ _ h2.1 (of_decide_eq_true h2.2), call_break (bytes_of h2.1).1⟩
  · cases h
end Pw
set_option Elab.async false
set_option linter.all false
set_option maxRecDepth 100000
set_option maxHeartbeats 2000000
/-! the calls of stage 1, one by one -/
namespace Pw
open PySem PySem.Spec PyProof.Rows L2
open Vahypa (Lst Word Pat)
open VahypzNeutral (encode)
section
variable {K : PySem.W.Frag} {A : Adr} {G H : Hp} {d dd : Addr} {Q : VK} {E : XK} {o : Vahypz.Obj} {s : Lst} {p : Addr}
/-- the object stays -/
theorem GivesDesk.same {l : List Int} (q : GivesDesk A Q G H d dd o l) (hD : DeskAt A G H d dd o) : GivesB Q H (l.map V.int) := fun H' r e hr h => by
  obtain ⟨h1, h2, fs, h3⟩ := hD.frz
  exact q H' r G (.of e) hr h (hD.move ((e _ _ h3).trans h3.symm) (h1.trans e)) fun b hb _ => hb
theorem GivesB.list {l : List V} {ns : List Nat} (q : GivesB Q H l) (h : l = nums ns) : GivesL Q H ns := fun H' r e hr h' => q H' r e hr (by rw [h', h])
theorem nats_V (l : List Nat) : (VahypBase.nats l).map V.int = nums l := by
  unfold VahypBase.nats nums
  rw [List.map_map]
  rfl
theorem ans_change (s t : Lst) : (encode (Vahypz.changeAnswer s t)).map V.int = nums (changeNums s t) := by
  show V.int (t.words.length : Int) :: (VahypBase.nats (t.pats.length :: (Vahypz.touched s t).length :: Vahypz.touched s t)).map V.int = _
  rw [nats_V]
  rfl
theorem ans_margins (s : Lst) : (encode (Vahypz.looked s .margins)).map V.int = nums (marginNums s) := by
  show V.int ((Vahypz.bestMargins s).1 : Int) :: (VahypBase.nats [(Vahypz.bestMargins s).2.1, (Vahypz.bestMargins s).2.2] ++ Vahypz.allMargins.map fun m => (Vahypz.exactCount (Vahypz.withMargins s m.1 m.2) : Int)).map V.int = _
  rw [List.map_append, nats_V, List.map_map]
  unfold marginNums
  rw [nums_app]
  show _ = nums [(Vahypz.bestMargins s).1, (Vahypz.bestMargins s).2.1, (Vahypz.bestMargins s).2.2] ++ _
  unfold nums
  rw [List.map_map]
  rfl
theorem ans_shown (s : Lst) : (encode (Vahypz.looked s .shown)).map V.int = .int ((Vahypa.shown s).length : Int) :: bI (Vahypa.shown s) := by
  show V.int ((Vahypa.shown s).length : Int) :: ((Vahypa.shown s).map fun c => (c.toNat : Int)).map V.int = _
  rw [List.map_map]
  rfl
theorem shown_case (hD : Held A G H d dd p s) (q : GivesDesk A Q G H d dd (some s) (encode (Vahypz.looked s .shown))) : spShown A [.ref p] H Q E :=
  ⟨p, s, rfl, hD.lst.mono hD.frz, hD.ok, by rw [← ans_shown]; exact q.same ⟨p, hD⟩⟩
theorem report_case {i : Int} (hD : Held A G H d dd p s) (q : GivesDesk A Q G H d dd (some s) (encode (Vahypz.looked s (.report i)))) : spReport A [.ref p, .int i] H Q E :=
  ⟨p, s, i, rfl, hD.lst.mono hD.frz, hD.ok, q.same ⟨p, hD⟩⟩
theorem margins_case (hD : Held A G H d dd p s) (q : GivesDesk A Q G H d dd (some s) (encode (Vahypz.looked s .margins))) : spMargins A [.ref p] H Q E :=
  ⟨p, s, rfl, hD.lst.mono hD.frz, hD.ok, (q.same ⟨p, hD⟩).list (ans_margins s)⟩
theorem load_case {rb : Addr} {bs : Bytes} (hD : DeskAt A G H d dd o) (hb : SqL K H rb (bI bs)) (hz : bs.length ≤ 8192) (q : GivesDesk A Q G H d dd (Vahypz.step o (.load bs)).1 (encode (Vahypz.step o (.load bs)).2)) : spLoad A K [.ref d, .ref rb] H Q E := by
  obtain ⟨h1, h2, fs, h3⟩ := hD.frz
  have hv : ∃ hv, H d = some (.ins A.Desk dd (heldF hv)) := by
    cases o with
    | none => exact ⟨_, hD.1⟩
    | some s =>
      obtain ⟨p, k⟩ := hD
      exact ⟨_, k.desk⟩
  obtain ⟨hv, hv1⟩ := hv
  have hstep : Vahypz.step o (.load bs) = Vahypa.step o (.load bs) := by cases o <;> rfl
  rw [hstep] at q
  have hs2 : Vahypa.step o (.load bs) = (match Vahypa.read bs with | .ok s => (some s, ⟨1, VahypBase.nats [s.words.length, s.pats.length]⟩) | .error f => (o, VahypBase.faulty f)) := by cases o <;> rfl
  rw [hs2] at q
  refine ⟨d, dd, rb, bs, hv, rfl, hv1, hb, hz, fun f hf H' l e hl h => ?_, fun s hs hO H' l r e hd hl h hr hrl hL => ?_⟩
  · rw [hf] at q
    have q1 := GivesDesk.same q hD
    refine q1 H' l e hl (h.trans ?_)
    rfl
  · rw [hs] at q
    refine q H' l (fresh H H') e hl (h.trans ?_) ⟨r, hd, fresh_ex _ _, fresh_no hv1, hL, hO⟩ fun b _ hb => ?_
    · show some (HO.lst (nums [1, s.words.length, s.pats.length])) = some (.lst (.int 1 :: (VahypBase.nats [s.words.length, s.pats.length]).map V.int))
      rw [nats_V]
      rfl
    · obtain ⟨u, hu⟩ := Option.ne_none_iff_exists'.mp hb
      exact fresh_no hu
theorem put_case {rb : Addr} {bs : Bytes} (hD : Held A G H d dd p s) (hb : SqL K H rb (bI bs)) (hz : bs.length ≤ 8192) (q : GivesDesk A Q G H d dd (Vahypz.putCall s bs).1 (encode (Vahypz.putCall s bs).2)) : spPut A K [.ref d, .ref rb] H Q E := by
  refine ⟨d, dd, rb, p, G, bs, s, rfl, hD, hb, hz, fun hn => ?_, fun i hi hf => ?_, fun i hi hf => ?_⟩
  · unfold Vahypz.putCall at q
    rw [hn] at q
    exact GivesDesk.same q ⟨p, hD⟩
  · have : Vahypz.putCall s bs = (some s, VahypBase.one (-5)) := by
      unfold Vahypz.putCall
      rw [hi]
      exact if_pos hf
    rw [this] at q
    exact GivesDesk.same q ⟨p, hD⟩
  · have : Vahypz.putCall s bs = (some (Vahypz.put s i), Vahypz.changeAnswer s (Vahypz.put s i)) := by
      unfold Vahypz.putCall
      rw [hi]
      exact if_neg (by rw [hf]; exact fun e => Bool.noConfusion e)
    rw [this] at q
    intro H' r p' G' e hr h hH hN
    refine q H' r G' e hr (h.trans ?_) ⟨p', hH⟩ hN
    rw [ans_change]
end
end Pw
set_option Elab.async false
set_option linter.all false
set_option maxRecDepth 100000
set_option maxHeartbeats 2000000
/-! changes.py: without_entry, without_word, without_pattern -/
namespace Pw
open PySem PySem.Spec PyProof.Rows L2
open Vahypa (Word Pat Lst)
theorem Each.drop {α : Type} {R : Addr → α → Prop} : ∀ {n : Nat} {as : List Addr} {xs : List α}, Each R as xs → Each R (as.eraseIdx n) (xs.eraseIdx n)
  | n, [], [], _ => by
    rw [List.eraseIdx_nil, List.eraseIdx_nil]
    exact .nil
  | 0, b :: as, y :: xs, h => h.uncons.2
  | n + 1, b :: as, y :: xs, h => .cons h.uncons.1 (Each.drop h.uncons.2)
  | _, [], _ :: _, h => by cases h.1
  | _, _ :: _, [], h => by cases h.1
section
variable {P : Program} {w : World} {K : PySem.W.Frag} {mg : Str → Option Value} {base : Heap} {A : Adr}
def spDropEntry : Sp := fun vs H Q _ => ∃ (l : Addr) (xs : List V) (n : Nat), vs = [.ref l, .int (n : Int)] ∧ H l = some (.lst xs) ∧ xs.length ≤ 1000 ∧ GivesB Q H (xs.eraseIdx n)
theorem ok_without_entry {f : Addr} {fd : FuncData} (T : Txt K mg A) (a : At K mg "without_entry" s_without_entry ["entries", "number"] f fd) : C8.Cal P w K mg base 1 "without_entry" spDropEntry [] := by
  refine a.cal (ok0 a.fn sc_without_entry (fun vs H Q E h => ?_) (fun cdv Ar outer s H vs Q E hr h => ⟨_, (pss_one (ps_ret (pe_op op_cat (pe_slice sl_list (pv 0) po_none (po_some (pv 1))) (pe_slice sl_list (pv 0) (po_some (pe_op op_add (pv 1) pe_int)) po_none)))), ?_⟩) rfl rfl rfl)
  · obtain ⟨_, _, _, rfl, _⟩ := h
    rfl
  · obtain ⟨l, xs, n, rfl, hl, hn, q⟩ := h
    refine ⟨_, rfl, _, rfl, _, rfl, l, _, rfl, SqL.of hl, fun p1 hp1 => ?_⟩
    have hl1 := ex_new (o := .lst (cutV xs none (some (n : Int)))) hp1 _ _ hl
    refine ⟨_, rfl, _, rfl, _, _, rfl, rfl, _, rfl, l, _, rfl, SqL.of hl1, fun p4 hp4 => ?_⟩
    refine ⟨p1, p4, _, _, rfl, rfl, ex_new hp4 _ _ upd_same, upd_same, ?_, fun p5 hp5 => ?_⟩
    · have h1 := cutV_length xs none (some (n : Int))
      have h2 := cutV_length xs (some ((n : Int) + 1)) none
      exact Evl.sz_of (show _ + _ ≤ 100000 by omega)
    · refine q _ p5 (Evl.Ex.trans ?e (ex_new hp5)) (Evl.fresh_back ?e hp5) ?_
      case e => exact (ex_new hp1).trans (ex_new hp4)
      rw [upd_same, cut_to, show ((n : Int) + 1) = ((n + 1 : Nat) : Int) from rfl, cut_from, List.eraseIdx_eq_take_drop_succ]
def spDropOne (A : Adr) (g : Lst → Nat → Lst) : Sp := fun vs H Q _ => ∃ (a : Addr) (G : Hp) (s : Lst) (n : Nat), vs = [.ref a, .int (n : Int)] ∧ Ex G H ∧ ListAt A G a s ∧ s.words.length ≤ 100 ∧ s.pats.length ≤ 100 ∧
  ∀ H' o, Ex H H' → H o = none → GivesLst A G H H' o (g s n) → Q (.ref o) H'
theorem map_erase {α β : Type} (f : α → β) : ∀ (l : List α) (n : Nat), (l.map f).eraseIdx n = (l.eraseIdx n).map f
  | [], n => by rw [List.map_nil, List.eraseIdx_nil, List.eraseIdx_nil]; rfl
  | a :: r, 0 => rfl
  | a :: r, n + 1 => by
    show f a :: (r.map f).eraseIdx n = f a :: (r.eraseIdx n).map f
    rw [map_erase f r n]
theorem ok_without_word {f : Addr} {fd : FuncData} (T : Txt K mg A) (a : At K mg "without_word" s_without_word ["listing", "number"] f fd) (d_without_entry : C8.Cal P w K mg base 1 "without_entry" spDropEntry [])
    (mk_Listing : C8.Mak P w K mg base 1 "Listing" A.Listing (spListI A) []) : C8.Cal P w K mg base 3 "without_word" (spDropOne A Vahypz.dropWord) [] := by
  refine a.cal (ok0 a.fn sc_without_word (fun vs H Q E h => ?_) (fun cdv Ar outer s H vs Q E hr h => ⟨_, (pss_one (ps_ret (C8.pe_mk mk_Listing hr (by decide) rfl (pa_cons (pe_fld (pv 0) rfl) (pa_cons (pe_fld (pv 0) rfl) (pa_cons (C8.pe_c d_without_entry hr (by decide) rfl (by exact (pa_cons (pe_fld (pv 0) rfl) (pa_cons (pv 1) pa_nil)))) (pa_cons (pe_fld (pv 0) rfl) pa_nil))))))), ?_⟩) rfl rfl rfl)
  · obtain ⟨_, _, _, _, rfl, _⟩ := h
    rfl
  · obtain ⟨a, G, s, n, rfl, eG, hL, hw, hp, q⟩ := h
    obtain ⟨dx, lw, lp, ws, ps, h1, h2, h3, h4, h5⟩ := hL
    refine ⟨_, rfl, a, _, dx, _, _, rfl, eG _ _ h1, T.i_Listing.cl, T.n_Listing_left, rfl, _, rfl, a, _, dx, _, _, rfl, eG _ _ h1, T.i_Listing.cl, T.n_Listing_right, rfl, ?_⟩
    refine ⟨_, rfl, a, _, dx, _, _, rfl, eG _ _ h1, T.i_Listing.cl, T.n_Listing_words, rfl, _, rfl, lw, _, n, rfl, eG _ _ h2, by rw [refs_len, h4.1]; omega, fun H1 l1 e1 hl1 hl2 => ?_⟩
    refine ⟨_, rfl, a, _, dx, _, _, rfl, e1 _ _ (eG _ _ h1), T.i_Listing.cl, T.n_Listing_patterns, rfl, fun o dy ho hdy hno => ⟨o, dy, _, _, _, _, rfl, upd_same, rfl, ?_⟩⟩
    have ho1 : (upd H1 dy (.own o)) o = none := (upd_ne (Ne.symm hno)).trans ho
    have e9 : Ex H1 (upd (upd (upd H1 dy (.own o)) o (.ins A.Listing dy [])) o (.ins A.Listing dy (lF (.int (s.l : Int)) (.int (s.r : Int)) (.ref l1) (.ref lp)))) := fun c u h => by
      rw [upd_ne (ne_of_none h ho), upd_ne (ne_of_none h ho), upd_ne (ne_of_none h hdy)]
      exact h
    have ho0 := Evl.fresh_back e1 ho
    rw [map_erase] at hl2
    exact q _ o (e1.trans e9) ho0 fun N eN fN => ⟨dy, l1, lp, ws.eraseIdx n, ps, fN _ _ ((fresh_at ho0).trans upd_same), fN _ _ ((fresh_at hl1).trans (e9 _ _ hl2)), eN _ _ h3, Each.drop (h4.imp fun _ _ k => k.mono eN), h5.imp fun _ _ k => k.mono eN⟩
theorem ok_without_pattern {f : Addr} {fd : FuncData} (T : Txt K mg A) (a : At K mg "without_pattern" s_without_pattern ["listing", "number"] f fd) (d_without_entry : C8.Cal P w K mg base 1 "without_entry" spDropEntry [])
    (mk_Listing : C8.Mak P w K mg base 1 "Listing" A.Listing (spListI A) []) : C8.Cal P w K mg base 3 "without_pattern" (spDropOne A Vahypz.dropPat) [] := by
  refine a.cal (ok0 a.fn sc_without_pattern (fun vs H Q E h => ?_) (fun cdv Ar outer s H vs Q E hr h => ⟨_, (pss_one (ps_ret (C8.pe_mk mk_Listing hr (by decide) rfl (pa_cons (pe_fld (pv 0) rfl) (pa_cons (pe_fld (pv 0) rfl) (pa_cons (pe_fld (pv 0) rfl) (pa_cons (C8.pe_c d_without_entry hr (by decide) rfl (by exact (pa_cons (pe_fld (pv 0) rfl) (pa_cons (pv 1) pa_nil)))) pa_nil))))))), ?_⟩) rfl rfl rfl)
  · obtain ⟨_, _, _, _, rfl, _⟩ := h
    rfl
  · obtain ⟨a, G, s, n, rfl, eG, hL, hw, hp, q⟩ := h
    obtain ⟨dx, lw, lp, ws, ps, h1, h2, h3, h4, h5⟩ := hL
    refine ⟨_, rfl, a, _, dx, _, _, rfl, eG _ _ h1, T.i_Listing.cl, T.n_Listing_left, rfl, _, rfl, a, _, dx, _, _, rfl, eG _ _ h1, T.i_Listing.cl, T.n_Listing_right, rfl, ?_⟩
    refine ⟨_, rfl, a, _, dx, _, _, rfl, eG _ _ h1, T.i_Listing.cl, T.n_Listing_words, rfl, ?_⟩
    refine ⟨_, rfl, a, _, dx, _, _, rfl, eG _ _ h1, T.i_Listing.cl, T.n_Listing_patterns, rfl, _, rfl, lp, _, n, rfl, eG _ _ h3, by rw [refs_len, h5.1]; omega, fun H1 l1 e1 hl1 hl2 => ?_⟩
    refine fun o dy ho hdy hno => ⟨o, dy, _, _, _, _, rfl, upd_same, rfl, ?_⟩
    have ho1 : (upd H1 dy (.own o)) o = none := (upd_ne (Ne.symm hno)).trans ho
    have e9 : Ex H1 (upd (upd (upd H1 dy (.own o)) o (.ins A.Listing dy [])) o (.ins A.Listing dy (lF (.int (s.l : Int)) (.int (s.r : Int)) (.ref lw) (.ref l1)))) := fun c u h => by
      rw [upd_ne (ne_of_none h ho), upd_ne (ne_of_none h ho), upd_ne (ne_of_none h hdy)]
      exact h
    have ho0 := Evl.fresh_back e1 ho
    rw [map_erase] at hl2
    exact q _ o (e1.trans e9) ho0 fun N eN fN => ⟨dy, lw, l1, ws, ps.eraseIdx n, fN _ _ ((fresh_at ho0).trans upd_same), eN _ _ h2, fN _ _ ((fresh_at hl1).trans (e9 _ _ hl2)), h4.imp fun _ _ k => k.mono eN, Each.drop (h5.imp fun _ _ k => k.mono eN)⟩
theorem dropWord_ok {s : Lst} (h : LOk s) (n : Nat) : LOk (Vahypz.dropWord s n) := ⟨h.l5, h.r5, Nat.le_trans (List.length_eraseIdx_le ..) h.w24, h.p40, fun u hu => h.ws u (List.mem_of_mem_eraseIdx hu), h.ps⟩
theorem dropPat_ok {s : Lst} (h : LOk s) (n : Nat) : LOk (Vahypz.dropPat s n) := ⟨h.l5, h.r5, h.w24, Nat.le_trans (List.length_eraseIdx_le ..) h.p40, h.ws, fun u hu => h.ps u (List.mem_of_mem_eraseIdx hu)⟩
end
end Pw
set_option Elab.async false
set_option linter.all false
set_option maxRecDepth 100000
set_option maxHeartbeats 2000000
/-! joining.py; reading.py: read_letters -/
namespace Pw
open PySem PySem.Spec PyProof.Rows L2
open VahypBase (inChunk isLetter isDigit)
open Vahypa (Word Pat Lst gaps levelAt)
theorem cut_pre {x : Bytes} {g : Nat} : cutS (bS x) none (some (g : Int)) = bS (x.take g) := by
  unfold cutS
  rw [bS_len, HT.sIx_nat]
  have e2 : (bS x).cps.toList = bn x := rfl
  rw [e2]
  unfold bS bn
  show S ((List.drop 0 (x.map UInt8.toNat)).take (min g x.length - 0)) = _
  rw [List.drop_zero, Nat.sub_zero, ← List.map_take]
  congr 2
  by_cases h : g ≤ x.length
  · rw [Nat.min_eq_left h]
  · rw [Nat.min_eq_right (by omega), List.take_of_length_le (Nat.le_refl _), List.take_of_length_le (by omega)]
theorem cut_suf {x : Bytes} {g : Nat} : cutS (bS x) (some (g : Int)) none = bS (x.drop g) := by
  unfold cutS
  rw [bS_len, HT.sIx_nat]
  have e2 : (bS x).cps.toList = bn x := rfl
  rw [e2]
  unfold bS bn
  show S ((List.drop (min g x.length) (x.map UInt8.toNat)).take (x.length - min g x.length)) = _
  rw [← List.map_drop, ← List.map_take]
  congr 2
  by_cases h : g ≤ x.length
  · rw [Nat.min_eq_left h, List.take_of_length_le (by rw [List.length_drop]; omega)]
  · rw [Nat.min_eq_right (by omega), List.drop_of_length_le (Nat.le_refl _), List.drop_of_length_le (by omega), List.take_nil]
def listed (ws : List Word) (x : Bytes) : Bool := ws.any fun w => w.x == x
theorem listed_first (ws : List Word) (x : Bytes) : decide (firstAt (ws.map wKey) (.w x) < ws.length) = listed ws x := by
  rw [first_any]
  unfold listed
  congr 1
  funext v
  show decide (EKey.w v.x = .w x) = (v.x == x)
  rw [beq_dec]
  by_cases h : v.x = x
  · rw [h, decide_eq_true rfl, decide_eq_true rfl]
  · rw [decide_eq_false h, decide_eq_false (fun e => h (by injection e))]
section
variable {P : Program} {w : World} {K : PySem.W.Frag} {mg : Str → Option Value} {base : Heap} {A : Adr}
def spListed (A : Adr) : Sp := fun vs H Q _ => ∃ (l : Addr) (ws : List Word) (x : Bytes), vs = [.ref l, .str (bS x)] ∧ WordsAt A H l ws ∧ ∀ H', Ex H H' → Q (.bl (listed ws x)) H'
theorem ok_is_listed {f : Addr} {fd : FuncData} (T : Txt K mg A) (a : At K mg "is_listed" s_is_listed ["words", "letters"] f fd) (d_number_of : C8.Cal P w K mg base 1 "number_of" (spNumber K) []) : C8.Cal P w K mg base 2 "is_listed" (spListed A) [] := by
  refine a.cal (ok0 a.fn sc_is_listed (fun vs H Q E h => ?_) (fun cdv Ar outer s H vs Q E hr h => ⟨_, (pss_one (ps_ret (pe_cmpR op_lt (C8.pe_c d_number_of hr (by decide) rfl (by exact (pa_cons (pv 0) (pa_cons (pv 1) pa_nil)))) (pe_callB call_len_seq rfl T.len (by decide +kernel) (pa_cons (pv 0) pa_nil)) (nomark _)))), ?_⟩) rfl rfl rfl)
  · obtain ⟨_, _, _, rfl, _⟩ := h
    rfl
  · obtain ⟨l, ws, x, rfl, ⟨as, h1, h2⟩, q⟩ := h
    refine ⟨_, rfl, _, rfl, l, as, ws.map wKey, .w x, _, rfl, SqL.of h1, h2.map wKey (fun b v hv => WordAt.key T hv), rfl, fun H1 e1 => ?_⟩
    refine ⟨_, rfl, l, _, rfl, .inl (SqL.of (e1 _ _ h1)), _, _, rfl, rfl, ?_⟩
    have q1 := q H1 e1
    rw [← listed_first] at q1
    rw [refs_len, h2.1]
    have e : decide ((firstAt (ws.map wKey) (.w x) : Int) < (ws.length : Int)) = decide (firstAt (ws.map wKey) (.w x) < ws.length) := by
      by_cases h : firstAt (ws.map wKey) (.w x) < ws.length
      · rw [decide_eq_true h, decide_eq_true (by omega)]
      · rw [decide_eq_false h, decide_eq_false (by omega)]
    show Q (.bl (decide ((firstAt (ws.map wKey) (.w x) : Int) < (ws.length : Int)))) H1
    rw [e]
    exact q1
def isJoint (ws : List Word) (x : Bytes) (g : Nat) : Bool := listed ws (x.take g) && listed ws (x.drop g)
def spJoints (A : Adr) : Sp := fun vs H Q _ => ∃ (l : Addr) (ws : List Word) (x : Bytes), vs = [.ref l, .str (bS x)] ∧ WordsAt A H l ws ∧ x.length ≤ 16 ∧ GivesL Q H ((gaps x).filter (isJoint ws x))
theorem ok_joints {f : Addr} {fd : FuncData} (T : Txt K mg A) (a : At K mg "joints" s_joints ["words", "letters"] f fd) (d_is_listed : C8.Cal P w K mg base 2 "is_listed" (spListed A) []) : C8.Cal P w K mg base 3 "joints" (spJoints A) [] := by
  refine a.cal (ok0 a.fn sc_joints (fun vs H Q E h => ?_) (fun cdv Ar outer s H vs Q E hr h => ⟨_, (pss_one (ps_ret (pe_lc (own := [("gap", 2)]) rfl sc_joints.nd (pi_range2 rfl T.range (pa_cons pe_int (pa_cons (pe_callB call_len_str rfl T.len (by decide +kernel) (pa_cons (pv 1) pa_nil)) pa_nil))) (blkOk_by (own := [("gap", 2)]) (N := ["words", "letters", "gap"]) (sc := defScope s_joints) (by decide +kernel)) (fun _ _ _ _ _ => by exact (pg_name (i := 2) sc_joints.nd rfl (Or.inl rfl))) (fun _ _ _ _ _ => by exact (pts_one (PW.pt (pw_and (pt_val (C8.pe_c d_is_listed hr (by decide) rfl (by exact (pa_cons (pv 0) (pa_cons (pe_slice sl_str (pv 1) po_none (po_some (pv 2))) pa_nil))))) (pw_and1 (pt_val (C8.pe_c d_is_listed hr (by decide) rfl (by exact (pa_cons (pv 0) (pa_cons (pe_slice sl_str (pv 1) (po_some (pv 2)) po_none) pa_nil)))))))))) (fun _ _ _ _ _ => by exact (pv 2))))), ?_⟩) rfl rfl rfl)
  · obtain ⟨_, _, _, rfl, _⟩ := h
    rfl
  · obtain ⟨l, ws, x, rfl, hW, hx, q⟩ := h
    refine ⟨_, rfl, _, rfl, Evl.sz_of (by rw [bS_len]; omega), ?_⟩
    rw [bS_len]
    refine ⟨1, _, rfl, ⟨by omega, by omega, by omega, by omega⟩, fun D hD => ?_⟩
    have hn : ((x.length : Int) - 1).toNat = x.length - 1 := by omega
    rw [hn]
    refine lc_range (lo := 1) (n := x.length - 1) (fun i H' => Ex H H' ∧ H' D = some (.lst (nums (((List.range i).map fun k => k + 1).filter (isJoint ws x))))) ⟨ex_new hD, upd_same⟩ ?_ ?_
    · rintro i H' hi ⟨e, hd⟩
      have e0 : (1 : Int) + (i : Int) = ((i + 1 : Nat) : Int) := by omega
      rw [e0]
      refine ⟨rfl, ?_⟩
      have fin : ∀ H3, Ex H' H3 → ∀ b : Bool, b = isJoint ws x (i + 1) → (if b = true then (tVar 2) [some (.ref l), some (.str (bS x)), some (.int ((i + 1 : Nat) : Int))] H3 fun y H4 => ∃ acc, H4 D = some (.lst acc) ∧ acc.length < sizeLine ∧ (Ex H (upd H4 D (.lst (acc ++ [y]))) ∧ upd H4 D (.lst (acc ++ [y])) D = some (.lst (nums (((List.range (i + 1)).map fun k => k + 1).filter (isJoint ws x)))))
          else Ex H H3 ∧ H3 D = some (.lst (nums (((List.range (i + 1)).map fun k => k + 1).filter (isJoint ws x))))) := fun H3 e3 b hb => by
        rw [gaps_filter x _ i hi, ← hb]
        refine b2 (fun h => ⟨_, rfl, _, e3 _ _ hd, Evl.sz_lt (by rw [nums_len]; have := List.length_filter_le (isJoint ws x) ((List.range i).map fun k => k + 1); rw [List.length_map, List.length_range] at this; omega), Evl.Ex.mut (e.trans e3) hD, ?_⟩) (fun h => ⟨e.trans e3, ?_⟩)
        · rw [upd_same, if_pos h, nums_app]
          rfl
        · rw [if_neg (by rw [h]; exact Bool.false_ne_true), List.append_nil]
          exact e3 _ _ hd
      refine ⟨_, rfl, _, rfl, _, rfl, _, rfl, _, rfl, Evl.sz_of (by rw [bS_len]; omega), l, ws, x.take (i + 1), by rw [cut_pre]; rfl, hW.mono e, fun H2 e2 => ⟨_, rfl, b2 (fun h => ?_) (fun h => ?_)⟩⟩
      · refine ⟨_, rfl, _, rfl, _, rfl, _, rfl, _, rfl, Evl.sz_of (by rw [bS_len]; omega), l, ws, x.drop (i + 1), by rw [cut_suf]; rfl, (hW.mono e).mono e2, fun H3 e3 => ⟨_, rfl, ?_⟩⟩
        refine fin H3 (e2.trans e3) _ ?_
        unfold isJoint
        rw [h, Bool.true_and]
      · refine fin H2 e2 false ?_
        unfold isJoint
        rw [h, Bool.false_and]
    · rintro H' ⟨e, hd⟩
      exact q _ D e hD hd
def spAsTwo (A : Adr) : Sp := fun vs H Q _ => ∃ (a : Addr) (s : Lst) (x : Bytes) (g : Nat), vs = [.ref a, .str (bS x), .int (g : Int)] ∧ ListAt A H a s ∧ (∀ p ∈ s.pats, POk p) ∧ x.length ≤ 16 ∧ GivesL Q H (Vahypz.asTwo s x g)
theorem parts_len (s : Lst) (x : Bytes) : (Vahypa.parts s x).length ≤ x.length := by
  have := List.length_filter_le (fun g => levelAt s.pats x g % 2 == 1 && Vahypa.within s x g) (gaps x)
  have h2 : (gaps x).length ≤ x.length := by
    unfold gaps
    rw [List.length_map, List.length_range]
    omega
  exact Nat.le_trans this h2
theorem ok_parted_as_two {f : Addr} {fd : FuncData} (T : Txt K mg A) (a : At K mg "parted_as_two" s_parted_as_two ["listing", "letters", "gap"] f fd) (d_parted_gaps : C8.Cal P w K mg base 6 "parted_gaps" (spParted A) []) : C8.Cal P w K mg base 7 "parted_as_two" (spAsTwo A) [] := by
  refine a.cal (ok0 a.fn sc_parted_as_two (fun vs H Q E h => ?_) (fun cdv Ar outer s H vs Q E hr h => ⟨_, (pss_cons (ps_set (i := 3) sc_parted_as_two.nd rfl (Or.inl rfl) (C8.pe_c d_parted_gaps hr (by decide) rfl (by exact (pa_cons (pv 0) (pa_cons (pe_slice sl_str (pv 1) po_none (po_some (pv 2))) pa_nil)))))
  (pss_cons (ps_set (i := 4) sc_parted_as_two.nd rfl (Or.inl rfl) (C8.pe_c d_parted_gaps hr (by decide) rfl (by exact (pa_cons (pv 0) (pa_cons (pe_slice sl_str (pv 1) (po_some (pv 2)) po_none) pa_nil)))))
  (pss_one (ps_ret (pe_op op_cat (pe_op op_cat (pv 3) (pe_lst (pa_cons (pv 2) pa_nil))) (pe_lc (own := [("offset", 5)]) rfl sc_parted_as_two.nd (pi_list (pv 4)) (blkOk_by (own := [("offset", 5)]) (N := ["listing", "letters", "gap", "front", "back", "offset"]) (sc := defScope s_parted_as_two) (by decide +kernel)) (fun _ _ _ _ _ => by exact (pg_name (i := 5) sc_parted_as_two.nd rfl (Or.inl rfl))) (fun _ _ _ _ _ => by exact pts_nil) (fun _ _ _ _ _ => by exact (pe_op op_add (pv 2) (pv 5))))))))), ?_⟩) rfl rfl rfl)
  · obtain ⟨_, _, _, _, rfl, _⟩ := h
    rfl
  · obtain ⟨a, s, x, g, rfl, hL, hp, hx, q⟩ := h
    have l1 : (x.take g).length ≤ 16 := by rw [List.length_take]; omega
    have l2 : (x.drop g).length ≤ 16 := by rw [List.length_drop]; omega
    have k1 := parts_len s (x.take g)
    have k2 := parts_len s (x.drop g)
    refine ⟨_, rfl, _, rfl, _, rfl, _, rfl, _, rfl, Evl.sz_of (by rw [bS_len]; omega), a, s, x.take g, by rw [cut_pre]; rfl, hL, hp, l1, fun H1 r1 e1 hr1 hv1 => ?_⟩
    refine ⟨_, rfl, _, rfl, _, rfl, _, rfl, _, rfl, Evl.sz_of (by rw [bS_len]; omega), a, s, x.drop g, by rw [cut_suf]; rfl, hL.mono e1, hp, l2, fun H2 r2 e2 hr2 hv2 => ?_⟩
    refine ⟨_, rfl, _, rfl, by show 1 ≤ sizeLine; decide, fun p1 hp1 => ?_⟩
    refine ⟨r1, p1, _, _, rfl, rfl, ex_new hp1 _ _ (e2 _ _ hv1), upd_same, by rw [nums_len]; exact Evl.sz_of (show _ + 1 ≤ 100000 by omega), fun p2 hp2 => ?_⟩
    have e12 := (e1.trans e2).trans ((ex_new (o := .lst [.int (g : Int)]) hp1).trans (ex_new (o := .lst (nums (Vahypa.parts s (x.take g)) ++ [.int (g : Int)])) hp2))
    have hv2' := ex_new (o := .lst (nums (Vahypa.parts s (x.take g)) ++ [.int (g : Int)])) hp2 _ _ (ex_new (o := .lst [.int (g : Int)]) hp1 _ _ hv2)
    refine ⟨_, rfl, r2, rfl, ⟨_, SqL.of hv2'⟩, fun D hD => ?_⟩
    generalize hHa : upd (upd H2 p1 (.lst [.int (g : Int)])) p2 (.lst (nums (Vahypa.parts s (x.take g)) ++ [.int (g : Int)])) = Ha at *
    have hp2a : Ha p2 = some (.lst (nums (Vahypa.parts s (x.take g)) ++ [.int (g : Int)])) := by
      rw [← hHa]
      exact upd_same
    refine lc_list (K := K) (a := r2) (xs := nums (Vahypa.parts s (x.drop g))) (fun i H' => Ex Ha H' ∧ H' D = some (.lst (nums (((Vahypa.parts s (x.drop g)).take i).map fun k => g + k)))) ⟨ex_new hD, upd_same⟩ (fun i H' _ ⟨e, _⟩ => SqL.of (e _ _ hv2')) ?_ ?_
    · rintro i y H' hy ⟨e, hd⟩
      obtain ⟨k, hk, rfl⟩ := nums_get hy
      refine ⟨rfl, ?_⟩
      refine tyes ⟨_, rfl, _, rfl, _, _, rfl, rfl, _, hd, ?_, Evl.Ex.mut e hD, ?_⟩
      · refine Evl.sz_lt ?_
        rw [nums_len, List.length_map, List.length_take]
        omega
      · rw [upd_same, List.take_add_one, hk, List.map_append, nums_app]
        rfl
    · rintro H' ⟨e, hd⟩
      rw [nums_len, List.take_length] at hd
      refine ⟨p2, D, _, _, rfl, rfl, e _ _ hp2a, hd, ?_, fun p7 hp7 => ?_⟩
      · refine Evl.sz_of ?_
        rw [List.length_append, nums_len, nums_len, List.length_map]
        show _ + 1 + _ ≤ 100000
        omega
      · refine q _ p7 ((e12.trans e).trans (ex_new hp7)) (Evl.fresh_back (e12.trans e) hp7) ?_
        rw [upd_same]
        unfold Vahypz.asTwo
        rw [nums_app, nums_app, List.append_assoc]
        rfl
def spBreaking (A : Adr) : Sp := fun vs H Q _ => ∃ (a : Addr) (s : Lst) (x : Bytes) (n : Int), vs = [.ref a, .str (bS x), .int n] ∧ ListAt A H a s ∧ (∀ p ∈ s.pats, POk p) ∧ x.length ≤ 16 ∧ GivesL Q H ((Vahypa.parts s x).filter fun g => decide ((g : Int) ≤ n - 1))
theorem ok_breaking_gaps {f : Addr} {fd : FuncData} (T : Txt K mg A) (a : At K mg "breaking_gaps" s_breaking_gaps ["listing", "letters", "places"] f fd) (d_parted_gaps : C8.Cal P w K mg base 6 "parted_gaps" (spParted A) []) : C8.Cal P w K mg base 7 "breaking_gaps" (spBreaking A) [] := by
  refine a.cal (ok0 a.fn sc_breaking_gaps (fun vs H Q E h => ?_) (fun cdv Ar outer s H vs Q E hr h => ⟨_, (pss_one (ps_ret (pe_lc (own := [("gap", 3)]) rfl sc_breaking_gaps.nd (pi_list (C8.pe_c d_parted_gaps hr (by decide) rfl (by exact (pa_cons (pv 0) (pa_cons (pv 1) pa_nil))))) (blkOk_by (own := [("gap", 3)]) (N := ["listing", "letters", "places", "gap"]) (sc := defScope s_breaking_gaps) (by decide +kernel)) (fun _ _ _ _ _ => by exact (pg_name (i := 3) sc_breaking_gaps.nd rfl (Or.inl rfl))) (fun _ _ _ _ _ => by exact (pts_one (pt_cmpR op_le (pv 3) (pe_op op_sub (pv 2) pe_int) (nomark _)))) (fun _ _ _ _ _ => by exact (pv 3))))), ?_⟩) rfl rfl rfl)
  · obtain ⟨_, _, _, _, rfl, _⟩ := h
    rfl
  · obtain ⟨a, s, x, n, rfl, hL, hp, hx, q⟩ := h
    have k1 := parts_len s x
    refine ⟨_, rfl, _, rfl, a, s, x, rfl, hL, hp, hx, fun H1 r e1 hr1 hv1 => ?_⟩
    refine ⟨r, rfl, ⟨_, SqL.of hv1⟩, fun D hD => ?_⟩
    refine lc_list (K := K) (a := r) (xs := nums (Vahypa.parts s x)) (fun i H' => Ex H1 H' ∧ H' D = some (.lst (nums (((Vahypa.parts s x).take i).filter fun g => decide ((g : Int) ≤ n - 1))))) ⟨ex_new hD, upd_same⟩ (fun i H' _ ⟨e, _⟩ => SqL.of (e _ _ hv1)) ?_ ?_
    · rintro i y H' hy ⟨e, hd⟩
      obtain ⟨g, hg, rfl⟩ := nums_get hy
      refine ⟨rfl, ?_⟩
      refine ⟨_, rfl, _, rfl, _, _, rfl, rfl, _, _, rfl, rfl, _, rfl, ?_⟩
      exact lc_kept hg (by omega) rfl hD e hd _ rfl (fun Q q => ⟨_, rfl, q⟩)
    · rintro H' ⟨e, hd⟩
      rw [nums_len, List.take_length] at hd
      exact q _ D (e1.trans e) (Evl.fresh_back e1 hD) hd
/-! ### read_letters -/
theorem tw_mem {p : UInt8 → Bool} : ∀ {l : Bytes} {c : UInt8}, c ∈ l.takeWhile p → p c = true
  | [], _, h => by cases h
  | d :: r, c, h => by
    rw [List.takeWhile_cons] at h
    by_cases e : p d = true
    · rw [if_pos e] at h
      rcases List.mem_cons.mp h with h | h
      · rw [h]
        exact e
      · exact tw_mem h
    · rw [if_neg e] at h
      cases h
theorem tw_all {p : UInt8 → Bool} : ∀ {l : Bytes}, (∀ c ∈ l, p c = true) → l.takeWhile p = l
  | [], _ => rfl
  | d :: r, h => by
    rw [List.takeWhile_cons, if_pos (h d (List.mem_cons_self ..)), tw_all fun c hc => h c (List.mem_cons_of_mem _ hc)]
theorem letters_eq (b : Bytes) : Vahypa.readLetters b = (if (b.takeWhile inChunk).length < b.length ∨ Txt.isalpha (bS (b.takeWhile inChunk)) = false ∨ wordLong (b.takeWhile inChunk) = false then none else some (b.takeWhile inChunk)) := by
  have hin : ∀ c ∈ b.takeWhile inChunk, inChunk c = true := fun c hc => tw_mem hc
  rw [alpha_part hin]
  by_cases hall : ∀ c ∈ b, inChunk c = true
  · have e : b.takeWhile inChunk = b := tw_all hall
    rw [e]
    unfold Vahypa.readLetters wordLong
    show (if b.length < 2 ∨ 16 < b.length ∨ b.all isLetter = false then none else some b) = _
    by_cases h2 : b.length < 2
    · rw [if_pos (Or.inl h2), if_pos (Or.inr (Or.inr (by rw [decide_eq_false (by omega)]; rfl)))]
    · by_cases h16 : 16 < b.length
      · rw [if_pos (Or.inr (Or.inl h16)), if_pos (Or.inr (Or.inr (by rw [decide_eq_false (show ¬ b.length ≤ 16 by omega), Bool.and_false])))]
      · by_cases hl : b.all isLetter = false
        · rw [if_pos (Or.inr (Or.inr hl)), if_pos (Or.inr (Or.inl (by rw [hl, Bool.and_false])))]
        · have hne : b ≠ [] := fun z => by rw [z] at h2; exact h2 (by decide)
          have hl' : b.all isLetter = true := by simpa using hl
          rw [if_neg, if_neg]
          · rintro (h | h | h)
            · omega
            · rw [hl', decide_eq_true hne] at h
              cases h
            · rw [decide_eq_true (show 2 ≤ b.length by omega), decide_eq_true (show b.length ≤ 16 by omega)] at h
              cases h
          · rintro (h | h | h)
            · omega
            · exact h16 h
            · exact hl h
  · have hlt : (b.takeWhile inChunk).length < b.length := by
      refine Nat.lt_of_le_of_ne (List.takeWhile_prefix inChunk).length_le fun e => hall fun c hc => ?_
      have e2 : b.takeWhile inChunk = b := (List.takeWhile_prefix inChunk).eq_of_length e
      rw [← e2] at hc
      exact hin c hc
    rw [if_pos (Or.inl hlt)]
    unfold Vahypa.readLetters
    refine if_pos (Or.inr (Or.inr ?_))
    rw [Bool.eq_false_iff]
    intro h
    refine hall fun c hc => ?_
    have := List.all_eq_true.mp h c hc
    unfold inChunk
    rw [this]
    rfl
def spLetters (K : PySem.W.Frag) : Sp := fun vs H Q _ => ∃ (r : Addr) (b : Bytes), vs = [.ref r] ∧ SqL K H r (bI b) ∧ b.length ≤ 8192 ∧ (Vahypa.readLetters b = none → ∀ H', Ex H H' → Q .non H') ∧ (∀ x, Vahypa.readLetters b = some x → ∀ H', Ex H H' → Q (.str (bS x)) H')
theorem ok_read_letters {f : Addr} {fd : FuncData} (T : Txt K mg A) (a : At K mg "read_letters" s_read_letters ["row"] f fd) (d_chunk_at : C8.Cal P w K mg base 2 "chunk_at" (spChunk K) []) (d_is_word_long : C8.Cal P w K mg base 1 "is_word_long" spWordLong []) : C8.Cal P w K mg base 3 "read_letters" (spLetters K) [] := by
  refine a.cal (ok0 a.fn sc_read_letters (fun vs H Q E h => ?_) (fun cdv Ar outer s H vs Q E hr h => ⟨_, (pss_cons (ps_set (i := 1) sc_read_letters.nd rfl (Or.inl rfl) (C8.pe_c d_chunk_at hr (by decide) rfl (by exact (pa_cons (pv 0) (pa_cons pe_int pa_nil)))))
  (pss_cons (ps_if (PW.pt (pw_or (pt_cmpR op_lt (pe_callB call_len_str rfl T.len (by decide +kernel) (pa_cons (pv 1) pa_nil)) (pe_callB call_len_seq rfl T.len (by decide +kernel) (pa_cons (pv 0) pa_nil)) (nomark _)) (pw_or (pt_not (pt_val (pe_m0 PySem.F.slot_str_isalpha PySem.F.type_str_isalpha mt_isalpha (pv 1)))) (pw_or1 (pt_not (pt_val (C8.pe_c d_is_word_long hr (by decide) rfl (by exact (pa_cons (pv 1) pa_nil))))))))) (pss_one (ps_ret pe_non)) pss_nil)
  (pss_one (ps_ret (pv 1))))), ?_⟩) rfl rfl rfl)
  · obtain ⟨_, _, rfl, _⟩ := h
    rfl
  · obtain ⟨r, b, rfl, hS, hz, qN, qS⟩ := h
    have hlen : (b.takeWhile inChunk).length ≤ b.length := (List.takeWhile_prefix inChunk).length_le
    refine ⟨_, rfl, r, b, 0, rfl, hS, Nat.zero_le _, hz, fun H1 e1 => ?_⟩
    rw [letters_eq] at qN qS
    dsimp only [gName]
    rw [List.drop_zero]
    generalize hx : b.takeWhile inChunk = x at *
    have hv : Val (tVar 1) [some (.ref r), some (.str (bS x))] H1 (.str (bS x)) := val_var rfl
    have hln := v_lenS hv (by rw [bS_len]; omega)
    rw [bS_len] at hln
    have hlr := v_lenL (K := K) (val_var (σ := [some (.ref r), some (.str (bS x))]) (i := 0) rfl) (Evl.ex_l e1 hS)
    rw [bI_len] at hlr
    refine when2 (b := decide (x.length < b.length ∨ Txt.isalpha (bS x) = false ∨ wordLong x = false)) (fun Q q => w_lt hln hlr _ ⟨_, rfl, b2 (fun h => ?_) (fun h => ⟨_, rfl, ⟨_, rfl⟩, _, rfl, rfl, trivial, _, rfl, b2 (fun h2 => ?_) (fun h2 => ⟨_, rfl, x, rfl, by omega, _, rfl, ?_⟩)⟩)⟩) (fun h => ?_) (fun h => ?_)
    · rw [decide_eq_true (Or.inl (by have := of_decide_eq_true h; omega))] at q
      exact q
    · rw [decide_eq_true (Or.inr (Or.inl (by simpa using h2)))] at q
      exact q
    · have h3 : ¬ x.length < b.length := by have := of_decide_eq_false h; omega
      have h4 : Txt.isalpha (bS x) = true := by simpa using h2
      have : decide (x.length < b.length ∨ Txt.isalpha (bS x) = false ∨ wordLong x = false) = !wordLong x := by
        cases hw : wordLong x with
        | true => exact decide_eq_false (by rintro (z | z | z); exact h3 z; rw [h4] at z; cases z; cases z)
        | false => exact decide_eq_true (Or.inr (Or.inr rfl))
      rw [this] at q
      exact q
    · rw [if_pos (of_decide_eq_true h)] at qN
      exact qN rfl _ e1
    · rw [if_neg (of_decide_eq_false h)] at qS
      exact ⟨_, rfl, qS x rfl _ e1⟩
end
end Pw
set_option Elab.async false
set_option linter.all false
set_option maxRecDepth 100000
set_option maxHeartbeats 2000000
/-! slimming.py -/
namespace Pw
open PySem PySem.Spec PyProof.Rows L2
open Vahypa (Word Pat Lst)
open Vahypz (slimBy slimAll dropPat touched)
/-! ### needless patterns, lists made slim -/
def partsL (s : Lst) (ws : List Word) : List (List Nat) := ws.map fun w => Vahypa.parts s w.x
theorem touched_none {s t : Lst} (hw : t.words = s.words) : (touched s t).isEmpty = decide (partsL t t.words = partsL s s.words) := by
  rw [Bool.eq_iff_iff, decide_eq_true_iff, List.isEmpty_iff, touched_eq, List.filter_eq_nil_iff, hw]
  unfold partsL
  constructor
  · intro h
    refine List.map_congr_left fun v hv => ?_
    obtain ⟨i, hi, he⟩ := List.getElem_of_mem hv
    have := h i (List.mem_range.mpr hi)
    rw [some_at hi, he] at this
    have h2 : ¬ isT s t v = true := this
    unfold isT at h2
    have hany : s.words.any (fun u => u.x == v.x) = true := List.any_eq_true.mpr ⟨v, hv, beq_self_eq_true _⟩
    rw [hw, hany, Bool.true_and] at h2
    have h3 : Vahypa.parts s v.x = Vahypa.parts t v.x := by simpa using h2
    exact h3.symm
  · intro h i hi hc
    have hi' := List.mem_range.mp hi
    rw [some_at hi'] at hc
    have h2 : isT s t s.words[i] = true := hc
    have h3 := congrArg (fun l => l[i]?) h
    simp only [List.getElem?_map, some_at hi'] at h3
    have h4 : Vahypa.parts t s.words[i].x = Vahypa.parts s s.words[i].x := Option.some.inj h3
    unfold isT at h2
    rw [h4] at h2
    simp at h2
theorem slimBy_done {s t : Lst} {f i : Nat} (h : t.pats.length ≤ i) : slimBy s f i t = t := by
  cases f with
  | zero => rfl
  | succ f =>
    unfold slimBy
    exact if_pos h
theorem slimBy_step {s t : Lst} {f i : Nat} (h : i < t.pats.length) : slimBy s (f + 1) i t = if (touched s (dropPat t i)).isEmpty = true then slimBy s f i (dropPat t i) else slimBy s f (i + 1) t := by
  conv => lhs; unfold slimBy
  rw [if_neg (by omega)]
theorem dropPat_len {t : Lst} {i : Nat} (h : i < t.pats.length) : (dropPat t i).pats.length = t.pats.length - 1 := List.length_eraseIdx_of_lt h
theorem slimBy_keeps {s : Lst} : ∀ (f i : Nat) (t : Lst), (slimBy s f i t).words = t.words ∧ (slimBy s f i t).pats.length ≤ t.pats.length ∧ ((slimBy s f i t).pats.length = t.pats.length → slimBy s f i t = t) ∧ (LOk t → LOk (slimBy s f i t))
  | 0, i, t => ⟨rfl, Nat.le_refl _, fun _ => rfl, id⟩
  | f + 1, i, t => by
    by_cases h : i < t.pats.length
    · rw [slimBy_step h]
      have hl := dropPat_len h
      by_cases hc : (touched s (dropPat t i)).isEmpty = true
      · rw [if_pos hc]
        obtain ⟨h1, h2, h3, h4⟩ := slimBy_keeps f i (dropPat t i)
        exact ⟨h1, by omega, fun e => by omega, fun ho => h4 (dropPat_ok ho i)⟩
      · rw [if_neg hc]
        exact slimBy_keeps f (i + 1) t
    · rw [slimBy_done (by omega)]
      exact ⟨rfl, Nat.le_refl _, fun _ => rfl, id⟩
theorem slimAll_step {s t : Lst} {f : Nat} : slimAll s (f + 1) t = if (slimBy s t.pats.length 0 t).pats.length = t.pats.length then t else slimAll s f (slimBy s t.pats.length 0 t) := rfl
theorem slimAll_keeps {s : Lst} : ∀ (f : Nat) (t : Lst), (slimAll s f t).words = t.words ∧ (slimAll s f t).pats.length ≤ t.pats.length ∧ (LOk t → LOk (slimAll s f t))
  | 0, t => ⟨rfl, Nat.le_refl _, id⟩
  | f + 1, t => by
    rw [slimAll_step]
    by_cases h : (slimBy s t.pats.length 0 t).pats.length = t.pats.length
    · rw [if_pos h]
      exact ⟨rfl, Nat.le_refl _, id⟩
    · rw [if_neg h]
      obtain ⟨h1, h2, _, h4⟩ := slimBy_keeps (s := s) t.pats.length 0 t
      obtain ⟨k1, k2, k3⟩ := slimAll_keeps (s := s) f (slimBy s t.pats.length 0 t)
      exact ⟨k1.trans h1, Nat.le_trans k2 h2, fun ho => k3 (h4 ho)⟩
theorem slim_ok {s : Lst} (h : LOk s) : LOk (Vahypz.slim s) := (slimAll_keeps (s := s) _ s).2.2 h
theorem slim_len (s : Lst) : (Vahypz.slim s).pats.length ≤ s.pats.length := (slimAll_keeps (s := s) _ s).2.1
theorem needless_eq (s : Lst) : Vahypz.needless s = (List.range s.pats.length).filter fun i => decide (partsL (dropPat s i) s.words = partsL s s.words) := by
  unfold Vahypz.needless
  congr 1
  funext i
  exact (touched_none (s := s) (t := dropPat s i) rfl).trans rfl
/-! ### lists of lists of numbers -/
def RowsAt (H : Hp) (r : Addr) (ls : List (List Nat)) : Prop := ∃ as : List Addr, H r = some (.lst (as.map V.ref)) ∧ Each (fun a l => H a = some (.lst (nums l))) as ls
theorem RowsAt.mono {H H' : Hp} {r : Addr} {ls : List (List Nat)} (h : RowsAt H r ls) (e : Ex H H') : RowsAt H' r ls := by
  obtain ⟨as, h1, h2⟩ := h
  exact ⟨as, e _ _ h1, h2.imp fun _ _ k => e _ _ k⟩
def numD (l : List Nat) : PyData := .list (l.map fun (n : Nat) => PyData.int (n : Int))
theorem numD_lay (l : List Nat) : PyData.canLay0 (numD l) = true := (Bool.and_eq_true_iff.mp (shaped_nums l)).1
theorem numD_deep (l : List Nat) : PyData.depth (numD l) = 1 := by
  have h2 : ∀ l : List Nat, PyData.depthAll (l.map fun (n : Nat) => PyData.int (n : Int)) = 0 := fun l => by
    induction l with
    | nil => simp [PyData.depthAll]
    | cons a r ih => simp [PyData.depthAll, PyData.depth] at ih ⊢; exact ih
  unfold numD
  simp only [PyData.depth, h2]
theorem shaped_rows (ls : List (List Nat)) : SeqAt.shaped (.list (ls.map numD)) = true := by
  unfold SeqAt.shaped
  have h1 : ∀ ls : List (List Nat), PyData.canLayAll0 (ls.map numD) = true := fun ls => by
    induction ls with
    | nil => simp [PyData.canLayAll0]
    | cons a r ih => simp only [List.map_cons, PyData.canLayAll0, numD_lay, Bool.true_and]; exact ih
  have h2 : ∀ ls : List (List Nat), PyData.depthAll (ls.map numD) ≤ 1 := fun ls => by
    induction ls with
    | nil => simp [PyData.depthAll]
    | cons a r ih =>
      simp only [List.map_cons, PyData.depthAll, numD_deep]
      omega
  simp only [PyData.canLay0, PyData.depth, h1, Bool.true_and]
  have := h2 ls
  exact decide_eq_true (by omega)
theorem eqv_numD (l m : List Nat) : PyData.eqv (numD l) (numD m) = decide (l = m) := eqv_list l m
theorem eqv_rows (ls ms : List (List Nat)) : PyData.eqv (.list (ls.map numD)) (.list (ms.map numD)) = decide (ls = ms) := by
  have h : ∀ ls ms : List (List Nat), PyData.eqvAll (ls.map numD) (ms.map numD) = decide (ls = ms) := fun ls => by
    induction ls with
    | nil =>
      intro ms
      cases ms with
      | nil => rfl
      | cons b t => rfl
    | cons a r ih =>
      intro ms
      cases ms with
      | nil => rfl
      | cons b t =>
        show (PyData.eqv (numD a) (numD b) && PyData.eqvAll (r.map numD) (t.map numD)) = _
        rw [ih, eqv_numD]
        by_cases h1 : a = b
        · by_cases h2 : r = t
          · rw [h1, h2, decide_eq_true rfl, decide_eq_true rfl, decide_eq_true rfl]
            rfl
          · rw [decide_eq_false h2, decide_eq_false (show ¬ a :: r = b :: t from fun e => h2 (by injection e)), Bool.and_false]
        · rw [decide_eq_false h1, decide_eq_false (show ¬ a :: r = b :: t from fun e => h1 (by injection e)), Bool.false_and]
  rw [← h]
  simp [PyData.eqv]
theorem jgg {G H H' H2 : Hp} (eG : Ex G H) (e : Ex H H') (e2 : Ex H' H2) : Ex (join (join G (fresh H H')) (fresh H' H2)) (join G (fresh H H2)) := by
  have hf : Ex (fresh H H2) (join G (fresh H H2)) := fresh_join eG
  refine join_ex (join_ex (join_l _ _) fun b o h => ?_) fun b o h => ?_
  · obtain ⟨h1, h2⟩ := fresh_some h
    refine hf b o ?_
    rw [fresh_at h1]
    exact e2 _ _ h2
  · obtain ⟨h1, h2⟩ := fresh_some h
    refine hf b o ?_
    rw [fresh_at (Evl.fresh_back e h1)]
    exact h2
theorem jgl {G H H1 H2 : Hp} (eG : Ex G H) (e : Ex H H1) : Ex (join G (fresh H1 H2)) (join G (fresh H H2)) := by
  have hf : Ex (fresh H H2) (join G (fresh H H2)) := fresh_join eG
  refine join_ex (join_l _ _) fun b o h => ?_
  obtain ⟨h1, h2⟩ := fresh_some h
  refine hf b o ?_
  rw [fresh_at (Evl.fresh_back e h1)]
  exact h2
section
variable {P : Program} {w : World} {K : PySem.W.Frag} {mg : Str → Option Value} {base : Heap} {A : Adr}
theorem dp_rows {H : Hp} {r : Addr} {ls : List (List Nat)} (h : RowsAt H r ls) : Dp K H (.ref r) (.list (ls.map numD)) := by
  obtain ⟨as, h1, h2⟩ := h
  refine .lst (SqL.of h1) ?_
  have : ∀ (as : List Addr) (ls : List (List Nat)), Each (fun a l => H a = some (.lst (nums l))) as ls → DpAll K H (as.map V.ref) (ls.map numD) := fun as => by
    induction as with
    | nil =>
      intro ls h
      cases ls with
      | nil => exact .nil
      | cons _ _ => cases h.1
    | cons a as ih =>
      intro ls h
      cases ls with
      | nil => cases h.1
      | cons l ls => exact .cons (dp_nums h.uncons.1) (ih ls h.uncons.2)
  exact this as ls h2
def spPartings (A : Adr) : Sp := fun vs H Q _ => ∃ (a : Addr) (s : Lst), vs = [.ref a] ∧ ListAt A H a s ∧ LOk s ∧ ∀ H' r, Ex H H' → H r = none → RowsAt H' r (partsL s s.words) → Q (.ref r) H'
theorem ok_partings {f : Addr} {fd : FuncData} (T : Txt K mg A) (a : At K mg "partings" s_partings ["listing"] f fd) (d_parted_gaps : C8.Cal P w K mg base 6 "parted_gaps" (spParted A) []) : C8.Cal P w K mg base 7 "partings" (spPartings A) [] := by
  refine a.cal (ok0 a.fn sc_partings (fun vs H Q E h => ?_) (fun cdv Ar outer s H vs Q E hr h => ⟨_, (pss_one (ps_ret (pe_lc (own := [("word", 1)]) rfl sc_partings.nd (pi_list (pe_fld (pv 0) rfl)) (blkOk_by (own := [("word", 1)]) (N := ["listing", "word"]) (sc := defScope s_partings) (by decide +kernel)) (fun _ _ _ _ _ => by exact (pg_name (i := 1) sc_partings.nd rfl (Or.inl rfl))) (fun _ _ _ _ _ => by exact pts_nil) (fun _ _ _ _ _ => by exact (C8.pe_c d_parted_gaps hr (by decide) rfl (by exact (pa_cons (pv 0) (pa_cons (pe_fldK (K := K) rfl (pv 1) rfl) pa_nil)))))))), ?_⟩) rfl rfl rfl)
  · obtain ⟨_, _, rfl, _⟩ := h
    rfl
  · obtain ⟨a, sl, rfl, hL, hO, q⟩ := h
    obtain ⟨dx, lw, lp, ws, ps, h1, h2, h3, h4, h5⟩ := id hL
    have h24 := hO.w24
    refine ⟨_, rfl, a, _, dx, _, _, rfl, h1, T.i_Listing.cl, T.n_Listing_words, rfl, lw, rfl, ⟨_, SqL.of h2⟩, fun D hD => ?_⟩
    refine lc_list (K := K) (a := lw) (xs := ws.map V.ref) (fun i H' => Ex H H' ∧ ∃ as : List Addr, H' D = some (.lst (as.map V.ref)) ∧ Each (fun a l => a ≠ D ∧ H' a = some (.lst (nums l))) as (partsL sl (sl.words.take i))) ⟨ex_new hD, [], upd_same, Each.nil⟩ (fun i H' _ ⟨e, _⟩ => SqL.of (e _ _ h2)) ?_ ?_
    · rintro i y H' hi ⟨e, as, hd, hE⟩
      obtain ⟨aw, haw, rfl⟩ := refs_at hi
      obtain ⟨wd, hwd, dw, gw, w1, w2⟩ := h4.at haw
      have hwo := hO.ws wd (List.mem_of_getElem? hwd)
      have hil := (List.getElem?_eq_some_iff.mp hwd).1
      refine ⟨rfl, ?_⟩
      refine tyes ⟨_, rfl, _, rfl, aw, _, dw, _, _, rfl, e _ _ w1, T.i_Word.cl, T.n_Word_letters, rfl, a, sl, wd.x, rfl, hL.mono e, hO.ps, hwo.most, fun H2 r e2 hr2 hr3 => ?_⟩
      have hasl : as.length ≤ 24 := by
        rw [hE.1]
        unfold partsL
        rw [List.length_map, List.length_take]
        omega
      have rD : r ≠ D := fun z => by rw [z, hd] at hr2; cases hr2
      refine ⟨_, e2 _ _ hd, Evl.sz_lt (by rw [refs_len]; omega), Evl.Ex.mut (e.trans e2) hD, as ++ [r], ?_, ?_⟩
      · rw [upd_same, List.map_append]
        rfl
      · unfold partsL
        rw [List.take_add_one, hwd, List.map_append]
        refine Each.snoc (hE.imp fun b w hb => ?_) ?_
        · exact ⟨hb.1, by rw [upd_ne hb.1]; exact e2 _ _ hb.2⟩
        · exact ⟨rD, by rw [upd_ne rD]; exact hr3⟩
    rintro H1 ⟨e1, as, hd, hE⟩
    rw [refs_len, h4.1, List.take_length] at hE
    exact q H1 D e1 hD ⟨as, hd, hE.imp fun _ _ k => k.2⟩
def spNeedless (A : Adr) : Sp := fun vs H Q _ => ∃ (a : Addr) (G : Hp) (s : Lst), vs = [.ref a] ∧ Ex G H ∧ ListAt A G a s ∧ LOk s ∧ GivesL Q H (Vahypz.needless s)
theorem ok_needless_patterns {f : Addr} {fd : FuncData} (T : Txt K mg A) (a : At K mg "needless_patterns" s_needless_patterns ["listing"] f fd) (d_partings : C8.Cal P w K mg base 7 "partings" (spPartings A) []) (d_without_pattern : C8.Cal P w K mg base 3 "without_pattern" (spDropOne A dropPat) []) :
    C8.Cal P w K mg base 8 "needless_patterns" (spNeedless A) [] := by
  refine a.cal (ok0 a.fn sc_needless_patterns (fun vs H Q E h => ?_) (fun cdv Ar outer s H vs Q E hr h => ⟨_, (pss_cons (ps_set (i := 1) sc_needless_patterns.nd rfl (Or.inl rfl) (C8.pe_c d_partings hr (by decide) rfl (by exact (pa_cons (pv 0) pa_nil))))
  (pss_cons (ps_set (i := 2) sc_needless_patterns.nd rfl (Or.inl rfl) (pe_lst pa_nil))
  (pss_cons (ps_for PassesOwn.never rfl (pi_range1 rfl T.range (pa_cons (pe_callB call_len_seq rfl T.len (by decide +kernel) (pa_cons (pe_fld (pv 0) rfl) pa_nil)) pa_nil)) (pg_name (i := 3) sc_needless_patterns.nd rfl (Or.inl rfl)) (pss_one (ps_if (pt_cmpR (op_eqD hr.units) (C8.pe_c d_partings hr (by decide) rfl (by exact (pa_cons (C8.pe_c d_without_pattern hr (by decide) rfl (by exact (pa_cons (pv 0) (pa_cons (pv 3) pa_nil)))) pa_nil))) (pv 1) (nomark _)) (pss_one (ps_expr (pe_bm PySem.F.plainAttrs_list PySem.F.slot_list_append PySem.F.type_list_append mt_append (pv 2) (pa_cons (pv 3) pa_nil)))) pss_nil)))
  (pss_one (ps_ret (pv 2)))))), ?_⟩) rfl rfl rfl)
  · obtain ⟨_, _, _, rfl, _⟩ := h
    rfl
  · obtain ⟨a, G, s, rfl, eG, hL, hO, q⟩ := h
    have hLH := hL.mono eG
    obtain ⟨dx, lw, lp, ws, ps, h1, h2, h3, h4, h5⟩ := id hLH
    have h40 := hO.p40
    have h24 := hO.w24
    refine ⟨_, rfl, a, s, rfl, hLH, hO, fun H1 r e1 hr1 hv1 => ?_⟩
    refine ⟨by show 0 ≤ sizeLine; decide, fun fl hfl => ?_⟩
    have e0 : Ex H (upd H1 fl (.lst [])) := e1.trans (ex_new hfl)
    refine ⟨_, rfl, a, _, dx, _, _, rfl, e0 _ _ h1, T.i_Listing.cl, T.n_Listing_patterns, rfl, lp, _, rfl, .inl (SqL.of (e0 _ _ h3)), _, rfl, (by omega), (by rw [refs_len, h5.1]; omega), ?_⟩
    rw [refs_len, h5.1, Int.toNat_natCast]
    rw [needless_eq] at q
    refine for_range (lo := 0) (n := s.pats.length) (fun i σ H' => ∃ v3 : Option V, σ = [some (.ref a), some (.ref r), some (.ref fl), v3] ∧ Ex H1 H' ∧ H' fl = some (.lst (nums ((List.range i).filter fun i => decide (partsL (dropPat s i) s.words = partsL s s.words))))) ⟨none, rfl, ex_new hfl, upd_same⟩ ?_ ?_
    · rintro i σ H' hi ⟨v3, rfl, eH, hf⟩
      have ei : (0 : Int) + (i : Int) = (i : Int) := Int.zero_add _
      rw [ei]
      dsimp only [gName]
      have eGH := (eG.trans e1).trans eH
      refine ⟨_, rfl, _, rfl, a, G, s, i, rfl, eGH, hL, by omega, by omega, fun H2 o e2 ho hG => ?_⟩
      have hL2 : ListAt A H2 o (dropPat s i) := hG H2 (eGH.trans e2) (fresh_ex _ _)
      refine ⟨o, dropPat s i, rfl, hL2, dropPat_ok hO i, fun H3 r3 e3 hr3 hv3 => ?_⟩
      refine ⟨_, rfl, _, _, dp_rows hv3, dp_rows (((hv1.mono eH).mono e2).mono e3), shaped_rows _, shaped_rows _, _, rfl, ?_⟩
      rw [eqv_rows]
      have e23 := e2.trans e3
      have hf3 := e23 _ _ hf
      have hfil := range_filter (fun i => decide (partsL (dropPat s i) s.words = partsL s s.words)) i
      refine b2 (fun h => ?_) (fun h => ?_)
      · refine ⟨_, rfl, .inl ⟨rfl, _, SqL.of hf3⟩, _, rfl, fl, _, _, rfl, rfl, hf3, Evl.sz_lt (by rw [nums_len]; have := filter_len (fun i => decide (partsL (dropPat s i) s.words = partsL s s.words)) i; omega), _, rfl, Evl.Ex.mut (eH.trans e23) hfl, ?_⟩
        rw [upd_same, hfil, if_pos (show decide (partsL (dropPat s i) s.words = partsL s s.words) = true from h), nums_app]
        rfl
      · refine ⟨_, rfl, eH.trans e23, ?_⟩
        rw [hfil, if_neg (by rw [show decide (partsL (dropPat s i) s.words = partsL s s.words) = false from h]; exact Bool.false_ne_true), List.append_nil]
        exact hf3
    · rintro σ H' ⟨v3, rfl, eH, hf⟩
      exact ⟨_, rfl, q H' fl (e1.trans eH) (Evl.fresh_back e1 hfl) hf⟩
def spGone (A : Adr) : Sp := fun vs H Q _ => ∃ (a r : Addr) (G : Hp) (s t : Lst), vs = [.ref a, .ref r] ∧ Ex G H ∧ ListAt A G a t ∧ LOk t ∧ t.words = s.words ∧ RowsAt H r (partsL s s.words) ∧
  ∀ H' o, Ex H H' → ListAt A (join G (fresh H H')) o (slimBy s t.pats.length 0 t) → Q (.ref o) H'
theorem ok_gone_through {f : Addr} {fd : FuncData} (T : Txt K mg A) (a : At K mg "gone_through" s_gone_through ["listing", "parted"] f fd) (d_without_pattern : C8.Cal P w K mg base 3 "without_pattern" (spDropOne A dropPat) []) (d_partings : C8.Cal P w K mg base 7 "partings" (spPartings A) []) :
    C8.Cal P w K mg base 8 "gone_through" (spGone A) [] := by
  refine a.cal (ok0 a.fn sc_gone_through (fun vs H Q E h => ?_) (fun cdv Ar outer s H vs Q E hr h => ⟨_, (pss_cons (ps_set (i := 2) sc_gone_through.nd rfl (Or.inl rfl) pe_int)
  (pss_cons (ps_while PassesOwn.never (pt_cmpR op_lt (pv 2) (pe_callB call_len_seq rfl T.len (by decide +kernel) (pa_cons (pe_fld (pv 0) rfl) pa_nil)) (nomark _)) (pss_cons (ps_set (i := 3) sc_gone_through.nd rfl (Or.inl rfl) (C8.pe_c d_without_pattern hr (by decide) rfl (by exact (pa_cons (pv 0) (pa_cons (pv 2) pa_nil)))))
    (pss_one (ps_if (pt_cmpR (op_eqD hr.units) (C8.pe_c d_partings hr (by decide) rfl (by exact (pa_cons (pv 3) pa_nil))) (pv 1) (nomark _)) (pss_one (ps_set (i := 0) sc_gone_through.nd rfl (Or.inl rfl) (pv 3))) (pss_one (ps_aug (i := 2) sc_gone_through.nd rfl (Or.inl rfl) pe_int ip_add))))))
  (pss_one (ps_ret (pv 0))))), ?_⟩) rfl rfl rfl)
  · obtain ⟨_, _, _, _, _, rfl, _⟩ := h
    rfl
  · obtain ⟨a, r, G, s, t, rfl, eG, hL, hO, hw, hR, q⟩ := h
    refine st_seq (while2 (fun m σ' H' => ∃ (o : Addr) (i : Nat) (u : Lst) (v3 : Option V), σ' = [some (.ref o), some (.ref r), some (.int (i : Int)), v3] ∧ Ex H H' ∧ ListAt A (join G (fresh H H')) o u ∧ LOk u ∧ u.words = s.words ∧
      u.pats.length ≤ i + m ∧ slimBy s m i u = slimBy s t.pats.length 0 t) t.pats.length ⟨a, 0, t, none, rfl, Evl.Ex.refl _, hL.mono (join_l _ _), hO, hw, by omega, rfl⟩ ?_)
    rintro m σ H' ⟨o, i, u, v3, rfl, eH, hU, hUO, huw, hm, hs⟩
    have j3 := jg3 eG eH
    have hUH := hU.mono j3
    obtain ⟨dx, lw, lp, ws, ps, h1, h2, h3, h4, h5⟩ := id hUH
    have h40 := hUO.p40
    have h24 := hUO.w24
    have hln : Val (tCB (Evl.rLenS K) (tCons (tFld K (tVar 0) "patterns") tNil)) [some (.ref o), some (.ref r), some (.int (i : Int)), v3] H' (.int (u.pats.length : Int)) := by
      have := v_lenL (K := K) (v_fld (val_var (σ := [some (.ref o), some (.ref r), some (.int (i : Int)), v3]) (i := 0) rfl) h1 T.i_Listing.cl T.n_Listing_patterns rfl) (SqL.of h3)
      rw [refs_len, h5.1] at this
      exact this
    refine ⟨_, a_t (w_lt (val_var rfl) hln), fun h => ?_, fun h => ?_⟩
    · have hi : i < u.pats.length := by have := of_decide_eq_true h; omega
      obtain ⟨m, rfl⟩ : ∃ k, m = k + 1 := ⟨m - 1, by omega⟩
      rw [slimBy_step hi] at hs
      refine ⟨_, rfl, _, rfl, o, _, u, i, rfl, j3, hU, by omega, by omega, fun H2 o2 e2 ho2 hG2 => ?_⟩
      have hU2 : ListAt A (join G (fresh H H2)) o2 (dropPat u i) := (hG2 _ (join_l _ _) (fresh_join j3)).mono (jgg eG eH e2)
      have eH2 := eH.trans e2
      refine ⟨_, rfl, o2, dropPat u i, rfl, hU2.mono (jg3 eG eH2), dropPat_ok hUO i, fun H3 r3 e3 hr3 hv3 => ?_⟩
      have eH3 := eH2.trans e3
      refine ⟨_, rfl, _, _, dp_rows hv3, dp_rows (hR.mono eH3), shaped_rows _, shaped_rows _, _, rfl, ?_⟩
      rw [eqv_rows]
      have hdw : (dropPat u i).words = s.words := huw
      rw [touched_none hdw] at hs
      have hU3 : ∀ {b : Addr} {z : Lst}, ListAt A (join G (fresh H H2)) b z → ListAt A (join G (fresh H H3)) b z := fun k => k.mono (((join_l _ _).trans (jgg eG eH2 e3)))
      have hl := dropPat_len hi
      refine b2 (fun h => ?_) (fun h => ?_)
      · rw [if_pos h] at hs
        exact ⟨_, rfl, m, Nat.lt_succ_self m, o2, i, dropPat u i, _, rfl, eH3, hU3 hU2, dropPat_ok hUO i, hdw, by omega, hs⟩
      · rw [if_neg (by rw [show decide (partsL (dropPat u i) (dropPat u i).words = partsL s s.words) = false from h]; exact Bool.false_ne_true)] at hs
        refine ⟨_, rfl, _, _, rfl, rfl, m, Nat.lt_succ_self m, o, i + 1, u, _, rfl, eH3, hU.mono ((join_l _ _).trans (jgg eG eH (e2.trans e3))), hUO, huw, by omega, hs⟩
    · have hi : u.pats.length ≤ i := by have := of_decide_eq_false h; omega
      rw [slimBy_done hi] at hs
      rw [hs] at hU
      exact ⟨_, rfl, q H' o eH hU⟩
def spSlimmed (A : Adr) : Sp := fun vs H Q _ => ∃ (a : Addr) (G : Hp) (s : Lst), vs = [.ref a] ∧ Ex G H ∧ ListAt A G a s ∧ LOk s ∧ ∀ H' o, Ex H H' → ListAt A (join G (fresh H H')) o (Vahypz.slim s) → Q (.ref o) H'
theorem ok_slimmed {f : Addr} {fd : FuncData} (T : Txt K mg A) (a : At K mg "slimmed" s_slimmed ["listing"] f fd) (d_partings : C8.Cal P w K mg base 7 "partings" (spPartings A) []) (d_gone_through : C8.Cal P w K mg base 8 "gone_through" (spGone A) []) : C8.Cal P w K mg base 9 "slimmed" (spSlimmed A) [] := by
  refine a.cal (ok0 a.fn sc_slimmed (fun vs H Q E h => ?_) (fun cdv Ar outer s H vs Q E hr h => ⟨_, (pss_cons (ps_set (i := 1) sc_slimmed.nd rfl (Or.inl rfl) (C8.pe_c d_partings hr (by decide) rfl (by exact (pa_cons (pv 0) pa_nil))))
  (pss_cons (ps_set (i := 2) sc_slimmed.nd rfl (Or.inl rfl) (pv 0))
  (pss_cons (ps_set (i := 3) sc_slimmed.nd rfl (Or.inl rfl) (C8.pe_c d_gone_through hr (by decide) rfl (by exact (pa_cons (pv 2) (pa_cons (pv 1) pa_nil)))))
  (pss_cons (ps_while PassesOwn.never (pt_cmpR op_lt (pe_callB call_len_seq rfl T.len (by decide +kernel) (pa_cons (pe_fld (pv 3) rfl) pa_nil)) (pe_callB call_len_seq rfl T.len (by decide +kernel) (pa_cons (pe_fld (pv 2) rfl) pa_nil)) (nomark _)) (pss_cons (ps_set (i := 2) sc_slimmed.nd rfl (Or.inl rfl) (pv 3))
    (pss_one (ps_set (i := 3) sc_slimmed.nd rfl (Or.inl rfl) (C8.pe_c d_gone_through hr (by decide) rfl (by exact (pa_cons (pv 2) (pa_cons (pv 1) pa_nil))))))))
  (pss_one (ps_ret (pv 3))))))), ?_⟩) rfl rfl rfl)
  · obtain ⟨_, _, _, rfl, _⟩ := h
    rfl
  · obtain ⟨a, G, s, rfl, eG, hL, hO, q⟩ := h
    refine ⟨_, rfl, a, s, rfl, hL.mono eG, hO, fun H1 r e1 hr1 hv1 => ?_⟩
    refine ⟨_, rfl, ?_⟩
    refine ⟨_, rfl, _, rfl, a, r, G, s, s, rfl, eG.trans e1, hL, hO, rfl, hv1, fun H2 o e2 hA => ?_⟩
    have hA2 : ListAt A (join G (fresh H H2)) o (slimBy s s.pats.length 0 s) := hA.mono (jgl eG e1)
    dsimp only [gName]
    refine st_seq (while2 (fun m σ' H' => ∃ (b o : Addr) (t : Lst), σ' = [some (.ref a), some (.ref r), some (.ref b), some (.ref o)] ∧ Ex H H' ∧ Ex H1 H' ∧ ListAt A (join G (fresh H H')) b t ∧ LOk t ∧ t.words = s.words ∧ ListAt A (join G (fresh H H')) o (slimBy s t.pats.length 0 t) ∧
      t.pats.length < m ∧ slimAll s m t = Vahypz.slim s) (s.pats.length + 1) ⟨a, o, s, rfl, e1.trans e2, e2, hL.mono (join_l _ _), hO, rfl, hA2, Nat.lt_succ_self _, rfl⟩ ?_)
    rintro m σ H' ⟨b, o, t, rfl, eH, eH1, hT, hTO, htw, hU, hm, hs⟩
    have j3 := jg3 eG eH
    obtain ⟨dx, lw, lp, ws, ps, h1, h2, h3, h4, h5⟩ := hT.mono j3
    obtain ⟨dx', lw', lp', ws', ps', h1', h2', h3', h4', h5'⟩ := hU.mono j3
    obtain ⟨k1, k2, k3, k4⟩ := slimBy_keeps (s := s) t.pats.length 0 t
    have hlb : Val (tCB (Evl.rLenS K) (tCons (tFld K (tVar 2) "patterns") tNil)) [some (.ref a), some (.ref r), some (.ref b), some (.ref o)] H' (.int (t.pats.length : Int)) := by
      have := v_lenL (K := K) (v_fld (val_var (σ := [some (.ref a), some (.ref r), some (.ref b), some (.ref o)]) (i := 2) rfl) h1 T.i_Listing.cl T.n_Listing_patterns rfl) (SqL.of h3)
      rw [refs_len, h5.1] at this
      exact this
    have hlo : Val (tCB (Evl.rLenS K) (tCons (tFld K (tVar 3) "patterns") tNil)) [some (.ref a), some (.ref r), some (.ref b), some (.ref o)] H' (.int ((slimBy s t.pats.length 0 t).pats.length : Int)) := by
      have := v_lenL (K := K) (v_fld (val_var (σ := [some (.ref a), some (.ref r), some (.ref b), some (.ref o)]) (i := 3) rfl) h1' T.i_Listing.cl T.n_Listing_patterns rfl) (SqL.of h3')
      rw [refs_len, h5'.1] at this
      exact this
    obtain ⟨m, rfl⟩ : ∃ k, m = k + 1 := ⟨m - 1, by omega⟩
    rw [slimAll_step] at hs
    refine ⟨_, a_t (w_lt hlo hlb), fun h => ?_, fun h => ?_⟩
    · have hlt : (slimBy s t.pats.length 0 t).pats.length < t.pats.length := by have := of_decide_eq_true h; omega
      rw [if_neg (by omega)] at hs
      refine ⟨_, rfl, ?_⟩
      refine ⟨_, rfl, _, rfl, o, r, _, s, slimBy s t.pats.length 0 t, rfl, j3, hU, k4 hTO, k1.trans htw, hv1.mono eH1, fun H3 o3 e3 hA3 => ?_⟩
      exact ⟨m, Nat.lt_succ_self m, o, o3, slimBy s t.pats.length 0 t, rfl, eH.trans e3, eH1.trans e3, hU.mono ((join_l _ _).trans (jgg eG eH e3)), k4 hTO, k1.trans htw, hA3.mono (jgg eG eH e3), by omega, hs⟩
    · have hge : (slimBy s t.pats.length 0 t).pats.length = t.pats.length := by have := of_decide_eq_false h; omega
      rw [if_pos hge] at hs
      rw [k3 hge, hs] at hU
      exact ⟨_, rfl, q H' o eH hU⟩
end
end Pw
set_option Elab.async false
set_option linter.all false
set_option maxRecDepth 100000
set_option maxHeartbeats 2000000
/-! patterns.py: drop, slim, joint, line_break -/
namespace Pw
open PySem PySem.Spec PyProof.Rows L2
open Vahypa (Word Pat Lst gaps)
section
variable {P : Program} {w : World} {K : PySem.W.Frag} {mg : Str → Option Value} {base : Heap} {A : Adr}
def kindLen (s : Lst) (k : Int) : Nat := if k = 0 then s.words.length else s.pats.length
def dropped (s : Lst) (k : Int) (j : Nat) : Lst := if k = 0 then Vahypz.dropWord s j else Vahypz.dropPat s j
def spDrop (A : Adr) : Sp := fun vs H Q _ => ∃ (d dd p : Addr) (G : Hp) (s : Lst) (k i : Int), vs = [.ref d, .int k, .int i] ∧ Held A G H d dd p s ∧
  (k ≠ 0 → k ≠ 1 → GivesB Q H [.int (-4)]) ∧ ((k = 0 ∨ k = 1) → hasNo i (kindLen s k) = false → GivesB Q H [.int (-2)]) ∧
  ((k = 0 ∨ k = 1) → ∀ j : Nat, i = (j : Int) → j < kindLen s k → GivesHeld A Q G H d dd (dropped s k j) (nums (changeNums s (dropped s k j))))
theorem ok_drop {f : Addr} {fd : FuncData} (T : Txt K mg A) (a : At K mg "drop" s_drop ["desk", "kind", "number"] f fd) (d_has_number : C8.Cal P w K mg base 1 "has_number" spHas []) (d_become : C8.Cal P w K mg base 9 "become" (spBecome A) [])
    (d_without_word : C8.Cal P w K mg base 3 "without_word" (spDropOne A Vahypz.dropWord) []) (d_without_pattern : C8.Cal P w K mg base 3 "without_pattern" (spDropOne A Vahypz.dropPat) []) : C8.Cal P w K mg base 10 "drop" (spDrop A) [] := by
  refine a.cal (ok0 a.fn sc_drop (fun vs H Q E h => ?_) (fun cdv Ar outer s H vs Q E hr h => ⟨_, (pss_cons (ps_if (PW.pt (pw_and (pt_cmpR op_ne (pv 1) (C8.pe_gc rfl T.c_DROPPED_WORD) (nomark _)) (pw_and1 (pt_cmpR op_ne (pv 1) (C8.pe_gc rfl T.c_DROPPED_PATTERN) (nomark _))))) (pss_one (ps_ret (pe_lst (pa_cons (C8.pe_gc rfl T.c_NOT_RIGHT) pa_nil)))) pss_nil)
  (pss_cons (ps_set (i := 3) sc_drop.nd rfl (Or.inl rfl) (pe_ifExp (pt_cmpR op_eq (pv 1) (C8.pe_gc rfl T.c_DROPPED_WORD) (nomark _)) (pe_fld (pe_fld (pv 0) rfl) rfl) (pe_fld (pe_fld (pv 0) rfl) rfl)))
  (pss_cons (ps_if (pt_not (pt_val (C8.pe_c d_has_number hr (by decide) rfl (by exact (pa_cons (pv 3) (pa_cons (pv 2) pa_nil)))))) (pss_one (ps_ret (pe_lst (pa_cons (C8.pe_gc rfl T.c_NO_SUCH) pa_nil)))) pss_nil)
  (pss_cons (ps_if (pt_cmpR op_eq (pv 1) (C8.pe_gc rfl T.c_DROPPED_WORD) (nomark _)) (pss_one (ps_ret (C8.pe_c d_become hr (by decide) rfl (by exact (pa_cons (pv 0) (pa_cons (C8.pe_c d_without_word hr (by decide) rfl (by exact (pa_cons (pe_fld (pv 0) rfl) (pa_cons (pv 2) pa_nil)))) pa_nil)))))) pss_nil)
  (pss_one (ps_ret (C8.pe_c d_become hr (by decide) rfl (by exact (pa_cons (pv 0) (pa_cons (C8.pe_c d_without_pattern hr (by decide) rfl (by exact (pa_cons (pe_fld (pv 0) rfl) (pa_cons (pv 2) pa_nil)))) pa_nil)))))))))), ?_⟩) rfl rfl rfl)
  · obtain ⟨_, _, _, _, _, _, _, rfl, _⟩ := h
    rfl
  · obtain ⟨d, dd, p, G, s, k, i, rfl, HD, q4, q2, q⟩ := h
    obtain ⟨dx, lw, lp, ws, ps, h1, h2, h3, h4, h5⟩ := HD.lst.mono HD.frz
    have hw := HD.ok.w24
    have hp40 := HD.ok.p40
    have hfld : ∀ {σ : L2.St}, σ[0]? = some (some (.ref d)) → Val (tFld K (tVar 0) "held") σ H (.ref p) := fun hσ => v_fld (val_var hσ) HD.desk T.i_Desk.cl T.n_Desk_held rfl
    refine when2 (a_and (a_t (v_neI (val_var rfl) val_c)) (fun _ => a_t (v_neI (val_var rfl) val_c))) (fun h => ?_) (fun h => ?_)
    · rw [Bool.and_eq_true, Bool.not_eq_true', Bool.not_eq_true', decide_eq_false_iff_not, decide_eq_false_iff_not] at h
      exact ⟨by show 1 ≤ sizeLine; decide, fun l hl => q4 h.1 h.2 _ l (ex_new hl) hl upd_same⟩
    have hk : k = 0 ∨ k = 1 := by
      by_cases h0 : k = 0
      · exact .inl h0
      · by_cases h1 : k = 1
        · exact .inr h1
        · rw [decide_eq_false h0, decide_eq_false h1] at h
          cases h
    refine st_seq (v_ifE (b := decide (k = 0)) (x := .ref lw) (y := .ref lp) (a_t (v_eqI (val_var rfl) val_c)) (v_fld (hfld rfl) h1 T.i_Listing.cl T.n_Listing_words rfl) (v_fld (hfld rfl) h1 T.i_Listing.cl T.n_Listing_patterns rfl) _ ?_)
    have hent : ∃ (e : Addr) (as : List Addr), (if decide (k = 0) = true then V.ref lw else V.ref lp) = .ref e ∧ H e = some (.lst (as.map V.ref)) ∧ as.length = kindLen s k := by
      unfold kindLen
      by_cases h0 : k = 0
      · rw [if_pos (decide_eq_true h0), if_pos h0]
        exact ⟨lw, ws, rfl, h2, h4.1⟩
      · rw [if_neg (by rw [decide_eq_false h0]; exact Bool.false_ne_true), if_neg h0]
        exact ⟨lp, ps, rfl, h3, h5.1⟩
    obtain ⟨e, as, he, he2, he3⟩ := hent
    rw [he]
    dsimp only [gName]
    refine when2 (b := !hasNo i (kindLen s k)) (fun Q q => ⟨_, rfl, _, rfl, e, _, i, rfl, he2, by rw [refs_len, he3]; exact ⟨_, rfl, q⟩⟩) (fun h => ?_) (fun h => ?_)
    · exact ⟨by show 1 ≤ sizeLine; decide, fun l hl => q2 hk (by simpa using h) _ l (ex_new hl) hl upd_same⟩
    obtain ⟨j, rfl, hj⟩ := hasNo_iff (by simpa using h)
    have qj := q hk j rfl hj
    refine when2 (b := decide (k = 0)) (a_t (v_eqI (val_var rfl) val_c)) (fun h => ?_) (fun h => ?_)
    · have h0 := of_decide_eq_true h
      unfold dropped at qj
      rw [if_pos h0] at qj
      refine ⟨_, rfl, _, rfl, d, _, dd, _, _, rfl, HD.desk, T.i_Desk.cl, T.n_Desk_held, rfl, _, rfl, p, G, s, j, rfl, HD.frz, HD.lst, by omega, by omega, fun H1 o e1 ho hG => ?_⟩
      refine ⟨d, dd, p, o, _, s, Vahypz.dropWord s j, rfl, e1 _ _ HD.desk, HD.lst.mono (HD.frz.trans e1), HD.ok, jg3 HD.frz e1, jgN HD.out (by rw [HD.desk]; exact fun e => by cases e), hG _ (join_l _ _) (fresh_join HD.frz), dropWord_ok HD.ok j, fun H' r eB hr h7 hH => ?_⟩
      exact qj _ r o _ ((ExB.of e1).trans eB) (Evl.fresh_back e1 hr) h7 hH fun b hb hH => jgN hb hH
    · have h0 := of_decide_eq_false h
      unfold dropped at qj
      rw [if_neg h0] at qj
      refine ⟨_, rfl, _, rfl, d, _, dd, _, _, rfl, HD.desk, T.i_Desk.cl, T.n_Desk_held, rfl, _, rfl, p, G, s, j, rfl, HD.frz, HD.lst, by omega, by omega, fun H1 o e1 ho hG => ?_⟩
      refine ⟨d, dd, p, o, _, s, Vahypz.dropPat s j, rfl, e1 _ _ HD.desk, HD.lst.mono (HD.frz.trans e1), HD.ok, jg3 HD.frz e1, jgN HD.out (by rw [HD.desk]; exact fun e => by cases e), hG _ (join_l _ _) (fresh_join HD.frz), dropPat_ok HD.ok j, fun H' r eB hr h7 hH => ?_⟩
      exact qj _ r o _ ((ExB.of e1).trans eB) (Evl.fresh_back e1 hr) h7 hH fun b hb hH => jgN hb hH
def spSlim (A : Adr) : Sp := fun vs H Q _ => ∃ (d dd p : Addr) (G : Hp) (s : Lst), vs = [.ref d] ∧ Held A G H d dd p s ∧ GivesHeld A Q G H d dd (Vahypz.slim s) (nums [(Vahypz.slim s).pats.length, s.pats.length - (Vahypz.slim s).pats.length])
theorem ok_slim {f : Addr} {fd : FuncData} (T : Txt K mg A) (a : At K mg "slim" s_slim ["desk"] f fd) (d_slimmed : C8.Cal P w K mg base 9 "slimmed" (spSlimmed A) []) : C8.Cal P w K mg base 10 "slim" (spSlim A) [] := by
  refine a.cal (ok0 a.fn sc_slim (fun vs H Q E h => ?_) (fun cdv Ar outer s H vs Q E hr h => ⟨_, (pss_cons (ps_set (i := 1) sc_slim.nd rfl (Or.inl rfl) (pe_callB call_len_seq rfl T.len (by decide +kernel) (pa_cons (pe_fld (pe_fld (pv 0) rfl) rfl) pa_nil)))
  (pss_cons (ps_fld (pv 0) (C8.pe_c d_slimmed hr (by decide) rfl (by exact (pa_cons (pe_fld (pv 0) rfl) pa_nil))) rfl)
  (pss_cons (ps_set (i := 2) sc_slim.nd rfl (Or.inl rfl) (pe_callB call_len_seq rfl T.len (by decide +kernel) (pa_cons (pe_fld (pe_fld (pv 0) rfl) rfl) pa_nil)))
  (pss_one (ps_ret (pe_lst (pa_cons (pv 2) (pa_cons (pe_op op_sub (pv 1) (pv 2)) pa_nil)))))))), ?_⟩) rfl rfl rfl)
  · obtain ⟨_, _, _, _, _, rfl, _⟩ := h
    rfl
  · obtain ⟨d, dd, p, G, s, rfl, HD, q⟩ := h
    obtain ⟨dx, lw, lp, ws, ps, h1, h2, h3, h4, h5⟩ := HD.lst.mono HD.frz
    refine ⟨_, rfl, d, _, dd, _, _, rfl, HD.desk, T.i_Desk.cl, T.n_Desk_held, rfl, p, _, dx, _, _, rfl, h1, T.i_Listing.cl, T.n_Listing_patterns, rfl, lp, _, rfl, .inl (SqL.of h3), ?_⟩
    refine ⟨_, rfl, d, _, dd, _, _, rfl, HD.desk, T.i_Desk.cl, T.n_Desk_held, rfl, p, G, s, rfl, HD.frz, HD.lst, HD.ok, fun H1 o e1 hA => ?_⟩
    have j3 := jg3 HD.frz e1
    have jd : (join G (fresh H H1)) d = none := jgN HD.out (by rw [HD.desk]; exact fun e => by cases e)
    obtain ⟨dl, lw', lp', ws', ps', k1, k2, k3, k4, k5⟩ := id hA
    have od : o ≠ d := fun e => by rw [e, jd] at k1; cases k1
    have qd : lp' ≠ d := fun e => by rw [e, jd] at k3; cases k3
    refine ⟨_, rfl, d, _, dd, _, rfl, e1 _ _ HD.desk, T.i_Desk.cl, T.n_Desk_held, (by show 1 < 1000; decide), ?_⟩
    refine ⟨_, rfl, d, _, dd, _, _, rfl, upd_same, T.i_Desk.cl, T.n_Desk_held, rfl, o, _, dl, _, _, rfl, (upd_ne od).trans (j3 _ _ k1), T.i_Listing.cl, T.n_Listing_patterns, rfl, lp', _, rfl, .inl (SqL.of ((upd_ne qd).trans (j3 _ _ k3))), ?_⟩
    refine ⟨_, rfl, _, rfl, _, rfl, _, _, rfl, rfl, by show 2 ≤ sizeLine; decide, fun r hr => ?_⟩
    have rd : r ≠ d := fun e => by rw [e, upd_same] at hr; cases hr
    have hr1 : H1 r = none := (upd_ne rd).symm.trans hr
    have bB := fun o6 : HO => (ExB.upd (r := d) (H := H1) (o := _)).trans (.of (ex_new (o := o6) hr))
    refine q _ r o _ ((ExB.of e1).trans (bB _)) (Evl.fresh_back e1 hr1) ?_ ⟨?_, (bB _).ex j3 jd, jd, hA, slim_ok HD.ok⟩ fun b hb hH => jgN hb hH
    · have hle := slim_len s
      rw [upd_same, refs_len, refs_len, h5.1, k5.1]
      have e : ((s.pats.length : Nat) : Int) - ((Vahypz.slim s).pats.length : Int) = ((s.pats.length - (Vahypz.slim s).pats.length : Nat) : Int) := by omega
      show some (HO.lst [V.int ((Vahypz.slim s).pats.length : Int), V.int (((s.pats.length : Nat) : Int) - ((Vahypz.slim s).pats.length : Int))]) = _
      rw [e]
      rfl
    · rw [upd_ne (Ne.symm rd), upd_same]
      rfl
theorem letters_len {b x : Bytes} (h : Vahypa.readLetters b = some x) : 2 ≤ x.length ∧ x.length ≤ 16 := by
  unfold Vahypa.readLetters at h
  have h' : (if b.length < 2 ∨ 16 < b.length ∨ b.all VahypBase.isLetter = false then none else some b) = some x := h
  split at h'
  · cases h'
  · cases h'
    omega
def jointNums (s : Lst) (x : Bytes) : List Nat := (Vahypz.joints s x).length :: ((match Vahypz.joints s x with
  | g :: _ => g :: (Vahypz.asTwo s x g).length :: Vahypz.asTwo s x g
  | [] => []) ++ ((Vahypa.parts s x).length :: Vahypa.parts s x))
def spJoint (A : Adr) (K : PySem.W.Frag) : Sp := fun vs H Q _ => ∃ (p rb : Addr) (s : Lst) (bs : Bytes), vs = [.ref p, .ref rb] ∧ ListAt A H p s ∧ LOk s ∧ SqL K H rb (bI bs) ∧ bs.length ≤ 8192 ∧
  (Vahypa.readLetters bs = none → GivesB Q H [.int (-4)]) ∧ (∀ x, Vahypa.readLetters bs = some x → GivesL Q H (jointNums s x))
theorem two_len (s : Lst) (x : Bytes) (g : Nat) : (Vahypz.asTwo s x g).length ≤ 2 * x.length + 1 := by
  unfold Vahypz.asTwo
  have h1 := parts_len s (x.take g)
  have h2 := parts_len s (x.drop g)
  rw [List.length_take] at h1
  rw [List.length_drop] at h2
  rw [List.length_append, List.length_append, List.length_map]
  show _ + (1 + _) ≤ _
  omega
theorem ok_joint {f : Addr} {fd : FuncData} (T : Txt K mg A) (a : At K mg "joint" s_joint ["listing", "row"] f fd) (d_read_letters : C8.Cal P w K mg base 3 "read_letters" (spLetters K) []) (d_joints : C8.Cal P w K mg base 3 "joints" (spJoints A) [])
    (d_counted : C8.Cal P w K mg base 1 "counted" spCounted []) (d_parted_as_two : C8.Cal P w K mg base 7 "parted_as_two" (spAsTwo A) []) (d_parted_gaps : C8.Cal P w K mg base 6 "parted_gaps" (spParted A) []) : C8.Cal P w K mg base 8 "joint" (spJoint A K) [] := by
  refine a.cal (ok0 a.fn sc_joint (fun vs H Q E h => ?_) (fun cdv Ar outer s H vs Q E hr h => ⟨_, (pss_cons (ps_set (i := 2) sc_joint.nd rfl (Or.inl rfl) (C8.pe_c d_read_letters hr (by decide) rfl (by exact (pa_cons (pv 1) pa_nil))))
  (pss_cons (ps_if (pt_cmpR op_isN (pv 2) pe_non (nomark _)) (pss_one (ps_ret (pe_lst (pa_cons (C8.pe_gc rfl T.c_NOT_RIGHT) pa_nil)))) pss_nil)
  (pss_cons (ps_set (i := 3) sc_joint.nd rfl (Or.inl rfl) (C8.pe_c d_joints hr (by decide) rfl (by exact (pa_cons (pe_fld (pv 0) rfl) (pa_cons (pv 2) pa_nil)))))
  (pss_cons (ps_set (i := 4) sc_joint.nd rfl (Or.inl rfl) (pe_lst (pa_cons (pe_callB call_len_seq rfl T.len (by decide +kernel) (pa_cons (pv 3) pa_nil)) pa_nil)))
  (pss_cons (ps_if (pt_cmpR op_gt (pe_callB call_len_seq rfl T.len (by decide +kernel) (pa_cons (pv 3) pa_nil)) pe_int (nomark _)) (pss_one (ps_set (i := 4) sc_joint.nd rfl (Or.inl rfl) (pe_op op_cat (pe_op op_cat (pv 4) (pe_lst (pa_cons (pe_ix ix_list (pv 3) pe_int (fun _ _ => rfl)) pa_nil))) (C8.pe_c d_counted hr (by decide) rfl (by exact (pa_cons (C8.pe_c d_parted_as_two hr (by decide) rfl (by exact (pa_cons (pv 0) (pa_cons (pv 2) (pa_cons (pe_ix ix_list (pv 3) pe_int (fun _ _ => rfl)) pa_nil))))) pa_nil)))))) pss_nil)
  (pss_one (ps_ret (pe_op op_cat (pv 4) (C8.pe_c d_counted hr (by decide) rfl (by exact (pa_cons (C8.pe_c d_parted_gaps hr (by decide) rfl (by exact (pa_cons (pv 0) (pa_cons (pv 2) pa_nil)))) pa_nil))))))))))), ?_⟩) rfl rfl rfl)
  · obtain ⟨_, _, _, _, rfl, _⟩ := h
    rfl
  · obtain ⟨p, rb, s, bs, rfl, hL, hO, hS, hz, qN, qS⟩ := h
    refine ⟨_, rfl, rb, bs, rfl, hS, hz, fun hn H1 e1 => ?_, fun x hx H1 e1 => ?_⟩
    · dsimp only [gName]
      refine when2 (b := true) (fun Q q => ⟨_, rfl, rfl, true, rfl, q⟩) (fun _ => ?_) (fun h => by cases h)
      exact ⟨by show 1 ≤ sizeLine; decide, fun l hl => qN hn _ l (e1.trans (ex_new hl)) (Evl.fresh_back e1 hl) upd_same⟩
    dsimp only [gName]
    refine when2 (b := false) (fun Q q => ⟨_, rfl, rfl, false, rfl, q⟩) (fun h => by cases h) (fun _ => ?_)
    obtain ⟨x2, x16⟩ := letters_len hx
    have q := qS x hx
    obtain ⟨dx, lw, lp, ws, ps, h1, h2, h3, h4, h5⟩ := hL.mono e1
    have kp := parts_len s x
    have kj : (Vahypz.joints s x).length ≤ 16 := by
      have := List.length_filter_le (isJoint s.words x) (gaps x)
      have h2 : (gaps x).length ≤ x.length := by
        unfold gaps
        rw [List.length_map, List.length_range]
        omega
      have h3 : (Vahypz.joints s x).length ≤ (gaps x).length := this
      omega
    refine ⟨_, rfl, p, _, dx, _, _, rfl, h1, T.i_Listing.cl, T.n_Listing_words, rfl, _, rfl, lw, s.words, x, rfl, ⟨ws, h2, h4⟩, x16, fun H2 r2 e2 hr2 hv2 => ?_⟩
    have hv2' : H2 r2 = some (.lst (nums (Vahypz.joints s x))) := hv2
    refine ⟨_, rfl, r2, _, rfl, .inl (SqL.of hv2'), by show 1 ≤ sizeLine; decide, fun p1 hp1 => ?_⟩
    have e12 := e1.trans e2
    have e13 := e12.trans (ex_new (o := .lst [.int ((nums (Vahypz.joints s x)).length : Int)]) hp1)
    have hv3 := ex_new (o := .lst [.int ((nums (Vahypz.joints s x)).length : Int)]) hp1 _ _ hv2'
    generalize hH3 : upd H2 p1 (.lst [.int ((nums (Vahypz.joints s x)).length : Int)]) = H3 at *
    have hp3 : H3 p1 = some (.lst (nums [(Vahypz.joints s x).length])) := by
      rw [← hH3, upd_same, nums_len]
      rfl
    have fin : ∀ (H4 : Hp) (tl : Addr) (l : List Nat), Ex H H4 → H4 tl = some (.lst (nums l)) → l.length ≤ 100 → l ++ ((Vahypa.parts s x).length :: Vahypa.parts s x) = jointNums s x →
        tRet (tOp rCat (tVar 4) (tCall spCounted [] C8.E0 (tCons (tCall (spParted A) [] C8.E0 (tCons (tVar 0) (tCons (tVar 2) tNil))) tNil))) { nx := fun _ H' => Q .non H', rt := Q } [some (.ref p), some (.ref rb), some (.str (bS x)), some (.ref r2), some (.ref tl)] H4 := fun H4 tl l e4 htl hl he => by
      refine ⟨_, rfl, _, rfl, _, rfl, p, s, x, rfl, hL.mono e4, hO.ps, x16, fun H5 r5 e5 hr5 hv5 => ?_⟩
      refine ⟨r5, _, rfl, hv5, by rw [nums_len]; omega, fun H6 r6 e6 hr6 hv6 => ?_⟩
      refine ⟨tl, r6, _, _, rfl, rfl, e6 _ _ (e5 _ _ htl), hv6, ?_, fun p7 hp7 => ?_⟩
      · have k1 := nums_len l
        have k2 := nums_len (Vahypa.parts s x)
        exact Evl.sz_of (show (nums l).length + ((nums (Vahypa.parts s x)).length + 1) ≤ 100000 by omega)
      · have e46 := (e4.trans e5).trans e6
        refine q _ p7 (e46.trans (ex_new hp7)) (Evl.fresh_back e46 hp7) ?_
        rw [upd_same, ← he, nums_app, nums_len]
        rfl
    have hlr : Val (tCB (Evl.rLenS K) (tCons (tVar 3) tNil)) [some (.ref p), some (.ref rb), some (.str (bS x)), some (.ref r2), some (.ref p1)] H3 (.int ((Vahypz.joints s x).length : Int)) := by
      have := v_lenL (K := K) (val_var (σ := [some (.ref p), some (.ref rb), some (.str (bS x)), some (.ref r2), some (.ref p1)]) (i := 3) rfl) (SqL.of hv3)
      rw [nums_len] at this
      exact this
    refine when2 (a_t (w_gt hlr val_c)) (fun h => ?_) (fun h => ?_)
    · have hpos : 0 < (Vahypz.joints s x).length := by have := of_decide_eq_true h; omega
      have hg := some_at hpos
      generalize hgg : (Vahypz.joints s x)[0] = g at hg
      have hix : ∀ {H' : Hp}, Ex H3 H' → SqL K H' r2 (nums (Vahypz.joints s x)) := fun e => SqL.of (e _ _ hv3)
      have hat : atI (nums (Vahypz.joints s x)) 0 = some (.int (g : Int)) := nums_at (i := 0) hg
      have k2 := two_len s x g
      refine ⟨_, rfl, _, rfl, r2, _, 0, _, rfl, rfl, hix (Evl.Ex.refl _), hat, by show 1 ≤ sizeLine; decide, fun p4 hp4 => ?_⟩
      refine ⟨p1, p4, _, _, rfl, rfl, ex_new hp4 _ _ hp3, upd_same, by show 1 + 1 ≤ sizeLine; decide, fun p5 hp5 => ?_⟩
      have e35 := (ex_new (o := .lst [.int (g : Int)]) hp4).trans (ex_new (o := .lst (nums [(Vahypz.joints s x).length] ++ [.int (g : Int)])) hp5)
      have hv5 : upd (upd H3 p4 (.lst [.int (g : Int)])) p5 (.lst (nums [(Vahypz.joints s x).length] ++ [.int (g : Int)])) p5 = _ := upd_same
      refine ⟨_, rfl, _, rfl, _, rfl, r2, _, 0, _, rfl, rfl, hix e35, hat, p, s, x, g, rfl, hL.mono (e13.trans e35), hO.ps, x16, fun H6 r6 e6 hr6 hv6 => ?_⟩
      refine ⟨r6, _, rfl, hv6, by rw [nums_len]; omega, fun H7 r7 e7 hr7 hv7 => ?_⟩
      refine ⟨p5, r7, _, _, rfl, rfl, e7 _ _ (e6 _ _ hv5), hv7, ?_, fun p8 hp8 => ?_⟩
      · have k1 := nums_len (Vahypz.asTwo s x g)
        exact Evl.sz_of (show 2 + ((nums (Vahypz.asTwo s x g)).length + 1) ≤ 100000 by omega)
      · refine fin _ p8 ((Vahypz.joints s x).length :: g :: (Vahypz.asTwo s x g).length :: Vahypz.asTwo s x g) ((((e13.trans e35).trans e6).trans e7).trans (ex_new hp8)) ?_ ?_ ?_
        · rw [upd_same, nums_len]
          rfl
        · rw [List.length_cons, List.length_cons, List.length_cons]
          omega
        · unfold jointNums
          cases hj : Vahypz.joints s x with
          | nil => rw [hj] at hpos; cases hpos
          | cons g' r =>
            rw [hj] at hg
            cases hg
            rfl
    · have hnil : Vahypz.joints s x = [] := by
        refine List.length_eq_zero_iff.mp ?_
        have := of_decide_eq_false h
        omega
      refine fin H3 p1 [(Vahypz.joints s x).length] e13 hp3 (by show 1 ≤ 100; decide) ?_
      unfold jointNums
      rw [hnil]
      rfl
def spLine (A : Adr) (K : PySem.W.Frag) : Sp := fun vs H Q _ => ∃ (p rb : Addr) (s : Lst) (n : Int) (bs : Bytes), vs = [.ref p, .int n, .ref rb] ∧ ListAt A H p s ∧ LOk s ∧ SqL K H rb (bI bs) ∧ bs.length ≤ 8192 ∧
  (Vahypa.readLetters bs = none → GivesB Q H [.int (-4)]) ∧ (∀ x, Vahypa.readLetters bs = some x → (n < 0 ∨ 100 < n) → GivesB Q H [.int (-3)]) ∧
  (∀ x, Vahypa.readLetters bs = some x → ¬ (n < 0 ∨ 100 < n) → Vahypz.breakAt s x n.toNat = none → GivesB Q H [.int 0]) ∧
  (∀ x g, Vahypa.readLetters bs = some x → ¬ (n < 0 ∨ 100 < n) → Vahypz.breakAt s x n.toNat = some g → GivesB Q H [.int 1, .int (g : Int)])
theorem ok_line_break {f : Addr} {fd : FuncData} (T : Txt K mg A) (a : At K mg "line_break" s_line_break ["listing", "places", "row"] f fd) (d_read_letters : C8.Cal P w K mg base 3 "read_letters" (spLetters K) []) (d_breaking_gaps : C8.Cal P w K mg base 7 "breaking_gaps" (spBreaking A) []) :
    C8.Cal P w K mg base 8 "line_break" (spLine A K) [] := by
  refine a.cal (ok0 a.fn sc_line_break (fun vs H Q E h => ?_) (fun cdv Ar outer s H vs Q E hr h => ⟨_, (pss_cons (ps_set (i := 3) sc_line_break.nd rfl (Or.inl rfl) (C8.pe_c d_read_letters hr (by decide) rfl (by exact (pa_cons (pv 2) pa_nil))))
  (pss_cons (ps_if (pt_cmpR op_isN (pv 3) pe_non (nomark _)) (pss_one (ps_ret (pe_lst (pa_cons (C8.pe_gc rfl T.c_NOT_RIGHT) pa_nil)))) pss_nil)
  (pss_cons (ps_if (PW.pt (pw_or (pt_cmpR op_lt (pv 1) pe_int (nomark _)) (pw_or1 (pt_cmpR op_gt (pv 1) (C8.pe_gc rfl T.c_MOST_PLACES) (nomark _))))) (pss_one (ps_ret (pe_lst (pa_cons (C8.pe_gc rfl T.c_NO_LINE) pa_nil)))) pss_nil)
  (pss_cons (ps_set (i := 4) sc_line_break.nd rfl (Or.inl rfl) (C8.pe_c d_breaking_gaps hr (by decide) rfl (by exact (pa_cons (pv 0) (pa_cons (pv 3) (pa_cons (pv 1) pa_nil))))))
  (pss_cons (ps_if (pt_cmpR op_eq (pe_callB call_len_seq rfl T.len (by decide +kernel) (pa_cons (pv 4) pa_nil)) pe_int (nomark _)) (pss_one (ps_ret (pe_lst (pa_cons pe_int pa_nil)))) pss_nil)
  (pss_one (ps_ret (pe_lst (pa_cons pe_int (pa_cons (pe_ix ix_list (pv 4) (pe_un un_neg pe_int) (fun _ _ => rfl)) pa_nil)))))))))), ?_⟩) rfl rfl rfl)
  · obtain ⟨_, _, _, _, _, rfl, _⟩ := h
    rfl
  · obtain ⟨p, rb, s, n, bs, rfl, hL, hO, hS, hz, qN, q3, q0, q1⟩ := h
    refine ⟨_, rfl, rb, bs, rfl, hS, hz, fun hn H1 e1 => ?_, fun x hx H1 e1 => ?_⟩
    · dsimp only [gName]
      refine when2 (b := true) (fun Q q => ⟨_, rfl, rfl, true, rfl, q⟩) (fun _ => ?_) (fun h => by cases h)
      exact ⟨by show 1 ≤ sizeLine; decide, fun l hl => qN hn _ l (e1.trans (ex_new hl)) (Evl.fresh_back e1 hl) upd_same⟩
    dsimp only [gName]
    refine when2 (b := false) (fun Q q => ⟨_, rfl, rfl, false, rfl, q⟩) (fun h => by cases h) (fun _ => ?_)
    obtain ⟨x2, x16⟩ := letters_len hx
    refine when2 (a_or (a_t (w_lt (val_var rfl) val_c)) (fun _ => a_t (w_gt (val_var rfl) val_c))) (fun h => ?_) (fun h => ?_)
    · rw [Bool.or_eq_true, decide_eq_true_iff, decide_eq_true_iff] at h
      exact ⟨by show 1 ≤ sizeLine; decide, fun l hl => q3 x hx h _ l (e1.trans (ex_new hl)) (Evl.fresh_back e1 hl) upd_same⟩
    rw [Bool.or_eq_false_iff, decide_eq_false_iff_not, decide_eq_false_iff_not] at h
    have hn : ¬ (n < 0 ∨ 100 < n) := fun z => z.elim h.1 h.2
    have kp := parts_len s x
    refine ⟨_, rfl, _, rfl, _, rfl, p, s, x, n, rfl, hL.mono e1, hO.ps, x16, fun H2 r2 e2 hr2 hv2 => ?_⟩
    have hbr : Vahypz.breakAt s x n.toNat = ((Vahypa.parts s x).filter fun g : Nat => decide ((g : Int) ≤ n - 1)).getLast? := by
      unfold Vahypz.breakAt
      congr 2
      funext g
      by_cases hg : g + 1 ≤ n.toNat
      · rw [decide_eq_true hg, decide_eq_true (by omega)]
      · rw [decide_eq_false hg, decide_eq_false (by omega)]
    generalize hfl : ((Vahypa.parts s x).filter fun g : Nat => decide ((g : Int) ≤ n - 1)) = fl at *
    have e12 := e1.trans e2
    have hlr : Val (tCB (Evl.rLenS K) (tCons (tVar 4) tNil)) [some (.ref p), some (.int n), some (.ref rb), some (.str (bS x)), some (.ref r2)] H2 (.int (fl.length : Int)) := by
      have := v_lenL (K := K) (val_var (σ := [some (.ref p), some (.int n), some (.ref rb), some (.str (bS x)), some (.ref r2)]) (i := 4) rfl) (SqL.of hv2)
      rw [nums_len] at this
      exact this
    dsimp only [gName]
    refine when2 (a_t (v_eqI hlr val_c)) (fun h => ?_) (fun h => ?_)
    · have hnil : fl = [] := by
        refine List.length_eq_zero_iff.mp ?_
        have := of_decide_eq_true h
        omega
      rw [hnil] at hbr
      exact ⟨by show 1 ≤ sizeLine; decide, fun l hl => q0 x hx hn hbr _ l (e12.trans (ex_new hl)) (Evl.fresh_back e12 hl) upd_same⟩
    · have hne : fl ≠ [] := fun e => by
        have := of_decide_eq_false h
        rw [e] at this
        exact this rfl
      obtain ⟨ds, g, rfl⟩ : ∃ ds g, fl = ds ++ [g] := ⟨fl.dropLast, fl.getLast hne, (List.dropLast_concat_getLast hne).symm⟩
      rw [List.getLast?_append] at hbr
      have hbr2 : Vahypz.breakAt s x n.toNat = some g := hbr
      refine ⟨_, rfl, 1, rfl, r2, _, _, _, rfl, rfl, SqL.of hv2, atI_last_num, by show 2 ≤ sizeLine; decide, fun l hl => ?_⟩
      exact q1 x g hx hn hbr2 _ l (e12.trans (ex_new hl)) (Evl.fresh_back e12 hl) upd_same
end
end Pw
set_option Elab.async false
set_option linter.all false
set_option maxRecDepth 100000
set_option maxHeartbeats 2000000
/-! patterns.py: listed_answer, answer -/
namespace Pw
open PySem PySem.Spec PyProof.Rows L2
open Vahypa (Lst Word Pat)
open VahypzNeutral (encode bytesOf)
theorem call1 {H : Hp} {a : Addr} {n : Int} (h : CallAt H a [[n]]) : H a = some (.lst [.int n]) := by
  obtain ⟨p, xs, rows, vs, h1, h2, h3⟩ := h
  cases h1
  cases vs with
  | nil => exact h2
  | cons v r => exact h3.elim
theorem call2 {H : Hp} {a : Addr} {n x : Int} (h : CallAt H a [[n, x]]) : H a = some (.lst [.int n, .int x]) := by
  obtain ⟨p, xs, rows, vs, h1, h2, h3⟩ := h
  cases h1
  match vs, h3 with
  | [v], h3 =>
    have : v = .int x := h3.1
    rw [this] at h2
    exact h2
  | _ :: _ :: _, h3 => exact h3.2.elim
theorem call3 {H : Hp} {a : Addr} {n x y : Int} (h : CallAt H a [[n, x, y]]) : H a = some (.lst [.int n, .int x, .int y]) := by
  obtain ⟨p, xs, rows, vs, h1, h2, h3⟩ := h
  cases h1
  match vs, h3 with
  | [v, u], h3 =>
    have e1 : v = .int x := h3.1
    have e2 : u = .int y := h3.2.1
    rw [e1, e2] at h2
    exact h2
  | [_], h3 => exact h3.2.elim
  | _ :: _ :: _ :: _, h3 => exact h3.2.2.elim
theorem callR {H : Hp} {a : Addr} {n : Int} {b : List Int} (h : CallAt H a [[n], b]) : ∃ rb, H a = some (.lst [.int n, .ref rb]) ∧ H rb = some (.lst (b.map V.int)) := by
  obtain ⟨p, xs, rows, vs, h1, h2, h3⟩ := h
  cases h1
  match vs, h3 with
  | [v], h3 =>
    obtain ⟨rb, e, hb⟩ := h3.1
    rw [e] at h2
    exact ⟨rb, h2, hb⟩
  | _ :: _ :: _, h3 => exact h3.2.elim
theorem callNR {H : Hp} {a : Addr} {n x : Int} {b : List Int} (h : CallAt H a [[n, x], b]) : ∃ rb, H a = some (.lst [.int n, .int x, .ref rb]) ∧ H rb = some (.lst (b.map V.int)) := by
  obtain ⟨p, xs, rows, vs, h1, h2, h3⟩ := h
  cases h1
  match vs, h3 with
  | [v, u], h3 =>
    have e1 : v = .int x := h3.1
    obtain ⟨rb, e, hb⟩ := h3.2.1
    rw [e1, e] at h2
    exact ⟨rb, h2, hb⟩
  | [_], h3 => exact h3.2.elim
  | _ :: _ :: _ :: _, h3 => exact h3.2.2.elim
theorem bytes_at {K : PySem.W.Frag} {H : Hp} {rb : Addr} {b : List Int} (h : H rb = some (.lst (b.map V.int))) (hb : (b.all fun (z : Int) => VahypzNeutral.natural z 8) = true) : SqL K H rb (bI (bytesOf b)) := by
  rw [(bytes_of hb).2]
  exact SqL.of h
/-- a call's number -/
def kno : Vahypz.Call → Int
  | .load _ => 0
  | .shown => 1
  | .report _ => 2
  | .margins => 3
  | .put _ => 4
  | .drop _ _ => 5
  | .needless => 6
  | .slim => 7
  | .joint _ => 8
  | .break_ _ _ => 9
theorem asked_no {H : Hp} {ca : Addr} {c : List (List Int)} {k : Vahypz.Call} {p : Int} {ws : List V} (hk : Asked c k) (hC : CallAt H ca c) (hca : H ca = some (.lst (.int p :: ws))) : p = kno k := by
  obtain ⟨p', xs, rows, vs, h1, h2, h3⟩ := hC
  rw [h2] at hca
  have e : p' = p := by
    injection hca with e
    injection e with e
    injection e with e _
    injection e
  rw [← e]
  cases hk <;> (injection h1 with h1 _; injection h1 with h1 _; exact h1.symm)
section
variable {P : Program} {w : World} {K : PySem.W.Frag} {mg : Str → Option Value} {base : Heap} {A : Adr}
/-- call[0] == n -/
theorem is_no {σ : L2.St} {H : Hp} {ca : Addr} {p n : Int} {vs : List V} (h1 : σ[1]? = some (some (.ref ca))) (h : H ca = some (.lst (.int p :: vs))) : Ans (tTest (tOp rEq (tOp (rIxL K) (tVar 1) (tC (.int 0))) (tC (.int n)))) σ H (decide (p = n)) :=
  a_t (v_eqI (v_ixL (val_var h1) val_c (SqL.of h) (show atI (.int p :: vs) ((0 : Nat) : Int) = some (.int p) from atI_nat rfl)) val_c)
/-- desk.held is None -/
theorem is_none_ {σ : L2.St} {H G : Hp} {d dd : Addr} {o : Vahypz.Obj} (T : Txt K mg A) (h1 : σ[0]? = some (some (.ref d))) (hD : DeskAt A G H d dd o) : Ans (tTest (tOp (fun x y H Q => y = V.non ∧ Q (.bl (decide (x = .non))) H) (tFld K (tVar 0) "held") (tC .non))) σ H o.isNone := by
  cases o with
  | none => exact fun Q q => ⟨_, h1, d, _, dd, _, _, rfl, hD.1, T.i_Desk.cl, T.n_Desk_held, rfl, rfl, true, rfl, q⟩
  | some s =>
    obtain ⟨p, k⟩ := hD
    exact fun Q q => ⟨_, h1, d, _, dd, _, _, rfl, k.desk, T.i_Desk.cl, T.n_Desk_held, rfl, rfl, false, rfl, q⟩
/-! ### calls 5 to 9 -/
theorem ans_needless (s : Lst) : (encode (Vahypz.looked s .needless)).map V.int = .int ((nums (Vahypz.needless s)).length : Int) :: nums (Vahypz.needless s) := by
  show V.int ((Vahypz.needless s).length : Int) :: (VahypBase.nats (Vahypz.needless s)).map V.int = _
  rw [nats_V, nums_len]
theorem drop_case {G H : Hp} {d dd p : Addr} {Q : VK} {E : XK} {s : Lst} {k i : Int} (hD : Held A G H d dd p s) (q : GivesDesk A Q G H d dd (Vahypz.dropCall s k i).1 (encode (Vahypz.dropCall s k i).2)) : spDrop A [.ref d, .int k, .int i] H Q E := by
  have hdc : Vahypz.dropCall s k i = if k ≠ 0 ∧ k ≠ 1 then (some s, VahypBase.one (-4)) else match (if hasNo i (kindLen s k) = true then some i.toNat else none) with
    | none => (some s, VahypBase.one (-2))
    | some j => (some (dropped s k j), Vahypz.changeAnswer s (dropped s k j)) := by
    rw [← index_has]
    rfl
  refine ⟨d, dd, p, G, s, k, i, rfl, hD, fun h0 h1 => ?_, fun hk hn => ?_, fun hk j hi hj => ?_⟩
  · rw [hdc, if_pos ⟨h0, h1⟩] at q
    exact GivesDesk.same q ⟨p, hD⟩
  · rw [hdc, if_neg (fun z => hk.elim z.1 z.2), if_neg (by rw [hn]; exact Bool.false_ne_true)] at q
    exact GivesDesk.same q ⟨p, hD⟩
  · have hh : hasNo i (kindLen s k) = true := by
      unfold hasNo
      rw [Bool.and_eq_true, decide_eq_true_iff, decide_eq_true_iff]
      omega
    rw [hdc, if_neg (fun z => hk.elim z.1 z.2), if_pos hh] at q
    have ej : i.toNat = j := by omega
    rw [ej] at q
    intro H' r p' G' e hr h hH hN
    refine q H' r G' e hr (h.trans ?_) ⟨p', hH⟩ hN
    rw [ans_change]
theorem slim_case {G H : Hp} {d dd p : Addr} {Q : VK} {E : XK} {s : Lst} (hD : Held A G H d dd p s) (q : GivesDesk A Q G H d dd (Vahypz.step (some s) .slim).1 (encode (Vahypz.step (some s) .slim).2)) : spSlim A [.ref d] H Q E :=
  ⟨d, dd, p, G, s, rfl, hD, fun H' r p' G' e hr h hH hN => q H' r G' e hr h ⟨p', hH⟩ hN⟩
theorem needless_case {G H : Hp} {d dd p : Addr} {Q : VK} {E : XK} {s : Lst} (hD : Held A G H d dd p s) (q : GivesDesk A Q G H d dd (some s) (encode (Vahypz.looked s .needless))) : spNeedless A [.ref p] H (fun v H' => spCounted [v] H' Q E) E := by
  have q1 := GivesDesk.same q ⟨p, hD⟩
  rw [ans_needless] at q1
  refine ⟨p, G, s, rfl, hD.frz, hD.lst, hD.ok, fun H1 r e1 hr h1 => ⟨r, _, rfl, h1, ?_, fun H2 r2 e2 hr2 h2 => q1 H2 r2 (e1.trans e2) (Evl.fresh_back e1 hr2) h2⟩⟩
  have hp40 := hD.ok.p40
  have : (Vahypz.needless s).length ≤ s.pats.length := by
    rw [needless_eq]
    exact filter_len _ _
  rw [nums_len]
  omega
theorem joint_none {s : Lst} {b : Bytes} (h : Vahypa.readLetters b = none) : Vahypz.looked s (.joint b) = VahypBase.one (-4) := by
  show (match Vahypa.readLetters b with | none => VahypBase.one (-4) | some x => _) = _
  rw [h]
def jointA (s : Lst) (x : Bytes) : VahypBase.Answer := let l := Vahypz.joints s x; ⟨(l.length : Int), (match l with
      | g :: _ => let a := Vahypz.asTwo s x g; VahypBase.nats (g :: a.length :: a)
      | [] => []) ++ (let p := Vahypa.parts s x; VahypBase.nats (p.length :: p))⟩
def breakA (s : Lst) (n : Int) (x : Bytes) : VahypBase.Answer := if n < 0 ∨ (Vahypz.WIDTH : Int) < n then VahypBase.one (-3) else match Vahypz.breakAt s x n.toNat with
  | none => VahypBase.one 0
  | some g => ⟨1, VahypBase.nats [g]⟩
theorem look_joint (s : Lst) (b : Bytes) : Vahypz.looked s (.joint b) = (match Vahypa.readLetters b with | none => VahypBase.one (-4) | some x => jointA s x) := rfl
theorem look_break (s : Lst) (n : Int) (b : Bytes) : Vahypz.looked s (.break_ n b) = (match Vahypa.readLetters b with | none => VahypBase.one (-4) | some x => breakA s n x) := rfl
theorem joint_some {s : Lst} {b x : Bytes} (h : Vahypa.readLetters b = some x) : (encode (Vahypz.looked s (.joint b))).map V.int = nums (jointNums s x) := by
  rw [look_joint, h]
  unfold jointNums
  show V.int ((Vahypz.joints s x).length : Int) :: ((match Vahypz.joints s x with
      | g :: _ => VahypBase.nats (g :: (Vahypz.asTwo s x g).length :: Vahypz.asTwo s x g)
      | [] => []) ++ VahypBase.nats ((Vahypa.parts s x).length :: Vahypa.parts s x)).map V.int = _
  rw [List.map_append, nats_V]
  cases Vahypz.joints s x with
  | nil => rfl
  | cons g r =>
    show V.int _ :: ((VahypBase.nats (g :: (Vahypz.asTwo s x g).length :: Vahypz.asTwo s x g)).map V.int ++ _) = _
    rw [nats_V, ← nums_app]
    rfl
theorem joint_case {G H : Hp} {d dd p rb : Addr} {Q : VK} {E : XK} {s : Lst} {bs : Bytes} (hD : Held A G H d dd p s) (hb : SqL K H rb (bI bs)) (hz : bs.length ≤ 8192) (q : GivesDesk A Q G H d dd (some s) (encode (Vahypz.looked s (.joint bs)))) : spJoint A K [.ref p, .ref rb] H Q E := by
  have q1 := GivesDesk.same q ⟨p, hD⟩
  refine ⟨p, rb, s, bs, rfl, hD.lst.mono hD.frz, hD.ok, hb, hz, fun hn => ?_, fun x hx => ?_⟩
  · rw [joint_none hn] at q1
    exact q1
  · exact q1.list (joint_some hx)
theorem break_case {G H : Hp} {d dd p rb : Addr} {Q : VK} {E : XK} {s : Lst} {n : Int} {bs : Bytes} (hD : Held A G H d dd p s) (hb : SqL K H rb (bI bs)) (hz : bs.length ≤ 8192) (q : GivesDesk A Q G H d dd (some s) (encode (Vahypz.looked s (.break_ n bs)))) : spLine A K [.ref p, .int n, .ref rb] H Q E := by
  have q1 := GivesDesk.same q ⟨p, hD⟩
  refine ⟨p, rb, s, n, bs, rfl, hD.lst.mono hD.frz, hD.ok, hb, hz, fun hn => ?_, fun x hx h => ?_, fun x hx h hb => ?_, fun x g hx h hb => ?_⟩
  · rw [look_break, hn] at q1
    exact q1
  · rw [look_break, hx] at q1
    have e : breakA s n x = VahypBase.one (-3) := if_pos h
    have q2 : GivesB Q H ((encode (breakA s n x)).map V.int) := q1
    rw [e] at q2
    exact q2
  · rw [look_break, hx] at q1
    have e : breakA s n x = VahypBase.one 0 := by
      unfold breakA
      rw [if_neg (show ¬ (n < 0 ∨ (Vahypz.WIDTH : Int) < n) from h), hb]
    have q2 : GivesB Q H ((encode (breakA s n x)).map V.int) := q1
    rw [e] at q2
    exact q2
  · rw [look_break, hx] at q1
    have e : breakA s n x = ⟨1, VahypBase.nats [g]⟩ := by
      unfold breakA
      rw [if_neg (show ¬ (n < 0 ∨ (Vahypz.WIDTH : Int) < n) from h), hb]
    have q2 : GivesB Q H ((encode (breakA s n x)).map V.int) := q1
    rw [e] at q2
    exact q2
def spListedA (A : Adr) (K : PySem.W.Frag) : Sp := fun vs H Q _ => ∃ (d dd ca p : Addr) (G : Hp) (s : Lst) (c : List (List Int)) (k : Vahypz.Call), vs = [.ref d, .ref ca] ∧ Held A G H d dd p s ∧ CallAt H ca c ∧ Asked c k ∧ kno k ≠ 0 ∧
  GivesDesk A Q G H d dd (Vahypz.step (some s) k).1 (encode (Vahypz.step (some s) k).2)
theorem ok_listed_answer {f : Addr} {fd : FuncData} (T : Txt K mg A) (a : At K mg "listed_answer" s_listed_answer ["desk", "call"] f fd) (d_shown : C8.Cal P w K mg base 2 "shown" (spShown A) []) (d_report : C8.Cal P w K mg base 6 "report" (spReport A) [])
    (d_tried_margins : C8.Cal P w K mg base 6 "tried_margins" (spMargins A) []) (d_put : C8.Cal P w K mg base 10 "put" (spPut A K) []) (d_drop : C8.Cal P w K mg base 10 "drop" (spDrop A) []) (d_needless_patterns : C8.Cal P w K mg base 8 "needless_patterns" (spNeedless A) []) (d_counted : C8.Cal P w K mg base 1 "counted" spCounted [])
    (d_slim : C8.Cal P w K mg base 10 "slim" (spSlim A) []) (d_joint : C8.Cal P w K mg base 8 "joint" (spJoint A K) []) (d_line_break : C8.Cal P w K mg base 8 "line_break" (spLine A K) []) : C8.Cal P w K mg base 11 "listed_answer" (spListedA A K) [] := by
  refine a.cal (ok0 a.fn sc_listed_answer (fun vs H Q E h => ?_) (fun cdv Ar outer s H vs Q E hr h => ⟨_, (pss_cons (ps_if (pt_cmpR op_eq (pe_ix ix_list (pv 1) pe_int (fun _ _ => rfl)) (C8.pe_gc rfl T.c_SHOWN) (nomark _)) (pss_one (ps_ret (C8.pe_c d_shown hr (by decide) rfl (by exact (pa_cons (pe_fld (pv 0) rfl) pa_nil))))) pss_nil)
  (pss_cons (ps_if (pt_cmpR op_eq (pe_ix ix_list (pv 1) pe_int (fun _ _ => rfl)) (C8.pe_gc rfl T.c_REPORT) (nomark _)) (pss_one (ps_ret (C8.pe_c d_report hr (by decide) rfl (by exact (pa_cons (pe_fld (pv 0) rfl) (pa_cons (pe_ix ix_list (pv 1) pe_int (fun _ _ => rfl)) pa_nil)))))) pss_nil)
  (pss_cons (ps_if (pt_cmpR op_eq (pe_ix ix_list (pv 1) pe_int (fun _ _ => rfl)) (C8.pe_gc rfl T.c_MARGINS) (nomark _)) (pss_one (ps_ret (C8.pe_c d_tried_margins hr (by decide) rfl (by exact (pa_cons (pe_fld (pv 0) rfl) pa_nil))))) pss_nil)
  (pss_cons (ps_if (pt_cmpR op_eq (pe_ix ix_list (pv 1) pe_int (fun _ _ => rfl)) (C8.pe_gc rfl T.c_PUT) (nomark _)) (pss_one (ps_ret (C8.pe_c d_put hr (by decide) rfl (by exact (pa_cons (pv 0) (pa_cons (pe_ix ix_list (pv 1) pe_int (fun _ _ => rfl)) pa_nil)))))) pss_nil)
  (pss_cons (ps_if (pt_cmpR op_eq (pe_ix ix_list (pv 1) pe_int (fun _ _ => rfl)) (C8.pe_gc rfl T.c_DROP) (nomark _)) (pss_one (ps_ret (C8.pe_c d_drop hr (by decide) rfl (by exact (pa_cons (pv 0) (pa_cons (pe_ix ix_list (pv 1) pe_int (fun _ _ => rfl)) (pa_cons (pe_ix ix_list (pv 1) pe_int (fun _ _ => rfl)) pa_nil))))))) pss_nil)
  (pss_cons (ps_if (pt_cmpR op_eq (pe_ix ix_list (pv 1) pe_int (fun _ _ => rfl)) (C8.pe_gc rfl T.c_NEEDLESS) (nomark _)) (pss_one (ps_ret (C8.pe_c d_counted hr (by decide) rfl (by exact (pa_cons (C8.pe_c d_needless_patterns hr (by decide) rfl (by exact (pa_cons (pe_fld (pv 0) rfl) pa_nil))) pa_nil))))) pss_nil)
  (pss_cons (ps_if (pt_cmpR op_eq (pe_ix ix_list (pv 1) pe_int (fun _ _ => rfl)) (C8.pe_gc rfl T.c_SLIM) (nomark _)) (pss_one (ps_ret (C8.pe_c d_slim hr (by decide) rfl (by exact (pa_cons (pv 0) pa_nil))))) pss_nil)
  (pss_cons (ps_if (pt_cmpR op_eq (pe_ix ix_list (pv 1) pe_int (fun _ _ => rfl)) (C8.pe_gc rfl T.c_JOINT) (nomark _)) (pss_one (ps_ret (C8.pe_c d_joint hr (by decide) rfl (by exact (pa_cons (pe_fld (pv 0) rfl) (pa_cons (pe_ix ix_list (pv 1) pe_int (fun _ _ => rfl)) pa_nil)))))) pss_nil)
  (pss_one (ps_ret (C8.pe_c d_line_break hr (by decide) rfl (by exact (pa_cons (pe_fld (pv 0) rfl) (pa_cons (pe_ix ix_list (pv 1) pe_int (fun _ _ => rfl)) (pa_cons (pe_ix ix_list (pv 1) pe_int (fun _ _ => rfl)) pa_nil))))))))))))))), ?_⟩) rfl rfl rfl)
  · obtain ⟨_, _, _, _, _, _, _, _, rfl, _⟩ := h
    rfl
  · obtain ⟨d, dd, ca, pl, G, s, c, k, rfl, hH, hC, hk, hk0, q⟩ := h
    obtain ⟨p, ws, hca⟩ : ∃ (p : Int) (ws : List V), H ca = some (.lst (.int p :: ws)) := by
      obtain ⟨p, xs, rows, vs, _, h2, _⟩ := id hC
      exact ⟨p, vs, h2⟩
    have hno := asked_no hk hC hca
    have hfld : ∀ {σ : L2.St}, σ[0]? = some (some (.ref d)) → Val (tFld K (tVar 0) "held") σ H (.ref pl) := fun hσ => v_fld (val_var hσ) hH.desk T.i_Desk.cl T.n_Desk_held rfl
    refine when2 (is_no rfl hca) (fun h => ?_) (fun h => ?_)
    · have h0 := of_decide_eq_true h
      subst h0
      cases hk with
      | shown =>
        exact hfld rfl _ (shown_case (E := C8.E0) hH q)
      | _ => exact absurd hno (by simp [kno])
    have hp1 := of_decide_eq_false h
    refine when2 (is_no rfl hca) (fun h => ?_) (fun h => ?_)
    · have h0 := of_decide_eq_true h
      subst h0
      cases hk with
      | report i =>
        have h1 := call2 hC
        exact ⟨_, rfl, d, _, dd, _, _, rfl, hH.desk, T.i_Desk.cl, T.n_Desk_held, rfl, _, rfl, ca, _, 1, _, rfl, rfl, SqL.of h1, rfl, report_case (E := C8.E0) hH q⟩
      | _ => exact absurd hno (by simp [kno])
    have hp2 := of_decide_eq_false h
    refine when2 (is_no rfl hca) (fun h => ?_) (fun h => ?_)
    · have h0 := of_decide_eq_true h
      subst h0
      cases hk with
      | margins =>
        exact hfld rfl _ (margins_case (E := C8.E0) hH q)
      | _ => exact absurd hno (by simp [kno])
    have hp3 := of_decide_eq_false h
    refine when2 (is_no rfl hca) (fun h => ?_) (fun h => ?_)
    · have h0 := of_decide_eq_true h
      subst h0
      cases hk with
      | put b hb hbl =>
        obtain ⟨rb, h1, h2⟩ := callR hC
        exact ⟨_, rfl, _, rfl, ca, _, 1, _, rfl, rfl, SqL.of h1, rfl, put_case (E := C8.E0) hH (bytes_at h2 hb) (by rw [bytesOf_len]; exact hbl) q⟩
      | _ => exact absurd hno (by simp [kno])
    have hp4 := of_decide_eq_false h
    refine when2 (is_no rfl hca) (fun h => ?_) (fun h => ?_)
    · have h0 := of_decide_eq_true h
      subst h0
      cases hk with
      | drop k i =>
        have h1 := call3 hC
        exact ⟨_, rfl, _, rfl, ca, _, 1, _, rfl, rfl, SqL.of h1, rfl, _, rfl, ca, _, 2, _, rfl, rfl, SqL.of h1, rfl, drop_case (E := C8.E0) hH q⟩
      | _ => exact absurd hno (by simp [kno])
    have hp5 := of_decide_eq_false h
    refine when2 (is_no rfl hca) (fun h => ?_) (fun h => ?_)
    · have h0 := of_decide_eq_true h
      subst h0
      cases hk with
      | needless =>
        exact hfld rfl _ (needless_case (E := C8.E0) hH q)
      | _ => exact absurd hno (by simp [kno])
    have hp6 := of_decide_eq_false h
    refine when2 (is_no rfl hca) (fun h => ?_) (fun h => ?_)
    · have h0 := of_decide_eq_true h
      subst h0
      cases hk with
      | slim =>
        exact ⟨_, rfl, slim_case (E := C8.E0) hH q⟩
      | _ => exact absurd hno (by simp [kno])
    have hp7 := of_decide_eq_false h
    refine when2 (is_no rfl hca) (fun h => ?_) (fun h => ?_)
    · have h0 := of_decide_eq_true h
      subst h0
      cases hk with
      | joint b hb hbl =>
        obtain ⟨rb, h1, h2⟩ := callR hC
        exact ⟨_, rfl, d, _, dd, _, _, rfl, hH.desk, T.i_Desk.cl, T.n_Desk_held, rfl, _, rfl, ca, _, 1, _, rfl, rfl, SqL.of h1, rfl, joint_case (E := C8.E0) hH (bytes_at h2 hb) (by rw [bytesOf_len]; exact hbl) q⟩
      | _ => exact absurd hno (by simp [kno])
    have hp8 := of_decide_eq_false h
    cases hk with
    | brk n b hb hbl =>
      obtain ⟨rb, h1, h2⟩ := callNR hC
      exact ⟨_, rfl, d, _, dd, _, _, rfl, hH.desk, T.i_Desk.cl, T.n_Desk_held, rfl, _, rfl, ca, _, 1, _, rfl, rfl, SqL.of h1, rfl, _, rfl, ca, _, 2, _, rfl, rfl, SqL.of h1, rfl, break_case (E := C8.E0) hH (bytes_at h2 hb) (by rw [bytesOf_len]; exact hbl) q⟩
    | _ => simp [kno] at hno hk0 <;> omega
theorem ok_answer {f : Addr} {fd : FuncData} (T : Txt K mg A) (a : At K mg "answer" s_answer ["desk", "call"] f fd) (d_load : C8.Cal P w K mg base 9 "load" (spLoad A K) []) (d_listed_answer : C8.Cal P w K mg base 11 "listed_answer" (spListedA A K) []) : C8.Cal P w K mg base 20 "answer" (spAnswer A K) [] := by
  refine a.cal (ok0 a.fn sc_answer (fun vs H Q E h => ?_) (fun cdv Ar outer s H vs Q E hr h => ⟨_, (pss_cons (ps_if (pt_cmpR op_eq (pe_ix ix_list (pv 1) pe_int (fun _ _ => rfl)) (C8.pe_gc rfl T.c_LOAD) (nomark _)) (pss_one (ps_ret (C8.pe_c d_load hr (by decide) rfl (by exact (pa_cons (pv 0) (pa_cons (pe_ix ix_list (pv 1) pe_int (fun _ _ => rfl)) pa_nil)))))) pss_nil)
  (pss_cons (ps_if (pt_cmpR op_isN (pe_fld (pv 0) rfl) pe_non (nomark _)) (pss_one (ps_ret (pe_lst (pa_cons (C8.pe_gc rfl T.c_NO_LIST) pa_nil)))) pss_nil)
  (pss_one (ps_ret (C8.pe_c d_listed_answer hr (by decide) rfl (by exact (pa_cons (pv 0) (pa_cons (pv 1) pa_nil)))))))), ?_⟩) rfl rfl rfl)
  · obtain ⟨_, _, _, _, _, _, rfl, _⟩ := h
    rfl
  · obtain ⟨d, dd, ca, G, o, c, rfl, hD, hC, hask, q⟩ := h
    obtain ⟨p, ws, hca⟩ : ∃ (p : Int) (ws : List V), H ca = some (.lst (.int p :: ws)) := by
      obtain ⟨p, xs, rows, vs, _, h2, _⟩ := id hC
      exact ⟨p, vs, h2⟩
    obtain ⟨k, hk, hck⟩ := asked_call hask
    rw [step_of hck] at q
    have hno := asked_no hk hC hca
    refine when2 (is_no rfl hca) (fun h => ?_) (fun h => ?_)
    · have h0 := of_decide_eq_true h
      subst h0
      cases hk with
      | load b hb hbl =>
        obtain ⟨rb, h1, h2⟩ := callR hC
        exact ⟨_, rfl, _, rfl, ca, _, 1, _, rfl, rfl, SqL.of h1, rfl, load_case (E := C8.E0) hD (bytes_at h2 hb) (by rw [bytesOf_len]; exact hbl) q⟩
      | _ => exact absurd hno (by simp [kno])
    have hp0 := of_decide_eq_false h
    refine when2 (is_none_ T rfl hD) (fun h2 => ?_) (fun h2 => ?_)
    · obtain rfl : o = none := by
        cases o with
        | none => rfl
        | some s => cases h2
      have hst : Vahypz.step none k = (none, VahypBase.one (-1)) := by
        cases hk with
        | load b hb hbl => exact absurd hno hp0
        | _ => rfl
      rw [hst] at q
      exact ⟨by show 1 ≤ sizeLine; decide, fun l hl => q.same hD _ l (ex_new hl) hl upd_same⟩
    obtain ⟨s, rfl⟩ : ∃ s, o = some s := by
      cases o with
      | none => cases h2
      | some s => exact ⟨s, rfl⟩
    obtain ⟨pl, hH⟩ := hD
    exact ⟨_, rfl, _, rfl, d, dd, ca, pl, G, s, c, k, rfl, hH, hC, hk, by rw [← hno]; exact hp0, q⟩
end
end Pw
set_option Elab.async false
set_option linter.all false
set_option maxRecDepth 100000
set_option maxHeartbeats 2000000
/-! what the written table says of each call -/
namespace Pw
open PySem PySem.Spec PyProof.Rows L2
theorem giv_ok {K : PySem.W.Frag} {mg : Str → Option Value} {A : Adr} (T : Txt K mg A) : GivOk K [.ref A.t_GIVEN_0, .ref A.t_GIVEN_1, .ref A.t_GIVEN_2, .ref A.t_GIVEN_3, .ref A.t_GIVEN_4, .ref A.t_GIVEN_5, .ref A.t_GIVEN_6, .ref A.t_GIVEN_7, .ref A.t_GIVEN_8, .ref A.t_GIVEN_9] := by
  intro p n k h
  unfold PyVahypz.shape at h
  by_cases h0 : p = 0
  · rw [if_pos h0] at h
    cases h
    rw [h0]
    exact ⟨_, rfl, T.kt_GIVEN_0⟩
  rw [if_neg h0] at h
  by_cases h0 : p = 1
  · rw [if_pos h0] at h
    cases h
    rw [h0]
    exact ⟨_, rfl, T.kt_GIVEN_1⟩
  rw [if_neg h0] at h
  by_cases h0 : p = 2
  · rw [if_pos h0] at h
    cases h
    rw [h0]
    exact ⟨_, rfl, T.kt_GIVEN_2⟩
  rw [if_neg h0] at h
  by_cases h0 : p = 3
  · rw [if_pos h0] at h
    cases h
    rw [h0]
    exact ⟨_, rfl, T.kt_GIVEN_3⟩
  rw [if_neg h0] at h
  by_cases h0 : p = 4
  · rw [if_pos h0] at h
    cases h
    rw [h0]
    exact ⟨_, rfl, T.kt_GIVEN_4⟩
  rw [if_neg h0] at h
  by_cases h0 : p = 5
  · rw [if_pos h0] at h
    cases h
    rw [h0]
    exact ⟨_, rfl, T.kt_GIVEN_5⟩
  rw [if_neg h0] at h
  by_cases h0 : p = 6
  · rw [if_pos h0] at h
    cases h
    rw [h0]
    exact ⟨_, rfl, T.kt_GIVEN_6⟩
  rw [if_neg h0] at h
  by_cases h0 : p = 7
  · rw [if_pos h0] at h
    cases h
    rw [h0]
    exact ⟨_, rfl, T.kt_GIVEN_7⟩
  rw [if_neg h0] at h
  by_cases h0 : p = 8
  · rw [if_pos h0] at h
    cases h
    rw [h0]
    exact ⟨_, rfl, T.kt_GIVEN_8⟩
  rw [if_neg h0] at h
  by_cases h0 : p = 9
  · rw [if_pos h0] at h
    cases h
    rw [h0]
    exact ⟨_, rfl, T.kt_GIVEN_9⟩
  rw [if_neg h0] at h
  cases h
end Pw
set_option Elab.async false
set_option linter.all false
set_option maxRecDepth 100000
set_option maxHeartbeats 4000000
/-! What the top has written, read off the written part: by names. Printed by tools/gen_end.py. -/
namespace Pw
open PySem PySem.Spec PyProof.Rows L2
open He (ga ma)
def ta (K : PySem.W.Frag) (a : Addr) (i : Nat) : Addr := match K.lookup a with
  | some ⟨_, _, .seq its _, _⟩ => (match its.toList[i]? with
    | some (.ref b) => b
    | _ => 0)
  | _ => 0
def relB : V → Value → Bool
  | .int i, .int j _ => decide (i = j)
  | .str x, .str y _ => decide (x = y)
  | .ref a, .ref b => decide (a = b)
  | _, _ => false
def relL : List V → List Value → Bool
  | [], [] => true
  | v :: vs, u :: us => relB v u && relL vs us
  | _, _ => false
theorem relB_ok {v : V} {u : Value} (h : relB v u = true) : RelV v u := by
  unfold relB at h
  split at h
  · exact ⟨_, by rw [of_decide_eq_true h]⟩
  · exact ⟨_, by rw [of_decide_eq_true h]⟩
  · rw [of_decide_eq_true h]
    rfl
  · cases h
theorem relL_ok : ∀ (vs : List V) (us : List Value), relL vs us = true → Vals vs us
  | [], [], _ => .nil
  | [], _ :: _, h => by cases h
  | _ :: _, [], h => by cases h
  | v :: vs, u :: us, h => by
    have h2 := Bool.and_eq_true_iff.mp (show (relB v u && relL vs us) = true from h)
    exact .cons (relB_ok h2.1) (relL_ok vs us h2.2)
def tupOk (K : PySem.W.Frag) (a : Addr) (vs : List V) : Bool := match K.lookup a with
  | some ⟨.type "tuple", _, .seq its _, _⟩ => decide (its.size ≤ 1000) && relL vs its.toList
  | _ => false
theorem tup_ok {K : PySem.W.Frag} {a : Addr} {vs : List V} (h : tupOk K a vs = true) : KT K a vs := fun H => by
  unfold tupOk at h
  split at h
  · rename_i its n sl e
    have h2 := Bool.and_eq_true_iff.mp h
    exact .inr ⟨_, its, _, e, rfl, rfl, Nat.le_trans (of_decide_eq_true h2.1) (by decide), relL_ok _ _ h2.2⟩
  · cases h
def insOk (K : PySem.W.Frag) (x : Str) : Bool := He.eqO (PySem.W.findIn K (.ref (ga K x)) "__class__") (some (some (.builtin "object.__class__"))) && (He.eqO (PySem.W.specialIn K (.builtin "object.__class__") "__get__") (some (some (.builtin "getset_descriptor.__get__"))) &&
  (decide (PySem.W.takesIn K (.builtin "object.__class__") = some true) && (decide (PySem.W.mroIn K (ga K x) (.type "object") = some true) && decide (PySem.W.kitOne K (.ref (ga K x)) (.ref (ga K x)) = some true))))
theorem ins_ok {K : PySem.W.Frag} {x : Str} (c : Cls K (ga K x)) (h : insOk K x = true) : C8.InsC K (ga K x) := by
  obtain ⟨h1, h⟩ := He.ba h
  obtain ⟨h2, h⟩ := He.ba h
  obtain ⟨h3, h⟩ := He.ba h
  obtain ⟨h4, h5⟩ := He.ba h
  exact ⟨c, He.eqO_ok h1, He.eqO_ok h2, of_decide_eq_true h3, of_decide_eq_true h4, of_decide_eq_true h5⟩
def adr (K : PySem.W.Frag) : Adr where
  Word := ga K "Word"
  Pattern := ga K "Pattern"
  Listing := ga K "Listing"
  Reader := ga K "Reader"
  Desk := ga K "Desk"
  Fault := ga K "Fault"
  fI := ma K (ga K "Fault") "__init__"
  t_BLANKS := ga K "BLANKS"
  t_MARGIN_CHUNKS := ga K "MARGIN_CHUNKS"
  t_GIVEN_0 := ta K (ga K "GIVEN") 0
  t_GIVEN_1 := ta K (ga K "GIVEN") 1
  t_GIVEN_2 := ta K (ga K "GIVEN") 2
  t_GIVEN_3 := ta K (ga K "GIVEN") 3
  t_GIVEN_4 := ta K (ga K "GIVEN") 4
  t_GIVEN_5 := ta K (ga K "GIVEN") 5
  t_GIVEN_6 := ta K (ga K "GIVEN") 6
  t_GIVEN_7 := ta K (ga K "GIVEN") 7
  t_GIVEN_8 := ta K (ga K "GIVEN") 8
  t_GIVEN_9 := ta K (ga K "GIVEN") 9
  t_GIVEN := ga K "GIVEN"
def fas : List He.Fa := [.free "enumerate",
  .free "int",
  .free "isinstance",
  .free "len",
  .free "list",
  .free "max",
  .free "ord",
  .free "range",
  .free "str",
  .free "sum",
  .free "zip",
  .int "MOST_WORDS" 24,
  .int "MOST_PATTERNS" 40,
  .int "LEAST_WORD_LETTERS" 2,
  .int "MOST_WORD_LETTERS" 16,
  .int "MOST_PATTERN_LETTERS" 6,
  .str "PATTERN_DIGITS" "123456789",
  .int "GREATEST_MARGIN" 5,
  .int "MOST_BYTES" 4096,
  .int "LONGEST_CHUNK" 40,
  .int "REMARK" 35,
  .int "LINE_END" 10,
  .glo "BLANKS",
  .int "SEMICOLON" 59,
  .str "LETTERS" "abcdefghijklmnopqrstuvwxyz",
  .str "DIGITS" "0123456789",
  .glo "MARGIN_CHUNKS",
  .int "LOAD" 0,
  .int "SHOWN" 1,
  .int "REPORT" 2,
  .int "MARGINS" 3,
  .int "PUT" 4,
  .int "DROP" 5,
  .int "NEEDLESS" 6,
  .int "SLIM" 7,
  .int "JOINT" 8,
  .glo "GIVEN",
  .int "DROPPED_WORD" 0,
  .int "DROPPED_PATTERN" 1,
  .int "MOST_PLACES" 100,
  .int "NO_LIST" (-1),
  .int "NO_SUCH" (-2),
  .int "NO_LINE" (-3),
  .int "NOT_RIGHT" (-4),
  .int "TOO_MANY" (-5),
  .glo "Word",
  .glo "Pattern",
  .glo "Listing",
  .glo "Reader",
  .glo "Desk",
  .glo "Fault",
  .cls "Word",
  .mkr "Word",
  .noat "Word" "chunk",
  .noat "Word" "letters",
  .noat "Word" "gaps",
  .noat "Word" "key",
  .cls "Pattern",
  .mkr "Pattern",
  .noat "Pattern" "chunk",
  .noat "Pattern" "letters",
  .noat "Pattern" "digits",
  .noat "Pattern" "first",
  .noat "Pattern" "last",
  .noat "Pattern" "key",
  .cls "Listing",
  .mkr "Listing",
  .noat "Listing" "left",
  .noat "Listing" "right",
  .noat "Listing" "words",
  .noat "Listing" "patterns",
  .cls "Reader",
  .mkr "Reader",
  .noat "Reader" "tokens",
  .noat "Reader" "reached",
  .meth "Reader" "here",
  .meth "Reader" "signs",
  .meth "Reader" "go_on",
  .meth "Reader" "take",
  .meth "Reader" "chunk_here",
  .cls "Desk",
  .mkr "Desk",
  .noat "Desk" "held",
  .glo "is_word_long",
  .keep "is_word_long",
  .glo "word_of",
  .keep "word_of",
  .glo "without_points",
  .keep "without_points",
  .glo "pattern_of",
  .keep "pattern_of",
  .glo "number_of",
  .keep "number_of",
  .glo "one_form",
  .keep "one_form",
  .glo "fits_at",
  .keep "fits_at",
  .glo "fitting_places",
  .keep "fitting_places",
  .glo "fitting_patterns",
  .keep "fitting_patterns",
  .glo "levels",
  .keep "levels",
  .glo "greatest_level",
  .keep "greatest_level",
  .glo "odd_gaps",
  .keep "odd_gaps",
  .glo "within",
  .keep "within",
  .glo "parted_gaps",
  .keep "parted_gaps",
  .glo "held_against",
  .keep "held_against",
  .glo "wrongs",
  .keep "wrongs",
  .glo "tried_margins",
  .keep "tried_margins",
  .glo "with_entry",
  .keep "with_entry",
  .glo "with_item",
  .keep "with_item",
  .glo "without_entry",
  .keep "without_entry",
  .glo "without_word",
  .keep "without_word",
  .glo "without_pattern",
  .keep "without_pattern",
  .glo "is_too_long",
  .keep "is_too_long",
  .glo "is_touched",
  .keep "is_touched",
  .glo "touched",
  .keep "touched",
  .glo "is_listed",
  .keep "is_listed",
  .glo "joints",
  .keep "joints",
  .glo "parted_as_two",
  .keep "parted_as_two",
  .glo "breaking_gaps",
  .keep "breaking_gaps",
  .glo "chunk_sign",
  .keep "chunk_sign",
  .glo "after_remark",
  .keep "after_remark",
  .glo "after_blanks",
  .keep "after_blanks",
  .glo "chunk_at",
  .keep "chunk_at",
  .glo "token_at",
  .keep "token_at",
  .glo "tokens_of",
  .keep "tokens_of",
  .glo "read_margin",
  .keep "read_margin",
  .glo "read_entry",
  .keep "read_entry",
  .glo "read_entries",
  .keep "read_entries",
  .glo "read_list",
  .keep "read_list",
  .glo "read_item",
  .keep "read_item",
  .glo "read_letters",
  .keep "read_letters",
  .glo "partings",
  .keep "partings",
  .glo "needless_patterns",
  .keep "needless_patterns",
  .glo "gone_through",
  .keep "gone_through",
  .glo "slimmed",
  .keep "slimmed",
  .glo "counted",
  .keep "counted",
  .glo "load",
  .keep "load",
  .glo "shown",
  .keep "shown",
  .glo "has_number",
  .keep "has_number",
  .glo "report",
  .keep "report",
  .glo "become",
  .keep "become",
  .glo "put",
  .keep "put",
  .glo "drop",
  .keep "drop",
  .glo "slim",
  .keep "slim",
  .glo "joint",
  .keep "joint",
  .glo "line_break",
  .keep "line_break",
  .glo "listed_answer",
  .keep "listed_answer",
  .glo "answer",
  .keep "answer",
  .glo "split_calls",
  .keep "split_calls",
  .glo "answers",
  .keep "answers"]
def fns : List He.FnD := [⟨("is_word_long", none), "is_word_long", "is_word_long", C8.fnArgs s_is_word_long, C8.fnBody s_is_word_long, C8.fnScope s_is_word_long⟩,
  ⟨("word_of", none), "word_of", "word_of", C8.fnArgs s_word_of, C8.fnBody s_word_of, C8.fnScope s_word_of⟩,
  ⟨("without_points", none), "without_points", "without_points", C8.fnArgs s_without_points, C8.fnBody s_without_points, C8.fnScope s_without_points⟩,
  ⟨("pattern_of", none), "pattern_of", "pattern_of", C8.fnArgs s_pattern_of, C8.fnBody s_pattern_of, C8.fnScope s_pattern_of⟩,
  ⟨("number_of", none), "number_of", "number_of", C8.fnArgs s_number_of, C8.fnBody s_number_of, C8.fnScope s_number_of⟩,
  ⟨("one_form", none), "one_form", "one_form", C8.fnArgs s_one_form, C8.fnBody s_one_form, C8.fnScope s_one_form⟩,
  ⟨("fits_at", none), "fits_at", "fits_at", C8.fnArgs s_fits_at, C8.fnBody s_fits_at, C8.fnScope s_fits_at⟩,
  ⟨("fitting_places", none), "fitting_places", "fitting_places", C8.fnArgs s_fitting_places, C8.fnBody s_fitting_places, C8.fnScope s_fitting_places⟩,
  ⟨("fitting_patterns", none), "fitting_patterns", "fitting_patterns", C8.fnArgs s_fitting_patterns, C8.fnBody s_fitting_patterns, C8.fnScope s_fitting_patterns⟩,
  ⟨("levels", none), "levels", "levels", C8.fnArgs s_levels, C8.fnBody s_levels, C8.fnScope s_levels⟩,
  ⟨("greatest_level", none), "greatest_level", "greatest_level", C8.fnArgs s_greatest_level, C8.fnBody s_greatest_level, C8.fnScope s_greatest_level⟩,
  ⟨("odd_gaps", none), "odd_gaps", "odd_gaps", C8.fnArgs s_odd_gaps, C8.fnBody s_odd_gaps, C8.fnScope s_odd_gaps⟩,
  ⟨("within", none), "within", "within", C8.fnArgs s_within, C8.fnBody s_within, C8.fnScope s_within⟩,
  ⟨("parted_gaps", none), "parted_gaps", "parted_gaps", C8.fnArgs s_parted_gaps, C8.fnBody s_parted_gaps, C8.fnScope s_parted_gaps⟩,
  ⟨("held_against", none), "held_against", "held_against", C8.fnArgs s_held_against, C8.fnBody s_held_against, C8.fnScope s_held_against⟩,
  ⟨("wrongs", none), "wrongs", "wrongs", C8.fnArgs s_wrongs, C8.fnBody s_wrongs, C8.fnScope s_wrongs⟩,
  ⟨("tried_margins", none), "tried_margins", "tried_margins", C8.fnArgs s_tried_margins, C8.fnBody s_tried_margins, C8.fnScope s_tried_margins⟩,
  ⟨("with_entry", none), "with_entry", "with_entry", C8.fnArgs s_with_entry, C8.fnBody s_with_entry, C8.fnScope s_with_entry⟩,
  ⟨("with_item", none), "with_item", "with_item", C8.fnArgs s_with_item, C8.fnBody s_with_item, C8.fnScope s_with_item⟩,
  ⟨("without_entry", none), "without_entry", "without_entry", C8.fnArgs s_without_entry, C8.fnBody s_without_entry, C8.fnScope s_without_entry⟩,
  ⟨("without_word", none), "without_word", "without_word", C8.fnArgs s_without_word, C8.fnBody s_without_word, C8.fnScope s_without_word⟩,
  ⟨("without_pattern", none), "without_pattern", "without_pattern", C8.fnArgs s_without_pattern, C8.fnBody s_without_pattern, C8.fnScope s_without_pattern⟩,
  ⟨("is_too_long", none), "is_too_long", "is_too_long", C8.fnArgs s_is_too_long, C8.fnBody s_is_too_long, C8.fnScope s_is_too_long⟩,
  ⟨("is_touched", none), "is_touched", "is_touched", C8.fnArgs s_is_touched, C8.fnBody s_is_touched, C8.fnScope s_is_touched⟩,
  ⟨("touched", none), "touched", "touched", C8.fnArgs s_touched, C8.fnBody s_touched, C8.fnScope s_touched⟩,
  ⟨("is_listed", none), "is_listed", "is_listed", C8.fnArgs s_is_listed, C8.fnBody s_is_listed, C8.fnScope s_is_listed⟩,
  ⟨("joints", none), "joints", "joints", C8.fnArgs s_joints, C8.fnBody s_joints, C8.fnScope s_joints⟩,
  ⟨("parted_as_two", none), "parted_as_two", "parted_as_two", C8.fnArgs s_parted_as_two, C8.fnBody s_parted_as_two, C8.fnScope s_parted_as_two⟩,
  ⟨("breaking_gaps", none), "breaking_gaps", "breaking_gaps", C8.fnArgs s_breaking_gaps, C8.fnBody s_breaking_gaps, C8.fnScope s_breaking_gaps⟩,
  ⟨("chunk_sign", none), "chunk_sign", "chunk_sign", C8.fnArgs s_chunk_sign, C8.fnBody s_chunk_sign, C8.fnScope s_chunk_sign⟩,
  ⟨("after_remark", none), "after_remark", "after_remark", C8.fnArgs s_after_remark, C8.fnBody s_after_remark, C8.fnScope s_after_remark⟩,
  ⟨("after_blanks", none), "after_blanks", "after_blanks", C8.fnArgs s_after_blanks, C8.fnBody s_after_blanks, C8.fnScope s_after_blanks⟩,
  ⟨("chunk_at", none), "chunk_at", "chunk_at", C8.fnArgs s_chunk_at, C8.fnBody s_chunk_at, C8.fnScope s_chunk_at⟩,
  ⟨("token_at", none), "token_at", "token_at", C8.fnArgs s_token_at, C8.fnBody s_token_at, C8.fnScope s_token_at⟩,
  ⟨("tokens_of", none), "tokens_of", "tokens_of", C8.fnArgs s_tokens_of, C8.fnBody s_tokens_of, C8.fnScope s_tokens_of⟩,
  ⟨("read_margin", none), "read_margin", "read_margin", C8.fnArgs s_read_margin, C8.fnBody s_read_margin, C8.fnScope s_read_margin⟩,
  ⟨("read_entry", none), "read_entry", "read_entry", C8.fnArgs s_read_entry, C8.fnBody s_read_entry, C8.fnScope s_read_entry⟩,
  ⟨("read_entries", none), "read_entries", "read_entries", C8.fnArgs s_read_entries, C8.fnBody s_read_entries, C8.fnScope s_read_entries⟩,
  ⟨("read_list", none), "read_list", "read_list", C8.fnArgs s_read_list, C8.fnBody s_read_list, C8.fnScope s_read_list⟩,
  ⟨("read_item", none), "read_item", "read_item", C8.fnArgs s_read_item, C8.fnBody s_read_item, C8.fnScope s_read_item⟩,
  ⟨("read_letters", none), "read_letters", "read_letters", C8.fnArgs s_read_letters, C8.fnBody s_read_letters, C8.fnScope s_read_letters⟩,
  ⟨("partings", none), "partings", "partings", C8.fnArgs s_partings, C8.fnBody s_partings, C8.fnScope s_partings⟩,
  ⟨("needless_patterns", none), "needless_patterns", "needless_patterns", C8.fnArgs s_needless_patterns, C8.fnBody s_needless_patterns, C8.fnScope s_needless_patterns⟩,
  ⟨("gone_through", none), "gone_through", "gone_through", C8.fnArgs s_gone_through, C8.fnBody s_gone_through, C8.fnScope s_gone_through⟩,
  ⟨("slimmed", none), "slimmed", "slimmed", C8.fnArgs s_slimmed, C8.fnBody s_slimmed, C8.fnScope s_slimmed⟩,
  ⟨("counted", none), "counted", "counted", C8.fnArgs s_counted, C8.fnBody s_counted, C8.fnScope s_counted⟩,
  ⟨("load", none), "load", "load", C8.fnArgs s_load, C8.fnBody s_load, C8.fnScope s_load⟩,
  ⟨("shown", none), "shown", "shown", C8.fnArgs s_shown, C8.fnBody s_shown, C8.fnScope s_shown⟩,
  ⟨("has_number", none), "has_number", "has_number", C8.fnArgs s_has_number, C8.fnBody s_has_number, C8.fnScope s_has_number⟩,
  ⟨("report", none), "report", "report", C8.fnArgs s_report, C8.fnBody s_report, C8.fnScope s_report⟩,
  ⟨("become", none), "become", "become", C8.fnArgs s_become, C8.fnBody s_become, C8.fnScope s_become⟩,
  ⟨("put", none), "put", "put", C8.fnArgs s_put, C8.fnBody s_put, C8.fnScope s_put⟩,
  ⟨("drop", none), "drop", "drop", C8.fnArgs s_drop, C8.fnBody s_drop, C8.fnScope s_drop⟩,
  ⟨("slim", none), "slim", "slim", C8.fnArgs s_slim, C8.fnBody s_slim, C8.fnScope s_slim⟩,
  ⟨("joint", none), "joint", "joint", C8.fnArgs s_joint, C8.fnBody s_joint, C8.fnScope s_joint⟩,
  ⟨("line_break", none), "line_break", "line_break", C8.fnArgs s_line_break, C8.fnBody s_line_break, C8.fnScope s_line_break⟩,
  ⟨("listed_answer", none), "listed_answer", "listed_answer", C8.fnArgs s_listed_answer, C8.fnBody s_listed_answer, C8.fnScope s_listed_answer⟩,
  ⟨("answer", none), "answer", "answer", C8.fnArgs s_answer, C8.fnBody s_answer, C8.fnScope s_answer⟩,
  ⟨("split_calls", none), "split_calls", "split_calls", C8.fnArgs s_split_calls, C8.fnBody s_split_calls, C8.fnScope s_split_calls⟩,
  ⟨("answers", none), "answers", "answers", C8.fnArgs s_answers, C8.fnBody s_answers, C8.fnScope s_answers⟩,
  ⟨("Word", some "__init__"), "__init__", "Word.__init__", C8.fnArgs s_Word_init, C8.fnBody s_Word_init, C8.fnScope s_Word_init⟩,
  ⟨("Pattern", some "__init__"), "__init__", "Pattern.__init__", C8.fnArgs s_Pattern_init, C8.fnBody s_Pattern_init, C8.fnScope s_Pattern_init⟩,
  ⟨("Listing", some "__init__"), "__init__", "Listing.__init__", C8.fnArgs s_Listing_init, C8.fnBody s_Listing_init, C8.fnScope s_Listing_init⟩,
  ⟨("Reader", some "__init__"), "__init__", "Reader.__init__", C8.fnArgs s_Reader_init, C8.fnBody s_Reader_init, C8.fnScope s_Reader_init⟩,
  ⟨("Reader", some "here"), "here", "Reader.here", C8.fnArgs s_Reader_here, C8.fnBody s_Reader_here, C8.fnScope s_Reader_here⟩,
  ⟨("Reader", some "signs"), "signs", "Reader.signs", C8.fnArgs s_Reader_signs, C8.fnBody s_Reader_signs, C8.fnScope s_Reader_signs⟩,
  ⟨("Reader", some "go_on"), "go_on", "Reader.go_on", C8.fnArgs s_Reader_go_on, C8.fnBody s_Reader_go_on, C8.fnScope s_Reader_go_on⟩,
  ⟨("Reader", some "take"), "take", "Reader.take", C8.fnArgs s_Reader_take, C8.fnBody s_Reader_take, C8.fnScope s_Reader_take⟩,
  ⟨("Reader", some "chunk_here"), "chunk_here", "Reader.chunk_here", C8.fnArgs s_Reader_chunk_here, C8.fnBody s_Reader_chunk_here, C8.fnScope s_Reader_chunk_here⟩,
  ⟨("Desk", some "__init__"), "__init__", "Desk.__init__", C8.fnArgs s_Desk_init, C8.fnBody s_Desk_init, C8.fnScope s_Desk_init⟩,
  ⟨("Fault", some "__init__"), "__init__", "Fault.__init__", C8.fnArgs s_Fault_init, C8.fnBody s_Fault_init, C8.fnScope s_Fault_init⟩]
def tupsOk (K : PySem.W.Frag) : Bool := tupOk K (adr K).t_BLANKS [.int 32, .int 9, .int 10] && tupOk K (adr K).t_MARGIN_CHUNKS [.str "0", .str "1", .str "2", .str "3", .str "4", .str "5"] && tupOk K (adr K).t_GIVEN_0 [.str "row"] && tupOk K (adr K).t_GIVEN_1 [] && tupOk K (adr K).t_GIVEN_2 [.str "number"] && tupOk K (adr K).t_GIVEN_3 [] && tupOk K (adr K).t_GIVEN_4 [.str "row"] && tupOk K (adr K).t_GIVEN_5 [.str "number", .str "number"] && tupOk K (adr K).t_GIVEN_6 [] && tupOk K (adr K).t_GIVEN_7 [] && tupOk K (adr K).t_GIVEN_8 [.str "row"] && tupOk K (adr K).t_GIVEN_9 [.str "number", .str "row"] && tupOk K (adr K).t_GIVEN [.ref (adr K).t_GIVEN_0, .ref (adr K).t_GIVEN_1, .ref (adr K).t_GIVEN_2, .ref (adr K).t_GIVEN_3, .ref (adr K).t_GIVEN_4, .ref (adr K).t_GIVEN_5, .ref (adr K).t_GIVEN_6, .ref (adr K).t_GIVEN_7, .ref (adr K).t_GIVEN_8, .ref (adr K).t_GIVEN_9]
def inssOk (K : PySem.W.Frag) : Bool := insOk K "Word" && insOk K "Pattern" && insOk K "Listing" && insOk K "Reader" && insOk K "Desk"
def excOk (K : PySem.W.Frag) : Bool := He.eqO (PySem.W.findIn K (.ref (adr K).Fault) "__setattr__") (some (some (.builtin "object.__setattr__"))) && (He.eqO (PySem.W.findIn K (.ref (adr K).Fault) "__getattribute__") (some (some (.builtin "BaseException.__getattribute__"))) && (He.eqO (PySem.W.findIn K (.ref (adr K).Fault) "__getattr__") (some none) &&
  (He.eqO (PySem.W.findIn K (.ref (adr K).Fault) "code") (some none) && (He.eqO (PySem.W.findIn K (.ref (adr K).Fault) "place") (some none) && (He.eqO (PySem.W.findIn K (.ref (adr K).Fault) "__init__") (some (some (.ref (adr K).fI))) && (decide (PySem.W.typeIn K (.ref (adr K).fI) = some (.type "function")) &&
  (PySem.W.keepIn K (.ref (adr K).Fault) && (decide (PySem.W.subIn K (.ref (adr K).Fault) (.type "BaseException") = some true) && (decide (PySem.W.typeIn K (.ref (adr K).Fault) = some (.type "type")) && (PySem.W.hasDictIn K (adr K).Fault && decide (PySem.W.exmOne K (.ref (adr K).Fault) (.ref (adr K).Fault) = some true)))))))))))
def kwOk (K : PySem.W.Frag) : Bool := match K.lookup (adr K).fI with
  | some ⟨_, _, .func fd, _⟩ => decide (fd.kwdefaults = .none)
  | _ => false
theorem kw_ok {K : PySem.W.Frag} (h : kwOk K = true) {oc : Value} {od : Option Addr} {fd : FuncData} {osl : Array (Option Value)} (l : K.lookup (adr K).fI = some ⟨oc, od, .func fd, osl⟩) : fd.kwdefaults = .none := by
  unfold kwOk at h
  rw [l] at h
  exact of_decide_eq_true h
/-- all that is read off -/
def seen (K : PySem.W.Frag) : Bool := ((fas.all fun f => f.ok K) && fns.all fun d => (He.Fa.code d.at_ d.qual).ok K) && (tupsOk K && (inssOk K && (excOk K && (kwOk K && decide (PySem.W.kitOne K (.ref (adr K).Pattern) (.ref (adr K).Word) = some false)))))
def defsAt (K : PySem.W.Frag) : Prop := fns.map (fun d => He.fnObs K d.at_) = fns.map He.FnD.val
def excAt (K : PySem.W.Frag) (C : Addr) : Prop := ∃ nm q N bs sn sub ab col dd k0 k1 k2 k3 k5, K.lookup C = some (excClassObj nm q C N bs FltX.exTail true sn sub ab col dd k0 k1 k2 k3 k5 "Exception.__new__")
section
variable {P : Program} {w : World} {K : PySem.W.Frag} {h : Heap} {mg : Str → Option Value}
theorem fact (c : (fas.all fun f => f.ok K) = true) (i : Nat) {f : He.Fa} (h : fas[i]? = some f) : f.ok K = true := List.all_eq_true.mp c f (List.mem_of_getElem? h)
theorem defd (c : (fns.all fun d => (He.Fa.code d.at_ d.qual).ok K) = true) (e : defsAt K) (i : Nat) {d : He.FnD} (h : fns[i]? = some d) :
    ∃ oc od osl kV doc pm an cdv ct, K.lookup (He.fAd K d.at_) = some ⟨oc, od, .func (PySem.W.fnOf d.name d.qual d.params d.body d.scope .none kV doc pm an cdv ct), osl⟩ ∧ PySem.W.codeIn K cdv d.qual = true := by
  have e2 : (fns.map fun d => He.fnObs K d.at_)[i]? = (fns.map He.FnD.val)[i]? := by rw [show fns.map (fun d => He.fnObs K d.at_) = fns.map He.FnD.val from e]
  rw [List.getElem?_map, List.getElem?_map, h] at e2
  exact He.fn_ok (Option.some.inj e2) (List.all_eq_true.mp c d (List.mem_of_getElem? h))
theorem int_at (X : K.In h) (G : h.Ns mainGlobals mg) {x : Str} {i : Int} (c : (He.Fa.int x i).ok K = true) : ∃ u, mg x = some u ∧ RelV (.int i) u := by
  obtain ⟨t, e⟩ := He.int_ok X G c
  exact ⟨_, e, t, rfl⟩
theorem str_at (X : K.In h) (G : h.Ns mainGlobals mg) {x z : Str} (c : (He.Fa.str x z).ok K = true) : ∃ u, mg x = some u ∧ RelV (.str z) u := by
  obtain ⟨t, e⟩ := He.str_ok X G c
  exact ⟨_, e, t, rfl⟩
theorem ref_at (X : K.In h) (G : h.Ns mainGlobals mg) {x : Str} (c : (He.Fa.glo x).ok K = true) : ∃ u, mg x = some u ∧ RelV (.ref (ga K x)) u := ⟨_, He.glo_ok X G c, rfl⟩
theorem txt_of (X : K.In h) (G : h.Ns mainGlobals mg) (s : seen K = true) (e : defsAt K) (x : excAt K (adr K).Fault) : Txt K mg (adr K) := by
  obtain ⟨s0, s⟩ := He.ba s
  obtain ⟨c, cc⟩ := He.ba s0
  obtain ⟨t, s⟩ := He.ba s
  obtain ⟨ii, s⟩ := He.ba s
  obtain ⟨xx, s⟩ := He.ba s
  obtain ⟨kw, kit⟩ := He.ba s
  obtain ⟨oc, od, osl, kV, doc, pm, an, cdv, ct, lk, cd⟩ := defd cc e 70 rfl
  cases (kw_ok kw lk : kV = .none)
  unfold tupsOk at t
  simp only [Bool.and_eq_true] at t
  unfold inssOk at ii
  simp only [Bool.and_eq_true] at ii
  unfold excOk at xx
  obtain ⟨x1, xx⟩ := He.ba xx
  obtain ⟨x2, xx⟩ := He.ba xx
  obtain ⟨x3, xx⟩ := He.ba xx
  obtain ⟨x4, xx⟩ := He.ba xx
  obtain ⟨x5, xx⟩ := He.ba xx
  obtain ⟨x6, xx⟩ := He.ba xx
  obtain ⟨x7, xx⟩ := He.ba xx
  obtain ⟨x8, xx⟩ := He.ba xx
  obtain ⟨x9, xx⟩ := He.ba xx
  obtain ⟨x10, xx⟩ := He.ba xx
  obtain ⟨x11, x12⟩ := He.ba xx
  exact {
    enumerate := He.free_ok X G (fact c 0 (f := .free "enumerate") rfl)
    ty_int := He.free_ok X G (fact c 1 (f := .free "int") rfl)
    isinstance := He.free_ok X G (fact c 2 (f := .free "isinstance") rfl)
    len := He.free_ok X G (fact c 3 (f := .free "len") rfl)
    ty_list := He.free_ok X G (fact c 4 (f := .free "list") rfl)
    max := He.free_ok X G (fact c 5 (f := .free "max") rfl)
    ord := He.free_ok X G (fact c 6 (f := .free "ord") rfl)
    range := He.free_ok X G (fact c 7 (f := .free "range") rfl)
    ty_str := He.free_ok X G (fact c 8 (f := .free "str") rfl)
    sum := He.free_ok X G (fact c 9 (f := .free "sum") rfl)
    zip := He.free_ok X G (fact c 10 (f := .free "zip") rfl)
    c_MOST_WORDS := int_at X G (fact c 11 (f := .int "MOST_WORDS" 24) rfl)
    c_MOST_PATTERNS := int_at X G (fact c 12 (f := .int "MOST_PATTERNS" 40) rfl)
    c_LEAST_WORD_LETTERS := int_at X G (fact c 13 (f := .int "LEAST_WORD_LETTERS" 2) rfl)
    c_MOST_WORD_LETTERS := int_at X G (fact c 14 (f := .int "MOST_WORD_LETTERS" 16) rfl)
    c_MOST_PATTERN_LETTERS := int_at X G (fact c 15 (f := .int "MOST_PATTERN_LETTERS" 6) rfl)
    c_PATTERN_DIGITS := str_at X G (fact c 16 (f := .str "PATTERN_DIGITS" "123456789") rfl)
    c_GREATEST_MARGIN := int_at X G (fact c 17 (f := .int "GREATEST_MARGIN" 5) rfl)
    c_MOST_BYTES := int_at X G (fact c 18 (f := .int "MOST_BYTES" 4096) rfl)
    c_LONGEST_CHUNK := int_at X G (fact c 19 (f := .int "LONGEST_CHUNK" 40) rfl)
    c_REMARK := int_at X G (fact c 20 (f := .int "REMARK" 35) rfl)
    c_LINE_END := int_at X G (fact c 21 (f := .int "LINE_END" 10) rfl)
    c_BLANKS := ref_at X G (fact c 22 (f := .glo "BLANKS") rfl)
    c_SEMICOLON := int_at X G (fact c 23 (f := .int "SEMICOLON" 59) rfl)
    c_LETTERS := str_at X G (fact c 24 (f := .str "LETTERS" "abcdefghijklmnopqrstuvwxyz") rfl)
    c_DIGITS := str_at X G (fact c 25 (f := .str "DIGITS" "0123456789") rfl)
    c_MARGIN_CHUNKS := ref_at X G (fact c 26 (f := .glo "MARGIN_CHUNKS") rfl)
    c_LOAD := int_at X G (fact c 27 (f := .int "LOAD" 0) rfl)
    c_SHOWN := int_at X G (fact c 28 (f := .int "SHOWN" 1) rfl)
    c_REPORT := int_at X G (fact c 29 (f := .int "REPORT" 2) rfl)
    c_MARGINS := int_at X G (fact c 30 (f := .int "MARGINS" 3) rfl)
    c_PUT := int_at X G (fact c 31 (f := .int "PUT" 4) rfl)
    c_DROP := int_at X G (fact c 32 (f := .int "DROP" 5) rfl)
    c_NEEDLESS := int_at X G (fact c 33 (f := .int "NEEDLESS" 6) rfl)
    c_SLIM := int_at X G (fact c 34 (f := .int "SLIM" 7) rfl)
    c_JOINT := int_at X G (fact c 35 (f := .int "JOINT" 8) rfl)
    c_GIVEN := ref_at X G (fact c 36 (f := .glo "GIVEN") rfl)
    c_DROPPED_WORD := int_at X G (fact c 37 (f := .int "DROPPED_WORD" 0) rfl)
    c_DROPPED_PATTERN := int_at X G (fact c 38 (f := .int "DROPPED_PATTERN" 1) rfl)
    c_MOST_PLACES := int_at X G (fact c 39 (f := .int "MOST_PLACES" 100) rfl)
    c_NO_LIST := int_at X G (fact c 40 (f := .int "NO_LIST" (-1)) rfl)
    c_NO_SUCH := int_at X G (fact c 41 (f := .int "NO_SUCH" (-2)) rfl)
    c_NO_LINE := int_at X G (fact c 42 (f := .int "NO_LINE" (-3)) rfl)
    c_NOT_RIGHT := int_at X G (fact c 43 (f := .int "NOT_RIGHT" (-4)) rfl)
    c_TOO_MANY := int_at X G (fact c 44 (f := .int "TOO_MANY" (-5)) rfl)
    kt_BLANKS := tup_ok t.1.1.1.1.1.1.1.1.1.1.1.1
    kt_MARGIN_CHUNKS := tup_ok t.1.1.1.1.1.1.1.1.1.1.1.2
    kt_GIVEN_0 := tup_ok t.1.1.1.1.1.1.1.1.1.1.2
    kt_GIVEN_1 := tup_ok t.1.1.1.1.1.1.1.1.1.2
    kt_GIVEN_2 := tup_ok t.1.1.1.1.1.1.1.1.2
    kt_GIVEN_3 := tup_ok t.1.1.1.1.1.1.1.2
    kt_GIVEN_4 := tup_ok t.1.1.1.1.1.1.2
    kt_GIVEN_5 := tup_ok t.1.1.1.1.1.2
    kt_GIVEN_6 := tup_ok t.1.1.1.1.2
    kt_GIVEN_7 := tup_ok t.1.1.1.2
    kt_GIVEN_8 := tup_ok t.1.1.2
    kt_GIVEN_9 := tup_ok t.1.2
    kt_GIVEN := tup_ok t.2
    g_Word := He.glo_ok X G (fact c 45 (f := .glo "Word") rfl)
    i_Word := ins_ok (He.cls_ok (fact c 51 (f := .cls "Word") rfl)) ii.1.1.1.1
    n_Word_chunk := He.noat_ok (fact c 53 (f := .noat "Word" "chunk") rfl)
    n_Word_letters := He.noat_ok (fact c 54 (f := .noat "Word" "letters") rfl)
    n_Word_gaps := He.noat_ok (fact c 55 (f := .noat "Word" "gaps") rfl)
    n_Word_key := He.noat_ok (fact c 56 (f := .noat "Word" "key") rfl)
    g_Pattern := He.glo_ok X G (fact c 46 (f := .glo "Pattern") rfl)
    i_Pattern := ins_ok (He.cls_ok (fact c 57 (f := .cls "Pattern") rfl)) ii.1.1.1.2
    n_Pattern_chunk := He.noat_ok (fact c 59 (f := .noat "Pattern" "chunk") rfl)
    n_Pattern_letters := He.noat_ok (fact c 60 (f := .noat "Pattern" "letters") rfl)
    n_Pattern_digits := He.noat_ok (fact c 61 (f := .noat "Pattern" "digits") rfl)
    n_Pattern_first := He.noat_ok (fact c 62 (f := .noat "Pattern" "first") rfl)
    n_Pattern_last := He.noat_ok (fact c 63 (f := .noat "Pattern" "last") rfl)
    n_Pattern_key := He.noat_ok (fact c 64 (f := .noat "Pattern" "key") rfl)
    g_Listing := He.glo_ok X G (fact c 47 (f := .glo "Listing") rfl)
    i_Listing := ins_ok (He.cls_ok (fact c 65 (f := .cls "Listing") rfl)) ii.1.1.2
    n_Listing_left := He.noat_ok (fact c 67 (f := .noat "Listing" "left") rfl)
    n_Listing_right := He.noat_ok (fact c 68 (f := .noat "Listing" "right") rfl)
    n_Listing_words := He.noat_ok (fact c 69 (f := .noat "Listing" "words") rfl)
    n_Listing_patterns := He.noat_ok (fact c 70 (f := .noat "Listing" "patterns") rfl)
    g_Reader := He.glo_ok X G (fact c 48 (f := .glo "Reader") rfl)
    i_Reader := ins_ok (He.cls_ok (fact c 71 (f := .cls "Reader") rfl)) ii.1.2
    n_Reader_tokens := He.noat_ok (fact c 73 (f := .noat "Reader" "tokens") rfl)
    n_Reader_reached := He.noat_ok (fact c 74 (f := .noat "Reader" "reached") rfl)
    g_Desk := He.glo_ok X G (fact c 49 (f := .glo "Desk") rfl)
    i_Desk := ins_ok (He.cls_ok (fact c 80 (f := .cls "Desk") rfl)) ii.2
    n_Desk_held := He.noat_ok (fact c 82 (f := .noat "Desk" "held") rfl)
    kit_Pattern := of_decide_eq_true kit
    flt := { gC := He.glo_ok X G (fact c 50 (f := .glo "Fault") rfl), cls := x, sa := He.eqO_ok x1, ga := He.eqO_ok x2, gg := He.eqO_ok x3, noC := He.eqO_ok x4, noP := He.eqO_ok x5, iC := He.eqO_ok x6, tC := of_decide_eq_true x7, kC := x8, exC := of_decide_eq_true x9, tyC := of_decide_eq_true x10, hdC := x11, te := of_decide_eq_true x12,
             fn := ⟨oc, od, doc, pm, an, cdv, ct, osl, _, _, _, _, _, _, _, _, _, _, _, lk, cd⟩ } }
theorem at_is_word_long (X : K.In h) (G : h.Ns mainGlobals mg) (s : seen K = true) (e : defsAt K) : ∃ fd, At K mg "is_word_long" s_is_word_long ["letters"] (ga K "is_word_long") fd := by
  obtain ⟨c, cc⟩ := He.ba (He.ba s).1
  obtain ⟨oc, od, osl, kV, doc, pm, an, cdv, ct, lk, cd⟩ := defd cc e 0 rfl
  have F : C8.Fun K "is_word_long" "is_word_long" s_is_word_long (ga K "is_word_long") _ := ⟨⟨oc, od, .none, kV, doc, pm, an, cdv, ct, osl, rfl, lk, cd⟩⟩
  exact ⟨_, F, He.glo_ok X G (fact c 83 (f := .glo "is_word_long") rfl), He.keep_ok (fact c 84 (f := .keep "is_word_long") rfl), F.binds rfl fun _ _ _ _ _ _ us hl => match us, hl with | [_], _ => rfl⟩
theorem at_word_of (X : K.In h) (G : h.Ns mainGlobals mg) (s : seen K = true) (e : defsAt K) : ∃ fd, At K mg "word_of" s_word_of ["chunk"] (ga K "word_of") fd := by
  obtain ⟨c, cc⟩ := He.ba (He.ba s).1
  obtain ⟨oc, od, osl, kV, doc, pm, an, cdv, ct, lk, cd⟩ := defd cc e 1 rfl
  have F : C8.Fun K "word_of" "word_of" s_word_of (ga K "word_of") _ := ⟨⟨oc, od, .none, kV, doc, pm, an, cdv, ct, osl, rfl, lk, cd⟩⟩
  exact ⟨_, F, He.glo_ok X G (fact c 85 (f := .glo "word_of") rfl), He.keep_ok (fact c 86 (f := .keep "word_of") rfl), F.binds rfl fun _ _ _ _ _ _ us hl => match us, hl with | [_], _ => rfl⟩
theorem at_without_points (X : K.In h) (G : h.Ns mainGlobals mg) (s : seen K = true) (e : defsAt K) : ∃ fd, At K mg "without_points" s_without_points ["chunk", "first", "last"] (ga K "without_points") fd := by
  obtain ⟨c, cc⟩ := He.ba (He.ba s).1
  obtain ⟨oc, od, osl, kV, doc, pm, an, cdv, ct, lk, cd⟩ := defd cc e 2 rfl
  have F : C8.Fun K "without_points" "without_points" s_without_points (ga K "without_points") _ := ⟨⟨oc, od, .none, kV, doc, pm, an, cdv, ct, osl, rfl, lk, cd⟩⟩
  exact ⟨_, F, He.glo_ok X G (fact c 87 (f := .glo "without_points") rfl), He.keep_ok (fact c 88 (f := .keep "without_points") rfl), F.binds rfl fun _ _ _ _ _ _ us hl => match us, hl with | [_, _, _], _ => rfl⟩
theorem at_pattern_of (X : K.In h) (G : h.Ns mainGlobals mg) (s : seen K = true) (e : defsAt K) : ∃ fd, At K mg "pattern_of" s_pattern_of ["chunk"] (ga K "pattern_of") fd := by
  obtain ⟨c, cc⟩ := He.ba (He.ba s).1
  obtain ⟨oc, od, osl, kV, doc, pm, an, cdv, ct, lk, cd⟩ := defd cc e 3 rfl
  have F : C8.Fun K "pattern_of" "pattern_of" s_pattern_of (ga K "pattern_of") _ := ⟨⟨oc, od, .none, kV, doc, pm, an, cdv, ct, osl, rfl, lk, cd⟩⟩
  exact ⟨_, F, He.glo_ok X G (fact c 89 (f := .glo "pattern_of") rfl), He.keep_ok (fact c 90 (f := .keep "pattern_of") rfl), F.binds rfl fun _ _ _ _ _ _ us hl => match us, hl with | [_], _ => rfl⟩
theorem at_number_of (X : K.In h) (G : h.Ns mainGlobals mg) (s : seen K = true) (e : defsAt K) : ∃ fd, At K mg "number_of" s_number_of ["entries", "key"] (ga K "number_of") fd := by
  obtain ⟨c, cc⟩ := He.ba (He.ba s).1
  obtain ⟨oc, od, osl, kV, doc, pm, an, cdv, ct, lk, cd⟩ := defd cc e 4 rfl
  have F : C8.Fun K "number_of" "number_of" s_number_of (ga K "number_of") _ := ⟨⟨oc, od, .none, kV, doc, pm, an, cdv, ct, osl, rfl, lk, cd⟩⟩
  exact ⟨_, F, He.glo_ok X G (fact c 91 (f := .glo "number_of") rfl), He.keep_ok (fact c 92 (f := .keep "number_of") rfl), F.binds rfl fun _ _ _ _ _ _ us hl => match us, hl with | [_, _], _ => rfl⟩
theorem at_one_form (X : K.In h) (G : h.Ns mainGlobals mg) (s : seen K = true) (e : defsAt K) : ∃ fd, At K mg "one_form" s_one_form ["listing"] (ga K "one_form") fd := by
  obtain ⟨c, cc⟩ := He.ba (He.ba s).1
  obtain ⟨oc, od, osl, kV, doc, pm, an, cdv, ct, lk, cd⟩ := defd cc e 5 rfl
  have F : C8.Fun K "one_form" "one_form" s_one_form (ga K "one_form") _ := ⟨⟨oc, od, .none, kV, doc, pm, an, cdv, ct, osl, rfl, lk, cd⟩⟩
  exact ⟨_, F, He.glo_ok X G (fact c 93 (f := .glo "one_form") rfl), He.keep_ok (fact c 94 (f := .keep "one_form") rfl), F.binds rfl fun _ _ _ _ _ _ us hl => match us, hl with | [_], _ => rfl⟩
theorem at_fits_at (X : K.In h) (G : h.Ns mainGlobals mg) (s : seen K = true) (e : defsAt K) : ∃ fd, At K mg "fits_at" s_fits_at ["pattern", "letters", "place"] (ga K "fits_at") fd := by
  obtain ⟨c, cc⟩ := He.ba (He.ba s).1
  obtain ⟨oc, od, osl, kV, doc, pm, an, cdv, ct, lk, cd⟩ := defd cc e 6 rfl
  have F : C8.Fun K "fits_at" "fits_at" s_fits_at (ga K "fits_at") _ := ⟨⟨oc, od, .none, kV, doc, pm, an, cdv, ct, osl, rfl, lk, cd⟩⟩
  exact ⟨_, F, He.glo_ok X G (fact c 95 (f := .glo "fits_at") rfl), He.keep_ok (fact c 96 (f := .keep "fits_at") rfl), F.binds rfl fun _ _ _ _ _ _ us hl => match us, hl with | [_, _, _], _ => rfl⟩
theorem at_fitting_places (X : K.In h) (G : h.Ns mainGlobals mg) (s : seen K = true) (e : defsAt K) : ∃ fd, At K mg "fitting_places" s_fitting_places ["pattern", "letters"] (ga K "fitting_places") fd := by
  obtain ⟨c, cc⟩ := He.ba (He.ba s).1
  obtain ⟨oc, od, osl, kV, doc, pm, an, cdv, ct, lk, cd⟩ := defd cc e 7 rfl
  have F : C8.Fun K "fitting_places" "fitting_places" s_fitting_places (ga K "fitting_places") _ := ⟨⟨oc, od, .none, kV, doc, pm, an, cdv, ct, osl, rfl, lk, cd⟩⟩
  exact ⟨_, F, He.glo_ok X G (fact c 97 (f := .glo "fitting_places") rfl), He.keep_ok (fact c 98 (f := .keep "fitting_places") rfl), F.binds rfl fun _ _ _ _ _ _ us hl => match us, hl with | [_, _], _ => rfl⟩
theorem at_fitting_patterns (X : K.In h) (G : h.Ns mainGlobals mg) (s : seen K = true) (e : defsAt K) : ∃ fd, At K mg "fitting_patterns" s_fitting_patterns ["patterns", "letters"] (ga K "fitting_patterns") fd := by
  obtain ⟨c, cc⟩ := He.ba (He.ba s).1
  obtain ⟨oc, od, osl, kV, doc, pm, an, cdv, ct, lk, cd⟩ := defd cc e 8 rfl
  have F : C8.Fun K "fitting_patterns" "fitting_patterns" s_fitting_patterns (ga K "fitting_patterns") _ := ⟨⟨oc, od, .none, kV, doc, pm, an, cdv, ct, osl, rfl, lk, cd⟩⟩
  exact ⟨_, F, He.glo_ok X G (fact c 99 (f := .glo "fitting_patterns") rfl), He.keep_ok (fact c 100 (f := .keep "fitting_patterns") rfl), F.binds rfl fun _ _ _ _ _ _ us hl => match us, hl with | [_, _], _ => rfl⟩
theorem at_levels (X : K.In h) (G : h.Ns mainGlobals mg) (s : seen K = true) (e : defsAt K) : ∃ fd, At K mg "levels" s_levels ["patterns", "letters"] (ga K "levels") fd := by
  obtain ⟨c, cc⟩ := He.ba (He.ba s).1
  obtain ⟨oc, od, osl, kV, doc, pm, an, cdv, ct, lk, cd⟩ := defd cc e 9 rfl
  have F : C8.Fun K "levels" "levels" s_levels (ga K "levels") _ := ⟨⟨oc, od, .none, kV, doc, pm, an, cdv, ct, osl, rfl, lk, cd⟩⟩
  exact ⟨_, F, He.glo_ok X G (fact c 101 (f := .glo "levels") rfl), He.keep_ok (fact c 102 (f := .keep "levels") rfl), F.binds rfl fun _ _ _ _ _ _ us hl => match us, hl with | [_, _], _ => rfl⟩
theorem at_greatest_level (X : K.In h) (G : h.Ns mainGlobals mg) (s : seen K = true) (e : defsAt K) : ∃ fd, At K mg "greatest_level" s_greatest_level ["patterns", "letters"] (ga K "greatest_level") fd := by
  obtain ⟨c, cc⟩ := He.ba (He.ba s).1
  obtain ⟨oc, od, osl, kV, doc, pm, an, cdv, ct, lk, cd⟩ := defd cc e 10 rfl
  have F : C8.Fun K "greatest_level" "greatest_level" s_greatest_level (ga K "greatest_level") _ := ⟨⟨oc, od, .none, kV, doc, pm, an, cdv, ct, osl, rfl, lk, cd⟩⟩
  exact ⟨_, F, He.glo_ok X G (fact c 103 (f := .glo "greatest_level") rfl), He.keep_ok (fact c 104 (f := .keep "greatest_level") rfl), F.binds rfl fun _ _ _ _ _ _ us hl => match us, hl with | [_, _], _ => rfl⟩
theorem at_odd_gaps (X : K.In h) (G : h.Ns mainGlobals mg) (s : seen K = true) (e : defsAt K) : ∃ fd, At K mg "odd_gaps" s_odd_gaps ["patterns", "letters"] (ga K "odd_gaps") fd := by
  obtain ⟨c, cc⟩ := He.ba (He.ba s).1
  obtain ⟨oc, od, osl, kV, doc, pm, an, cdv, ct, lk, cd⟩ := defd cc e 11 rfl
  have F : C8.Fun K "odd_gaps" "odd_gaps" s_odd_gaps (ga K "odd_gaps") _ := ⟨⟨oc, od, .none, kV, doc, pm, an, cdv, ct, osl, rfl, lk, cd⟩⟩
  exact ⟨_, F, He.glo_ok X G (fact c 105 (f := .glo "odd_gaps") rfl), He.keep_ok (fact c 106 (f := .keep "odd_gaps") rfl), F.binds rfl fun _ _ _ _ _ _ us hl => match us, hl with | [_, _], _ => rfl⟩
theorem at_within (X : K.In h) (G : h.Ns mainGlobals mg) (s : seen K = true) (e : defsAt K) : ∃ fd, At K mg "within" s_within ["gaps", "size", "left", "right"] (ga K "within") fd := by
  obtain ⟨c, cc⟩ := He.ba (He.ba s).1
  obtain ⟨oc, od, osl, kV, doc, pm, an, cdv, ct, lk, cd⟩ := defd cc e 12 rfl
  have F : C8.Fun K "within" "within" s_within (ga K "within") _ := ⟨⟨oc, od, .none, kV, doc, pm, an, cdv, ct, osl, rfl, lk, cd⟩⟩
  exact ⟨_, F, He.glo_ok X G (fact c 107 (f := .glo "within") rfl), He.keep_ok (fact c 108 (f := .keep "within") rfl), F.binds rfl fun _ _ _ _ _ _ us hl => match us, hl with | [_, _, _, _], _ => rfl⟩
theorem at_parted_gaps (X : K.In h) (G : h.Ns mainGlobals mg) (s : seen K = true) (e : defsAt K) : ∃ fd, At K mg "parted_gaps" s_parted_gaps ["listing", "letters"] (ga K "parted_gaps") fd := by
  obtain ⟨c, cc⟩ := He.ba (He.ba s).1
  obtain ⟨oc, od, osl, kV, doc, pm, an, cdv, ct, lk, cd⟩ := defd cc e 13 rfl
  have F : C8.Fun K "parted_gaps" "parted_gaps" s_parted_gaps (ga K "parted_gaps") _ := ⟨⟨oc, od, .none, kV, doc, pm, an, cdv, ct, osl, rfl, lk, cd⟩⟩
  exact ⟨_, F, He.glo_ok X G (fact c 109 (f := .glo "parted_gaps") rfl), He.keep_ok (fact c 110 (f := .keep "parted_gaps") rfl), F.binds rfl fun _ _ _ _ _ _ us hl => match us, hl with | [_, _], _ => rfl⟩
theorem at_held_against (X : K.In h) (G : h.Ns mainGlobals mg) (s : seen K = true) (e : defsAt K) : ∃ fd, At K mg "held_against" s_held_against ["word", "odd", "left", "right"] (ga K "held_against") fd := by
  obtain ⟨c, cc⟩ := He.ba (He.ba s).1
  obtain ⟨oc, od, osl, kV, doc, pm, an, cdv, ct, lk, cd⟩ := defd cc e 14 rfl
  have F : C8.Fun K "held_against" "held_against" s_held_against (ga K "held_against") _ := ⟨⟨oc, od, .none, kV, doc, pm, an, cdv, ct, osl, rfl, lk, cd⟩⟩
  exact ⟨_, F, He.glo_ok X G (fact c 111 (f := .glo "held_against") rfl), He.keep_ok (fact c 112 (f := .keep "held_against") rfl), F.binds rfl fun _ _ _ _ _ _ us hl => match us, hl with | [_, _, _, _], _ => rfl⟩
theorem at_wrongs (X : K.In h) (G : h.Ns mainGlobals mg) (s : seen K = true) (e : defsAt K) : ∃ fd, At K mg "wrongs" s_wrongs ["words", "odds", "left", "right"] (ga K "wrongs") fd := by
  obtain ⟨c, cc⟩ := He.ba (He.ba s).1
  obtain ⟨oc, od, osl, kV, doc, pm, an, cdv, ct, lk, cd⟩ := defd cc e 15 rfl
  have F : C8.Fun K "wrongs" "wrongs" s_wrongs (ga K "wrongs") _ := ⟨⟨oc, od, .none, kV, doc, pm, an, cdv, ct, osl, rfl, lk, cd⟩⟩
  exact ⟨_, F, He.glo_ok X G (fact c 113 (f := .glo "wrongs") rfl), He.keep_ok (fact c 114 (f := .keep "wrongs") rfl), F.binds rfl fun _ _ _ _ _ _ us hl => match us, hl with | [_, _, _, _], _ => rfl⟩
theorem at_tried_margins (X : K.In h) (G : h.Ns mainGlobals mg) (s : seen K = true) (e : defsAt K) : ∃ fd, At K mg "tried_margins" s_tried_margins ["listing"] (ga K "tried_margins") fd := by
  obtain ⟨c, cc⟩ := He.ba (He.ba s).1
  obtain ⟨oc, od, osl, kV, doc, pm, an, cdv, ct, lk, cd⟩ := defd cc e 16 rfl
  have F : C8.Fun K "tried_margins" "tried_margins" s_tried_margins (ga K "tried_margins") _ := ⟨⟨oc, od, .none, kV, doc, pm, an, cdv, ct, osl, rfl, lk, cd⟩⟩
  exact ⟨_, F, He.glo_ok X G (fact c 115 (f := .glo "tried_margins") rfl), He.keep_ok (fact c 116 (f := .keep "tried_margins") rfl), F.binds rfl fun _ _ _ _ _ _ us hl => match us, hl with | [_], _ => rfl⟩
theorem at_with_entry (X : K.In h) (G : h.Ns mainGlobals mg) (s : seen K = true) (e : defsAt K) : ∃ fd, At K mg "with_entry" s_with_entry ["entries", "entry"] (ga K "with_entry") fd := by
  obtain ⟨c, cc⟩ := He.ba (He.ba s).1
  obtain ⟨oc, od, osl, kV, doc, pm, an, cdv, ct, lk, cd⟩ := defd cc e 17 rfl
  have F : C8.Fun K "with_entry" "with_entry" s_with_entry (ga K "with_entry") _ := ⟨⟨oc, od, .none, kV, doc, pm, an, cdv, ct, osl, rfl, lk, cd⟩⟩
  exact ⟨_, F, He.glo_ok X G (fact c 117 (f := .glo "with_entry") rfl), He.keep_ok (fact c 118 (f := .keep "with_entry") rfl), F.binds rfl fun _ _ _ _ _ _ us hl => match us, hl with | [_, _], _ => rfl⟩
theorem at_with_item (X : K.In h) (G : h.Ns mainGlobals mg) (s : seen K = true) (e : defsAt K) : ∃ fd, At K mg "with_item" s_with_item ["listing", "item"] (ga K "with_item") fd := by
  obtain ⟨c, cc⟩ := He.ba (He.ba s).1
  obtain ⟨oc, od, osl, kV, doc, pm, an, cdv, ct, lk, cd⟩ := defd cc e 18 rfl
  have F : C8.Fun K "with_item" "with_item" s_with_item (ga K "with_item") _ := ⟨⟨oc, od, .none, kV, doc, pm, an, cdv, ct, osl, rfl, lk, cd⟩⟩
  exact ⟨_, F, He.glo_ok X G (fact c 119 (f := .glo "with_item") rfl), He.keep_ok (fact c 120 (f := .keep "with_item") rfl), F.binds rfl fun _ _ _ _ _ _ us hl => match us, hl with | [_, _], _ => rfl⟩
theorem at_without_entry (X : K.In h) (G : h.Ns mainGlobals mg) (s : seen K = true) (e : defsAt K) : ∃ fd, At K mg "without_entry" s_without_entry ["entries", "number"] (ga K "without_entry") fd := by
  obtain ⟨c, cc⟩ := He.ba (He.ba s).1
  obtain ⟨oc, od, osl, kV, doc, pm, an, cdv, ct, lk, cd⟩ := defd cc e 19 rfl
  have F : C8.Fun K "without_entry" "without_entry" s_without_entry (ga K "without_entry") _ := ⟨⟨oc, od, .none, kV, doc, pm, an, cdv, ct, osl, rfl, lk, cd⟩⟩
  exact ⟨_, F, He.glo_ok X G (fact c 121 (f := .glo "without_entry") rfl), He.keep_ok (fact c 122 (f := .keep "without_entry") rfl), F.binds rfl fun _ _ _ _ _ _ us hl => match us, hl with | [_, _], _ => rfl⟩
theorem at_without_word (X : K.In h) (G : h.Ns mainGlobals mg) (s : seen K = true) (e : defsAt K) : ∃ fd, At K mg "without_word" s_without_word ["listing", "number"] (ga K "without_word") fd := by
  obtain ⟨c, cc⟩ := He.ba (He.ba s).1
  obtain ⟨oc, od, osl, kV, doc, pm, an, cdv, ct, lk, cd⟩ := defd cc e 20 rfl
  have F : C8.Fun K "without_word" "without_word" s_without_word (ga K "without_word") _ := ⟨⟨oc, od, .none, kV, doc, pm, an, cdv, ct, osl, rfl, lk, cd⟩⟩
  exact ⟨_, F, He.glo_ok X G (fact c 123 (f := .glo "without_word") rfl), He.keep_ok (fact c 124 (f := .keep "without_word") rfl), F.binds rfl fun _ _ _ _ _ _ us hl => match us, hl with | [_, _], _ => rfl⟩
theorem at_without_pattern (X : K.In h) (G : h.Ns mainGlobals mg) (s : seen K = true) (e : defsAt K) : ∃ fd, At K mg "without_pattern" s_without_pattern ["listing", "number"] (ga K "without_pattern") fd := by
  obtain ⟨c, cc⟩ := He.ba (He.ba s).1
  obtain ⟨oc, od, osl, kV, doc, pm, an, cdv, ct, lk, cd⟩ := defd cc e 21 rfl
  have F : C8.Fun K "without_pattern" "without_pattern" s_without_pattern (ga K "without_pattern") _ := ⟨⟨oc, od, .none, kV, doc, pm, an, cdv, ct, osl, rfl, lk, cd⟩⟩
  exact ⟨_, F, He.glo_ok X G (fact c 125 (f := .glo "without_pattern") rfl), He.keep_ok (fact c 126 (f := .keep "without_pattern") rfl), F.binds rfl fun _ _ _ _ _ _ us hl => match us, hl with | [_, _], _ => rfl⟩
theorem at_is_too_long (X : K.In h) (G : h.Ns mainGlobals mg) (s : seen K = true) (e : defsAt K) : ∃ fd, At K mg "is_too_long" s_is_too_long ["listing"] (ga K "is_too_long") fd := by
  obtain ⟨c, cc⟩ := He.ba (He.ba s).1
  obtain ⟨oc, od, osl, kV, doc, pm, an, cdv, ct, lk, cd⟩ := defd cc e 22 rfl
  have F : C8.Fun K "is_too_long" "is_too_long" s_is_too_long (ga K "is_too_long") _ := ⟨⟨oc, od, .none, kV, doc, pm, an, cdv, ct, osl, rfl, lk, cd⟩⟩
  exact ⟨_, F, He.glo_ok X G (fact c 127 (f := .glo "is_too_long") rfl), He.keep_ok (fact c 128 (f := .keep "is_too_long") rfl), F.binds rfl fun _ _ _ _ _ _ us hl => match us, hl with | [_], _ => rfl⟩
theorem at_is_touched (X : K.In h) (G : h.Ns mainGlobals mg) (s : seen K = true) (e : defsAt K) : ∃ fd, At K mg "is_touched" s_is_touched ["word", "before", "after"] (ga K "is_touched") fd := by
  obtain ⟨c, cc⟩ := He.ba (He.ba s).1
  obtain ⟨oc, od, osl, kV, doc, pm, an, cdv, ct, lk, cd⟩ := defd cc e 23 rfl
  have F : C8.Fun K "is_touched" "is_touched" s_is_touched (ga K "is_touched") _ := ⟨⟨oc, od, .none, kV, doc, pm, an, cdv, ct, osl, rfl, lk, cd⟩⟩
  exact ⟨_, F, He.glo_ok X G (fact c 129 (f := .glo "is_touched") rfl), He.keep_ok (fact c 130 (f := .keep "is_touched") rfl), F.binds rfl fun _ _ _ _ _ _ us hl => match us, hl with | [_, _, _], _ => rfl⟩
theorem at_touched (X : K.In h) (G : h.Ns mainGlobals mg) (s : seen K = true) (e : defsAt K) : ∃ fd, At K mg "touched" s_touched ["before", "after"] (ga K "touched") fd := by
  obtain ⟨c, cc⟩ := He.ba (He.ba s).1
  obtain ⟨oc, od, osl, kV, doc, pm, an, cdv, ct, lk, cd⟩ := defd cc e 24 rfl
  have F : C8.Fun K "touched" "touched" s_touched (ga K "touched") _ := ⟨⟨oc, od, .none, kV, doc, pm, an, cdv, ct, osl, rfl, lk, cd⟩⟩
  exact ⟨_, F, He.glo_ok X G (fact c 131 (f := .glo "touched") rfl), He.keep_ok (fact c 132 (f := .keep "touched") rfl), F.binds rfl fun _ _ _ _ _ _ us hl => match us, hl with | [_, _], _ => rfl⟩
theorem at_is_listed (X : K.In h) (G : h.Ns mainGlobals mg) (s : seen K = true) (e : defsAt K) : ∃ fd, At K mg "is_listed" s_is_listed ["words", "letters"] (ga K "is_listed") fd := by
  obtain ⟨c, cc⟩ := He.ba (He.ba s).1
  obtain ⟨oc, od, osl, kV, doc, pm, an, cdv, ct, lk, cd⟩ := defd cc e 25 rfl
  have F : C8.Fun K "is_listed" "is_listed" s_is_listed (ga K "is_listed") _ := ⟨⟨oc, od, .none, kV, doc, pm, an, cdv, ct, osl, rfl, lk, cd⟩⟩
  exact ⟨_, F, He.glo_ok X G (fact c 133 (f := .glo "is_listed") rfl), He.keep_ok (fact c 134 (f := .keep "is_listed") rfl), F.binds rfl fun _ _ _ _ _ _ us hl => match us, hl with | [_, _], _ => rfl⟩
theorem at_joints (X : K.In h) (G : h.Ns mainGlobals mg) (s : seen K = true) (e : defsAt K) : ∃ fd, At K mg "joints" s_joints ["words", "letters"] (ga K "joints") fd := by
  obtain ⟨c, cc⟩ := He.ba (He.ba s).1
  obtain ⟨oc, od, osl, kV, doc, pm, an, cdv, ct, lk, cd⟩ := defd cc e 26 rfl
  have F : C8.Fun K "joints" "joints" s_joints (ga K "joints") _ := ⟨⟨oc, od, .none, kV, doc, pm, an, cdv, ct, osl, rfl, lk, cd⟩⟩
  exact ⟨_, F, He.glo_ok X G (fact c 135 (f := .glo "joints") rfl), He.keep_ok (fact c 136 (f := .keep "joints") rfl), F.binds rfl fun _ _ _ _ _ _ us hl => match us, hl with | [_, _], _ => rfl⟩
theorem at_parted_as_two (X : K.In h) (G : h.Ns mainGlobals mg) (s : seen K = true) (e : defsAt K) : ∃ fd, At K mg "parted_as_two" s_parted_as_two ["listing", "letters", "gap"] (ga K "parted_as_two") fd := by
  obtain ⟨c, cc⟩ := He.ba (He.ba s).1
  obtain ⟨oc, od, osl, kV, doc, pm, an, cdv, ct, lk, cd⟩ := defd cc e 27 rfl
  have F : C8.Fun K "parted_as_two" "parted_as_two" s_parted_as_two (ga K "parted_as_two") _ := ⟨⟨oc, od, .none, kV, doc, pm, an, cdv, ct, osl, rfl, lk, cd⟩⟩
  exact ⟨_, F, He.glo_ok X G (fact c 137 (f := .glo "parted_as_two") rfl), He.keep_ok (fact c 138 (f := .keep "parted_as_two") rfl), F.binds rfl fun _ _ _ _ _ _ us hl => match us, hl with | [_, _, _], _ => rfl⟩
theorem at_breaking_gaps (X : K.In h) (G : h.Ns mainGlobals mg) (s : seen K = true) (e : defsAt K) : ∃ fd, At K mg "breaking_gaps" s_breaking_gaps ["listing", "letters", "places"] (ga K "breaking_gaps") fd := by
  obtain ⟨c, cc⟩ := He.ba (He.ba s).1
  obtain ⟨oc, od, osl, kV, doc, pm, an, cdv, ct, lk, cd⟩ := defd cc e 28 rfl
  have F : C8.Fun K "breaking_gaps" "breaking_gaps" s_breaking_gaps (ga K "breaking_gaps") _ := ⟨⟨oc, od, .none, kV, doc, pm, an, cdv, ct, osl, rfl, lk, cd⟩⟩
  exact ⟨_, F, He.glo_ok X G (fact c 139 (f := .glo "breaking_gaps") rfl), He.keep_ok (fact c 140 (f := .keep "breaking_gaps") rfl), F.binds rfl fun _ _ _ _ _ _ us hl => match us, hl with | [_, _, _], _ => rfl⟩
theorem at_chunk_sign (X : K.In h) (G : h.Ns mainGlobals mg) (s : seen K = true) (e : defsAt K) : ∃ fd, At K mg "chunk_sign" s_chunk_sign ["byte"] (ga K "chunk_sign") fd := by
  obtain ⟨c, cc⟩ := He.ba (He.ba s).1
  obtain ⟨oc, od, osl, kV, doc, pm, an, cdv, ct, lk, cd⟩ := defd cc e 29 rfl
  have F : C8.Fun K "chunk_sign" "chunk_sign" s_chunk_sign (ga K "chunk_sign") _ := ⟨⟨oc, od, .none, kV, doc, pm, an, cdv, ct, osl, rfl, lk, cd⟩⟩
  exact ⟨_, F, He.glo_ok X G (fact c 141 (f := .glo "chunk_sign") rfl), He.keep_ok (fact c 142 (f := .keep "chunk_sign") rfl), F.binds rfl fun _ _ _ _ _ _ us hl => match us, hl with | [_], _ => rfl⟩
theorem at_after_remark (X : K.In h) (G : h.Ns mainGlobals mg) (s : seen K = true) (e : defsAt K) : ∃ fd, At K mg "after_remark" s_after_remark ["text", "place"] (ga K "after_remark") fd := by
  obtain ⟨c, cc⟩ := He.ba (He.ba s).1
  obtain ⟨oc, od, osl, kV, doc, pm, an, cdv, ct, lk, cd⟩ := defd cc e 30 rfl
  have F : C8.Fun K "after_remark" "after_remark" s_after_remark (ga K "after_remark") _ := ⟨⟨oc, od, .none, kV, doc, pm, an, cdv, ct, osl, rfl, lk, cd⟩⟩
  exact ⟨_, F, He.glo_ok X G (fact c 143 (f := .glo "after_remark") rfl), He.keep_ok (fact c 144 (f := .keep "after_remark") rfl), F.binds rfl fun _ _ _ _ _ _ us hl => match us, hl with | [_, _], _ => rfl⟩
theorem at_after_blanks (X : K.In h) (G : h.Ns mainGlobals mg) (s : seen K = true) (e : defsAt K) : ∃ fd, At K mg "after_blanks" s_after_blanks ["text", "place"] (ga K "after_blanks") fd := by
  obtain ⟨c, cc⟩ := He.ba (He.ba s).1
  obtain ⟨oc, od, osl, kV, doc, pm, an, cdv, ct, lk, cd⟩ := defd cc e 31 rfl
  have F : C8.Fun K "after_blanks" "after_blanks" s_after_blanks (ga K "after_blanks") _ := ⟨⟨oc, od, .none, kV, doc, pm, an, cdv, ct, osl, rfl, lk, cd⟩⟩
  exact ⟨_, F, He.glo_ok X G (fact c 145 (f := .glo "after_blanks") rfl), He.keep_ok (fact c 146 (f := .keep "after_blanks") rfl), F.binds rfl fun _ _ _ _ _ _ us hl => match us, hl with | [_, _], _ => rfl⟩
theorem at_chunk_at (X : K.In h) (G : h.Ns mainGlobals mg) (s : seen K = true) (e : defsAt K) : ∃ fd, At K mg "chunk_at" s_chunk_at ["text", "place"] (ga K "chunk_at") fd := by
  obtain ⟨c, cc⟩ := He.ba (He.ba s).1
  obtain ⟨oc, od, osl, kV, doc, pm, an, cdv, ct, lk, cd⟩ := defd cc e 32 rfl
  have F : C8.Fun K "chunk_at" "chunk_at" s_chunk_at (ga K "chunk_at") _ := ⟨⟨oc, od, .none, kV, doc, pm, an, cdv, ct, osl, rfl, lk, cd⟩⟩
  exact ⟨_, F, He.glo_ok X G (fact c 147 (f := .glo "chunk_at") rfl), He.keep_ok (fact c 148 (f := .keep "chunk_at") rfl), F.binds rfl fun _ _ _ _ _ _ us hl => match us, hl with | [_, _], _ => rfl⟩
theorem at_token_at (X : K.In h) (G : h.Ns mainGlobals mg) (s : seen K = true) (e : defsAt K) : ∃ fd, At K mg "token_at" s_token_at ["text", "place"] (ga K "token_at") fd := by
  obtain ⟨c, cc⟩ := He.ba (He.ba s).1
  obtain ⟨oc, od, osl, kV, doc, pm, an, cdv, ct, lk, cd⟩ := defd cc e 33 rfl
  have F : C8.Fun K "token_at" "token_at" s_token_at (ga K "token_at") _ := ⟨⟨oc, od, .none, kV, doc, pm, an, cdv, ct, osl, rfl, lk, cd⟩⟩
  exact ⟨_, F, He.glo_ok X G (fact c 149 (f := .glo "token_at") rfl), He.keep_ok (fact c 150 (f := .keep "token_at") rfl), F.binds rfl fun _ _ _ _ _ _ us hl => match us, hl with | [_, _], _ => rfl⟩
theorem at_tokens_of (X : K.In h) (G : h.Ns mainGlobals mg) (s : seen K = true) (e : defsAt K) : ∃ fd, At K mg "tokens_of" s_tokens_of ["text"] (ga K "tokens_of") fd := by
  obtain ⟨c, cc⟩ := He.ba (He.ba s).1
  obtain ⟨oc, od, osl, kV, doc, pm, an, cdv, ct, lk, cd⟩ := defd cc e 34 rfl
  have F : C8.Fun K "tokens_of" "tokens_of" s_tokens_of (ga K "tokens_of") _ := ⟨⟨oc, od, .none, kV, doc, pm, an, cdv, ct, osl, rfl, lk, cd⟩⟩
  exact ⟨_, F, He.glo_ok X G (fact c 151 (f := .glo "tokens_of") rfl), He.keep_ok (fact c 152 (f := .keep "tokens_of") rfl), F.binds rfl fun _ _ _ _ _ _ us hl => match us, hl with | [_], _ => rfl⟩
theorem at_read_margin (X : K.In h) (G : h.Ns mainGlobals mg) (s : seen K = true) (e : defsAt K) : ∃ fd, At K mg "read_margin" s_read_margin ["reader"] (ga K "read_margin") fd := by
  obtain ⟨c, cc⟩ := He.ba (He.ba s).1
  obtain ⟨oc, od, osl, kV, doc, pm, an, cdv, ct, lk, cd⟩ := defd cc e 35 rfl
  have F : C8.Fun K "read_margin" "read_margin" s_read_margin (ga K "read_margin") _ := ⟨⟨oc, od, .none, kV, doc, pm, an, cdv, ct, osl, rfl, lk, cd⟩⟩
  exact ⟨_, F, He.glo_ok X G (fact c 153 (f := .glo "read_margin") rfl), He.keep_ok (fact c 154 (f := .keep "read_margin") rfl), F.binds rfl fun _ _ _ _ _ _ us hl => match us, hl with | [_], _ => rfl⟩
theorem at_read_entry (X : K.In h) (G : h.Ns mainGlobals mg) (s : seen K = true) (e : defsAt K) : ∃ fd, At K mg "read_entry" s_read_entry ["reader", "name", "made_of", "earlier"] (ga K "read_entry") fd := by
  obtain ⟨c, cc⟩ := He.ba (He.ba s).1
  obtain ⟨oc, od, osl, kV, doc, pm, an, cdv, ct, lk, cd⟩ := defd cc e 36 rfl
  have F : C8.Fun K "read_entry" "read_entry" s_read_entry (ga K "read_entry") _ := ⟨⟨oc, od, .none, kV, doc, pm, an, cdv, ct, osl, rfl, lk, cd⟩⟩
  exact ⟨_, F, He.glo_ok X G (fact c 155 (f := .glo "read_entry") rfl), He.keep_ok (fact c 156 (f := .keep "read_entry") rfl), F.binds rfl fun _ _ _ _ _ _ us hl => match us, hl with | [_, _, _, _], _ => rfl⟩
theorem at_read_entries (X : K.In h) (G : h.Ns mainGlobals mg) (s : seen K = true) (e : defsAt K) : ∃ fd, At K mg "read_entries" s_read_entries ["reader", "name", "made_of", "most"] (ga K "read_entries") fd := by
  obtain ⟨c, cc⟩ := He.ba (He.ba s).1
  obtain ⟨oc, od, osl, kV, doc, pm, an, cdv, ct, lk, cd⟩ := defd cc e 37 rfl
  have F : C8.Fun K "read_entries" "read_entries" s_read_entries (ga K "read_entries") _ := ⟨⟨oc, od, .none, kV, doc, pm, an, cdv, ct, osl, rfl, lk, cd⟩⟩
  exact ⟨_, F, He.glo_ok X G (fact c 157 (f := .glo "read_entries") rfl), He.keep_ok (fact c 158 (f := .keep "read_entries") rfl), F.binds rfl fun _ _ _ _ _ _ us hl => match us, hl with | [_, _, _, _], _ => rfl⟩
theorem at_read_list (X : K.In h) (G : h.Ns mainGlobals mg) (s : seen K = true) (e : defsAt K) : ∃ fd, At K mg "read_list" s_read_list ["text"] (ga K "read_list") fd := by
  obtain ⟨c, cc⟩ := He.ba (He.ba s).1
  obtain ⟨oc, od, osl, kV, doc, pm, an, cdv, ct, lk, cd⟩ := defd cc e 38 rfl
  have F : C8.Fun K "read_list" "read_list" s_read_list (ga K "read_list") _ := ⟨⟨oc, od, .none, kV, doc, pm, an, cdv, ct, osl, rfl, lk, cd⟩⟩
  exact ⟨_, F, He.glo_ok X G (fact c 159 (f := .glo "read_list") rfl), He.keep_ok (fact c 160 (f := .keep "read_list") rfl), F.binds rfl fun _ _ _ _ _ _ us hl => match us, hl with | [_], _ => rfl⟩
theorem at_read_item (X : K.In h) (G : h.Ns mainGlobals mg) (s : seen K = true) (e : defsAt K) : ∃ fd, At K mg "read_item" s_read_item ["text"] (ga K "read_item") fd := by
  obtain ⟨c, cc⟩ := He.ba (He.ba s).1
  obtain ⟨oc, od, osl, kV, doc, pm, an, cdv, ct, lk, cd⟩ := defd cc e 39 rfl
  have F : C8.Fun K "read_item" "read_item" s_read_item (ga K "read_item") _ := ⟨⟨oc, od, .none, kV, doc, pm, an, cdv, ct, osl, rfl, lk, cd⟩⟩
  exact ⟨_, F, He.glo_ok X G (fact c 161 (f := .glo "read_item") rfl), He.keep_ok (fact c 162 (f := .keep "read_item") rfl), F.binds rfl fun _ _ _ _ _ _ us hl => match us, hl with | [_], _ => rfl⟩
theorem at_read_letters (X : K.In h) (G : h.Ns mainGlobals mg) (s : seen K = true) (e : defsAt K) : ∃ fd, At K mg "read_letters" s_read_letters ["row"] (ga K "read_letters") fd := by
  obtain ⟨c, cc⟩ := He.ba (He.ba s).1
  obtain ⟨oc, od, osl, kV, doc, pm, an, cdv, ct, lk, cd⟩ := defd cc e 40 rfl
  have F : C8.Fun K "read_letters" "read_letters" s_read_letters (ga K "read_letters") _ := ⟨⟨oc, od, .none, kV, doc, pm, an, cdv, ct, osl, rfl, lk, cd⟩⟩
  exact ⟨_, F, He.glo_ok X G (fact c 163 (f := .glo "read_letters") rfl), He.keep_ok (fact c 164 (f := .keep "read_letters") rfl), F.binds rfl fun _ _ _ _ _ _ us hl => match us, hl with | [_], _ => rfl⟩
theorem at_partings (X : K.In h) (G : h.Ns mainGlobals mg) (s : seen K = true) (e : defsAt K) : ∃ fd, At K mg "partings" s_partings ["listing"] (ga K "partings") fd := by
  obtain ⟨c, cc⟩ := He.ba (He.ba s).1
  obtain ⟨oc, od, osl, kV, doc, pm, an, cdv, ct, lk, cd⟩ := defd cc e 41 rfl
  have F : C8.Fun K "partings" "partings" s_partings (ga K "partings") _ := ⟨⟨oc, od, .none, kV, doc, pm, an, cdv, ct, osl, rfl, lk, cd⟩⟩
  exact ⟨_, F, He.glo_ok X G (fact c 165 (f := .glo "partings") rfl), He.keep_ok (fact c 166 (f := .keep "partings") rfl), F.binds rfl fun _ _ _ _ _ _ us hl => match us, hl with | [_], _ => rfl⟩
theorem at_needless_patterns (X : K.In h) (G : h.Ns mainGlobals mg) (s : seen K = true) (e : defsAt K) : ∃ fd, At K mg "needless_patterns" s_needless_patterns ["listing"] (ga K "needless_patterns") fd := by
  obtain ⟨c, cc⟩ := He.ba (He.ba s).1
  obtain ⟨oc, od, osl, kV, doc, pm, an, cdv, ct, lk, cd⟩ := defd cc e 42 rfl
  have F : C8.Fun K "needless_patterns" "needless_patterns" s_needless_patterns (ga K "needless_patterns") _ := ⟨⟨oc, od, .none, kV, doc, pm, an, cdv, ct, osl, rfl, lk, cd⟩⟩
  exact ⟨_, F, He.glo_ok X G (fact c 167 (f := .glo "needless_patterns") rfl), He.keep_ok (fact c 168 (f := .keep "needless_patterns") rfl), F.binds rfl fun _ _ _ _ _ _ us hl => match us, hl with | [_], _ => rfl⟩
theorem at_gone_through (X : K.In h) (G : h.Ns mainGlobals mg) (s : seen K = true) (e : defsAt K) : ∃ fd, At K mg "gone_through" s_gone_through ["listing", "parted"] (ga K "gone_through") fd := by
  obtain ⟨c, cc⟩ := He.ba (He.ba s).1
  obtain ⟨oc, od, osl, kV, doc, pm, an, cdv, ct, lk, cd⟩ := defd cc e 43 rfl
  have F : C8.Fun K "gone_through" "gone_through" s_gone_through (ga K "gone_through") _ := ⟨⟨oc, od, .none, kV, doc, pm, an, cdv, ct, osl, rfl, lk, cd⟩⟩
  exact ⟨_, F, He.glo_ok X G (fact c 169 (f := .glo "gone_through") rfl), He.keep_ok (fact c 170 (f := .keep "gone_through") rfl), F.binds rfl fun _ _ _ _ _ _ us hl => match us, hl with | [_, _], _ => rfl⟩
theorem at_slimmed (X : K.In h) (G : h.Ns mainGlobals mg) (s : seen K = true) (e : defsAt K) : ∃ fd, At K mg "slimmed" s_slimmed ["listing"] (ga K "slimmed") fd := by
  obtain ⟨c, cc⟩ := He.ba (He.ba s).1
  obtain ⟨oc, od, osl, kV, doc, pm, an, cdv, ct, lk, cd⟩ := defd cc e 44 rfl
  have F : C8.Fun K "slimmed" "slimmed" s_slimmed (ga K "slimmed") _ := ⟨⟨oc, od, .none, kV, doc, pm, an, cdv, ct, osl, rfl, lk, cd⟩⟩
  exact ⟨_, F, He.glo_ok X G (fact c 171 (f := .glo "slimmed") rfl), He.keep_ok (fact c 172 (f := .keep "slimmed") rfl), F.binds rfl fun _ _ _ _ _ _ us hl => match us, hl with | [_], _ => rfl⟩
theorem at_counted (X : K.In h) (G : h.Ns mainGlobals mg) (s : seen K = true) (e : defsAt K) : ∃ fd, At K mg "counted" s_counted ["numbers"] (ga K "counted") fd := by
  obtain ⟨c, cc⟩ := He.ba (He.ba s).1
  obtain ⟨oc, od, osl, kV, doc, pm, an, cdv, ct, lk, cd⟩ := defd cc e 45 rfl
  have F : C8.Fun K "counted" "counted" s_counted (ga K "counted") _ := ⟨⟨oc, od, .none, kV, doc, pm, an, cdv, ct, osl, rfl, lk, cd⟩⟩
  exact ⟨_, F, He.glo_ok X G (fact c 173 (f := .glo "counted") rfl), He.keep_ok (fact c 174 (f := .keep "counted") rfl), F.binds rfl fun _ _ _ _ _ _ us hl => match us, hl with | [_], _ => rfl⟩
theorem at_load (X : K.In h) (G : h.Ns mainGlobals mg) (s : seen K = true) (e : defsAt K) : ∃ fd, At K mg "load" s_load ["desk", "text"] (ga K "load") fd := by
  obtain ⟨c, cc⟩ := He.ba (He.ba s).1
  obtain ⟨oc, od, osl, kV, doc, pm, an, cdv, ct, lk, cd⟩ := defd cc e 46 rfl
  have F : C8.Fun K "load" "load" s_load (ga K "load") _ := ⟨⟨oc, od, .none, kV, doc, pm, an, cdv, ct, osl, rfl, lk, cd⟩⟩
  exact ⟨_, F, He.glo_ok X G (fact c 175 (f := .glo "load") rfl), He.keep_ok (fact c 176 (f := .keep "load") rfl), F.binds rfl fun _ _ _ _ _ _ us hl => match us, hl with | [_, _], _ => rfl⟩
theorem at_shown (X : K.In h) (G : h.Ns mainGlobals mg) (s : seen K = true) (e : defsAt K) : ∃ fd, At K mg "shown" s_shown ["listing"] (ga K "shown") fd := by
  obtain ⟨c, cc⟩ := He.ba (He.ba s).1
  obtain ⟨oc, od, osl, kV, doc, pm, an, cdv, ct, lk, cd⟩ := defd cc e 47 rfl
  have F : C8.Fun K "shown" "shown" s_shown (ga K "shown") _ := ⟨⟨oc, od, .none, kV, doc, pm, an, cdv, ct, osl, rfl, lk, cd⟩⟩
  exact ⟨_, F, He.glo_ok X G (fact c 177 (f := .glo "shown") rfl), He.keep_ok (fact c 178 (f := .keep "shown") rfl), F.binds rfl fun _ _ _ _ _ _ us hl => match us, hl with | [_], _ => rfl⟩
theorem at_has_number (X : K.In h) (G : h.Ns mainGlobals mg) (s : seen K = true) (e : defsAt K) : ∃ fd, At K mg "has_number" s_has_number ["entries", "number"] (ga K "has_number") fd := by
  obtain ⟨c, cc⟩ := He.ba (He.ba s).1
  obtain ⟨oc, od, osl, kV, doc, pm, an, cdv, ct, lk, cd⟩ := defd cc e 48 rfl
  have F : C8.Fun K "has_number" "has_number" s_has_number (ga K "has_number") _ := ⟨⟨oc, od, .none, kV, doc, pm, an, cdv, ct, osl, rfl, lk, cd⟩⟩
  exact ⟨_, F, He.glo_ok X G (fact c 179 (f := .glo "has_number") rfl), He.keep_ok (fact c 180 (f := .keep "has_number") rfl), F.binds rfl fun _ _ _ _ _ _ us hl => match us, hl with | [_, _], _ => rfl⟩
theorem at_report (X : K.In h) (G : h.Ns mainGlobals mg) (s : seen K = true) (e : defsAt K) : ∃ fd, At K mg "report" s_report ["listing", "number"] (ga K "report") fd := by
  obtain ⟨c, cc⟩ := He.ba (He.ba s).1
  obtain ⟨oc, od, osl, kV, doc, pm, an, cdv, ct, lk, cd⟩ := defd cc e 49 rfl
  have F : C8.Fun K "report" "report" s_report (ga K "report") _ := ⟨⟨oc, od, .none, kV, doc, pm, an, cdv, ct, osl, rfl, lk, cd⟩⟩
  exact ⟨_, F, He.glo_ok X G (fact c 181 (f := .glo "report") rfl), He.keep_ok (fact c 182 (f := .keep "report") rfl), F.binds rfl fun _ _ _ _ _ _ us hl => match us, hl with | [_, _], _ => rfl⟩
theorem at_become (X : K.In h) (G : h.Ns mainGlobals mg) (s : seen K = true) (e : defsAt K) : ∃ fd, At K mg "become" s_become ["desk", "changed"] (ga K "become") fd := by
  obtain ⟨c, cc⟩ := He.ba (He.ba s).1
  obtain ⟨oc, od, osl, kV, doc, pm, an, cdv, ct, lk, cd⟩ := defd cc e 50 rfl
  have F : C8.Fun K "become" "become" s_become (ga K "become") _ := ⟨⟨oc, od, .none, kV, doc, pm, an, cdv, ct, osl, rfl, lk, cd⟩⟩
  exact ⟨_, F, He.glo_ok X G (fact c 183 (f := .glo "become") rfl), He.keep_ok (fact c 184 (f := .keep "become") rfl), F.binds rfl fun _ _ _ _ _ _ us hl => match us, hl with | [_, _], _ => rfl⟩
theorem at_put (X : K.In h) (G : h.Ns mainGlobals mg) (s : seen K = true) (e : defsAt K) : ∃ fd, At K mg "put" s_put ["desk", "text"] (ga K "put") fd := by
  obtain ⟨c, cc⟩ := He.ba (He.ba s).1
  obtain ⟨oc, od, osl, kV, doc, pm, an, cdv, ct, lk, cd⟩ := defd cc e 51 rfl
  have F : C8.Fun K "put" "put" s_put (ga K "put") _ := ⟨⟨oc, od, .none, kV, doc, pm, an, cdv, ct, osl, rfl, lk, cd⟩⟩
  exact ⟨_, F, He.glo_ok X G (fact c 185 (f := .glo "put") rfl), He.keep_ok (fact c 186 (f := .keep "put") rfl), F.binds rfl fun _ _ _ _ _ _ us hl => match us, hl with | [_, _], _ => rfl⟩
theorem at_drop (X : K.In h) (G : h.Ns mainGlobals mg) (s : seen K = true) (e : defsAt K) : ∃ fd, At K mg "drop" s_drop ["desk", "kind", "number"] (ga K "drop") fd := by
  obtain ⟨c, cc⟩ := He.ba (He.ba s).1
  obtain ⟨oc, od, osl, kV, doc, pm, an, cdv, ct, lk, cd⟩ := defd cc e 52 rfl
  have F : C8.Fun K "drop" "drop" s_drop (ga K "drop") _ := ⟨⟨oc, od, .none, kV, doc, pm, an, cdv, ct, osl, rfl, lk, cd⟩⟩
  exact ⟨_, F, He.glo_ok X G (fact c 187 (f := .glo "drop") rfl), He.keep_ok (fact c 188 (f := .keep "drop") rfl), F.binds rfl fun _ _ _ _ _ _ us hl => match us, hl with | [_, _, _], _ => rfl⟩
theorem at_slim (X : K.In h) (G : h.Ns mainGlobals mg) (s : seen K = true) (e : defsAt K) : ∃ fd, At K mg "slim" s_slim ["desk"] (ga K "slim") fd := by
  obtain ⟨c, cc⟩ := He.ba (He.ba s).1
  obtain ⟨oc, od, osl, kV, doc, pm, an, cdv, ct, lk, cd⟩ := defd cc e 53 rfl
  have F : C8.Fun K "slim" "slim" s_slim (ga K "slim") _ := ⟨⟨oc, od, .none, kV, doc, pm, an, cdv, ct, osl, rfl, lk, cd⟩⟩
  exact ⟨_, F, He.glo_ok X G (fact c 189 (f := .glo "slim") rfl), He.keep_ok (fact c 190 (f := .keep "slim") rfl), F.binds rfl fun _ _ _ _ _ _ us hl => match us, hl with | [_], _ => rfl⟩
theorem at_joint (X : K.In h) (G : h.Ns mainGlobals mg) (s : seen K = true) (e : defsAt K) : ∃ fd, At K mg "joint" s_joint ["listing", "row"] (ga K "joint") fd := by
  obtain ⟨c, cc⟩ := He.ba (He.ba s).1
  obtain ⟨oc, od, osl, kV, doc, pm, an, cdv, ct, lk, cd⟩ := defd cc e 54 rfl
  have F : C8.Fun K "joint" "joint" s_joint (ga K "joint") _ := ⟨⟨oc, od, .none, kV, doc, pm, an, cdv, ct, osl, rfl, lk, cd⟩⟩
  exact ⟨_, F, He.glo_ok X G (fact c 191 (f := .glo "joint") rfl), He.keep_ok (fact c 192 (f := .keep "joint") rfl), F.binds rfl fun _ _ _ _ _ _ us hl => match us, hl with | [_, _], _ => rfl⟩
theorem at_line_break (X : K.In h) (G : h.Ns mainGlobals mg) (s : seen K = true) (e : defsAt K) : ∃ fd, At K mg "line_break" s_line_break ["listing", "places", "row"] (ga K "line_break") fd := by
  obtain ⟨c, cc⟩ := He.ba (He.ba s).1
  obtain ⟨oc, od, osl, kV, doc, pm, an, cdv, ct, lk, cd⟩ := defd cc e 55 rfl
  have F : C8.Fun K "line_break" "line_break" s_line_break (ga K "line_break") _ := ⟨⟨oc, od, .none, kV, doc, pm, an, cdv, ct, osl, rfl, lk, cd⟩⟩
  exact ⟨_, F, He.glo_ok X G (fact c 193 (f := .glo "line_break") rfl), He.keep_ok (fact c 194 (f := .keep "line_break") rfl), F.binds rfl fun _ _ _ _ _ _ us hl => match us, hl with | [_, _, _], _ => rfl⟩
theorem at_listed_answer (X : K.In h) (G : h.Ns mainGlobals mg) (s : seen K = true) (e : defsAt K) : ∃ fd, At K mg "listed_answer" s_listed_answer ["desk", "call"] (ga K "listed_answer") fd := by
  obtain ⟨c, cc⟩ := He.ba (He.ba s).1
  obtain ⟨oc, od, osl, kV, doc, pm, an, cdv, ct, lk, cd⟩ := defd cc e 56 rfl
  have F : C8.Fun K "listed_answer" "listed_answer" s_listed_answer (ga K "listed_answer") _ := ⟨⟨oc, od, .none, kV, doc, pm, an, cdv, ct, osl, rfl, lk, cd⟩⟩
  exact ⟨_, F, He.glo_ok X G (fact c 195 (f := .glo "listed_answer") rfl), He.keep_ok (fact c 196 (f := .keep "listed_answer") rfl), F.binds rfl fun _ _ _ _ _ _ us hl => match us, hl with | [_, _], _ => rfl⟩
theorem at_answer (X : K.In h) (G : h.Ns mainGlobals mg) (s : seen K = true) (e : defsAt K) : ∃ fd, At K mg "answer" s_answer ["desk", "call"] (ga K "answer") fd := by
  obtain ⟨c, cc⟩ := He.ba (He.ba s).1
  obtain ⟨oc, od, osl, kV, doc, pm, an, cdv, ct, lk, cd⟩ := defd cc e 57 rfl
  have F : C8.Fun K "answer" "answer" s_answer (ga K "answer") _ := ⟨⟨oc, od, .none, kV, doc, pm, an, cdv, ct, osl, rfl, lk, cd⟩⟩
  exact ⟨_, F, He.glo_ok X G (fact c 197 (f := .glo "answer") rfl), He.keep_ok (fact c 198 (f := .keep "answer") rfl), F.binds rfl fun _ _ _ _ _ _ us hl => match us, hl with | [_, _], _ => rfl⟩
theorem at_split_calls (X : K.In h) (G : h.Ns mainGlobals mg) (s : seen K = true) (e : defsAt K) : ∃ fd, At K mg "split_calls" s_split_calls ["calls"] (ga K "split_calls") fd := by
  obtain ⟨c, cc⟩ := He.ba (He.ba s).1
  obtain ⟨oc, od, osl, kV, doc, pm, an, cdv, ct, lk, cd⟩ := defd cc e 58 rfl
  have F : C8.Fun K "split_calls" "split_calls" s_split_calls (ga K "split_calls") _ := ⟨⟨oc, od, .none, kV, doc, pm, an, cdv, ct, osl, rfl, lk, cd⟩⟩
  exact ⟨_, F, He.glo_ok X G (fact c 199 (f := .glo "split_calls") rfl), He.keep_ok (fact c 200 (f := .keep "split_calls") rfl), F.binds rfl fun _ _ _ _ _ _ us hl => match us, hl with | [_], _ => rfl⟩
theorem at_answers (X : K.In h) (G : h.Ns mainGlobals mg) (s : seen K = true) (e : defsAt K) : ∃ fd, At K mg "answers" s_answers ["calls"] (ga K "answers") fd := by
  obtain ⟨c, cc⟩ := He.ba (He.ba s).1
  obtain ⟨oc, od, osl, kV, doc, pm, an, cdv, ct, lk, cd⟩ := defd cc e 59 rfl
  have F : C8.Fun K "answers" "answers" s_answers (ga K "answers") _ := ⟨⟨oc, od, .none, kV, doc, pm, an, cdv, ct, osl, rfl, lk, cd⟩⟩
  exact ⟨_, F, He.glo_ok X G (fact c 201 (f := .glo "answers") rfl), He.keep_ok (fact c 202 (f := .keep "answers") rfl), F.binds rfl fun _ _ _ _ _ _ us hl => match us, hl with | [_], _ => rfl⟩
theorem at_Word (X : K.In h) (G : h.Ns mainGlobals mg) (s : seen K = true) (e : defsAt K) : ∃ fd, AtC K mg "Word" "Word.__init__" (adr K).Word s_Word_init ["self", "chunk", "letters", "gaps"] (ma K (ga K "Word") "__init__") fd := by
  obtain ⟨c, cc⟩ := He.ba (He.ba s).1
  obtain ⟨oc, od, osl, kV, doc, pm, an, cdv, ct, lk, cd⟩ := defd cc e 60 rfl
  have F : C8.Fun K "__init__" "Word.__init__" s_Word_init (ma K (ga K "Word") "__init__") _ := ⟨⟨oc, od, .none, kV, doc, pm, an, cdv, ct, osl, rfl, lk, cd⟩⟩
  exact ⟨_, F, He.mkr_ok (fact c 52 (f := .mkr "Word") rfl), He.glo_ok X G (fact c 45 (f := .glo "Word") rfl), F.binds rfl fun _ _ _ _ _ _ us hl => match us, hl with | [_, _, _, _], _ => rfl⟩
theorem at_Pattern (X : K.In h) (G : h.Ns mainGlobals mg) (s : seen K = true) (e : defsAt K) : ∃ fd, AtC K mg "Pattern" "Pattern.__init__" (adr K).Pattern s_Pattern_init ["self", "chunk", "letters", "digits", "first", "last"] (ma K (ga K "Pattern") "__init__") fd := by
  obtain ⟨c, cc⟩ := He.ba (He.ba s).1
  obtain ⟨oc, od, osl, kV, doc, pm, an, cdv, ct, lk, cd⟩ := defd cc e 61 rfl
  have F : C8.Fun K "__init__" "Pattern.__init__" s_Pattern_init (ma K (ga K "Pattern") "__init__") _ := ⟨⟨oc, od, .none, kV, doc, pm, an, cdv, ct, osl, rfl, lk, cd⟩⟩
  exact ⟨_, F, He.mkr_ok (fact c 58 (f := .mkr "Pattern") rfl), He.glo_ok X G (fact c 46 (f := .glo "Pattern") rfl), F.binds rfl fun _ _ _ _ _ _ us hl => match us, hl with | [_, _, _, _, _, _], _ => rfl⟩
theorem at_Listing (X : K.In h) (G : h.Ns mainGlobals mg) (s : seen K = true) (e : defsAt K) : ∃ fd, AtC K mg "Listing" "Listing.__init__" (adr K).Listing s_Listing_init ["self", "left", "right", "words", "patterns"] (ma K (ga K "Listing") "__init__") fd := by
  obtain ⟨c, cc⟩ := He.ba (He.ba s).1
  obtain ⟨oc, od, osl, kV, doc, pm, an, cdv, ct, lk, cd⟩ := defd cc e 62 rfl
  have F : C8.Fun K "__init__" "Listing.__init__" s_Listing_init (ma K (ga K "Listing") "__init__") _ := ⟨⟨oc, od, .none, kV, doc, pm, an, cdv, ct, osl, rfl, lk, cd⟩⟩
  exact ⟨_, F, He.mkr_ok (fact c 66 (f := .mkr "Listing") rfl), He.glo_ok X G (fact c 47 (f := .glo "Listing") rfl), F.binds rfl fun _ _ _ _ _ _ us hl => match us, hl with | [_, _, _, _, _], _ => rfl⟩
theorem at_Reader (X : K.In h) (G : h.Ns mainGlobals mg) (s : seen K = true) (e : defsAt K) : ∃ fd, AtC K mg "Reader" "Reader.__init__" (adr K).Reader s_Reader_init ["self", "text"] (ma K (ga K "Reader") "__init__") fd := by
  obtain ⟨c, cc⟩ := He.ba (He.ba s).1
  obtain ⟨oc, od, osl, kV, doc, pm, an, cdv, ct, lk, cd⟩ := defd cc e 63 rfl
  have F : C8.Fun K "__init__" "Reader.__init__" s_Reader_init (ma K (ga K "Reader") "__init__") _ := ⟨⟨oc, od, .none, kV, doc, pm, an, cdv, ct, osl, rfl, lk, cd⟩⟩
  exact ⟨_, F, He.mkr_ok (fact c 72 (f := .mkr "Reader") rfl), He.glo_ok X G (fact c 48 (f := .glo "Reader") rfl), F.binds rfl fun _ _ _ _ _ _ us hl => match us, hl with | [_, _], _ => rfl⟩
theorem at_Reader_here (X : K.In h) (G : h.Ns mainGlobals mg) (s : seen K = true) (e : defsAt K) : ∃ fd, AtM K (adr K).Reader "here" "Reader.here" s_Reader_here ["self"] (ma K (ga K "Reader") "here") fd := by
  obtain ⟨c, cc⟩ := He.ba (He.ba s).1
  obtain ⟨oc, od, osl, kV, doc, pm, an, cdv, ct, lk, cd⟩ := defd cc e 64 rfl
  have F : C8.Fun K "here" "Reader.here" s_Reader_here (ma K (ga K "Reader") "here") _ := ⟨⟨oc, od, .none, kV, doc, pm, an, cdv, ct, osl, rfl, lk, cd⟩⟩
  exact ⟨_, F, He.meth_ok (fact c 75 (f := .meth "Reader" "here") rfl), F.binds rfl fun _ _ _ _ _ _ us hl => match us, hl with | [_], _ => rfl⟩
theorem at_Reader_signs (X : K.In h) (G : h.Ns mainGlobals mg) (s : seen K = true) (e : defsAt K) : ∃ fd, AtM K (adr K).Reader "signs" "Reader.signs" s_Reader_signs ["self"] (ma K (ga K "Reader") "signs") fd := by
  obtain ⟨c, cc⟩ := He.ba (He.ba s).1
  obtain ⟨oc, od, osl, kV, doc, pm, an, cdv, ct, lk, cd⟩ := defd cc e 65 rfl
  have F : C8.Fun K "signs" "Reader.signs" s_Reader_signs (ma K (ga K "Reader") "signs") _ := ⟨⟨oc, od, .none, kV, doc, pm, an, cdv, ct, osl, rfl, lk, cd⟩⟩
  exact ⟨_, F, He.meth_ok (fact c 76 (f := .meth "Reader" "signs") rfl), F.binds rfl fun _ _ _ _ _ _ us hl => match us, hl with | [_], _ => rfl⟩
theorem at_Reader_go_on (X : K.In h) (G : h.Ns mainGlobals mg) (s : seen K = true) (e : defsAt K) : ∃ fd, AtM K (adr K).Reader "go_on" "Reader.go_on" s_Reader_go_on ["self"] (ma K (ga K "Reader") "go_on") fd := by
  obtain ⟨c, cc⟩ := He.ba (He.ba s).1
  obtain ⟨oc, od, osl, kV, doc, pm, an, cdv, ct, lk, cd⟩ := defd cc e 66 rfl
  have F : C8.Fun K "go_on" "Reader.go_on" s_Reader_go_on (ma K (ga K "Reader") "go_on") _ := ⟨⟨oc, od, .none, kV, doc, pm, an, cdv, ct, osl, rfl, lk, cd⟩⟩
  exact ⟨_, F, He.meth_ok (fact c 77 (f := .meth "Reader" "go_on") rfl), F.binds rfl fun _ _ _ _ _ _ us hl => match us, hl with | [_], _ => rfl⟩
theorem at_Reader_take (X : K.In h) (G : h.Ns mainGlobals mg) (s : seen K = true) (e : defsAt K) : ∃ fd, AtM K (adr K).Reader "take" "Reader.take" s_Reader_take ["self", "signs"] (ma K (ga K "Reader") "take") fd := by
  obtain ⟨c, cc⟩ := He.ba (He.ba s).1
  obtain ⟨oc, od, osl, kV, doc, pm, an, cdv, ct, lk, cd⟩ := defd cc e 67 rfl
  have F : C8.Fun K "take" "Reader.take" s_Reader_take (ma K (ga K "Reader") "take") _ := ⟨⟨oc, od, .none, kV, doc, pm, an, cdv, ct, osl, rfl, lk, cd⟩⟩
  exact ⟨_, F, He.meth_ok (fact c 78 (f := .meth "Reader" "take") rfl), F.binds rfl fun _ _ _ _ _ _ us hl => match us, hl with | [_, _], _ => rfl⟩
theorem at_Reader_chunk_here (X : K.In h) (G : h.Ns mainGlobals mg) (s : seen K = true) (e : defsAt K) : ∃ fd, AtM K (adr K).Reader "chunk_here" "Reader.chunk_here" s_Reader_chunk_here ["self"] (ma K (ga K "Reader") "chunk_here") fd := by
  obtain ⟨c, cc⟩ := He.ba (He.ba s).1
  obtain ⟨oc, od, osl, kV, doc, pm, an, cdv, ct, lk, cd⟩ := defd cc e 68 rfl
  have F : C8.Fun K "chunk_here" "Reader.chunk_here" s_Reader_chunk_here (ma K (ga K "Reader") "chunk_here") _ := ⟨⟨oc, od, .none, kV, doc, pm, an, cdv, ct, osl, rfl, lk, cd⟩⟩
  exact ⟨_, F, He.meth_ok (fact c 79 (f := .meth "Reader" "chunk_here") rfl), F.binds rfl fun _ _ _ _ _ _ us hl => match us, hl with | [_], _ => rfl⟩
theorem at_Desk (X : K.In h) (G : h.Ns mainGlobals mg) (s : seen K = true) (e : defsAt K) : ∃ fd, AtC K mg "Desk" "Desk.__init__" (adr K).Desk s_Desk_init ["self"] (ma K (ga K "Desk") "__init__") fd := by
  obtain ⟨c, cc⟩ := He.ba (He.ba s).1
  obtain ⟨oc, od, osl, kV, doc, pm, an, cdv, ct, lk, cd⟩ := defd cc e 69 rfl
  have F : C8.Fun K "__init__" "Desk.__init__" s_Desk_init (ma K (ga K "Desk") "__init__") _ := ⟨⟨oc, od, .none, kV, doc, pm, an, cdv, ct, osl, rfl, lk, cd⟩⟩
  exact ⟨_, F, He.mkr_ok (fact c 81 (f := .mkr "Desk") rfl), He.glo_ok X G (fact c 49 (f := .glo "Desk") rfl), F.binds rfl fun _ _ _ _ _ _ us hl => match us, hl with | [_], _ => rfl⟩
theorem bt_answers (X : K.In h) (G : h.Ns mainGlobals mg) (s : seen K = true) (e : defsAt K) : ∃ fd, At K mg "answers" s_answers ["calls"] (ga K "answers") fd ∧ ∀ (s : Shared) (us : List Value), us.length = (["calls"] : List Str).length → BindsTo s fd ⟨us, []⟩ ((["calls"] : List Str).zip us) := by
  obtain ⟨c, cc⟩ := He.ba (He.ba s).1
  obtain ⟨oc, od, osl, kV, doc, pm, an, cdv, ct, lk, cd⟩ := defd cc e 59 rfl
  have F : C8.Fun K "answers" "answers" s_answers (ga K "answers") _ := ⟨⟨oc, od, .none, kV, doc, pm, an, cdv, ct, osl, rfl, lk, cd⟩⟩
  exact ⟨_, ⟨F, He.glo_ok X G (fact c 201 (f := .glo "answers") rfl), He.keep_ok (fact c 202 (f := .keep "answers") rfl), F.binds rfl fun _ _ _ _ _ _ us hl => match us, hl with | [_], _ => rfl⟩, fun s us hu => match us, hu with | [_], _ => .of_eq rfl⟩
end
end Pw
set_option Elab.async false
set_option linter.all false
set_option maxRecDepth 100000
set_option maxHeartbeats 4000000
/-! Each def keeps its promise, one behind another. Printed by tools/gen_chain.py. -/
namespace Pw
open PySem PySem.Spec PyProof.Rows L2
theorem calAt_of {P : Program} {w : World} {K : PySem.W.Frag} {mg : Str → Option Value} {base : Heap} {k : Nat} {x : Str} {sp : Sp} {f : Addr} (c : C8.Cal P w K mg base k x sp []) (h : mg x = some (.ref f)) : C8.CalAt P w K mg base k f sp := by
  obtain ⟨f', fd, ps, ds, F, hm, kp, b, d⟩ := c.ex
  rw [h] at hm
  cases hm
  cases d
  exact ⟨fd, ps, F, kp, b⟩
theorem chain {P : Program} {w : World} {K : PySem.W.Frag} {h : Heap} {mg : Str → Option Value} (X : K.In h) (G : h.Ns mainGlobals mg) (s : seen K = true) (e : defsAt K) (x : excAt K (adr K).Fault) {gs : List V} (hgs : KT K (adr K).t_GIVEN gs) (hgo : GivOk K gs) :
    ∃ fd : FuncData, (∀ (s : Shared) (us : List Value), us.length = (["calls"] : List Str).length → BindsTo s fd ⟨us, []⟩ ((["calls"] : List Str).zip us)) ∧ ∀ base : Heap, FnOk P w K mg base C8.CX0 21 (He.ga K "answers") fd ["calls"] (spAnswers K) := by
  have T := txt_of X G s e x
  obtain ⟨fd, a_answers, hb⟩ := bt_answers X G s e
  refine ⟨fd, hb, fun base => ?_⟩
  obtain ⟨_, a_chunk_sign⟩ := at_chunk_sign X G s e
  have d_chunk_sign := ok_chunk_sign (P := P) (w := w) (base := base) T a_chunk_sign
  obtain ⟨_, a_after_remark⟩ := at_after_remark X G s e
  have d_after_remark := ok_after_remark (P := P) (w := w) (base := base) T a_after_remark
  obtain ⟨_, a_after_blanks⟩ := at_after_blanks X G s e
  have d_after_blanks := ok_after_blanks (P := P) (w := w) (base := base) T a_after_blanks d_after_remark
  obtain ⟨_, a_chunk_at⟩ := at_chunk_at X G s e
  have d_chunk_at := ok_chunk_at (P := P) (w := w) (base := base) T a_chunk_at d_chunk_sign
  obtain ⟨_, a_token_at⟩ := at_token_at X G s e
  have d_token_at := ok_token_at (P := P) (w := w) (base := base) T a_token_at d_chunk_at
  obtain ⟨_, a_tokens_of⟩ := at_tokens_of X G s e
  have d_tokens_of := ok_tokens_of (P := P) (w := w) (base := base) T a_tokens_of d_after_blanks d_token_at
  obtain ⟨_, a_Word⟩ := at_Word X G s e
  have mk_Word := ok_Word (P := P) (w := w) (base := base) T a_Word
  obtain ⟨_, a_Pattern⟩ := at_Pattern X G s e
  have mk_Pattern := ok_Pattern (P := P) (w := w) (base := base) T a_Pattern
  obtain ⟨_, a_Listing⟩ := at_Listing X G s e
  have mk_Listing := ok_Listing (P := P) (w := w) (base := base) T a_Listing
  obtain ⟨_, a_is_word_long⟩ := at_is_word_long X G s e
  have d_is_word_long := ok_is_word_long (P := P) (w := w) (base := base) T a_is_word_long
  obtain ⟨_, a_word_of⟩ := at_word_of X G s e
  have d_word_of := ok_word_of (P := P) (w := w) (base := base) T a_word_of d_is_word_long mk_Word
  have v_word_of : ∃ u, mg "word_of" = some u ∧ RelV (.ref (He.ga K "word_of")) u := ⟨_, a_word_of.mgf, rfl⟩
  have c_word := calAt_of d_word_of a_word_of.mgf
  obtain ⟨_, a_without_points⟩ := at_without_points X G s e
  have d_without_points := ok_without_points (P := P) (w := w) (base := base) T a_without_points
  obtain ⟨_, a_pattern_of⟩ := at_pattern_of X G s e
  have d_pattern_of := ok_pattern_of (P := P) (w := w) (base := base) T a_pattern_of d_without_points mk_Pattern
  have v_pattern_of : ∃ u, mg "pattern_of" = some u ∧ RelV (.ref (He.ga K "pattern_of")) u := ⟨_, a_pattern_of.mgf, rfl⟩
  have c_pat := calAt_of d_pattern_of a_pattern_of.mgf
  obtain ⟨_, a_number_of⟩ := at_number_of X G s e
  have d_number_of := ok_number_of (P := P) (w := w) (base := base) T a_number_of
  obtain ⟨_, a_one_form⟩ := at_one_form X G s e
  have d_one_form := ok_one_form (P := P) (w := w) (base := base) T a_one_form
  obtain ⟨_, a_fits_at⟩ := at_fits_at X G s e
  have d_fits_at := ok_fits_at (P := P) (w := w) (base := base) T a_fits_at
  obtain ⟨_, a_fitting_places⟩ := at_fitting_places X G s e
  have d_fitting_places := ok_fitting_places (P := P) (w := w) (base := base) T a_fitting_places d_fits_at
  obtain ⟨_, a_fitting_patterns⟩ := at_fitting_patterns X G s e
  have d_fitting_patterns := ok_fitting_patterns (P := P) (w := w) (base := base) T a_fitting_patterns d_fitting_places
  obtain ⟨_, a_levels⟩ := at_levels X G s e
  have d_levels := ok_levels (P := P) (w := w) (base := base) T a_levels d_fitting_places
  obtain ⟨_, a_greatest_level⟩ := at_greatest_level X G s e
  have d_greatest_level := ok_greatest_level (P := P) (w := w) (base := base) T a_greatest_level d_levels
  obtain ⟨_, a_odd_gaps⟩ := at_odd_gaps X G s e
  have d_odd_gaps := ok_odd_gaps (P := P) (w := w) (base := base) T a_odd_gaps d_levels
  obtain ⟨_, a_within⟩ := at_within X G s e
  have d_within := ok_within (P := P) (w := w) (base := base) T a_within
  obtain ⟨_, a_parted_gaps⟩ := at_parted_gaps X G s e
  have d_parted_gaps := ok_parted_gaps (P := P) (w := w) (base := base) T a_parted_gaps d_odd_gaps d_within
  obtain ⟨_, a_held_against⟩ := at_held_against X G s e
  have d_held_against := ok_held_against (P := P) (w := w) (base := base) T a_held_against d_within
  obtain ⟨_, a_wrongs⟩ := at_wrongs X G s e
  have d_wrongs := ok_wrongs (P := P) (w := w) (base := base) T a_wrongs d_held_against
  obtain ⟨_, a_tried_margins⟩ := at_tried_margins X G s e
  have d_tried_margins := ok_tried_margins (P := P) (w := w) (base := base) T a_tried_margins d_odd_gaps d_wrongs
  obtain ⟨_, a_Reader⟩ := at_Reader X G s e
  have mk_Reader := ok_Reader (P := P) (w := w) (base := base) T a_Reader d_tokens_of
  obtain ⟨_, a_here⟩ := at_Reader_here X G s e
  have m_here := ok_here (P := P) (w := w) (base := base) T a_here
  obtain ⟨_, a_signs⟩ := at_Reader_signs X G s e
  have m_signs := ok_signs (P := P) (w := w) (base := base) T a_signs
  obtain ⟨_, a_go_on⟩ := at_Reader_go_on X G s e
  have m_go_on := ok_go_on (P := P) (w := w) (base := base) T a_go_on
  obtain ⟨_, a_take⟩ := at_Reader_take X G s e
  have m_take := ok_take (P := P) (w := w) (base := base) T a_take m_signs m_here m_go_on
  obtain ⟨_, a_chunk_here⟩ := at_Reader_chunk_here X G s e
  have m_chunk_here := ok_chunk_here (P := P) (w := w) (base := base) T a_chunk_here m_signs m_here
  obtain ⟨_, a_read_margin⟩ := at_read_margin X G s e
  have d_read_margin := ok_read_margin (P := P) (w := w) (base := base) T a_read_margin m_chunk_here m_here m_go_on
  obtain ⟨_, a_read_entry⟩ := at_read_entry X G s e
  have d_read_entry := ok_read_entry (P := P) (w := w) (base := base) T (wEK T (He.ga K "word_of") (He.ga K "pattern_of")) a_read_entry c_word c_pat m_take m_chunk_here m_here m_go_on d_number_of
  have d_read_entryP := ok_read_entry (P := P) (w := w) (base := base) T (pEK T (He.ga K "word_of") (He.ga K "pattern_of")) a_read_entry c_word c_pat m_take m_chunk_here m_here m_go_on d_number_of
  obtain ⟨_, a_read_entries⟩ := at_read_entries X G s e
  have d_read_entries := ok_read_entries (P := P) (w := w) (base := base) T (wEK T (He.ga K "word_of") (He.ga K "pattern_of")) a_read_entries m_signs m_here d_read_entry
  have d_read_entriesP := ok_read_entries (P := P) (w := w) (base := base) T (pEK T (He.ga K "word_of") (He.ga K "pattern_of")) a_read_entries m_signs m_here d_read_entryP
  obtain ⟨_, a_read_list⟩ := at_read_list X G s e
  have d_read_list := ok_read_list (P := P) (w := w) (base := base) T a_read_list v_word_of v_pattern_of mk_Reader m_take d_read_margin d_read_entries d_read_entriesP mk_Listing
  obtain ⟨_, a_read_item⟩ := at_read_item X G s e
  have d_read_item := ok_read_item (P := P) (w := w) (base := base) T a_read_item v_word_of v_pattern_of mk_Reader m_take m_signs d_read_entry d_read_entryP
  obtain ⟨_, a_with_entry⟩ := at_with_entry X G s e
  have d_with_entry := ok_with_entry (P := P) (w := w) (base := base) T a_with_entry d_number_of
  obtain ⟨_, a_with_item⟩ := at_with_item X G s e
  have d_with_item := ok_with_item (P := P) (w := w) (base := base) T a_with_item d_with_entry mk_Listing
  obtain ⟨_, a_is_too_long⟩ := at_is_too_long X G s e
  have d_is_too_long := ok_is_too_long (P := P) (w := w) (base := base) T a_is_too_long
  obtain ⟨_, a_is_touched⟩ := at_is_touched X G s e
  have d_is_touched := ok_is_touched (P := P) (w := w) (base := base) T a_is_touched d_number_of d_parted_gaps
  obtain ⟨_, a_touched⟩ := at_touched X G s e
  have d_touched := ok_touched (P := P) (w := w) (base := base) T a_touched d_is_touched
  obtain ⟨_, a_counted⟩ := at_counted X G s e
  have d_counted := ok_counted (P := P) (w := w) (base := base) T a_counted
  obtain ⟨_, a_has_number⟩ := at_has_number X G s e
  have d_has_number := ok_has_number (P := P) (w := w) (base := base) T a_has_number
  obtain ⟨_, a_load⟩ := at_load X G s e
  have d_load := ok_load (P := P) (w := w) (base := base) T a_load d_read_list
  obtain ⟨_, a_shown⟩ := at_shown X G s e
  have d_shown := ok_shown (P := P) (w := w) (base := base) T a_shown d_one_form d_counted
  obtain ⟨_, a_become⟩ := at_become X G s e
  have d_become := ok_become (P := P) (w := w) (base := base) T a_become d_touched d_counted
  obtain ⟨_, a_put⟩ := at_put X G s e
  have d_put := ok_put (P := P) (w := w) (base := base) T a_put d_read_item d_with_item d_is_too_long d_become
  obtain ⟨_, a_report⟩ := at_report X G s e
  have d_report := ok_report (P := P) (w := w) (base := base) T a_report d_odd_gaps d_held_against d_greatest_level d_fitting_patterns d_has_number d_counted
  obtain ⟨_, a_split_calls⟩ := at_split_calls X G s e
  have d_split_calls := ok_split_calls (P := P) (w := w) (base := base) T a_split_calls hgs hgo
  obtain ⟨_, a_Desk⟩ := at_Desk X G s e
  have mk_Desk := ok_Desk (P := P) (w := w) (base := base) T a_Desk
  obtain ⟨_, a_without_entry⟩ := at_without_entry X G s e
  have d_without_entry := ok_without_entry (P := P) (w := w) (base := base) T a_without_entry
  obtain ⟨_, a_without_word⟩ := at_without_word X G s e
  have d_without_word := ok_without_word (P := P) (w := w) (base := base) T a_without_word d_without_entry mk_Listing
  obtain ⟨_, a_without_pattern⟩ := at_without_pattern X G s e
  have d_without_pattern := ok_without_pattern (P := P) (w := w) (base := base) T a_without_pattern d_without_entry mk_Listing
  obtain ⟨_, a_is_listed⟩ := at_is_listed X G s e
  have d_is_listed := ok_is_listed (P := P) (w := w) (base := base) T a_is_listed d_number_of
  obtain ⟨_, a_joints⟩ := at_joints X G s e
  have d_joints := ok_joints (P := P) (w := w) (base := base) T a_joints d_is_listed
  obtain ⟨_, a_parted_as_two⟩ := at_parted_as_two X G s e
  have d_parted_as_two := ok_parted_as_two (P := P) (w := w) (base := base) T a_parted_as_two d_parted_gaps
  obtain ⟨_, a_breaking_gaps⟩ := at_breaking_gaps X G s e
  have d_breaking_gaps := ok_breaking_gaps (P := P) (w := w) (base := base) T a_breaking_gaps d_parted_gaps
  obtain ⟨_, a_read_letters⟩ := at_read_letters X G s e
  have d_read_letters := ok_read_letters (P := P) (w := w) (base := base) T a_read_letters d_chunk_at d_is_word_long
  obtain ⟨_, a_partings⟩ := at_partings X G s e
  have d_partings := ok_partings (P := P) (w := w) (base := base) T a_partings d_parted_gaps
  obtain ⟨_, a_needless_patterns⟩ := at_needless_patterns X G s e
  have d_needless_patterns := ok_needless_patterns (P := P) (w := w) (base := base) T a_needless_patterns d_partings d_without_pattern
  obtain ⟨_, a_gone_through⟩ := at_gone_through X G s e
  have d_gone_through := ok_gone_through (P := P) (w := w) (base := base) T a_gone_through d_without_pattern d_partings
  obtain ⟨_, a_slimmed⟩ := at_slimmed X G s e
  have d_slimmed := ok_slimmed (P := P) (w := w) (base := base) T a_slimmed d_partings d_gone_through
  obtain ⟨_, a_drop⟩ := at_drop X G s e
  have d_drop := ok_drop (P := P) (w := w) (base := base) T a_drop d_has_number d_become d_without_word d_without_pattern
  obtain ⟨_, a_slim⟩ := at_slim X G s e
  have d_slim := ok_slim (P := P) (w := w) (base := base) T a_slim d_slimmed
  obtain ⟨_, a_joint⟩ := at_joint X G s e
  have d_joint := ok_joint (P := P) (w := w) (base := base) T a_joint d_read_letters d_joints d_counted d_parted_as_two d_parted_gaps
  obtain ⟨_, a_line_break⟩ := at_line_break X G s e
  have d_line_break := ok_line_break (P := P) (w := w) (base := base) T a_line_break d_read_letters d_breaking_gaps
  obtain ⟨_, a_listed_answer⟩ := at_listed_answer X G s e
  have d_listed_answer := ok_listed_answer (P := P) (w := w) (base := base) T a_listed_answer d_shown d_report d_tried_margins d_put d_drop d_needless_patterns d_counted d_slim d_joint d_line_break
  obtain ⟨_, a_answer⟩ := at_answer X G s e
  have d_answer := ok_answer (P := P) (w := w) (base := base) T a_answer d_load d_listed_answer
  exact ok_answers (P := P) (w := w) (base := base) T a_answers mk_Desk d_split_calls d_answer
end Pw
set_option Elab.async false
set_option linter.all false
set_option maxRecDepth 100000
set_option maxHeartbeats 4000000
/-! The end: what the head asks for. -/
namespace Pw
open PySem PySem.Spec PyProof.Rows L2
theorem asked_sp {K : PySem.W.Frag} {H : Hp} {ad : Addr} {l : List Int} {Q : VK} {E : XK} (hS : SqL K H ad (l.map V.int)) (hlen : l.length ≤ 17000) (hask : PyVahypz.answers_asked l = true)
    (k : ∀ (H' : Hp) (r : Addr), H' r = some (.lst ((PyVahypz.answers l).map V.int)) → Q (.ref r) H') : spAnswers K [.ref ad] H Q E := by
  obtain ⟨cs, h1, h2, h3, h4, h5⟩ := asked_ok hask
  refine ⟨ad, l, cs, rfl, hS, by omega, h1, h2, h3, h5, fun H' r _ _ h => k H' r ?_⟩
  rw [h4]
  exact h
theorem within_len {l : List Int} {lo hi : Int} (h : PySem.W.Codec.withinAll [.list 0 17000 (.int lo hi)] (l, ()) = true) : l.length ≤ 17000 := by
  have h1 := (Bool.and_eq_true_iff.mp (show (PySem.W.Codec.within (.list 0 17000 (.int lo hi)) l && _) = true from h)).1
  simp only [PySem.W.Codec.within, PySem.W.Codec.inList, PySem.W.Codec.inLen, PySem.W.Codec.inNat, Bool.and_eq_true, decide_eq_true_iff] at h1
  omega
theorem top_ok {P : Program} {w : World} {K : PySem.W.Frag} {h : Heap} {mg : Str → Option Value} {fa C : Addr} (X : K.In h) (G : h.Ns mainGlobals mg) (hfa : mg "answers" = some (.ref fa))
    {nm q : Str} {N : Addr} {bs : List Value} {sn : List Str} {sub : List Value} {ab : Bool} {col : Option Bool} {dd : Option Addr} {m0 m1 m2 m3 m5 : Option Value}
    (aC : PySem.W.nsIn K mainGlobals "Fault" = some (some (.ref C)))
    (xL : K.lookup C = some (excClassObj nm q C N bs FltX.exTail true sn sub ab col dd m0 m1 m2 m3 m5 "Exception.__new__"))
    (s : seen K = true) (e : defsAt K) :
    ∃ fd : FuncData, (∀ (s : Shared) (us : List Value), us.length = (["calls"] : List Str).length → BindsTo s fd ⟨us, []⟩ ((["calls"] : List Str).zip us)) ∧ ∀ base : Heap, K.In base → base.Ns mainGlobals mg → FnOk P w K mg base C8.CX0 21 fa fd ["calls"] (spAnswers K) := by
  have hC : (adr K).Fault = C := by
    show He.ga K "Fault" = C
    unfold He.ga
    rw [aC]
  have x : excAt K (adr K).Fault := by
    rw [hC]
    exact ⟨_, _, _, _, _, _, _, _, _, _, _, _, _, _, xL⟩
  have T := txt_of X G s e x
  obtain ⟨fd, hb, hF⟩ := chain (P := P) (w := w) X G s e x T.kt_GIVEN (giv_ok T)
  obtain ⟨_, a_answers, _⟩ := bt_answers X G s e
  have ef := hfa.symm.trans a_answers.mgf
  cases ef
  exact ⟨fd, hb, fun base _ _ => hF base⟩
end Pw
set_option Elab.async false
open PySem PySem.W PyProof.Rows
set_option maxRecDepth 100000 in
set_option maxHeartbeats 0 in
theorem PySem.Challenge.cw_partedwordsdesk_s01_answers_holds : PySem.Challenge.rw_partedwordsdesk_s01_answers.Holds := by
  w_on; k_headS; (case hw => exact ⟨[.list [.int 1]], by decide +kernel, by decide +kernel⟩)
  k_fillS
  refine L2.walk_specK (r := PySem.Challenge.rw_partedwordsdesk_s01_answers) (k := 21) (CX := L2.CX0) (ps := ["calls"]) (sp := Pw.spAnswers) (by decide +kernel) rfl rfl ⟨rfl, by decide, by decide⟩ (fun w h Y => PySem.W.kIn_of Y) ?F ?S (fun _ _ _ _ z => z)
  case F =>
    intro w mg fa h Y KX G hmg
    refine' Pw.top_ok KX G hmg ?aC ?xL ?qa ?qc
    (case aC => k_is)
    (case xL => k_is)
    (case qa => kernel_rfl)
    (case qc => show List.map _ _ = List.map _ _; kernel_rfl)
  case S =>
    intro K H xs a hO hwi hask hx
    cases hx with
    | cons h1 h2 =>
      cases h2
      cases h1 with
      | lst hs ha =>
        have e := L2.ints_dw a.1 _ ha
        subst e
        exact Pw.asked_sp hs (Pw.within_len hwi) hask fun H' p hp => .lst (L2.SqL.of hp) (L2.dw_ints _)
#print axioms PySem.Challenge.cw_partedwordsdesk_s01_answers_holds
